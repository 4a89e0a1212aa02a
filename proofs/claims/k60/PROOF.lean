import PyProof.Rows.All
import KE.KDictOf
import KE.KIntText
import KE.KRevIter
import KE.KSortAsk
import KE.KTryMore
import KE.KTurns
import KE.LcSums
import PySem.Challenge.RW_stitchroom_k60_rows_to_moves
set_option Elab.async false
set_option linter.all false
set_option maxRecDepth 100000
set_option maxHeartbeats 4000000
set_option bootstrap.genMatcherCode false
set_option compiler.extract_closed false
set_option genSizeOf false
def Xa:=@List.getElem?_eq_some_iff
def Xb:=@Option.map_eq_some_iff
def Xc:=@Option.bind_eq_some_iff
def Xd:=@List.mem_cons
def Xe:=@List.getElem?_set_ne
def Xf:=@List.not_mem_nil
def Xg:=@PySem.wpAny_bind
def Xh:=@Nat.le_refl
def Xi:=@List.mem_cons_of_mem
def Xj:=@PySem.Heap.get?_push_of_some
def Xk:=@List.getElem?_eq_getElem
def Xl:=@Bool.and_eq_true
def Xm:=@List.mem_cons_self
def Xn:=@List.length_append
def Xo:=@PySem.Heap.lt_size
def Xp:=@List.mem_of_getElem?
def Xq:=@List.size_toArray
def Xr:=@List.getElem?_set_self
def Xs:=@Bool.false_ne_true
def Xu:=@PySem.wpAny_pure
def Xv:=@List.all_eq_true
def Xw:=@decide_eq_true_eq
def Xy:=@or_false
def Xz:=@List.length_map
def X0:=@Nat.ne_of_lt
def X1:=@List.map_cons
def X2:=@PySem.Heap.get?_push_size
def X3:=@Nat.le_trans
def X4:=@Option.some.inj
def X5:=@List.getElem?_append_right
def X6:=@decide_eq_false
def X7:=@List.length_take
def X8:=@Ne.symm
def X9:=@List.take_of_length_le
def Wg:=@Nat.lt_of_lt_of_le
def Wh:=@List.mem_singleton
def Wi:=@List.getElem?_append_left
def Wj:=@List.length_cons
def Wl:=@List.take_add_one
def Wm:=@PyProof.Rows.callWith_type1
def Wn:=@List.map_append
def Wo:=@if_true
def Wp:=@List.mem_append
def Wq:=@List.mem_append_right
def Wr:=@List.mem_map
def Ws:=@Option.some.injEq
def Wt:=@decide_eq_true
def Wu:=@beq_eq_false_iff_ne
def Wv:=@List.append_assoc
def Ww:=@beq_iff_eq
def Wx:=@List.getElem?_of_mem
def Wy:=@PySem.wpAny_Call_Name_kw
def Wz:=@List.find?_cons
def W2:=@PySem.wpAny_mono
def W3:=@List.getElem?_eq_none
def W4:=@List.sum_append
def W5:=@Nat.zero_add
def W6:=@List.getElem?_map
def W7:=@PySem.Paired.length
def W8:=@Bool.false_eq_true
def W9:=@List.mem_of_mem_take
def Vl:=@List.getElem?_eq_none_iff
def Vm:=@List.length_replicate
def Vn:=@Nat.lt_succ_self
def Vo:=@List.lookup_cons
def Vq:=@List.eq_of_mem_replicate
def Vr:=@Bool.and_eq_true_iff
def Vs:=@List.flatten_cons
def Vt:=@of_decide_eq_true
def Vu:=@List.append_nil
def Vv:=@List.replicate_succ
def Vw:=@Nat.zero_le
def Vx:=@Nat.lt_irrefl
def Vy:=@Option.getD_some
def Vz:=@List.set_append_right
def V0:=@List.length_nil
def V1:=@List.map_nil
def V2:=@Bool.or_eq_true
def V3:=@PySem.wpAny_newObj_type
def V4:=@List.count_append
def V5:=@List.any_cons
def V6:=@List.count_eq_zero_of_not_mem
def V7:=@if_false
def V8:=@Nat.le_succ
def V9:=@Option.map_eq_none_iff
def Ua:=@List.map_replicate
def Ub:=@Option.map_some
def Uc:=@List.sum_cons
def Ud:=@PySem.Around.under_plainId
def Ue:=@List.count_le_length
def Uf:=@PySem.W.kia_one
def Ug:=@PySem.Heap.size_push
def Uh:=@List.take_length
def Ui:=@beq_self_eq_true
def Uj:=@PySem.mem_of_lookup
def Uk:=@PyProof.Rows.slot_tuple_getitem
def Ul:=@PySem.F.plainAttrs_list
def Um:=@PySem.wpAny_holding
def Uo:=@List.all_cons
def Up:=@PySem.Calls.spliced_cons
def Uq:=@PySem.tupleKind_room_in1
def Ur:=@Int.natCast_mul
def Ut:=@List.sum_replicate_nat
def Uu:=@PySem.Calls.spliced_nil
def Uv:=@Bool.not_eq_true'
def Uw:=@List.nodup_append
def Ux:=@List.length_range
def Uy:=@List.contains_iff_mem
def Uz:=@Nat.sub_self
def U0:=@List.map_map
def U1:=@PySem.call_meets
def U2:=@List.getElem?_zipIdx
def U3:=@Bool.true_and
def U4:=@List.map_congr_left
def U5:=@List.length_reverse
def U6:=@PySem.wpAny_passesOwn
def U7:=@Bool.eq_iff_iff
def U8:=@PySem.codeAny_builtin
def U9:=@List.count_cons
def Ta:=@Nat.le_of_eq
def Tb:=@Option.isSome_iff_exists
def Tc:=@PySem.F.slot_list_getattribute
def Td:=@Nat.add_zero
def Tf:=@List.length_zipIdx
def Th:=@List.filter_append
def Tj:=@List.getElem?_replicate
def Tn:=@List.reverse_cons
def To:=@PySem.wpAny_truthy_bool
def Tp:=@PySem.plainId_quiet
def Tq:=@Nat.le_of_not_lt
def Tr:=@List.getElem_mem
def Ts:=@PySem.F.slot_dict_get
def Tt:=@List.lookup_cons_self
def Tu:=@Iff.rfl
def Tv:=@List.length_filter_le
def Tw:=@List.take_append_drop
def Tx:=@PySem.codeAny_mono
def Tz:=@List.nodup_cons
def T0:=@List.foldl_cons
def T1:=@Nat.add_comm
def T2:=@PySem.wpAny_specialOf
def T3:=@List.filterMap_cons
def T4:=@Array.length_toList
def T5:=@List.mem_range
def T6:=@of_decide_eq_false
def T7:=@Int.mul_assoc
def T8:=@Bool.and_self
def Znn{α:Type}{P:Prop}{x:α}(h:(none:Option α)=some x):P:=nomatch h
namespace Iv
open PySem PySem.W PySem.Spec PyProof.Rows
variable {α β Y:Type}
noncomputable def YR(tb:String->Option Builtin)(p:Program)(w:World)(n₀:Nat)(ann:Option Value):Nat->SharedT->Thread->Option SharedT
 |0,_,_=>none
 |n+1,s,t=>match through t with
  |true=>some s
  |false=>match stepOk n₀ ann t with
   |false=>none
   |true=>match stepT (denote tb) p w s t with
    |some (s',t')=>YR tb p w n₀ ann n s' t'
    |none=>none
theorem Qaj:∀{n:Nat} {s s':SharedT} {t:Thread},YR tb p w n₀ ann n s t=some s'->topRun tb p w n₀ ann n s.abs t=some s'.abs
 |0,_,_,_,h=>by cases h
 |n+1,s,s',t,h=>by
  unfold YR at h;unfold topRun
  cases he:through t with
  |true=>rw[he]at h;cases h;rfl
  |false=>
   rw[he]at h
   cases hk:stepOk n₀ ann t with
   |false=>rw[hk]at h;cases h
   |true=>
    rw[hk]at h
    cases hs:stepT (denote tb) p w s t with
    |none=>rw[hs]at h;cases h
    |some r=>obtain⟨s₂,t₂⟩:=r;rw[hs]at h;rw[stepT_spec hs];exact Qaj h
structure BootT where
 t:Params->BT
 n:Nat
 life:Life
noncomputable def BootT.at(B:BootT)(w:World)(os:OsState):SharedT:=⟨B.t w.params,B.n,B.life,Array.mk [],boot_drawn,boot_toks,os⟩
noncomputable abbrev RunT(p q:Program)(loose:List Str)(Xt:Shared->Bool){α:Type}(Yf:Shared->α)(Ya:World->α)(N:Nat)(g0:Bool)(B:BootT)(m₀:Nat)(ann:Option Value)(w:World):Prop :=
 ∀os:OsState,(YR treeTable p w m₀ ann N (B.at w os) (topStub p)).map (λs=>((staticsOk (importedModules p.main.body) (boot_heap w.params) s.abs.heap&&namesBound p s.abs.heap&&gensDone s.abs&&laidKept (boot_heap w.params) s.abs.heap),openSeen q loose (importedModules p.main.body) Xt g0 s.abs,Yf s.abs))=some (true,openGood q loose,Ya w)
def left_tree
  (op:opening p=plainProg p.main.scope.names) (hN:Nat.ble 600 N=true) (fm:∀s,fenceModules? p s=some s)
  (hB:∀w:World,absHeap (B.t w.params) B.n B.life=boot_heap w.params)
  (size:∀w:World,((boot_heap w.params).isNs mainGlobals,(boot_heap w.params).objs.size,(boot_heap w.params).nsMap mainGlobals "__annotations__")=(true,m₀,ann))
  (run:∀w,RunT p q loose Xt Yf Ya N g0 B m₀ ann w):LeftO p q loose Xt Yf Ya N g0:=λw=>by
 obtain⟨⟨h,gs,d,k,os⟩,e,e'⟩:=Xb.mp (boot_open (N:=N) op hN fm w)
 obtain⟨rfl,rfl,rfl,rfl⟩:h=boot_heap w.params/\gs=Array.mk []/\d=boot_drawn/\k=boot_toks:=by simpa using e'
 obtain⟨z1,z2,z3⟩:_/\_/\_:=by simpa only[Prod.mk.injEq]using size w
 obtain⟨s1,r,l⟩:=Xb.mp (run w os)
 obtain⟨l1,l2,l3⟩:_/\_/\_:=by simpa only[Prod.mk.injEq]using l
 have r:=Qaj r
 have ab:(B.at w os).abs=⟨boot_heap w.params,Array.mk [],boot_drawn,boot_toks,os⟩:=by
  unfold BootT.at SharedT.abs;rw[hB w]
 rw[ab]at r
 have t:topFrom treeTable p w N ⟨boot_heap w.params,Array.mk [],boot_drawn,boot_toks,os⟩=some s1.abs:=by
  unfold topFrom;dsimp only;rw[z1,z2,z3,r]
  show(match staticsOk (importedModules p.main.body) (boot_heap w.params) s1.abs.heap&&namesBound p s1.abs.heap&&gensDone s1.abs&&laidKept (boot_heap w.params) s1.abs.heap with|true=>_|false=>_)=_
  rw[l1]
 unfold openEnds;rw[e];show(topFrom treeTable p w N _).map _=_;rw[t];exact congrArg some (Prod.ext l2 l3)
def Qdj{x:Option Y}{f:Y->α}{g:Y->β}{a:α}{b:β}(h1:x.map f=some a)(h2:x.map g=some b):x.map (λs=>(f s,g s))=some (a,b):=by
 cases x with
 |none=>cases h1
 |some s=>cases h1;cases h2;rfl
def QeY{x:Option Y}{f:Y->α×β}{a:α×β}(h1:x.map (λs=>(f s).1)=some a.1)(h2:x.map (λs=>(f s).2)=some a.2):x.map f=some a:=by
 cases x with
 |none=>cases h1
 |some s=>
  simp only[Ub,Ws]at h1 h2 ⊢;exact Prod.ext h1 h2
def QfV{γ δ τ:Type}{x:Option Y}{f:Y->α×β}{e:Y->τ×γ}{g:Y->δ}{a:α}{b:β}{c:γ}{d:δ}{t:τ}(h0:x.map e=some (t,c))(h1:x.map f=some (a,b))(h2:x.map g=some d):x.map (λs=>(e s).1)=some t/\x.map (λs=>((f s).1,(f s).2,(e s).2,g s))=some (a,b,c,d):=by
 cases x with
 |none=>cases h1
 |some s=>
  simp only[Ub,Ws]at h0 h1 h2 ⊢;rw[h0,h1,h2];exact⟨rfl,rfl⟩
section
variable (p q:Program)(loose:List Str)(Xt:Shared->Bool)(N:Nat)(g0:Bool)(B:BootT)(m₀:Nat)(ann:Option Value)
noncomputable abbrev QiU(w:World)(os:OsState):Option SharedT:=YR treeTable p w m₀ ann N (B.at w os) (topStub p)
def PAt(w:World):Prop:=∀os:OsState,(QiU p N B m₀ ann w os).map (λs=>(staticsOk (importedModules p.main.body) (boot_heap w.params) s.abs.heap&&namesBound p s.abs.heap&&gensDone s.abs&&laidKept (boot_heap w.params) s.abs.heap,tabsOk q s.abs))=some (true,true)
def PB1(w:World):Prop:=∀os:OsState,(QiU p N B m₀ ann w os).map (λs=>(openSeen q loose (importedModules p.main.body) Xt g0 s.abs).1)=some (openGood q loose).1
def PB2(w:World):Prop:=∀os:OsState,(QiU p N B m₀ ann w os).map (λz=>let s:=z.abs;(s.heap.bltView,s.heap.keysOk (looseW q loose) ((recsOf q).map (·.name)) ((litsOf q).map (·.1)) ((clssOf q (looseW q loose)).map (·.name))&&s.heap.accountedOkI (importedModules p.main.body)&&s.heap.isNs mainGlobals&&s.heap.isNs builtinsNs&&tablesOk q s.heap&&Xt s&&(if g0 then s.gens.size==0 else !leftWithCleanup s.gens)))=some (bltViewBooted,true)
def PB3(w:World):Prop:=∀os:OsState,(QiU p N B m₀ ann w os).map (λz=>let s:=z.abs;(pinSeenD q (drecsOf q) s,plainSeenE q (looseW q loose) s,plainSeenD q loose s,wideSeen q s,clsSeenW q loose s))=some (pinGoodD (drecsOf q),plainGoodE q (looseW q loose),plainGoodD q loose,wideGood q,clsGoodW q loose)
abbrev PC(as:List Addr)(bs:List (Option Obj))(w:World):Prop:=∀os:OsState,(QiU p N B m₀ ann w os).map (λs=>as.map λa=>s.abs.heap.get? a)=some bs
variable {p q loose Xt N g0 B m₀ ann}
def parts_run{as:List Addr}{Ya:World->List (Option Obj)}{w:World}(a:PAt p q N B m₀ ann w)(b1:PB1 p q loose Xt N g0 B m₀ ann w)(b2:PB2 p q loose Xt N g0 B m₀ ann w)(b3:PB3 p q loose N B m₀ ann w)(c:PC p N B m₀ ann as (Ya w) w):
  RunT p q loose Xt (λs=>as.map s.heap.get?) Ya N g0 B m₀ ann w:=λos=>Qdj (QfV (a os) (b2 os) (b3 os)).1 (Qdj (QeY (b1 os) (QfV (a os) (b2 os) (b3 os)).2) (c os))
abbrev PL(p q:Program)(loose:List Str)(Xt:Shared->Bool)(N:Nat)(g0:Bool)(B:BootT)(m₀:Nat)(ann:Option Value)(w:World):Prop:=∀os:OsState,(QiU p N B m₀ ann w os).map (λs=>((staticsOk (importedModules p.main.body) (boot_heap w.params) s.abs.heap&&namesBound p s.abs.heap&&gensDone s.abs&&laidKept (boot_heap w.params) s.abs.heap),openSeen q loose (importedModules p.main.body) Xt g0 s.abs))=some (true,openGood q loose)
end
abbrev PX(p:Program)(N:Nat)(B:BootT)(m₀:Nat)(ann:Option Value){α:Type}(f:Shared->α)(a:α)(w:World):Prop:=∀os:OsState,(QiU p N B m₀ ann w os).map (λs=>f s.abs)=some a
noncomputable abbrev f1(q:Program)(s:Shared):=seen ((recsOf q).map (·.name)) (ownsOf q) [] {s with gens:=#[]}
noncomputable abbrev f2(s:Shared):=s.heap.bltView
noncomputable abbrev f3(q:Program)(loose:List Str)(s:Shared):Bool:=s.heap.keysOk (looseW q loose) ((recsOf q).map (·.name)) ((litsOf q).map (·.1)) ((clssOf q (looseW q loose)).map (·.name))
noncomputable abbrev f4(q:Program)(mods:List Str)(Xt:Shared->Bool)(g0:Bool)(s:Shared):Bool:=s.heap.accountedOkI mods&&s.heap.isNs mainGlobals&&s.heap.isNs builtinsNs&&tablesOk q s.heap&&Xt s&&(if g0 then s.gens.size==0 else !leftWithCleanup s.gens)
noncomputable abbrev f5(q:Program)(s:Shared):Bool:=tabsOk q s
noncomputable abbrev f6(q:Program)(loose:List Str)(s:Shared):=(pinSeenD q (drecsOf q) s,plainSeenE q (looseW q loose) s,plainSeenD q loose s)
noncomputable abbrev f7(q:Program)(loose:List Str)(s:Shared):=(wideSeen q s,clsSeenW q loose s)
noncomputable abbrev fA(p:Program)(w:World)(s:Shared):Bool:=staticsOk (importedModules p.main.body) (boot_heap w.params) s.heap&&namesBound p s.heap&&gensDone s&&laidKept (boot_heap w.params) s.heap
abbrev Lk1(p q:Program)(N:Nat)(B:BootT)(m₀:Nat)(ann:Option Value)(w:World):Prop:=PX p N B m₀ ann (λs=>(fA p w s,f1 q s,f2 s)) (true,expectedOf q,bltViewBooted) w
abbrev Lk2(p q:Program)(loose:List Str)(Xt:Shared->Bool)(N:Nat)(g0:Bool)(B:BootT)(m₀:Nat)(ann:Option Value)(w:World):Prop:=PX p N B m₀ ann (λs=>(f3 q loose s,f4 q (importedModules p.main.body) Xt g0 s,f5 q s,f6 q loose s,f7 q loose s)) (true,true,true,(pinGoodD (drecsOf q),plainGoodE q (looseW q loose),plainGoodD q loose),(wideGood q,clsGoodW q loose)) w
abbrev Lk3(p q:Program)(loose:List Str)(N:Nat)(B:BootT)(m₀:Nat)(ann:Option Value)(w:World):Prop:=PX p N B m₀ ann (λs=>(f3 q loose s,f5 q s)) (true,true) w
abbrev Lk5(p q:Program)(Xt:Shared->Bool)(N:Nat)(g0:Bool)(B:BootT)(m₀:Nat)(ann:Option Value)(w:World):Prop:=PX p N B m₀ ann (f4 q (importedModules p.main.body) Xt g0) true w
abbrev Lk4(p q:Program)(loose:List Str)(N:Nat)(B:BootT)(m₀:Nat)(ann:Option Value)(w:World):Prop:=PX p N B m₀ ann (λs=>(f6 q loose s,f7 q loose s)) ((pinGoodD (drecsOf q),plainGoodE q (looseW q loose),plainGoodD q loose),(wideGood q,clsGoodW q loose)) w
noncomputable abbrev Qm6(p q:Program)(loose:List Str)(Xt:Shared->Bool){α:Type}(Yf:Shared->α)(g0:Bool)(w:World)(s:Shared):=((staticsOk (importedModules p.main.body) (boot_heap w.params) s.heap&&namesBound p s.heap&&gensDone s&&laidKept (boot_heap w.params) s.heap),openSeen q loose (importedModules p.main.body) Xt g0 s,Yf s)
noncomputable abbrev vF(p q:Program)(w:World)(s:SharedT):=(fA p w s.abs,f1 q s.abs,f2 s.abs)
noncomputable abbrev gF(q:Program):=(true,expectedOf q,bltViewBooted)
noncomputable abbrev vK(p q:Program)(loose:List Str)(Xt:Shared->Bool)(g0:Bool)(s:SharedT):=(f3 q loose s.abs,f4 q (importedModules p.main.body) Xt g0 s.abs,f5 q s.abs)
noncomputable abbrev vL(q:Program)(loose:List Str)(s:SharedT):=(f6 q loose s.abs,f7 q loose s.abs)
noncomputable abbrev gL(q:Program)(loose:List Str):=((pinGoodD (drecsOf q),plainGoodE q (looseW q loose),plainGoodD q loose),(wideGood q,clsGoodW q loose))
end Iv
namespace L2
open PySem PySem.Spec PyProof.Rows
noncomputable def Qg(s:Stmt)(j:Nat):Stmt:=match s with
 |.ClassDef _ _ _ body _ _ _ _ _ _ _=>body.getD j (.Pass ⟨0,0,0,0⟩)
 |_=>.Pass ⟨0,0,0,0⟩
noncomputable def Qbs(s:Stmt):Arguments:=match s with
 |.FunctionDef _ a _ _ _ _ _ _ _ _=>a
 |_=>{posonlyargs:=[],args:=[],vararg:=none,kwonlyargs:=[],kw_defaults:=[],kwarg:=none,defaults:=[]}
noncomputable def Z7(s:Stmt):List Stmt:=match s with
 |.FunctionDef _ _ b _ _ _ _ _ _ _=>b
 |_=>[]
noncomputable def QT(s:Stmt):Scope:=match s with
 |.FunctionDef _ _ _ _ _ _ sc _ _ _=>sc
 |_=>{kind:=.function,names:=[],isGenerator:=false,isCoroutine:=false}
end L2
namespace K60
open PySem Iv L2
noncomputable def top(i:Nat):Stmt:=PySem.Challenge.pw_stitchroom_k60_rows_to_moves.main.body.getD i (.Pass ⟨0,0,0,0⟩)
noncomputable abbrev so(x:String):Str:=Str.ofString x
noncomputable abbrev rf(a:Addr):Value:=.ref a
noncomputable abbrev sv(x:String)(n:Nat):Value:=.str (Str.ofString x) n
noncomputable abbrev dk(P:Params)(x:String)(n:Nat)(v:Value):DictEntry:=DictEntry.mk (PyData.keyHash P (Str.ofString x)) (.str (Str.ofString x) n) v
noncomputable abbrev tu(xs:Array Value)(n:Nat):Obj:=Obj.mk (.type "tuple") none (Data.seq xs n) #[]
noncomputable abbrev ob(c:String)(d:Data):Obj:=Obj.mk (.type c) none d #[]
noncomputable abbrev en(P:Params)(x:Str)(k v:Value):DictEntry:=DictEntry.mk (PyData.keyHash P x) k v
noncomputable abbrev de(P:Params)(x:Str)(n:Nat)(v:Value):DictEntry:=DictEntry.mk (PyData.keyHash P x) (.str x n) v
noncomputable abbrev fo(x q:String)(s:Stmt)(d:Value)(m:String)(n c:Nat):Obj:=⟨.type "function",none,.func (W.fnOf (so x) (so q) (Qbs s) (Z7 s) (QT s) d .none .none (sv m n) none (rf c) .none),#[]⟩
noncomputable abbrev z0:Value:=.int 0 0
noncomputable abbrev i0(n:Int):Value:=.int n 0
noncomputable abbrev hF:Value:=.bool false
noncomputable abbrev hT:Value:=.bool true
noncomputable abbrev sr(a:Addr):Option Value:=some (.ref a)
noncomputable abbrev hC(n:Nat):Value:=.str (Str.ofString "/claim/cut.py") n
noncomputable abbrev oc(d:Array Value):Obj:=Obj.mk (.type "code") none (Data.fields d) #[]
noncomputable abbrev cO(x q:String)(a l:Nat)(n r s u v y t:Value)(m d:Nat):Obj:=oc (#[sv x a,sv q (a+1),hC (a+2),i0 l,n,z0,z0,i0 3,r,hT,i0 181,s,u,v,y,t,i0 m,i0 l,hC d])
noncomputable abbrev dm(P:Params)(n:Nat)(x:String)(m:Nat):DictEntry:=dk P "__module__" n (sv x m)
noncomputable abbrev dq(P:Params)(n:Nat)(x:String)(m:Nat):DictEntry:=dk P "__qualname__" n (sv x m)
noncomputable abbrev hD(P:Params)(n:Nat):DictEntry:=dk P "__doc__" n .none
noncomputable abbrev dl(P:Params)(n:Nat)(x:Int)(m:Nat):DictEntry:=dk P "__firstlineno__" n (.int x m)
noncomputable abbrev ds(P:Params)(n:Nat)(a:Addr):DictEntry:=dk P "__static_attributes__" n (.ref a)
noncomputable abbrev dR(P:Params)(x:String)(n:Nat)(a:Addr):DictEntry:=dk P x n (.ref a)
noncomputable abbrev hp:Program:=PySem.Challenge.pw_stitchroom_k60_rows_to_moves
noncomputable abbrev hr:W.RowW:=(PySem.Challenge.rw_stitchroom_k60_rows_to_moves).row.toRowW
noncomputable def hB:Iv.BootT:=⟨λP=>(.node (W.boot_o_0 P) (.node (W.boot_o_1 P) (.node (W.boot_o_3 P) (.node (W.boot_o_7 P) .nil .nil) .nil) (.node (W.boot_o_5 P) (.node (W.boot_o_9 P) .nil .nil) .nil)) (.node (W.boot_o_2 P) (.node (W.boot_o_4 P) (.node (W.boot_o_8 P) .nil .nil) .nil) (.node (W.boot_o_6 P) (.node (W.boot_o_10 P) .nil .nil) .nil))),11,{}⟩
noncomputable def hq:Program:=W.view hp [0,2,3,4,6,7,8,9,10,11,12,13,14,15,16,17,18,20,21,22,23,24,26,27,28,29,30,32,33,34,35,36,37,38,39,40,41,42,43,45,46,47,48,49,50,51,52,53,54,55]
noncomputable abbrev hlo:List Str:=["SIDE_SIGNS","CROSS_SIGNS","SIDES","CROSS_SIDES","MANY","CROSSED"]
noncomputable def hA(a:Nat)(o:Obj)(r:W.Frag):W.Frag:=(a,o)::r
noncomputable def fA(x q:String)(a l n c m:Nat)(s:Stmt)(v:Value)(u:String×Nat)(r:W.Frag):W.Frag:=(c,cO x q a l (i0 n) (rf (c-5)) (rf (c-4)) .none (rf (c-3)) (rf (c-2)) (rf (c-1)) m (m+1))::(c+1,fo x q s v u.1 u.2 c)::r
noncomputable def fB(x q:String)(a l n c m:Nat)(s:Stmt)(v:Value)(u:String×Nat)(r:W.Frag):W.Frag:=(c,cO x q a l (i0 n) (rf (c-3)) (rf (c-2)) .none .none .none (rf (c-1)) m (m+1))::(c+1,fo x q s v u.1 u.2 c)::r
noncomputable def fC(x:String)(a l n c m k:Nat)(u:String×Nat)(r:W.Frag):W.Frag:=fA x x a l n c m (top k) .none u r
noncomputable def fD(x:String)(a l n c m k:Nat)(u:String×Nat)(r:W.Frag):W.Frag:=fB x x a l n c m (top k) .none u r
noncomputable def oC(x:String)(c d t v:Nat)(b:List Value)(r:W.Frag):W.Frag:=(c,Obj.mk (.type "type") none (Data.cls (ClassData.mk (so x) [.type "object"] [rf c,.type "object"] d (so x) true [] b false none false)) #[none,none,some (sv x t),some (sv x v),some (.builtin "object.__new__"),some hT])::r
noncomputable def eC(x:String)(e c d y t v:Nat)(r:W.Frag):W.Frag:=(c,Obj.mk (.type "type") none (Data.cls (ClassData.mk (so x) [rf e] [rf c,rf e,.type "ValueError",.type "Exception",.type "BaseException",.type "object"] d (so x) true [] [] false none false)) #[sr y,none,some (sv x t),some (sv x v),some (.builtin "ValueError.__new__"),some hT])::r
noncomputable def gS(a c t:Nat)(u:Nat)(r:W.Frag):W.Frag:=(a,ob "getset_descriptor" (Data.fields #[sv "__dict__" t,rf c,.builtin "function.__dict__",.builtin "function.__dict__#set"]))::(a+1,ob "getset_descriptor" (Data.fields #[sv "__weakref__" u,rf c,.builtin "ExceptionGroup.__weakref__",.none]))::r
noncomputable abbrev mo0:String×Nat:=("stitchroom.stitches",263)
noncomputable abbrev mo1:String×Nat:=("stitchroom.needles",907)
noncomputable abbrev mo2:String×Nat:=("stitchroom.moves",1050)
noncomputable abbrev mo3:String×Nat:=("stitchroom.marks",1094)
noncomputable abbrev mo4:String×Nat:=("law_stitchroom_k60_rows_to_moves",1191)
noncomputable def K:Params->W.Frag:=λP=>
 hA 2 (Obj.mk .none none (Data.dict #[] 0) #[]) <|
 hA 3 (ob "dict" (Data.dict #[(dk P "__name__" 165 (sv "law_stitchroom_k60_rows_to_moves" 1191)),(hD P 166),(dk P "__package__" 167 .none),(dk P "__loader__" 168 (.builtin "__main__.__loader__#opaque")),(dk P "__spec__" 169 .none),(dR P "__annotations__" 170 6),(dR P "__builtins__" 171 4),(dk P "__file__" 173 (hC 172)),(dk P "__cached__" 174 .none),(dR P "_wall" 193 21),(dR P "StitchError" 213 31),(dR P "NoStitch" 229 44),(dR P "Miscount" 262 63),(dR P "KEEPERS" 269 66),(dR P "SIDE_SIGNS" 277 67),(dR P "CROSS_SIGNS" 285 68),(dR P "Stitch" 319 92),(dR P "Plain" 386 155),(dR P "Slip" 444 209),(dR P "Over" 502 263),(dR P "Lean" 574 324),(dR P "Grow" 642 383),(dR P "Cross" 714 442),(dR P "Off" 772 496),(dR P "Keep" 839 557),(dR P "Fetch" 906 618),(dR P "Needles" 995 683),(dR P "Course" 1025 702),(dR P "new_names" 1031 711),(dR P "new_many" 1037 716),(dR P "fetches_of" 1049 723),(dR P "moves_of" 1062 730),(dR P "row_moves" 1073 737),(dR P "stitch_moves" 1079 742),(dR P "tie_moves" 1085 747),(dR P "end_move" 1093 754),(dR P "SIDES" 1103 755),(dR P "CROSS_SIDES" 1111 756),(dR P "LEAN_WAYS" 1114 757),(dR P "CROSS_WAYS" 1117 758),(dR P "MANY" 1127 759),(dR P "CROSSED" 1140 760),(dR P "stitch" 1148 767),(dR P "stitch_of_text" 1156 774),(dR P "bare_stitch" 1163 781),(dR P "keeper_stitch" 1171 788),(dR P "sided_stitch" 1180 795),(dR P "crossing" 1190 802),(dR P "_law_cell_at" 1200 809),(dR P "_law_mark" 1210 816),(dR P "_law_takes" 1217 823),(dR P "_law_gives" 1224 830),(dR P "_law_row_by" 1239 837),(dR P "_law_kept" 1249 844),(dR P "_law_rows" 1255 849),(dR P "_law_tie_moves" 1261 854),(dR P "_law_moves" 1278 861),(dR P "_law_same" 1289 868),(dR P "law" 1295 873)] 59)) <|
 hA 30 (ob "dict" (Data.dict #[(dm P 203 "stitchroom.errors" 194),(dl P 207 5 206),(ds P 208 29),(dR P "__weakref__" 210 32),(hD P 211)] 3)) <|
 hA 31 (Obj.mk (.type "type") none (Data.cls (ClassData.mk (so "StitchError") [(.type "ValueError")] [(rf 31),(.type "ValueError"),(.type "Exception"),(.type "BaseException"),(.type "object")] 30 (so "StitchError") true [] [(rf 44),(rf 63)] false none false)) #[(sr 22),none,(some (sv "StitchError" 196)),(some (sv "StitchError" 204)),(some (.builtin "ValueError.__new__")),(some hT)]) <|
 hA 32 (ob "getset_descriptor" (Data.fields #[(sv "__weakref__" 209),(rf 31),(.builtin "ExceptionGroup.__weakref__"),.none])) <|
 hA 43 (ob "dict" (Data.dict #[(dm P 221 "stitchroom.errors" 194),(dl P 225 7 224),(ds P 226 42),(hD P 227)] 2)) <|
 eC "NoStitch" 31 44 43 35 214 222 <|
 hA 62 (ob "dict" (Data.dict #[(dm P 237 "stitchroom.errors" 194),(dl P 241 9 240),(dR P "__init__" 253 60),(ds P 259 61),(hD P 260)] 2)) <|
 eC "Miscount" 31 63 62 47 230 238 <|
 hA 66 (tu #[(sv "w" 265),(sv "x" 266),(sv "y" 267),(sv "z" 268)] 0) <|
 hA 67 (ob "dict" (Data.dict #[(DictEntry.mk 1 (.int 1 270) (sv "k" 271)),(DictEntry.mk (-2) (.int (-1) 273) (sv "p" 274))] 2)) <|
 hA 68 (ob "dict" (Data.dict #[(DictEntry.mk 1 (.int 1 278) (sv "c" 279)),(DictEntry.mk (-2) (.int (-1) 281) (sv "q" 282))] 2)) <|
 fA "ties" "Stitch.ties" 298 24 1 81 302 (Qg (top 9) 0) .none mo0 <|
 fA "ends" "Stitch.ends" 305 27 1 88 309 (Qg (top 9) 1) .none mo0 <|
 hA 91 (ob "dict" (Data.dict #[(dm P 293 "stitchroom.stitches" 263),(dl P 297 22 296),(dR P "ties" 304 82),(dR P "ends" 311 89),(ds P 312 90),(dR P "__dict__" 314 93),(dR P "__weakref__" 316 94),(hD P 317)] 4)) <|
 oC "Stitch" 92 91 286 294 [(rf 155),(rf 209),(rf 263),(rf 324),(rf 383),(rf 442),(rf 496),(rf 557),(rf 618)] <|
 gS 93 92 313 315 <|
 fA "__init__" "Plain.__init__" 332 31 2 109 337 (Qg (top 10) 0) .none mo0 <|
 fA "takes" "Plain.takes" 340 34 1 116 344 (Qg (top 10) 1) .none mo0 <|
 fA "gives" "Plain.gives" 347 37 1 123 351 (Qg (top 10) 2) .none mo0 <|
 fA "ties" "Plain.ties" 354 40 1 130 358 (Qg (top 10) 3) .none mo0 <|
 fA "mark" "Plain.mark" 361 43 1 137 365 (Qg (top 10) 4) .none mo0 <|
 hA 154 (ob "dict" (Data.dict #[(dm P 327 "stitchroom.stitches" 263),(dl P 331 29 330),(dR P "__init__" 339 110),(dR P "takes" 346 117),(dR P "gives" 353 124),(dR P "ties" 360 131),(dR P "mark" 367 138),(dR P "mirrored" 374 145),(dR P "turned" 381 152),(ds P 383 153),(hD P 384)] 2)) <|
 hA 155 (Obj.mk (.type "type") none (Data.cls (ClassData.mk (so "Plain") [(rf 92)] [(rf 155),(rf 92),(.type "object")] 154 (so "Plain") true [] [] false none false)) #[(sr 97),none,(some (sv "Plain" 320)),(some (sv "Plain" 328)),(some (.builtin "object.__new__")),(some hT)]) <|
 fA "takes" "Slip.takes" 399 53 1 170 403 (Qg (top 11) 0) .none mo0 <|
 fA "gives" "Slip.gives" 406 56 1 177 410 (Qg (top 11) 1) .none mo0 <|
 fA "ties" "Slip.ties" 413 59 1 184 417 (Qg (top 11) 2) .none mo0 <|
 fA "mark" "Slip.mark" 420 62 1 191 424 (Qg (top 11) 3) .none mo0 <|
 hA 208 (ob "dict" (Data.dict #[(dm P 394 "stitchroom.stitches" 263),(dl P 398 51 397),(dR P "takes" 405 171),(dR P "gives" 412 178),(dR P "ties" 419 185),(dR P "mark" 426 192),(dR P "mirrored" 433 199),(dR P "turned" 440 206),(ds P 441 207),(hD P 442)] 2)) <|
 hA 209 (Obj.mk (.type "type") none (Data.cls (ClassData.mk (so "Slip") [(rf 92)] [(rf 209),(rf 92),(.type "object")] 208 (so "Slip") true [] [] false none false)) #[(sr 158),none,(some (sv "Slip" 387)),(some (sv "Slip" 395)),(some (.builtin "object.__new__")),(some hT)]) <|
 fA "takes" "Over.takes" 457 72 1 224 461 (Qg (top 12) 0) .none mo0 <|
 fA "gives" "Over.gives" 464 75 1 231 468 (Qg (top 12) 1) .none mo0 <|
 fA "ties" "Over.ties" 471 78 1 238 475 (Qg (top 12) 2) .none mo0 <|
 fA "mark" "Over.mark" 478 81 1 245 482 (Qg (top 12) 3) .none mo0 <|
 hA 262 (ob "dict" (Data.dict #[(dm P 452 "stitchroom.stitches" 263),(dl P 456 70 455),(dR P "takes" 463 225),(dR P "gives" 470 232),(dR P "ties" 477 239),(dR P "mark" 484 246),(dR P "mirrored" 491 253),(dR P "turned" 498 260),(ds P 499 261),(hD P 500)] 2)) <|
 hA 263 (Obj.mk (.type "type") none (Data.cls (ClassData.mk (so "Over") [(rf 92)] [(rf 263),(rf 92),(.type "object")] 262 (so "Over") true [] [] false none false)) #[(sr 212),none,(some (sv "Over" 445)),(some (sv "Over" 453)),(some (.builtin "object.__new__")),(some hT)]) <|
 fA "__init__" "Lean.__init__" 515 91 4 278 522 (Qg (top 13) 0) .none mo0 <|
 fA "takes" "Lean.takes" 525 96 1 285 529 (Qg (top 13) 1) .none mo0 <|
 fA "gives" "Lean.gives" 532 99 1 292 536 (Qg (top 13) 2) .none mo0 <|
 fA "ties" "Lean.ties" 539 102 1 299 544 (Qg (top 13) 3) .none mo0 <|
 fA "mark" "Lean.mark" 547 109 1 306 551 (Qg (top 13) 4) .none mo0 <|
 hA 323 (ob "dict" (Data.dict #[(dm P 510 "stitchroom.stitches" 263),(dl P 514 89 513),(dR P "__init__" 524 279),(dR P "takes" 531 286),(dR P "gives" 538 293),(dR P "ties" 546 300),(dR P "mark" 553 307),(dR P "mirrored" 560 314),(dR P "turned" 567 321),(ds P 571 322),(hD P 572)] 2)) <|
 hA 324 (Obj.mk (.type "type") none (Data.cls (ClassData.mk (so "Lean") [(rf 92)] [(rf 324),(rf 92),(.type "object")] 323 (so "Lean") true [] [] false none false)) #[(sr 266),none,(some (sv "Lean" 503)),(some (sv "Lean" 511)),(some (.builtin "object.__new__")),(some hT)]) <|
 fA "__init__" "Grow.__init__" 587 119 3 339 593 (Qg (top 14) 0) .none mo0 <|
 fA "takes" "Grow.takes" 596 123 1 346 600 (Qg (top 14) 1) .none mo0 <|
 fA "gives" "Grow.gives" 603 126 1 353 607 (Qg (top 14) 2) .none mo0 <|
 fB "ties" "Grow.ties" 610 129 1 358 613 (Qg (top 14) 3) .none mo0 <|
 fA "mark" "Grow.mark" 616 132 1 365 620 (Qg (top 14) 4) .none mo0 <|
 hA 382 (ob "dict" (Data.dict #[(dm P 582 "stitchroom.stitches" 263),(dl P 586 117 585),(dR P "__init__" 595 340),(dR P "takes" 602 347),(dR P "gives" 609 354),(dR P "ties" 615 359),(dR P "mark" 622 366),(dR P "mirrored" 629 373),(dR P "turned" 636 380),(ds P 639 381),(hD P 640)] 2)) <|
 hA 383 (Obj.mk (.type "type") none (Data.cls (ClassData.mk (so "Grow") [(rf 92)] [(rf 383),(rf 92),(.type "object")] 382 (so "Grow") true [] [] false none false)) #[(sr 327),none,(some (sv "Grow" 575)),(some (sv "Grow" 583)),(some (.builtin "object.__new__")),(some hT)]) <|
 fA "__init__" "Cross.__init__" 655 142 5 398 663 (Qg (top 15) 0) .none mo0 <|
 fA "takes" "Cross.takes" 666 148 1 405 670 (Qg (top 15) 1) .none mo0 <|
 fA "gives" "Cross.gives" 673 151 1 412 677 (Qg (top 15) 2) .none mo0 <|
 fB "ties" "Cross.ties" 680 154 1 417 683 (Qg (top 15) 3) .none mo0 <|
 fA "mark" "Cross.mark" 686 160 1 424 690 (Qg (top 15) 4) .none mo0 <|
 hA 441 (ob "dict" (Data.dict #[(dm P 650 "stitchroom.stitches" 263),(dl P 654 140 653),(dR P "__init__" 665 399),(dR P "takes" 672 406),(dR P "gives" 679 413),(dR P "ties" 685 418),(dR P "mark" 692 425),(dR P "mirrored" 699 432),(dR P "turned" 706 439),(ds P 711 440),(hD P 712)] 2)) <|
 hA 442 (Obj.mk (.type "type") none (Data.cls (ClassData.mk (so "Cross") [(rf 92)] [(rf 442),(rf 92),(.type "object")] 441 (so "Cross") true [] [] false none false)) #[(sr 386),none,(some (sv "Cross" 643)),(some (sv "Cross" 651)),(some (.builtin "object.__new__")),(some hT)]) <|
 fA "takes" "Off.takes" 727 170 1 457 731 (Qg (top 16) 0) .none mo0 <|
 fA "gives" "Off.gives" 734 173 1 464 738 (Qg (top 16) 1) .none mo0 <|
 fA "ends" "Off.ends" 741 176 1 471 745 (Qg (top 16) 2) .none mo0 <|
 fA "mark" "Off.mark" 748 179 1 478 752 (Qg (top 16) 3) .none mo0 <|
 hA 495 (ob "dict" (Data.dict #[(dm P 722 "stitchroom.stitches" 263),(dl P 726 168 725),(dR P "takes" 733 458),(dR P "gives" 740 465),(dR P "ends" 747 472),(dR P "mark" 754 479),(dR P "mirrored" 761 486),(dR P "turned" 768 493),(ds P 769 494),(hD P 770)] 2)) <|
 hA 496 (Obj.mk (.type "type") none (Data.cls (ClassData.mk (so "Off") [(rf 92)] [(rf 496),(rf 92),(.type "object")] 495 (so "Off") true [] [] false none false)) #[(sr 445),none,(some (sv "Off" 715)),(some (sv "Off" 723)),(some (.builtin "object.__new__")),(some hT)]) <|
 fA "__init__" "Keep.__init__" 785 189 2 511 790 (Qg (top 17) 0) .none mo0 <|
 fA "takes" "Keep.takes" 793 192 1 518 797 (Qg (top 17) 1) .none mo0 <|
 fA "gives" "Keep.gives" 800 195 1 525 804 (Qg (top 17) 2) .none mo0 <|
 fA "ends" "Keep.ends" 807 198 1 532 811 (Qg (top 17) 3) .none mo0 <|
 fA "mark" "Keep.mark" 814 201 1 539 818 (Qg (top 17) 4) .none mo0 <|
 hA 556 (ob "dict" (Data.dict #[(dm P 780 "stitchroom.stitches" 263),(dl P 784 187 783),(dR P "__init__" 792 512),(dR P "takes" 799 519),(dR P "gives" 806 526),(dR P "ends" 813 533),(dR P "mark" 820 540),(dR P "mirrored" 827 547),(dR P "turned" 834 554),(ds P 836 555),(hD P 837)] 2)) <|
 hA 557 (Obj.mk (.type "type") none (Data.cls (ClassData.mk (so "Keep") [(rf 92)] [(rf 557),(rf 92),(.type "object")] 556 (so "Keep") true [] [] false none false)) #[(sr 499),none,(some (sv "Keep" 773)),(some (sv "Keep" 781)),(some (.builtin "object.__new__")),(some hT)]) <|
 fA "__init__" "Fetch.__init__" 852 211 2 572 857 (Qg (top 18) 0) .none mo0 <|
 fA "takes" "Fetch.takes" 860 214 1 579 864 (Qg (top 18) 1) .none mo0 <|
 fA "gives" "Fetch.gives" 867 217 1 586 871 (Qg (top 18) 2) .none mo0 <|
 fA "ties" "Fetch.ties" 874 220 1 593 878 (Qg (top 18) 3) .none mo0 <|
 fA "mark" "Fetch.mark" 881 223 1 600 885 (Qg (top 18) 4) .none mo0 <|
 hA 617 (ob "dict" (Data.dict #[(dm P 847 "stitchroom.stitches" 263),(dl P 851 209 850),(dR P "__init__" 859 573),(dR P "takes" 866 580),(dR P "gives" 873 587),(dR P "ties" 880 594),(dR P "mark" 887 601),(dR P "mirrored" 894 608),(dR P "turned" 901 615),(ds P 903 616),(hD P 904)] 2)) <|
 hA 618 (Obj.mk (.type "type") none (Data.cls (ClassData.mk (so "Fetch") [(rf 92)] [(rf 618),(rf 92),(.type "object")] 617 (so "Fetch") true [] [] false none false)) #[(sr 560),none,(some (sv "Fetch" 840)),(some (sv "Fetch" 848)),(some (.builtin "object.__new__")),(some hT)]) <|
 hA 628 (tu #[.none,.none] 0) <|
 fB "__init__" "Needles.__init__" 921 234 5 632 924 (Qg (top 20) 0) (rf 628) mo1 <|
 hA 634 (tu #[hF] 0) <|
 fB "work" "Needles.work" 927 248 3 638 930 (Qg (top 20) 1) (rf 634) mo1 <|
 fA "lying_on" "Needles.lying_on" 939 268 2 650 944 (Qg (top 20) 3) .none mo1 <|
 fB "refuse_misfit" "Needles.refuse_misfit" 947 271 4 655 950 (Qg (top 20) 4) .none mo1 <|
 fB "work_stitch" "Needles.work_stitch" 953 282 3 660 956 (Qg (top 20) 5) .none mo1 <|
 fB "seen" "Needles.seen" 959 296 3 665 962 (Qg (top 20) 6) .none mo1 <|
 fA "in_order" "Needles.in_order" 965 301 2 672 970 (Qg (top 20) 7) .none mo1 <|
 fA "make_ready" "Needles.make_ready" 973 304 1 679 978 (Qg (top 20) 8) .none mo1 <|
 hA 682 (ob "dict" (Data.dict #[(dm P 916 "stitchroom.needles" 907),(dl P 920 232 919),(dR P "__init__" 926 633),(dR P "work" 932 639),(dR P "web" 938 644),(dR P "lying_on" 946 651),(dR P "refuse_misfit" 952 656),(dR P "work_stitch" 958 661),(dR P "seen" 964 666),(dR P "in_order" 972 673),(dR P "make_ready" 980 680),(ds P 988 681),(dR P "__dict__" 990 684),(dR P "__weakref__" 992 685),(hD P 993)] 4)) <|
 oC "Needles" 683 682 909 917 [] <|
 gS 684 683 989 991 <|
 fB "__init__" "Course.__init__" 1008 315 3 698 1011 (Qg (top 21) 0) .none mo1 <|
 hA 701 (ob "dict" (Data.dict #[(dm P 1003 "stitchroom.needles" 907),(dl P 1007 313 1006),(dR P "__init__" 1013 699),(ds P 1018 700),(dR P "__dict__" 1020 703),(dR P "__weakref__" 1022 704),(hD P 1023)] 4)) <|
 oC "Course" 702 701 996 1004 [] <|
 gS 703 702 1019 1021 <|
 fD "new_names" 1026 320 2 710 1029 22 mo1 <|
 fD "new_many" 1032 322 1 715 1035 23 mo1 <|
 fC "fetches_of" 1038 327 1 722 1047 24 mo1 <|
 fC "moves_of" 1052 338 2 729 1060 26 mo2 <|
 fC "row_moves" 1063 345 1 736 1071 27 mo2 <|
 fD "stitch_moves" 1074 354 3 741 1077 28 mo2 <|
 fD "tie_moves" 1080 359 3 746 1083 29 mo2 <|
 fC "end_move" 1086 367 2 753 1091 30 mo2 <|
 hA 755 (ob "dict" (Data.dict #[(dk P "k" 1096 (.int 1 1097)),(dk P "p" 1098 (.int (-1) 1100))] 2)) <|
 hA 756 (ob "dict" (Data.dict #[(dk P "c" 1104 (.int 1 1105)),(dk P "q" 1106 (.int (-1) 1108))] 2)) <|
 hA 757 (tu #[(sv "r" 1112),(sv "l" 1113)] 0) <|
 hA 758 (tu #[(sv "f" 1115),(sv "b" 1116)] 0) <|
 hA 759 (ob "dict" (Data.dict #[(dk P "2" 1118 (.int 2 1119)),(dk P "3" 1120 (.int 3 1121)),(dk P "4" 1122 (.int 4 1123))] 3)) <|
 hA 760 (ob "dict" (Data.dict #[(dk P "1" 1128 (.int 1 1129)),(dk P "2" 1130 (.int 2 1131)),(dk P "3" 1132 (.int 3 1133)),(dk P "4" 1134 (.int 4 1135))] 4)) <|
 fC "stitch" 1141 378 1 766 1146 38 mo3 <|
 fC "stitch_of_text" 1149 383 1 773 1154 39 mo3 <|
 fC "bare_stitch" 1157 394 1 780 1161 40 mo3 <|
 fC "keeper_stitch" 1164 404 2 787 1169 41 mo3 <|
 fC "sided_stitch" 1172 412 3 794 1178 42 mo3 <|
 fC "crossing" 1181 420 4 801 1188 43 mo3 <|
 fC "_law_cell_at" 1193 425 2 808 1198 45 mo4 <|
 fC "_law_mark" 1201 429 1 815 1208 46 mo4 <|
 fC "_law_takes" 1211 448 1 822 1215 47 mo4 <|
 fC "_law_gives" 1218 456 1 829 1222 48 mo4 <|
 fC "_law_row_by" 1225 464 3 836 1237 49 mo4 <|
 fC "_law_kept" 1240 483 2 843 1247 50 mo4 <|
 fD "_law_rows" 1250 490 2 848 1253 51 mo4 <|
 fD "_law_tie_moves" 1256 500 3 853 1259 52 mo4 <|
 fC "_law_moves" 1262 508 2 860 1276 53 mo4 <|
 fC "_law_same" 1279 526 2 867 1287 54 mo4 <|
 fD "law" 1290 536 1 872 1293 55 mo4 []
noncomputable def KA:List Addr:=[2,3,30,31,32,43,44,62,63,66,67,68,81,82,88,89,91,92,93,94,109,110,116,117,123,124,130,131,137,138,154,155,170,171,177,178,184,185,191,192,208,209,224,225,231,232,238,239,245,246,262,263,278,279,285,286,292,293,299,300,306,307,323,324,339,340,346,347,353,354,358,359,365,366,382,383,398,399,405,406,412,413,417,418,424,425,441,442,457,458,464,465,471,472,478,479,495,496,511,512,518,519,525,526,532,533,539,540,556,557,572,573,579,580,586,587,593,594,600,601,617,618,628,632,633,634,638,639,650,651,655,656,660,661,665,666,672,673,679,680,682,683,684,685,698,699,701,702,703,704,710,711,715,716,722,723,729,730,736,737,741,742,746,747,753,754,755,756,757,758,759,760,766,767,773,774,780,781,787,788,794,795,801,802,808,809,815,816,822,823,829,830,836,837,843,844,848,849,853,854,860,861,867,868,872,873]
def hKA:∀P,KA=(K P).map (·.1):=λz=>by kernel_rfl
noncomputable abbrev hXt:Shared->Bool:=λs=>W.xlAt hq [] s&&W.recOk (W.RowW.records hr) s
def hop:W.opening hp=W.plainProg hp.main.scope.names:=by kernel_rfl
def hfm:∀s,PySem.fenceModules? hp s=some s:=λs=>by kernel_rfl
def hbo:∀w:World,W.absHeap (hB.t w.params) hB.n hB.life=W.boot_heap w.params:=λw=>by kernel_rfl
def hsz:∀w:World,((W.boot_heap w.params).isNs mainGlobals,(W.boot_heap w.params).objs.size,(W.boot_heap w.params).nsMap mainGlobals "__annotations__")=(true,11,some (.ref 6)):=λw=>by kernel_rfl
noncomputable abbrev hYf:Shared->List (Option Obj):=λs=>KA.map s.heap.get?
noncomputable abbrev hYa:World->List (Option Obj):=λw=>(K w.params).map λp=>some p.2
noncomputable abbrev hN:Nat:=13218
noncomputable abbrev hn6:Option Value:=some (.ref 6)
abbrev hS(w:World):Prop:=Iv.RunT hp hq hlo hXt hYf hYa 13218 true hB 11 (some (.ref 6)) w
noncomputable abbrev wF(w:World):World:=w.withFollow "special-get-raises" false
noncomputable abbrev wT(w:World):World:=w.withFollow "special-get-raises" true
def Qii(w:World):Iv.PC hp hN hB 11 hn6 KA (hYa (wF w)) (wF w):=λos=>by kernel_rfl
def Qlz(w:World):Iv.PAt hp hq hN hB 11 hn6 (wF w):=λos=>by kernel_rfl
def Qly(w:World):Iv.PB1 hp hq hlo hXt hN true hB 11 hn6 (wF w):=λos=>by kernel_rfl
def Qlx(w:World):Iv.PB2 hp hq hlo hXt hN true hB 11 hn6 (wF w):=λos=>by kernel_rfl
def Qlw(w:World):Iv.PB3 hp hq hlo hN hB 11 hn6 (wF w):=λos=>by kernel_rfl
def Qn8(w:World):hS (wF w):=Iv.parts_run (Qlz w) (Qly w) (Qlx w) (Qlw w) (Qii w)
def Qih(w:World):Iv.PC hp hN hB 11 hn6 KA (hYa (wT w)) (wT w):=λos=>by kernel_rfl
def Qlv(w:World):Iv.PAt hp hq hN hB 11 hn6 (wT w):=λos=>by kernel_rfl
def Qlu(w:World):Iv.PB1 hp hq hlo hXt hN true hB 11 hn6 (wT w):=λos=>by kernel_rfl
def Qlt(w:World):Iv.PB2 hp hq hlo hXt hN true hB 11 hn6 (wT w):=λos=>by kernel_rfl
def Qls(w:World):Iv.PB3 hp hq hlo hN hB 11 hn6 (wT w):=λos=>by kernel_rfl
def Qn7(w:World):hS (wT w):=Iv.parts_run (Qlv w) (Qlu w) (Qlt w) (Qls w) (Qih w)
def Qqv:∀w,hS w:=W.byRow2 "special-get-raises" Qn8 Qn7
def hleft:W.LeftO hp hq hlo hXt hYf hYa 13218 true:=Iv.left_tree hop (by decide) hfm hbo hsz Qqv
end K60
namespace L2
open PySem PySem.Spec PyProof.Rows
section
abbrev Key:=Sum Int Str
noncomputable def QaE:Key->Value->Bool
 |.inl k,v=>Value.isInt k v
 |.inr x,v=>Value.isStrOf x v
noncomputable def Qpa(w:World):Key->Int
 |.inl k=>hashInt k
 |.inr x=>hashStr w x
def QP:∀{k:Key} {v:Value},QaE k v=true->(∃i t,k=Sum.inl i/\v=Value.int i t)\/(∃x t,k=Sum.inr x/\v=Value.str x t)
 |.inl i,v,h=>by
  obtain⟨t,e⟩:=Value.isInt_shape (k:=i) (v:=v) h;exact .inl ⟨i,t,rfl,e⟩
 |.inr x,v,h=>by
  obtain⟨t,e⟩:=Value.isStrOf_shape (x:=x) (v:=v) h;exact .inr ⟨x,t,rfl,e⟩
def QaD(i:Int)(t:Tok):QaE (.inl i) (.int i t)=true:=by simp[QaE,Value.isInt]
def QaC(x:Str)(t:Tok):QaE (.inr x) (.str x t)=true:=by simp[QaE,Value.isStrOf]
def Qli(a b:Int):decide ((Sum.inl a:Key)=Sum.inl b)=(a==b):=by
 by_cases e:a=b
 ·subst e;simp
 ·have h:¬(Sum.inl a:Key)=Sum.inl b:=λq=>e (Sum.inl.inj q);rw[X6 h];exact(Wu.mpr e).symm
def Qlf(a b:Str):decide ((Sum.inr a:Key)=Sum.inr b)=decide (a=b):=by
 by_cases e:a=b
 ·subst e;simp
 ·have h:¬(Sum.inr a:Key)=Sum.inr b:=λq=>e (Sum.inr.inj q);rw[X6 h,X6 e]
def Qlh(a:Int)(b:Str):decide ((Sum.inl a:Key)=Sum.inr b)=false:=X6 (λq=>nomatch q)
def Qlg(a:Str)(b:Int):decide ((Sum.inr a:Key)=Sum.inl b)=false:=X6 (λq=>nomatch q)
noncomputable def QK(prog:Program)(w:World):PySem.KeyKind prog w Key where
 is:=QaE
 hash:=Qpa w
 inj:=λv a b ha hb=>by
  rcases QP ha with⟨i,t,rfl,rfl⟩|⟨x,t,rfl,rfl⟩
  ·rcases QP hb with⟨j,u,rfl,e⟩|⟨y,u,rfl,e⟩
   ·injection e with e1 _;rw[e1]
   ·exact nomatch e
  ·rcases QP hb with⟨j,u,rfl,e⟩|⟨y,u,rfl,e⟩
   ·exact nomatch e
   ·injection e with e1 _;rw[e1]
 byValue:=λk v h=>by
  rcases QP h with⟨i,t,rfl,rfl⟩|⟨x,t,rfl,rfl⟩<;>rfl
 pyHash:=λhv h=>by
  rcases QP hv with⟨i,t,rfl,rfl⟩|⟨x,t,rfl,rfl⟩
  ·exact wpAny_pyHash_int h
  ·exact wpAny_pyHash_str h
 eqBool:=λhu hv h=>by
  rcases QP hu with⟨i,t,rfl,rfl⟩|⟨x,t,rfl,rfl⟩
  ·rcases QP hv with⟨j,u,rfl,rfl⟩|⟨y,u,rfl,rfl⟩
   ·rw[Qli]at h;exact wpAny_eqBool_int h
   ·rw[Qlh]at h;exact SeqAt.EqAt.int_str i t y u _ _ _ _ h
  ·rcases QP hv with⟨j,u,rfl,rfl⟩|⟨y,u,rfl,rfl⟩
   ·rw[Qlg]at h;exact SeqAt.EqAt.str_int x t j u _ _ _ _ h
   ·rw[Qlf]at h;exact wpAny_eqBool_str h
 «strs»:=λk x t v h=>by
  rcases QP h with⟨i,u,rfl,e⟩|⟨y,u,rfl,e⟩
  ·exact nomatch e
  ·injection e with e1 _;subst e1;cases v<;>rfl
def Qbk(prog:Program)(w:World)(i:Int)(t:Tok):(QK prog w).is (.inl i) (.int i t)=true:=QaD i t
def Qbj(prog:Program)(w:World)(x:Str)(t:Tok):(QK prog w).is (.inr x) (.str x t)=true:=QaC x t
end
section
variable {a b:Addr}{h h':Heap}{us:List Value}{P:Program}{α β:Type}{w:World}
inductive V where
 |non|bl (b:Bool)|int (i:Int)|str (x:Str)|byt (b:Array UInt8)|flt (b:UInt64)|ref (a:Addr)|ty (n:String)
 deriving DecidableEq
def RelV:V->Value->Prop
 |.non,u=>u=Value.none
 |.bl b,u=>u=Value.bool b
 |.int i,u=>∃t,u=Value.int i t
 |.str x,u=>∃t,u=Value.str x t
 |.byt b,u=>∃t,u=Value.bytes b t
 |.flt b,u=>∃t,u=Value.float b t
 |.ref a,u=>u=Value.ref a
 |.ty n,u=>u=Value.type n
abbrev Vals:List V->List Value->Prop:=Paired RelV
theorem Vals.length(r:Vals xs us):xs.length=us.length:=W7 r
def QbQ{P:α->β->Prop}{l l':List α}{r r':List β}(h:Paired P l r)(h':Paired P l' r'):Paired P (l++l') (r++r'):=by
 induction h with
 |nil=>exact h'
 |cons a _ ih=>exact .cons a ih
def Qdp{P:α->β->Prop}{l:List α}{r:List β}(h:Paired P l r)(n:Nat):Paired P (l.take n) (r.take n):=by
 induction h generalizing n with
 |nil=>rw[List.take_nil,List.take_nil];exact .nil
 |cons a _ ih=>
  cases n with
  |zero=>exact .nil
  |succ n=>exact .cons a (ih n)
def Qdq{P:α->β->Prop}{l:List α}{r:List β}(h:Paired P l r)(n:Nat):Paired P (l.drop n) (r.drop n):=by
 induction h generalizing n with
 |nil=>rw[List.drop_nil,List.drop_nil];exact .nil
 |cons a t ih=>
  cases n with
  |zero=>exact .cons a t
  |succ n=>exact ih n
def Q8{P:α->β->Prop}{l:List α}{r:List β}{i:Nat}{a:α}(h:Paired P l r)(e:l[i]?=some a):∃b,r[i]?=some b/\P a b:=by
 induction h generalizing i with
 |nil=>cases e
 |cons x _ ih=>
  cases i with
  |zero=>cases(show some _=some _ from e);exact⟨_,rfl,x⟩
  |succ i=>exact ih e
def Qkq{P:α->β->Prop}{l:List α}{r:List β}(h:Paired P l r):Paired P l.reverse r.reverse:=by
 induction h with
 |nil=>exact .nil
 |cons a _ ih=>rw[Tn,Tn];exact QbQ ih (.cons a .nil)
def Vals.get{xs:List V}{i:Nat}{x:V}(h:Vals xs us)(e:xs[i]?=some x):∃u,us[i]?=some u/\RelV x u:=Q8 h e
def Vals.append(h:Vals xs us)(h':Vals ys ws):Vals (xs++ys) (us++ws):=QbQ h h'
theorem Vals.take(n:Nat)(h:Vals xs us):Vals (xs.take n) (us.take n):=Qdp h n
theorem Vals.drop(n:Nat)(h:Vals xs us):Vals (xs.drop n) (us.drop n):=Qdq h n
def RelO:Option V->Option Value->Prop
 |some v,some u=>RelV v u
 |none,none=>True
 |_,_=>False
def KV{κ:Type}:List (κ×V)->List (κ×Value)->Prop:=Paired λ(p:κ×V) (q:κ×Value)=>p.1=q.1/\RelV p.2 q.2
noncomputable def kV:Key->V
 |.inl i=>.int i
 |.inr x=>.str x
inductive HO where
 /-- a list -/
 |lst (xs:List V)
 /-- a tuple (never changes) -/
 |tup (xs:List V)
 /-- a dict whose keys are ints and texts;one whose keys are tuples of ints and texts (the empty one is both) -/
 |dK (kvs:List (Key×V))|dT (kvs:List (List Key×V))
 /-- a set of ints: its members,its size -/
 |set (S:Int->Bool) (n:Nat)
 /-- an instance of the class at C,its dict at dx,its attributes -/
 |ins (C dx:Addr) (fs:List (Str×V))
 /-- the dict of the instance at x -/
 |own (x:Addr)
 /-- the dict of an exception -/
 |xd (fs:List (Str×V))
 /-- a bound method,f of x -/
 |met (f x:Addr)
 /-- a range object lo,lo+1,.. below hi -/
 |rng (lo hi:Int)
 /-- a thing that is known to the object (the script;a dict while a loop walks it): read,never written while it is so -/
 |frz (o:Obj) (u:HO)
 /-- a code object's table -/
 |tbl (ps:Array Value)
 /-- any other thing,by what is true of its one object (a def of one's own: SetO a S n:=HO.ext λh=>..) -/
 |ext (φ:Heap->Prop)
abbrev Hp:=Addr->Option HO
noncomputable def upd(H:Hp)(a:Addr)(o:HO):Hp:=λb=>if b=a then some o else H b
def Qh:upd H a o a=some o:=by unfold upd;rw[if_pos rfl]
def Qc(h:b≠a):upd H a o b=H b:=by unfold upd;rw[if_neg h]
def Zh{H:Hp}{o u:HO}(h:H a=some o)(h':H b=some u)(d:o≠u):a≠b:=by
 intro e;subst e;rw[h]at h';exact d (X4 h')
def Zq{H:Hp}{o:HO}(h:H a=some o)(h':H b=none):a≠b:=by
 intro e;subst e;rw[h]at h';cases h'
section
variable (P:Program)(w:World)
def ObjOk(H:Hp)(h:Heap)(a:Addr):HO->Prop
 |.lst xs=>xs.length<=sizeLine/\∃(its:List Value) (n:Nat),Vals xs its/\h.get? a=some {cls:=.type "list",data:=.seq its.toArray n}
 |.tup xs=>xs.length<=sizeLine/\∃its:List Value,Vals xs its/\IsTup h a its.toArray
 |.dK kvs=>kvs.length<=sizeLine/\(a==sysModules)=false/\∃vs,KV kvs vs/\h.DictOf (QK P w) a vs
 |.dT kvs=>kvs.length<=sizeLine/\(a==sysModules)=false/\∃xs:List (List Key×Addr×Value),
   Paired (λ(p:List Key×V) (q:List Key×Addr×Value)=>p.1=q.1/\H q.2.1=some (.tup (p.1.map kV))/\RelV p.2 q.2.2) kvs xs /\
   ∃o es ep,h.get? a=some o/\o.ExactDict/\o.data=.dict es ep/\es.toList=xs.map (entryOfKey (tupleKind (QK P w)))/\(xs.map (·.1)).Nodup
 |.set S n=>h.SetOf (intKind P w) a S n
 |.ins C dx fs=>H dx=some (.own a)/\fs.length<=1000/\dx≠a/\h.get? a=some (W.instObj C dx) /\
   ∃mA,h.Ns1 dx mA/\(∀f,RelO (fs.lookup f) (mA f))/\PySem.Within mA (fs.map (·.1))
 |.own _=>∃o,h.get? a=some o
 |.xd fs=>∃mA,h.Ns1 a mA/\∀f,RelO (fs.lookup f) (mA f)
 |.rng lo hi=>∃t u v,h.get? a=some {cls:=.type "range",data:=.fields #[.int lo t,.int hi u,.int 1 v]}
 |.frz o u=>h.get? a=some o/\ObjOk H h a u
 |.tbl ps=>h.get? a=some {cls:=.none,data:=.fields ps}
 |.met f x=>h.get? a=some (W.methodObj (.ref f) (.ref x))
 |.ext φ=>φ h/\(∃o,h.get? a=some o)/\∀h1 h2:Heap,φ h1->(∀o,h1.get? a=some o->h2.get? a=some o)->φ h2
def HOk(H:Hp)(h:Heap):Prop:=∀a o,H a=some o->ObjOk P w H h a o
end
section
variable {H H':Hp}{o:HO}
theorem ObjOk.lt(x:ObjOk P w H h a o):a<h.objs.size:=by
 cases o with
 |lst xs=>obtain⟨_,_,_,_,e⟩:=x;exact Xo e
 |tup xs=>obtain⟨_,_,_,p⟩:=x;exact p.lt
 |dK kvs=>obtain⟨_,_,_,_,o,_,_,e,_⟩:=x;exact Xo e
 |dT kvs=>obtain⟨_,_,_,_,o,_,_,e,_⟩:=x;exact Xo e
 |set S n=>obtain⟨o,_,_,_,e,_⟩:=x;exact Xo e
 |ins C dx fs=>obtain⟨_,_,_,e,_⟩:=x;exact Xo e
 |own y=>obtain⟨_,e⟩:=x;exact Xo e
 |xd fs=>obtain⟨_,⟨_,_,_,e,_⟩,_⟩:=x;exact Xo e
 |rng lo hi=>obtain⟨_,_,_,e⟩:=x;exact Xo e
 |frz ob u=>obtain⟨e,_⟩:=x;exact Xo e
 |tbl ps=>exact Xo (show h.get? a=some _ from x)
 |met f y=>exact Xo (show h.get? a=some _ from x)
 |ext φ=>obtain⟨_,⟨_,e⟩,_⟩:=x;exact Xo e
def Paired.mapP(h:Paired F l₁ l₂)(f:∀a b,F a b->G a b):Paired G l₁ l₂:=PySem.Paired.mono f h
def ObjOk.stay(x:ObjOk P w H h a o)(k:∀b u,(b=a\/H b=some (.own a))->h.get? b=some u->h'.get? b=some u)
  (ho:∀b,H b=some (.own a)->H' b=some (.own a)) (ht:∀b xs,H b=some (.tup xs)->H' b=some (.tup xs)):ObjOk P w H' h' a o:=by
 induction o with
 |lst xs=>obtain⟨z,its,n,r,e⟩:=x;exact⟨z,its,n,r,k _ _ (.inl rfl) e⟩
 |tup xs=>obtain⟨z,its,r,ob,e,c⟩:=x;exact⟨z,its,r,ob,k _ _ (.inl rfl) e,c⟩
 |dK kvs=>obtain⟨z,y,vs,r,ob,es,ep,e,c⟩:=x;exact⟨z,y,vs,r,ob,es,ep,k _ _ (.inl rfl) e,c⟩
 |dT kvs=>
  obtain⟨z,y,xs,r,ob,es,ep,e,c⟩:=x;exact⟨z,y,xs,Paired.mapP r λp q z=>⟨z.1,ht _ _ z.2.1,z.2.2⟩,ob,es,ep,k _ _ (.inl rfl) e,c⟩
 |set S n=>obtain⟨ob,es,ep,t,e,c⟩:=x;exact⟨ob,es,ep,t,k _ _ (.inl rfl) e,c⟩
 |ins C dx fs=>
  obtain⟨d,z,ne,e,mA,⟨od,es,ep,e2,c⟩,r⟩:=x;exact⟨ho _ d,z,ne,k _ _ (.inl rfl) e,mA,⟨od,es,ep,k _ _ (.inr d) e2,c⟩,r⟩
 |own y=>obtain⟨ob,e⟩:=x;exact⟨ob,k _ _ (.inl rfl) e⟩
 |xd fs=>obtain⟨mA,⟨od,es,ep,e,c⟩,r⟩:=x;exact⟨mA,⟨od,es,ep,k _ _ (.inl rfl) e,c⟩,r⟩
 |rng lo hi=>obtain⟨t,u,v,e⟩:=x;exact⟨t,u,v,k _ _ (.inl rfl) e⟩
 |frz ob u ih=>obtain⟨e,q⟩:=x;exact⟨k _ _ (.inl rfl) e,ih q⟩
 |tbl ps=>
  have e:h.get? a=some {cls:=.none,data:=.fields ps}:=x;show h'.get? a=some {cls:=.none,data:=.fields ps};exact k a _ (.inl rfl) e
 |met f y=>
  have e:h.get? a=some (W.methodObj (.ref f) (.ref y)):=x;show h'.get? a=some (W.methodObj (.ref f) (.ref y));exact k a _ (.inl rfl) e
 |ext φ=>obtain⟨p,⟨o,e⟩,st⟩:=x;exact⟨st _ _ p λo q=>k _ _ (.inl rfl) q,⟨o,k _ _ (.inl rfl) e⟩,st⟩
theorem HOk.lt(x:HOk P w H h)(e:H a=some o):a<h.objs.size:=(x a o e).lt
def HOk.fresh(x:HOk P w H h)(e:h.objs.size<=a):H a=none:=by
 cases q:H a with
 |none=>rfl
 |some u=>exact absurd (Wg (x.lt q) e) (Vx _)
def HOk.kept(x:HOk P w H h)(k:∀b u,h.get? b=some u->h'.get? b=some u):HOk P w H h':=λa o e=>
 (x a o e).stay (λb u z q=>k b u q) (λz q=>q) λz z q=>q
def HOk.laid(x:HOk P w H h)(k:∀b u,h.get? b=some u->h'.get? b=some u)(hp:h.objs.size<=a)(new:ObjOk P w (upd H a o) h' a o):HOk P w (upd H a o) h':=λb u e=>by
 have hn:=x.fresh hp;by_cases hb:b=a
 ·subst hb;rw[Qh]at e;cases e;exact new
 ·rw[Qc hb]at e
  exact(x b u e).stay (λc v z q=>k c v q) (λc q=>by rw[Qc (Zq q hn)];exact q) λc xs q=>by rw[Qc (Zq q hn)];exact q
end
def Rd(H:Hp)(a:Addr)(u:HO):Prop:=H a=some u\/∃o,H a=some (.frz o u)
def Rd.ok{H:Hp}{u:HO}(r:Rd H a u)(x:HOk P w H h):ObjOk P w H h a u:=by
 rcases r with r|⟨o,r⟩
 ·exact x a u r
 ·obtain⟨_,q⟩:=x a _ r;exact q
def Mut:Option HO->Prop
 |some (.lst _)=>True
 |some (.dK _)=>True
 |some (.dT _)=>True
 |some (.set _ _)=>True
 |some (.ins _ _ _)=>True
 |some (.ext _)=>True
 |_=>False
section
variable {H:Hp}{x e:Addr}{o':HO}
def HOk.write(ok:HOk P w H h)(mu:Mut (H x))(he:e=x\/H e=some (.own x))(k:∀b u,b≠e->h.get? b=some u->h'.get? b=some u)(heo:∃u,h'.get? e=some u)
  (new:ObjOk P w (upd H x o') h' x o'):HOk P w (upd H x o') h':=λb u q=>by
 have nown:∀c y,H c=some (.own y)->c≠x:=λc y r z=>by subst z;rw[r]at mu;exact mu
 have ntup:∀c xs,H c=some (.tup xs)->c≠x:=λc xs r z=>by subst z;rw[r]at mu;exact mu
 by_cases hb:b=x
 ·subst hb;rw[Qh]at q;cases q;exact new
 ·rw[Qc hb]at q;by_cases hbe:b=e
  ·have q':H b=some (.own x):=by
    rcases he with z|z
    ·exact absurd (hbe.trans z) hb
    ·rw[hbe];exact z
   rw[q]at q';cases q';obtain⟨v,hv⟩:=heo
   exact⟨v,by rw[hbe];exact hv⟩
  ·refine(ok b u q).stay (λc v hc r=>k c v ?_ r) (λc r=>by rw[Qc (nown c b r)];exact r) λc xs r=>by rw[Qc (ntup c xs r)];exact r
   rcases hc with rfl|hc
   ·exact hbe
   ·rintro rfl
    rcases he with z|z
    ·exact nown c b hc z
    ·rw[hc]at z;cases z;exact hb rfl
end
structure Un(fs ex:List Addr)(H H':Hp)(h h':Heap):Prop where
 keep:∀b o,h.get? b=some o->H b=none->b∉fs->b∉ex->h'.get? b=some o
 slot:∀b o,h.get? b=some o->H b=none->b∈fs->b∉ex->∃sl,h'.get? b=some {o with slots:=sl}
 free:∀b o,h.get? b=some o->H b=none->b∉ex->H' b=none
 there:∀b o,h.get? b=some o->b∉ex->∃o',h'.get? b=some o'
 tups:∀b xs,H b=some (.tup xs)->H' b=some (.tup xs)
 frzs:∀b o u,H b=some (.frz o u)->H' b=some (.frz o u)
 tbls:∀b ps,H b=some (.tbl ps)->∃more,H' b=some (.tbl (ps++more))
section
variable {fs ex:List Addr}{H H1:Hp}{h1:Heap}{x e:Addr}{o:HO}
def Un.any(u:Un fs ex H H1 h h1)(q:h.get? b=some ob)(n:H b=none)(hx:b∉ex):∃sl,h1.get? b=some {ob with slots:=sl}:=by
 by_cases hb:b∈fs
 ·exact u.slot b ob q n hb hx
 ·exact⟨ob.slots,u.keep b ob q n hb hx⟩
def Un.kept(k:∀b u,h.get? b=some u->h'.get? b=some u):Un fs ex H H h h' :=
 ⟨λb ob q z z z=>k b ob q,λb ob q z z z=>⟨ob.slots,k b ob q⟩,λz z z n z=>n,λb ob q z=>⟨ob,k b ob q⟩,λz z q=>q,λz z z q=>q,λz ps q=>⟨#[],by rw[q];simp⟩⟩
def Un.refl:Un fs ex H H h h:=Un.kept λz z q=>q
def Un.laid(k:∀b u,h.get? b=some u->h'.get? b=some u)(hp:h.objs.size<=a)(hn:H a=none):Un fs ex H (upd H a o) h h' where
 keep:=λb u q z z z=>k b u q
 slot:=λb u q z z z=>⟨u.slots,k b u q⟩
 free:=λb u q n z=>by rw[Qc (X0 (Wg (Xo q) hp))];exact n
 there:=λb u q z=>⟨u,k b u q⟩
 tups:=λb xs q=>by rw[Qc (Zq q hn)];exact q
 frzs:=λb u xs q=>by rw[Qc (Zq q hn)];exact q
 tbls:=λb ps q=>⟨#[],by rw[Qc (Zq q hn),q];simp⟩
def Un.write(mu:Mut (H x))(he:e=x\/H e=some (.own x))(k:∀b u,b≠e->h.get? b=some u->h'.get? b=some u)(heo:∃u,h'.get? e=some u):Un fs ex H (upd H x o) h h':=by
 have hx:∀b,H b=none->b≠x:=λb n z=>by subst z;rw[n]at mu;exact mu
 have hb:∀b,H b=none->b≠e:=λb n z=>by
  subst z
  rcases he with r|r
  ·exact hx b n r
  ·rw[n]at r;cases r
 have hm:∀b u,H b=some u->¬Mut (some u)->b≠x:=λb u q nm z=>by subst z;rw[q]at mu;exact nm mu
 refine⟨λb u q n y y=>k b u (hb b n) q,λb u q n y y=>⟨u.slots,k b u (hb b n) q⟩,λb u q n y=>by rw[Qc (hx b n)];exact n,λb u q y=>?_,
  λb xs q=>by rw[Qc (hm b _ q λz=>z)];exact q,λb u xs q=>by rw[Qc (hm b _ q λz=>z)];exact q,λb ps q=>⟨#[],by rw[Qc (hm b _ q λz=>z),q];simp⟩⟩
 by_cases hbe:b=e
 ·subst hbe;exact heo
 ·exact⟨u,k b u hbe q⟩
end
noncomputable def trk(h:Heap)(H:Hp):List Addr:=(List.range h.objs.size).filter λa=>(H a).isSome
noncomputable def Qfu(h:Heap)(H:Hp):Heap:=W.hideAll h (trk h H)
def QdZ(h:Heap)(H:Hp):(Qfu h H).objs.size=h.objs.size:=W.hideAll_size _ _
def Qft(e:h.get? b=some o)(n:H b=none):(Qfu h H).get? b=some o :=
 W.hideAll_get _ e λhm=>by
  have q:(H b).isSome=true:=(List.mem_filter.mp hm).2;rw[n]at q;simp at q
def QhV(e:(Qfu h H).get? b=some o):h.get? b=some o/\H b=none:=by
 have e':h.get? b=some o:=W.of_hideAll (trk h H) e;refine⟨e',?_⟩
 cases q:H b with
 |none=>rfl
 |some x=>
  have hm:b∈trk h H:=List.mem_filter.mpr ⟨T5.mpr (Xo e'),by simp[q]⟩
  have z:(Qfu h H).get? b=none:=W.hideAll_none (trk h H) hm;rw[z]at e;cases e
end
section
variable {A:Around}{ch:List Addr}{M:Model}{i t':Nat}{x:Str}
structure Mod(K:W.Frag)(mg:Str->Option Value)(base:Heap):Prop where
 kin:K.In base
 glob:base.Ns mainGlobals mg
 blt:∃mb,base.Ns builtinsNs mb/\∀x:Str,x≠"__name__"->mb x=bootBuiltins x
 nolimit:base.NoLimit
structure Cx where
 prog:Program
 w:World
 K:W.Frag
 mg:Str->Option Value
 base:Heap
 A:Around
 N:List Str
 s₀:Shared
 H₀:Hp
 env:Env
 outer:List Env
 stack:List Env
 ex:List Addr
 fn:Str->Bool
 calm:Bool
 pn:List (Addr×Obj)
 xe:Value->Shared->Prop
noncomputable def frs(l:List Env):List Addr:=l.filterMap (·.frame)
noncomputable abbrev Cx.fs(X:Cx):List Addr:=frs X.outer
def Vis(sc:Scope)(x:Str):Prop:=sc.names.lookup x=some .local\/sc.names.lookup x=some .cell\/sc.names.lookup x=some .free
def Loc(sc:Scope)(x:Str):Prop:=sc.names.lookup x=some .local\/sc.names.lookup x=some .cell
noncomputable def Qrn(env:Env)(h:Heap)(m:Str->Option Value)(x:Str)(u:Value):Prop :=
 (env.kindOf x=some .local/\m x=some u)\/((env.kindOf x=some .cell\/env.kindOf x=some .free)/\∃c,env.cells.lookup x=some c/\h.IsCell c (some u))
structure Cx.Ok(X:Cx):Prop where
 mod:Mod X.K X.mg X.base
 kind:X.env.scope.kind=.function
 glob:X.env.globals=mainGlobals
 blt:X.env.builtins=builtinsNs
 above:X.s₀.heap.objs.size<=X.env.locals
 inj:∀x y c,X.env.cells.lookup x=some c->X.env.cells.lookup y=some c->x=y
 has:∀x,(X.env.kindOf x=some .cell\/X.env.kindOf x=some .free)->∃c,X.env.cells.lookup x=some c
 cab:∀x c,X.fn x=true->X.env.cells.lookup x=some c->X.s₀.heap.objs.size<=c
 hd:X.calm=true->X.A.handled=none
 frames:X.A.frames=some X.stack
 stk:X.stack=X.outer\/(X.stack=X.env::X.outer/\X.env.frame=some X.env.locals)
 exf:∀b∈X.ex,b≠X.env.locals/\∀x c,X.env.cells.lookup x=some c->c≠b
 bs:∀b o,X.base.get? b=some o->X.s₀.heap.get? b=some o/\X.H₀ b=none
 bsz:X.base.objs.size<=X.s₀.heap.objs.size
 noex:∀b o,X.base.get? b=some o->b∉X.ex
 exfs:∀b∈X.ex,b∉X.fs
 funs:X.s₀.heap.FunFrames X.base X.outer
 frf:∀b∈X.fs,X.H₀ b=none
structure Inv(X:Cx)(pins:List (Addr×Obj))(Y:List (Option V))(H:Hp)(s:Shared):Prop where
 ok:X.Ok
 os:s.os=X.s₀.os
 bare:AllBare s.gens
 base:Un X.fs X.ex X.H₀ H X.s₀.heap s.heap
 loc:∃m,s.heap.Ns X.env.locals m/\∀(i:Nat) (x:Str) (v:V),X.N[i]?=some x->Y[i]?=some (some v)->Vis X.env.scope x->∃u,RelV v u/\Qrn X.env s.heap m x u
 cell:∀x c,X.env.cells.lookup x=some c->∃v,s.heap.IsCell c v
 free:H X.env.locals=none
 freeC:∀x c,X.env.cells.lookup x=some c->H c=none
 pin:∀p∈X.pn++pins,s.heap.get? p.1=some p.2/\H p.1=none/\p.1≠X.env.locals/\p.1∉X.fs/\∀v,p.2.data≠.cell v
 hok:HOk X.prog X.w H s.heap
 len:Y.length=X.N.length
section
variable {X:Cx}{pins:List (Addr×Obj)}{Y:List (Option V)}{H H':Hp}{s:Shared}{h':Heap}
def Cx.Ok.nofr(ok:X.Ok)(e:X.base.get? b=some o):b∉X.fs:=λhb=>by
 have:=(ok.funs.mem hb).1;rw[e]at this;cases this
theorem Inv.bs(I:Inv X pins Y H s):∀b o,X.base.get? b=some o->s.heap.get? b=some o/\H b=none:=λb o e=>
 ⟨I.base.keep b o (I.ok.bs b o e).1 (I.ok.bs b o e).2 (I.ok.nofr e) (I.ok.noex b o e),I.base.free b o (I.ok.bs b o e).1 (I.ok.bs b o e).2 (I.ok.noex b o e)⟩
def Inv.bk(I:Inv X pins Y H s):∀b o,X.base.get? b=some o->s.heap.get? b=some o:=λb o e=>(I.bs b o e).1
theorem Inv.mod(I:Inv X pins Y H s):Mod X.K X.mg X.base:=I.ok.mod
def Inv.kIn(I:Inv X pins Y H s):X.K.In s.heap:=I.ok.mod.kin.keeps I.bk
theorem Inv.lt(I:Inv X pins Y H s):X.env.locals<s.heap.objs.size:=by obtain⟨_,hn,_⟩:=I.loc;exact hn.lt
def Inv.sz(I:Inv X pins Y H s):X.s₀.heap.objs.size<=s.heap.objs.size:=X3 I.ok.above (Nat.le_of_lt I.lt)
def Inv.nofs(I:Inv X pins Y H s)(h:s.heap.objs.size<=a):a∉X.fs:=λhb=>by
 obtain⟨_,o,ho,_⟩:=I.ok.funs.mem hb;exact absurd (Wg (Xo ho) (X3 I.sz h)) (Vx _)
def Inv.cne(I:Inv X pins Y H s):∀x c,X.env.cells.lookup x=some c->c≠X.env.locals:=λx c e z=>by
 obtain⟨v,o,ho,hd⟩:=I.cell x c e;obtain⟨m,⟨o',es,ep,ho',hd',_⟩,_⟩:=I.loc;rw[z,ho']at ho;cases ho;rw[hd']at hd;cases hd
theorem Inv.funs(I:Inv X pins Y H s):s.heap.FunFrames X.base X.outer:=by
 have all:∀(l:List Env),(∀b∈frs l,b∈X.fs)->X.s₀.heap.FunFrames X.base l->s.heap.FunFrames X.base l:=by
  intro l
  induction l with
  |nil=>intro _ _;trivial
  |cons env r ih=>
   intro hs hl;obtain⟨hk,⟨L,o,hf,hn,ho,hd⟩,hr⟩:=hl
   have hL:L∈X.fs:=hs L (by unfold frs;rw[T3,hf];exact Xm)
   obtain⟨sl,e⟩:=I.base.slot L o ho (I.ok.frf L hL) hL λz=>I.ok.exfs L z hL
   exact⟨hk,⟨L,_,hf,hn,e,hd⟩,ih (λb hb=>hs b (by unfold frs;rw[T3,hf];exact Xi _ hb)) hr⟩
 exact all X.outer (λy hb=>hb) I.ok.funs
theorem Inv.stack(I:Inv X pins Y H s):s.heap.FunFrames X.base X.stack:=by
 rcases I.ok.stk with e|⟨e,hf⟩
 ·rw[e];exact I.funs
 ·rw[e];obtain⟨m,hn,_⟩:=I.loc
  refine .cons (by rw[I.ok.kind];decide) hf hn ?_ I.funs
  exact Heap.get?_none_of_le (X3 I.ok.bsz I.ok.above)
def Inv.stkSub(I:Inv X pins Y H s):∀b∈frs X.stack,b∈X.env.locals::X.fs:=λb hb=>by
 rcases I.ok.stk with e|⟨e,hf⟩
 ·rw[e]at hb;exact Xi _ hb
 ·rw[e]at hb;unfold frs at hb;rw[T3,hf]at hb;exact hb
def Inv.stkFree(I:Inv X pins Y H s):∀b∈frs X.stack,H b=none:=λb hb=>by
 rcases Xd.mp (I.stkSub b hb)with e|hb
 ·rw[e];exact I.free
 ·obtain⟨_,o,ho,_⟩:=I.ok.funs.mem hb;exact I.base.free b o ho (I.ok.frf b hb) λz=>I.ok.exfs b z hb
def Inv.step(I:Inv X pins Y H s)
  (hch:∀b∈ch,(b∈X.ex\/X.s₀.heap.objs.size<=b)/\b≠X.env.locals/\(∀x c,X.env.cells.lookup x=some c->c≠b)/\∀p∈X.pn++pins,p.1≠b)
  (keep:∀b o,b≠X.env.locals->b∉X.fs->b∉ch->s.heap.get? b=some o->H b=none->h'.get? b=some o)
  (slot:∀b o,b≠X.env.locals->b∈X.fs->b∉ch->s.heap.get? b=some o->H b=none->∃sl,h'.get? b=some {o with slots:=sl}) (free:∀b o,b∉ch->s.heap.get? b=some o->H b=none->H' b=none)
  (there:∀b o,b∉ch->s.heap.get? b=some o->∃o',h'.get? b=some o')
  (tups:∀b xs,H b=some (.tup xs)->H' b=some (.tup xs)) (frzs:∀b o u,H b=some (.frz o u)->H' b=some (.frz o u)) (tbls:∀b ps,H b=some (.tbl ps)->∃more,H' b=some (.tbl (ps++more)))
  (ns:∀m,s.heap.Ns X.env.locals m->h'.Ns X.env.locals m) (hok:HOk X.prog X.w H' h') (hg:AllBare g'):
  Inv X pins Y H' {s with heap:=h',gens:=g',drawn:=d',toks:=t'}:=by
 have neL:∀b o,X.s₀.heap.get? b=some o->b≠X.env.locals:=λb o e=>X0 (Wg (Xo e) I.ok.above)
 have neC:∀b o,X.s₀.heap.get? b=some o->b∉X.ex->b∉ch:=λb o e hx hb=>by
  rcases (hch b hb).1 with z|z
  ·exact hx z
  ·exact absurd (Wg (Xo e) z) (Vx _)
 have cellK:∀x c,X.env.cells.lookup x=some c->∀v,s.heap.IsCell c v->h'.IsCell c v:=λx c e v y=>by
  obtain⟨o,ho,hd⟩:=y
  have nch:c∉ch:=λz=>(hch c z).2.2.1 x c e rfl;by_cases hc:c∈X.fs
  ·obtain⟨sl,q⟩:=slot c o (I.cne x c e) hc nch ho (I.freeC x c e);exact⟨_,q,hd⟩
  ·exact⟨o,keep c o (I.cne x c e) hc nch ho (I.freeC x c e),hd⟩
 refine⟨I.ok,I.os,hg,⟨λb o e n hb hx=>?_,λb o e n hb hx=>?_,λb o e n hx=>?_,λb o e hx=>?_,λb xs e=>tups b xs (I.base.tups b xs e),λb o xs e=>frzs b o xs (I.base.frzs b o xs e),λb ps e=>?_⟩,?_,λx c e=>?_,?_,λx c e=>?_,λp hp=>?_,hok,I.len⟩
 ·exact keep b o (neL b o e) hb (neC b o e hx) (I.base.keep b o e n hb hx) (I.base.free b o e n hx)
 ·obtain⟨sl,e1⟩:=I.base.slot b o e n hb hx;obtain⟨sl',e2⟩:=slot b _ (neL b o e) hb (neC b o e hx) e1 (I.base.free b o e n hx);exact⟨sl',e2⟩
 ·obtain⟨o',e1⟩:=I.base.there b o e hx;exact free b o' (neC b o e hx) e1 (I.base.free b o e n hx)
 ·obtain⟨o',e1⟩:=I.base.there b o e hx;exact there b o' (neC b o e hx) e1
 ·obtain⟨m1,e1⟩:=I.base.tbls b ps e;obtain⟨m2,e2⟩:=tbls b _ e1
  exact⟨m1++m2,by rw[e2,Array.append_assoc]⟩
 ·obtain⟨m,hn,hl⟩:=I.loc;refine⟨m,ns m hn,λi x v e1 e2 e3=>?_⟩;obtain⟨u,r,l⟩:=hl i x v e1 e2 e3;refine⟨u,r,?_⟩
  rcases l with l|⟨k,c,e,z⟩
  ·exact .inl l
  ·exact .inr ⟨k,c,e,cellK x c e _ z⟩
 ·obtain⟨v,z⟩:=I.cell x c e;exact⟨v,cellK x c e v z⟩
 ·obtain⟨m,⟨o,_,_,ho,_⟩,_⟩:=I.loc;exact free _ o (λz=>(hch _ z).2.1 rfl) ho I.free
 ·obtain⟨v,o,ho,hd⟩:=I.cell x c e;exact free c o (λz=>(hch c z).2.2.1 x c e rfl) ho (I.freeC x c e)
 ·obtain⟨e,n,ne,nf,d⟩:=I.pin p hp;have nch:p.1∉ch:=λz=>(hch p.1 z).2.2.2 p hp rfl;exact⟨keep p.1 p.2 ne nf nch e n,free p.1 p.2 nch e n,ne,nf,d⟩
def Inv.un(I:Inv X pins Y H s)(u:Un X.fs [] H H' s.heap h')(hok:HOk X.prog X.w H' h'):Inv X pins Y H' {s with heap:=h',toks:=t'}:=by
 obtain⟨m,⟨o,es,ep,ho,r⟩,_⟩:=id I.loc
 obtain⟨sl,hL⟩:=u.any ho I.free (by simp)
 exact I.step (g':=s.gens) (d':=s.drawn) (ch:=[]) (λy z=>nomatch z) (λb o y hb y e n=>u.keep b o e n hb (by simp)) (λb o y hb y e n=>u.slot b o e n hb (by simp)) (λb o y e n=>u.free b o e n (by simp)) (λb o y e=>u.there b o e (by simp)) u.tups u.frzs u.tbls (λm' hm=>by
  obtain⟨o',es',ep',ho',r'⟩:=hm;rw[ho]at ho';cases ho'
  exact⟨_,es',ep',hL,r'⟩) hok I.bare
def Inv.call(I:Inv X pins Y H s)(u:Un (frs X.stack) ch H H' s.heap h')(hok:HOk X.prog X.w H' h')(hg:AllBare g')
  (hch:∀b∈ch,(b∈X.ex\/X.s₀.heap.objs.size<=b)/\b≠X.env.locals/\(∀x c,X.env.cells.lookup x=some c->c≠b)/\∀p∈X.pn++pins,p.1≠b):
  Inv X pins Y H' {s with heap:=h',gens:=g',drawn:=d',toks:=t'}:=by
 obtain⟨m,⟨o,es,ep,ho,r⟩,_⟩:=id I.loc;obtain⟨sl,hL⟩:=u.any ho I.free λz=>(hch _ z).2.1 rfl
 exact I.step (ch:=ch) hch (λb o hL hb hc e n=>u.keep b o e n (λz=>(Xd.mp (I.stkSub b z)).elim hL hb) hc) (λb o y y hc e n=>u.any e n hc) (λb o hc e n=>u.free b o e n hc) (λb o hc e=>u.there b o e hc) u.tups u.frzs u.tbls (λm' hm=>by
  obtain⟨o',es',ep',ho',r'⟩:=hm;rw[ho]at ho';cases ho'
  exact⟨_,es',ep',hL,r'⟩) hok hg
def Inv.turned{it:Addr}(I:Inv X pins Y H s)(k:∀b o,b≠it->s.heap.get? b=some o->h'.get? b=some o)(hn:H it=none)(hL:it≠X.env.locals)
  (h1:it∈X.ex\/X.s₀.heap.objs.size<=it) (h2:∀x c,X.env.cells.lookup x=some c->c≠it) (h3:∀p∈X.pn++pins,p.1≠it):Inv X pins Y H {s with heap:=h',toks:=t'}:=by
 have nit:∀b u,H b=some u->b≠it:=λb u e z=>by rw[z,hn]at e;cases e
 refine I.step (g':=s.gens) (d':=s.drawn) (ch:=[it]) (λb hb=>?_) (λb o y y hc e y=>k b o (λz=>hc (by simp[z])) e) (λb o y y hc e y=>⟨o.slots,k b o (λz=>hc (by simp[z])) e⟩) (λy y y y n=>n)
  (λb o hc e=>⟨o,k b o (λz=>hc (by simp[z])) e⟩) (λy y e=>e) (λy y y e=>e) (λb ps e=>⟨#[],by rw[e];simp⟩) (λm hm=>?_) (λb u e=>?_) I.bare
 ·have e:b=it:=by simpa using hb
  subst e;exact⟨h1,hL,h2,h3⟩
 ·obtain⟨o,es,ep,ho,r⟩:=hm;exact⟨o,es,ep,k _ o (X8 hL) ho,r⟩
 ·refine(I.hok b u e).stay (λc v hc q=>k c v ?_ q) (λy q=>q) λy y q=>q
  rcases hc with z|z
  ·rw[z];exact nit b u e
  ·exact nit c _ z
def Inv.tok(I:Inv X pins Y H s)(t:Nat):Inv X pins Y H {s with toks:=t}:=I.un (h':=s.heap) (t':=t) Un.refl I.hok
theorem Inv.kept(I:Inv X pins Y H s)(k:∀b u,s.heap.get? b=some u->h'.get? b=some u):Inv X pins Y H {s with heap:=h',toks:=t'}:=I.un (Un.kept k) (I.hok.kept k)
theorem Inv.laid(I:Inv X pins Y H s)(k:∀b u,s.heap.get? b=some u->h'.get? b=some u)(hp:s.heap.objs.size<=a)(new:ObjOk X.prog X.w (upd H a o) h' a o):
  Inv X pins Y (upd H a o) {s with heap:=h',toks:=t'}:=I.un (Un.laid k hp (I.hok.fresh hp)) (I.hok.laid k hp new)
theorem Inv.write{x e:Addr}{o:HO}(I:Inv X pins Y H s)(mu:Mut (H x))(he:e=x\/H e=some (.own x))(k:∀b u,b≠e->s.heap.get? b=some u->h'.get? b=some u)(heo:∃u,h'.get? e=some u)
  (new:ObjOk X.prog X.w (upd H x o) h' x o):Inv X pins Y (upd H x o) {s with heap:=h',toks:=t'}:=I.un (Un.write mu he k heo) (I.hok.write mu he k heo new)
def Inv.pins_of(I:Inv X pins Y H s)(h:∀p∈pins',s.heap.get? p.1=some p.2/\H p.1=none/\p.1≠X.env.locals/\p.1∉X.fs/\∀v,p.2.data≠.cell v):Inv X pins' Y H s :=
 ⟨I.ok,I.os,I.bare,I.base,I.loc,I.cell,I.free,I.freeC,λp hp=>(Wp.mp hp).elim (λz=>I.pin p (List.mem_append_left _ z)) (h p),I.hok,I.len⟩
def QbU{N:List Str}(hN:N.Nodup){j:Nat}(a:N[i]?=some x)(b:N[j]?=some x):i=j:=by
 obtain⟨h1,e1⟩:=Xa.mp a;obtain⟨h2,e2⟩:=Xa.mp b;exact(List.getElem_inj hN).mp (e1.trans e2.symm)
def Qc8{E:Value->Shared->Prop}{v:V}{u:Value}{Q:Unit->Shared->Prop}(I:Inv X pins Y H s)(hN:X.N.Nodup)(hi:X.N[i]?=some x)(hx:Loc X.env.scope x)(r:RelV v u)
  (h:∀s',Inv X pins (Y.set i (some v)) H s'->(∃a,Heap.SameBut a s.heap s'.heap/\(a=X.env.locals\/X.env.cells.lookup x=some a))->Q () s') (hf:X.fn x=true\/X.env.scope.names.lookup x=some .local:=by first|exact .inl rfl|exact .inr rfl|assumption):wpAny M A (storeName X.env x u) Q E s:=by
 obtain⟨m,hn,hl⟩:=id I.loc
 have hcls:(X.env.scope.kind==.class||(X.env.scope.kind==.module&&X.env.locals != X.env.globals))=false:=by rw[I.ok.kind];rfl
 have hiY:i < Y.length:=by rw[I.len];exact(Xa.mp hi).1
 have cne:=I.cne
 have tracked:∀{a:Addr} {h':Heap},(∃o,s.heap.get? a=some o/\H a=none)->Heap.SameBut a s.heap h'->HOk X.prog X.w H h':=λ{a h'} ha hs b ob e=>by
  obtain⟨_,_,hfree⟩:=ha;refine(I.hok b ob e).stay (λc w' hc q=>(hs.2 c ?_).trans q) (λt q=>q) λt t q=>q;rintro rfl
  rcases hc with rfl|hc
  ·rw[hfree]at e;cases e
  ·rw[hfree]at hc;cases hc
 rcases hx with hk|hk
 ·refine wpAny_storeName_local hk hn (λh' hn' hs=>?_) hcls;obtain⟨oL,_,_,hoL,_⟩:=id hn
  refine h _ ⟨I.ok,I.os,I.bare,⟨λb o e n hb hx=>?_,λb o e n hb hx=>?_,I.base.free,λb o e hx=>?_,I.base.tups,I.base.frzs,I.base.tbls⟩,⟨_,hn',λj y v' e1 e2 e3=>?_⟩,λy c e=>?_,I.free,I.freeC,λp hp=>?_,tracked ⟨oL,hoL,I.free⟩ hs,by simpa using I.len⟩ ⟨_,hs,.inl rfl⟩
  ·exact(hs.2 b (X0 (Wg (Xo e) I.ok.above))).trans (I.base.keep b o e n hb hx)
  ·obtain⟨sl,e1⟩:=I.base.slot b o e n hb hx;exact⟨sl,(hs.2 b (X0 (Wg (Xo e) I.ok.above))).trans e1⟩
  ·obtain⟨o',e1⟩:=I.base.there b o e hx;exact⟨o',(hs.2 b (X0 (Wg (Xo e) I.ok.above))).trans e1⟩
  ·by_cases hj:j=i
   ·subst hj;rw[hi]at e1;cases e1;rw[Xr hiY]at e2;cases e2
    exact⟨u,r,.inl ⟨hk,by simp⟩⟩
   ·rw[Xe (X8 hj)]at e2;obtain⟨u',r',q⟩:=hl j y v' e1 e2 e3;refine⟨u',r',?_⟩
    rcases q with⟨k,e⟩|⟨k,c,e,z⟩
    ·refine .inl ⟨k,?_⟩;have:y≠x:=λe=>hj (QbU hN e1 (e▸hi));simp[this,e]
    ·exact .inr ⟨k,c,e,z.sameBut hs (cne y c e)⟩
  ·obtain⟨w',z⟩:=I.cell y c e;exact⟨w',z.sameBut hs (cne y c e)⟩
  ·obtain⟨e,n,ne,nf,d⟩:=I.pin p hp;exact⟨(hs.2 p.1 ne).trans e,n,ne,nf,d⟩
 ·have hfn:X.fn x=true:=by
   rcases hf with z|z
   ·exact z
   ·rw[z]at hk;cases hk
  obtain⟨c,hc⟩:=I.ok.has x (.inl hk);obtain⟨w',z⟩:=I.cell x c hc;refine wpAny_storeName_cell I.ok.kind hk hc z (λh' hc' hs=>?_);obtain⟨oc,hoc,hocd⟩:=id z
  refine h {s with heap:=h'} ⟨I.ok,I.os,I.bare,⟨λb o e n hb hx=>?_,λb o e n hb hx=>?_,I.base.free,λb o e hx=>?_,I.base.tups,I.base.frzs,I.base.tbls⟩,⟨m,hn.sameBut hs (X8 (cne x c hc)),λj y v' e1 e2 e3=>?_⟩,λy c' e=>?_,I.free,I.freeC,λp hp=>?_,tracked ⟨oc,hoc,I.freeC x c hc⟩ hs,by simpa using I.len⟩ ⟨c,hs,.inr hc⟩
  ·exact(hs.2 b (X0 (Wg (Xo e) (I.ok.cab x c hfn hc)))).trans (I.base.keep b o e n hb hx)
  ·obtain⟨sl,e1⟩:=I.base.slot b o e n hb hx;exact⟨sl,(hs.2 b (X0 (Wg (Xo e) (I.ok.cab x c hfn hc)))).trans e1⟩
  ·obtain⟨o',e1⟩:=I.base.there b o e hx;exact⟨o',(hs.2 b (X0 (Wg (Xo e) (I.ok.cab x c hfn hc)))).trans e1⟩
  ·by_cases hj:j=i
   ·subst hj;rw[hi]at e1;cases e1;rw[Xr hiY]at e2;cases e2;exact⟨u,r,.inr ⟨.inl hk,c,hc,hc'⟩⟩
   ·rw[Xe (X8 hj)]at e2;obtain⟨u',r',q⟩:=hl j y v' e1 e2 e3;refine⟨u',r',?_⟩
    rcases q with q|⟨k,c',e,z'⟩
    ·exact .inl q
    ·refine .inr ⟨k,c',e,z'.sameBut hs ?_⟩;rintro rfl;exact hj (QbU hN e1 (I.ok.inj _ _ _ e hc▸hi))
  ·by_cases hcc:c'=c
   ·subst hcc;exact⟨_,hc'⟩
   ·obtain⟨w2,z2⟩:=I.cell y c' e;exact⟨w2,z2.sameBut hs hcc⟩
  ·obtain⟨e,n,ne,nf,d⟩:=I.pin p hp;refine⟨(hs.2 p.1 ?_).trans e,n,ne,nf,d⟩;intro q;rw[q,hoc]at e;have q':oc=p.2:=X4 e
   exact d w' (by rw[<-q'];exact hocd)
def JK{E:Value->Shared->Prop}{v:V}{u:Value}{Q:Unit->Shared->Prop}(I:Inv X pins Y H s)(hN:X.N.Nodup)(hi:X.N[i]?=some x)(hx:Loc X.env.scope x)(r:RelV v u)
  (h:∀s',Inv X pins (Y.set i (some v)) H s'->Q () s') (hf:X.fn x=true\/X.env.scope.names.lookup x=some .local:=by first|exact .inl rfl|exact .inr rfl|assumption):wpAny M A (storeName X.env x u) Q E s :=
 Qc8 I hN hi hx r (λs' I' z=>h s' I') hf
def Inv.call'(I:Inv X pins Y H s)(ho:s'.os=s.os)(u:Un (frs X.stack) ch H H' s.heap s'.heap)(hok:HOk X.prog X.w H' s'.heap)(hg:AllBare s'.gens)
  (hch:∀b∈ch,(b∈X.ex\/X.s₀.heap.objs.size<=b)/\b≠X.env.locals/\(∀x c,X.env.cells.lookup x=some c->c≠b)/\∀p∈X.pn++pins,p.1≠b):Inv X pins Y H' s':=by
 obtain⟨h',g',d',t',o'⟩:=s';have e:o'=s.os:=ho;subst e;exact I.call (g':=g') (t':=t') (d':=d') u hok hg hch
end
abbrev XK:=Value->Option Addr->Hp->Prop
abbrev St:=List (Option V)
abbrev VK:=V->Hp->Prop
abbrev TE:=St->Hp->VK->Prop
abbrev TT:=St->Hp->(Bool->Hp->Prop)->Prop
abbrev TA:=St->Hp->(List V->Hp->Prop)->Prop
structure Ends where
 nx:St->Hp->Prop
 rt:VK
 bk:St->Hp->Prop:=λ_ _=>False
 ct:St->Hp->Prop:=λ_ _=>False
abbrev TS:=Ends->St->Hp->Prop
def EP(X:Cx)(pins:List (Addr×Obj))(Y:St)(Q:VK)(u:Value)(s':Shared):Prop:=∃v H',Inv X pins Y H' s'/\RelV v u/\Q v H'
def TP(X:Cx)(pins:List (Addr×Obj))(Y:St)(Q:Bool->Hp->Prop)(b:Bool)(s':Shared):Prop:=∃H',Inv X pins Y H' s'/\Q b H'
def AP(X:Cx)(pins:List (Addr×Obj))(Y:St)(Q:List V->Hp->Prop)(us:List Value)(s':Shared):Prop:=∃vs H',Inv X pins Y H' s'/\Vals vs us/\Q vs H'
noncomputable def SP(X:Cx)(pins:List (Addr×Obj))(D:Ends)(f:Flow)(s':Shared):Prop :=
 match f with
 |.next=>∃Y' H',Inv X pins Y' H' s'/\D.nx Y' H'
 |.brk=>∃Y' H',Inv X pins Y' H' s'/\D.bk Y' H'
 |.cont=>∃Y' H',Inv X pins Y' H' s'/\D.ct Y' H'
 |.ret u=>∃v Y' H',Inv X pins Y' H' s'/\RelV v u/\D.rt v H'
noncomputable def PE(X:Cx)(e:Expr)(t:TE):Prop :=
 ∀(pins:List (Addr×Obj)) (s:Shared) (Y:St) (H:Hp) (Q:VK),Inv X pins Y H s->t Y H Q->wpAny (model X.prog X.w) X.A (eval e X.env) (EP X pins Y Q) X.xe s
noncomputable def PT(X:Cx)(e:Expr)(t:TT):Prop :=
 ∀(pins:List (Addr×Obj)) (s:Shared) (Y:St) (H:Hp) (Q:Bool->Hp->Prop),Inv X pins Y H s->t Y H Q->wpAny (model X.prog X.w) X.A (isTrue e X.env (eval e X.env)) (TP X pins Y Q) X.xe s
noncomputable def PW(X:Cx)(e:Expr)(t:TT):Prop :=
 ∀(whole:Sem Value) (pins:List (Addr×Obj)) (s:Shared) (Y:St) (H:Hp) (Q:Bool->Hp->Prop),Inv X pins Y H s->t Y H Q->wpAny (model X.prog X.w) X.A (isTrue e X.env whole) (TP X pins Y Q) X.xe s
def PW.pt(h:PW X e t):PT X e t:=h _
noncomputable def PA(X:Cx)(es:List Expr)(t:TA):Prop :=
 ∀(pos:Pos) (pins:List (Addr×Obj)) (s:Shared) (Y:St) (H:Hp) (Q:List V->Hp->Prop),Inv X pins Y H s->t Y H Q->wpAny (model X.prog X.w) X.A (spliced (backTo pos (starEach es X.env))) (AP X pins Y Q) X.xe s
noncomputable def PS(X:Cx)(st:Stmt)(t:TS):Prop :=
 ∀(pins:List (Addr×Obj)) (s:Shared) (Y:St) (H:Hp) (D:Ends),Inv X pins Y H s->t D Y H->wpAny (model X.prog X.w) X.A (exec st X.env) (SP X pins D) X.xe s
noncomputable def PSs(X:Cx)(st:List Stmt)(t:TS):Prop :=
 ∀(pins:List (Addr×Obj)) (s:Shared) (Y:St) (H:Hp) (D:Ends),Inv X pins Y H s->t D Y H->wpAny (model X.prog X.w) X.A (execs st X.env) (SP X pins D) X.xe s
def thn{α:Type}{t:Sem α}{Q Q':α->Shared->Prop}{E:Value->Shared->Prop}{s:Shared}(h:wpAny M A t Q E s)(hQ:∀a s,Q a s->Q' a s):wpAny M A t Q' E s:=W2 h hQ λz z x=>x
end
section
variable {pos:Pos}{x:Str}{u:Value}
section
variable {X:Cx}
def QpJ(i:Nat):TE:=λY H Q=>∃v,Y[i]?=some (some v)/\Q v H
def tC(v:V):TE:=λz H Q=>Q v H
def Qkz(hN:X.N[i]?=some x)(hv:Vis X.env.scope x)(hd:(x==("__debug__":Str))=false:=by decide)(hcd:(x==("__classdict__":Str))=false:=by decide):PE X (.Name x pos) (QpJ i):=by
 intro pins s Y H Q I h;obtain⟨v,e,h⟩:=h;obtain⟨m,hn,hl⟩:=I.loc;obtain⟨u,r,l⟩:=hl i x v hN e hv;have fin:EP X pins Y Q u s:=⟨v,H,I,r,h⟩
 rcases l with⟨hk,hm⟩|⟨hk,c,hc,hcell⟩
 ·exact wpAny_Name (wpAny_loadName_local I.ok.kind hk hn hm fin) hd
 ·rcases hk with hk|hk
  ·exact wpAny_Name (wpAny_loadName_cell I.ok.kind hk hc hcell fin) hd
  ·exact wpAny_Name (wpAny_loadName_free I.ok.kind hk hc hcell fin hcd) hd
def QkD{i j pos}:PE X (.Constant (.int i) j pos) (tC (.int i)):=λz z z H z I h=>wpAny_Constant_int ⟨.int i,H,I.tok _,⟨_,rfl⟩,h⟩
def Qnz{b j pos}:PE X (.Constant (.bool b) j pos) (tC (.bl b)):=λz z z H z I h=>Constant_bool ⟨.bl b,H,I,rfl,h⟩
def QkB{j pos}:PE X (.Constant .none j pos) (tC .non):=λz z z H z I h=>Constant_none ⟨.non,H,I,rfl,h⟩
def QkA{x j pos}:PE X (.Constant (.str x) j pos) (tC (.str x)):=λz z z H z I h=>Calls.Constant_str ⟨.str x,H,I.tok _,⟨_,rfl⟩,h⟩
def Gl(X:Cx)(x:Str):Prop:=X.env.kindOf x=some .globalImplicit
def Z6(I:Inv X pins Y H s)(hg:Gl X x)(hm:X.mg x=some u)(h:Q u s)
  (hd:(x==("__debug__":Str))=false:=by decide):wpAny (model X.prog X.w) X.A (eval (.Name x pos) X.env) Q E s :=
 Calls.Name_function_global I.ok.kind hg (Calls.loadGlobal_global (by rw[I.ok.glob];exact I.mod.glob.keeps I.bk) hm h) hd
def ZF(I:Inv X pins Y H s)(hg:Gl X x)(hm:X.mg x=none)(hv:bootBuiltins x=some u)(h:Q u s)
  (hn:x≠"__name__":=by decide) (hd:(x==("__debug__":Str))=false:=by decide):wpAny (model X.prog X.w) X.A (eval (.Name x pos) X.env) Q E s:=by
 obtain⟨mb,h1,h2⟩:=I.mod.blt
 exact Calls.Name_function_global I.ok.kind hg (Calls.loadGlobal_builtin (by rw[I.ok.glob];exact I.mod.glob.keeps I.bk) hm (by rw[I.ok.blt];exact h1.keeps I.bk) ((h2 x hn).trans hv) h) hd
def Qbe(hg:Gl X x)(hm:X.mg x=some u)(r:RelV v u)(hd:(x==("__debug__":Str))=false:=by decide):PE X (.Name x pos) (tC v):=
 λz z z H z I h=>Z6 I hg hm ⟨v,H,I,r,h⟩ hd
def Qbg(hg:Gl X x)(hm:X.mg x=none)(hv:bootBuiltins x=some u)(r:RelV v u)(hn:x≠"__name__":=by decide)(hd:(x==("__debug__":Str))=false:=by decide):PE X (.Name x pos) (tC v):=
 λz z z H z I h=>ZF I hg hm hv ⟨v,H,I,r,h⟩ hn hd
variable {a b:Expr}{ta tb:TE}
variable {tA tB':TT}{rest:List Expr}
def QpW(t u:TT):TT:=λY H Q=>t Y H λc H1=>if c=true then u Y H1 Q else Q false H1
def tOr(t u:TT):TT:=λY H Q=>t Y H λc H1=>if c=true then Q true H1 else u Y H1 Q
def QpP(t:TT):TT:=λY H Q=>t Y H λc H1=>Q (!c) H1
def Qhr(ha:PT X a tA):PW X (.BoolOp .And [a] pos) tA:=by
 intro wh pins s Y H Q I h;refine isTrue_and (thn (ha pins s Y H Q I h) λc s1 e=>?_)
 cases c with
 |true=>exact isTrue_and_nil e
 |false=>exact e
def Qkg(ha:PT X a tA):PW X (.BoolOp .Or [a] pos) tA:=by
 intro wh pins s Y H Q I h;refine isTrue_or (thn (ha pins s Y H Q I h) λc s1 e=>?_)
 cases c with
 |false=>exact isTrue_or_nil e
 |true=>exact e
def Qkh(ha:PT X a tA)(hb:PW X (.BoolOp .And (b::rest) pos) tB'):PW X (.BoolOp .And (a::b::rest) pos) (QpW tA tB'):=by
 intro wh pins s Y H Q I h;refine isTrue_and (thn (ha pins s Y H _ I h) λc s1 z=>?_);obtain⟨H1,I1,q1⟩:=z
 cases c with
 |true=>exact hb wh pins s1 Y H1 Q I1 q1
 |false=>exact⟨H1,I1,q1⟩
def Qnp(ha:PT X a tA)(hb:PW X (.BoolOp .Or (b::rest) pos) tB'):PW X (.BoolOp .Or (a::b::rest) pos) (tOr tA tB'):=by
 intro wh pins s Y H Q I h;refine isTrue_or (thn (ha pins s Y H _ I h) λc s1 z=>?_);obtain⟨H1,I1,q1⟩:=z
 cases c with
 |true=>exact⟨H1,I1,q1⟩
 |false=>exact hb wh pins s1 Y H1 Q I1 q1
def Qkk(ha:PT X a tA):PT X (.UnaryOp .Not a pos) (QpP tA):=by
 intro pins s Y H Q I h;exact isTrue_not (ha pins s Y H (λc H1=>Q (!c) H1) I h)
def Qm1(ta tb:TE):TE:=λY H Q=>ta Y H λx H1=>∃c,x=.bl c/\if c=true then tb Y H1 Q else Q (.bl false) H1
def QpO(ta tb:TE):TE:=λY H Q=>ta Y H λx H1=>∃c,x=.bl c/\if c=true then Q (.bl true) H1 else tb Y H1 Q
def Qf8{op}(h:PE X a t):PE X (.BoolOp op [a] pos) t:=λpins s Y H Q I hw=>BoolOp_one (h pins s Y H Q I hw)
def QkG(ha:PE X a ta)(hb:PE X (.BoolOp .And (b::rest) pos) tb):PE X (.BoolOp .And (a::b::rest) pos) (Qm1 ta tb):=by
 intro pins s Y H Q I h;refine BoolOp_and (thn (ha pins s Y H _ I h) λv s1 z=>?_);obtain⟨x,H1,I1,r1,q1⟩:=z;obtain⟨c,rfl,q1⟩:=q1;cases r1;refine To ?_
 cases c with
 |true=>exact hb pins s1 Y H1 Q I1 q1
 |false=>exact⟨.bl false,H1,I1,rfl,q1⟩
def Qnv(ha:PE X a ta)(hb:PE X (.BoolOp .Or (b::rest) pos) tb):PE X (.BoolOp .Or (a::b::rest) pos) (QpO ta tb):=by
 intro pins s Y H Q I h;refine BoolOp_or (thn (ha pins s Y H _ I h) λv s1 z=>?_);obtain⟨x,H1,I1,r1,q1⟩:=z;obtain⟨c,rfl,q1⟩:=q1;cases r1;refine To ?_
 cases c with
 |false=>exact hb pins s1 Y H1 Q I1 q1
 |true=>exact⟨.bl true,H1,I1,rfl,q1⟩
def tIf(t:TT)(ta tb:TE):TE:=λY H Q=>t Y H λc H1=>if c=true then ta Y H1 Q else tb Y H1 Q
def Qfa{c:Expr}(hc:PT X c tA)(ha:PE X a ta)(hb:PE X b tb):PE X (.IfExp c a b pos) (tIf tA ta tb):=by
 intro pins s Y H Q I h;refine wpAny_IfExp (thn (hc pins s Y H _ I h) λd s1 z=>?_);obtain⟨H1,I1,q1⟩:=z
 cases d with
 |true=>exact ha pins s1 Y H1 Q I1 q1
 |false=>exact hb pins s1 Y H1 Q I1 q1
end
end
section
variable {X:Cx}{e tg:Expr}{H:Hp}{pins:List (Addr×Obj)}{i:Nat}{pos:Pos}{P:Program}{s:Shared}{Y:St}{x:Str}{te:TE}{u:Value}{w:World}
noncomputable def SqL(K:W.Frag)(H:Hp)(a:Addr)(xs:List V):Prop :=
 Rd H a (.lst xs) \/
  ∃(o:Obj) (its:Array Value) (n:Nat),K.lookup a=some o/\o.cls=.type "list"/\o.dict=none/\o.data=.seq its n/\its.size<=sizeLine/\Vals xs its.toList
noncomputable def SqT(K:W.Frag)(H:Hp)(a:Addr)(xs:List V):Prop :=
 Rd H a (.tup xs) \/
  ∃(o:Obj) (its:Array Value) (n:Nat),K.lookup a=some o/\o.cls=.type "tuple"/\o.data=.seq its n/\its.size<=sizeLine/\Vals xs its.toList
noncomputable def Qrj:Value->Option V
 |.none=>some .non
 |.bool b=>some (.bl b)
 |.int i _=>some (.int i)
 |.str x _=>some (.str x)
 |.bytes b _=>some (.byt b)
 |.float b _=>some (.flt b)
 |.ref a=>some (.ref a)
 |.type n=>some (.ty n)
 |_=>none
def RelV.abs{x:V}(r:RelV x u):Qrj u=some x:=by
 cases x with
 |non=>cases r;rfl
 |bl _=>cases r;rfl
 |int _=>obtain⟨t,rfl⟩:=r;rfl
 |str _=>obtain⟨t,rfl⟩:=r;rfl
 |byt _=>obtain⟨t,rfl⟩:=r;rfl
 |flt _=>obtain⟨t,rfl⟩:=r;rfl
 |ref _=>cases r;rfl
 |ty _=>cases r;rfl
def RelV.inj{x y:V}(r:RelV x u)(q:RelV y u):x=y:=X4 (r.abs.symm.trans q.abs)
theorem Vals.inj{xs ys:List V}{us:List Value}(h:Vals xs us)(h':Vals ys us):xs=ys:=by
 induction h generalizing ys with
 |nil=>cases h';rfl
 |cons r _ ih=>
  cases h' with
  |cons r' t'=>rw[r.inj r',ih t']
section
variable {a:Addr}{xs ys:List V}
def SqL.of{K:W.Frag}(h:H a=some (.lst xs)):SqL K H a xs:=.inl (.inl h)
def SqT.of{K:W.Frag}(h:H a=some (.tup xs)):SqT K H a xs:=.inl (.inl h)
def Inv.list(I:Inv X pins Y H s)(h:SqL X.K H a xs):∃its:List Value,Vals xs its/\PlainL s.heap a its.toArray/\xs.length<=sizeLine:=by
 rcases h with h|⟨o,its,n,hk,hc,hd,hs,hz,r⟩
 ·obtain⟨z,its,n,r,e⟩:=h.ok I.hok;exact⟨its,r,⟨_,n,e,rfl,rfl,rfl⟩,z⟩
 ·refine⟨its.toList,r,⟨o,n,I.kIn a o hk,hc,hd,by simpa using hs⟩,?_⟩
  have e:=r.length;simp only[T4]at e;omega
def Inv.tuple(I:Inv X pins Y H s)(h:SqT X.K H a xs):∃its:List Value,Vals xs its/\IsTup s.heap a its.toArray/\xs.length<=sizeLine:=by
 rcases h with h|⟨o,its,n,hk,hc,hs,hz,r⟩
 ·obtain⟨z,its,r,p⟩:=h.ok I.hok;exact⟨its,r,p,z⟩
 ·refine⟨its.toList,r,⟨o,I.kIn a o hk,hc,n,by simpa using hs⟩,?_⟩
  have e:=r.length;simp only[T4]at e;omega
def Inv.list_inj(I:Inv X pins Y H s)(h:SqL X.K H a xs)(h':SqL X.K H a ys):xs=ys:=by
 obtain⟨its,r,⟨o,n,e,_,_,d⟩,_⟩:=I.list h;obtain⟨its',r',⟨o',n',e',_,_,d'⟩,_⟩:=I.list h';rw[e]at e';cases e';rw[d]at d';injection d' with d1 _
 have:its=its':=by simpa using congrArg Array.toList d1
 subst this;exact r.inj r'
def Inv.tuple_inj(I:Inv X pins Y H s)(h:SqT X.K H a xs)(h':SqT X.K H a ys):xs=ys:=by
 obtain⟨its,r,⟨o,e,_,n,d⟩,_⟩:=I.tuple h;obtain⟨its',r',⟨o',e',_,n',d'⟩,_⟩:=I.tuple h';rw[e]at e';cases e';rw[d]at d';injection d' with d1 _
 have:its=its':=by simpa using congrArg Array.toList d1
 subst this;exact r.inj r'
end
noncomputable abbrev Cx.wish(X:Cx)(E:Value->Shared->Prop):Cx:={X with xe:=E}
noncomputable abbrev Cx.nox(X:Cx):Cx:=X.wish λz z=>False
theorem Cx.Ok.wish(ok:X.Ok)(E:Value->Shared->Prop):(X.wish E).Ok :=
 ⟨ok.mod,ok.kind,ok.glob,ok.blt,ok.above,ok.inj,ok.has,ok.cab,ok.hd,ok.frames,ok.stk,ok.exf,ok.bs,ok.bsz,ok.noex,ok.exfs,ok.funs,ok.frf⟩
def Cx.Ok.unwish{E:Value->Shared->Prop}(ok:(X.wish E).Ok):X.Ok :=
 ⟨ok.mod,ok.kind,ok.glob,ok.blt,ok.above,ok.inj,ok.has,ok.cab,ok.hd,ok.frames,ok.stk,ok.exf,ok.bs,ok.bsz,ok.noex,ok.exfs,ok.funs,ok.frf⟩
section
variable {E:Value->Shared->Prop}
theorem Inv.wish(I:Inv X pins Y H s)(E:Value->Shared->Prop):Inv (X.wish E) pins Y H s:=⟨I.ok.wish E,I.os,I.bare,I.base,I.loc,I.cell,I.free,I.freeC,I.pin,I.hok,I.len⟩
theorem Inv.unwish(I:Inv (X.wish E) pins Y H s):Inv X pins Y H s:=⟨I.ok.unwish,I.os,I.bare,I.base,I.loc,I.cell,I.free,I.freeC,I.pin,I.hok,I.len⟩
theorem SP.unwish{D:Ends}{f:Flow}{s':Shared}(h:SP (X.wish E) pins D f s'):SP X pins D f s':=by
 cases f with
 |next=>obtain⟨Y',H',I,q⟩:=h;exact⟨Y',H',I.unwish,q⟩
 |brk=>obtain⟨Y',H',I,q⟩:=h;exact⟨Y',H',I.unwish,q⟩
 |cont=>obtain⟨Y',H',I,q⟩:=h;exact⟨Y',H',I.unwish,q⟩
 |ret u=>obtain⟨v,Y',H',I,r,q⟩:=h;exact⟨v,Y',H',I.unwish,r,q⟩
theorem PSs.nox{st:List Stmt}{t:TS}(h:PSs X.nox st t):PSs X st t:=λpins s Y H D I hw=>
 W2 (h pins s Y H D (I.wish _) hw) (λy y q=>q.unwish) λy y z=>False.elim z
end
section
variable {st:Stmt}{rest:List Stmt}{t u:TS}
def QgQ:TS:=λD Y H=>D.nx Y H
def QpL(t u:TS):TS:=λD Y H=>t {D with nx:=u D} Y H
def Qht:PSs X [] QgQ:=λz z Y H z I h=>wpAny_execs_nil ⟨Y,H,I,h⟩
def Qe4(h1:PS X st t)(h2:PSs X rest u):PSs X (st::rest) (QpL t u):=by
 intro pins s Y H D I h;refine wpAny_execs_cons (thn (h1 pins s Y H {D with nx:=u D} I h) λf s1 q=>?_)
 cases f with
 |next=>
  obtain⟨Y',H',I',q⟩:=q;exact h2 pins s1 Y' H' D I' q
 |ret v=>exact q
 |brk=>exact q
 |cont=>exact q
def QjG:TS:=λD Y H=>D.bk Y H
def Qm0:TS:=λD Y H=>D.ct Y H
def Qhv:PS X (.Pass pos) QgQ:=λz z Y H z I h=>wpAny_Pass ⟨Y,H,I,h⟩
def Qe6:PS X (.Break pos) QjG:=λz z Y H z I h=>wpAny_Break ⟨Y,H,I,h⟩
def Qba:PS X (.Continue pos) Qm0:=λz z Y H z I h=>wpAny_Continue ⟨Y,H,I,h⟩
def Inv.quiet(I:Inv X pins Y H s):interactive X.env=false:=by simp[interactive,I.ok.kind]
def Qkn{x j pos pos'}:PS X (.Expr (.Constant (.str x) j pos) pos') QgQ:=λz s Y H z I h=>wpAny_Expr (Calls.Constant_str (show SP X _ _ .next {s with toks:=s.toks+1}from⟨Y,H,I.tok _,h⟩)) I.quiet
def QmZ(te:TE):TS:=λD Y H=>te Y H λz H1=>D.nx Y H1
def Qhw(he:PE X e te)(hs:swapsWith e none pos.line X.env=pure false:=by rfl):PS X (.Expr e pos) (QmZ te):=by
 intro pins s Y H D I h;exact wpAny_Expr_any (thn (he pins s Y H _ I h) λv s1 z=>by obtain⟨x,H1,I1,r1,q1⟩:=z;exact⟨Y,H1,I1,q1⟩) I.quiet hs
def QpN(te:TE):TS:=λD Y H=>te Y H D.rt
def Qkl(he:PE X e te):PS X (.Return (some e) pos) (QpN te):=by
 intro pins s Y H D I h;exact wpAny_Return_some (thn (he pins s Y H _ I h) λv s1 z=>by obtain⟨x,H1,I1,r1,q1⟩:=z;exact⟨x,Y,H1,I1,r1,q1⟩)
def QmX:TS:=λD z H=>D.rt .non H
def Qhu:PS X (.Return none pos) QmX:=λz z Y H z I h=>wpAny_Return_none ⟨.non,Y,H,I,rfl,h⟩
def QpR(c:TT)(t u:TS):TS:=λD Y H=>c Y H λb H1=>if b=true then t D Y H1 else u D Y H1
def Qnq{c:Expr}{a b:List Stmt}{tc:TT}(hc:PT X c tc)(ha:PSs X a t)(hb:PSs X b u):PS X (.If c a b pos) (QpR tc t u):=by
 intro pins s Y H D I h;refine wpAny_If (thn (hc pins s Y H _ I h) λd s1 z=>?_);obtain⟨H1,I1,q1⟩:=z
 cases d with
 |true=>exact ha pins s1 Y H1 D I1 q1
 |false=>exact hb pins s1 Y H1 D I1 q1
end
abbrev TG:=V->St->Hp->(St->Hp->Prop)->Prop
abbrev TGs:=List V->St->Hp->(St->Hp->Prop)->Prop
noncomputable def PG(X:Cx)(target:Expr)(t:TG):Prop :=
 ∀(pins:List (Addr×Obj)) (s:Shared) (Y:St) (H:Hp) (v:V) (u:Value) (Q:St->Hp->Prop),Inv X pins Y H s->RelV v u->t v Y H Q ->
  wpAny (model X.prog X.w) X.A (assign target X.env u) (λz s'=>∃Y' H',Inv X pins Y' H' s'/\Q Y' H') X.xe s
noncomputable def PGs(X:Cx)(ts:List Expr)(t:TGs):Prop :=
 ∀(pins:List (Addr×Obj)) (s:Shared) (Y:St) (H:Hp) (vs:List V) (us:List Value) (Q:St->Hp->Prop),Inv X pins Y H s->Vals vs us->t vs Y H Q ->
  wpAny (model X.prog X.w) X.A (assignInOrder ((assignEach ts X.env).map (·.2)) us) (λz s'=>∃Y' H',Inv X pins Y' H' s'/\Q Y' H') X.xe s
abbrev QoF:=V->V->V->Hp->(Hp->Prop)->Prop
noncomputable def Qpw(X:Cx)(t:QoF):Prop :=
 ∀(pins:List (Addr×Obj)) (s:Shared) (Y:St) (H:Hp) (o i v:V) (ov iv u:Value) (Q:Hp->Prop),Inv X pins Y H s->RelV o ov->RelV i iv->RelV v u->t o i v H Q ->
  wpAny (model X.prog X.w) X.A (setItem ov iv u) (λz s'=>∃H',Inv X pins Y H' s'/\Q H') X.xe s
abbrev TIp:=V->V->Hp->VK->Prop
noncomputable def PIp(X:Cx)(op:Operator)(t:TIp):Prop :=
 ∀(pins:List (Addr×Obj)) (s:Shared) (Y:St) (H:Hp) (x y:V) (v u:Value) (Q:VK),Inv X pins Y H s->RelV x v->RelV y u->t x y H Q ->
  wpAny (model X.prog X.w) X.A (inplaceOp op v u) (EP X pins Y Q) X.xe s
section

def Qbn(i:Nat):TG:=λv Y H Q=>Q (Y.set i (some v)) H
def Qbd(hN:X.N.Nodup)(hi:X.N[i]?=some x)(hx:Loc X.env.scope x)(hf:X.fn x=true\/X.env.scope.names.lookup x=some .local:=by first|exact .inl rfl|exact .inr rfl|assumption):PG X (.Name x pos) (Qbn i):=by
 intro pins s Y H v u Q I r h;exact wpAny_assign_Name (JK I hN hi hx r (λs' I'=>⟨_,H,I',h⟩) hf)
def Qpe:TGs:=λvs Y H Q=>vs=[]/\Q Y H
def Qip(t:TG)(u:TGs):TGs:=λvs Y H Q=>∃v r,vs=v::r/\t v Y H λY' H'=>u r Y' H' Q
def Qdy:PGs X [] Qpe:=by
 intro pins s Y H vs us Q I r h;obtain⟨e,h⟩:=h;subst e;cases r;exact assignInOrder_nil ⟨Y,H,I,h⟩
def YI{es:List Expr}{t:TG}{u:TGs}(h1:PG X e t)(h2:PGs X es u)
  (hs:(assignEach (e::es) X.env).map (·.2)=assign e X.env::(assignEach es X.env).map (·.2):=by rfl):PGs X (e::es) (Qip t u):=by
 intro pins s Y H vs us Q I r h;obtain⟨v,vr,e1,h⟩:=h;subst e1
 cases r with
 |cons r rr=>
  rw[hs];refine assignInOrder_cons (thn (h1 pins s Y H _ _ _ I r h) λz s1 y=>?_);obtain⟨σ1,H1,I1,q1⟩:=y;exact h2 pins s1 σ1 H1 _ _ Q I1 rr q1
def Qpd(K:W.Frag)(n:Nat)(t:TGs):TG:=λv Y H Q=>∃a xs,v=.ref a/\SqT K H a xs/\xs.length=n/\t xs Y H Q
def Qf6{es:List Expr}{k:Nat}{t:TGs}{n:Nat}(hc:X.calm=true)(h:PGs X es t)
  (hn:(assignEach es X.env).length=n:=by rfl) (hst:(assignEach es X.env).findIdx? (·.1)=none:=by rfl):PG X (.Tuple es k pos) (Qpd X.K n t):=by
 intro pins s Y H v u Q I r hw;obtain⟨a,xs,e1,hq,hl,hw⟩:=hw;subst e1;cases r;obtain⟨its,rv,ht,hz⟩:=I.tuple hq
 refine assign_Tuple_tuple (I.ok.hd hc) ht (by simp[hn,<-hl,rv.length]) hst λh' hx=>?_
 have I1:Inv X pins Y H {s with heap:=h'}:=I.kept (t':=s.toks) λb o e=>hx b o (X0 (Xo e)) e
 exact h pins _ Y H xs _ Q I1 (by simpa using rv) hw
def Qqw(to ti:TE)(t:QoF):TG:=λv Y H Q=>to Y H λo H1=>ti Y H1 λi H2=>t o i v H2 λH3=>Q Y H3
def Qky{o i:Expr}{to ti:TE}{t:QoF}(ho:PE X o to)(hi:PE X i ti)(hs:Qpw X t)
  (ha:∀v,assign (.Subscript o i pos) X.env v=(do
   let ov <-holding [v] (eval o X.env);let iv <-holding [v,ov] (eval i X.env)
   standAt pos
   holding [v,ov,iv] (setItem ov iv v)
   release [v,ov,iv] []):=by intro _;rfl):PG X (.Subscript o i pos) (Qqw to ti t):=by
 intro pins s Y H v u Q I r h;rw[ha];refine Xg (Um (thn (ho pins s Y H _ I h) λov s1 z=>?_));obtain⟨x,H1,I1,r1,q1⟩:=z;refine Xg (Um (thn (hi pins s1 Y H1 _ I1 q1) λiv s2 w=>?_));obtain⟨y,H2,I2,r2,q2⟩:=w;refine Xg (wpAny_standAt (Xg (Um (thn (hs pins s2 Y H2 x y v ov iv u _ I2 r1 r2 r q2) λq s3 p=>?_))));obtain⟨H3,I3,q3⟩:=p;exact wpAny_release ⟨Y,H3,I3,q3⟩
def QoR(te:TE)(g:TG):TS:=λD Y H=>te Y H λx H1=>g x Y H1 D.nx
def Qkp{g:TG}(he:PE X e te)(hg:PG X tg g)(hs:swapsWithSole [tg] e pos.line X.env=pure false:=by rfl)(hw:swappedStores [tg] e X.env=pure none:=by rfl)
  (h1:(assignEach [tg] X.env).map (·.2)=[assign tg X.env]:=by rfl):PS X (.Assign [tg] e pos) (QoR te g):=by
 intro pins s Y H D I h;refine wpAny_Assign_stores (thn (he pins s Y H _ I h) λv s1 z=>?_) hs hw;obtain⟨x,H1,I1,r1,q1⟩:=z;rw[h1];exact thn (hg pins s1 Y H1 x v _ I1 r1 q1) λy s2 q=>q
def Qf0{pos':Pos}(hN:X.N.Nodup)(hi:X.N[i]?=some x)(hx:Loc X.env.scope x)(he:PE X e te)(hs:swapsWith e (some (.Name x pos')) pos.line X.env=pure false:=by rfl)(hf:X.fn x=true\/X.env.scope.names.lookup x=some .local:=by first|exact .inl rfl|exact .inr rfl|assumption):
  PS X (.Assign [.Name x pos'] e pos) (QoR te (Qbn i)):=by
 intro pins s Y H D I h;refine wpAny_Assign_Name (thn (he pins s Y H _ I h) λv s1 z=>?_) hs;obtain⟨y,H1,I1,r1,q1⟩:=z;exact JK I1 hN hi hx r1 (λs2 I2=>⟨_,H1,I2,q1⟩) hf
def QpV(i:Nat)(te:TE)(ti:TIp):TS:=λD Y H=>∃x,Y[i]?=some (some x)/\te Y H λy H1=>ti x y H1 λz H2=>D.nx (Y.set i (some z)) H2
def Qko{op:Operator}{ti:TIp}{pos':Pos}(hN:X.N.Nodup)(hi:X.N[i]?=some x)(hx:Loc X.env.scope x)(he:PE X e te)(ho:PIp X op ti)(hf:X.fn x=true\/X.env.scope.names.lookup x=some .local:=by first|exact .inl rfl|exact .inr rfl|assumption):
  PS X (.AugAssign (.Name x pos') op e pos) (QpV i te ti):=by
 intro pins s Y H D I h;obtain⟨v,e1,h⟩:=h;obtain⟨m,hn,hl⟩:=I.loc
 have vis:Vis X.env.scope x:=by rcases hx with k|k;exact .inl k;exact .inr (.inl k)
 obtain⟨u,r,l⟩:=hl i x v hi e1 vis;refine wpAny_AugAssign_Name ?_
 have go:wpAny (model X.prog X.w) X.A (eval e X.env) (λw s₂=>wpAny (model X.prog X.w) X.A (inplaceOp op u w) (λr s₃=>wpAny (model X.prog X.w) X.A (storeName X.env x r) (λt=>SP X pins D .next) X.xe s₃) X.xe s₂) X.xe s:=by
  refine thn (he pins s Y H _ I h) λw s1 q=>?_;obtain⟨y,H1,I1,r1,q1⟩:=q;refine thn (ho pins s1 Y H1 v y u w _ I1 r r1 q1) λz s2 p=>?_;obtain⟨zv,H2,I2,r2,q2⟩:=p;exact JK I2 hN hi hx r2 (λs3 I3=>⟨_,H2,I3,q2⟩) hf
 rcases l with⟨hk,hm⟩|⟨hk,c,hc,hcell⟩
 ·exact wpAny_loadName_local I.ok.kind hk hn hm go
 ·rcases hk with hk|hk
  ·exact wpAny_loadName_cell I.ok.kind hk hc hcell go
  ·rcases hx with k|k
   ·have:X.env.scope.names.lookup x=some .free:=hk;rw[k]at this;cases this
   ·have:X.env.scope.names.lookup x=some .free:=hk;rw[k]at this;cases this
end
section

end
structure It where
 go:Nat->Hp->Prop
 yld:Nat->Hp->V->Hp->Prop
 stop:Nat->Hp->Prop
noncomputable def QbA(X:Cx)(pins:List (Addr×Obj))(H:Hp)(b:Addr):Prop :=
 H b=none/\b≠X.env.locals/\b∉X.fs/\(b∈X.ex\/X.s₀.heap.objs.size<=b)/\(∀x c,X.env.cells.lookup x=some c->c≠b)/\∀p∈X.pn++pins,p.1≠b
def Inv.fpOk{H':Hp}{b:Addr}(I:Inv X pins Y H s)(hb:s.heap.objs.size<=b)(hn:H' b=none):QbA X pins H' b:=by
 refine⟨hn,Nat.ne_of_gt (Wg I.lt hb),I.nofs hb,.inr (X3 I.sz hb),λx c e z=>?_,λp hp z=>?_⟩
 ·obtain⟨v,q⟩:=I.cell x c e
  exact absurd (Wg q.lt (by rw[z];exact hb)) (Vx _)
 ·exact absurd (Wg (Xo (I.pin p hp).1) (by rw[z];exact hb)) (Vx _)
structure Turn(P:Program)(w:World)(K:W.Frag)(tg:Expr)(J:It)(fp:List Addr)(it:Addr)(tn:Nat->Heap->Prop):Prop where
 mem:it∈fp
 obj:∀i h,tn i h->∀b∈fp,∃o,h.get? b=some o/\∀v,o.data≠.cell v
 keep:∀i h h',tn i h->(∀b∈fp,∀o,h.get? b=some o->h'.get? b=some o)->tn i h'
 item:∀(X:Cx),X.prog=P->X.w=w->X.K=K->X.calm=true->∀(i:Nat) (pins:List (Addr×Obj)) (s:Shared) (Y:St) (H:Hp) (E:Value->Shared->Prop),Inv X pins Y H s->(∀b∈fp,QbA X pins H b)->tn i s.heap->J.go i H ->
  wpAny (model P w) X.A (pyNext (.ref it)) (λr s1=>∃u,r=some u /\
   wpAny (model P w) X.A (letOwnedTupleGo tg (.ref it) u) (λ_ s2=>∃x H',Inv X pins Y H' s2/\RelV x u/\J.yld i H x H'/\tn (i+1) s2.heap/\∀b∈fp,H' b=none) E s1) E s
 done:∀(X:Cx),X.prog=P->X.w=w->X.K=K->X.calm=true->∀(i:Nat) (pins:List (Addr×Obj)) (s:Shared) (Y:St) (H:Hp) (E:Value->Shared->Prop),Inv X pins Y H s->(∀b∈fp,QbA X pins H b)->tn i s.heap->J.stop i H ->
  wpAny (model P w) X.A (pyNext (.ref it)) (λr s1=>r=none/\Inv X pins Y H s1) E s
 self:∀(A:Around) (i:Nat) (s:Shared) (Q:Value->Shared->Prop) (E:Value->Shared->Prop),tn i s.heap->Q (.ref it) s->wpAny (model P w) A (pyIter (.ref it)) Q E s
abbrev TI:=St->Hp->(It->Hp->Prop)->Prop
noncomputable def PIE(X:Cx)(pins:List (Addr×Obj))(Y:St)(tg:Expr)(R:It->Hp->Prop)(itv:Value)(s2:Shared):Prop :=
 ∃(it:Addr) (fp:List Addr) (tn:Nat->Heap->Prop) (J:It) (H':Hp),itv=.ref it/\Inv X pins Y H' s2/\Turn X.prog X.w X.K tg J fp it tn/\tn 0 s2.heap/\(∀b∈fp,QbA X pins H' b)/\R J H'
noncomputable def PI(X:Cx)(tg iter:Expr)(wi:TI):Prop :=
 ∀(pins:List (Addr×Obj)) (s:Shared) (Y:St) (H:Hp) (R:It->Hp->Prop),Inv X pins Y H s->wi Y H R ->
  wpAny (model X.prog X.w) X.A (eval iter X.env) (λv s1=>wpAny (model X.prog X.w) X.A (pyIter v) (PIE X pins Y tg R) X.xe s1) X.xe s
def QcA{M:Model}{A:Around}{E:Value->Shared->Prop}{it:Addr}{o:Obj}{n:String}{vs:Array Value}{Q:Unit->Shared->Prop}(ho:s.heap.get? it=some o)(hc:o.cls=.type n)(hd:o.data=.fields vs)
  (hn:["enumerate","zip","dict_itemiterator","dict_reverseitemiterator","odict_iterator","itertools.zip_longest","itertools.pairwise"].contains n=false) (hQ:Q () s):wpAny M A (letOwnedTupleGo tg (.ref it) u) Q E s:=by
 unfold letOwnedTupleGo
 cases tg<;>first
  |exact Xu hQ
  | (cases u<;>first
    |exact Xu hQ
    | (refine Xg (wpAny_load ho ?_)
       rw[hc,hd];show wpAny M A (if(["enumerate","zip","dict_itemiterator","dict_reverseitemiterator","odict_iterator","itertools.zip_longest","itertools.pairwise"].contains n&&vs[0]?==some (rawInt _))=true then _ else _) Q E s
       rw[if_neg (by intro h;rw[hn,Bool.false_and]at h;cases h)]
       exact Xu hQ))
noncomputable def Itl(K:W.Frag)(a:Addr):It :=
 ⟨λi H=>∃xs x,SqL K H a xs/\xs[i]?=some x,λi H x H'=>H'=H/\∀xs,SqL K H a xs->xs[i]?=some x,λi H=>∃xs,SqL K H a xs/\xs.length<=i⟩
noncomputable def Itt(K:W.Frag)(a:Addr):It :=
 ⟨λi H=>∃xs x,SqT K H a xs/\xs[i]?=some x,λi H x H'=>H'=H/\∀xs,SqT K H a xs->xs[i]?=some x,λi H=>∃xs,SqT K H a xs/\xs.length<=i⟩
noncomputable def Itr(lo:Int)(n:Nat):It:=⟨λi z=>i<n,λi H x H'=>H'=H/\x=.int (lo+i),λi z=>n<=i⟩
def Qc1{K:W.Frag}(a it:Addr):Turn P w K tg (Itl K a) [it] it (λi h=>h.IsListIter it a i) where
 mem:=by simp
 obj:=λi h st b hb=>by
  have e:b=it:=by simpa using hb
  subst e;obtain⟨o,e,c,d⟩:=st
  exact⟨o,e,λv z=>by rw[d]at z;cases z⟩
 keep:=λi h h' st k=>st.at λo e=>k it (by simp) o e
 item:=by
  intro X hP hw hK hc i pins s Y H E I hf st hg;subst hP hw hK;obtain⟨xs,x,hq,hx⟩:=hg;obtain⟨its,rv,p,hz⟩:=I.list hq;obtain⟨u,hu,ru⟩:=rv.get hx
  obtain⟨f0,f1,f2,f3,f4,f5⟩:=hf it (by simp)
  refine wpAny_pyNext_list_item st p.isList (x:=u) (by simpa using hu) λh' st' sb=>?_
  have I1:Inv X pins Y H {s with heap:=h'}:=I.turned (t':=s.toks) (λb o hb e=>(sb.2 b hb).trans e) f0 f1 f3 f4 f5;obtain⟨o,e,c,d⟩:=id st'
  exact⟨u,rfl,QcA (s:={s with heap:=h'}) e c d (by decide) ⟨x,H,I1,ru,⟨rfl,λys hy=>by rw[I.list_inj hy hq];exact hx⟩,st',λb hb=>(hf b hb).1⟩⟩
 done:=by
  intro X hP hw hK hc i pins s Y H E I hf st hg;subst hP hw hK;obtain⟨xs,hq,hx⟩:=hg;obtain⟨its,rv,p,hz⟩:=I.list hq
  obtain⟨f0,f1,f2,f3,f4,f5⟩:=hf it (by simp)
  have hl:=rv.length
  exact wpAny_pyNext_list_end (I.ok.hd hc) st p.isList (by simp;omega) λh' eb=>⟨rfl,I.turned (t':=s.toks) (λb o hb e=>eb b o hb e) f0 f1 f3 f4 f5⟩
 self:=λy y y y y st h=>wpAny_pyIter_listiter st h
def Qch{K:W.Frag}(a it:Addr):Turn P w K tg (Itt K a) [it] it (λi h=>h.IsTupleIter it a i) where
 mem:=by simp
 obj:=λi h st b hb=>by
  have e:b=it:=by simpa using hb
  subst e;obtain⟨o,e,c,d⟩:=st
  exact⟨o,e,λv z=>by rw[d]at z;cases z⟩
 keep:=λi h h' st k=>st.at λo e=>k it (by simp) o e
 item:=by
  intro X hP hw hK hc i pins s Y H E I hf st hg;subst hP hw hK;obtain⟨xs,x,hq,hx⟩:=hg;obtain⟨its,rv,p,hz⟩:=I.tuple hq;obtain⟨u,hu,ru⟩:=rv.get hx
  obtain⟨f0,f1,f2,f3,f4,f5⟩:=hf it (by simp)
  refine wpAny_pyNext_tuple_item st (show s.heap.IsTuple a its.toArray from p) (x:=u) (by simpa using hu) λh' st' sb=>?_
  have I1:Inv X pins Y H {s with heap:=h'}:=I.turned (t':=s.toks) (λb o hb e=>(sb.2 b hb).trans e) f0 f1 f3 f4 f5;obtain⟨o,e,c,d⟩:=id st'
  exact⟨u,rfl,QcA (s:={s with heap:=h'}) e c d (by decide) ⟨x,H,I1,ru,⟨rfl,λys hy=>by rw[I.tuple_inj hy hq];exact hx⟩,st',λb hb=>(hf b hb).1⟩⟩
 done:=by
  intro X hP hw hK hc i pins s Y H E I hf st hg;subst hP hw hK;obtain⟨xs,hq,hx⟩:=hg;obtain⟨its,rv,p,hz⟩:=I.tuple hq
  obtain⟨f0,f1,f2,f3,f4,f5⟩:=hf it (by simp)
  have hl:=rv.length
  exact wpAny_pyNext_tuple_end (I.ok.hd hc) st (show s.heap.IsTuple a its.toArray from p) (by simp;omega) λh' eb=>⟨rfl,I.turned (t':=s.toks) (λb o hb e=>eb b o hb e) f0 f1 f3 f4 f5⟩
 self:=λy y y y y st h=>wpAny_pyIter_tupleiter st h
def Qci{K:PySem.W.Frag}(it:Addr)(lo:Int)(n:Nat):Turn P w K tg (Itr lo n) [it] it (λi h=>IsRangeIter h it (lo+(i:Nat)*1) ((n:Int) - (i:Nat)) 1) where
 mem:=by simp
 obj:=λi h st b hb=>by
  have e:b=it:=by simpa using hb
  subst e
  exact⟨_,st,λv z=>by
   have z':Data.fields _=Data.cell v:=z
   cases z'⟩
 keep:=λi h h' st k=>k it (by simp) _ st
 item:=by
  intro X hP hw hK hc i pins s Y H E I hf st hg;subst hP hw hK
  obtain⟨f0,f1,f2,f3,f4,f5⟩:=hf it (by simp)
  have W:=Walks.range (prog:=X.prog) (w:=X.w) (I.ok.hd hc) it lo 1 n;refine W.item i s _ _ hg st λv h' tk hv st' kk=>?_;obtain⟨t,rfl⟩:=hv
  have I1:Inv X pins Y H {s with heap:=h',toks:=tk}:=I.turned (λb o hb e=>kk b o (by simpa using hb) e) f0 f1 f3 f4 f5
  refine⟨_,rfl,QcA (s:={s with heap:=h',toks:=tk}) (n:="range_iterator") st' rfl rfl (by decide) ⟨.int (lo+i),H,I1,⟨t,?_⟩,⟨rfl,rfl⟩,st',λb hb=>(hf b hb).1⟩⟩
  rw[Int.mul_one]
 done:=by
  intro X hP hw hK hc i pins s Y H E I hf st hg;subst hP hw hK
  obtain⟨f0,f1,f2,f3,f4,f5⟩:=hf it (by simp)
  exact wpAny_pyNext_range_end (I.ok.hd hc) st (by have:n<=i:=hg;omega) λh' eb=>⟨rfl,I.turned (t':=s.toks) (λb o hb e=>eb b o hb e) f0 f1 f3 f4 f5⟩
 self:=λy y y y y st h=>wpAny_pyIter_rangeiter st h
end
section
variable {H:Hp}{pins:List (Addr×Obj)}{fp:List Addr}{pos:Pos}{s:Shared}{Y:St}
section
variable {X:Cx}{tg:Expr}
def Qn3(K:W.Frag)(tl:TE):TI:=λY H R=>tl Y H λx H1=>∃a,x=.ref a/\(∃xs,SqL K H1 a xs)/\R (Itl K a) H1
def Qqs(K:W.Frag)(tl:TE):TI:=λY H R=>tl Y H λx H1=>∃a,x=.ref a/\(∃xs,SqT K H1 a xs)/\R (Itt K a) H1
def QhD{l:Expr}{tl:TE}(hl:PE X l tl):PI X tg l (Qn3 X.K tl):=by
 intro pins s Y H R I h;refine thn (hl pins s Y H _ I h) λv s1 z=>?_;obtain⟨x,H1,I1,r1,q1⟩:=z;obtain⟨a,e,⟨xs,hq⟩,q⟩:=q1;subst e;cases r1;obtain⟨its,rv,p,hz⟩:=I1.list hq;refine wpAny_pyIter_list p.isList ?_;refine⟨s1.heap.objs.size,[s1.heap.objs.size],_,_,H1,rfl,I1.kept (t':=s1.toks) λb o e=>Xj _ e,Qc1 a _,⟨_,X2 _ rfl,rfl,rfl⟩,λb hb=>?_,q⟩
 have e:b=s1.heap.objs.size:=by simpa using hb
 subst e;exact I1.fpOk (Xh _) (I1.hok.fresh (Xh _))
def Qkt{l:Expr}{tl:TE}(hl:PE X l tl):PI X tg l (Qqs X.K tl):=by
 intro pins s Y H R I h;refine thn (hl pins s Y H _ I h) λv s1 z=>?_;obtain⟨x,H1,I1,r1,q1⟩:=z;obtain⟨a,e,⟨xs,hq⟩,q⟩:=q1;subst e;cases r1;obtain⟨its,rv,p,hz⟩:=I1.tuple hq;refine wpAny_pyIter_tuple (show s1.heap.IsTuple a its.toArray from p) ?_;refine⟨s1.heap.objs.size,[s1.heap.objs.size],_,_,H1,rfl,I1.kept (t':=s1.toks) λb o e=>Xj _ e,Qch a _,⟨_,X2 _ rfl,rfl,rfl⟩,λb hb=>?_,q⟩
 have e:b=s1.heap.objs.size:=by simpa using hb
 subst e;exact I1.fpOk (Xh _) (I1.hok.fresh (Xh _))
def QbM{R:It->Hp->Prop}{E:Value->Shared->Prop}{lo hi:Int}{t u v:Tok}{tk:Nat}(I:Inv X pins Y H s)(h1:-(2 ^ 62)<=lo)(h2:lo<2 ^ 62)(h3:-(2 ^ 62)<=hi)(h4:hi<2 ^ 62)
  (q:R (Itr lo (hi-lo).toNat) H):wpAny (model X.prog X.w) X.A (pyIter (.ref s.heap.objs.size)) (PIE X pins Y tg R) E {s with heap:=s.heap.push {cls:=.type "range",data:=.fields #[.int lo t,.int hi u,.int 1 v]},toks:=tk}:=by
 refine wpAny_pyIter_range (IsRange.new ..) (small_one h1 h2 h3 h4) ?_;have I1:Inv X pins Y H {s with heap:=s.heap.push {cls:=.type "range",data:=.fields #[.int lo t,.int hi u,.int 1 v]},toks:=tk}:=I.kept λb o e=>Xj _ e
 refine⟨(s.heap.push {cls:=.type "range",data:=.fields #[.int lo t,.int hi u,.int 1 v]}).objs.size,[(s.heap.push {cls:=.type "range",data:=.fields #[.int lo t,.int hi u,.int 1 v]}).objs.size],_,_,H,rfl,
  I1.kept (t':=tk) λb o e=>Xj _ e,Qci _ lo (hi-lo).toNat,?_,λb hb=>?_,q⟩
 ·have e1:lo+((0:Nat):Int)*1=lo:=by simp
  have e2:(((hi-lo).toNat:Nat):Int) - ((0:Nat):Int)=Builtin.Range.rangeSize lo hi 1:=by rw[rangeSize_one];split<;>omega
  show IsRangeIter _ _ (lo+((0:Nat):Int)*1) ((((hi-lo).toNat:Nat):Int) - ((0:Nat):Int)) 1;rw[e1,e2];exact X2 _ rfl
 ·have e:b=(s.heap.push {cls:=.type "range",data:=.fields #[.int lo t,.int hi u,.int 1 v]}).objs.size:=by simpa using hb
  subst e;exact I1.fpOk (Xh _) (I1.hok.fresh (Xh _))
def Qn2(ta:TA):TI:=λY H R=>ta Y H λvs H1=>∃j:Int,vs=[.int j]/\-(2 ^ 62)<=j/\j<2 ^ 62/\R (Itr 0 j.toNat) H1
def Qn1(ta:TA):TI:=λY H R=>ta Y H λvs H1=>∃i j:Int,vs=[.int i,.int j]/\(-(2 ^ 62)<=i/\i<2 ^ 62/\-(2 ^ 62)<=j/\j<2 ^ 62)/\R (Itr i (j-i).toNat) H1
def Qdw{a:Expr}{ta:TA}{p:Pos}(hg:Gl X "range")(hm:X.mg "range"=none)(ha:PA X [a] ta)(hs:starEach [a] X.env=[(false,eval a X.env)]:=by rfl):PI X tg (.Call (.Name "range" p) [a] [] pos) (Qn2 ta):=by
 intro pins s Y H R I h;refine Call_ (ZF I hg hm boot_range (Wm (thn (ha pos pins s Y H _ I h) λus s1 z=>?_) hs rfl));obtain⟨vs,H1,I1,r1,q1⟩:=z;obtain⟨j,e,q1,q2,q⟩:=q1;subst e
 cases r1 with
 |cons r rr=>
  cases rr;obtain⟨t,rfl⟩:=r
  exact call_range_1 (QbM I1 (by omega) (by omega) q1 q2 (by simpa using q))
def Qdv{a b:Expr}{ta:TA}{p:Pos}(hg:Gl X "range")(hm:X.mg "range"=none)(ha:PA X [a,b] ta)(hs:starEach [a,b] X.env=[(false,eval a X.env),(false,eval b X.env)]:=by rfl)(hs2:starEach [b] X.env=[(false,eval b X.env)]:=by rfl):
  PI X tg (.Call (.Name "range" p) [a,b] [] pos) (Qn1 ta):=by
 intro pins s Y H R I h
 refine Call_ (ZF I hg hm boot_range (Wm (thn (ha pos pins s Y H _ I h) λus s1 z=>?_) (by rw[hs,hs2]) (by rw[hs2];rfl)));obtain⟨vs,H1,I1,r1,q1⟩:=z
 obtain⟨i,j,e,⟨q1,q2,q3,q4⟩,q⟩:=q1;subst e
 cases r1 with
 |cons r rr=>
  cases rr with
  |cons r' rr=>
   cases rr;obtain⟨t,rfl⟩:=r;obtain⟨t',rfl⟩:=r';exact call_range_2 (QbM I1 q1 q2 q3 q4 q)
def QpS(wi:TI)(g:TG)(tb:TS):TS:=λD Y H=>wi Y H λJ H1=>∃W:Nat->Nat->St->Hp->Prop,(∃m,W 0 m Y H1)/\∀i m Y H,W i m Y H ->
 (J.stop i H/\D.nx Y H)\/(J.go i H/\∃N:St->Hp->Prop,(∀Y' H',N Y' H'->∃m',m'<m/\W (i+1) m' Y' H')/\∀x H',J.yld i H x H'->g x Y H' λσ2 H2=>tb {D with nx:=N,ct:=N,bk:=D.nx} σ2 H2)
noncomputable def YW(fp:List Addr)(h:Heap):List (Addr×Obj):=fp.filterMap λb=>(h.get? b).map λo=>(b,o)
def ZB{h:Heap}{b:Addr}{o:Obj}(hb:b∈fp)(e:h.get? b=some o):(b,o)∈YW fp h:=List.mem_filterMap.mpr ⟨b,hb,by rw[e];rfl⟩
def QdH{h:Heap}{p:Addr×Obj}(hp:p∈YW fp h):p.1∈fp/\h.get? p.1=some p.2:=by
 obtain⟨b,hb,e⟩:=List.mem_filterMap.mp hp
 cases q:h.get? b with
 |none=>rw[q]at e;cases e
 |some o=>
  rw[q]at e;have e':(b,o)=p:=X4 e;subst e';exact⟨hb,q⟩
def Inv.pinned(I:Inv X pins Y H s)(hf:∀b∈fp,QbA X pins H b)(ho:∀b∈fp,∃o,s.heap.get? b=some o/\∀v,o.data≠.cell v):Inv X (pins++YW fp s.heap) Y H s :=
 I.pins_of λp hp=>(Wp.mp hp).elim (λz=>I.pin p (Wq _ z)) λz=>by
  obtain⟨hb,e⟩:=QdH z;obtain⟨f0,f1,f2,_⟩:=hf p.1 hb;obtain⟨o,e',d⟩:=ho p.1 hb;rw[e]at e';cases e';exact⟨e,f0,f1,f2,d⟩
def Inv.unpinned{pl:List (Addr×Obj)}(I:Inv X (pins++pl) Y H s):Inv X pins Y H s:=I.pins_of λp hp=>I.pin p (Wq _ (List.mem_append_left _ hp))
def Qf1{iter:Expr}{body:List Stmt}{wi:TI}{g:TG}{tb:TS}(hp:PassesOwn (model X.prog X.w) X.A X.env X.xe)(hc:X.calm=true)(hi:PI X tg iter wi)(hg:PG X tg g)(hb:PSs X body tb)
  (hs:∀x,foldedSetIterable iter X.env x=pure x:=by intro _;rfl):PS X (.For tg iter body [] pos) (QpS wi g tb):=by
 intro pins s Y H D I h;refine wpAny_For (thn (hi pins s Y H _ I h) λv s1 h1=>thn h1 λitv s2 h2=>?_) hs;obtain⟨it,fp,tn,J,H2,e,I2,T,st2,f2,W,⟨m0,w0⟩,turn⟩:=h2;subst e
 have stat:∀{H':Hp},(∀b∈fp,H' b=none)->∀b∈fp,QbA X pins H' b:=λhn b hb=>⟨hn b hb,(f2 b hb).2⟩;refine codeAny_forLoop_any (λn s'=>∃i Y' H',Inv X pins Y' H' s'/\tn i s'.heap/\(∀b∈fp,H' b=none)/\W i n Y' H') ?_ m0 ⟨0,Y,H2,I2,st2,λb hb=>(f2 b hb).1,w0⟩;rintro n s3 ⟨i,σ3,H3,I3,st3,fr3,w3⟩
 rcases turn i n σ3 H3 w3 with⟨stop,qn⟩|⟨go,N,hN,step⟩
 ·refine U6 hp (thn (T.done X rfl rfl rfl hc i pins s3 σ3 H3 X.xe I3 (stat fr3) st3 stop) λr s4 z=>?_);obtain⟨hr,I4⟩:=z;subst hr;exact wpAny_execs_nil ⟨σ3,H3,I4,qn⟩
 ·refine U6 hp (thn (T.item X rfl rfl rfl hc i pins s3 σ3 H3 X.xe I3 (stat fr3) st3 go) λr s4 y=>?_);obtain⟨u,hr,h4⟩:=y;subst hr;refine U6 hp (thn h4 λt s5 q=>?_);obtain⟨x,H5,I5,r5,y5,st5,fr5⟩:=q;have I5':=I5.pinned (stat fr5) (T.obj _ _ st5);refine U6 hp (thn (hg _ s5 σ3 H5 x u _ I5' r5 (step x H5 y5)) λt s6 p=>?_);obtain⟨σ6,H6,I6,q6⟩:=p;refine U6 hp (thn (hb _ s6 σ6 H6 _ I6 q6) λf s7 q7=>?_)
  have again:∀{σ7:St} {H7:Hp},Inv X (pins++YW fp s5.heap) σ7 H7 s7->N σ7 H7->∃m,m<n/\∃i Y' H',Inv X pins Y' H' s7/\tn i s7.heap/\(∀b∈fp,H' b=none)/\W i m Y' H':=λ{σ7 H7} I7 n7=>by
   obtain⟨m',hm,w7⟩:=hN σ7 H7 n7;refine⟨m',hm,i+1,σ7,H7,I7.unpinned,T.keep _ _ _ st5 λb hb o e=>(I7.pin (b,o) (Wq _ (Wq _ (ZB hb e)))).1,λb hb=>?_,w7⟩;obtain⟨o,e,d⟩:=T.obj _ _ st5 b hb;exact(I7.pin (b,o) (Wq _ (Wq _ (ZB hb e)))).2.1
  cases f with
  |next=>obtain⟨σ7,H7,I7,n7⟩:=q7;exact again I7 n7
  |cont=>obtain⟨σ7,H7,I7,n7⟩:=q7;exact again I7 n7
  |brk=>obtain⟨σ7,H7,I7,q7⟩:=q7;exact⟨σ7,H7,I7.unpinned,q7⟩
  |ret v=>obtain⟨x7,σ7,H7,I7,r7,q7⟩:=q7;exact⟨x7,σ7,H7,I7.unpinned,r7,q7⟩
end
end
section
variable {f:Value->Value->Sem Value}
abbrev R2:=V->V->Hp->VK->Prop
noncomputable def OpR(X:Cx)(f:Value->Value->Sem Value)(r:R2):Prop :=
 ∀(pins:List (Addr×Obj)) (s:Shared) (Y:St) (H:Hp) (x y:V) (v u:Value) (Q:VK),Inv X pins Y H s->RelV x v->RelV y u->r x y H Q ->
  wpAny (model X.prog X.w) X.A (f v u) (EP X pins Y Q) X.xe s
noncomputable def UnR(X:Cx)(f:Value->Sem Value)(r:V->Hp->VK->Prop):Prop :=
 ∀(pins:List (Addr×Obj)) (s:Shared) (Y:St) (H:Hp) (x:V) (v:Value) (Q:VK),Inv X pins Y H s->RelV x v->r x H Q ->
  wpAny (model X.prog X.w) X.A (f v) (EP X pins Y Q) X.xe s
noncomputable def CallR(X:Cx)(f:Value)(r:List V->Hp->VK->Prop):Prop :=
 ∀(pins:List (Addr×Obj)) (s:Shared) (Y:St) (H:Hp) (xs:List V) (us:List Value) (Q:VK),Inv X pins Y H s->Vals xs us->r xs H Q ->
  wpAny (model X.prog X.w) X.A (call f us) (EP X pins Y Q) X.xe s
noncomputable def Qrk(X:Cx)(r:V->Hp->(Bool->Hp->Prop)->Prop):Prop :=
 ∀(pins:List (Addr×Obj)) (s:Shared) (Y:St) (H:Hp) (x:V) (v:Value) (Q:Bool->Hp->Prop),Inv X pins Y H s->RelV x v->r x H Q ->
  wpAny (model X.prog X.w) X.A (truthy v) (TP X pins Y Q) X.xe s
def tOp(r:R2)(ta tb:TE):TE:=λY H Q=>ta Y H λx H1=>tb Y H1 λy H2=>r x y H2 Q
def tUn(r:V->Hp->VK->Prop)(ta:TE):TE:=λY H Q=>ta Y H λx H1=>r x H1 Q
def rI(C:Int->Int->Prop)(g:Int->Int->V):R2:=λx y H Q=>∃i j,x=.int i/\y=.int j/\C i j/\Q (g i j) H
def rI0(g:Int->Int->V):R2:=λx y H Q=>∃i j,x=.int i/\y=.int j/\Q (g i j) H
def rU(g:Int->V):V->Hp->VK->Prop:=λx H Q=>∃i,x=.int i/\Q (g i) H
section
variable {X:Cx}{a b:Expr}{ta tb:TE}{pos:Pos}
def QoA(ha:PE X a ta)(hb:PE X b tb){pins:List (Addr×Obj)}{s:Shared}{Y:St}{H:Hp}{R:V->V->Hp->Prop}(I:Inv X pins Y H s)
  (h:ta Y H λx H1=>tb Y H1 λy H2=>R x y H2) {Q:Value->Shared->Prop}
  (hf:∀v u s2 x y H2,Inv X pins Y H2 s2->RelV x v->RelV y u->R x y H2->wpAny (model X.prog X.w) X.A (f v u) Q X.xe s2):
  wpAny (model X.prog X.w) X.A (eval a X.env) (λv s₁=>wpAny (model X.prog X.w) X.A (eval b X.env) (λu s₂=>wpAny (model X.prog X.w) X.A (f v u) Q X.xe s₂) X.xe s₁) X.xe s:=by
 refine thn (ha pins s Y H _ I h) λv s1 z=>?_;obtain⟨x,H1,I1,r1,q1⟩:=z;refine thn (hb pins s1 Y H1 _ I1 q1) λu s2 t=>?_;obtain⟨y,H2,I2,r2,q2⟩:=t;exact hf v u s2 x y H2 I2 r1 r2 q2
def Qnw{op:Operator}{r:R2}(ho:OpR X (binaryOp op) r)(ha:PE X a ta)(hb:PE X b tb):PE X (.BinOp a op b pos) (tOp r ta tb):=by
 intro pins s Y H Q I h;exact wpAny_BinOp (QoA ha hb I h λv u s2 x y H2 I2 rx ry q=>ho pins s2 Y H2 x y v u Q I2 rx ry q)
def Qnu{op:UnaryOp}{r:V->Hp->VK->Prop}(ho:UnR X (unaryOp op) r)(ha:PE X a ta):PE X (.UnaryOp op a pos) (tUn r ta):=by
 intro pins s Y H Q I h;exact UnaryOp_ (thn (ha pins s Y H _ I h) λv s1 z=>by obtain⟨x,H1,I1,r1,q1⟩:=z;exact ho pins s1 Y H1 x v Q I1 r1 q1)
def opI{C:Int->Int->Prop}{g:Int->Int->Int}
  (rule:∀(i j:Int) (t u:Tok) (s:Shared) (Q:Value->Shared->Prop) (E:Value->Shared->Prop),C i j->Q (.int (g i j) s.toks) {s with toks:=s.toks+1}->wpAny (model X.prog X.w) X.A (f (.int i t) (.int j u)) Q E s):
  OpR X f (rI C λi j=>.int (g i j)):=by
 intro pins s Y H x y v u Q I rx ry h;obtain⟨i,j,rfl,rfl,hc,q⟩:=h;obtain⟨t,rfl⟩:=rx;obtain⟨t',rfl⟩:=ry;exact rule i j t t' s _ _ hc ⟨.int (g i j),H,I.tok _,⟨_,rfl⟩,q⟩
def Qmq{g:Int->Int->Int}
  (rule:∀(i j:Int) (t u:Tok) (s:Shared) (Q:Value->Shared->Prop) (E:Value->Shared->Prop),Q (.int (g i j) s.toks) {s with toks:=s.toks+1}->wpAny (model X.prog X.w) X.A (f (.int i t) (.int j u)) Q E s):
  OpR X f (rI0 λi j=>.int (g i j)):=by
 intro pins s Y H x y v u Q I rx ry h;obtain⟨i,j,rfl,rfl,q⟩:=h;obtain⟨t,rfl⟩:=rx;obtain⟨t',rfl⟩:=ry;exact rule i j t t' s _ _ ⟨.int (g i j),H,I.tok _,⟨_,rfl⟩,q⟩
def Qmr{g:Int->Int->Bool}
  (rule:∀(i j:Int) (t u:Tok) (s:Shared) (Q:Value->Shared->Prop) (E:Value->Shared->Prop),Q (.bool (g i j)) s->wpAny (model X.prog X.w) X.A (f (.int i t) (.int j u)) Q E s):
  OpR X f (rI0 λi j=>.bl (g i j)):=by
 intro pins s Y H x y v u Q I rx ry h;obtain⟨i,j,rfl,rfl,q⟩:=h;obtain⟨t,rfl⟩:=rx;obtain⟨t',rfl⟩:=ry;exact rule i j t t' s _ _ ⟨.bl (g i j),H,I,rfl,q⟩
def CMul(i j:Int):Prop:=(-(2 ^ 64) < i/\i<2 ^ 64)\/(-(2 ^ 64) < j/\j<2 ^ 64)
def CMul.ok{i j:Int}(h:CMul i j):IntMulOk i j:=by
 rcases h with⟨h1,h2⟩|⟨h1,h2⟩
 ·exact .of_left (intBits_le_64 h1 h2)
 ·exact .of_right (intBits_le_64 h1 h2)
def QkU:OpR X (binaryOp .Add) (rI0 λi j=>.int (i+j)):=Qmq λz z z z z z z q=>add_int q
def QkH:OpR X (binaryOp .Sub) (rI0 λi j=>.int (i-j)):=Qmq λz z z z z z z q=>sub_int q
def QkM:OpR X (binaryOp .Mod) (rI (λz j=>0<j) λi j=>.int (i % j)):=opI λi j z z z z z hc q=>by
 have h1:(0:Int) < j:=hc
 exact mod_int' (by omega) (by rw[Int.fmod_eq_emod_of_nonneg i (by omega)];exact q)
def Qid:OpR X (inplaceOp .Add) (rI0 λi j=>.int (i+j)):=Qmq λz z z z z z z q=>iadd_int q
def Qic:OpR X (inplaceOp .Sub) (rI0 λi j=>.int (i-j)):=Qmq λz z z z z z z q=>isub_int q
def unI{f:Value->Sem Value}{g:Int->Int}
  (rule:∀(i:Int) (t:Tok) (s:Shared) (Q:Value->Shared->Prop) (E:Value->Shared->Prop),Q (.int (g i) s.toks) {s with toks:=s.toks+1}->wpAny (model X.prog X.w) X.A (f (.int i t)) Q E s):
  UnR X f (rU λi=>.int (g i)):=by
 intro pins s Y H x v Q I rx h;obtain⟨i,rfl,q⟩:=h;obtain⟨t,rfl⟩:=rx;exact rule i t s _ _ ⟨.int (g i),H,I.tok _,⟨_,rfl⟩,q⟩
def Qjq:UnR X (unaryOp .USub) (rU λi=>.int (-i)):=unI λz z z z z q=>neg_int q
end
noncomputable def Qm7:V->V->Bool
 |.non,.non=>true|.non,.int _=>true|.int _,.non=>true|.non,.bl _=>true|.bl _,.non=>true|.non,.str _=>true|.str _,.non=>true
 |.int _,.int _=>true|.bl _,.bl _=>true|.str _,.str _=>true|.byt _,.byt _=>true
 |.int _,.str _=>true|.str _,.int _=>true|.bl _,.str _=>true|.str _,.bl _=>true
 |_,_=>false
def rEq:R2:=λx y H Q=>Qm7 x y=true/\Q (.bl (decide (x=y))) H
def rNe:R2:=λx y H Q=>Qm7 x y=true/\Q (.bl (!decide (x=y))) H
def Qd6{i j:Int}:decide (V.int i=V.int j)=(i==j):=by
 rw[U7];simp
def Qgo{i j:Bool}:decide (V.bl i=V.bl j)=(i==j):=by
 rw[U7];simp
def Qd5{i j:Str}:decide (V.str i=V.str j)=(i==j):=by
 rw[U7];simp
def Qd7{i j:Array UInt8}:decide (V.byt i=V.byt j)=(i.toList==j.toList):=by
 rw[U7];cases i;cases j;simp
section
variable {X:Cx}{a b c:Expr}{ta tb:TE}{pos:Pos}
def Qv{pins:List (Addr×Obj)}{Y:St}{H:Hp}{s:Shared}{Q:VK}{k k':Bool}(I:Inv X pins Y H s)(q:Q (.bl k) H)(e:k=k'):EP X pins Y Q (.bool k') s:=by
 subst e;exact⟨.bl k,H,I,rfl,q⟩
def QnG:OpR X (compareOp .Eq) rEq:=by
 intro pins s Y H x y v u Q I rx ry h;obtain⟨hs,q⟩:=h
 cases x with
 |non=>
  cases rx
  cases y with
  |non=>cases ry;exact PySem.EqNone.eq_none_none (Qv I q (by simp))
  |bl j=>cases ry;exact PySem.EqNone.eq_none_bool (Qv I q (by simp))
  |int j=>obtain⟨t',rfl⟩:=ry;exact PySem.EqNone.eq_none_int (Qv I q (by simp))
  |str j=>obtain⟨t',rfl⟩:=ry;exact PySem.EqNone.eq_none_str (Qv I q (by simp))
  |_=>exact absurd (show false=true from hs) Xs
 |bl i=>
  cases rx
  cases y with
  |non=>cases ry;exact PySem.EqNone.eq_bool_none (Qv I q (by simp))
  |bl j=>cases ry;exact eq_bool (Qv I q Qgo)
  |str j=>obtain⟨t',rfl⟩:=ry;exact PySem.EqMixed.eq_bool_str (Qv I q (by simp))
  |_=>exact absurd (show false=true from hs) Xs
 |int i=>
  obtain⟨t,rfl⟩:=rx
  cases y with
  |non=>cases ry;exact PySem.EqNone.eq_int_none (Qv I q (by simp))
  |int j=>obtain⟨t',rfl⟩:=ry;exact eq_int (Qv I q Qd6)
  |str j=>obtain⟨t',rfl⟩:=ry;exact PySem.EqMixed.eq_int_str (Qv I q (by simp))
  |_=>exact absurd (show false=true from hs) Xs
 |str i=>
  obtain⟨t,rfl⟩:=rx
  cases y with
  |non=>cases ry;exact PySem.EqNone.eq_str_none (Qv I q (by simp))
  |bl j=>cases ry;exact PySem.EqMixed.eq_str_bool (Qv I q (by simp))
  |int j=>obtain⟨t',rfl⟩:=ry;exact PySem.EqMixed.eq_str_int (Qv I q (by simp))
  |str j=>obtain⟨t',rfl⟩:=ry;exact eq_str (Qv I q Qd5)
  |_=>exact absurd (show false=true from hs) Xs
 |byt i=>
  obtain⟨t,rfl⟩:=rx
  cases y with
  |byt j=>obtain⟨t',rfl⟩:=ry;exact W.eq_bytes (Qv I q Qd7)
  |_=>exact absurd (show false=true from hs) Xs
 |_=>cases y<;>exact absurd (show false=true from hs) Xs
def QnB:OpR X (compareOp .NotEq) rNe:=by
 intro pins s Y H x y v u Q I rx ry h;obtain⟨hs,q⟩:=h
 cases x with
 |non=>
  cases rx
  cases y with
  |non=>cases ry;exact PySem.EqNone.ne_none_none (Qv I q (by simp))
  |bl j=>cases ry;exact PySem.EqNone.ne_none_bool (Qv I q (by simp))
  |int j=>obtain⟨t',rfl⟩:=ry;exact PySem.EqNone.ne_none_int (Qv I q (by simp))
  |str j=>obtain⟨t',rfl⟩:=ry;exact PySem.EqNone.ne_none_str (Qv I q (by simp))
  |_=>exact absurd (show false=true from hs) Xs
 |bl i=>
  cases rx
  cases y with
  |non=>cases ry;exact PySem.EqNone.ne_bool_none (Qv I q (by simp))
  |bl j=>cases ry;exact ne_bool (Qv I q (congrArg not Qgo))
  |str j=>obtain⟨t',rfl⟩:=ry;exact PySem.EqMixed.ne_bool_str (Qv I q (by simp))
  |_=>exact absurd (show false=true from hs) Xs
 |int i=>
  obtain⟨t,rfl⟩:=rx
  cases y with
  |non=>cases ry;exact PySem.EqNone.ne_int_none (Qv I q (by simp))
  |int j=>obtain⟨t',rfl⟩:=ry;exact ne_int (Qv I q (congrArg not Qd6))
  |str j=>obtain⟨t',rfl⟩:=ry;exact PySem.EqMixed.ne_int_str (Qv I q (by simp))
  |_=>exact absurd (show false=true from hs) Xs
 |str i=>
  obtain⟨t,rfl⟩:=rx
  cases y with
  |non=>cases ry;exact PySem.EqNone.ne_str_none (Qv I q (by simp))
  |bl j=>cases ry;exact PySem.EqMixed.ne_str_bool (Qv I q (by simp))
  |int j=>obtain⟨t',rfl⟩:=ry;exact PySem.EqMixed.ne_str_int (Qv I q (by simp))
  |str j=>obtain⟨t',rfl⟩:=ry;exact ne_str (Qv I q (congrArg not Qd5))
  |_=>exact absurd (show false=true from hs) Xs
 |byt i=>
  obtain⟨t,rfl⟩:=rx
  cases y with
  |byt j=>obtain⟨t',rfl⟩:=ry;exact W.ne_bytes (Qv I q (congrArg not Qd7))
  |_=>exact absurd (show false=true from hs) Xs
 |_=>cases y<;>exact absurd (show false=true from hs) Xs
def QnC:OpR X (compareOp .Lt) (rI0 λi j=>.bl (decide (i<j))):=Qmr λz z z z z z z q=>lt_int q
def QnD:OpR X (compareOp .LtE) (rI0 λi j=>.bl (decide (i<=j))):=Qmr λz z z z z z z q=>le_int q
def QnE:OpR X (compareOp .Gt) (rI0 λi j=>.bl (decide (j<i))):=Qmr λz z z z z z z q=>gt_int q
def QnF:OpR X (compareOp .GtE) (rI0 λi j=>.bl (decide (j<=i))):=Qmr λz z z z z z z q=>ge_int q
def QdD:OpR X (compareOp .In) (λx y H Q=>∃i j,x=.str i/\y=.str j/\Q (.bl (!(Builtin.Str.occurrences j i 0 j.length 1).isEmpty)) H):=by
 intro pins s Y H x y v u Q I rx ry h;obtain⟨i,j,rfl,rfl,q⟩:=h;obtain⟨t,rfl⟩:=rx;obtain⟨t',rfl⟩:=ry;exact in_str (Qv I q rfl)
def QkN:OpR X (compareOp .Is) (λx y H Q=>y=.non/\Q (.bl (decide (x=.non))) H):=by
 intro pins s Y H x y v u Q I rx ry h;obtain⟨rfl,q⟩:=h;cases ry;refine is_none_gen (Qv I q ?_)
 cases x<;>first
  | (cases rx;rfl)
  | (obtain⟨t,rfl⟩:=rx;rfl)
def QhM:OpR X (compareOp .IsNot) (λx y H Q=>y=.non/\Q (.bl (!decide (x=.non))) H):=by
 intro pins s Y H x y v u Q I rx ry h;obtain⟨rfl,q⟩:=h;cases ry;refine isnot_none_gen (Qv I q ?_)
 cases x<;>first
  | (cases rx;rfl)
  | (obtain⟨t,rfl⟩:=rx;rfl)
def Qas:OpR X (compareOp .NotIn) (λx y H Q=>∃i j,x=.str i/\y=.str j/\Q (.bl (!(!(Builtin.Str.occurrences j i 0 j.length 1).isEmpty))) H):=by
 intro pins s Y H x y v u Q I rx ry h;obtain⟨i,j,rfl,rfl,q⟩:=h;obtain⟨t,rfl⟩:=rx;obtain⟨t',rfl⟩:=ry;exact notIn_str (Qv I q rfl)
def OpR.or{r r':R2}(h:OpR X f r)(h':OpR X f r'):OpR X f (λx y H Q=>r x y H Q\/r' x y H Q):=by
 intro pins s Y H x y v u Q I rx ry q
 rcases q with q|q
 ·exact h pins s Y H x y v u Q I rx ry q
 ·exact h' pins s Y H x y v u Q I rx ry q
def QhJ{op:CmpOp}{r:R2}(ho:OpR X (compareOp op) r)(ha:PE X a ta)(hb:PE X b tb)(hm:behindInMarks op b=false):PE X (.Compare a [op] [b] pos) (tOp r ta tb):=by
 intro pins s Y H Q I h;exact wpAny_Compare1 (QoA ha hb I h λv u s2 x y H2 I2 rx ry q=>ho pins s2 Y H2 x y v u Q I2 rx ry q) hm
def QmW(t:TE):TT:=λY H Q=>t Y H λx H'=>∃k,x=.bl k/\Q k H'
def Qhs{op:CmpOp}{r:R2}(ho:OpR X (compareOp op) r)(ha:PE X a ta)(hb:PE X b tb)(hm:behindInMarks op b=false):PT X (.Compare a [op] [b] pos) (QmW (tOp r ta tb)):=by
 intro pins s Y H Q I h
 refine wpAny_isTrue_Compare1 (thn (ha pins s Y H _ I h) λv s1 ⟨x,H1,I1,r1,q1⟩=>thn (hb pins s1 Y H1 _ I1 q1) λu s2 ⟨y,H2,I2,r2,q2⟩=>
  thn (ho pins s2 Y H2 x y v u _ I2 r1 r2 q2) λc s3 ⟨z,H3,I3,r3,k,e,q3⟩=>?_) hm
 subst e;cases r3;exact To ⟨H3,I3,q3⟩
noncomputable def Qmg(K:W.Frag)(x:V)(H:Hp)(k:Bool):Prop :=
 match x with
 |.non=>k=false
 |.bl b=>k=b
 |.int i=>k=(i != 0)
 |.str y=>y.length<=sizeLine/\k=((y.length:Int) != 0)
 |.byt y=>y.size<=sizeLine/\k=((y.size:Int) != 0)
 |.ref p=>(∃xs,SqL K H p xs/\k=!xs.isEmpty)\/(∃xs,SqT K H p xs/\k=!xs.isEmpty)\/∃kvs,H p=some (.dK kvs)/\k=!kvs.isEmpty
 |_=>False
def Qcz{κ:Type}{kvs:List (κ×V)}{vs:List (κ×Value)}(r:KV kvs vs):(!vs.isEmpty)=!kvs.isEmpty:=by
 cases r<;>rfl
def Jx{xs:List V}{its:List Value}(r:Vals xs its):(!its.toArray.isEmpty)=!xs.isEmpty:=by
 cases r<;>simp
def Ju:(sizeLine:Nat) < 2 ^ 63:=by rw[sizeLine_eq];decide
def QfO:Qrk X (λx H Q=>∃k,Qmg X.K x H k/\Q k H):=by
 intro pins s Y H x v Q I rx h;obtain⟨k,e,q⟩:=h;have hl:=Ju;have hs:sizeLine=16777216:=sizeLine_eq
 cases x with
 |non=>
  cases rx;have e':k=false:=e;subst e';exact truthy_none ⟨H,I,q⟩
 |bl b=>
  cases rx;have e':k=b:=e;subst e';exact To ⟨H,I,q⟩
 |int i=>
  obtain⟨t,rfl⟩:=rx;have e':k=(i != 0):=e;subst e';exact PySem.P.truthy_int ⟨H,I,q⟩
 |str y=>
  obtain⟨t,rfl⟩:=rx;obtain⟨hy,e'⟩:y.length<=sizeLine/\k=((y.length:Int) != 0):=e;subst e'
  exact PySem.P.truthy_str (by omega) ⟨H,I.tok _,q⟩
 |byt y=>
  obtain⟨t,rfl⟩:=rx;obtain⟨hy,e'⟩:y.size<=sizeLine/\k=((y.size:Int) != 0):=e;subst e'
  exact W.truthy_bytes (by omega) ⟨H,I.tok _,q⟩
 |ref p=>
  cases rx;have e':(∃xs,SqL X.K H p xs/\k=!xs.isEmpty)\/(∃xs,SqT X.K H p xs/\k=!xs.isEmpty)\/∃kvs,H p=some (.dK kvs)/\k=!kvs.isEmpty:=e
  rcases e' with⟨xs,hx,e'⟩|⟨xs,hx,e'⟩|⟨kvs,hx,e'⟩
  ·subst e';obtain⟨its,r,pl,hz⟩:=I.list hx;have hlen:=r.length
   exact wpAny_truthy_list pl.isList (by simp only[Xq];omega) ⟨H,I.tok _,by rw[Jx r];exact q⟩
  ·subst e';obtain⟨its,r,pl,hz⟩:=I.tuple hx;have hlen:=r.length
   exact truthy_tuple pl (by simp only[Xq];omega) ⟨H,I.tok _,by rw[Jx r];exact q⟩
  ·subst e';obtain⟨hz,hS,vs,r,m⟩:kvs.length<=sizeLine/\(p==sysModules)=false/\∃vs,KV kvs vs/\s.heap.DictOf (QK X.prog X.w) p vs:=I.hok p _ hx;have hlen:kvs.length=vs.length:=W7 r
   exact wpAny_truthy_dict hS m (by omega) ⟨H,I.tok _,by rw[Qcz r];exact q⟩
 |_=>exact(show False from e).elim
def Qe3(ha:PE X a ta)(he:∀whole,isTrue a X.env whole=(do let v <-whole;standAt a.pos;holding [v] (truthy v))):
  PT X a (λY H Q=>ta Y H λx H'=>∃k,Qmg X.K x H' k/\Q k H'):=by
 intro pins s Y H Q I h;exact isTrue_plain (thn (ha pins s Y H _ I h) λv s1 z=>by obtain⟨x,H1,I1,r1,q1⟩:=z;exact QfO pins s1 Y H1 x v Q I1 r1 q1) (he _)
def Qcr:OpR X (binaryOp .Add) (λx y H Q=>∃i j,x=.str i/\y=.str j/\i.length+j.length<=sizeLine/\Q (.str (i++j)) H):=by
 intro pins s Y H x y v u Q I rx ry h;obtain⟨i,j,rfl,rfl,hz,q⟩:=h;obtain⟨t,rfl⟩:=rx;obtain⟨t',rfl⟩:=ry;exact add_str (λt' tk=>⟨.str (i++j),H,I.tok _,⟨_,rfl⟩,q⟩) hz
def Je{x:V}{us:List Value}(r:Vals [x] us):∃u,us=[u]/\RelV x u:=by
 cases r with
 |cons r1 r2=>cases r2;exact⟨_,rfl,r1⟩
def Qcf{x y:V}{us:List Value}(r:Vals [x,y] us):∃u w',us=[u,w']/\RelV x u/\RelV y w':=by
 cases r with
 |cons r1 r2=>
  cases r2 with
  |cons r3 r4=>cases r4;exact⟨_,_,rfl,r1,r3⟩
def Qeg:CallR X (.type "int") (λxs H Q=>(∃i,xs=[.int i]/\Q (.int i) H)\/∃k,xs=[.bl k]/\Q (.int (if k then 1 else 0)) H):= by
 intro pins s Y H xs us Q I r h
 rcases h with⟨i,rfl,q⟩|⟨k,rfl,q⟩
 ·obtain⟨u,rfl,t,rfl⟩:=Je r;exact call_int_int ⟨.int i,H,I,⟨_,rfl⟩,q⟩
 ·obtain⟨u,rfl,r1⟩:=Je r;cases r1;exact call_int_bool ⟨.int (if k then 1 else 0),H,I.tok _,⟨_,rfl⟩,q⟩
def QaO:CallR X (.type "str") (λxs H Q=>∃i,xs=[.int i]/\i.natAbs.log2<1920/\Q (.str (toString i)) H):= by
 intro pins s Y H xs us Q I r h;obtain⟨i,rfl,hz,q⟩:=h;obtain⟨u,rfl,t,rfl⟩:=Je r;exact PySem.P.str_of_int hz ⟨.str _,H,I.tok _,⟨_,rfl⟩,q⟩
end
end
section
variable {C dx:Addr}{A:Around}{X:Cx}{h:Heap}{H:Hp}{s:Shared}{f:Str}{mA:Str->Option Value}{v:V}{u:Value}{Q:Value->Shared->Prop}{w:World}
structure ObjM(h:Heap)(x dx C:Addr)(mA:Str->Option Value):Prop where
 obj:h.get? x=some (W.instObj C dx)
 ns:h.Ns1 dx mA
 ne:dx≠x
def QdQ(n:h.Ns1 dx mA):∃od,h.get? dx=some od/\∀name,W.lookIn name od=some (mA name):=by
 obtain⟨o,es,ep,ho,hd,hk,_,hm⟩:=n;refine⟨o,ho,λname=>?_⟩;have e:=hm name;unfold nsFind findBy at e;rw[<-Array.find?_toList]at e;unfold W.lookIn;rw[hd];dsimp only;split
 ·rename_i y q;rw[q]at e;exact congrArg some e
 ·rename_i q;rw[q]at e
  have a:es.toList.any (·.refKey)=false:=by
   rw[List.any_eq_false];intro y hy;obtain⟨z,t,hkey⟩:=hk y (Array.mem_toList_iff.mp hy);simp[DictEntry.refKey,hkey]
  have a':¬es.toList.any (·.refKey)=true:=by rw[a];exact Xs
  rw[if_neg a'];exact congrArg some e
def ObjM.look{x:Addr}(I:ObjM h x dx C mA):∃od,W.InstAt h x (W.instObj C dx) C (some od)/\∀name,W.lookIn name od=some (mA name):=
 let ⟨od,ho,hl⟩:=QdQ I.ns
 ⟨od,⟨I.obj,rfl,rfl,ho⟩,hl⟩
section
variable {prog:Program}{E:Value->Shared->Prop}{K:W.Frag}{x f:Addr}{name:Str}{v:Value}
def Qik{expr:Bool}(X:K.In s.heap)(I:ObjM s.heap x dx C mA)(hg:W.plainGet K C name=true)(hh:W.hasDictIn K C=true)
  (ha:W.findIn K (.ref C) name=some none) (hv:mA name=some v) (hv':W.handedIn v=true) (h:Q v {s with toks:=s.toks+1}):
  wpAny (model prog w) A (getAttr (.ref x) name expr) Q E s:=by
 obtain⟨od,J,hl⟩:=I.look
 exact W.get_value X J (W.plainGet_of hg).1 (W.findObj_own hh ha rfl (by rw[hl,hv])) hv' h
def Qfw{pl:Sem Bool}{Q:Value×List Value->Shared->Prop}(X:K.In s.heap)(I:ObjM s.heap x dx C mA)(hg:W.plainGet K C name=true)
  (hf:W.findIn K (.ref C) name=some (some (.ref f))) (ht:W.isFn K (.ref f)=true) (hv:mA name=none) (h:Q (.ref f,[.ref x]) s):
  wpAny (model prog w) A (getMethod (.ref x) name pl) Q E s:=by
 obtain⟨od,J,hl⟩:=I.look
 exact W.method_fn X J (W.plainGet_of hg).1 (W.plainGet_of hg).2 hf (Ww.mp ht) (by show(W.lookIn name od).map (·.isSome)=some false;rw[hl,hv];rfl) h
def Qhc{ns:List Str}{Q:Unit->Shared->Prop}(X:K.In s.heap)(I:ObjM s.heap x dx C mA)
  (hs:W.findIn K (.ref C) "__setattr__"=some (some (.builtin "object.__setattr__"))) (hp:W.plainOver K C=true) (ht:W.takerIn K C name=some none) (hh:W.hasDictIn K C=true)
  (hw:PySem.Within mA ns) (hsz:ns.length<=sizeLine)
  (h:∀h',ObjM h' x dx C (λy=>if y=name then some v else mA y)->Heap.SameBut dx s.heap h'->Q () {s with heap:=h',toks:=s.toks+2}):
  wpAny (model prog w) A (setAttr (.ref x) name v) Q E s:=by
 obtain⟨od,J,hl⟩:=I.look;refine W.set_plain X J hs (W.osa_open (s:={s with toks:=s.toks+1}) (r:=none) X J hp ht λb=>?_);obtain⟨cd,hc,hd'⟩:=W.any_some hh;have hx:s.heap.get? x=some ⟨.ref C,some dx,.plain,#[]⟩:=I.obj;refine Xg (Xu (Xg (Xg (wpAny_loadPart hx (Xg (W.Looks.here (s:={s with toks:=s.toks+1}) (W.looks_clsIn X hc) ?_))))));rw[hd'];refine Xu (a:=some dx) (Xg (Xu (Xg ?_)));refine wpAny_nsSet1 (s:={s with toks:=s.toks+1}) I.ns λh' hn2 hs2=>?_;obtain⟨oD,esD,epD,hoD,hdD,hcD⟩:=hn2.count (PySem.Within.cons name v hw)
 refine Xg (wpAny_lookBehind hoD (by rw[hdD];exact pastItsLine_dict (X3 hcD (by rw[Wj];omega))) ?_)
 exact Xu (h _ ⟨(hs2.2 _ (X8 I.ne)).trans I.obj,hn2,I.ne⟩ hs2)
def Qfl{R:Result->Shared->Prop}{vs:List Value}{kw:List (Str×Value)}(X:K.In s.heap)(hm:W.makesIn K C=true)
  (hi:W.findIn K (.ref C) "__init__"=some (some (.ref f))) (hf:W.typeIn K (.ref f)=some (.type "function"))
  (h:codeAny (model prog w) (A.under (.builtin "type.__call__" ⟨.ref C::vs,kw⟩)) (.call (.ref f) ⟨.ref (s.heap.objs.size+1)::vs,kw⟩) (W.InitBack (s.heap.objs.size+1) R)
   {s with heap:=(s.heap.push W.emptyDict).push (W.instObj C s.heap.objs.size)}):
  codeAny (model prog w) A (.call (.ref C) ⟨vs,kw⟩) R s:=by
 obtain⟨hh,g,d,t,os⟩:=s;exact W.make_core (W.makes_of X hm) (W.looks_findIn X hi) (λself=>W.bind_fn X self hf) (.inl rfl) h
def QdO{R:Result->Shared->Prop}(X:K.In s.heap)(hm:W.makesIn K C=true)
  (hi:W.findIn K (.ref C) "__init__"=some (some (.builtin "object.__init__")))
  (hb:∀self,W.Looks (model prog w) s.heap (bindSpecial (.builtin "object.__init__") self) (.builtin "object.__init__",[self]))
  (h:codeAny (model prog w) (A.under (.builtin "type.__call__" ⟨[.ref C],[]⟩)) (.call (.builtin "object.__init__") ⟨[.ref (s.heap.objs.size+1)],[]⟩) (W.InitBack (s.heap.objs.size+1) R)
   {s with heap:=(s.heap.push W.emptyDict).push (W.instObj C s.heap.objs.size)}):
  codeAny (model prog w) A (.call (.ref C) ⟨[],[]⟩) R s:=by
 obtain⟨hh,g,d,t,os⟩:=s;exact W.make_core (W.makes_of X hm) (W.looks_findIn X hi) hb (.inr ⟨rfl,rfl⟩) h
end
noncomputable def JP(f:Str)(v:V):List (Str×V)->List (Str×V)
 |[]=>[(f,v)]
 | (g,x)::r=>if g=f then(g,v)::r else(g,x)::JP f v r
theorem YY(f g:Str)(v:V):∀fs:List (Str×V),(JP f v fs).lookup g=if g=f then some v else fs.lookup g
 |[]=>by
  show List.lookup g [(f,v)]=_;by_cases h:g=f
  ·have hb:(g==f)=true:=Ww.mpr h;simp only[List.lookup,hb,if_pos h]
  ·have hb:(g==f)=false:=Wu.mpr h;simp only[List.lookup,hb,if_neg h]
 | (k,x)::r=>by
  have ih:=YY f g v r;rw[show JP f v ((k,x)::r)=(if k=f then(k,v)::r else(k,x)::JP f v r)from rfl];by_cases hk:k=f
  ·rw[if_pos hk];by_cases h:g=k
   ·have hb:(g==k)=true:=Ww.mpr h;simp only[List.lookup,hb,if_pos (h.trans hk)]
   ·have hb:(g==k)=false:=Wu.mpr h;simp only[List.lookup,hb,if_neg (λe:g=f=>h (e.trans hk.symm))]
  ·rw[if_neg hk];by_cases h:g=k
   ·have hb:(g==k)=true:=Ww.mpr h;simp only[List.lookup,hb,if_neg (λe:g=f=>hk (h.symm.trans e))]
   ·have hb:(g==k)=false:=Wu.mpr h;simp only[List.lookup,hb];exact ih
theorem Y0(f:Str)(v:V):∀fs:List (Str×V),f∈(JP f v fs).map (·.1)/\∀g,g∈fs.map (·.1)->g∈(JP f v fs).map (·.1)
 |[]=>⟨by simp[JP],λg h=>by simp at h⟩
 | (k,x)::r=>by
  obtain⟨i1,i2⟩:=Y0 f v r;rw[show JP f v ((k,x)::r)=(if k=f then(k,v)::r else(k,x)::JP f v r)from rfl];by_cases hk:k=f
  ·rw[if_pos hk];subst hk
   exact⟨by simp,λg h=>by simpa using h⟩
  ·rw[if_neg hk];refine⟨?_,λg h=>?_⟩
   ·rw[X1];exact Xi _ i1
   ·rw[X1]at h ⊢
    rcases Xd.mp h with e|e
    ·exact Xd.mpr (.inl e)
    ·exact Xi _ (i2 g e)
theorem YZ(f:Str)(v:V):∀fs:List (Str×V),(JP f v fs).length<=fs.length+1
 |[]=>by simp[JP]
 | (k,x)::r=>by
  have ih:=YZ f v r;rw[show JP f v ((k,x)::r)=(if k=f then(k,v)::r else(k,x)::JP f v r)from rfl];by_cases hk:k=f
  ·rw[if_pos hk,Wj,Wj];omega
  ·rw[if_neg hk,Wj,Wj];omega
def RelO.some_of{o:Option Value}(r:RelO (some v) o):∃u,o=some u/\RelV v u:=by
 cases o with
 |none=>exact(show False from r).elim
 |some u=>exact⟨u,rfl,r⟩
def RelO.none_of{o:Option Value}(r:RelO none o):o=none:=by
 cases o with
 |none=>rfl
 |some u=>exact(show False from r).elim
def Qd0(r:RelV v u):W.handedIn u=true:=by
 cases v with
 |non=>cases(show u=Value.none from r);rfl
 |bl b=>cases(show u=Value.bool b from r);rfl
 |int i=>obtain⟨t,e⟩:=(show ∃t,u=Value.int i t from r);cases e;rfl
 |str x=>obtain⟨t,e⟩:=(show ∃t,u=Value.str x t from r);cases e;rfl
 |byt b=>obtain⟨t,e⟩:=(show ∃t,u=Value.bytes b t from r);cases e;rfl
 |flt b=>obtain⟨t,e⟩:=(show ∃t,u=Value.float b t from r);cases e;rfl
 |ref a=>cases(show u=Value.ref a from r);rfl
 |ty n=>cases(show u=Value.type n from r);rfl
section
variable {P:Program}{a:Addr}{fs:List (Str×V)}
def JS(hok:HOk P w H h)(e:H a=some (.ins C dx fs)):∃mA,ObjM h a dx C mA/\(∀f,RelO (fs.lookup f) (mA f))/\PySem.Within mA (fs.map (·.1))/\fs.length<=1000/\H dx=some (.own a):=by
 obtain⟨d,z,ne,ob,mA,n,r,q⟩:=(show ObjOk P w H h a (.ins C dx fs)from hok a _ e);exact⟨mA,⟨ob,n,ne⟩,r,q,z,d⟩
end
structure Cls(K:W.Frag)(C:Addr):Prop where
 pg:W.plainGet K C Str.empty=true
 hd:W.hasDictIn K C=true
 po:W.plainOver K C=true
 sa:W.findIn K (.ref C) "__setattr__"=some (some (.builtin "object.__setattr__"))
def Cls.get{K:W.Frag}(c:Cls K C)(f:Str):W.plainGet K C f=true:=c.pg
def NoAttr(K:W.Frag)(C:Addr)(f:Str):Prop:=W.findIn K (.ref C) f=some none
def NoAttr.taker{K:W.Frag}(n:NoAttr K C f):W.takerIn K C f=some none:=by
 unfold W.takerIn;rw[show W.findIn K (.ref C) f=some none from n];rfl
structure Meth(K:W.Frag)(C:Addr)(m:Str)(f:Addr):Prop where
 at_:W.findIn K (.ref C) m=some (some (.ref f))
 fn:W.isFn K (.ref f)=true
 kp:W.keepIn K (.ref f)=true
section
variable {pins:List (Addr×Obj)}{Y:St}{a:Addr}{fs:List (Str×V)}{E:Value->Shared->Prop}
def QcC{b:Bool}(I:Inv X pins Y H s)(e:H a=some (.ins C dx fs))(c:Cls X.K C)(n:NoAttr X.K C f)(l:fs.lookup f=some v)
  (h:∀u s',Inv X pins Y H s'->RelV v u->Q u s'):wpAny (model X.prog X.w) A (getAttr (.ref a) f b) Q E s:=by
 obtain⟨mA,O,r,_,_,_⟩:=JS I.hok e
 obtain⟨u,hu,ru⟩:=RelO.some_of (v:=v) (o:=mA f) (by rw[<-l];exact r f)
 exact Qik I.kIn O (c.get f) c.hd n hu (Qd0 ru) (h u _ (I.tok _) ru)
def QcB{m:Str}{g:Addr}{pl:Sem Bool}{Q:Value×List Value->Shared->Prop}(I:Inv X pins Y H s)(e:H a=some (.ins C dx fs))(c:Cls X.K C)(k:Meth X.K C m g)(l:fs.lookup m=none)
  (h:Q (.ref g,[.ref a]) s):wpAny (model X.prog X.w) A (getMethod (.ref a) m pl) Q E s:=by
 obtain⟨mA,O,r,_,_,_⟩:=JS I.hok e
 have hn:mA m=none:=RelO.none_of (by rw[<-l];exact r m)
 exact Qfw I.kIn O (c.get m) k.at_ k.fn hn h
def Qcl{y:V}{Q:Unit->Shared->Prop}(I:Inv X pins Y H s)(e:H a=some (.ins C dx fs))(c:Cls X.K C)(n:NoAttr X.K C f)(hl:fs.length<1000)(ry:RelV y u)
  (h:∀s',Inv X pins Y (upd H a (.ins C dx (JP f y fs))) s'->Q () s'):wpAny (model X.prog X.w) A (setAttr (.ref a) f u) Q E s:=by
 obtain⟨mA,O,r,wi,_,ho⟩:=JS I.hok e
 have hz:(fs.map (·.1)).length<=sizeLine:=by rw[Xz,sizeLine_eq];omega
 refine Qhc I.kIn O c.sa c.po n.taker c.hd wi hz λh' O' sb=>h _ ?_;have hd:∃o,h'.get? dx=some o:=let ⟨o,_,_,e',_⟩:=O'.ns;⟨o,e'⟩
 refine I.write (x:=a) (e:=dx) (by rw[e];exact True.intro) (.inr ho) (λb q hb z=>(sb.2 b hb).trans z) hd ?_
 refine⟨by rw[Qc O.ne];exact ho,?_,O.ne,O'.obj,_,O'.ns,λg=>?_,λg hg=>?_⟩
 ·have:=YZ f y fs;omega
 ·show RelO ((JP f y fs).lookup g) (if g=f then some u else mA g);rw[YY];by_cases q:g=f
  ·rw[if_pos q,if_pos q];exact ry
  ·rw[if_neg q,if_neg q];exact r g
 ·by_cases q:g=f
  ·rw[q];exact(Y0 f y fs).1
  ·refine(Y0 f y fs).2 g (wi g λz=>hg ?_);show(if g=f then some u else mA g)=none;rw[if_neg q];exact z
def Inv.made(I:Inv X pins Y H s):Inv X pins Y (upd (upd H s.heap.objs.size (.own (s.heap.objs.size+1))) (s.heap.objs.size+1) (.ins C s.heap.objs.size []))
  {s with heap:=(s.heap.push W.emptyDict).push (W.instObj C s.heap.objs.size)}:=by
 have e1:(s.heap.push W.emptyDict).get? s.heap.objs.size=some W.emptyDict:=X2 s.heap rfl
 have e2:((s.heap.push W.emptyDict).push (W.instObj C s.heap.objs.size)).get? (s.heap.objs.size+1)=some (W.instObj C s.heap.objs.size):=by
  have:=X2 (s.heap.push W.emptyDict) (o:=W.instObj C s.heap.objs.size) rfl;rwa [Ug]at this
 have e3:(s.heap.push W.emptyDict).Ns s.heap.objs.size (λz=>none):=⟨W.emptyDict,#[],_,e1,rfl,(λe he=>absurd he (by simp)),λz=>rfl⟩
 have I1:=I.laid (a:=s.heap.objs.size) (o:=.own (s.heap.objs.size+1)) (h':=s.heap.push W.emptyDict) (t':=s.toks) (λb u q=>Xj _ q) (Xh _) ⟨_,e1⟩;refine I1.laid (a:=s.heap.objs.size+1) (o:=.ins C s.heap.objs.size []) (t':=s.toks) (λb u q=>Xj _ q) (Ta (Ug _ _)) ?_;have ne:s.heap.objs.size≠s.heap.objs.size+1:=X0 (Vn _)
 refine⟨by rw[Qc ne,Qh],Vw _,ne,e2,λz=>none,(Heap.Ns1.of_empty e3).at λo q=>Xj _ q,λz=>True.intro,λy hy=>absurd rfl hy⟩
def QiQ{prog:Program}{env:Env}{e:Expr}{f:Str}{pos:Pos}{s:Shared}(hb:attributeBase e f env (eval e env)=eval e env)
  (h:wpAny (model prog w) A (eval e env) (λo s₁=>wpAny (model prog w) A (getAttr o f true) Q E s₁) E s):wpAny (model prog w) A (eval (.Attribute e f pos) env) Q E s :=
 Attribute_any_ h (by rw[arm_eval_Attribute,hb])
end
def QpT(K:W.Frag)(ta:TE)(f:Str):TE:=λY H Q=>ta Y H λx H1=>∃a C dx fs v,x=.ref a/\H1 a=some (.ins C dx fs)/\Cls K C/\NoAttr K C f/\fs.lookup f=some v/\Q v H1
def Qqc(K:W.Frag)(ta tv:TE)(f:Str):TS:=λD Y H=>tv Y H λy H1=>ta Y H1 λx H2=>∃a C dx fs,x=.ref a/\H2 a=some (.ins C dx fs)/\Cls K C/\NoAttr K C f/\fs.length<1000 /\
 D.nx Y (upd H2 a (.ins C dx (JP f y fs)))
section
variable {o e value:Expr}{pos pos':Pos}{ta tv:TE}
def QkE(he:PE X e ta)(hb:attributeBase e f X.env (eval e X.env)=eval e X.env):PE X (.Attribute e f pos) (QpT X.K ta f):=by
 intro pins s Y H Q I h;refine QiQ hb (thn (he pins s Y H _ I h) λu s1 z=>?_);obtain⟨x,H1,I1,rx,a,C,dx,fs,v,ex,ea,c,n,l,q⟩:=z;subst ex;obtain rfl:u=Value.ref a:=rx;exact QcC I1 ea c n l λu' s2 I2 ru=>⟨v,H1,I2,ru,q⟩
def Qkm(ha:PE X o ta)(hv:PE X value tv)(hs:swapsWith value (some (.Attribute o f pos')) pos.line X.env=pure false):PS X (.Assign [.Attribute o f pos'] value pos) (Qqc X.K ta tv f):=by
 intro pins s Y H D I h;refine plainObj_wpAny_Assign_Attribute (thn (hv pins s Y H _ I h) λu s1 ⟨y,H1,I1,ry,q⟩=>thn (ha pins s1 Y H1 _ I1 q) λov s2 z=>?_) hs;obtain⟨x,H2,I2,rx,a,C,dx,fs,ex,ea,c,n,l,q2⟩:=z;subst ex;obtain rfl:ov=Value.ref a:=rx;exact Qcl I2 ea c n l ry λs3 I3=>⟨Y,_,I3,q2⟩
end
section
variable {pins:List (Addr×Obj)}{Y:St}{E:Value->Shared->Prop}{c:Value}{b:Bool}
inductive TyOf(K:W.Frag)(H:Hp):V->Value->Prop where
 |non:TyOf K H .non (.type "NoneType")
 |bl (x:Bool):TyOf K H (.bl x) (.type "bool")
 |int (i:Int):TyOf K H (.int i) (.type "int")
 |str (x:Str):TyOf K H (.str x) (.type "str")
 |flt (x:UInt64):TyOf K H (.flt x) (.type "float")
 |lst {a:Addr} {xs:List V} (e:H a=some (.lst xs)):TyOf K H (.ref a) (.type "list")
 |frz {a:Addr} {o:Obj} {xs:List V} (e:H a=some (.frz o (.lst xs))):TyOf K H (.ref a) (.type "list")
 |tup {a:Addr} {xs:List V} (e:H a=some (.tup xs)):TyOf K H (.ref a) (.type "tuple")
 |dK {a:Addr} {kvs:List (Key×V)} (e:H a=some (.dK kvs)):TyOf K H (.ref a) (.type "dict")
 |dT {a:Addr} {kvs:List (List Key×V)} (e:H a=some (.dT kvs)):TyOf K H (.ref a) (.type "dict")
 |ins {a C dx:Addr} {fs:List (Str×V)} (e:H a=some (.ins C dx fs)) (cl:Cls K C) (ha:W.findIn K (.ref C) "__class__"=some (some (.builtin "object.__class__")))
   (hn:W.specialIn K (.builtin "object.__class__") "__get__"=some (some (.builtin "getset_descriptor.__get__"))) (htk:W.takesIn K (.builtin "object.__class__")=some true)
   (hm:W.mroIn K C (.type "object")=some true):TyOf K H (.ref a) (.ref C)
def QdU{x:V}{t:Value}(I:Inv X pins Y H s)(rx:RelV x u)(ty:TyOf X.K H x t)(e:W.kitOne X.K t c=some b)(h:∀tk,Q (.bool b) {s with toks:=tk}):
  wpAny (model X.prog X.w) A (call (.builtin "isinstance") [u,c]) Q E s:=by
 cases ty with
 |non=>cases(show u=Value.none from rx);exact Uf W.kitx_none I.kIn True.intro e (λz=>nomatch z) h
 |bl y=>cases(show u=Value.bool y from rx);exact Uf W.kitx_bool I.kIn True.intro e (λz=>nomatch z) h
 |int i=>obtain⟨t,q⟩:=(show ∃t,u=Value.int i t from rx);cases q;exact Uf W.kitx_int I.kIn True.intro e (λz=>nomatch z) h
 |str y=>obtain⟨t,q⟩:=(show ∃t,u=Value.str y t from rx);cases q;exact Uf W.kitx_str I.kIn True.intro e (λz=>nomatch z) h
 |flt y=>obtain⟨t,q⟩:=(show ∃t,u=Value.float y t from rx);cases q;exact Uf W.kitx_float I.kIn True.intro e (λz=>nomatch z) h
 | @lst a xs ea=>
  cases(show u=Value.ref a from rx);obtain⟨_,_,n,_,h1⟩:=(show ObjOk X.prog X.w H s.heap a (.lst xs)from I.hok a _ ea);exact Uf W.kitx_list I.kIn ⟨_,h1,rfl⟩ e (λz=>nomatch z) h
 | @frz a ob xs ea=>
  cases(show u=Value.ref a from rx);obtain⟨_,_,_,n,_,h1⟩:=(show ObjOk X.prog X.w H s.heap a (.frz ob (.lst xs))from I.hok a _ ea);exact Uf W.kitx_list I.kIn ⟨_,h1,rfl⟩ e (λz=>nomatch z) h
 | @tup a xs ea=>
  cases(show u=Value.ref a from rx);obtain⟨_,_,_,p⟩:=(show ObjOk X.prog X.w H s.heap a (.tup xs)from I.hok a _ ea);obtain⟨o,h1,h2,_⟩:=p;exact Uf W.kitx_tuple I.kIn ⟨o,h1,h2⟩ e (λz=>nomatch z) h
 | @dK a kvs ea=>
  cases(show u=Value.ref a from rx);obtain⟨_,_,vs,_,p⟩:=(show ObjOk X.prog X.w H s.heap a (.dK kvs)from I.hok a _ ea);obtain⟨o,es,ep,h1,h2,_⟩:=p;exact Uf W.kitx_dict I.kIn ⟨o,h1,h2.1⟩ e (λz=>nomatch z) h
 | @dT a kvs ea=>
  cases(show u=Value.ref a from rx);obtain⟨_,_,xs,_,o,es,ep,h1,h2,_⟩:=(show ObjOk X.prog X.w H s.heap a (.dT kvs)from I.hok a _ ea);exact Uf W.kitx_dict I.kIn ⟨o,h1,h2.1⟩ e (λz=>nomatch z) h
 | @ins a C dx fs ea cl ha hn htk hm=>
  cases(show u=Value.ref a from rx);obtain⟨mA,O,_⟩:=JS I.hok ea;obtain⟨od,J,_⟩:=O.look;exact Uf (W.kitx_own (cl.get _) cl.hd ha hn htk hm) I.kIn J e (λz=>nomatch z) h
end
end
section
variable {C f:Addr}{A:Around}{X:Cx}{e:Expr}{fd:FuncData}{H:Hp}{pins:List (Addr×Obj)}{es:List Expr}{ps:List Str}{vs:List V}{us:List Value}{pos:Pos}{P:Program}{s:Shared}{Y:St}{x:Str}{mg:Str->Option Value}{t:TA}{Q:VK}{w:World}
structure Room(k:Nat)(A:Around):Prop where
 hd:A.handled=none
 dp:A.depth+3*k+5<recursionLimit
 un:A.units+16*k+200<cLine
def Room.mono{j k:Nat}(r:Room k A)(h:j<=k):Room j A:=⟨r.hd,by have:=r.dp;omega,by have:=r.un;omega⟩
theorem Room.deeper{k:Nat}(r:Room (k+1) A)(env:Env):Room k (A.deeper env):=
 ⟨r.hd,by have:=r.dp;show A.depth+1+3*k+5<_;omega,by have:=r.un;show A.units+3+16*k+200<_;omega⟩
def Qcv{kw:List (Str×Value)}:(A.under (.builtin "type.__call__" ⟨.ref C::us,kw⟩)).depth=A.depth+1:=by
 first|rfl|simp[Around.under,Code.weight,Code.isCreation,Code.isGuard,Code.isCaller,Code.frames,Code.isFrame,guardIds]
def Qcu{kw:List (Str×Value)}:(A.under (.builtin "type.__call__" ⟨.ref C::us,kw⟩)).units=A.units+1:=by
 first|rfl|simp[Around.under,Code.cUnits,Code.frames,Code.isFrame]
def Room.make{k:Nat}(r:Room (k+1) A)(C:Addr)(us:List Value)(kw:List (Str×Value)):Room k (A.under (.builtin "type.__call__" ⟨.ref C::us,kw⟩)):=
 ⟨r.hd,by have:=r.dp;rw[Qcv];omega,by have:=r.un;rw[Qcu];omega⟩
theorem Room.depth{k:Nat}(r:Room k A):A.depth<recursionLimit:=by have:=r.dp;omega
theorem Room.units{k:Nat}(r:Room k A):A.units+64<cLine:=by have:=r.un;omega
def Qmm:TA:=λz H Q=>Q [] H
def QgS(ta:TE)(tr:TA):TA:=λY H Q=>ta Y H λx H1=>tr Y H1 λxs H2=>Q (x::xs) H2
section
variable {te:TE}
def YX:PA X [] Qmm:=λz z z z H Q I h=>Uu ⟨[],H,I,.nil,h⟩
def Zm(ha:PE X e te)(hr:PA X es t)(hs:starEach (e::es) X.env=(false,eval e X.env)::starEach es X.env:=by rfl):PA X (e::es) (QgS te t):=by
 intro pos pins s Y H Q I h;rw[hs];show wpAny _ _ (spliced ((false,eval e X.env)::backTo pos (starEach es X.env))) _ _ s;refine Up (thn (ha pins s Y H _ I h) λu s1 z=>?_);obtain⟨x,H1,I1,r1,q1⟩:=z;exact thn (hr pos pins s1 Y H1 _ I1 q1) λus s2 y=>by obtain⟨xs,H2,I2,r2,q2⟩:=y;exact⟨x::xs,H2,I2,.cons r1 r2,q2⟩
def QpK(t:TA):TE:=λY H Q=>t Y H λxs H1=>xs.length<=sizeLine/\∀p,H1 p=none->Q (.ref p) (upd H1 p (.tup xs))
def QpQ(t:TA):TE:=λY H Q=>t Y H λxs H1=>xs.length<=sizeLine/\∀p,H1 p=none->Q (.ref p) (upd H1 p (.lst xs))
def Qf7{x1}(h:PA X es t):PE X (.Tuple es x1 pos) (QpK t):=by
 intro pins s Y H Q I hq
 refine wpAny_Tuple_spliced (thn (h pos pins s Y H _ I hq) λus s1 ⟨xs,H1,I1,r,z,q⟩=>⟨by rw[<-r.length];exact z,?_⟩)
 have hf:H1 s1.heap.objs.size=none:=I1.hok.fresh (Xh _);refine⟨.ref s1.heap.objs.size,upd H1 s1.heap.objs.size (.tup xs),I1.laid (t':=s1.toks) (λb u e=>Xj _ e) (Xh _) ?_,rfl,q _ hf⟩;exact⟨z,us,r,⟨_,X2 _ rfl,rfl,_,rfl⟩⟩
def QkC(h:PA X es t):PE X (.List es pos) (QpQ t):=by
 intro pins s Y H Q I hq
 refine wpAny_List_spliced (thn (h pos pins s Y H _ I hq) λus s1 ⟨xs,H1,I1,r,z,q⟩=>⟨by rw[<-r.length];exact z,?_⟩)
 have hf:H1 s1.heap.objs.size=none:=I1.hok.fresh (Xh _);refine⟨.ref s1.heap.objs.size,upd H1 s1.heap.objs.size (.lst xs),I1.laid (t':=s1.toks) (λb u e=>Xj _ e) (Xh _) ?_,rfl,q _ hf⟩;exact⟨z,us,0,r,X2 _ rfl⟩
end
abbrev Sp:=List V->Hp->VK->XK->Prop
abbrev CXT:=List Env->Hp->Shared->XK->Value->Shared->Prop
structure Env0(P:Program)(w:World)(K:W.Frag)(mg:Str->Option Value)(base:Heap)(A:Around)(outer:List Env)(s:Shared)(H:Hp):Prop where
 frames:A.frames=some outer
 mod:Mod K mg base
 bs:∀b o,base.get? b=some o->s.heap.get? b=some o/\H b=none
 bsz:base.objs.size<=s.heap.objs.size
 funs:s.heap.FunFrames base outer
 frf:∀b∈frs outer,H b=none
 hok:HOk P w H s.heap
 bare:AllBare s.gens
noncomputable def CE(outer:List Env)(P:Program)(w:World)(H:Hp)(s:Shared)(Q:VK)(u:Value)(s':Shared):Prop :=
 ∃v H',s'.os=s.os/\AllBare s'.gens/\Un (frs outer) [] H H' s.heap s'.heap/\HOk P w H' s'.heap/\RelV v u/\Q v H'
noncomputable def CR(CX:CXT)(outer:List Env)(P:Program)(w:World)(H:Hp)(s:Shared)(Q:VK)(E:XK)(r:Result)(s':Shared):Prop :=
 match r with
 |.ok (.ret u)=>CE outer P w H s Q u s'
 |.ok _=>False
 |.error e=>CX outer H s E e s'
structure FnOk(P:Program)(w:World)(K:W.Frag)(mg:Str->Option Value)(base:Heap)(CX:CXT)(k:Nat)(f:Addr)(fd:FuncData)(ps:List Str)(sp:Sp):Prop where
 len:∀vs H Q E,sp vs H Q E->vs.length=ps.length
 run:∀(A:Around) (outer:List Env) (s:Shared) (H:Hp) (args:Args) (us:List Value) (vs:List V) (Q:VK) (E:XK),Room k A->Env0 P w K mg base A outer s H->BindsTo s fd args (ps.zip us)->Vals vs us->sp vs H Q E ->
  codeAny (model P w) A (.call (.ref f) args) (CR CX outer P w H s Q E) s
theorem FnOk.mono{K:W.Frag}{base:Heap}{CX:CXT}{j k:Nat}{sp:Sp}(F:FnOk P w K mg base CX j f fd ps sp)(h:j<=k):
  FnOk P w K mg base CX k f fd ps sp:=⟨F.len,λA outer s H args us vs Q E hr=>F.run A outer s H args us vs Q E (hr.mono h)⟩
def Env0.make{K:W.Frag}{base:Heap}{outer:List Env}(e:Env0 P w K mg base A outer s H)(C:Addr)(us:List Value)(kw:List (Str×Value)):
  Env0 P w K mg base (A.under (.builtin "type.__call__" ⟨.ref C::us,kw⟩)) outer s H:=⟨by first|exact e.frames|(simpa[Around.under,Code.envs,Code.isFrame,pushEnvs]using e.frames),e.mod,e.bs,e.bsz,e.funs,e.frf,e.hok,e.bare⟩
section
variable {s':Shared}
def Inv.env0(I:Inv X pins Y H s):Env0 X.prog X.w X.K X.mg X.base X.A X.stack s H :=
 ⟨I.ok.frames,I.ok.mod,I.bs,X3 I.ok.bsz I.sz,I.stack,I.stkFree,I.hok,I.bare⟩
def Inv.after{u:Value}(I:Inv X pins Y H s)(h:CE X.stack X.prog X.w H s Q u s'):EP X pins Y Q u s':=by
 obtain⟨v,H',os,bare,un,hok,r,q⟩:=h;obtain⟨hh,g,d,t,os'⟩:=s';obtain rfl:os'=s.os:=os
 exact⟨v,H',I.call (h':=hh) (g':=g) (d':=d) (t':=t) (ch:=[]) un hok bare (λb z=>absurd z (by simp)),r,q⟩
end
def QgT(sp:Sp)(dvs:List V)(E:XK)(t:TA):TE:=λY H Q=>t Y H λvs H1=>sp (vs++dvs) H1 Q E
def QjE(C:Addr)(sp:Sp)(dvs:List V)(E:XK)(t:TA):TE:=λY H Q=>t Y H λvs H1=>∀x dx,H1 x=none->H1 dx=none->dx≠x ->
 sp (.ref x::(vs++dvs)) (upd (upd H1 dx (.own x)) x (.ins C dx [])) (λv H2=>v=.non/\Q (.ref x) H2) E
noncomputable def Binds(K:W.Frag)(fd:FuncData)(ps:List Str)(ds:List Value):Prop :=
 ∀(s:Shared) (us:List Value),K.In s.heap->(us++ds).length=ps.length->BindsTo s fd ⟨us,[]⟩ (ps.zip (us++ds))
def Binds.all{K:W.Frag}(h:∀us:List Value,us.length=ps.length->bindArgs fd ⟨us,[]⟩=pure (ps.zip us)):Binds K fd ps []:=λs us z hl=>by
 rw[Vu]at hl ⊢;exact .of_eq (h us hl)
def Jb(CX:CXT)(X:Cx)(E:XK):Prop:=∀(pins:List (Addr×Obj)) (Y:St) (H:Hp) (s:Shared) (e:Value) (s':Shared),Inv X pins Y H s->CX X.stack H s E e s'->X.xe e s'
section
variable {CX:CXT}{k:Nat}{sp:Sp}{dvs:List V}{ds:List Value}{E:XK}{p:Pos}
def Qdi(F:FnOk X.prog X.w X.K X.mg X.base CX k f fd ps sp)(hr:Room k X.A)(hb:Binds X.K fd ps ds)(hd:Vals dvs ds)(hx:Jb CX X E)
  (I:Inv X pins Y H s) (r:Vals vs us) (h:sp (vs++dvs) H Q E):wpAny (model X.prog X.w) X.A (call (.ref f) us) (EP X pins Y Q) X.xe s:=by
 have r2:Vals (vs++dvs) (us++ds):=r.append hd
 have hl:(us++ds).length=ps.length:=by rw[<-r2.length];exact F.len _ _ _ _ h
 refine wpAny_call (Tx (F.run X.A X.stack s H ⟨us,[]⟩ (us++ds) (vs++dvs) Q E hr I.env0 (hb s us I.kIn hl) r2 h) λr s' hq=>?_)
 cases r with
 |error e=>exact hx pins Y H s e s' I hq
 |ok fl=>
  cases fl with
  |ret u=>exact I.after hq
  |next=>exact False.elim hq
  |brk=>exact False.elim hq
  |cont=>exact False.elim hq
def QhK(F:FnOk X.prog X.w X.K X.mg X.base CX k f fd ps sp)(hr:Room k X.A)(hg:Gl X x)(hm:X.mg x=some (.ref f))(hk:W.keepIn X.K (.ref f)=true)(hb:Binds X.K fd ps ds)(hd:Vals dvs ds)(hx:Jb CX X E)
  (ha:PA X (e::es) t) (hdb:(x==("__debug__":Str))=false:=by decide) (he:starEach (e::es) X.env=(false,eval e X.env)::starEach es X.env:=by rfl) (hpl:(backTo pos (starEach es X.env)).any (·.1)=false:=by rfl):
  PE X (.Call (.Name x p) (e::es) [] pos) (QgT sp dvs E t):=by
 intro pins s Y H Q I h;refine Wy (Z6 I hg hm ?_ hdb);refine W.callWith_K (h₀:=X.base) I.ok.mod.kin hk (thn (ha pos pins s Y H _ I h) λus s1 ⟨vs,H1,I1,r,q⟩=>⟨I1.kIn,?_⟩) he hpl;exact Qdi F hr hb hd hx I1 r q
def Qfc(F:FnOk X.prog X.w X.K X.mg X.base CX k f fd ps sp)(hr:Room k X.A)(hg:Gl X x)(hm:X.mg x=some (.ref f))(hk:W.keepIn X.K (.ref f)=true)(hb:Binds X.K fd ps ds)(hd:Vals dvs ds)(hx:Jb CX X E)
  (hdb:(x==("__debug__":Str))=false:=by decide):PE X (.Call (.Name x p) [] [] pos) (QgT sp dvs E Qmm):=by
 intro pins s Y H Q I h;refine Wy (Z6 I hg hm ?_ hdb);exact W.callWith_K0 I.kIn hk (Qdi (us:=[]) F hr hb hd hx I .nil h)
structure Mk(K:W.Frag)(C f:Addr):Prop where
 makes:W.makesIn K C=true
 init:W.findIn K (.ref C) "__init__"=some (some (.ref f))
 fn:W.isFn K (.ref f)=true
 kp:W.keepIn K (.ref C)=true
def QbJ(M:Mk X.K C f)(F:FnOk X.prog X.w X.K X.mg X.base CX k f fd ps sp)(hr:Room (k+1) X.A)(hb:Binds X.K fd ps ds)(hd:Vals dvs ds)
  (hx:Jb CX X E) (I:Inv X pins Y H s) (r:Vals vs us)
  (h:∀x dx,H x=none->H dx=none->dx≠x->sp (.ref x::(vs++dvs)) (upd (upd H dx (.own x)) x (.ins C dx [])) (λv H2=>v=.non/\Q (.ref x) H2) E):
  wpAny (model X.prog X.w) X.A (call (.ref C) us) (EP X pins Y Q) X.xe s:=by
 have hq:=h (s.heap.objs.size+1) s.heap.objs.size (I.hok.fresh (V8 _)) (I.hok.fresh (Xh _)) (X0 (Vn _));have I2:=Inv.made (C:=C) I;have r2:Vals (V.ref (s.heap.objs.size+1)::(vs++dvs)) (Value.ref (s.heap.objs.size+1)::(us++ds)):=.cons rfl (r.append hd)
 have hl:(Value.ref (s.heap.objs.size+1)::us++ds).length=ps.length:=by
  have e:=r2.length;rw[F.len _ _ _ _ hq]at e;exact e.symm
 refine wpAny_call (Qfl (f:=f) I.kIn M.makes M.init (Ww.mp M.fn) (Tx (F.run _ X.stack _ _ ⟨Value.ref (s.heap.objs.size+1)::us,[]⟩ (Value.ref (s.heap.objs.size+1)::(us++ds)) _ _ E (hr.make C us [])
  (I2.env0.make C us []) (hb _ (Value.ref (s.heap.objs.size+1)::us) I2.kIn hl) r2 hq) λr s' hq'=>?_))
 cases r with
 |error e=>exact hx pins Y _ _ e s' I2 hq'
 |ok fl=>
  cases fl with
  |ret u=>
   obtain⟨v,H',I3,rv,ev,q3⟩:=I2.after hq';subst ev;exact⟨rv,⟨V.ref (s.heap.objs.size+1),H',I3,rfl,q3⟩⟩
  |next=>exact False.elim hq'
  |brk=>exact False.elim hq'
  |cont=>exact False.elim hq'
def QhH(M:Mk X.K C f)(F:FnOk X.prog X.w X.K X.mg X.base CX k f fd ps sp)(hr:Room (k+1) X.A)(hg:Gl X x)(hm:X.mg x=some (.ref C))(hb:Binds X.K fd ps ds)(hd:Vals dvs ds)(hx:Jb CX X E)
  (ha:PA X (e::es) t) (hdb:(x==("__debug__":Str))=false:=by decide) (he:starEach (e::es) X.env=(false,eval e X.env)::starEach es X.env:=by rfl) (hpl:(backTo pos (starEach es X.env)).any (·.1)=false:=by rfl):
  PE X (.Call (.Name x p) (e::es) [] pos) (QjE C sp dvs E t):=by
 intro pins s Y H Q I h;refine Wy (Z6 I hg hm ?_ hdb);refine W.callWith_K (h₀:=X.base) I.ok.mod.kin M.kp (thn (ha pos pins s Y H _ I h) λus s1 ⟨vs,H1,I1,r,q⟩=>⟨I1.kIn,?_⟩) he hpl;exact QbJ M F hr hb hd hx I1 r q
def Qe9(M:Mk X.K C f)(F:FnOk X.prog X.w X.K X.mg X.base CX k f fd ps sp)(hr:Room (k+1) X.A)(hg:Gl X x)(hm:X.mg x=some (.ref C))(hb:Binds X.K fd ps ds)(hd:Vals dvs ds)(hx:Jb CX X E)
  (hdb:(x==("__debug__":Str))=false:=by decide):PE X (.Call (.Name x p) [] [] pos) (QjE C sp dvs E Qmm):=by
 intro pins s Y H Q I h;refine Wy (Z6 I hg hm ?_ hdb);exact W.callWith_K0 I.kIn M.kp (QbJ (us:=[]) M F hr hb hd hx I .nil h)
end
structure FnScope(N P:List Str)(sc:Scope):Prop where
 kind:sc.kind=.function
 co:sc.isCoroutine=false
 gen:sc.isGenerator=false
 nd:N.Nodup
 pre:N.take P.length=P
 par:∀x∈P,sc.names.lookup x=some .local\/sc.names.lookup x=some .cell
 nofree:∀y∈sc.names,y.2≠.free
theorem QaS{kindOf:Str->Option NameKind}{x:Str}:∀{binds:List (Str×Value)} {m:Str->Option Value},(∀v,(x,v)∉binds)->bindL kindOf binds m x=m x
 |[],_,_=>rfl
 | (n,v)::r,m,h=>by
  unfold bindL;rw[QaS λw hw=>h w (Xi _ hw)];split
  ·have:x≠n:=by rintro rfl;exact h v Xm
   simp[this]
  ·rfl
theorem QaU{kindOf:Str->Option NameKind}{x:Str}:∀{binds:List (Str×Value)} {m:Str->Option Value},(∀v,(x,v)∉binds)->bindC kindOf binds m x=m x
 |[],_,_=>rfl
 | (n,v)::r,m,h=>by
  unfold bindC;rw[QaU λw hw=>h w (Xi _ hw)];split
  ·rfl
  ·have:x≠n:=by rintro rfl;exact h v Xm
   simp[this]
theorem QaT{kindOf:Str->Option NameKind}{x:Str}{v:Value}:∀{P:List Str} {vs:List Value} {i:Nat} {m:Str->Option Value},P.Nodup->P[i]?=some x->vs[i]?=some v->kindOf x=some .local ->
  bindL kindOf (P.zip vs) m x=some v
 |[],_,_,_,_,h,_,_=>by simp at h
 |_::_,[],_,_,_,_,h,_=>by simp at h
 |p::P,w::vs,0,m,nd,h1,h2,hk=>by
  simp at h1 h2;subst h1;subst h2;show bindL kindOf ((p,w)::P.zip vs) m p=_;unfold bindL;rw[QaS λv hv=>(Tz.mp nd).1 (List.of_mem_zip hv).1,if_pos hk];simp
 |p::P,w::vs,i+1,m,nd,h1,h2,hk=>by
  show bindL kindOf ((p,w)::P.zip vs) m x=_;unfold bindL
  exact QaT (i:=i) (Tz.mp nd).2 (by simpa using h1) (by simpa using h2) hk
theorem QaV{kindOf:Str->Option NameKind}{x:Str}{v:Value}:∀{P:List Str} {vs:List Value} {i:Nat} {m:Str->Option Value},P.Nodup->P[i]?=some x->vs[i]?=some v->kindOf x≠some .local ->
  bindC kindOf (P.zip vs) m x=some v
 |[],_,_,_,_,h,_,_=>by simp at h
 |_::_,[],_,_,_,_,h,_=>by simp at h
 |p::P,w::vs,0,m,nd,h1,h2,hk=>by
  simp at h1 h2;subst h1;subst h2;show bindC kindOf ((p,w)::P.zip vs) m p=_;unfold bindC;rw[QaU λv hv=>(Tz.mp nd).1 (List.of_mem_zip hv).1,if_neg hk];simp
 |p::P,w::vs,i+1,m,nd,h1,h2,hk=>by
  show bindC kindOf ((p,w)::P.zip vs) m x=_;unfold bindC
  exact QaV (i:=i) (Tz.mp nd).2 (by simpa using h1) (by simpa using h2) hk
noncomputable def start(N:List Str)(vs:List V):St:=vs.map some++List.replicate (N.length-vs.length) none
noncomputable def Qgq(CX:CXT)(P:Program)(w:World)(K:W.Frag)(mg:Str->Option Value)(base:Heap)(N:List Str)(qual:Str)(scope:Scope)(f:Addr)(cd:Value)(A:Around)(outer:List Env)(s:Shared)(H:Hp)(E:XK):Cx where
 prog:=P
 w:=w
 K:=K
 mg:=mg
 base:=base
 A:=A.deeper (envOfC qual scope s.heap.objs.size f cd)
 N:=N
 s₀:=s
 H₀:=H
 env:=envOfC qual scope s.heap.objs.size f cd
 outer:=outer
 stack:=envOfC qual scope s.heap.objs.size f cd::outer
 ex:=[]
 calm:=true
 fn:=λz=>true
 pn:=[]
 xe:=λe s'=>wpAny (model P w) (A.deeper (envOfC qual scope s.heap.objs.size f cd)) (leaving (envOfC qual scope s.heap.objs.size f cd) e) (λz s''=>CX outer H s E e s'') (λe' s''=>CX outer H s E e' s'') s'
def Qb9{sc:Scope}{n:Nat}(h:sc.names.lookup x=some .cell):∃c,(cellsFrom n sc.names []).lookup x=some c:=by
 have q:=W.cellsFrom_some sc.names n [] (.inl h);exact Tb.mp q
def QdV{CX:CXT}{K:W.Frag}{base:Heap}{N:List Str}{qual:Str}{scope:Scope}{cd:Value}{outer:List Env}{s1:Shared}{E:XK}
  (S:FnScope N ps scope) (hd:A.handled=none) (e0:Env0 P w K mg base A outer s H) (hl:vs.length=ps.length) (r:Vals vs us)
  (x:InCallC s s.heap.objs.size (bindL (envOfC qual scope s.heap.objs.size f cd).kindOf (ps.zip us) λt=>none) (cellsFrom (s.heap.objs.size+1) scope.names []) (bindC (envOfC qual scope s.heap.objs.size f cd).kindOf (ps.zip us) λt=>none) s1):
  Inv (Qgq CX P w K mg base N qual scope f cd A outer s H E) [] (start N vs) H s1:=by
 have hpl:ps.length<=N.length:=by have:=congrArg List.length S.pre;rw[X7]at this;omega
 obtain⟨h1,tk,rfl,hk⟩:=x.done
 have noA:∀b:Addr,b∉(Qgq CX P w K mg base N qual scope f cd A outer s H E).ex:=λb z=>absurd (show b∈([]:List Addr)from z) (by simp)
 refine⟨⟨e0.mod,S.kind,rfl,rfl,Xh _,λy z c h1 h2=>?_,λy hy=>?_,λy c t h=>?_,λt=>hd,Around.frames_deeper e0.frames,.inr ⟨rfl,rfl⟩,λb z=>absurd z (noA b),e0.bs,e0.bsz,λb t t=>noA b,λb z=>absurd z (noA b),e0.funs,e0.frf⟩,
  rfl,e0.bare,Un.kept hk,⟨_,x.toInCall.ns,λi y v h1 h2 h3=>?_⟩,λy c h=>⟨_,x.cell y c h⟩,e0.hok.fresh (Xh _),λy c h=>?_,λp hp=>absurd (show p∈([]:List (Addr×Obj))from hp) (by simp),e0.hok.kept hk,?_⟩
 ·exact name_of_addr x.apart (Uj h1) (Uj h2)
 ·have hy:scope.names.lookup y=some .cell\/scope.names.lookup y=some .free:=hy
  rcases hy with hy|hy
  ·exact Qb9 hy
  ·exact absurd rfl (S.nofree _ (Uj hy))
 ·exact Nat.le_of_lt (x.above y c (Uj h))
 ·have hi:i<vs.length:=by
   unfold start at h2;by_cases hi:i<vs.length
   ·exact hi
   ·rw[X5 (by simpa using hi)]at h2
    rw[Tj]at h2;split at h2<;>cases h2
  have ha:vs[i]?=some v:=by
   unfold start at h2
   rw[Wi (by simpa using hi),W6]at h2
   cases e:vs[i]? with
   |none=>rw[e]at h2;cases h2
   |some a=>rw[e]at h2;cases h2;rfl
  obtain⟨u,hu,rv⟩:=r.get ha
  have hp:ps[i]?=some y:=by
   rw[<-S.pre,List.getElem?_take_of_lt (by omega)];exact h1
  have ndP:ps.Nodup:=by rw[<-S.pre];exact S.nd.sublist (List.take_sublist _ _)
  refine⟨u,rv,?_⟩
  rcases S.par y (Xp hp)with k|k
  ·exact .inl ⟨k,QaT ndP hp hu k⟩
  ·obtain⟨c,e⟩:=Qb9 (n:=s.heap.objs.size+1) k;refine .inr ⟨.inl k,c,e,?_⟩;have q:=x.cell y c e
   rw[QaV ndP hp hu (by show scope.names.lookup y≠_;rw[k];decide)]at q
   exact q
 ·exact e0.hok.fresh (Nat.le_of_lt (x.above y c (Uj h)))
 ·unfold start;show _=N.length;rw[Xn,Xz,Vm];omega
def Qob{CX:CXT}{K:W.Frag}{base:Heap}{k:Nat}{name qual:Str}{params:Arguments}{body:List Stmt}{scope:Scope}{dV kV doc pm cdv ct oc:Value}{an od:Option Addr}
  {osl:Array (Option Value)} {N:List Str} {sp:Sp} (lk:K.lookup f=some ⟨oc,od,.func (W.fnOf name qual params body scope dV kV doc pm an cdv ct),osl⟩) (hcd:W.codeIn K cdv qual=true) (S:FnScope N ps scope)
  (len:∀vs H Q E,sp vs H Q E->vs.length=ps.length)
  (hbody:∀(A:Around) (outer:List Env) (s:Shared) (H:Hp) (vs:List V) (Q:VK) (E:XK),Room k (A.deeper (envOfC qual scope s.heap.objs.size f cdv))->sp vs H Q E ->
   ∃t,PSs (Qgq CX P w K mg base N qual scope f cdv A outer s H E) body t/\t {nx:=λz H'=>Q .non H',rt:=Q} (start N vs) H):
  FnOk P w K mg base CX (k+1) f (W.fnOf name qual params body scope dV kV doc pm an cdv ct) ps sp:=by
 refine⟨len,λA outer s H args us vs Q E hr e0 hb r hsp=>?_⟩;have hl:=len _ _ _ _ hsp;have KX:K.In s.heap:=e0.mod.kin.keeps λb o e=>(e0.bs b o e).1;have lim:s.heap.NoLimit:=e0.mod.nolimit.keeps λb o e=>(e0.bs b o e).1
 have hkind:∀y∈ps.zip us,scope.names.lookup y.1=some .local\/(scope.names.lookup y.1=some .cell/\((cellsFrom (s.heap.objs.size+1) scope.names []).lookup y.1).isSome=true):=λp hy=>by
  obtain⟨n,v⟩:=p
  rcases S.par n (List.of_mem_zip hy).1 with q|q
  ·exact .inl q
  ·exact .inr ⟨q,W.cellsFrom_some _ _ _ (.inl q)⟩
 refine codeAny_call_function hr.depth (KX _ _ lk) rfl S.co S.gen rfl (W.codeRec_of KX hcd) (hb _ _ _ _ ?_);refine wpAny_newFunctionEnv_cells S.kind hkind λenv he s1 x=>?_;subst he;refine⟨lim.keeps x.toInCall.keep,codeAny_func ?_⟩;obtain⟨t,ht,hq⟩:=hbody A outer s H vs Q E (hr.deeper _) hsp;have I:Inv (Qgq CX P w K mg base N qual scope f cdv A outer s H E) [] (start N vs) H s1:=QdV S hr.hd e0 hl r x;refine W2 (ht [] s1 (start N vs) H _ I hq) (λfl s' hs=>?_) λe s' hs=>hs
 have fin:∀{Y':St} {H':Hp} {v:V} {u:Value},Inv (Qgq CX P w K mg base N qual scope f cdv A outer s H E) [] Y' H' s'->RelV v u->Q v H'->CE outer P w H s Q u s' :=
  λ{Y' H' v u} J rv q=>⟨v,H',J.os,J.bare,J.base,J.hok,rv,q⟩
 cases fl with
 |ret u=>
  obtain⟨v,Y',H',J,rv,q⟩:=hs;exact fin J rv q
 |next=>
  obtain⟨Y',H',J,q⟩:=hs;exact fin (v:=V.non) (u:=Value.none) J rfl q
 |brk=>
  obtain⟨_,_,_,q⟩:=hs;exact False.elim q
 |cont=>
  obtain⟨_,_,_,q⟩:=hs;exact False.elim q
end
section
section
variable {X:Cx}{x:Str}{p pos:Pos}{e:Expr}{es:List Expr}{t:TA}{id T:String}{r:List V->Hp->VK->Prop}
def tCB(r:List V->Hp->VK->Prop)(t:TA):TE:=λY H Q=>t Y H λvs H1=>r vs H1 Q
def YJ(hc:CallR X (.builtin id) r)(hg:Gl X x)(hm:X.mg x=none)(hv:bootBuiltins x=some (.builtin id))(ha:PA X (e::es) t)(hn:x≠"__name__":=by decide)(hdb:(x==("__debug__":Str))=false:=by decide)
  (he:starEach (e::es) X.env=(false,eval e X.env)::starEach es X.env:=by rfl) (hpl:(backTo pos (starEach es X.env)).any (·.1)=false:=by rfl):PE X (.Call (.Name x p) (e::es) [] pos) (tCB r t):=by
 intro pins s Y H Q I h;refine Wy (ZF I hg hm hv ?_ hn hdb);exact PyProof.Rows.callWith_builtin1 (thn (ha pos pins s Y H _ I h) λus s1 z=>by obtain⟨vs,H1,I1,r1,q1⟩:=z;exact hc pins s1 Y H1 vs us Q I1 r1 q1) he hpl
def ZL(hc:CallR X (.type T) r)(hg:Gl X x)(hm:X.mg x=none)(hv:bootBuiltins x=some (.type T))(ha:PA X (e::es) t)(hn:x≠"__name__":=by decide)(hdb:(x==("__debug__":Str))=false:=by decide)
  (he:starEach (e::es) X.env=(false,eval e X.env)::starEach es X.env:=by rfl) (hpl:(backTo pos (starEach es X.env)).any (·.1)=false:=by rfl):PE X (.Call (.Name x p) (e::es) [] pos) (tCB r t):=by
 intro pins s Y H Q I h;refine Wy (ZF I hg hm hv ?_ hn hdb);exact Wm (thn (ha pos pins s Y H _ I h) λus s1 z=>by obtain⟨vs,H1,I1,r1,q1⟩:=z;exact hc pins s1 Y H1 vs us Q I1 r1 q1) he hpl
end
end
end L2
namespace HT
open PySem PyProof.Rows
section
open PySem.SeqAt
open PySem.AutoSeq1 (wpAny_loadPart')
open PySem.MeetsSeq PySem.MeetsSeq2 PySem.MeetsSeq3
end
section
variable {prog:Program}{w:World}{A:Around}{E:Value->Shared->Prop}{s:Shared}
noncomputable def sIx(n d:Nat):Option Int->Nat
 |none=>d
 |some v=>if v<0 then(v+(n:Int)).toNat else min v.toNat n
def Qj3(n d:Nat)(hd:d<=n)(o:Option Int):sIx n d o<=n:=by
 cases o with
 |none=>exact hd
 |some v=>
  show(if v<0 then(v+(n:Int)).toNat else min v.toNat n)<=n;by_cases hv:v<0
  ·rw[if_pos hv];omega
  ·rw[if_neg hv];exact Nat.min_le_right _ _
def Qec(v:Int)(n d:Nat):(if v<0 then max (v+(n:Int)) 0 else min v (n:Int))=((sIx n d (some v):Nat):Int):=by
 show(if v<0 then max (v+(n:Int)) 0 else min v (n:Int))=(((if v<0 then(v+(n:Int)).toNat else min v.toNat n):Nat):Int);by_cases hv:v<0
 ·simp only[if_pos hv];omega
 ·simp only[if_neg hv];omega
def QcP(lo hi:Option Int)(n:Nat):Builtin.Slice.sliceAdjust lo hi 1 (n:Int)=(((sIx n 0 lo:Nat):Int),((sIx n n hi:Nat):Int)):=by
 have h1:¬((1:Int) < 0):=by omega
 unfold Builtin.Slice.sliceAdjust;simp only[h1,V7];refine Prod.ext ?_ ?_
 ·cases lo with
  |none=>rfl
  |some v=>exact Qec v n 0
 ·cases hi with
  |none=>rfl
  |some v=>exact Qec v n n
def Qco(i j:Nat):Builtin.Slice.slicePlaces (i:Int) (j:Int) 1=j-i:=by
 unfold Builtin.Slice.slicePlaces
 have h1:(1:Int) > 0:=by omega
 simp only[h1,Wo,Int.ediv_one];split<;>omega
def Jn{v:Value}{o:Option Int}{Q:Option Int->Shared->Prop}(p:IsPart v o)(h:Q o s):wpAny (model prog w) A (Builtin.Slice.slicePartIndex v) Q E s:=by
 cases p with
 |none=>exact slicePart_none h
 |int i t=>exact slicePart_int h
def YF{sl:Addr}{vl vu:Value}{lo hi:Option Int}{n:Nat}{Q:Int×Int×Nat->Shared->Prop}(hs:s.heap.IsSliceOf sl vl vu .none)(pl:IsPart vl lo)(pu:IsPart vu hi)
  (h:Q (((sIx n 0 lo:Nat):Int),1,sIx n n hi-sIx n 0 lo) s):wpAny (model prog w) A (Builtin.Slice.sliceApplied (.ref sl) (pure (n:Int))) Q E s:=by
 obtain⟨os,hos,hcs,hds⟩:=id hs;unfold Builtin.Slice.sliceApplied Builtin.Slice.sliceFields;refine Xg (Xg (wpAny_field hos hds (x:=vl) rfl (Xg (wpAny_field hos hds (x:=vu) rfl (Xg (wpAny_field hos hds (x:=.none) rfl (Xu ?_)))))));refine Xg (slicePart_none ?_);show wpAny _ _ (if((1:Int)==0)=true then _ else _) _ _ s
 rw[if_neg (by decide)]
 refine Xg (Jn pl (Xg (Jn pu (Xg (Xu ?_)))))
 show wpAny _ _ (match Builtin.Slice.sliceAdjust lo hi 1 (n:Int)with|(lo,hi)=>pure (lo,(1:Int),Builtin.Slice.slicePlaces lo hi 1)) _ _ s
 rw[QcP lo hi n];show wpAny _ _ (pure (((sIx n 0 lo:Nat):Int),(1:Int),Builtin.Slice.slicePlaces ((sIx n 0 lo:Nat):Int) ((sIx n n hi:Nat):Int) 1)) _ _ s;rw[Qco];exact Xu h
def Qe7(xs:Array Value)(i k:Nat):((List.range k).filterMap λ(m:Nat)=>xs[((i:Int)+(m:Int)*1).toNat]?).toArray=((xs.toList.drop i).take k).toArray:=by
 have e:(λ(m:Nat)=>xs[((i:Int)+(m:Int)*1).toNat]?)=λm=>xs[i+m]?:=by
  funext m
  have:((i:Int)+(m:Int)*1).toNat=i+m:=by omega
  rw[this]
 rw[e];have:=pick_run xs i k;rw[List.filterMap_map]at this;have e2:((λx=>xs[x]?)∘λx=>i+x)=λm=>xs[i+m]?:=rfl;rw[e2]at this;rw[this]
def getItem_tuple_cut{t sl:Addr}{items:Array Value}{vl vu:Value}{lo hi:Option Int}{Q:Value->Shared->Prop}(ht:IsTup s.heap t items)(hs:s.heap.IsSliceOf sl vl vu .none)(pl:IsPart vl lo)(pu:IsPart vu hi)
  (hw:¬(sIx items.size 0 lo=0/\sIx items.size items.size hi=items.size))
  (h:Q (.ref s.heap.objs.size) {s with heap:=s.heap.push {cls:=.type "tuple",data:=.seq ((items.toList.drop (sIx items.size 0 lo)).take (sIx items.size items.size hi-sIx items.size 0 lo)).toArray} })
  (hsz:items.size<=sizeLine):wpAny (model prog w) A (getItem (.ref t) (.ref sl)) Q E s:=by
 have htake:sizeOk (.seq ((items.toList.drop (sIx items.size 0 lo)).take (sIx items.size items.size hi-sIx items.size 0 lo)).toArray):=by
  show((items.toList.drop (sIx items.size 0 lo)).take (sIx items.size items.size hi-sIx items.size 0 lo)).toArray.size<=sizeLine;rw[Xq,X7,List.length_drop,T4];omega
 have hj:sIx items.size items.size hi<=items.size:=Qj3 _ _ (Xh _) hi;obtain⟨os,hos,hcs,hds⟩:=id hs;have hTs:s.TypeIs (.ref sl) "slice":=⟨os,hos,hcs⟩;unfold getItem
 try with_reducible refine Um ?_
 first|refine Xg (Xu ?_)|skip
 refine Xg (wpAny_sequenceKey ht.typeIs (by decide) ?_)
 refine Xg (wpAny_callSpecial?_slot (name:=Str.ofString "__getitem__") ht.typeIs Uk
  (wpAny_call_entry Uk ht.typeIs entry_tuple_getitem ?_ (args_tuple_getitem _ _)))
 show wpAny _ _ (Builtin.Tuple.tupleItemsOf (.ref t) >>= _) _ _ s;refine Xg (tupleItemsOf_ ht ?_);refine Xg (wpAny_typeOf hTs ?_)
 rw[if_pos (by decide)]
 refine Xg (YF hs pl pu ?_)
 have hno:¬((((sIx items.size 0 lo:Nat):Int)==0&&(1:Int)==1&&(sIx items.size items.size hi-sIx items.size 0 lo)==items.size)=true):=by
  intro q;rw[Xl,Xl]at q;have q1:((sIx items.size 0 lo:Nat):Int)=0:=eq_of_beq q.1.1;have q2:sIx items.size items.size hi-sIx items.size 0 lo=items.size:=eq_of_beq q.2
  exact hw ⟨by omega,by omega⟩
 show wpAny _ _ (if(((sIx items.size 0 lo:Nat):Int)==0&&(1:Int)==1&&(sIx items.size items.size hi-sIx items.size 0 lo)==items.size)=true then _ else _) _ _ s;rw[if_neg hno,Qe7]
 first
  |exact Xg (m:=Builtin.Tuple.tupleExact _) (V3 (Xu ⟨_,rfl,Xu h⟩) htake)
  |exact Xg (m:=Builtin.Tuple.tupleExact _) (V3 (Xg (Xu (Xu ⟨_,rfl,Xu h⟩))) htake)
  |exact Xg (Xg (m:=Builtin.Tuple.tupleExact _) (V3 (Xu (Xu ⟨_,rfl,Xu h⟩)) htake))
  |exact Xg (Xg (m:=Builtin.Tuple.tupleExact _) (V3 (Xu ⟨_,rfl,Xu h⟩) htake))
end
end HT
namespace L2
open PySem PySem.Spec PyProof.Rows
section
abbrev TO:=St->Hp->(Option Int->Hp->Prop)->Prop
noncomputable def PO(X:Cx)(e:Option Expr)(t:TO):Prop :=
 ∀(pins:List (Addr×Obj)) (s:Shared) (Y:St) (H:Hp) (Q:Option Int->Hp->Prop),Inv X pins Y H s->t Y H Q ->
  wpAny (model X.prog X.w) X.A (evalPart e X.env) (λu s'=>∃o H',Inv X pins Y H' s'/\IsPart u o/\Q o H') X.xe s
def QgP:TO:=λz H Q=>Q none H
def QmY(t:TE):TO:=λY H Q=>t Y H λx H1=>∃i,x=.int i/\Q (some i) H1
section
variable {X:Cx}{e:Expr}{te:TE}{lo hi:Option Expr}{tl th:TO}{pos p2:Pos}
def Qhy:PO X none QgP:=by
 intro pins s Y H Q I h;rw[evalPart_none];exact Xu ⟨none,H,I,.none,h⟩
def Qhx(h:PE X e te):PO X (some e) (QmY te):=by
 intro pins s Y H Q I hw;rw[evalPart_some];refine thn (h pins s Y H _ I hw) λu s1 z=>?_;obtain⟨x,H1,I1,r1,q1⟩:=z;obtain⟨i,rfl,q⟩:=q1;obtain⟨t,rfl⟩:=r1;exact⟨some i,H1,I1,.int i t,q⟩
noncomputable def SlR(X:Cx)(r:V->Option Int->Option Int->Hp->VK->Prop):Prop :=
 ∀(pins:List (Addr×Obj)) (s:Shared) (Y:St) (H:Hp) (x:V) (v vl vu:Value) (lo hi:Option Int) (sl:Addr) (Q:VK),Inv X pins Y H s->RelV x v->s.heap.IsSliceOf sl vl vu .none->IsPart vl lo->IsPart vu hi->r x lo hi H Q ->
  ∃T id,typeLookup (.type T) "__getitem__"=pure (some (.builtin id))/\s.TypeIs v T/\wpAny (model X.prog X.w) X.A (getItem v (.ref sl)) (EP X pins Y Q) X.xe s
def SlR.or{r r':V->Option Int->Option Int->Hp->VK->Prop}(h:SlR X r)(h':SlR X r'):SlR X (λx lo hi H Q=>r x lo hi H Q\/r' x lo hi H Q):=by
 intro pins s Y H x v vl vu lo hi sl Q I rx hs pl pu q
 rcases q with q|q
 ·exact h pins s Y H x v vl vu lo hi sl Q I rx hs pl pu q
 ·exact h' pins s Y H x v vl vu lo hi sl Q I rx hs pl pu q
def tSl(r:V->Option Int->Option Int->Hp->VK->Prop)(te:TE)(tl th:TO):TE:=λY H Q=>te Y H λx H1=>tl Y H1 λl H2=>th Y H2 λu H3=>r x l u H3 Q
def Qe8{r:V->Option Int->Option Int->Hp->VK->Prop}(hr:SlR X r)(he:PE X e te)(hl:PO X lo tl)(hu:PO X hi th):PE X (.Subscript e (.Slice lo hi none p2) pos) (tSl r te tl th):=by
 intro pins s Y H Q I h;refine Subscript_ (thn (he pins s Y H _ I h) λv s1 z=>?_);obtain⟨x,H1,I1,r1,q1⟩:=z;refine wpAny_Slice (thn (hl pins s1 Y H1 _ I1 q1) λvl s2 ⟨l,H2,I2,pl,q2⟩=>thn (hu pins s2 Y H2 _ I2 q2) λvu s3 y=>?_);obtain⟨u,H3,I3,pu,q3⟩:=y;rw[evalPart_none];refine Xu ?_;have I4:Inv X pins Y H3 {s3 with heap:=s3.heap.push {cls:=.type "slice",data:=.fields #[vl,vu,.none]} }:=I3.kept (t':=s3.toks) λb ob q=>Xj _ q;obtain⟨T,id,hT,ht,hg⟩:=hr pins {s3 with heap:=s3.heap.push {cls:=.type "slice",data:=.fields #[vl,vu,.none]} } Y H3 x v vl vu l u s3.heap.objs.size Q I4 r1 (Heap.IsSliceOf.new ..) pl pu q3;show wpAny (model X.prog X.w) X.A (subscriptTail e (.Slice lo hi none p2) v (.ref s3.heap.objs.size)) (EP X pins Y Q) X.xe {s3 with heap:=s3.heap.push {cls:=.type "slice",data:=.fields #[vl,vu,.none]} }
 exact tail_any (ops:=[.ref s3.heap.objs.size,v]) ht hT hg (by with_unfolding_all rfl)
noncomputable def Qgr(xs:List V)(lo hi:Option Int):List V:=(xs.drop (HT.sIx xs.length 0 lo)).take (HT.sIx xs.length xs.length hi-HT.sIx xs.length 0 lo)
def Y6(xs:List V)(lo hi:Option Int):(Qgr xs lo hi).length<=xs.length:=by
 unfold Qgr;rw[X7,List.length_drop];omega
def Qo0(K:W.Frag):V->Option Int->Option Int->Hp->VK->Prop:=λx lo hi H Q=>∃a xs,x=.ref a/\SqT K H a xs /\
 ¬(HT.sIx xs.length 0 lo=0/\HT.sIx xs.length xs.length hi=xs.length)/\∀p,H p=none->Q (.ref p) (upd H p (.tup (Qgr xs lo hi)))
def QjL:SlR X (Qo0 X.K):=by
 intro pins s Y H x v vl vu lo hi sl Q I rx hs pl pu h;obtain⟨a,xs,rfl,hx,hw,q⟩:=h;cases rx;obtain⟨its,r,ht,hz⟩:=I.tuple hx
 have hlen:its.toArray.size=xs.length:=by rw[Xq];exact r.length.symm
 refine⟨"tuple",_,Uk.lookup,ht.typeIs,?_⟩
 refine HT.getItem_tuple_cut ht hs pl pu (by rw[hlen];exact hw) ?_ (by rw[hlen];exact hz)
 rw[hlen];refine⟨.ref s.heap.objs.size,_,I.laid (t':=s.toks) (o:=.tup (Qgr xs lo hi)) (λb ob q=>Xj _ q) (Xh _) ?_,rfl,q _ (I.hok.fresh (Xh _))⟩;exact⟨X3 (Y6 xs lo hi) hz,_,(r.drop (HT.sIx xs.length 0 lo)).take (HT.sIx xs.length xs.length hi-HT.sIx xs.length 0 lo),IsTup.new _ _⟩
end
end
section
variable {x:V}
noncomputable def ixN(n:Nat)(i:Int):Option Nat:=if 0<=i then(if i<n then some i.toNat else none)else if -(n:Int)<=i then some (i+n).toNat else none
noncomputable def atI{α:Type}(xs:List α)(i:Int):Option α:=(ixN xs.length i).bind λj=>xs[j]?
def Qib{n:Nat}{i:Int}{j:Nat}(h:ixN n i=some j):seqIndex? i n=some j/\j<n/\-(n:Int)<=i/\i<n:=by
 unfold ixN at h;by_cases h0:0<=i
 ·rw[if_pos h0]at h;by_cases h1:i<n
  ·rw[if_pos h1]at h;have e:i.toNat=j:=X4 h
   exact⟨by rw[seqIndex_of h0 h1,e],by omega,by omega,h1⟩
  ·rw[if_neg h1]at h;cases h
 ·rw[if_neg h0]at h;by_cases h1:-(n:Int)<=i
  ·rw[if_pos h1]at h;have e:(i+n).toNat=j:=X4 h
   exact⟨by rw[seqIndex_neg (by omega) h1,e],by omega,h1,by omega⟩
  ·rw[if_neg h1]at h;cases h
def Qbv{α:Type}{xs:List α}{i:Int}{v:α}(h:atI xs i=some v):∃j,seqIndex? i xs.length=some j/\xs[j]?=some v/\j<xs.length/\-(xs.length:Int)<=i/\i<xs.length:=by
 unfold atI at h
 cases e:ixN xs.length i with
 |none=>rw[e]at h;cases h
 |some j=>
  rw[e]at h;obtain⟨h1,h2,h3,h4⟩:=Qib e;exact⟨j,h1,h,h2,h3,h4⟩
def Qep(b:Expr):Prop:=∀o i,subscripted b false o i=operate [o,i] (getItem o i)
noncomputable def IxR(X:Cx)(r:R2):Prop :=
 ∀(value slice:Expr) (pins:List (Addr×Obj)) (s:Shared) (Y:St) (H:Hp) (x y:V) (v u:Value) (Q:VK),Inv X pins Y H s->RelV x v->RelV y u->r x y H Q ->
  subscripted slice false v u=operate [v,u] (getItem v u)->wpAny (model X.prog X.w) X.A (subscriptTail value slice v u) (EP X pins Y Q) X.xe s
noncomputable def MtR(X:Cx)(id:String)(r:V->List V->Hp->VK->Prop):Prop :=
 ∀(pins:List (Addr×Obj)) (s:Shared) (Y:St) (H:Hp) (x:V) (xs:List V) (v:Value) (us:List Value) (Q:VK),Inv X pins Y H s->RelV x v->Vals xs us->r x xs H Q ->
  wpAny (model X.prog X.w) X.A (call (.builtin id) (v::us)) (EP X pins Y Q) X.xe s
section
variable {X:Cx}{a b:Expr}{ta tb:TE}{pos:Pos}
def IxR.or{r r':R2}(h:IxR X r)(h':IxR X r'):IxR X (λx y H Q=>r x y H Q\/r' x y H Q):=by
 intro value slice pins s Y H x y v u Q I rx ry q hs
 rcases q with q|q
 ·exact h value slice pins s Y H x y v u Q I rx ry q hs
 ·exact h' value slice pins s Y H x y v u Q I rx ry q hs
def Qnx{r:R2}(hr:IxR X r)(ha:PE X a ta)(hb:PE X b tb)(hs:Qep b):PE X (.Subscript a b pos) (tOp r ta tb):=by
 intro pins s Y H Q I h;exact Subscript_ (QoA ha hb I h λv u s2 x y H2 I2 rx ry q=>hr a b pins s2 Y H2 x y v u Q I2 rx ry q (hs _ _))
def Qo5(K:W.Frag):R2:=λx y H Q=>∃p xs i v,x=.ref p/\y=.int i/\SqL K H p xs/\atI xs i=some v/\Q v H
def Qo3(K:W.Frag):R2:=λx y H Q=>∃p xs i v,x=.ref p/\y=.int i/\SqT K H p xs/\atI xs i=some v/\Q v H
def Qo4:R2:=λx y H Q=>∃z i c,x=.str z/\y=.int i/\z.length<=sizeLine/\atI z.cps.toList i=some c/\Q (.str ⟨#[c]⟩) H
def ix_list:IxR X (Qo5 X.K):=by
 intro value slice pins s Y H x y v u Q I rx ry h hs;obtain⟨p,xs,i,z,rfl,rfl,hq,he,q⟩:=h;cases rx;obtain⟨t,rfl⟩:=ry;obtain⟨its,r,pl,hz⟩:=I.list hq;obtain⟨j,h1,h2,h3,h4,h5⟩:=Qbv he;obtain⟨w,ew,rw'⟩:=r.get h2;have hl:=r.length;have hn:=Ju;have fin:EP X pins Y Q w s:=⟨z,H,I,rw',q⟩;by_cases h0:0<=i
 ·have hj:i.toNat=j:=by
   rw[seqIndex_of h0 h5]at h1;exact X4 h1
  exact item_listR pl.isList h0 (by omega) (by rw[hj];simpa using ew) fin hs
 ·have hj:(i+(its.toArray.size:Int)).toNat=j:=by
   rw[seqIndex_neg (by omega) h4]at h1
   rw[Xq,<-hl];exact X4 h1
  exact subscriptTail_builtinR (x:=w) pl.isList.typeIs slot_list_getitem.lookup
   (wpAny_getItem_list_neg (Q:=λr s'=>r=w/\EP X pins Y Q r s') pl.isList (by omega) (by rw[Xq]<;>omega) (by omega) (by rw[hj];simpa using ew) ⟨rfl,fin⟩) hs
def ix_tup:IxR X (Qo3 X.K):=by
 intro value slice pins s Y H x y v u Q I rx ry h hs;obtain⟨p,xs,i,z,rfl,rfl,hq,he,q⟩:=h;cases rx;obtain⟨t,rfl⟩:=ry;obtain⟨its,r,pl,hz⟩:=I.tuple hq;obtain⟨j,h1,h2,h3,h4,h5⟩:=Qbv he;obtain⟨w,ew,rw'⟩:=r.get h2;have hl:=r.length;have hn:=Ju;have fin:EP X pins Y Q w s:=⟨z,H,I,rw',q⟩
 exact subscriptTail_builtinR (x:=w) pl.typeIs slot_tuple_getitem.lookup
  (getItem_tuple (j:=j) (Q:=λr s'=>r=w/\EP X pins Y Q r s') pl (by omega) (by omega) (by rw[Xq,<-hl];exact h1) (by simpa using ew) ⟨rfl,fin⟩) hs
def Qll:IxR X Qo4:=by
 intro value slice pins s Y H x y v u Q I rx ry h hs;obtain⟨z,i,c,rfl,rfl,hz,he,q⟩:=h;obtain⟨t,rfl⟩:=rx;obtain⟨t',rfl⟩:=ry;obtain⟨j,h1,h2,h3,h4,h5⟩:=Qbv he
 have hl:z.cps.toList.length=z.length:=by simp[Str.length]
 rw[hl]at h1 h4 h5;have hn:=Ju
 exact tail_any (typeIs_str s z t) slot_str_getitem.lookup (getItem_str (c:=c) (by
  have e1:decide (i < -(2 ^ 63:Int))=false:=X6 (by omega)
  have e2:decide (i≥2 ^ 63)=false:=X6 (by omega)
  rw[e1,e2,Bool.or_false]) (by rw[h1];simpa using h2) ⟨.str ⟨#[c]⟩,H,I.tok _,⟨_,rfl⟩,q⟩) hs
def rIx(K:W.Frag):R2:=λx y H Q=>Qo5 K x y H Q\/Qo3 K x y H Q\/Qo4 x y H Q
def ix_seq:IxR X (rIx X.K):=ix_list.or (ix_tup.or Qll)
def Qam(lo hi:Option Int)(n:Nat):(sliceBounds lo hi none n).1=((HT.sIx n 0 lo:Nat):Int)/\(sliceBounds lo hi none n).2.1=((HT.sIx n n hi:Nat):Int)/\(sliceBounds lo hi none n).2.2=1:=by
 refine⟨?_,?_,rfl⟩
 ·cases lo with
  |none=>simp[sliceBounds,HT.sIx]
  |some i=>
   simp only[sliceBounds,HT.sIx,Option.getD_none,show(1:Int) > 0 by decide,Wo]
   by_cases h:i<0
   ·simp only[h,Wo]<;>omega
   ·simp only[h,V7]<;>omega
 ·cases hi with
  |none=>simp[sliceBounds,HT.sIx]
  |some i=>
   simp only[sliceBounds,HT.sIx,Option.getD_none,show(1:Int) > 0 by decide,Wo]
   by_cases h:i<0
   ·simp only[h,Wo]<;>omega
   ·simp only[h,V7]<;>omega
def JM(its:List Value)(lo hi:Option Int):slicePick its.toArray lo hi none=((its.drop (HT.sIx its.length 0 lo)).take (HT.sIx its.length its.length hi-HT.sIx its.length 0 lo)).toArray:=by
 obtain⟨h1,h2,h3⟩:=Qam lo hi its.toArray.size;unfold slicePick;rw[h1,h2,h3];simp only[sliceRange_one,pick_run,Xq]<;>rfl
def Qo1(K:W.Frag):V->Option Int->Option Int->Hp->VK->Prop:=λx lo hi H Q=>∃a xs,x=.ref a/\SqL K H a xs/\∀p,H p=none->Q (.ref p) (upd H p (.lst (Qgr xs lo hi)))
def sl_list:SlR X (Qo1 X.K):=by
 intro pins s Y H x v vl vu lo hi sl Q I rx hs pl pu h;obtain⟨a,xs,rfl,hx,q⟩:=h;cases rx;obtain⟨its,r,ht,hz⟩:=I.list hx;have hlen:=r.length;refine⟨"list",_,slot_list_getitem.lookup,ht.isList.typeIs,?_⟩
 refine wpAny_getItem_list_slice ht.isList hs pl pu .none (by simp) ?_ (by rw[Xq]<;>omega)
 rw[JM,<-hlen];refine⟨.ref s.heap.objs.size,_,I.laid (t':=s.toks) (o:=.lst (Qgr xs lo hi)) (λb ob q=>Xj _ q) (Xh _) ?_,rfl,q _ (I.hok.fresh (Xh _))⟩;exact⟨X3 (Y6 xs lo hi) hz,_,0,(r.drop (HT.sIx xs.length 0 lo)).take (HT.sIx xs.length xs.length hi-HT.sIx xs.length 0 lo),X2 _ rfl⟩
noncomputable def Jj:V->Bool
 |.non=>true
 |.bl _=>true
 |.int _=>true
 |.str _=>true
 |_=>false
noncomputable def eqV:V->V->Bool
 |.non,.non=>true
 |.bl a,.bl b=>a==b
 |.bl a,.int b=>(if a then 1 else 0)==b
 |.int a,.bl b=>a==(if b then 1 else 0)
 |.int a,.int b=>a==b
 |.str a,.str b=>a==b
 |_,_=>false
def QlP{A:Around}{s:Shared}{y:V}{u v:Value}(ry:RelV y u)(rx:RelV x v)(fy:Jj y=true)(fx:Jj x=true):SeqAt.EqAt A s u v (eqV y x):=by
 cases y with
 |non=>
  cases ry
  cases x with
  |non=>cases rx;exact SeqAt.EqAt.same _
  |bl b=>cases rx;exact SeqAt.EqAt.none_bool b
  |int b=>obtain⟨t,rfl⟩:=rx;exact SeqAt.EqAt.none_int b t
  |str b=>obtain⟨t,rfl⟩:=rx;exact SeqAt.EqAt.none_str b t
  |_=>exact absurd (show false=true from fx) Xs
 |bl a=>
  cases ry
  cases x with
  |non=>cases rx;exact SeqAt.EqAt.bool_none a
  |bl b=>cases rx;exact SeqAt.EqAt.bool_bool a b
  |int b=>obtain⟨t,rfl⟩:=rx;exact SeqAt.EqAt.bool_int a b t
  |str b=>obtain⟨t,rfl⟩:=rx;exact SeqAt.EqAt.bool_str a b t
  |_=>exact absurd (show false=true from fx) Xs
 |int a=>
  obtain⟨t',rfl⟩:=ry
  cases x with
  |non=>cases rx;exact SeqAt.EqAt.int_none a t'
  |bl b=>cases rx;exact SeqAt.EqAt.int_bool a t' b
  |int b=>obtain⟨t,rfl⟩:=rx;exact SeqAt.EqAt.int_int a t' b t
  |str b=>obtain⟨t,rfl⟩:=rx;exact SeqAt.EqAt.int_str a t' b t
  |_=>exact absurd (show false=true from fx) Xs
 |str a=>
  obtain⟨t',rfl⟩:=ry
  cases x with
  |non=>cases rx;exact SeqAt.EqAt.str_none a t'
  |bl b=>cases rx;exact SeqAt.EqAt.str_bool a t' b
  |int b=>obtain⟨t,rfl⟩:=rx;exact SeqAt.EqAt.str_int a t' b t
  |str b=>obtain⟨t,rfl⟩:=rx;exact SeqAt.EqAt.str_str a t' b t
  |_=>exact absurd (show false=true from fx) Xs
 |_=>exact absurd (show false=true from fy) Xs
noncomputable def eqU(x:V)(u:Value):Bool:=match u with
 |.none=>eqV .non x
 |.bool b=>eqV (.bl b) x
 |.int i _=>eqV (.int i) x
 |.str z _=>eqV (.str z) x
 |_=>false
def Qgm{y:V}{u:Value}(r:RelV y u)(f:Jj y=true):eqU x u=eqV y x:=by
 cases y with
 |non=>cases r;rfl
 |bl b=>cases r;rfl
 |int i=>obtain⟨t,rfl⟩:=r;rfl
 |str z=>obtain⟨t,rfl⟩:=r;rfl
 |_=>exact absurd (show false=true from f) Xs
theorem Y9{x:V}:∀{xs:List V} {us:List Value},Vals xs us->xs.all Jj=true->us.any (eqU x)=xs.any λy=>eqV y x
 |_,_,.nil,_=>rfl
 |y::xs,u::us,.cons r t,f=>by
  rw[Uo,Xl]at f;rw[V5,V5,Qgm r f.1,Y9 t f.2]
theorem Yi{A:Around}{s:Shared}{x:V}{v:Value}(rx:RelV x v)(fx:Jj x=true):∀{xs:List V} {us:List Value},Vals xs us->xs.all Jj=true->∀u∈us,SeqAt.EqAt A s u v (eqU x u)
 |_,_,.nil,_=>λu hu=>by cases hu
 |y::xs,u::us,.cons r t,f=>λu' hu=>by
  rw[Uo,Xl]at f
  rcases Xd.mp hu with rfl|hu
  ·rw[Qgm r f.1];exact QlP r rx f.1 fx
  ·exact Yi rx fx t f.2 u' hu
noncomputable def inV(x:V)(xs:List V):Bool:=xs.any λy=>eqV y x
def rIn(K:W.Frag)(neg:Bool):R2:=λx y H Q=>∃p xs,y=.ref p/\(SqL K H p xs\/SqT K H p xs)/\Jj x=true/\xs.all Jj=true/\Q (.bl (if neg then !inV x xs else inV x xs)) H
def QdE:OpR X (compareOp .In) (rIn X.K false):=by
 intro pins s Y H x y v u Q I rx ry h;obtain⟨p,xs,rfl,hq,fx,fs,q⟩:=h;cases ry
 rcases hq with hq|hq
 ·obtain⟨its,r,pl,hz⟩:=I.list hq
  refine SeqAt.in_listAt (eqU x) pl.isList (λw hw=>Yi rx fx r fs w (by simpa using hw)) ⟨.bl _,H,I,rfl,?_⟩
  rw[show its.toArray.any (eqU x)=its.any (eqU x) by simp,Y9 r fs]
  exact q
 ·obtain⟨its,r,pl,hz⟩:=I.tuple hq
  refine SeqAt.in_tupleAt (eqU x) pl (λw hw=>Yi rx fx r fs w (by simpa using hw)) ⟨.bl _,H,I,rfl,?_⟩
  rw[show its.toArray.any (eqU x)=its.any (eqU x) by simp,Y9 r fs]
  exact q
def Qau:OpR X (compareOp .NotIn) (rIn X.K true):=by
 intro pins s Y H x y v u Q I rx ry h;obtain⟨p,xs,rfl,hq,fx,fs,q⟩:=h;cases ry
 rcases hq with hq|hq
 ·obtain⟨its,r,pl,hz⟩:=I.list hq
  refine SeqAt.notIn_listAt (eqU x) pl.isList (λw hw=>Yi rx fx r fs w (by simpa using hw)) ⟨.bl _,H,I,rfl,?_⟩
  rw[show its.toArray.any (eqU x)=its.any (eqU x) by simp,Y9 r fs]
  exact q
 ·obtain⟨its,r,pl,hz⟩:=I.tuple hq
  refine SeqAt.notIn_tupleAt (eqU x) pl (λw hw=>Yi rx fx r fs w (by simpa using hw)) ⟨.bl _,H,I,rfl,?_⟩
  rw[show its.toArray.any (eqU x)=its.any (eqU x) by simp,Y9 r fs]
  exact q
def QaR:CallR X (.builtin "len") (λxs H Q=>∃p ys,xs=[.ref p]/\(SqL X.K H p ys\/SqT X.K H p ys)/\Q (.int ys.length) H):= by
 intro pins s Y H xs us Q I r h;obtain⟨p,ys,rfl,hq,q⟩:=h;obtain⟨u,rfl,rx⟩:=Je r;cases rx;have hn:=Ju
 rcases hq with hq|hq
 ·obtain⟨its,r',pl,hz⟩:=I.list hq;have hlen:=r'.length
  exact Calls.call_len_list pl.isList (by simp only[Xq]<;>omega) ⟨.int ys.length,H,I.tok _,⟨s.toks+1,by rw[Xq,hlen]⟩,q⟩
 ·obtain⟨its,r',pl,hz⟩:=I.tuple hq;have hlen:=r'.length
  exact len_tuple pl (by simp only[Xq]<;>omega) ⟨.int ys.length,H,I.tok _,⟨s.toks+1,by rw[Xq,hlen]⟩,q⟩
def QaQ:CallR X (.builtin "len") (λxs H Q=>∃z,xs=[.str z]/\z.length<=sizeLine/\Q (.int z.length) H):= by
 intro pins s Y H xs us Q I r h;obtain⟨z,rfl,hz,q⟩:=h;obtain⟨u,rfl,t,rfl⟩:=Je r;have hn:=Ju
 exact len_str (by omega) ⟨.int z.length,H,I.tok _,⟨_,rfl⟩,q⟩
def CallR.or{f:Value}{r r':List V->Hp->VK->Prop}(h:CallR X f r)(h':CallR X f r'):CallR X f (λxs H Q=>r xs H Q\/r' xs H Q):=by
 intro pins s Y H xs us Q I rs q
 rcases q with q|q
 ·exact h pins s Y H xs us Q I rs q
 ·exact h' pins s Y H xs us Q I rs q
def QaP:CallR X (.type "list") (λxs H Q=>∃p ys,xs=[.ref p]/\(SqL X.K H p ys\/SqT X.K H p ys)/\∀l,H l=none->Q (.ref l) (upd H l (.lst ys))):= by
 intro pins s Y H xs us Q I r h;obtain⟨p,ys,rfl,hq,q⟩:=h;obtain⟨u,rfl,rx⟩:=Je r;cases rx
 have fin:∀(its:List Value),Vals ys its->ys.length<=sizeLine->∀(h':Heap) (c':Nat),(∀b o',s.heap.get? b=some o'->h'.get? b=some o') ->
   h'.get? s.heap.objs.size=some {cls:=.type "list",dict:=none,data:=.seq its.toArray c',slots:=#[]}->EP X pins Y Q (.ref s.heap.objs.size) {s with heap:=h'}:=λits r' hz h' c' kp e=>
  ⟨.ref s.heap.objs.size,_,I.laid (t':=s.toks) kp (Xh _) (show ObjOk X.prog X.w _ h' _ (.lst ys)from⟨hz,its,c',r',e⟩),rfl,q _ (I.hok.fresh (Xh _))⟩
 rcases hq with hq|hq
 ·obtain⟨its,r',pl,hz⟩:=I.list hq;have hlen:=r'.length;obtain⟨o,ho,hc,n,hd⟩:=pl.isList
  exact call_list_seq p (.inl rfl) ho hc hd (λh' c' kp e=>fin its r' hz h' c' kp e) (by simp only[Xq]<;>omega)
 ·obtain⟨its,r',pl,hz⟩:=I.tuple hq;have hlen:=r'.length;obtain⟨o,ho,hc,n,hd⟩:=pl
  exact call_list_seq p (.inr rfl) ho hc hd (λh' c' kp e=>fin its r' hz h' c' kp e) (by simp only[Xq]<;>omega)
def JY:CallR X (.type "tuple") (λxs H Q=>∃p ys,xs=[.ref p]/\((SqL X.K H p ys/\∀l,H l=none->Q (.ref l) (upd H l (.tup ys)))\/(SqT X.K H p ys/\Q (.ref p) H))):= by
 intro pins s Y H xs us Q I r h;obtain⟨p,ys,rfl,h⟩:=h;obtain⟨u,rfl,rx⟩:=Je r;cases rx
 rcases h with⟨hq,q⟩|⟨hq,q⟩
 ·obtain⟨its,r',pl,hz⟩:=I.list hq;have hlen:=r'.length
  refine call_tuple_list pl.isList (λh' kp=>?_) (by simp only[Xq]<;>omega)
  have I1:Inv X pins Y H {s with heap:=h'}:=I.kept (t':=s.toks) kp
  have I2:Inv X pins Y (upd H h'.objs.size (.tup ys)) {s with heap:=h'.push {cls:=.type "tuple",data:=.seq its.toArray} }:=
   I1.laid (t':=s.toks) (λb o e=>Xj _ e) (Xh _) (show ObjOk X.prog X.w _ _ _ (.tup ys)from⟨hz,its,r',IsTup.new _ _⟩)
  exact⟨.ref h'.objs.size,_,I2,rfl,q _ (I1.hok.fresh (Xh _))⟩
 ·obtain⟨its,r',pl,hz⟩:=I.tuple hq;exact call_tuple_same pl ⟨.ref p,H,I,rfl,q⟩
def tyV(K:W.Frag)(T:String)(x:V)(H:Hp):Prop:=match x with
 |.str _=>T="str"
 |.int _=>T="int"
 |.ref p=>(T="list"/\∃xs,SqL K H p xs)\/(T="tuple"/\∃o,K.lookup p=some o/\o.cls=.type "tuple"/\o.dict=none) \/
   (T="dict"/\((∃kvs,H p=some (.dK kvs))\/∃kvs,H p=some (.dT kvs)))\/(T="set"/\∃S n,H p=some (.set S n))
 |_=>False
def QfN{pins:List (Addr×Obj)}{Y:St}{H:Hp}{s:Shared}{T:String}{v:Value}(I:Inv X pins Y H s)(r:RelV x v)(ty:tyV X.K T x H):
  s.TypeIs v T/\∀a,v=.ref a->∃ob,s.heap.get? a=some ob/\ob.dict=none:=by
 cases x with
 |str z=>
  obtain⟨t,rfl⟩:=r;cases(show T="str" from ty);exact⟨typeIs_str s z t,λy e=>nomatch e⟩
 |int i=>
  obtain⟨t,rfl⟩:=r;cases(show T="int" from ty);exact⟨typeIs_int s i t,λy e=>nomatch e⟩
 |ref p=>
  cases r
  rcases ty with⟨rfl,xs,hq⟩|⟨rfl,o,hk,hc,hd⟩|⟨rfl,hk⟩|⟨rfl,S,n,hk⟩
  ·obtain⟨its,_,pl,_⟩:=I.list hq;refine⟨pl.isList.typeIs,λa e=>?_⟩;cases e;obtain⟨o,n,e,c,hd,_⟩:=pl;exact⟨o,e,hd⟩
  ·refine⟨⟨o,I.kIn p o hk,hc⟩,λa e=>?_⟩;cases e;exact⟨o,I.kIn _ o hk,hd⟩
  ·have z:∃o,s.heap.get? p=some o/\o.ExactDict:=by
    rcases hk with⟨kvs,hk⟩|⟨kvs,hk⟩
    ·obtain⟨_,_,_,_,o,_,_,e,ex,_⟩:=I.hok p _ hk;exact⟨o,e,ex⟩
    ·obtain⟨_,_,_,_,o,_,_,e,ex,_⟩:=I.hok p _ hk;exact⟨o,e,ex⟩
   obtain⟨o,e,ex⟩:=z;refine⟨⟨o,e,ex.1⟩,λa e2=>?_⟩;cases e2;exact⟨o,e,ex.2.1⟩
  ·obtain⟨o,_,_,_,e,ex,_⟩:=I.hok p _ hk;refine⟨⟨o,e,ex.1⟩,λa e2=>?_⟩;cases e2;exact⟨o,e,ex.2.1⟩
 |_=>exact False.elim ty
def QpU(K:W.Frag)(T:String)(r:V->List V->Hp->VK->Prop)(to:TE):TE:=λY H Q=>to Y H λx H1=>tyV K T x H1/\r x [] H1 Q
def tBM(K:W.Frag)(T:String)(r:V->List V->Hp->VK->Prop)(to:TE)(t:TA):TE:=λY H Q=>to Y H λx H1=>tyV K T x H1/\t Y H1 λxs H2=>r x xs H2 Q
variable {o e:Expr}{es:List Expr}{to:TE}{t:TA}{name:Str}{apos cpos:Pos}{T id:String}{r:V->List V->Hp->VK->Prop}
def QkF(pa:PlainAttrs T)(slot:Slot T name id)(hty:typeOf (.builtin id)=pure (.type "method_descriptor"))(hm:MtR X id r)(ho:PE X o to)
  (hbase:attributeBase o name X.env (eval o X.env)=eval o X.env:=by rfl) (hline:(apos.endLine==cpos.line)=true:=by rfl):PE X (.Call (.Attribute o name apos) [] [] cpos) (QpU X.K T r to):=by
 intro pins s Y H Q I h;refine wpAny_Call_method0_late hbase hline (thn (ho pins s Y H _ I h) λv s1 z=>?_);obtain⟨x,H1,I1,r1,ty,q1⟩:=z;obtain⟨h1,h2⟩:=QfN I1 r1 ty;exact⟨T,id,pa,slot,hty,h1,h2,Calls.callWith_builtin rfl (PySem.evalArgs_none (hm pins s1 Y H1 x [] v [] Q I1 r1 .nil q1))⟩
def Qny(pa:PlainAttrs T)(slot:Slot T name id)(hty:typeOf (.builtin id)=pure (.type "method_descriptor"))(hm:MtR X id r)(ho:PE X o to)(ha:PA X (e::es) t)
  (hbase:attributeBase o name X.env (eval o X.env)=eval o X.env:=by rfl)
  (hfew:((backTo cpos (starEach (e::es) X.env)).all (λx=>!x.1)&&(backToKw cpos (keywordEach [] X.env)).all (λx=>x.1.isSome)
   && decide ((e::es).length+([]:List Keyword).length+(if([]:List Keyword).isEmpty then 0 else 1) < 30))=true:=by rfl)
  (hline:(apos.endLine==cpos.line)=true:=by rfl) (hs:starEach (e::es) X.env=(false,eval e X.env)::starEach es X.env:=by rfl) (hplain:(backTo cpos (starEach es X.env)).any (·.1)=false:=by rfl):
  PE X (.Call (.Attribute o name apos) (e::es) [] cpos) (tBM X.K T r to t):=by
 intro pins s Y H Q I h;refine wpAny_Call_method_late hbase hfew hline rfl (thn (ho pins s Y H _ I h) λv s1 z=>?_);obtain⟨x,H1,I1,r1,ty,q1⟩:=z;obtain⟨h1,h2⟩:=QfN I1 r1 ty;refine⟨T,id,pa,slot,hty,h1,h2,?_⟩;have hA:=ha cpos pins s1 Y H1 _ I1 q1;rw[hs]at hA ⊢
 refine Calls.callWith_builtin (by show(false||(backTo cpos (starEach es X.env)).any (·.1))=false;rw[hplain]<;>rfl) (Calls.evalArgs_plain ?_)
 exact thn hA λus s2 y=>by obtain⟨vs,H2,I2,r2,q2⟩:=y;exact hm pins s2 Y H2 x vs v us Q I2 r1 r2 q2
end
end
section
variable {X:Cx}{xs:List V}{us:List Value}
noncomputable def MtM(X:Cx)(id:String)(r:V->List V->Hp->VK->Prop):Prop :=
 ∀(pins:List (Addr×Obj)) (s:Shared) (Y:St) (H:Hp) (x:V) (xs:List V) (v:Value) (us:List Value) (Q:VK),Inv X pins Y H s->RelV x v->Vals xs us->r x xs H Q ->
  wpAny (model X.prog X.w) X.A (call (.builtin id) (v::us)) (EP X pins Y Q) X.xe s
def Vals.one{x:V}(h:Vals [x] us):∃u,us=[u]/\RelV x u:=by
 cases h with
 |cons r t=>cases t;exact⟨_,rfl,r⟩
def Vals.two{x y:V}(h:Vals [x,y] us):∃u v,us=[u,v]/\RelV x u/\RelV y v:=by
 cases h with
 |cons r t=>obtain⟨v,rfl,q⟩:=Vals.one t;exact⟨_,_,rfl,r,q⟩
def Vals.zero:∀{us:List Value},Vals [] us->us=[]
 |_,.nil=>rfl
theorem Vals.dropLast(h:Vals xs us):Vals xs.dropLast us.dropLast:=by
 induction h with
 |nil=>exact .nil
 |cons r t ih=>
  cases t with
  |nil=>exact .nil
  |cons q t'=>exact .cons r ih
theorem Vals.eraseIdx:∀{xs:List V} {us:List Value} (i:Nat),Vals xs us->Vals (xs.eraseIdx i) (us.eraseIdx i)
 |_,_,_,.nil=>.nil
 |_,_,0,.cons _ t=>t
 |_,_,i+1,.cons r t=>.cons r (Vals.eraseIdx i t)
theorem Vals.reverse(h:Vals xs us):Vals xs.reverse us.reverse:=by
 induction h with
 |nil=>exact .nil
 |cons r t ih=>rw[Tn,Tn];exact Vals.append ih (.cons r .nil)
theorem Vals.rep{xs:List V}{us:List Value}(h:Vals xs us):∀k:Nat,Vals (List.replicate k xs).flatten (List.replicate k us).flatten
 |0=>.nil
 |k+1=>by
  rw[Vv,Vv,Vs,Vs];exact Vals.append h (Vals.rep h k)
def QcE{α:Type}(l:List α):l.eraseIdx (l.length-1)=l.dropLast:=by
 induction l with
 |nil=>rfl
 |cons a r ih=>
  cases r with
  |nil=>rfl
  |cons b r=>
   have e:(a::b::r).length-1=((b::r).length-1)+1:=by
    have h1:(a::b::r).length=r.length+2:=rfl;have h2:(b::r).length=r.length+1:=rfl;omega
   rw[e,List.eraseIdx_cons_succ,ih]
   all_goals rfl
theorem QaB{α:Type}:∀(l:List α) (i:Nat),(l.eraseIdx i).length<=l.length
 |[],_=>Xh _
 |_::_,0=>V8 _
 |_::r,i+1=>Nat.succ_le_succ (QaB r i)
theorem QaI(its:List Value):∀(k:Nat) (acc:List Value),
  List.foldl (λx1 x2=>x1++x2) acc.toArray (List.replicate k its.toArray)=(acc++(List.replicate k its).flatten).toArray
 |0,acc=>by simp
 |k+1,acc=>by
  have e:acc.toArray++its.toArray=(acc++its).toArray:=by simp
  have e2:(acc++its)++(List.replicate k its).flatten=acc++(List.replicate (k+1) its).flatten:=by
   rw[Vv,Vs,Wv]
  rw[<-e2,<-QaI its k (acc++its),<-e,Vv,T0]
section
variable {pins:List (Addr×Obj)}{Y:St}{H:Hp}{s:Shared}{l:Addr}{ys:List V}
def Inv.lset{its its':List Value}{n:Nat}{f:Array Value->Array Value}{t':Nat}(I:Inv X pins Y H s)(hH:H l=some (.lst xs))
  (e:s.heap.get? l=some {cls:=.type "list",data:=.seq its.toArray n}) (hf:f its.toArray=its'.toArray) (hv:Vals ys its') (hz:ys.length<=sizeLine):
  Inv X pins Y (upd H l (.lst ys)) {s with heap:=s.heap.update l (Obj.mapSeq f),toks:=t'}:=by
 have q:=PySem.IsL.update e f;rw[hf]at q
 refine I.write (x:=l) (e:=l) (by rw[hH];exact trivial) (.inl rfl) (λb' u hb hu=>(Heap.get?_update_other s.heap (Obj.mapSeq f) (X8 hb)).trans hu) ⟨_,q⟩ ?_
 exact⟨hz,its',_,hv,q⟩
def Inv.lnew{its:List Value}{t':Nat}(I:Inv X pins Y H s)(hv:Vals ys its)(hz:ys.length<=sizeLine):
  Inv X pins Y (upd H s.heap.objs.size (.lst ys)) {s with heap:=s.heap.push {cls:=.type "list",data:=.seq its.toArray},toks:=t'}:=
 I.laid (λz z q=>Xj _ q) (Xh _) ⟨hz,its,0,hv,X2 _ rfl⟩
theorem Inv.fresh(I:Inv X pins Y H s):H s.heap.objs.size=none:=I.hok.fresh (Xh _)
def Inv.lstM(I:Inv X pins Y H s)(hH:H l=some (.lst xs)): xs.length<=sizeLine/\∃(its:List Value) (n:Nat),Vals xs its/\xs.length=its.length/\s.heap.get? l=some {cls:=.type "list",data:=.seq its.toArray n}:= by
 obtain⟨z,its,n,r,e⟩:=I.hok l _ hH;exact⟨z,its,n,r,r.length,e⟩
def QbT{n:Nat}(h:n<=sizeLine):Builtin.List.listTooLong n=false:=by
 unfold Builtin.List.listTooLong
 exact X6 (by omega)
end
section

def Qhq:V->List V->Hp->VK->Prop:=λx vs H Q=>∃l xs y,x=.ref l/\vs=[y]/\H l=some (.lst xs)/\xs.length<sizeLine/\Q .non (upd H l (.lst (xs++[y])))
def Qaw:MtM X "list.append" Qhq:=by
 intro pins s Y H x vs v us Q I rx rv h;obtain⟨l,xs,y,rfl,rfl,hH,hz,q⟩:=h;cases rx;obtain⟨u,rfl,ru⟩:=rv.one;obtain⟨z,its,n,r,hl,e⟩:=I.lstM hH
 refine U1 F.slot_list_append ⟨_,e,rfl⟩ F.entry_list_append (F.args_list_append_2 _ _) (PySem.list_append l its.toArray n u (by rw[Xq];omega)) ⟨e,?_⟩
 refine⟨.non,_,I.lset (its':=its++[u]) hH e (by simp) (r.append (.cons ru .nil)) ?_,rfl,q⟩
 rw[Xn,List.length_singleton];omega
def Qhp:V->List V->Hp->VK->Prop:=λx vs H Q=>∃l b xs zs,x=.ref l/\vs=[.ref b]/\H l=some (.lst xs)/\H b=some (.lst zs)/\xs.length+zs.length<=sizeLine/\Q .non (upd H l (.lst (xs++zs)))
def QdL:MtM X "list.extend" Qhp:=by
 intro pins s Y H x vs v us Q I rx rv h;obtain⟨l,b,xs,zs,rfl,rfl,hH,hB,hz,q⟩:=h;cases rx;obtain⟨u,rfl,ru⟩:=rv.one;cases ru;obtain⟨z,its,n,r,hl,e⟩:=I.lstM hH;obtain⟨z2,its2,n2,r2,hl2,e2⟩:=I.lstM hB
 have hsz:its.toArray.size+its2.toArray.size<=sizeLine:=by rw[Xq,Xq];omega
 have hlong:¬(!its.toArray.isEmpty&&Builtin.List.listTooLong (its.toArray.size+its2.toArray.size))=true:=by
  rw[QbT hsz,Bool.and_false];exact Xs
 refine U1 F.slot_list_extend ⟨_,e,rfl⟩ F.entry_list_extend (F.args_list_extend_2 _ _)
  (AutoSeq1.list_extend_list_list_0 l its.toArray n b its2.toArray n2 hlong (by rw[Xq];omega) (by omega)) ⟨e,e2,?_⟩
 refine⟨.non,_,I.lset (its':=its++its2) hH e (by simp) (r.append r2) ?_,rfl,q⟩
 rw[Xn];omega
def Qqg:V->List V->Hp->VK->Prop:=λx vs H Q=>∃l xs y,x=.ref l/\vs=[]/\H l=some (.lst xs)/\xs[xs.length-1]?=some y/\Q y (upd H l (.lst xs.dropLast))
def Qk2:MtM X "list.pop" Qqg:=by
 intro pins s Y H x vs v us Q I rx rv h;obtain⟨l,xs,y,rfl,rfl,hH,hy,q⟩:=h;cases rx;have hus:=rv.zero;subst hus;obtain⟨z,its,n,r,hl,e⟩:=I.lstM hH;obtain⟨u,hu,ru⟩:=r.get hy
 have hy':its.toArray[its.toArray.size-1]?=some u:=by
  show its.toArray[its.length-1]?=some u;rw[<-Array.getElem?_toList,<-hl];exact hu
 refine U1 F.slot_list_pop ⟨_,e,rfl⟩ F.entry_list_pop (F.args_list_pop_1 _) (MeetsSeq.list_pop_last l its.toArray n u hy' (by rw[Xq];omega)) ⟨e,?_⟩
 refine⟨y,_,I.lset (its':=its.dropLast) hH e ?_ r.dropLast ?_,ru,q⟩
 ·show its.toArray.eraseIdxIfInBounds (its.toArray.size-1)=its.dropLast.toArray;rw[Xq,List.eraseIdxIfInBounds_toArray,QcE]
 ·rw[List.length_dropLast];omega
def Qka:V->List V->Hp->VK->Prop:=λx vs H Q=>∃l xs i k y,x=.ref l/\vs=[.int i]/\H l=some (.lst xs)/\-(2 ^ 63)<=i/\i<2 ^ 63/\seqIndex? i xs.length=some k/\xs[k]?=some y/\Q y (upd H l (.lst (xs.eraseIdx k)))
def Qfg:MtM X "list.pop" Qka:=by
 intro pins s Y H x vs v us Q I rx rv h;obtain⟨l,xs,i,k,y,rfl,rfl,hH,h1,h2,hk,hy,q⟩:=h;cases rx;obtain⟨u,rfl,ru⟩:=rv.one;obtain⟨t,rfl⟩:=ru;obtain⟨z,its,n,r,hl,e⟩:=I.lstM hH;obtain⟨w,hw,rw'⟩:=r.get hy
 refine U1 F.slot_list_pop ⟨_,e,rfl⟩ F.entry_list_pop (F.args_list_pop_2 _ _)
  (MeetsSeq.list_pop_at l its.toArray n i t k w (fitsIndex_both h1 h2) (by rw[Xq,<-hl];exact hk) (by rw[<-Array.getElem?_toList];exact hw) (by rw[Xq];omega)) ⟨e,?_⟩
 refine⟨y,_,I.lset (its':=its.eraseIdx k) hH e ?_ (r.eraseIdx k) ?_,rw',q⟩
 ·show its.toArray.eraseIdxIfInBounds k=(its.eraseIdx k).toArray;rw[List.eraseIdxIfInBounds_toArray]
 ·have:=QaB xs k;omega
def Qqi:R2:=λx y H Q=>∃l b xs zs,x=.ref l/\y=.ref b/\H l=some (.lst xs)/\H b=some (.lst zs)/\xs.length+zs.length<=sizeLine/\∀p,H p=none->Q (.ref p) (upd H p (.lst (xs++zs)))
def QkT:OpR X (binaryOp .Add) Qqi:=by
 intro pins s Y H x y v u Q I rx ry h;obtain⟨l,b,xs,zs,rfl,rfl,hH,hB,hz,q⟩:=h;cases rx;cases ry;obtain⟨z,its,n,r,hl,e⟩:=I.lstM hH;obtain⟨z2,its2,n2,r2,hl2,e2⟩:=I.lstM hB
 refine PySem.P.add_list e e2 ?_ (by rw[Xq,Xq];omega)
 have ea:its.toArray++its2.toArray=(its++its2).toArray:=by simp
 rw[ea]
 exact⟨.ref _,_,I.lnew (t':=s.toks) (r.append r2) (by rw[Xn];omega),rfl,q _ I.fresh⟩
def Qqf:R2:=λx y H Q=>∃l k xs,x=.ref l/\y=.int k/\H l=some (.lst xs)/\-(2 ^ 63)<=k/\k<2 ^ 63/\xs.length*k.toNat<=sizeLine /\
 ∀p,H p=none->Q (.ref p) (upd H p (.lst (List.replicate k.toNat xs).flatten))
def Qh5{α:Type}(xs:List α)(k:Nat):(List.replicate k xs).flatten.length=k*xs.length:=by
 induction k with
 |zero=>simp
 |succ k ih=>rw[Vv,Vs,Xn,ih,Nat.succ_mul,T1]
def QkI:OpR X (binaryOp .Mult) Qqf:=by
 intro pins s Y H x y v u Q I rx ry h;obtain⟨l,k,xs,rfl,rfl,hH,h1,h2,hz,q⟩:=h;cases rx;obtain⟨t,rfl⟩:=ry;obtain⟨z,its,n,r,hl,e⟩:=I.lstM hH
 have hlen:its.toArray.size*k.toNat<=sizeLine:=by rw[Xq,<-hl];exact hz
 have hcap:¬its.toArray.size*k.toNat>(2 ^ 63-1) / 8:=by
  have:(sizeLine:Nat)<=(2 ^ 63-1) / 8:=by decide
  omega
 have hfit:¬(!Builtin.List.listFitsIndex k)=true:=by
  rw[fitsIndex_both h1 h2];exact Xs
 have hlong:¬Builtin.List.listTooLong (its.toArray.size*k.toNat)=true:=by
  rw[QbT hlen];exact Xs
 have hnew:List.foldl (λx1 x2=>x1++x2) #[] (List.replicate (if its.toArray.isEmpty=true then 0 else k.toNat) its.toArray)=(List.replicate k.toNat its).flatten.toArray:=by
  have f0:∀m:Nat,List.foldl (λx1 x2=>x1++x2) #[] (List.replicate m its.toArray)=(List.replicate m its).flatten.toArray:=λm=>by
   have:=QaI its m [];rw[List.nil_append]at this;exact this
  rw[f0]
  cases its with
  |nil=>simp
  |cons a r'=>rw[if_neg (by simp)]
 refine wpAny_binaryOp_repeat_ref (T:="list") (U:="int") (by decide) ⟨_,e,rfl⟩ (λs'=>typeIs_int s' k t) noFill_list_mul F.fills_int_mul F.slot_int_rmul repeat_list F.slot_int_index.lookup
  (U1 F.slot_int_rmul (typeIs_int s k t) F.entry_int_rmul (F.args_int_rmul_2 _ _) (int___rmul___int_list k t l its.toArray n)
   ⟨e,rfl,⟨_,e,rfl⟩,U1 F.slot_list_mul ⟨_,e,rfl⟩ F.entry_list_mul (F.args_list_mul_2 _ _) (AutoListH.list___mul___list_int_3 l its.toArray n k t hfit hcap hlong) ⟨e,?_⟩⟩)
 rw[hnew]
 exact⟨.ref _,_,I.lnew (t':=s.toks) (r.rep k.toNat) (by rw[Qh5,Nat.mul_comm];exact hz),rfl,q _ I.fresh⟩
end
section
set_option maxRecDepth 100000 in
end
section

end
end
section
variable {a:Addr}{A:Around}{X:Cx}{H H':Hp}{pins:List (Addr×Obj)}{xs:List (List Key×Addr×Value)}{kvs:List (List Key×V)}{o:Option V}{pos:Pos}{P:Program}{s:Shared}{Y:St}{y:V}{u:Value}{Q:Value->Shared->Prop}{w:World}
section
variable {κ:Type}[DecidableEq κ]
noncomputable def Qac(kvs:List (κ×V))(k:κ):Option V:=(kvs.find? λkv=>decide (kv.1=k)).map (·.2)
noncomputable def Qae(kvs:List (κ×V))(k:κ)(v:V):List (κ×V):=
 if(kvs.any λkv=>decide (kv.1=k))=true then kvs.map (λkv=>if kv.1=k then(kv.1,v)else kv)else kvs++[(k,v)]
def JG{p:κ×V}{r:List (κ×V)}{k:κ}(e:p.1=k):Qac (p::r) k=some p.2:=by simp[Qac,Wz,e]
def JH{p:κ×V}{r:List (κ×V)}{k:κ}(e:¬p.1=k):Qac (p::r) k=Qac r k:=by simp[Qac,Wz,e]
theorem QbC(k:κ):∀kvs:List (κ×V),(kvs.any λkv=>decide (kv.1=k))=(Qac kvs k).isSome
 |[]=>rfl
 |p::r=>by
  rw[V5];by_cases e:p.1=k
  ·simp only[JG e,Wt e,Bool.true_or,Option.isSome_some]
  ·rw[JH e,X6 e,Bool.false_or];exact QbC k r
def Z5(kvs:List (κ×V))(k:κ)(v:V):(Qae kvs k v).length<=kvs.length+1:=by
 unfold Qae;split
 ·rw[Xz];omega
 ·rw[Xn,Wj,V0];omega
def RelO.isSome_eq{u:Option Value}(r:RelO o u):o.isSome=u.isSome:=by
 cases o with
 |none=>cases u with
  |none=>rfl
  |some _=>exact(show False from r).elim
 |some _=>cases u with
  |none=>exact(show False from r).elim
  |some _=>rfl
theorem RelO.getD{u:Option Value}{d:V}{d':Value}(r:RelO o u)(rd:RelV d d'):RelV (o.getD d) (u.getD d'):=by
 cases o with
 |none=>cases u with
  |none=>exact rd
  |some _=>exact(show False from r).elim
 |some _=>cases u with
  |none=>exact(show False from r).elim
  |some _=>exact r
def KV.val{kvs:List (κ×V)}{vs:List (κ×Value)}(r:KV kvs vs)(k:κ):RelO (Qac kvs k) (valueAt vs k):=by
 unfold KV at r
 induction r with
 |nil=>exact True.intro
 | @cons p q ps qs h t ih=>
  obtain⟨h1,h2⟩:=h;by_cases e:p.1=k
  ·have e':q.1=k:=h1.symm.trans e
   have b:valueAt (q::qs) k=some q.2:=by simp[valueAt,Wz,e']
   rw[JG e,b];exact h2
  ·have e':¬q.1=k:=λz=>e (h1.trans z)
   have b:valueAt (q::qs) k=valueAt qs k:=by simp[valueAt,Wz,e']
   rw[JH e,b];exact ih
theorem KV.any{kvs:List (κ×V)}{vs:List (κ×Value)}(r:KV kvs vs)(k:κ):(kvs.any λkv=>decide (kv.1=k))=vs.any λkv=>decide (kv.1=k):=by
 unfold KV at r
 induction r with
 |nil=>rfl
 |cons h t ih=>rw[V5,V5,ih,h.1]
def KV.repl{kvs:List (κ×V)}{vs:List (κ×Value)}(r:KV kvs vs)(k:κ)(ry:RelV y u):
  KV (kvs.map λkv=>if kv.1=k then(kv.1,y)else kv) (vs.map λkv=>if kv.1=k then(kv.1,u)else kv):=by
 unfold KV at r ⊢
 induction r with
 |nil=>exact .nil
 | @cons p q ps qs h t ih=>
  rw[X1,X1];refine .cons ?_ ih;obtain⟨h1,h2⟩:=h;by_cases e:p.1=k
  ·rw[if_pos e,if_pos (h1.symm.trans e)];exact⟨h1,ry⟩
  ·rw[if_neg e,if_neg (λz=>e (h1.trans z))];exact⟨h1,h2⟩
def KV.put{kvs:List (κ×V)}{vs:List (κ×Value)}(r:KV kvs vs)(k:κ)(ry:RelV y u):KV (Qae kvs k y) (stored vs k u):=by
 unfold Qae stored;rw[r.any k];by_cases e:(vs.any λkv=>decide (kv.1=k))=true
 ·rw[if_pos e,if_pos e];exact r.repl k ry
 ·rw[if_neg e,if_neg e];exact Paired.snoc r ⟨rfl,ry⟩
theorem KV.length{kvs:List (κ×V)}{vs:List (κ×Value)}(r:KV kvs vs):kvs.length=vs.length:=W7 r
end
def Jh{k:Key}(r:RelV (kV k) u):(QK P w).is k u=true:=by
 cases k with
 |inl i=>obtain⟨t,e⟩:=(show ∃t,u=Value.int i t from r);subst e;exact Qbk P w i t
 |inr x=>obtain⟨t,e⟩:=(show ∃t,u=Value.str x t from r);subst e;exact Qbj P w x t
theorem QaF{P:Program}{w:World}:∀{ks:List Key} {us:List Value},Vals (ks.map kV) us->ItemsAre (QK P w) ks us
 |[],_,r=>by rw[V1]at r;cases r;exact .nil
 |k::ks,_,r=>by
  rw[X1]at r
  cases r with
  |cons h t=>exact .cons (Jh h) (QaF t)
abbrev KT(H:Hp):List (List Key×V)->List (List Key×Addr×Value)->Prop:=Paired λp q=>p.1=q.1/\H q.2.1=some (.tup (p.1.map kV))/\RelV p.2 q.2.2
def KT.val(r:KT H kvs xs)(k:List Key):RelO (Qac kvs k) ((atKey xs k).map (·.2)):=by
 induction r with
 |nil=>exact True.intro
 | @cons p q ps qs h t ih=>
  obtain⟨h1,_,h2⟩:=h;by_cases e:p.1=k
  ·have e':q.1=k:=h1.symm.trans e
   have b:atKey (q::qs) k=some q.2:=by simp[atKey,Wz,e']
   rw[JG e,b];exact h2
  ·have e':¬q.1=k:=λz=>e (h1.trans z)
   have b:atKey (q::qs) k=atKey qs k:=by simp[atKey,Wz,e']
   rw[JH e,b];exact ih
def KT.repl(r:KT H kvs xs)(k:List Key)(ry:RelV y u):
  KT H (kvs.map λkv=>if kv.1=k then(kv.1,y)else kv) (xs.map (putAt k u)):=by
 induction r with
 |nil=>exact .nil
 | @cons p q ps qs h t ih=>
  rw[X1,X1];refine .cons ?_ ih;obtain⟨h1,h2,h3⟩:=h;unfold putAt;by_cases e:p.1=k
  ·rw[if_pos e,if_pos (h1.symm.trans e)];exact⟨h1,h2,ry⟩
  ·rw[if_neg e,if_neg (λz=>e (h1.trans z))];exact⟨h1,h2,h3⟩
def KT.put(r:KT H kvs xs)(k:List Key){b:Addr}(hb:H b=some (.tup (k.map kV)))(ry:RelV y u):
  KT H (Qae kvs k y) (storedH xs k b u):=by
 have e:(kvs.any λkv=>decide (kv.1=k))=(atKey xs k).isSome:=by
  rw[QbC,(r.val k).isSome_eq,Option.isSome_map]
 unfold Qae storedH;rw[e];by_cases q:(atKey xs k).isSome=true
 ·rw[if_pos q,if_pos q];exact r.repl k ry
 ·rw[if_neg q,if_neg q];exact Paired.snoc r ⟨rfl,hb,ry⟩
def KT.keeps(r:KT H kvs xs)(ht:∀b ys,H b=some (.tup ys)->H' b=some (.tup ys)):KT H' kvs xs :=
 Paired.mapP r λy y z=>⟨z.1,ht _ _ z.2.1,z.2.2⟩
section
variable {h:Heap}
def Qj7{u:HO}(ok:HOk P w H h)(e:Rd H a u):ObjOk P w H h a u:=e.ok ok
def QcG{kvs:List (Key×V)}(ok:HOk P w H h)(e:Rd H a (.dK kvs)):kvs.length<=sizeLine/\(a==sysModules)=false/\∃vs,KV kvs vs/\h.DictOf (QK P w) a vs :=
 show ObjOk P w H h a (.dK kvs)from Qj7 ok e
def QiB{kvs:List (Key×V)}(ok:HOk P w H h)(e:H a=some (.dK kvs)):kvs.length<=sizeLine/\(a==sysModules)=false/\∃vs,KV kvs vs/\h.DictOf (QK P w) a vs:=QcG ok (.inl e)
def Jv{ks:List Key}(ok:HOk P w H h)(e:H a=some (.tup (ks.map kV))):(tupleKind (QK P w)).is h ks a:=by
 obtain⟨_,its,r,o,h1,h2,n,h3⟩:=(show ObjOk P w H h a (.tup (ks.map kV))from ok a _ e)
 exact⟨o,its.toArray,n,h1,h2,h3,by simpa using QaF r⟩
def QcF(ok:HOk P w H h)(e:Rd H a (.dT kvs)):kvs.length<=sizeLine/\(a==sysModules)=false /\
  ∃xs,KT H kvs xs/\h.DictOfH (tupleKind (QK P w)) a xs:=by
 obtain⟨z,y,xs,r,o,es,ep,h1,h2,h3,h4,h5⟩:=(show ObjOk P w H h a (.dT kvs)from Qj7 ok e);refine⟨z,y,xs,r,o,es,ep,h1,h2,h3,h4,λx hx=>?_,h5⟩
 have all:∀{l:List (List Key×V)} {m:List (List Key×Addr×Value)},KT H l m->∀x∈m,(tupleKind (QK P w)).is h x.1 x.2.1:=by
  intro l m q
  induction q with
  |nil=>intro x hx;exact nomatch hx
  | @cons p q ps qs hq t ih=>
   intro x hx
   rcases Xd.mp hx with e|hx
   ·subst e
    exact Jv ok (by rw[<-hq.1];exact hq.2.1)
   ·exact ih x hx
 exact all r x hx
def Qog(ok:HOk P w H h)(e:H a=some (.dT kvs)):kvs.length<=sizeLine/\(a==sysModules)=false /\
  ∃xs,KT H kvs xs/\h.DictOfH (tupleKind (QK P w)) a xs:=QcF ok (.inl e)
end
noncomputable def DGet(H:Hp)(a:Addr)(y:V)(r:Option V):Prop :=
 (∃kvs k,Rd H a (.dK kvs)/\y=kV k/\r=Qac kvs k)\/∃kvs k b,Rd H a (.dT kvs)/\y=.ref b/\H b=some (.tup (k.map kV))/\r=Qac kvs k
noncomputable def DPut(H:Hp)(a:Addr)(y v:V)(H':Hp):Prop :=
 (∃kvs k,H a=some (.dK kvs)/\y=kV k/\kvs.length<sizeLine/\H'=upd H a (.dK (Qae kvs k v))) \/
 ∃kvs k b,H a=some (.dT kvs)/\y=.ref b/\H b=some (.tup (k.map kV))/\kvs.length<sizeLine/\H'=upd H a (.dT (Qae kvs k v))
theorem DGet.k{H:Hp}{a:Addr}{kvs:List (Key×V)}{k:Key}(e:H a=some (.dK kvs)):DGet H a (kV k) (Qac kvs k):=.inl ⟨kvs,k,.inl e,rfl,rfl⟩
theorem DPut.k{H:Hp}{a:Addr}{kvs:List (Key×V)}{k:Key}{v:V}(e:H a=some (.dK kvs))(hl:kvs.length<sizeLine):DPut H a (kV k) v (upd H a (.dK (Qae kvs k v))):=.inl ⟨kvs,k,e,rfl,hl,rfl⟩
section
variable {v:V}{r:Value}{E:Value->Shared->Prop}
def Inv.big(I:Inv X pins Y H s):sysModules<s.heap.objs.size:=by
 have h:mainGlobals<s.heap.objs.size:=(I.mod.glob.keeps I.bk).lt
 exact Nat.lt_trans (by decide) h
def Qea(hu:A.units+1<cLine)(I:Inv X pins Y H s)(g:DGet H a y (some v))(ry:RelV y u)(h:∀w' s',Inv X pins Y H s'->RelV v w'->Q w' s'):
  wpAny (model X.prog X.w) A (getItem (.ref a) u) Q E s:=by
 rcases g with⟨kvs,k,e,ey,l⟩|⟨kvs,k,b,e,ey,eb,l⟩
 ·subst ey;obtain⟨z,hd,vs,rel,dd⟩:=QcG I.hok e
  obtain⟨w',hw,rw'⟩:=RelO.some_of (v:=v) (o:=valueAt vs k) (by rw[l];exact rel.val k)
  exact wpAny_getItem_of (Jh ry) dd.mapOf hw (h w' _ (I.tok _) rw')
 ·subst ey;cases(show u=Value.ref b from ry);obtain⟨z,hd,xs,rel,dd⟩:=QcF I.hok e
  obtain⟨w',hw,rw'⟩:=RelO.some_of (v:=v) (o:=(atKey xs k).map (·.2)) (by rw[l];exact rel.val k)
  obtain⟨p,hp,hp2⟩:=Xb.mp hw;refine wpAny_getItem_heap (Uq hu) (Jv I.hok eb) dd hp ?_;rw[hp2];exact h w' _ (I.tok _) rw'
def QqL(hu:A.units+1<cLine)(I:Inv X pins Y H s)(g:DGet H a y o)(ry:RelV y u)(h:∀s',Inv X pins Y H s'->Q (.bool o.isSome) s'):
  wpAny (model X.prog X.w) A (compareOp .In u (.ref a)) Q E s:=by
 rcases g with⟨kvs,k,e,ey,l⟩|⟨kvs,k,b,e,ey,eb,l⟩
 ·subst ey;obtain⟨z,hd,vs,rel,dd⟩:=QcG I.hok e;refine wpAny_in_of (Jh ry) hd dd.mapOf ?_;rw[<-(rel.val k).isSome_eq,<-l];exact h _ (I.tok _)
 ·subst ey;cases(show u=Value.ref b from ry);obtain⟨z,hd,xs,rel,dd⟩:=QcF I.hok e;refine wpAny_in_heap (Uq hu) (Jv I.hok eb) hd dd ?_;have q:=(rel.val k).isSome_eq;rw[Option.isSome_map]at q;rw[<-q,<-l];exact h _ (I.tok _)
def QiC(hu:A.units+1<cLine)(I:Inv X pins Y H s)(g:DGet H a y o)(ry:RelV y u)(h:∀s',Inv X pins Y H s'->Q (.bool (!o.isSome)) s'):
  wpAny (model X.prog X.w) A (compareOp .NotIn u (.ref a)) Q E s:=by
 rcases g with⟨kvs,k,e,ey,l⟩|⟨kvs,k,b,e,ey,eb,l⟩
 ·subst ey;obtain⟨z,hd,vs,rel,dd⟩:=QcG I.hok e;refine wpAny_notIn_of (Jh ry) hd dd.mapOf ?_;rw[<-(rel.val k).isSome_eq,<-l];exact h _ (I.tok _)
 ·subst ey;cases(show u=Value.ref b from ry);obtain⟨z,hd,xs,rel,dd⟩:=QcF I.hok e;refine wpAny_notIn_heap (Uq hu) (Jv I.hok eb) hd dd ?_;have q:=(rel.val k).isSome_eq;rw[Option.isSome_map]at q;rw[<-q,<-l];exact h _ (I.tok _)
def Qd8{h':Heap}{t':Nat}{ob:HO}(I:Inv X pins Y H s)(mu:Mut (H a))(hs:Heap.SameBut a s.heap h')(he:∃q,h'.get? a=some q)(new:ObjOk X.prog X.w (upd H a ob) h' a ob):
  Inv X pins Y (upd H a ob) {s with heap:=h',toks:=t'}:=
 I.write (x:=a) (e:=a) mu (.inl rfl) (λb q hb z=>(hs.2 b hb).trans z) he new
def QlQ{h':Heap}{kvs:List (Key×V)}{vs:List (Key×Value)}(z:kvs.length<=sizeLine)(hd:(a==sysModules)=false)(rel:KV kvs vs)(dd:h'.DictOf (QK P w) a vs):
  ObjOk P w H' h' a (.dK kvs):=⟨z,hd,vs,rel,dd⟩
def Qd9{Q:Unit->Shared->Prop}(hu:A.units+1<cLine)(I:Inv X pins Y H s)(g:DPut H a y v H')(ry:RelV y u)(rv:RelV v r)(h:∀s',Inv X pins Y H' s'->Q () s'):
  wpAny (model X.prog X.w) A (setItem (.ref a) u r) Q E s:=by
 rcases g with⟨kvs,k,e,ey,l,eH⟩|⟨kvs,k,b,e,ey,eb,l,eH⟩
 ·subst ey eH;obtain⟨z,hd,vs,rel,dd⟩:=QiB I.hok e
  have hz:vs.length<=sizeLine:=by rw[<-rel.length];exact z
  have hl:(Qae kvs k v).length<=sizeLine:=by have:=Z5 kvs k v;omega
  refine wpAny_setItem_pairs (hsz:=hz) (Jh ry) dd λh' dd' hs=>h _ ?_;have he:∃q,h'.get? a=some q:=let ⟨q,_,_,hq,_⟩:=dd';⟨q,hq⟩
  exact Qd8 I (by rw[e];exact True.intro) hs he (QlQ hl hd (rel.put k rv) dd')
 ·subst ey eH;cases(show u=Value.ref b from ry);obtain⟨z,hd,xs,rel,dd⟩:=Qog I.hok e
  have hz:xs.length<=sizeLine:=by rw[<-W7 rel];exact z
  have hl:(Qae kvs k v).length<=sizeLine:=by have:=Z5 kvs k v;omega
  refine wpAny_setItem_heap (hsz:=hz) (Uq hu) (Jv I.hok eb) dd λh' dd' hs=>h _ ?_;obtain⟨q,es,ep,hq,h2,h3,h4,_,h5⟩:=dd'
  refine Qd8 I (by rw[e];exact True.intro) hs ⟨q,hq⟩ ⟨hl,hd,_,(rel.put k eb rv).keeps λc ys ec=>?_,q,es,ep,hq,h2,h3,h4,h5⟩
  rw[Qc (Zh ec e (λz=>nomatch z))];exact ec
end
def Qrm(i:Expr):Prop:=∀ov iv,subscripted i false ov iv=operate [ov,iv] (getItem ov iv)
def QgW{prog:Program}{E:Value->Shared->Prop}{env:Env}{value slice:Expr}{T id:String}
  (hl:typeLookup (.type T) "__getitem__"=pure (some (.builtin id))) (hs:Qrm slice)
  (h:wpAny (model prog w) A (eval value env) (λo s₁=>wpAny (model prog w) A (eval slice env) (λi s₂=>s₂.TypeIs o T/\wpAny (model prog w) A (getItem o i) Q E s₂) E s₁) E s):
  wpAny (model prog w) A (eval (.Subscript value slice pos) env) Q E s:=by
 refine Subscript_ (W2 h (λo s₁ h₁=>W2 h₁ (λi s₂ h₂=>?_) λz z x=>x) λz z x=>x);obtain⟨hT,h₂⟩:=h₂;unfold subscriptTail;refine Xg ?_;rw[getitemInPython_of_ne hT.not_modules];refine Xg (T2 hT hl ?_)
 have fin:wpAny (model prog w) A (subscripted slice false o i) (λr s₃=>wpAny (model prog w) A (letTemporaryGo value o r >>= λz=>pure r) Q E s₃) E s₂:=by
  rw[hs o i];exact wpAny_operating (W2 h₂ (λr s₃ h₃=>Xg (wpAny_letTemporaryGo (Xu h₃))) λz z x=>x)
 first
  |exact Xu (Xg fin)
  |exact Xg (Xu (Xg fin))
  |exact Xg fin
def Qbq(I:Inv X pins Y H s)(g:DGet H a y o):s.TypeIs (.ref a) "dict":=by
 rcases g with⟨kvs,k,e,_,_⟩|⟨kvs,k,b,e,_,_,_⟩
 ·obtain⟨_,_,vs,_,dd⟩:=QcG I.hok e;exact dd.typeIs
 ·obtain⟨_,_,xs,_,dd⟩:=QcF I.hok e;exact dd.typeIs
def QfE(h:Heap)(hb:sysModules<h.objs.size):ObjOk P w H (h.push {cls:=.type "dict",data:=.dict #[]}) h.objs.size (.dK []):=
 ⟨Vw _,Wu.mpr (X8 (X0 hb)),[],.nil,Heap.DictOf.new h⟩
def QjF:TE:=λz H Q=>∀p,H p=none->Q (.ref p) (upd H p (.dK []))
section

def Qfb:PE X (.Dict [] [] pos) QjF:=λpins s Y H Q I h=>
 wpAny_Dict_empty ⟨.ref s.heap.objs.size,_,I.laid (a:=s.heap.objs.size) (o:=.dK []) (t':=s.toks) (λz z q=>Xj _ q) (Xh _) (QfE s.heap I.big),rfl,h _ (I.hok.fresh (Xh _))⟩
end
abbrev VV:List (V×V)->List (Value×Value)->Prop:=Paired λp q=>RelV p.1 q.1/\RelV p.2 q.2
noncomputable def Yh(kvs more:List (Key×V)):List (Key×V):=more.foldl (λacc kv=>Qae acc kv.1 kv.2) kvs
section
variable {d:V}{r:Value}{E:Value->Shared->Prop}
def QlU(hu:A.units+1<cLine)(I:Inv X pins Y H s)(g:DGet H a y o)(ry:RelV y u)(rd:RelV d r)(h:∀w' s',Inv X pins Y H s'->RelV (o.getD d) w'->Q w' s'):
  wpAny (model X.prog X.w) A (call (.builtin "dict.get") [.ref a,u,r]) Q E s:=by
 rcases g with⟨kvs,k,e,ey,l⟩|⟨kvs,k,b,e,ey,eb,l⟩
 ·subst ey;obtain⟨z,hd,vs,rel,dd⟩:=QcG I.hok e;refine call_meetsIn Ts dd.typeIs PySem.F.entry_dict_get (PySem.F.args_dict_get_3 _ _ _) (meets_dict_get_default (QK X.prog X.w) a (Jh ry) hd r) ⟨_,dd.mapOf,h _ _ (I.tok _) ?_⟩;rw[l];exact(rel.val k).getD rd
 ·subst ey;cases(show u=Value.ref b from ry);obtain⟨z,hd,xs,rel,dd⟩:=QcF I.hok e;refine call_meetsIn Ts dd.typeIs PySem.F.entry_dict_get (PySem.F.args_dict_get_3 _ _ _) (meetsH_dict_get_default (tupleKind (QK X.prog X.w)) a b hd r) ⟨Uq hu,k,xs,Jv I.hok eb,dd,h _ _ (I.tok _) ?_⟩;rw[l];exact(rel.val k).getD rd
end
end
end L2
namespace Att
open PySem PySem.W PySem.Calls PyProof.Rows
def Y1{P:Params}{h:Heap}:∀(ns:List Int) (vs:List Value),WellAll P h vs (ns.map WData.int)->IntsAre vs ns:=by
 intro ns
 induction ns with
 |nil=>
  intro vs w;rw[V1]at w;cases w;exact .nil
 |cons n ns ih=>
  intro vs w;rw[X1]at w
  cases w with
  |cons a b=>
   cases a;exact .cons _ _ (ih _ b)
def Qdf{l:OpenLaw}{n:Nat}(hn:l.most=some n){P:Params}{h:Heap}{args:List WData}{vals:List Value}
  (hpre:l.row.toRowW.claim.pre args=true) (hwl:WellAll P h vals args):
  ∃a vs ns,vals=[Value.ref a]/\args=[WData.list (ns.map WData.int)]/\h.get? a=some {cls:=.type "list",data:=.seq vs.toArray}/\IntsAre vs ns/\ns.length<=n:=by
 have hsh:WShape.hasAll [] args [.list .int]=true:=(pre_splitW hpre).1;have hc:l.pre.holds [] {args:=args}=true:=(pre_splitW hpre).2;obtain⟨d,r,rfl,h1,h2⟩:=hasAllW_cons hsh;obtain rfl:=hasAllW_nil h2;obtain⟨xs,rfl,h3⟩:=hasW_list h1;obtain⟨ns,rfl⟩:=items_int h3
 have hlen:ns.length<=n:=by
  unfold OpenLaw.pre at hc
  have h4:(WTm.not (.lt (.lit (.int (n:Int))) (.len (.arg 0)))).holds [] {args:=[.list (ns.map .int)]}=true:=by
   have h4:=(holds_andW hc).1;rw[hn]at h4;exact h4
  have h5:=condW_of h4 (w_not (w_lt w_lit (w_len_list (w_arg rfl))));rw[Xz]at h5;refine Tq λq=>?_
  have q':(n:Int) < ((ns.length:Nat):Int):=by omega
  first
   | (rw[Wt q']at h5;exact absurd h5 (by decide))
   | (simp at h5;omega)
 cases hwl with
 |cons w1 w2=>
  cases w2
  cases w1 with
  |list ho hall=>exact⟨_,_,ns,rfl,rfl,ho,Y1 ns _ hall,hlen⟩
def Qds(l:OpenLaw)(args:List WData):l.row.toRowW.claim.post args (.bool true) args=true :=
 postW_of (r:=l.row.toRowW) (X:=(true==true))
  (show WShape.has [] (.bool true) .bool=true by first|rfl|decide|simp[WShape.has,WShape.arms,WShape.armsAll])
  (show(WTm.eq .res (.lit (.bool true))).value [] {args:=args,res:=some (.bool true),after:=args}=some (.bool (true==true))from w_eq_bool (w_res rfl) w_lit) rfl
def attach_call{l:OpenLaw}{n:Nat}{q:Program}{loose:List Str}{XP:(Str->Option Value)->Heap->Prop}{YP:World->Heap->Prop}{d:DefRec}
  (hn:l.most=some n) (hdf:d.params.defaults=[])
  (call:∀(w:World) (s₀ s₁:Shared) (mg mb:Str->Option Value) (fa:Addr) (o:Obj) (pm cd doc:Value) (a:Addr) (vs:List Value) (ns:List Int),
   Ground q loose [] XP w s₀ mg mb s₁.heap->YP w s₁.heap ->
   s₁.heap.get? fa=some o->o.data=.func (docDef d.name d.params d.body d.scope pm cd doc)->s₁.heap.CodeRec cd d.name->mg d.name=some (.ref fa) ->
   s₁.heap.get? a=some {cls:=.type "list",data:=.seq vs.toArray}->IntsAre vs ns->ns.length<=n->s₁.gens=#[] ->
   codeAny (model l.prog w) callerA (.call (.ref fa) ⟨[.ref a],[]⟩) (λr s'=>r=.ok (.ret (.bool true))/\OldK s₁.heap s'.heap/\s'.os=s₁.os/\AllBare s'.gens) s₁):
  WalkO q loose XP YP l.row.toRowW d [] (λf vs=>PySem.call f vs):=by
 intro w s₀ s₁ mg mb G Yyy fa o pm cd doc dV kV ho hd hcd hD hmg hg args vals as hpre hlay hrd hwl hlo;obtain rfl:dV=.none:=Dflts.none hD hdf;obtain rfl:kV=.none:=Dflts.noKw hD;obtain⟨a,vs,ns,rfl,rfl,hobj,hints,hlen⟩:=Qdf hn hpre hwl;refine enter_call (Tx (call w s₀ s₁ mg mb fa o pm cd doc a vs ns G Yyy ho (fd_plain hd) hcd hmg hobj hints hlen hg) λr s' hq=>?_);obtain⟨rfl,h2,h3,h4⟩:=hq;exact⟨.inl ⟨.bool true,.bool true,[],rfl,λz=>rfl,.bool true,Qds l _,λz=>⟨List.Pairwise.nil,λz hm=>(nomatch hm)⟩⟩,h2,h3,h4⟩
end Att
namespace L2
open PySem PySem.Spec PyProof.Rows
section
theorem Qag:∀{vs:List Value} {ns:List Int},IntsAre vs ns->Vals (ns.map V.int) vs
 |_,_,.nil=>.nil
 |_,_,.cons n t h=>.cons ⟨t,rfl⟩ (Qag h)
def QmC(H:Hp):Prop:=∀b,H b=none\/∃o xs,H b=some (.frz o (.lst xs))
def Qfo{P:Program}{w:World}{K:W.Frag}{mg mb:Str->Option Value}{CX:CXT}{k:Nat}{fa a:Addr}{fd:FuncData}{x:Str}{sp:Sp}{s₁:Shared}{vs:List Value}{ns:List Int}
  (KX:K.In s₁.heap) (hns:s₁.heap.Ns mainGlobals mg) (hb:s₁.heap.Ns builtinsNs mb) (hbb:∀x:Str,x≠"__name__"->mb x=bootBuiltins x) (hlim:s₁.heap.NoLimit) (hg:s₁.gens=#[])
  (ha:s₁.heap.get? a=some {cls:=.type "list",data:=.seq vs.toArray}) (hi:IntsAre vs ns) (hl:ns.length<=sizeLine) (hr:Room k callerA)
  (F:∀base:Heap,K.In base->base.Ns mainGlobals mg->FnOk P w K mg base CX k fa fd [x] sp) (hbind:∀(s:Shared) (u:Value),BindsTo s fd ⟨[u],[]⟩ [(x,u)])
  (hsp:∀H:Hp,QmC H->SqL K H a (ns.map V.int)->sp [.ref a] H (λv y=>v=.bl true) λy y y=>False)
  (hCX:∀H e s',CX [] H s₁ (λy y y=>False) e s'->False):
  codeAny (model P w) callerA (.call (.ref fa) ⟨[.ref a],[]⟩) (λr s'=>r=.ok (.ret (.bool true))/\OldK s₁.heap s'.heap/\s'.os=s₁.os/\AllBare s'.gens) s₁:=by
 have rv:=Qag hi;have lenV:=hi.length
 have core:∀H:Hp,QmC H->SqL K H a (ns.map V.int)->HOk P w H s₁.heap->(∀b,H b≠none->b=a)->(H a≠none->K.lookup a=none) ->
   codeAny (model P w) callerA (.call (.ref fa) ⟨[.ref a],[]⟩) (λr s'=>r=.ok (.ret (.bool true))/\OldK s₁.heap s'.heap/\s'.os=s₁.os/\AllBare s'.gens) s₁:=by
  intro H hO hS hok hA hK;have base_of:∀{b:Addr} {o:Obj},s₁.heap.get? b=some o->H b=none->(Qfu s₁.heap H).get? b=some o:=λe n=>Qft e n
  have noA:∀{b:Addr} {o:Obj} {es:Array DictEntry} {ep:Nat},s₁.heap.get? b=some o->o.data=.dict es ep->H b=none:=λ{b o es ep} e d=>by
   cases q:H b with
   |none=>rfl
   |some u=>
    have e':b=a:=hA b (by rw[q];simp)
    subst e';rw[ha]at e;cases e;have d':Data.seq vs.toArray _=Data.dict es ep:=d;cases d'
  have nsK:∀{b:Addr} {m:Str->Option Value},s₁.heap.Ns b m->(Qfu s₁.heap H).Ns b m:=λ{b m} ⟨o,es,ep,e,d,r⟩=>⟨o,es,ep,base_of e (noA e d),d,r⟩
  have hKb:K.In (Qfu s₁.heap H):=λb o e=>base_of (KX b o e) (by
   cases q:H b with
   |none=>rfl
   |some u=>
    have e':b=a:=hA b (by rw[q];simp)
    subst e'
    rw[hK (by rw[q];simp)]at e;cases e)
  have hM:Mod K mg (Qfu s₁.heap H):=⟨hKb,nsK hns,⟨mb,nsK hb,hbb⟩,let ⟨mc,h1,h2⟩:=hlim;⟨mc,nsK h1,h2⟩⟩
  have e0:Env0 P w K mg (Qfu s₁.heap H) callerA [] s₁ H:=⟨rfl,hM,λb o e=>QhV e,Ta (QdZ _ _),trivial,λb hb=>absurd (show b∈([]:List Addr)from hb) (by simp),hok,.of_eq hg⟩
  refine Tx ((F _ hKb (nsK hns)).run callerA [] s₁ H ⟨[.ref a],[]⟩ [.ref a] [.ref a] _ _ hr e0 (hbind s₁ (.ref a)) (.cons rfl .nil) (hsp H hO hS)) λr s' h=>?_
  cases r with
  |error e=>exact(hCX H e s' h).elim
  |ok fl=>
   cases fl with
   |next=>exact False.elim h
   |brk=>exact False.elim h
   |cont=>exact False.elim h
   |ret u=>
    obtain⟨v,H',os,bare,un,hok',r',q⟩:=h;have q':v=.bl true:=q;subst q';obtain rfl:u=Value.bool true:=r';refine⟨rfl,OldK.of_keep λb o e=>?_,os,bare⟩
    cases q:H b with
    |none=>exact un.keep b o e q (by intro z;exact absurd (show b∈([]:List Addr)from z) (by simp)) (by simp)
    |some u=>
     rcases hO b with z|⟨ob,xs,z⟩
     ·rw[q]at z;cases z
     ·have z2:=un.frzs b ob _ z;obtain⟨e1,_⟩:=hok b _ z;obtain⟨e2,_⟩:=hok' b _ z2;rw[e]at e1;cases e1;exact e2
 cases hk:K.lookup a with
 |some o=>
  have e:=KX a o hk;rw[ha]at e;cases e
  refine core (λy=>none) (λy=>.inl rfl) (.inr ⟨_,vs.toArray,_,hk,rfl,rfl,rfl,by rw[Xq,lenV];exact hl,by simpa using rv⟩) (λb u z=>by have z':(none:Option HO)=some u:=z;cases z') (λb z=>absurd rfl z) λz=>absurd rfl z
 |none=>
  refine core (λb=>if b=a then some (.frz {cls:=.type "list",data:=.seq vs.toArray} (.lst (ns.map V.int)))else none) (λb=>?_) (.inl (.inr ⟨{cls:=.type "list",data:=.seq vs.toArray},if_pos rfl⟩)) (λb u z=>?_) (λb z=>?_) λy=>hk
  ·by_cases hb:b=a
   ·exact .inr ⟨_,_,if_pos hb⟩
   ·exact .inl (if_neg hb)
  ·by_cases hb:b=a
   ·have z':=(if_pos hb).symm.trans z;cases z';subst hb
    exact⟨ha,by rw[Xz];exact hl,vs,_,rv,ha⟩
   ·have z':=(if_neg hb).symm.trans z;cases z'
  ·by_cases hb:b=a
   ·exact hb
   ·exact absurd (if_neg hb) z
end
section
noncomputable abbrev KOf{K:W.Frag}{h:Heap}(_:K.In h):W.Frag:=K
def walk_of{l:W.OpenLaw}{n k:Nat}{q:Program}{loose:List Str}{XP:(Str->Option Value)->Heap->Prop}{YP:World->Heap->Prop}{d:DefRec}{K:Params->W.Frag}{CX:World->CXT}{sp:World->Sp}{x:Str}
  (hn:l.most=some n) (hn2:n<=sizeLine) (hdf:d.params.defaults=[]) (hr:Room k callerA)
  (hY:∀(w:World) (h:Heap),YP w h->(K w.params).In h)
  (F:∀(w:World) (mg:Str->Option Value) (fa:Addr) (h:Heap),(K w.params).In h->h.Ns mainGlobals mg->mg d.name=some (.ref fa) ->
   ∃fd:FuncData,(∀(s:Shared) (u:Value),BindsTo s fd ⟨[u],[]⟩ [(x,u)]) /\
    ∀base:Heap,(K w.params).In base->base.Ns mainGlobals mg->FnOk l.prog w (K w.params) mg base (CX w) k fa fd [x] (sp w))
  (hsp:∀(w:World) (H:Hp) (a:Addr) (ns:List Int),ns.length<=n->QmC H->SqL (K w.params) H a (ns.map V.int)->sp w [.ref a] H (λv z=>v=.bl true) λz z z=>False)
  (hCX:∀(w:World) (H:Hp) (s:Shared) (e:Value) (s':Shared),CX w [] H s (λz z z=>False) e s'->False):
  W.WalkO q loose XP YP l.row.toRowW d [] (λf vs=>PySem.call f vs):=by
 refine Att.attach_call hn hdf λw s₀ s₁ mg mb fa o pm cd doc a vs ns G Yyy ho hd hcd hmg hobj hints hlen hg=>?_;have KX:=hY w _ Yyy;obtain⟨fd,hb,hF⟩:=F w mg fa _ KX G.T.g hmg;exact Qfo KX G.T.g G.T.b G.T.builtins G.T.nolimit hg hobj hints (X3 hlen hn2) hr hF hb (λH hO hS=>hsp w H a ns hlen hO hS) λH e s'=>hCX w H s₁ e s'
end
section
abbrev CX0:CXT:=λz z z z z z=>False
abbrev E0:XK:=λz z z=>False
def QdA{X:Cx}:Jb CX0 X E0:=λz z z z z z z h=>h.elim
def Qn6{A:Around}{k:Nat}(hr:Room k A):A.units+1<cLine:=Nat.lt_of_le_of_lt (Nat.add_le_add_left (by decide:1<=64) _) hr.units
section
variable {κ:Type}[DecidableEq κ]
end
end
end L2
namespace Iv
open PySem
noncomputable def QnY(sep:List Nat):List (List Nat)->List Nat
 |[]=>[]
 |[x]=>x
 |x::y::r=>x++sep++QnY sep (y::r)
noncomputable def QfT(c:Nat):List Nat->List (List Nat)
 |[]=>[[]]
 |a::r=>if a=c then []::QfT c r else match QfT c r with
  |[]=>[[a]]
  |p::ps=>(a::p)::ps
end Iv
namespace L2
open PySem PySem.Spec PyProof.Rows Builtin Builtin.Str
section
variable {X:Cx}
def J0:CallR X (.type "int") (λxs H Q=>∃x,xs=[.str x]/\NumText.AllDigits x.cps.toList/\x.cps.toList≠[]/\x.length<=640/\Q (.int ((NumText.digitsVal x.cps.toList:Nat): Int)) H):= by
 intro pins s Y H xs us Q I r h;obtain⟨x,rfl,h1,h2,h3,q⟩:=h;obtain⟨u,rfl,t,rfl⟩:=Je r
 exact W.KIN.call_text (intText_digits h1 h2 (by omega)) h3 ⟨.int _,H,I.tok _,⟨_,rfl⟩,q⟩
end
end L2
namespace L2
open PySem PySem.Spec PyProof.Rows
section
variable {X:Cx}
theorem Qb1:∀{ns:List Int} {us:List Value},Vals (ns.map V.int) us->∀(i:Nat) v,us[i]?=some v->∃t,v=.int (ns.getD i 0) t
 |[],us,r,i,v,e=>by rw[V1]at r;cases r;simp at e
 |n::ns,us,r,i,v,e=>by
  rw[X1]at r
  cases r with
  |cons h t=>
   obtain⟨k,rfl⟩:=h
   cases i with
   |zero=>simp at e;exact⟨k,e.symm⟩
   |succ i=>simpa using Qb1 t i v (by simpa using e)
def Qbb:∀(ns:List Int),preSum (λi=>ns.getD i 0) ns.length=ns.sum:=by
 have go:∀(k:Nat) (ns:List Int),preSum (λi=>ns.getD i 0) k=(ns.take k).sum:=by
  intro k
  induction k with
  |zero=>intro ns;simp[preSum]
  |succ k ih=>
   intro ns;rw[show preSum (λi=>ns.getD i 0) (k+1)=preSum (λi=>ns.getD i 0) k+ns.getD k 0 from rfl,ih,Wl,W4]
   cases e:ns[k]? with
   |none=>simp[List.getD,e]
   |some v=>simp[List.getD,e]
 intro ns;rw[go,X9 (Xh _)]
def Qed(hc:X.calm=true): CallR X (.builtin "sum") (λxs H Q=>∃(a:Addr) (ns:List Int),xs=[.ref a]/\SqL X.K H a (ns.map V.int)/\Q (.int ns.sum) H):= by
 intro pins s Y H xs us Q I r h;obtain⟨a,ns,rfl,hq,q⟩:=h;obtain⟨u,rfl,rx⟩:=Je r;cases rx;obtain⟨its,rr,pl,hz⟩:=I.list hq;have hl:=pl.isList
 have hlt:a<s.heap.objs.size:=by obtain⟨_,e,_⟩:=hl;exact Xo e
 have hlen:=rr.length;rw[Xz]at hlen;refine call_sum_walkG (wpAny_pyIter_list hl ?_)
 refine⟨s.heap.objs.size,[s.heap.objs.size,a],[s.heap.objs.size],its.toArray.size,_,_,λi=>ns.getD i 0,rfl,Walks.list (A:=X.A.in1) (I.ok.hd hc) _ a (X0 hlt) its.toArray,
  ⟨⟨_,X2 _ rfl,rfl,rfl⟩,hl.push _⟩,λb hb=>?_,λi v hP=>Qb1 rr i v (by simpa using hP),λh' tk t' hk=>?_⟩
 ·have sz:(s.heap.push {cls:=.type "list_iterator",data:=.fields #[.ref a,.int 0 0]}).objs.size=s.heap.objs.size+1:=Ug ..
  rcases Xd.mp hb with rfl|hb
  ·show _<(s.heap.push _).objs.size;rw[Ug];exact Vn _
  ·obtain rfl:=Wh.mp hb;show _<(s.heap.push _).objs.size;rw[Ug];exact Nat.lt_succ_of_lt hlt
 ·have e:preSum (λi=>ns.getD i 0) its.toArray.size=ns.sum:=by
   rw[Xq,<-hlen];exact Qbb ns
  rw[e];exact⟨.int _,H,I.kept (t':=tk) (LSm.kept_iter hk),⟨_,rfl⟩,q⟩
end
end L2
namespace L2
open PySem PySem.Spec PySem.W PyProof.Rows
section
noncomputable def QoY{α:Type}(lt:Nat->Nat->Bool):KasT α->α
 |.ret a=>a
 |.ask i j k=>QoY lt (k (lt i j))
noncomputable def Qo8:List Int->List Int->Bool
 |[],[]=>false
 |[],_::_=>true
 |_::_,[]=>false
 |x::xs,y::ys=>if x=y then Qo8 xs ys else decide (x<y)
noncomputable def ltK(ks:List (List Int))(i j:Nat):Bool:=Qo8 (ks.getD i []) (ks.getD j [])
noncomputable def permK(ks:List (List Int))(n:Nat):List Nat:=if n<2 then List.range n else(QoY (ltK ks) (kas_sort n)).toList
end
section
def Zg:entryFor table "dict.update.loop"=some Builtin.«dict.update.loop»:=entryFor_of_tree (by kernel_rfl)
def QM:plainId "dict.update.loop"=true:=by decide +kernel
def Jf:typeLookup (.type "list") "keys"=pure none:=am_miss_of_fast (by kernel_rfl)
section
variable {prog:Program}{w:World}{A:Around}{s:Shared}{R:Result->Shared->Prop}{E:Value->Shared->Prop}
def Yl{a:Addr}{o:Obj}{xs:Array Value}{k:Nat}{Q:Option Value->Shared->Prop}
  (hx:s.heap.get? a=some o) (hc:o.cls=.type "list") (hdat:o.data=.seq xs k) (hd:o.dict=none) (hA:A.handled=none)
  (h:∀h' tk,(∀b o,s.heap.get? b=some o->h'.get? b=some o)->Q none {s with heap:=h',toks:=tk}):
  wpAny (model prog w) A (getAttr? (.ref a) "keys") Q E s:=by
 obtain⟨c,dct,dat,sl⟩:=o;simp only at hc hdat hd;subst hc hdat hd;obtain⟨hp,g,d,tk,os⟩:=s;have hT:∀tk',(⟨hp,g,d,tk',os⟩:Shared).TypeIs (.ref a) "list":=λz=>⟨_,hx,rfl⟩;have f1:=sub_AttributeError;have f3:=Tc.lookup;have f4:=Tc.bind (.ref a);have f5:=am_list_getattr_none;unfold getAttr? getAttrBy? getAttrBy
 repeat (any_goals (first|assumption|exact hT _|((with_reducible show wpAny _ _ (call (Value.builtin "list.__getattribute__") _ _) _ _ _);refine U1 Tc (hT _) am_entry_list_getattribute (F.args_list_getattribute_2 _ _) (meets_getattribute_miss_list a xs k sl "keys" _ Jf (by decide) (by size_fits)) ⟨hx,hA,λh' tk' e hx'=>?_⟩)|wp_step))
 obtain⟨t',u',he⟩:=hx'.there;show wpAny _ _ (getattributeRaised _ _ _ _ _ _ _) _ _ _;unfold getattributeRaised
 repeat (any_goals (first|assumption|wp_step))
 exact h _ _ hx'.keeps
def Qcw{D:Nat->Heap->Prop}{d it l:Addr}{items:Array Value}(n1:d≠it)(n2:d≠l)(n3:it≠l)(hh:A.in1.handled=none)
  (keep:∀i h h',D i h->(∀b o,b≠it->h.get? b=some o->h'.get? b=some o)->D i h')
  (step:∀(i:Nat) u (s:Shared),items[i]?=some u->D i s.heap->∃t key v o n,u=.ref t/\s.heap.get? t=some o/\o.cls=.type "tuple"/\o.data=.seq #[key,v] n /\
   ∀(E:Value->Shared->Prop) (Q:Unit->Shared->Prop),(∀h' tk,D (i+1) h'->Heap.SameBut d s.heap h'->Q () {s with heap:=h',toks:=tk})->wpAny (model prog w) A.in1 (dictSet d key v) Q E s):
  ∀(m i:Nat) (s:Shared),i+m=items.size->s.heap.IsListIter it l i->s.heap.IsList l items->D i s.heap ->
  (∀s',D items.size s'.heap->(∀b o,b≠d->b≠it->s.heap.get? b=some o->s'.heap.get? b=some o)->(∃h' c,s'={s with heap:=h',toks:=c})->R (.ok (.ret .none)) s') ->
  codeAny (model prog w) A (.builtin "dict.update.loop" ⟨[.ref d,.ref it,rawInt i,.none],[]⟩) R s:=by
 intro m
 induction m with
 |zero=>
  intro i s e hi hl hd hR;refine U8 Zg ?_;rw[Ud QM _];show wpAny _ A.in1 (pyNext (.ref it) >>= _) _ _ s
  refine Xg (wpAny_pyNext_list_end hh hi hl (by simp;omega) λh' hs'=>?_)
  show wpAny _ A.in1 (Builtin.Dict.addKeywords d [] >>= _) _ _ _;refine Xg (Xu (Xu (hR _ ?_ (λb o b1 b2 e'=>?_) ⟨_,_,rfl⟩)))
  ·have:i=items.size:=by omega
   subst this;exact keep _ _ _ hd λb o nb e=>hs' b o nb e
  ·exact hs' b o b2 e'
 |succ m ih=>
  intro i s e hi hl hd hR
  have lt:i<items.size:=by omega
  obtain⟨u,eu⟩:∃u,items[i]?=some u:=⟨items[i],by simp[lt]⟩
  refine U8 Zg ?_;rw[Ud QM _];show wpAny _ A.in1 (pyNext (.ref it) >>= _) _ _ s;refine Xg (wpAny_pyNext_list_item hi hl eu λh1 hi1 hs1=>?_);have g1:∀b o,b≠it->s.heap.get? b=some o->h1.get? b=some o:=λb o nb e=>(hs1.2 b nb).trans e;have hd1:D i h1:=keep _ _ _ hd g1;obtain⟨t,key,v,o,n,rfl,ho1,hc,hdat,st⟩:=step i u {s with heap:=h1} eu hd1;refine Xg (Um ?_);refine Xg (wpAny_tryCatch ?_);unfold Builtin.Dict.pairItems;refine Xg (wpAny_typeOf_ref ho1 ?_);rw[hc]
  show wpAny _ _ (do return ((<-seqItems? (.ref t)).getD #[]).toList) _ _ _
  refine Xg (wpAny_seqItems ho1 hdat (Xu ?_));show wpAny _ _ (holding [key,v] (dictSet d key v)) _ _ _;refine Um (st _ _ λh2 tk hd2 hs2=>?_);have g2:∀b o,b≠d->h1.get? b=some o->h2.get? b=some o:=λb o nb e=>(hs2.2 b nb).trans e;refine Xu ⟨Tp QM _,?_⟩
  refine ih (i+1) _ (by omega) ?_ ?_ hd2 λs' hd' hk' hs'=>?_
  ·obtain⟨oi,hoi,rest⟩:=hi1;exact⟨oi,g2 it oi (X8 n1) hoi,rest⟩
  ·obtain⟨ol,hol,rest⟩:=hl;exact⟨ol,g2 l ol (X8 n2) (g1 l ol (X8 n3) hol),rest⟩
  ·exact hR s' hd' (λb o b1 b2 e'=>hk' b o b1 b2 (g2 b o b1 (g1 b o b2 e'))) (by obtain⟨h3,c3,e3⟩:=hs';exact⟨h3,c3,e3⟩)
def Jk{D:Nat->Heap->Prop}{l:Addr}{ol:Obj}{items:Array Value}{nl:Nat}{Q:Value->Shared->Prop}(hA:A.handled=none)
  (hl:s.heap.get? l=some ol) (hc:ol.cls=.type "list") (hdat:ol.data=.seq items nl) (hdd:ol.dict=none)
  (start:∀h',(∀b o,s.heap.get? b=some o->h'.get? b=some o)->h'.get? s.heap.objs.size=some {cls:=.type "dict",data:=.dict #[]}->D 0 h')
  (keep:∀i h h' it,s.heap.objs.size<it->D i h->(∀b o,b≠it->h.get? b=some o->h'.get? b=some o)->D i h')
  (step:∀(i:Nat) u (s':Shared),items[i]?=some u->D i s'.heap->∃t key v o n,u=.ref t/\s'.heap.get? t=some o/\o.cls=.type "tuple"/\o.data=.seq #[key,v] n /\
   ∀(E:Value->Shared->Prop) (Q:Unit->Shared->Prop),(∀h' tk,D (i+1) h'->Heap.SameBut s.heap.objs.size s'.heap h'->Q () {s' with heap:=h',toks:=tk})->wpAny (model prog w) A.in1.in1 (dictSet s.heap.objs.size key v) Q E s')
  (h:∀h' tk,D items.size h'->(∀b o,s.heap.get? b=some o->h'.get? b=some o)->Q (.ref s.heap.objs.size) {s with heap:=h',toks:=tk}):
  wpAny (model prog w) A (call (.type "dict") [.ref l]) Q E s:=by
 have hlt:l<s.heap.objs.size:=Xo hl;refine callType_codes (Q₁:=λobj s₁=>obj=.ref s.heap.objs.size/\s₁={s with heap:=s.heap.push {cls:=.type "dict",data:=.dict #[]} }) F.kt_called_dict (F.kt_typeCall_dict_1 _) F.entry_dict_init (kt_code_dict_new _ ⟨rfl,rfl⟩) ?_;rintro obj s₁ ⟨rfl,rfl⟩;have hnew:(s.heap.push {cls:=.type "dict",data:=.dict #[]}).get? s.heap.objs.size=some {cls:=.type "dict",data:=.dict #[]}:=X2 _ rfl;have hT:Shared.TypeIs {s with heap:=s.heap.push {cls:=.type "dict",data:=.dict #[]} } (.ref s.heap.objs.size) "dict":=⟨_,hnew,rfl⟩;refine⟨hT,F.args_dict_init_2 _ _,?_⟩;unfold Builtin.«dict.__init__»;refine Xg ?_;unfold Builtin.Dict.selfAndRest;refine Xg (wpAny_notOrdered_dict hT ?_);show wpAny _ _ (pure (s.heap.objs.size,[Value.ref l])) _ _ _;refine Xu ?_;show wpAny _ _ (Builtin.Dict.updateFrom "dict.__init__" s.heap.objs.size (.ref l) [] .none) _ _ _;unfold Builtin.Dict.updateFrom;have hl1:(s.heap.push {cls:=.type "dict",data:=.dict #[]}).get? l=some ol:=Xj _ hl;refine Xg (wpAny_typeOf_ref hl1 ?_);rw[hc]
 rw[if_pos (by decide)]
 refine Xg (Yl (A:=A.in1.in1) hl1 hc hdat hdd hA λh2 tk2 k2=>?_);rw[if_pos (show(none:Option Value).isNone=true from rfl)];refine Xg (wpAny_rule ?_);have hl2:h2.IsList l items:=⟨ol,k2 _ _ hl1,hc,nl,hdat⟩;refine Xg (wpAny_pyIter_list (s:=⟨h2,_,_,_,_⟩) hl2 ?_);have g3:∀b o,s.heap.get? b=some o->(h2.push {cls:=.type "list_iterator",data:=.fields #[.ref l,.int 0 0]}).get? b=some o:=λb o e=>Xj _ (k2 _ _ (Xj _ e));have hd3:(h2.push {cls:=.type "list_iterator",data:=.fields #[.ref l,.int 0 0]}).get? s.heap.objs.size=some {cls:=.type "dict",data:=.dict #[]}:=Xj _ (k2 _ _ hnew);have lt2:s.heap.objs.size<h2.objs.size:=Xo (k2 _ _ hnew);refine Xu ⟨Tp QM _,?_⟩
 refine Qcw (D:=D) (items:=items) (A:=A.in1) (l:=l) (X0 lt2) (Nat.ne_of_gt hlt) (Nat.ne_of_gt (Nat.lt_trans hlt lt2)) (by simpa using hA)
  (λi h h'=>keep i h h' _ lt2) step items.size 0 _ (by omega) ⟨_,X2 _ rfl,rfl,rfl⟩ ?_ (start _ g3 hd3) λs' hd' hk' hs'=>?_
 ·obtain⟨o4,ho4,rest⟩:=hl2;exact⟨o4,Xj _ ho4,rest⟩
 ·obtain⟨h4,c4,rfl⟩:=hs';exact⟨rfl,h h4 c4 hd' λb o e=>hk' b o (X0 (Xo e)) (X0 (Nat.lt_trans (Xo e) lt2)) (g3 b o e)⟩
end
def Qo7{α β:Type}{R:α->β->Prop}{l:List α}{m:List β}{i:Nat}{a:α}(h:Paired R l m)(e:l[i]?=some a):∃b,m[i]?=some b/\R a b:=Q8 h e
def Qkb:List V->Hp->VK->Prop:=λxs H Q=>∃a vs kvs,xs=[.ref a]/\H a=some (.lst vs) /\
 Paired (λ(v:V) (p:Key×V)=>∃t,v=.ref t/\H t=some (.tup [kV p.1,p.2])) vs kvs/\∀d,H d=none->Q (.ref d) (upd H d (.dK (Yh [] kvs)))
def Jr(kvs acc:List (Key×V)):(Yh acc kvs).length<=acc.length+kvs.length:=by
 unfold Yh
 induction kvs generalizing acc with
 |nil=>simp
 |cons p r ih=>
  have h1:=ih (Qae acc p.1 p.2);have h2:=Z5 acc p.1 p.2;simp only[T0,Wj];omega
def Qa3{kvs:List (Key×V)}{i:Nat}{p:Key×V}(h:kvs[i]?=some p):Yh [] (kvs.take (i+1))=Qae (Yh [] (kvs.take i)) p.1 p.2:=by
 unfold Yh;rw[Wl,h];simp
def QcJ{X:Cx}(hh:X.calm=true):CallR X (.type "dict") Qkb:=by
 intro pins s Y H xs us Q I r h;obtain⟨a,vs,kvs,rfl,ha,pr,q⟩:=h;obtain⟨u,rfl,ru⟩:=Je r;cases ru;obtain⟨z,its,n,rv,ho⟩:=(show ObjOk X.prog X.w H s.heap a (.lst vs)from I.hok a _ ha);have hnd:H s.heap.objs.size=none:=I.hok.fresh (Xh _);have lv:vs.length=kvs.length:=W7 pr;have li:vs.length=its.length:=rv.length
 refine Jk (D:=λi h'=>∃ms,KV (Yh [] (kvs.take i)) ms/\h'.DictOf (QK X.prog X.w) s.heap.objs.size ms/\∀b o,H b≠none->s.heap.get? b=some o->h'.get? b=some o)
  (I.ok.hd hh) ho rfl rfl rfl (λh' k hd=>?_) (λi h1 h' it lt ⟨ms,kt,dd,k⟩ e=>?_) (λi u s' eu ⟨ms,kt,dd,k⟩=>?_) (λh' tk ⟨ms,kt,dd,_⟩ k=>?_)
 ·exact⟨[],.nil,⟨_,#[],0,hd,⟨rfl,rfl,rfl⟩,rfl,λe m=>by simp at m,.nil,List.nodup_nil⟩,λb o y e=>k b o e⟩
 ·obtain⟨o,es,ep,d1,rest⟩:=dd;exact⟨ms,kt,⟨o,es,ep,e _ o (X0 lt) d1,rest⟩,λb o nb e'=>e b o (X0 (Nat.lt_trans (Xo e') lt)) (k b o nb e')⟩
 ·have eu':its[i]?=some u:=by simpa using eu
  have lt:i<its.length:=(Xa.mp eu').1
  obtain⟨v,ev⟩:∃v,vs[i]?=some v:=⟨vs[i],by simp[li,lt]⟩
  obtain⟨u',eu2,rvu⟩:=rv.get ev;rw[eu']at eu2;cases eu2;obtain⟨p,ep,t,rfl,ht⟩:=Qo7 pr ev;cases(show u=Value.ref t from rvu);obtain⟨_,its2,r2,o,o1,o2,n2,o3⟩:=(show ObjOk X.prog X.w H s.heap t (.tup [kV p.1,p.2])from I.hok t _ ht);obtain⟨x1,x2,rfl,rx1,rx2⟩:=Qcf r2
  refine⟨t,x1,x2,o,n2,rfl,k t o (by rw[ht];exact λz=>nomatch z) o1,o2,o3,λE Q hQ=>?_⟩
  have hsz:ms.length<=sizeLine:=by
   rw[<-KV.length kt];have h1:=Jr (kvs.take i) []
   have h2:(kvs.take i).length<=kvs.length:=by simp[X7];omega
   simp only[V0]at h1;omega
  refine wpAny_dictSet_pairs (hsz:=hsz) (Jh rx1) dd λh' dd' hs=>hQ h' _ ⟨_,?_,dd',λb o' nb e=>(hs.2 b (λz=>?_)).trans (k b o' nb e)⟩ hs
  ·rw[Qa3 ep];exact kt.put p.1 rx2
  ·subst z;exact nb hnd
 ·have hz:its.toArray.size=kvs.length:=by simp;omega
  rw[hz,Uh]at kt;have hl:=Jr kvs [];simp only[V0]at hl
  exact⟨.ref s.heap.objs.size,_,I.laid (a:=s.heap.objs.size) (o:=.dK (Yh [] kvs)) (t':=tk) k (Xh _) ⟨by omega,Wu.mpr (X8 (X0 I.big)),ms,kt,dd⟩,rfl,q _ hnd⟩
end
end L2
namespace L2
open PySem
variable {env:Env}{scope:Scope}
noncomputable def QcI(cells:List (Str×Addr)):List (Str×NameKind)->List (Str×Addr)->List (Str×Addr)
 |[],cs=>cs
 | (n,k)::r,cs=>QcI cells r (if(k==.free)=true then(match cells.lookup n with|some c=>(n,c)::cs|none=>cs)else cs)
def JD(h:∀y∈scope.names,y.2=.free->∃c,env.cells.lookup y.1=some c):closureFor scope env=pure (QcI env.cells scope.names []):=by
 have all:∀(l:List (Str×NameKind)) (cs:List (Str×Addr)),(∀y∈l,y.2=.free->∃c,env.cells.lookup y.1=some c) ->
   (forIn l cs λ(x:Str×NameKind) (r:List (Str×Addr))=>match x with|(name,kind)=>if(kind==NameKind.free)=true then(do let y <-cellOf env name;pure (ForInStep.yield ((name,y)::r)))else(pure (ForInStep.yield r):Sem _))=(pure (QcI env.cells l cs):Sem _):=by
  intro l
  induction l with
  |nil=>intro cs _;simp only[List.forIn_nil];rfl
  |cons p r ih=>
   obtain⟨n,k⟩:=p;intro cs hy;rw[List.forIn_cons];by_cases hk:(k==NameKind.free)=true
   ·obtain⟨c,hc⟩:=hy (n,k) Xm (by simpa using hk)
    have hc:env.cells.lookup n=some c:=hc
    have e:cellOf env n=pure c:=by unfold cellOf;rw[hc]
    simp only[hk,Wo,e,pure_bind];rw[ih _ λy m=>hy y (Xi _ m)];simp only[QcI,hk,Wo,hc]
   ·simp only[hk,W8,V7,pure_bind];rw[ih _ λy m=>hy y (Xi _ m)];simp only[QcI,hk,W8,V7]
 have:=all scope.names [] h;unfold closureFor;simp only[bind_pure_comp]at this ⊢;rw[this];rfl
theorem QaN{cells:List (Str×Addr)}{x:Str}{c:Addr}:∀{l:List (Str×NameKind)} {cs:List (Str×Addr)},(QcI cells l cs).lookup x=some c->cs.lookup x=some c\/cells.lookup x=some c
 |[],_,h=>.inl h
 | (n,k)::r,cs,h=>by
  have h:(QcI cells r (if(k==NameKind.free)=true then(match cells.lookup n with|some c=>(n,c)::cs|none=>cs)else cs)).lookup x=some c:=h
  rcases QaN h with h1|h1
  ·clear h;by_cases hk:(k==NameKind.free)=true
   ·rw[if_pos hk]at h1
    cases hc:cells.lookup n with
    |none=>rw[hc]at h1;exact .inl h1
    |some c'=>
     rw[hc]at h1;have h2:List.lookup x ((n,c')::cs)=some c:=h1;clear h1;rw[Vo]at h2
     cases hx:x==n with
     |true=>
      rw[hx]at h2;have e:=eq_of_beq hx;subst e;exact .inr (hc.trans h2)
     |false=>rw[hx]at h2;exact .inl h2
   ·rw[if_neg hk]at h1;exact .inl h1
  ·exact .inr h1
theorem JX{cells:List (Str×Addr)}{x:Str}{c:Addr}(hc:cells.lookup x=some c):∀{l:List (Str×NameKind)} {cs:List (Str×Addr)},((x,NameKind.free)∈l\/cs.lookup x=some c)->(QcI cells l cs).lookup x=some c
 |[],_,h=>by
  rcases h with h|h
  ·cases h
  ·exact h
 | (n,k)::r,cs,h=>by
  show(QcI cells r (if(k==NameKind.free)=true then(match cells.lookup n with|some c=>(n,c)::cs|none=>cs)else cs)).lookup x=some c
  refine JX (l:=r) hc ?_
  rcases h with h|h
  ·rcases Xd.mp h with e|h
   ·cases e;refine .inr ?_
    rw[if_pos (by decide),hc]
    simp[Vo]
   ·exact .inl h
  ·refine .inr ?_;split
   ·split
    ·rename_i c' h';rw[Vo];split
     ·rename_i e;have e:=eq_of_beq e;subst e;exact h'.symm.trans hc
     ·exact h
    ·exact h
   ·exact h
noncomputable def mang(x:Str):Str:=⟨x.cps.push 33⟩
noncomputable def hideN(xs N:List Str):List Str:=N.map λy=>if xs.contains y then mang y else y
def Yj{xs N:List Str}:(hideN xs N).length=N.length:=by unfold hideN;rw[Xz]
def Qfs{xs N:List Str}{i:Nat}{y:Str}(h:(hideN xs N)[i]?=some y):∃z,N[i]?=some z/\((z∈xs/\y=mang z)\/(z∉xs/\y=z)):=by
 unfold hideN at h;rw[W6,Xb]at h;obtain⟨z,h1,h2⟩:=h;refine⟨z,h1,?_⟩;by_cases c:xs.contains z=true
 ·rw[if_pos c]at h2;exact .inl ⟨Uy.mp c,h2.symm⟩
 ·rw[if_neg c]at h2;exact .inr ⟨λm=>c (Uy.mpr m),h2.symm⟩
noncomputable def relN(outer:List (Str×NameKind))(names:List (Str×NameKind)):List (Str×NameKind):=names.map λ(n,k)=>if(k==.free&&outer.lookup n==some .cell)=true then(n,.cell)else(n,k)
def Zd(h:env.scope.kind=.function):(relabel scope env).names=relN env.scope.names scope.names:=by
 unfold relabel relN;refine U4 λp z=>?_;obtain⟨n,k⟩:=p;simp only[h,Ui,Bool.and_true];rfl
theorem ZK{outer:List (Str×NameKind)}{x:Str}:∀{l:List (Str×NameKind)},(relN outer l).lookup x=(l.lookup x).map λk=>if(k==.free&&outer.lookup x==some .cell)=true then .cell else k
 |[]=>rfl
 | (n,k)::r=>by
  have ih:=@ZK outer x r;show List.lookup x ((if(k==NameKind.free&&outer.lookup n==some .cell)=true then(n,NameKind.cell)else(n,k))::relN outer r)=_;rw[Vo (as:=r)]
  cases hx:x==n with
  |true=>
   have e:=eq_of_beq hx;subst e;simp only[Tt,Ub];by_cases z:(k==NameKind.free&&outer.lookup x==some .cell)=true
   ·rw[if_pos z,if_pos z,Tt]
   ·rw[if_neg z,if_neg z,Tt]
  |false=>
   split
   ·simp[Vo,hx,ih]
   ·simp[Vo,hx,ih]
def ZU{κ β:Type}[BEq κ][LawfulBEq κ]{l:List (κ×β)}{k:κ}{b:β}(h:l.lookup k=some b):(k,b)∈l:=by
 induction l with
 |nil=>simp at h
 |cons p r ih=>
  obtain⟨a,c⟩:=p;rw[Vo]at h;split at h
  ·rename_i e;have e:=eq_of_beq e;subst e;cases h;exact Xm
  ·exact Xi _ (ih h)
section
variable {prog:Program}{w:World}{A:Around}{R:Result->Shared->Prop}{s:Shared}
def Qex{E:Value->Shared->Prop}{tl:Option Expr}{Q:Bool->Shared->Prop}(h:match tl with|none=>Q true s|some c=>wpAny (model prog w) A (isTrue c env (eval c env)) Q E s):
  wpAny (model prog w) A (forIn tl.toList true λc r=>if r=true then do let ok <-isTrue c env (eval c env);pure (ForInStep.yield ok)else pure (ForInStep.yield r)) Q E s:=by
 cases tl with
 |none=>exact wpAny_tests_nil h
 |some c=>exact wpAny_tests_one h
def Qbt{elt target iter:Expr}{tl:Option Expr}{pos:Pos}{it acc:Value}(I:Nat->Shared->Prop)
  (turn:∀n s,I n s->wpAny (model prog w) A (pyNext it) (λr s₁=>match r with
   |none=>R (.ok .next) s₁
   |some v=>wpAny (model prog w) A (letOwnedTupleGo target it v) (λz s₁'=>wpAny (model prog w) A (assign target env v) (λz s₂=>
     wpAny (model prog w) A (forIn tl.toList true λc r=>if r=true then do let ok <-isTrue c env (eval c env);pure (ForInStep.yield ok)else pure (ForInStep.yield r)) (λok s₃=>if ok=true then
      wpAny (model prog w) A (eval elt env) (λx s₄=>
       wpAny (model prog w) A (call (.builtin "list.append") [acc,x]) (λz s₅=>∃m,m<n/\I m s₅) (notedBy (model prog w) A env λe s'=>R (.error e) s') s₄) (notedBy (model prog w) A env λe s'=>R (.error e) s') s₃
      else ∃m,m<n/\I m s₃) (notedBy (model prog w) A env λe s'=>R (.error e) s') s₂)
        (notedBy (model prog w) A env λe s'=>R (.error e) s') s₁') (notedBy (model prog w) A env λe s'=>R (.error e) s') s₁) (notedBy (model prog w) A env λe s'=>R (.error e) s') s)
  (n:Nat) (h:I n s):codeAny (model prog w) A (.compLoop (.ListComp elt [⟨target,iter,tl.toList,0⟩] scope pos) 0 it acc env) R s:=by
 refine codeAny_loop rfl I (λn s hI=>?_) n h
 show wpAny _ A ((compTurn (.ListComp elt [⟨target,iter,tl.toList,0⟩] scope pos) 0 it acc env).onRaise (λx=>do noteFrame x env;theTreesLotGoes x)) _ _ s
 refine wpAny_noted ?_;rw[compTurn_list];refine Xg (wpAny_standAt (Xg (W2 (turn n s hI) (λr s₁ h₁=>?_) λz z h'=>h')))
 cases r with
 |none=>exact Xu h₁
 |some v=>
  refine Xg (W2 h₁ (λz s₁' h₁'=>?_) λz z h'=>h');refine Xg (W2 h₁' (λz s₂ h₂=>Xg (W2 h₂ (λok s₃ h₃=>?_) λz z h'=>h')) λz z h'=>h')
  cases ok with
  |true=>
   rw[if_pos rfl]at h₃;exact Xg (Xg (W2 h₃ (λx s₄ h₄=>Xg (W2 h₄ (λz s₅ h₅=>Xu (Xu ⟨rfl,h₅⟩)) λz z h'=>h')) λz z h'=>h'))
  |false=>
   rw[if_neg Xs]at h₃;exact Xg (Xu (Xu ⟨rfl,h₃⟩))
end
end L2
namespace L2
open PySem PySem.Spec PySem.W PyProof.Rows
end L2
namespace L2
open PySem PySem.Spec PySem.W PyProof.Rows PySem.Calls PySem.Builtin PySem.Builtin.ObjectAttr PySem.Builtin.Getset_descriptor
def QoI(a C:Addr)(dd:Option Addr)(h:Heap):Prop:=∃o vs,h.get? a=some o/\o.cls=.ref C/\o.data=.fields vs/\o.dict=dd
noncomputable def QqB(a C:Addr)(dd:Option Addr):HO:=.ext (QoI a C dd)
end L2
namespace L2
open PySem PySem.Spec PySem.W PyProof.Rows
section
structure Cov(B:Heap)(H:Hp)(s:Shared)(l:List Env):Prop where
 trk:∀b u,H b=some u->∃o,B.get? b=some o
 old:∀b o,s.heap.get? b=some o->b∉frs l->∃o',B.get? b=some o'
def DictAt(h:Heap)(a:Addr)(dd:Option Addr):Prop:=∃o,h.get? a=some o/\o.dict=dd
noncomputable def CXw(P:Program)(w:World):CXT:=λouter H s E e s'=>∃a C H' B a0 dd,e=.ref a/\s'.os=s.os/\AllBare s'.gens/\Un (frs outer) [] H H' s.heap s'.heap/\HOk P w H' s'.heap /\
 Heap.FlyingW B outer a (.ref C) a0 s'.heap/\Cov B H' s outer/\H' a=none/\s.heap.get? a=none/\DictAt s'.heap a dd/\E (.ref C) dd H'
end
section
section
open Builtin Builtin.ObjectAttr
end
end
end L2
namespace L2
open PySem PySem.Spec PySem.W PyProof.Rows PySem.Calls PySem.Builtin PySem.Builtin.ObjectAttr
end L2
namespace L2
open PySem PySem.Spec PySem.W PyProof.Rows
end L2
namespace L2
open PySem PySem.Spec PySem.W PyProof.Rows PySem.Calls PySem.Builtin
end L2
namespace L2
open PySem PySem.Spec PySem.W PyProof.Rows
end L2
namespace L2
open PySem
open Sem (wp)
open AutoSeq1 (wpAny_loadPart')
variable {r:Addr}{a b c:Int}{n:Nat}{t u v:Tok}
section
variable {prog:Program}{w:World}{A:Around}{E:Value->Shared->Prop}{s:Shared}
def JW{Q:List Value->Shared->Prop}(hh:A.handled=none)(hr:IsRange s.heap r a b c t u v)(hsmall:Builtin.Range.small a b c=true)
  (hn:Builtin.Range.rangeSize a b c=n) (hlen:n<=2 ^ 24)
  (hQ:∀(h':Heap) (tk:Nat) (acc:Array Value),(∀b o,s.heap.get? b=some o->h'.get? b=some o)->ItemsOf (λi v=>∃t,v=.int (a+i*c) t) acc n->Q acc.toList {s with heap:=h',toks:=tk}):
  wpAny (model prog w) A (collect (.ref r)) Q E s:=by
 unfold collect;refine Xg (wpAny_runValue (U8 F.entry_proto_collect ?_));rw[Ud F.plain_proto_collect _];show wpAny _ A.in1 (newList [] >>= λl=>again (.builtin "list.__iadd__" ⟨[l,.ref r],[]⟩)) _ _ s;refine Xg (V3 ?_);refine Xu ⟨Tp F.plain_list_iadd _,U8 F.entry_list_iadd ?_⟩;rw[Ud F.plain_list_iadd _];show wpAny _ A.in1 (Builtin.List.listExtendWith (.ref s.heap.objs.size) (.ref r) (.ref s.heap.objs.size)) _ _ _;have hS:(s.heap.push {cls:=.type "list",data:=.seq ([]:List Value).toArray}).get? s.heap.objs.size=some {cls:=.type "list",data:=.seq #[] 0}:=X2 _ rfl;have hr':IsRange (s.heap.push {cls:=.type "list",data:=.seq ([]:List Value).toArray}) r a b c t u v:=Xj _ hr
 have fin':∀(s':Shared) (acc:Array Value) (c':Nat),s'.heap.get? s.heap.objs.size=some {cls:=.type "list",dict:=none,data:=.seq acc c',slots:=#[]}->Q acc.toList s'->wpAny (model prog w) A (match Value.ref s.heap.objs.size with
   |Value.ref a=>do
    match (<-load a).data with
     |Data.seq xs _=>pure xs.toList
     |_=>unsupported "internal:collect"
   |_=>unsupported "internal:collect") Q E s':=λs' acc c' hS' q=>by
  show wpAny _ A (load s.heap.objs.size >>= _) _ _ _;refine Xg (wpAny_load hS' ?_);exact Xu q
 refine W2 (wpAny_extend_range (A:=A) (R:=λr s'=>r=.ok (.ret (.ref s.heap.objs.size))/\∃acc c',s'.heap.get? s.heap.objs.size=some {cls:=.type "list",dict:=none,data:=.seq acc c',slots:=#[]}/\Q acc.toList s')
  (s:={s with heap:=s.heap.push {cls:=.type "list",data:=.seq ([]:List Value).toArray} }) hh hr' hsmall hn hlen _ _ 0 hS λh' tk acc c' kp hS' hacc=>
   ⟨rfl,acc,c',hS',hQ h' tk acc (λb o e=>kp b o (X0 (Xo e)) (Xj _ e)) hacc⟩) (λfin s' h=>?_) (λe s' h=>?_)
 ·cases fin with
  |done f=>
   obtain⟨e,acc,c',h1,h2⟩:=h;cases e;exact fin' s' acc c' h1 h2
  |again c'=>exact⟨h.1,Tx h.2 λr s'' hr=>by obtain⟨rfl,acc,c',h1,h2⟩:=hr;exact fin' s'' acc c' h1 h2⟩
 ·exact absurd h.1 (by simp)
def ZW{Q₁:Value->Shared->Prop}(hh:A.handled=none)(hr:IsRange s.heap r a b c t u v)(hsmall:Builtin.Range.small a b c=true)
  (hn:Builtin.Range.rangeSize a b c=n) (hlen:n<=2 ^ 24) (hsz:n<=sizeLine)
  (h:∀(h':Heap) (tk:Nat) (acc:Array Value),(∀b o,s.heap.get? b=some o->h'.get? b=some o)->ItemsOf (λi v=>∃t,v=.int (a+i*c) t) acc n->Q₁ (.ref h'.objs.size) {s with heap:=h'.push {cls:=.type "tuple",data:=.seq acc},toks:=tk}):
  codeAny (model prog w) A (.call (.builtin "tuple.__new__") ⟨[.type "tuple",.ref r],[]⟩) (wants Q₁ E) s:=by
 refine codeAny_of_tree ?_
 show wpAny _ A.in1 (do checkBuiltinCall "tuple.__new__" ⟨[.type "tuple",.ref r],[]⟩;again (.builtin "tuple.__new__" ⟨[.type "tuple",.ref r],[]⟩)) _ _ s
 refine Xg (wpAny_of_eq (F.newCall_tuple_1 _) (Xu ⟨Tp F.plain_tuple_new _,U8 F.entry_tuple_new ?_⟩));rw[Ud F.plain_tuple_new _];have hsub:=sub_tuple_self;have hinit:=init_tuple_lookup;have hmh:=madeHere_tuple;have hTI:s.TypeIs (.ref r) "range":=⟨_,hr,rfl⟩;have hh1:A.in1.handled=none:=hh
 wp_walk using wpAny_typeOf hTI,JW hh1 hr hsmall hn hlen
 intro h' tk acc kp hacc;show wpAny _ _ (Builtin.Tuple.tupleExact acc.toList.toArray >>= λv=>ret v) _ _ _;unfold Builtin.Tuple.tupleExact
 refine Xg (V3 ?_ (by show acc.toList.toArray.size<=sizeLine;simp only[Array.toArray_toList];rw[hacc.1];exact hsz))
 refine Xu ?_
 have e:acc.toList.toArray=acc:=by simp
 rw[e];exact h h' tk acc kp hacc
def YH{Q:Value->Shared->Prop}(hh:A.handled=none)(hr:IsRange s.heap r a b c t u v)(hsmall:Builtin.Range.small a b c=true)
  (hn:Builtin.Range.rangeSize a b c=n) (hlen:n<=2 ^ 24) (hsz:n<=sizeLine)
  (hQ:∀(h':Heap) (tk:Nat) (acc:Array Value),(∀b o,s.heap.get? b=some o->h'.get? b=some o)->ItemsOf (λi v=>∃t,v=.int (a+i*c) t) acc n->Q (.ref h'.objs.size) {s with heap:=h'.push {cls:=.type "tuple",data:=.seq acc},toks:=tk}):
  wpAny (model prog w) A (call (.type "tuple") [.ref r]) Q E s:=by
 refine callType_codes (Q₁:=λobj s₁=>s₁.TypeIs obj "tuple"/\Q obj s₁) F.called_tuple (F.typeCall_tuple_1 _) F.entry_object_init
  (ZW hh hr hsmall hn hlen hsz λh' tk acc kp hacc=>⟨⟨_,X2 _ rfl,rfl⟩,hQ h' tk acc kp hacc⟩) λobj s₁ h₁=>?_
 exact⟨h₁.1,F.args_object_init_2 obj _,object_init_meets F.called_tuple.init.lookup F.called_tuple.made (by decide) prog w A.in1 _ s₁ ⟨h₁.1,rfl,h₁.2⟩⟩
end
end L2
namespace L2
open PySem PySem.Spec PyProof.Rows
section
variable {a b c:Int}
section
variable {X:Cx}
def QpM(K:W.Frag)(te:TE):TE:=λY H Q=>te Y H λx H1=>∃a xs,x=.ref a/\SqL K H1 a xs/\∀p,H1 p=none->Q (.ref p) (upd H1 p (.lst xs.reverse))
noncomputable def Qer(a:Int)(n:Nat)(c:Int):List V:=(List.range n).map λi:Nat=>V.int (a+(i:Int)*c)
def QeZ{n:Nat}{acc:Array Value}(h:ItemsOf (λi v=>∃t,v=Value.int (a+i*c) t) acc n):Vals (Qer a n c) acc.toList:=by
 have all:∀(k:Nat) (l:List Value) (b:Nat),l.length=k->(∀j v,l[j]?=some v->∃t,v=Value.int (a+((b+j:Nat):Int)*c) t)->Vals ((List.range' b k).map λi:Nat=>V.int (a+(i:Int)*c)) l:=by
  intro k
  induction k with
  |zero=>
   intro l b hl _
   cases l with
   |nil=>exact .nil
   |cons _ _=>cases hl
  |succ k ih=>
   intro l b hl hv
   cases l with
   |nil=>cases hl
   |cons x r=>
    rw[List.range'_succ,X1]
    refine .cons ?_ (ih r (b+1) (by simpa using hl) λj v e=>?_)
    ·obtain⟨t,e⟩:=hv 0 x rfl
     exact⟨t,by simpa using e⟩
    ·obtain⟨t,e'⟩:=hv (j+1) v (by simpa using e)
     refine⟨t,?_⟩
     rw[e',show b+1+j=b+(j+1) by omega]
 unfold Qer;rw[List.range_eq_range']
 refine all n acc.toList 0 (by simpa using h.1) λj v e=>?_
 obtain⟨t,e'⟩:=h.2 j v (by simpa using e)
 exact⟨t,by simpa using e'⟩
def Qa7{n:Nat}:(Qer a n c).length=n:=by simp[Qer]
noncomputable def QaX(a b c:Int):Nat:=if c=1 then(b-a).toNat else(a-b).toNat
def Qhm(h:c=1\/c=-1):Builtin.Range.rangeSize a b c=(QaX a b c:Nat):=by
 unfold QaX
 rcases h with rfl|rfl
 ·rw[rangeSize_one,if_pos rfl];split<;>omega
 ·unfold Builtin.Range.rangeSize
  rw[if_neg (show ¬((-1:Int) > 0) by decide),if_neg (show ¬((-1:Int)=1) by decide),show(-(-1:Int))=1 by decide,Int.ediv_one]
  split<;>omega
def QeU(ha:-(2 ^ 62)<=a)(ha':a<2 ^ 62)(hb:-(2 ^ 62)<=b)(hb':b<2 ^ 62):Builtin.Range.small a b (-1)=true:=by
 have e:Builtin.Range.rangeSize a b (-1)=if a>b then a-b else 0:=by
  unfold Builtin.Range.rangeSize
  rw[if_neg (show ¬((-1:Int) > 0) by decide),show(-(-1:Int))=1 by decide,Int.ediv_one]
  split<;>omega
 unfold Builtin.Range.small;rw[e]
 simp only[Builtin.Range.rangeFitsLong,Xl,V2,Xw,Ww,show ¬((-1:Int) > 0) by decide,V7]
 split<;>omega
noncomputable def rngA:List V->Option (Int×Int×Int)
 |[.int b]=>some (0,b,1)
 |[.int a,.int b]=>some (a,b,1)
 |[.int a,.int b,.int c]=>some (a,b,c)
 |_=>none
def QmV(ta:TA):TE:=λY H Q=>ta Y H λvs H1=>∃a b c:Int,rngA vs=some (a,b,c)/\(-(2 ^ 62)<=a/\a<2 ^ 62/\-(2 ^ 62)<=b/\b<2 ^ 62)/\(c=1\/c=-1)/\QaX a b c<=sizeLine/\QaX a b c<=2 ^ 24 /\
 ∀p,H1 p=none->Q (.ref p) (upd H1 p (.tup (Qer a (QaX a b c) c)))
def Qe0{pins:List (Addr×Obj)}{s:Shared}{Y:St}{H:Hp}{vs:List V}{us:List Value}{E:Value->Shared->Prop}(I:Inv X pins Y H s)(r:Vals vs us)(h:rngA vs=some (a,b,c))(hc:c=1\/c=-1):
  wpAny (model X.prog X.w) X.A (call (.type "range") us) (λv s'=>∃r t u w,v=.ref r/\Inv X pins Y H s'/\IsRange s'.heap r a b c t u w) E s:=by
 have fin:∀{t u v:Tok} {tk:Nat},∃(r:Addr) (t' u' w':Tok),Value.ref s.heap.objs.size=.ref r/\Inv X pins Y H {s with heap:=s.heap.push {cls:=.type "range",data:=.fields #[.int a t,.int b u,.int c v]},toks:=tk} /\
   IsRange (s.heap.push {cls:=.type "range",data:=.fields #[.int a t,.int b u,.int c v]}) r a b c t' u' w':=λ{t u v tk}=>⟨_,_,_,_,rfl,I.kept λb o e=>Xj _ e,IsRange.new ..⟩
 unfold rngA at h;split at h
 ·cases h;obtain⟨x,rfl,t,rfl⟩:=r.one;exact call_range_1 fin
 ·cases h;obtain⟨x,y,rfl,⟨t,rfl⟩,u,rfl⟩:=r.two;exact call_range_2 fin
 ·cases h
  cases r with
  |cons r1 r=>
   obtain⟨x,y,rfl,⟨t,rfl⟩,u,rfl⟩:=Vals.two r;obtain⟨w,rfl⟩:=r1
   refine call_range_3 (by rcases hc with rfl|rfl<;>decide) fin (.inl (PyProof.noPylong_small ?_))
   rcases hc with rfl|rfl<;>decide
 ·cases h
def QhG{a0:Expr}{args:List Expr}{ta:TA}{p q pos pos2:Pos}(hc:X.calm=true)(hg:Gl X "tuple")(hm:X.mg "tuple"=none)(hg2:Gl X "range")(hm2:X.mg "range"=none)(ha:PA X (a0::args) ta)
  (he:starEach (a0::args) X.env=(false,eval a0 X.env)::starEach args X.env) (hpl:(backTo pos2 (starEach args X.env)).any (·.1)=false):
  PE X (.Call (.Name "tuple" p) [.Call (.Name "range" q) (a0::args) [] pos2] [] pos) (QmV ta):=by
 intro pins s Y H Q I h;refine Wy (ZF I hg hm PyProof.Rows.boot_tuple ?_);refine Wm (e:=.Call (.Name "range" q) (a0::args) [] pos2) (rest:=[]) ?_ rfl rfl;show wpAny _ _ (spliced ((false,eval (.Call (.Name "range" q) (a0::args) [] pos2) X.env)::backTo pos (starEach [] X.env))) _ _ s;refine Up ?_;refine Wy (ZF I hg2 hm2 boot_range ?_);refine Wm (thn (ha pos2 pins s Y H _ I h) λus s1 z=>?_) he hpl;obtain⟨vs,H1,I1,r1,q1⟩:=z;obtain⟨a,b,c,hv,⟨b1,b2,b3,b4⟩,h1,hz,h24,q⟩:=q1;refine thn (Qe0 I1 r1 hv h1) λv s2 y=>?_;obtain⟨r,t,u,w,e,I2,hr⟩:=y;subst e;refine Uu ?_
 have hs:Builtin.Range.small a b c=true:=by
  rcases h1 with rfl|rfl
  ·exact small_one b1 b2 b3 b4
  ·exact QeU b1 b2 b3 b4
 refine YH (I2.ok.hd hc) hr hs (Qhm h1) h24 hz λh' tk acc kp hacc=>?_;have I3:Inv X pins Y H1 {s2 with heap:=h',toks:=tk}:=I2.kept kp;have rv:=QeZ hacc;refine⟨.ref h'.objs.size,_,I3.laid (t':=tk) (o:=.tup (Qer a (QaX a b c) c)) (λb o e=>Xj _ e) (Xh _) ?_,rfl,q _ (I3.hok.fresh (Xh _))⟩;show ObjOk X.prog X.w _ _ _ (.tup _)
 exact⟨by rw[Qa7];exact hz,acc.toList,rv,by simpa using IsTup.new h' acc⟩
end
end
section
open Sem (wp)
section
variable {prog:Program}{w:World}{A:Around}{E:Value->Shared->Prop}{s:Shared}
def QdP:typeLookup (.type "list_reverseiterator") "__len__"=pure none:=by rw[typeLookup_type,builtinLookup_eq_fast];kernel_rfl
def Qfn:typeLookup (.type "list_reverseiterator") "__length_hint__"=pure (some (.builtin "list_reverseiterator.__length_hint__")):=by rw[typeLookup_type,builtinLookup_eq_fast];kernel_rfl
def QcD{R:Result->Shared->Prop}{I l:Addr}{items:Array Value}(hh:A.handled=none)(hit:s.heap.IsRevIter I l ((items.size:Int) - 1))(hl:s.heap.IsList l items)(hne:l≠I)(hn:items.size<=sizeLine)(S:Addr)(res:Value)(c₀:Nat)
  (hS:s.heap.get? S=some {cls:=.type "list",data:=.seq #[] c₀}) (hSI:S≠I) (hSl:S≠l)
  (hR:∀h' tk acc' c',(∀b o,b≠S->b≠I->s.heap.get? b=some o->h'.get? b=some o)->h'.get? S=some {cls:=.type "list",dict:=none,data:=.seq acc' c',slots:=#[]} ->
   ItemsOf (λi v=>items[items.size-1-i]?=some v) acc' items.size->R (.ok (.ret res)) {s with heap:=h',toks:=tk}):
  wpAny (model prog w) A.in1 (Builtin.List.listExtendWith (.ref S) (.ref I) res)
   (λfin s'=>match fin with|.done f=>R (.ok f) s'|.again c'=>c'.quiet=true/\codeAny (model prog w) A c' R s') (λe s'=>R (.error e) s') s:=by
 have hTy:s.TypeIs (.ref I) "list_reverseiterator":=hit.typeIs;have W:=(Walks.listRev (prog:=prog) (w:=w) (A:=A.in1) hh I l hne items).toS
 have hSf:S∉[I,l]:=λhm=>by
  rcases Xd.mp hm with e|hm
  ·exact hSI e
  ·exact hSl (Wh.mp hm)
 unfold Builtin.List.listExtendWith;refine Xg (wpAny_typeOf hTy ?_)
 have h1:Builtin.List.listSameRef (.ref S) (.ref I)=false:=by simp[Builtin.List.listSameRef,hSI]
 have h2:(Value.type "list_reverseiterator"==Value.type "list")=false:=by decide
 have h3:(Value.type "list_reverseiterator"==Value.type "tuple")=false:=by decide
 simp only[h1,h2,h3,Bool.or_false,W8,V7];refine Xg (wpAny_pyIter_revIter hit ?_);refine Xg (Um ?_);unfold Builtin.List.listLengthHint;refine Xg (T2 hTy QdP ?_);show wpAny _ A.in1 (specialOf (Value.ref I) (Str.ofString "__length_hint__") >>= _) _ _ _;refine Xg (T2 hTy Qfn ?_);generalize hid:("list_reverseiterator.__length_hint__":String)=id0
 wp_delta
 rw[show splitId id0=some ("list_reverseiterator","__length_hint__")from by subst hid;decide +kernel]
 subst hid
 refine Xg (wpAny_isInstance (T:="list_reverseiterator") (b:=true) hTy (by rw[isSubtype_type];kernel_rfl) ?_)
 refine wpAny_ite_split (λhab=>absurd hab (by decide)) (λz=>?_)
 refine wpAny_ite_split (λz=>?_) (λhab=>absurd (by decide +kernel) hab)
 refine wpAny_ite_split (λhab=>absurd hab (by decide +kernel)) (λz=>?_)
 refine Xu ?_
 rw[if_neg (by decide)]
 refine Xu ⟨Tp F.plain_extend_loop _,codeAny_extend_loopS W hn S hSf res items.size 0 _ #[] c₀ rfl (Vw _) ⟨Vw _,by simpa using hit,hl⟩ hS (ItemsOf.nil _) λs' acc' c' hm hS' hacc=>?_⟩
 rw[Moved.eq_with hm];refine hR s'.heap s'.toks acc' c' (λb o hb hb2 e=>hm.heap b o (λhmem=>?_) e) hS' hacc
 rcases Xd.mp hmem with e'|hmem
 ·exact hb e'
 ·exact hb2 (Wh.mp hmem)
def JZ{Q:Value->Shared->Prop}{I l:Addr}{items:Array Value}(hh:A.handled=none)(hit:s.heap.IsRevIter I l ((items.size:Int) - 1))(hl:s.heap.IsList l items)(hne:l≠I)(hn:items.size<=sizeLine)
  (hQ:∀h' tk acc' c',(∀b o,b≠I->s.heap.get? b=some o->h'.get? b=some o) ->
   h'.get? s.heap.objs.size=some {cls:=.type "list",dict:=none,data:=.seq acc' c',slots:=#[]}->ItemsOf (λi v=>items[items.size-1-i]?=some v) acc' items.size->Q (.ref s.heap.objs.size) {s with heap:=h',toks:=tk}):
  wpAny (model prog w) A (call (.type "list") [.ref I]) Q E s:=by
 refine callType_codes (Q₁:=λobj s₁=>obj=.ref s.heap.objs.size/\s₁={s with heap:=s.heap.push {cls:=.type "list",data:=.seq #[]} }) F.called_list (F.typeCall_list_1 _) F.entry_list_init
  (code_list_new _ ⟨rfl,rfl⟩) λobj s₁ h₁=>?_
 obtain⟨rfl,rfl⟩:=h₁;have hS:(s.heap.push {cls:=.type "list",data:=.seq #[]}).get? s.heap.objs.size=some {cls:=.type "list",data:=.seq #[]}:=X2 _ rfl
 have hI:s.heap.objs.size≠I:=by
  obtain⟨o,e,_⟩:=hit;exact X8 (X0 (Xo e))
 have hL:s.heap.objs.size≠l:=by
  obtain⟨o,e,_⟩:=hl;exact X8 (X0 (Xo e))
 refine⟨⟨_,hS,rfl⟩,F.args_list_init_2 _ _,?_⟩
 show wpAny _ _ (do let old <-Builtin.List.listItems (.ref s.heap.objs.size);Builtin.List.listUpdate (.ref s.heap.objs.size) (λz=>#[]);letGo old.toList.reverse;Builtin.List.listExtendWith (.ref s.heap.objs.size) (.ref I) .none) _ _ _
 refine Xg ?_;unfold Builtin.List.listItems;refine Xg (wpAny_seqItems hS rfl (Xu ?_));show wpAny _ _ (updateSeq s.heap.objs.size (λz=>#[]) >>= λz=>letGo (#[]:Array Value).toList.reverse >>= λz=>Builtin.List.listExtendWith (.ref s.heap.objs.size) (.ref I) .none) _ _ _;refine Xg (wpAny_updateSeq hS rfl ?_);have hS₂:=Heap.get?_update_self (Obj.mapSeq (λz=>(#[]:Array Value))) hS rfl
 have oth:∀b o,s.heap.get? b=some o->((s.heap.push {cls:=.type "list",data:=.seq #[]}).update s.heap.objs.size (Obj.mapSeq (λz=>(#[]:Array Value)))).get? b=some o :=
  λb o e=>(Heap.get?_update_other _ _ (X8 (X0 (Xo e)))).trans (Xj _ e)
 refine Xg (wpAny_letGo ?_);refine QcD (A:=A.in1) hh (l:=l) (items:=items) ?_ ?_ hne hn _ .none _ hS₂ hI hL λh' tk acc' c' hk hS' hacc=>?_
 ·exact hit.at λo e=>oth _ _ e
 ·exact hl.at λo e=>oth _ _ e
 ·exact⟨rfl,hQ h' tk acc' c' (λb o hb e=>hk b o (X0 (Xo e)) hb (oth b o e)) hS' hacc⟩
end
section
variable {X:Cx}
def Qe1{xs:List V}{its:List Value}{acc:Array Value}(r:Vals xs its)(h:ItemsOf (λi v=>its.toArray[its.toArray.size-1-i]?=some v) acc its.toArray.size):Vals xs.reverse acc.toList:=by
 have e:acc.toList=its.reverse:=by
  refine List.ext_getElem? λi=>?_;by_cases hi:i<its.length
  ·rw[List.getElem?_reverse hi]
   have hs:acc.size=its.length:=by simpa using h.1
   have hi':i<acc.size:=by omega
   have h1:=h.2 i acc[i] (by simp[hi'])
   simp only[List.getElem?_toArray,Xq]at h1;rw[h1];simp[hi']
  ·have hs:acc.size=its.length:=by simpa using h.1
   rw[W3 (by simp;omega),W3 (by simp;omega)]
 rw[e];exact r.reverse
def QhI{e:Expr}{te:TE}{p q pos pos2:Pos}(hc:X.calm=true)(hg:Gl X "list")(hm:X.mg "list"=none)(hg2:Gl X "reversed")(hm2:X.mg "reversed"=none)(he:PE X e te)(hs:starEach [e] X.env=[(false,eval e X.env)]):
  PE X (.Call (.Name "list" p) [.Call (.Name "reversed" q) [e] [] pos2] [] pos) (QpM X.K te):=by
 intro pins s Y H Q I h;refine Wy (ZF I hg hm PyProof.Rows.boot_list ?_);refine Wm (e:=.Call (.Name "reversed" q) [e] [] pos2) (rest:=[]) ?_ rfl rfl;show wpAny _ _ (spliced ((false,eval (.Call (.Name "reversed" q) [e] [] pos2) X.env)::backTo pos (starEach [] X.env))) _ _ s;refine Up ?_;refine Wy (ZF I hg2 hm2 boot_reversed ?_);refine Wm (e:=e) (rest:=[]) ?_ hs rfl;rw[hs];show wpAny _ _ (spliced ((false,eval e X.env)::backTo pos2 (starEach [] X.env))) _ _ s;refine Up (thn (he pins s Y H _ I h) λu s1 z=>?_);obtain⟨x,H1,I1,rx,q1⟩:=z;refine Uu ?_;obtain⟨a,xs,ev,hq,q⟩:=q1;subst ev;cases rx;obtain⟨its,rv,pl,hz⟩:=I1.list hq;refine call_reversed_list pl.isList ?_;refine Uu ?_;have I2:Inv X pins Y H1 {s1 with heap:=s1.heap.push (revObj a ((its.toArray.size:Int) - 1))}:=I1.kept (t':=s1.toks) λb o e=>Xj _ e
 have st:(s1.heap.push (revObj a ((its.toArray.size:Int) - 1))).IsRevIter s1.heap.objs.size a ((its.toArray.size:Int) - 1):=⟨_,X2 _ rfl,rfl,by simp[revObj]⟩
 have hl:(s1.heap.push (revObj a ((its.toArray.size:Int) - 1))).IsList a its.toArray:=pl.isList.at λo e=>Xj _ e
 have hne:a≠s1.heap.objs.size:=by
  obtain⟨o,e,_⟩:=pl.isList;exact X0 (Xo e)
 refine JZ (I2.ok.hd hc) st hl hne (by rw[Xq,<-rv.length];exact hz) λh' tk acc c' kp hS hacc=>?_
 have e1:(s1.heap.push (revObj a ((its.toArray.size:Int) - 1))).objs.size=s1.heap.objs.size+1:=by simp[Heap.push]
 have hS':=hS
 refine⟨.ref _,_,I1.laid (t':=tk) (o:=.lst xs.reverse) (a:=(s1.heap.push (revObj a ((its.toArray.size:Int) - 1))).objs.size) (λb o e=>kp b o (X0 (Xo e)) (Xj _ e)) (by rw[e1];exact V8 _) ?_,rfl,q _ (I1.hok.fresh (a:=(s1.heap.push (revObj a ((its.toArray.size:Int) - 1))).objs.size) (by rw[e1];exact V8 _))⟩
 exact⟨by rw[U5];exact hz,acc.toList,c',Qe1 rv hacc,by simpa using hS⟩
noncomputable def Its(x:PySem.Str):It:=⟨λi z=>i<x.cps.size,λi H y H'=>H'=H/\∃c,x.cps[i]?=some c/\y=.str ⟨#[c]⟩,λi z=>x.cps.size<=i⟩
def QeF{P:Program}{w:World}{K:W.Frag}{tg:Expr}(x:PySem.Str)(tk:Tok)(it:Addr)(n:String)(hn:n="str_ascii_iterator"\/n="str_iterator"): Turn P w K tg (Its x) [it] it (λi h=>h.IsStrIter it n x tk i) where
 mem:=by simp
 obj:=λi h st b hb=>by
  have e:b=it:=by simpa using hb
  subst e;obtain⟨o,e,c,d⟩:=st
  exact⟨o,e,λv z=>by rw[d]at z;cases z⟩
 keep:=λi h h' st k=>by
  obtain⟨o,e,r⟩:=st
  exact⟨o,k it (by simp) o e,r⟩
 item:=by
  intro X hP hw hK hc i pins s Y H E I hf st hg;subst hP hw hK
  obtain⟨f0,f1,f2,f3,f4,f5⟩:=hf it (by simp)
  have hg:i<x.cps.size:=hg;have hx:x.cps[i]?=some x.cps[i]:=Array.getElem?_eq_getElem hg
  have fin:∀h',h'.IsStrIter it n x tk (i+1)->Heap.SameBut it s.heap h'->∃u,some (Value.str ⟨#[x.cps[i]]⟩ s.toks)=some u /\
    wpAny (model X.prog X.w) X.A (letOwnedTupleGo tg (.ref it) u) (λt s2=>∃y H',Inv X pins Y H' s2/\RelV y u/\(Its x).yld i H y H'/\s2.heap.IsStrIter it n x tk (i+1)/\∀b∈[it],H' b=none) E {s with heap:=h',toks:=s.toks+1}:=by
   intro h' st' sb;have I1:Inv X pins Y H {s with heap:=h',toks:=s.toks+1}:=I.turned (t':=s.toks+1) (λb o hb e=>(sb.2 b hb).trans e) f0 f1 f3 f4 f5;obtain⟨o,e,c,d⟩:=id st'
   exact⟨_,rfl,QcA (s:={s with heap:=h',toks:=s.toks+1}) e c d (by rcases hn with rfl|rfl<;>decide) ⟨.str ⟨#[x.cps[i]]⟩,H,I1,⟨_,rfl⟩,⟨rfl,_,hx,rfl⟩,st',λb hb=>(hf b hb).1⟩⟩
  rcases hn with rfl|rfl
  ·exact wpAny_pyNext_ascii_item st hx fin
  ·exact wpAny_pyNext_wide_item st hx fin
 done:=by
  intro X hP hw hK hc i pins s Y H E I hf st hg;subst hP hw hK;have hg:x.cps.size<=i:=hg;have hx:x.cps[i]?=none:=Array.getElem?_eq_none hg
  obtain⟨f0,f1,f2,f3,f4,f5⟩:=hf it (by simp)
  rcases hn with rfl|rfl
  ·exact wpAny_pyNext_ascii_end (I.ok.hd hc) st hx λh' eb=>⟨rfl,I.turned (t':=s.toks) (λb o hb e=>eb b o hb e) f0 f1 f3 f4 f5⟩
  ·exact wpAny_pyNext_wide_end (I.ok.hd hc) st hx λh' eb=>⟨rfl,I.turned (t':=s.toks) (λb o hb e=>eb b o hb e) f0 f1 f3 f4 f5⟩
 self:=λt t t t t st h=>by
  rcases hn with rfl|rfl
  ·exact wpAny_pyIter_striter_ascii st h
  ·exact wpAny_pyIter_striter_wide st h
def Qqt(te:TE):TI:=λY H R=>te Y H λx H1=>∃t,x=.str t/\R (Its t) H1
def Qku{tg e:Expr}{te:TE}(he:PE X e te):PI X tg e (Qqt te):=by
 intro pins s Y H R I h;refine thn (he pins s Y H _ I h) λu s1 z=>?_;obtain⟨x,H1,I1,rx,q1⟩:=z;obtain⟨t,rfl,q⟩:=q1;obtain⟨tk,rfl⟩:=rx
 have fin:∀(n:String) (o:Obj),n="str_ascii_iterator"\/n="str_iterator"->o={cls:=.type n,data:=.fields #[.str t tk,.int 0 0]}->PIE X pins Y tg R (.ref s1.heap.objs.size) {s1 with heap:=s1.heap.push o}:= by
  intro n o hn ho;subst ho;refine⟨s1.heap.objs.size,[s1.heap.objs.size],_,_,H1,rfl,I1.kept (t':=s1.toks) λb o e=>Xj _ e,QeF t tk _ n hn,⟨_,X2 _ rfl,rfl,rfl⟩,λb hb=>?_,q⟩
  have e:b=s1.heap.objs.size:=by simpa using hb
  subst e;exact I1.fpOk (Xh _) (I1.hok.fresh (Xh _))
 cases ha:t.cps.all (· < 128)
 ·exact wpAny_pyIter_wide ha (fin _ _ (.inr rfl) rfl)
 ·exact wpAny_pyIter_ascii ha (fin _ _ (.inl rfl) rfl)
end
end
section
variable {kv:List (Key×V)}
section
variable {X:Cx}{pins:List (Addr×Obj)}{Y:St}{H:Hp}{s:Shared}{d:Addr}
def Inv.freeze(I:Inv X pins Y H s)(h:H d=some (.dK kv)):∃o es ep,s.heap.get? d=some o/\o.data=.dict es ep/\Inv X pins Y (upd H d (.frz o (.dK kv))) s:=by
 obtain⟨hz,hm,vs,r,o,es,ep,e,c,dt,rr⟩:=QiB I.hok h;refine⟨o,es,ep,e,dt,?_⟩
 have:=I.write (x:=d) (e:=d) (o:=.frz o (.dK kv)) (h':=s.heap) (t':=s.toks) (by rw[h];trivial) (.inl rfl) (λb u z q=>q) ⟨o,e⟩ ⟨e,hz,hm,vs,r,o,es,ep,e,c,dt,rr⟩
 exact this
def Inv.thaw{o:Obj}(I:Inv X pins Y H s)(h:H d=some (.frz o (.dK kv)))(h0:∀o' u',X.H₀ d≠some (.frz o' u')):Inv X pins Y (upd H d (.dK kv)) s:=by
 have ne:∀{b:Addr},H b=none->b≠d:=λq z=>by rw[z,h]at q;cases q
 refine⟨I.ok,I.os,I.bare,⟨I.base.keep,I.base.slot,λb ob q n hx=>?_,I.base.there,λb xs q=>?_,λb ob u q=>?_,λb ps q=>?_⟩,I.loc,I.cell,?_,λx c e=>?_,λp hp=>?_,λb u q=>?_,I.len⟩
 ·have:=I.base.free b ob q n hx;rw[Qc (ne this)];exact this
 ·have:=I.base.tups b xs q
  rw[Qc (λz=>by rw[z,h]at this;cases this)]
  exact this
 ·have:=I.base.frzs b ob u q
  rw[Qc (λz=>by subst z;exact h0 _ _ q)]
  exact this
 ·obtain⟨more,e⟩:=I.base.tbls b ps q;refine⟨more,?_⟩
  rw[Qc (λz=>by rw[z,h]at e;cases e)]
  exact e
 ·rw[Qc (ne I.free)];exact I.free
 ·rw[Qc (ne (I.freeC x c e))];exact I.freeC x c e
 ·obtain⟨a1,a2,a3⟩:=I.pin p hp
  exact⟨a1,by rw[Qc (ne a2)];exact a2,a3⟩
 ·by_cases hb:b=d
  ·subst hb;rw[Qh]at q;cases q;obtain⟨_,ok⟩:=I.hok b _ h;exact ok
  ·rw[Qc hb]at q;refine(I.hok b u q).stay (λc v y r=>r) (λc r=>?_) λc xs r=>?_
   ·rw[Qc (λz=>by rw[z,h]at r;cases r)];exact r
   ·rw[Qc (λz=>by rw[z,h]at r;cases r)];exact r
end
noncomputable def Itk(a:Addr)(o:Obj)(kv:List (Key×V)):It :=
 ⟨λi H=>H a=some (.frz o (.dK kv))/\i<kv.length,λi H x H'=>H'=H/\∃p,kv[i]?=some p/\x=kV p.1,λi H=>H a=some (.frz o (.dK kv))/\kv.length<=i⟩
def Qh8{P:Program}{w:World}{k:Key}{u:Value}(h:(QK P w).is k u=true):RelV (kV k) u:=by
 rcases QP (show QaE k u=true from h)with⟨i,t,rfl,rfl⟩|⟨x,t,rfl,rfl⟩
 ·exact⟨t,rfl⟩
 ·exact⟨t,rfl⟩
def Qlb{vs:List (Key×Value)}{i:Nat}{p:Key×V}{q:Key×Value}(h:KV kv vs)(h1:kv[i]?=some p)(h2:vs[i]?=some q):p.1=q.1:=by
 obtain⟨q',e,r⟩:=Q8 h h1;rw[h2]at e;cases e;exact r.1
def Qc2{P:Program}{w:World}{K:W.Frag}{tg:Expr}(a it:Addr)(o:Obj)(kv:List (Key×V))(es:Array DictEntry)(ep:Nat)(hd:o.data=.dict es ep):
  Turn P w K tg (Itk a o kv) [it] it (λi h=>h.IsKeyIter it a i kv.length ep) where
 mem:=by simp
 obj:=λi h st b hb=>by
  have e:b=it:=by simpa using hb
  subst e;obtain⟨o,e,c,d⟩:=st
  exact⟨o,e,λv z=>by rw[d]at z;cases z⟩
 keep:=λi h h' st k=>by
  obtain⟨o,e,r⟩:=st
  exact⟨o,k it (by simp) o e,r⟩
 item:=by
  intro X hP hw hK hc i pins s Y H E I hf st hg;subst hP hw hK
  obtain⟨f0,f1,f2,f3,f4,f5⟩:=hf it (by simp)
  obtain⟨hg,hi⟩:=hg;obtain⟨eo,hz,hm,vs,rr,o',es',ep',e',c',dt',r'⟩:=I.hok a _ hg;rw[eo]at e';cases e';rw[hd]at dt';cases dt';have hl:=W7 rr
  have hi':i<vs.length:=by omega
  have D:s.heap.DictAt (QK X.prog X.w) a vs ep:=⟨o,es,eo,c',hd,r'⟩;have st':=st;rw[hl]at st';refine wpAny_pyNext_dict_item st' D (k:=vs[i].1) (v:=vs[i].2) (Xk hi') λkey h' hk hit sb=>?_;have I1:Inv X pins Y H {s with heap:=h'}:=I.turned (t':=s.toks) (λb o hb e=>(sb.2 b hb).trans e) f0 f1 f3 f4 f5;obtain⟨oi,e,c,dd⟩:=id hit
  have ek:kv[i].1=vs[i].1:=by
   exact Qlb rr (Xk hi) (Xk hi')
  refine⟨key,rfl,QcA (s:={s with heap:=h'}) e c dd (by decide) ⟨kV kv[i].1,H,I1,by rw[ek];exact Qh8 hk,⟨rfl,kv[i],Xk hi,rfl⟩,?_,λb hb=>(hf b hb).1⟩⟩
  rw[hl];exact hit
 done:=by
  intro X hP hw hK hc i pins s Y H E I hf st hg;subst hP hw hK
  obtain⟨f0,f1,f2,f3,f4,f5⟩:=hf it (by simp)
  obtain⟨hg,hi⟩:=hg;obtain⟨eo,hz,hm,vs,rr,o',es',ep',e',c',dt',r'⟩:=I.hok a _ hg;rw[eo]at e';cases e';rw[hd]at dt';cases dt';have hl:=W7 rr;have D:s.heap.DictAt (QK X.prog X.w) a vs ep:=⟨o,es,eo,c',hd,r'⟩;have st':=st;rw[hl]at st'
  exact wpAny_pyNext_dict_end (I.ok.hd hc) st' D (W3 (by omega)) λh' eb=>⟨rfl,I.turned (t':=s.toks) (λb o hb e=>eb b o hb e) f0 f1 f3 f4 f5⟩
 self:=λy y y y y st h=>wpAny_pyIter_keyiter st h
section
variable {X:Cx}
def Qn4(te:TE):TI:=λY H R=>te Y H λx H1=>∃a kv,x=.ref a/\H1 a=some (.dK kv)/\∀o,R (Itk a o kv) (upd H1 a (.frz o (.dK kv)))
def Qdx{tg e:Expr}{te:TE}(he:PE X e te):PI X tg e (Qn4 te):=by
 intro pins s Y H R I h;refine thn (he pins s Y H _ I h) λu s1 z=>?_;obtain⟨x,H1,I1,rx,q1⟩:=z;obtain⟨a,kv,rfl,hk,q⟩:=q1;cases rx;obtain⟨hz,hm,vs,r,dof⟩:=QiB I1.hok hk;obtain⟨o,es,ep,eo,hd,I2⟩:=I1.freeze hk;have hl:=W7 r;obtain⟨ep',D⟩:=dof.dictAt
 have ee:ep'=ep:=by
  obtain⟨o',es',e',c',dt',_⟩:=id D;rw[eo]at e';cases e';rw[hd]at dt';cases dt';rfl
 subst ee;refine wpAny_pyIter_dict hm D ?_
 refine⟨s1.heap.objs.size,[s1.heap.objs.size],_,Itk a o kv,_,rfl,I2.kept (t':=s1.toks) λb o e=>Xj _ e,Qc2 a _ o kv es ep' hd,⟨_,X2 _ rfl,rfl,by rw[hl];rfl⟩,λb hb=>?_,q o⟩
 have e:b=s1.heap.objs.size:=by simpa using hb
 subst e;exact I2.fpOk (Xh _) (I2.hok.fresh (Xh _))
def Qcj(d:Addr)(H:Hp)(P:Hp->Prop)(H':Hp):Prop:=∃o kv,H' d=some (.frz o (.dK kv))/\P (upd H' d (.dK kv))
def Qnc(ts:TS):TS:=λD Y H=>∃d kv,H d=some (.dK kv)/\ts ⟨λY'=>Qcj d H (D.nx Y'),λv=>Qcj d H (D.rt v),λY'=>Qcj d H (D.bk Y'),λY'=>Qcj d H (D.ct Y')⟩ Y H
def Qdm{st:Stmt}{ts:TS}(h:PS X st ts):PS X st (Qnc ts):=by
 intro pins s Y H D I q;obtain⟨d,kv,hk,q⟩:=q
 have h0:∀o' u',X.H₀ d≠some (.frz o' u'):=λo' u' z=>by
  have:=I.base.frzs d o' u' z;rw[hk]at this;cases this
 refine thn (h pins s Y H _ I q) λf s' hf=>?_
 cases f with
 |next=>obtain⟨Y',H',I',o,kv',e,p⟩:=hf;exact⟨Y',_,I'.thaw e h0,p⟩
 |brk=>obtain⟨Y',H',I',o,kv',e,p⟩:=hf;exact⟨Y',_,I'.thaw e h0,p⟩
 |cont=>obtain⟨Y',H',I',o,kv',e,p⟩:=hf;exact⟨Y',_,I'.thaw e h0,p⟩
 |ret u=>obtain⟨v,Y',H',I',rv,o,kv',e,p⟩:=hf;exact⟨v,Y',_,I'.thaw e h0,rv,p⟩
end
end
end L2
namespace Iv
open PySem
section
inductive U where
 |non|bl (b:Bool)|int (i:Int) (m:Nat)|str (x:List Nat)|ref (n:Nat)|con (k:Nat)|scr
 deriving DecidableEq,Inhabited
noncomputable abbrev Er:=Nat×U
inductive O where
 |lst (xs:List U)|tup (xs:List U)|ins (C:Nat) (fs:List (Nat×U))|dic (kvs:List (U×U))|dct (kvs:List (List U×U))|fzd (kvs:List (U×U))|fzt (kvs:List (List U×U))|err (c:Nat) (u:U)
 deriving DecidableEq,Inhabited
abbrev Hs:=List O
abbrev Rho:=List (Option U)
inductive Bi where
 |len|int|str|tuple|list|sum|any|all|max|min|abs|sorted|dict|dictS
 deriving DecidableEq,Inhabited
inductive Bm where
 |append|pop|clear|reverse|extend|setdef|get|update|join|split|find|insert|index|count
 deriving DecidableEq,Inhabited
inductive Ty where
 |non|bool|int|str|list|tuple|dict|cls (c:Nat)|vale
 deriving DecidableEq,Inhabited
mutual
inductive E where
 |c (u:U)|var (i:Nat)|con (k:Nat)
 |op (o:Operator) (a b:E)|neg (a:E)|cmp (o:CmpOp) (a b:E)
 |and (a b:E)|or (a b:E)|not (a:E)|ife (t a b:E)
 |tup (es:List E)|lst (es:List E)|dis (kvs:List (U×U)) (b:E)
 |ix (a b:E)|tab (k:Nat) (b:E)|sl (a:E) (lo hi:Option E)|rev (a:E)|tupR (es:List E)|lstR (es:List E)
 |fld (a:E) (f:Nat)
 |call (f:Nat) (es:List E)|meth (m:Nat) (o:E) (es:List E)|make (k:Nat) (es:List E)
 |bi (b:Bi) (es:List E)|isi (a:E) (t:Ty)|bm (b:Bm) (o:E) (es:List E)
 |comp (s:Src) (b:Bool) (t:Option E) (el:E)|dnew|dnewT|zap (e:E)|isiT (i:Nat) (cs:List Nat)|isiS (i:Nat)|dsp (ks:List U) (es:List E)|thw (a e:E)|chain (o o':CmpOp) (a b c:E)
inductive Src where
 |seq (e:E)|rng (a:E)|rng2 (a b:E)|rngA (es:List E)|zip (a b:E)|revd (e:E)|enm (e:E)|rngR (a:E)|key (e:E)
inductive Tg where
 |name (i:Nat)|pair (i j:Nat)
end
inductive S where
 |pass|expr (e:E)|set (i:Nat) (e:E)|fld (o:E) (f:Nat) (e:E)|ret (e:E)|retN
 |ite (t:E) (a b:List S)|loop (t:Tg) (s:Src) (body:List S)|loopC (i:Nat) (e:E) (body:List S)|loopK (i:Nat) (e:E) (body:List S)|loopD (i:Nat) (e:E) (body:List S)|while (t:E) (body:List S)
 |brk|cont
 |aug (i:Nat) (o:Operator) (e:E)|bad
 |put (o i e:E)|unp (i j:Nat) (e:E)|par (i j:Nat) (a b:E)|unpN (is:List Nat) (e:E)
 |tryN (body:List S)|loopZ (is:List Nat) (es:List E) (body:List S)
 |rse (c:Nat) (es:List E)|tryS (j:Option Nat) (f:Nat) (es:List E) (c:Nat) (body:List S)|cal (n:S) (f:Nat) (es:List E)
inductive Fl where
 |next|brk|cont|ret (u:U)
structure Fn where
 name:Str
 qual:Str
 st:Stmt
 ps:List Str
 N:List Str
 np:Nat
 nN:Nat
 lc:Bool
 body:List S
structure Cl where
 name:Str
 init:Option Nat
 meths:List (Nat×Nat)
 subs:List Nat
inductive Co where
 |tup (xs:List U)|lst (xs:List U)|tab (kvs:List (U×U))
 deriving Inhabited
structure Df where
 ps:List Str
 np:Nat
 last:Str
 ds:List U
structure Tbl where
 fns:List Fn
 cls:List Cl
 cons:List Co
 fns':List Str
 mns:List Str
 scr:List U
 isi:List ((Ty×Ty)×Bool)
 dfl:List (Nat×Df)
 dts:List Str:=[]
 zps:List Str:=[]
 ld:Bool:=false
 ers:List Nat:=[]
 esb:List (Nat×Nat):=[]
 pss:List Nat:=[]
 efl:List (Nat×Nat):=[]
 dks:List Str:=[]
 efi:List Nat:=[]
 xf:Nat->List U->Hs->Option (Er×Hs):=λ_ _ _=>none
noncomputable def bd{α β:Type}(o:Option (α×Hs))(f:α->Hs->Option β):Option β:=match o with
 |none=>none
 |some (a,h)=>f a h
def Qd{α β:Type}{o:Option (α×Hs)}{f:α->Hs->Option β}{r:β}(h:bd o f=some r):∃a h',o=some (a,h')/\f a h'=some r:=by
 unfold bd at h
 cases o with
 |none=>cases h
 |some p=>exact⟨p.1,p.2,rfl,h⟩
noncomputable def gz:Nat->Nat->Nat
 |0,n=>n
 |m+1,n=>Nat.gcd (m+1) n
noncomputable def Qq(i:Int):Bool:=decide (-(2 ^ 64) < i)&&decide (i<2 ^ 64)
noncomputable def Qel(i:Int):Bool:=decide (i.natAbs<2 ^ 4096)
noncomputable def Qm4:U->U->Option U
 |.int i m,.int j n=>some (.int (i-j) (gz m n))
 |_,_=>none
noncomputable def Qk0:U->U->Option U
 |.int i 0,.int j 0=>if Qq i||Qq j||(Qel i&&Qel j)then some (.int (i*j) 0)else none
 |.int i (m+1),.int j 0=>if Qq j then some (.int (i*j) ((m+1)*j.natAbs))else none
 |_,_=>none
noncomputable def QlR:U->U->Option U
 |.int i 0,.int j 0=>if 0<j&&decide (j<1606938044258990275541962092341162602522202993782792835301376)then some (.int (i / j) 0)else none
 |.int i (m+1),.int j 0=>if 0<j&&decide (j<1606938044258990275541962092341162602522202993782792835301376)&&decide ((m+1) % j.toNat=0)then some (.int (i / j) ((m+1) / j.toNat))else none
 |_,_=>none
noncomputable def Qh0:U->U->Option U
 |.int i 0,.int j 0=>if 0<j then some (.int (i % j) 0)else none
 |.int i (m+1),.int j 0=>if 0<j&&decide ((m+1) % j.toNat=0)then some (.int (i % j) 0)else none
 |_,_=>none
noncomputable def Qor(a b:Nat)(x y:O)(hs:Hs):Option (U×Hs):=match x,y with
 |.lst xs,.lst ys=>if xs.length+ys.length<=1000000 then some (.ref hs.length,hs++[.lst (xs++ys)])else none
 |_,_=>none
noncomputable def ZG(u w:U)(hs:Hs):Option (U×Hs):=match u,w with
 |.int i m,.int j n=>some (.int (i+j) (gz m n),hs)
 |.str x,.str y=>if x.length+y.length<=1000000 then some (.str (x++y),hs)else none
 |.ref a,.ref b=>match hs[a]?,hs[b]? with
  |some x,some y=>Qor a b x y hs
  |_,_=>none
 |_,_=>none
noncomputable def Qnf(a:Nat)(w:U)(hs:Hs):Option (U×Hs):=match hs[a]?,w with
 |some (.lst xs),.int k 0=>if -9223372036854775808<=k/\k<9223372036854775808/\xs.length*k.toNat<=1000000 then some (.ref hs.length,hs++[.lst (List.replicate k.toNat xs).flatten])else none
 |_,_=>none
noncomputable def opU(o:Operator)(u w:U)(hs:Hs):Option (U×Hs):=match o with
 |.Add=>ZG u w hs
 |.Sub=>(Qm4 u w).map λr=>(r,hs)
 |.Mult=>(match u with
  |.ref a=>Qnf a w hs
  |u=>(Qk0 u w).map λr=>(r,hs))
 |.FloorDiv=>(QlR u w).map λr=>(r,hs)
 |.Mod=>(Qh0 u w).map λr=>(r,hs)
 |_=>none
noncomputable def eqS:U->U->Option Bool
 |.int i 0,.int j 0=>some (decide (i=j))
 |.str x,.str y=>some (decide (x=y))
 |.bl a,.bl b=>some (decide (a=b))
 |.non,.non=>some true
 |.non,.int _ _=>some false|.int _ _,.non=>some false|.non,.bl _=>some false|.bl _,.non=>some false|.non,.str _=>some false|.str _,.non=>some false
 |.int _ _,.str _=>some false|.str _,.int _ _=>some false|.bl _,.str _=>some false|.str _,.bl _=>some false
 |_,_=>none
noncomputable def ZJ(T:Tbl)(u:U)(hs:Hs):Option (List U):=match u with
 |.ref n=>match hs[n]? with
  |some (.lst xs)=>some xs
  |some (.tup xs)=>some xs
  |_=>none
 |.con k=>match T.cons[k]? with
  |some (.lst xs)=>some xs
  |some (.tup xs)=>some xs
  |_=>none
 |.scr=>some T.scr
 |_=>none
noncomputable def Y4:U->Bool
 |.int _ 0=>true
 |.str _=>true
 |.non=>true
 |_=>false
noncomputable def eqF:U->U->Bool
 |.int i _,.int j _=>decide (i=j)
 |.str x,.str y=>decide (x=y)
 |.non,.non=>true
 |_,_=>false
noncomputable def inU(x:U)(ys:List U):Option Bool:=if Y4 x&&ys.all Y4 then some (ys.any λy=>eqF y x)else none
noncomputable def QU(T:Tbl)(u:U)(hs:Hs):Option (List U):=match u with
 |.ref n=>match hs[n]? with
  |some (.lst xs)=>some xs
  |_=>none
 |.con k=>match T.cons[k]? with
  |some (.lst xs)=>some xs
  |_=>none
 |.scr=>some T.scr
 |_=>none
noncomputable def ZY(T:Tbl)(u:U)(hs:Hs):Option (List U):=match u with
 |.ref n=>match hs[n]? with
  |some (.tup xs)=>some xs
  |_=>none
 |.con k=>match T.cons[k]? with
  |some (.tup xs)=>some xs
  |_=>none
 |_=>none
noncomputable def okW(T:Tbl):Nat->U->Hs->Bool
 |0,_,_=>false
 |n+1,u,hs=>match QU T u hs with
  |some xs=>xs.all λx=>okW T n x hs
  |none=>match ZY T u hs with
   |some xs=>xs.all λx=>okW T n x hs
   |none=>match u with
    |.non=>true
    |.bl _=>true
    |.int _ m=>m==0
    |.str x=>x.all λc=>decide (c<128)
    |_=>false
noncomputable def eqB:U->U->Bool
 |.non,.non=>true
 |.bl a,.bl b=>a==b
 |.bl a,.int j _=>(if a then 1 else 0)==j
 |.int i _,.bl b=>i==(if b then 1 else 0)
 |.int i _,.int j _=>i==j
 |.str x,.str y=>x==y
 |_,_=>false
noncomputable def eqW(T:Tbl):Nat->U->U->Hs->Bool
 |0,_,_,_=>false
 |n+1,u,w,hs=>match QU T u hs with
  |some xs=>(match QU T w hs with
   |some ys=>(xs.length==ys.length)&&(xs.zip ys).all λp=>eqW T n p.1 p.2 hs
   |none=>false)
  |none=>match ZY T u hs with
   |some xs=>(match QU T w hs with
    |some _=>false
    |none=>match ZY T w hs with
     |some ys=>(xs.length==ys.length)&&(xs.zip ys).all λp=>eqW T n p.1 p.2 hs
     |none=>false)
   |none=>(match QU T w hs with
    |some _=>false
    |none=>match ZY T w hs with
     |some _=>false
     |none=>eqB u w)
noncomputable def Jg(T:Tbl)(u w:U)(hs:Hs):Bool:=match QU T u hs,QU T w hs with
 |some xs,some ys=>decide (xs.length≠ys.length)
 |_,_=>false
noncomputable def Qa5(T:Tbl)(u w:U)(hs:Hs):Bool:=match QU T u hs,QU T w hs with
 |some xs,some ys=>decide (xs=ys)&&xs.all λx=>match x with|.ref _=>true|_=>false
 |_,_=>false
noncomputable def eqA(T:Tbl)(u w:U)(hs:Hs):Option Bool:=match eqS u w with
 |some b=>some b
 |none=>if Jg T u w hs=true then some false else if Qa5 T u w hs=true then some true else if okW T 20 u hs&&okW T 20 w hs then some (eqW T 20 u w hs)else none
noncomputable def Qaz(kvs:List (U×U))(k:U):Option U:=match kvs with
 |[]=>none
 | (x,v)::r=>if x=k then some v else Qaz r k
noncomputable def QaY:U->Bool
 |.int _ 0=>true
 |.str _=>true
 |_=>false
noncomputable def YG{κ:Type}[DecidableEq κ](kvs:List (κ×U))(k:κ):Option U:=(kvs.find? λp=>decide (p.1=k)).map (·.2)
noncomputable def Qes{κ:Type}[DecidableEq κ](kvs:List (κ×U))(k:κ)(v:U):List (κ×U):=if(kvs.any λp=>decide (p.1=k))=true then kvs.map (λp=>if p.1=k then(p.1,v)else p)else kvs++[(k,v)]
noncomputable def QaK(o:O)(w:U)(hs:Hs):Option (Option U):=match o with
 |.dic kvs=>if QaY w=true then some (YG kvs w)else none
 |.fzd kvs=>if QaY w=true then some (YG kvs w)else none
 |_=>none
noncomputable def QfD(n:Nat)(o:O)(k u:U)(hs:Hs):Option Hs:=match o with
 |.dic kvs=>if QaY k=true/\kvs.length<1000000 then some (hs.set n (.dic (Qes kvs k u)))else none
 |_=>none
noncomputable def Js(kvs more:List (U×U)):List (U×U):=more.foldl (λacc p=>Qes acc p.1 p.2) kvs
noncomputable def inS(x y:List Nat):Bool:=!(Builtin.Str.occurrences ⟨y.toArray⟩ ⟨x.toArray⟩ 0 (Str.length ⟨y.toArray⟩) 1).isEmpty
noncomputable def QjA(T:Tbl)(w u:U):Option Bool:=match w with
 |.con k=>(match T.cons[k]? with
  |some (.tab kvs)=>if QaY u=true then some (Qaz kvs u).isSome else none
  |_=>none)
 |.str y=>(match u with
  |.str x=>some (inS x y)
  |_=>none)
 |_=>none
noncomputable def Ji:List U->Option (List Int)
 |[]=>some []
 |.int i 0::r=>(Ji r).map (i::·)
 |_=>none
noncomputable def itU(hs:Hs)(u:U):Option (List Int):=match u with
 |.ref m=>(match hs[m]? with
  |some (.tup (k::ks))=>Ji (k::ks)
  |_=>none)
 |_=>none
noncomputable def Qqo(hs:Hs):List U->Option (List (List Int))
 |[]=>some []
 |u::us=>(itU hs u).bind λk=>(Qqo hs us).map λks=>k::ks
noncomputable def inD(T:Tbl)(w u:U)(hs:Hs):Option Bool:=match w with
 |.ref n=>(match hs[n]? with
  |some o=>(QaK o u hs).map Option.isSome
  |none=>none)
 |w=>QjA T w u
noncomputable def isU(u w:U):Option Bool:=match w with
 |.non=>some (decide (u=.non))
 |.bl b=>(match u with
  |.bl a=>some (a==b)
  |_=>none)
 |_=>none
noncomputable def Q0(T:Tbl)(o:CmpOp)(u w:U)(hs:Hs):Option Bool:=match o with
 |.Eq=>eqA T u w hs
 |.NotEq=>(eqA T u w hs).map (!·)
 |.Lt=>match u,w with|.int i 0,.int j 0=>some (decide (i<j))|_,_=>none
 |.LtE=>match u,w with|.int i 0,.int j 0=>some (decide (i<=j))|_,_=>none
 |.Gt=>match u,w with|.int i 0,.int j 0=>some (decide (j<i))|_,_=>none
 |.GtE=>match u,w with|.int i 0,.int j 0=>some (decide (j<=i))|_,_=>none
 |.In=>match ZJ T w hs with|some xs=>inU u xs|none=>inD T w u hs
 |.NotIn=>match ZJ T w hs with|some xs=>(inU u xs).map (!·)|none=>(inD T w u hs).map (!·)
 |.Is=>isU u w
 |.IsNot=>(isU u w).map (!·)
noncomputable def Zo(T:Tbl)(u:U)(hs:Hs):Option Bool:=match u with
 |.non=>some false
 |.bl b=>some b
 |.int i 0=>some (decide (i≠0))
 |.str x=>if x.length<=1000000 then some (!x.isEmpty)else none
 |u=>(ZJ T u hs).map λxs=>!xs.isEmpty
noncomputable def ixU(n:Nat)(i:Int):Option Nat:=if 0<=i then(if i<n then some i.toNat else none)else if -(n:Int)<=i then some (i+n).toNat else none
noncomputable def atU{α:Type}(xs:List α)(i:Int):Option α:=match ixU xs.length i with
 |some j=>xs[j]?
 |none=>none
noncomputable def QX(T:Tbl)(u w:U)(hs:Hs):Option U:=match u,w with
 |.str x,.int i 0=>if x.length<=1000000 then(atU x i).map λc=>.str [c]else none
 |.ref n,w=>match hs[n]?,w with
  |some (.lst xs),.int i 0=>atU xs i
  |some (.tup xs),.int i 0=>atU xs i
  |some o,w=>(QaK o w hs).bind id
  |none,_=>none
 |u,.int i 0=>match ZJ T u hs with
  |some xs=>atU xs i
  |none=>none
 |_,_=>none
noncomputable def QeK(T:Tbl)(k:Nat)(w:U):Option U:=match T.cons[k]? with
 |some (.tab kvs)=>if QaY w then Qaz kvs w else none
 |_=>none
noncomputable def ZN(n d:Nat):Option Int->Nat
 |none=>d
 |some v=>if v<0 then(v+(n:Int)).toNat else min v.toNat n
noncomputable def Y7{α:Type}(xs:List α)(lo hi:Option Int):List α:=(xs.drop (ZN xs.length 0 lo)).take (ZN xs.length xs.length hi-ZN xs.length 0 lo)
noncomputable def slU(T:Tbl)(u:U)(lo hi:Option Int)(hs:Hs):Option (U×Hs):=match u with
 |.scr=>some (.ref hs.length,hs++[.lst (Y7 T.scr lo hi)])
 |.ref n=>match hs[n]? with
  |some (.lst xs)=>some (.ref hs.length,hs++[.lst (Y7 xs lo hi)])
  |some (.tup xs)=>if ZN xs.length 0 lo=0/\ZN xs.length xs.length hi=xs.length then none else some (.ref hs.length,hs++[.tup (Y7 xs lo hi)])
  |_=>none
 |_=>none
noncomputable def Qpi(n:Nat):List Nat:=(Nat.toDigits 10 n).map Char.toNat
noncomputable def Qpj(x:List Nat):Bool:=x.all (λc=>decide (48<=c)&&decide (c<=57))&&!x.isEmpty&&decide (x.length<=640)
noncomputable def Qoi(x:List Nat):Nat:=x.foldl (λacc c=>acc*10+(c-48)) 0
noncomputable def Qp5(ks:List (List Int))(xs:List U):List U:=(L2.permK ks xs.length).map λi=>xs.getD i .non
noncomputable def Qi0(hs:Hs):List U->Option (List (U×U))
 |[]=>some []
 |u::r=>match u with
  |.ref p=>(match hs[p]? with
   |some (.tup [k,v])=>if QaY k=true then(Qi0 hs r).map λl=>(k,v)::l else none
   |_=>none)
  |_=>none
noncomputable def Qfm(u:U)(hs:Hs):Option (List U):=match u with
 |.ref p=>(match hs[p]? with
  |some (.lst xs)=>some xs
  |_=>none)
 |_=>none
noncomputable def biL(T:Tbl)(b:Bi)(us:List U)(hs:Hs):Option (U×Hs):=match b,us with
 |.sum,[u]=>(QU T u hs).bind λxs=>(Ji xs).map λns=>(.int ns.sum 0,hs)
 |.dictS,[u]=>(Qfm u hs).bind λxs=>(Qi0 hs xs).map λkvs=>(.ref hs.length,hs++[.dic (Js [] kvs)])
 |_,_=>none
noncomputable def biU(T:Tbl)(b:Bi)(us:List U)(hs:Hs):Option (U×Hs):=match b,us with
 |.len,[.str x]=>if x.length<=1000000 then some (.int x.length 0,hs)else none
 |.len,[u]=>match ZJ T u hs with
  |some xs=>some (.int xs.length 0,hs)
  |none=>none
 |.int,[.int i m]=>some (.int i m,hs)
 |.int,[.bl b]=>some (.int (if b then 1 else 0) 0,hs)
 |.int,[.str x]=>if Qpj x then some (.int (Qoi x:Nat) 0,hs)else none
 |.str,[.int i 0]=>if 0<=i&&decide (i.natAbs.log2<1920)then some (.str (Qpi i.toNat),hs)else none
 |.tuple,[.ref n]=>match hs[n]? with
  |some (.lst xs)=>some (.ref hs.length,hs++[.tup xs])
  |some (.tup _)=>some (.ref n,hs)
  |_=>none
 |.list,[u]=>match ZJ T u hs with
  |some xs=>some (.ref hs.length,hs++[.lst xs])
  |none=>none
 |.len,_=>none
 |.int,_=>none
 |.str,_=>none
 |.tuple,_=>none
 |.list,_=>none
 |b,us=>biL T b us hs
noncomputable def Qcy(u:U)(hs:Hs):Option Ty:=match u with
 |.non=>some .non
 |.bl _=>some .bool
 |.int _ _=>some .int
 |.str _=>some .str
 |.ref n=>match hs[n]? with
  |some (.lst _)=>some .list
  |some (.tup _)=>some .tuple
  |some (.ins c _)=>some (.cls c)
  |_=>none
 |_=>none
noncomputable def QnZ(k t:Ty):Option Bool:=match k,t with
 |.cls _,_=>none
 |_,.cls _=>none
 |.bool,.int=>some true
 |k,t=>some (decide (k=t))
noncomputable def Qeu(T:Tbl)(t:Ty)(u:U)(hs:Hs):Option Bool:=match Qcy u hs with
 |none=>none
 |some k=>match QnZ k t with
  |some b=>some b
  |none=>T.isi.lookup (k,t)
noncomputable def Qln(u:Option (Option U)):Option Bool:=match u with
 |some (some (.int _ _))=>some true
 |some (some (.str _))=>some true
 |_=>none
noncomputable def bmL(T:Tbl)(b:Bm)(n:Nat)(xs:List U)(us:List U)(hs:Hs):Option (U×Hs):=match b,us with
 |.append,[u]=>if xs.length<1000000 then some (.non,hs.set n (.lst (xs++[u])))else none
 |.pop,[]=>match xs[xs.length-1]? with
  |some y=>some (y,hs.set n (.lst xs.dropLast))
  |none=>none
 |.pop,[.int i 0]=>if i=0 then(match xs[0]? with
  |some y=>some (y,hs.set n (.lst (xs.eraseIdx 0)))
  |none=>none)else none
 |.extend,[.ref m]=>(match hs[m]? with
  |some (.lst ys)=>if xs.length+ys.length<=1000000 then some (.non,hs.set n (.lst (xs++ys)))else none
  |_=>none)
 |.count,[w]=>if(xs.all λx=>okW T 20 x hs)&&okW T 20 w hs then some (.int (xs.countP λx=>eqW T 20 x w hs:Nat) 0,hs)else none
 |_,_=>none
noncomputable def bmS(T:Tbl)(b:Bm)(x:List Nat)(us:List U)(hs:Hs):Option (U×Hs):=match b,us with
 |_,_=>none
noncomputable def bmD(b:Bm)(n:Nat)(kvs:List (U×U))(us:List U)(hs:Hs):Option (U×Hs):=match b with
 |.setdef=>(match us with
  |[k,v]=>if QaY k=true/\kvs.length<1000000 then(match Qaz kvs k with
   |some x=>some (x,hs)
   |none=>some (v,hs.set n (.dic (kvs++[(k,v)]))))else none
  |_=>none)
 |.get=>(match us with
  |[k,v]=>if QaY k=true then some ((YG kvs k).getD v,hs)else none
  |_=>none)
 |.update=>(match us with
  |[.ref m]=>(match hs[m]? with
   |some (.dic more)=>if n≠m/\kvs.length+more.length<=1000000 then some (.non,hs.set n (.dic (Js kvs more)))else none
   |_=>none)
  |_=>none)
 |_=>none
noncomputable def bmU(T:Tbl)(b:Bm)(o:U)(us:List U)(hs:Hs):Option (U×Hs):=match o with
 |.ref n=>match hs[n]? with
  |some (.lst xs)=>bmL T b n xs us hs
  |some (.dic kvs)=>bmD b n kvs us hs
  |_=>none
 |.str x=>bmS T b x us hs
 |_=>none
noncomputable def bL:Bm->Bool
 |.setdef=>false|.get=>false|.update=>false|.join=>false|.split=>false|.find=>false|.index=>false|_=>true
noncomputable def bS:Bm->Bool
 |.join=>true|.split=>true|.find=>true|.index=>true|_=>false
noncomputable def bD:Bm->Bool
 |.setdef=>true|.get=>true|.update=>true|_=>false
noncomputable def Qa8(b:Bm)(u:U)(hs:Hs):Bool:=match u with
 |.ref n=>match hs[n]? with
  |some (.lst _)=>bL b
  |some (.dic _)=>bD b
  |_=>false
 |.str _=>bS b
 |_=>false
noncomputable def JO(f:Nat)(u:U):List (Nat×U)->List (Nat×U)
 |[]=>[(f,u)]
 | (g,x)::r=>if g=f then(g,u)::r else(g,x)::JO f u r
inductive Wk where
 |seqL (u:U)|seqT (u:U)|rng (lo:Int) (n:Nat)|zipB (b c:Bool) (x y:U)|revL (u:U) (n:Nat)|rngC (lo c:Int) (n:Nat)|enmL (u:U)|strW (x:List Nat)|keyD (n:Nat)
inductive Im where
 |one (u:U)|two (u w:U)
noncomputable def sqU(T:Tbl)(b:Bool)(u:U)(hs:Hs):Option (List U):=if b then QU T u hs else none
noncomputable def two(xs ys:List U)(i:Nat):Option Im:=match xs[i]?,ys[i]? with
 |some x,some y=>some (.two x y)
 |_,_=>none
noncomputable def itm(T:Tbl)(k:Wk)(i:Nat)(hs:Hs):Option (Option Im):=match k with
 |.seqL u=>(QU T u hs).map λxs=>(xs[i]?).map .one
 |.seqT u=>(ZY T u hs).map λxs=>(xs[i]?).map .one
 |.rng lo n=>some (if i<n then some (.one (.int (lo+i) 0))else none)
 |.zipB b c x y=>match sqU T b x hs,sqU T c y hs with
  |some xs,some ys=>some (two xs ys i)
  |_,_=>none
 |.revL _ _=>none
 |.rngC lo c n=>some (if i<n then some (.one (.int (lo+i*c) 0))else none)
 |.enmL u=>(QU T u hs).map λxs=>(xs[i]?).map λx=>.two (.int i 0) x
 |.strW x=>some ((x[i]?).map λc=>.one (.str [c]))
 |.keyD n=>match hs[n]? with
  |some (.fzd kvs)=>some ((kvs[i]?).map λp=>.one p.1)
  |_=>none
noncomputable def Qdk(a b c:Int):Nat:=if a<b then((b-a-1) / c+1).toNat else 0
noncomputable def Zn(T:Tbl)(k:Wk)(hs:Hs):Nat:=match k with
 |.seqL u=>((QU T u hs).getD []).length+1
 |.seqT u=>((ZY T u hs).getD []).length+1
 |.rng _ n=>n+1
 |.zipB b _ x _=>((sqU T b x hs).getD []).length+1
 |.revL _ _=>0
 |.rngC _ _ n=>n+1
 |.enmL u=>((QU T u hs).getD []).length+1
 |.strW x=>x.length+1
 |.keyD n=>(match hs[n]? with|some (.fzd kvs)=>kvs.length|_=>0)+1
noncomputable def tgt(t:Tg)(x:Im)(Z:Rho)(hs:Hs):Option Rho:=match t,x with
 |.name i,.one u=>some (Z.set i (some u))
 |.pair i j,.two u w=>some ((Z.set i (some u)).set j (some w))
 |.pair i j,.one (.ref n)=>match hs[n]? with
  |some (.tup [u,w])=>some ((Z.set i (some u)).set j (some w))
  |_=>none
 |_,_=>none
abbrev Cf:=Nat->List U->Hs->Option (U×Hs)
abbrev Ev:=E->Rho->Hs->Option (U×Hs)
noncomputable def evs(f:Ev)(Z:Rho):List E->Hs->Option (List U×Hs)
 |[],hs=>some ([],hs)
 |e::es,hs=>bd (f e Z hs) λu h1=>bd (evs f Z es h1) λus h2=>some (u::us,h2)
noncomputable def evO(f:Ev)(Z:Rho):Option E->Hs->Option (Option Int×Hs)
 |none,hs=>some (none,hs)
 |some e,hs=>bd (f e Z hs) λu h1=>match u with|.int i 0=>some (some i,h1)|_=>none
noncomputable def wkS(T:Tbl)(u:U)(hs:Hs):Option Wk:=match QU T u hs with
 |some _=>some (.seqL u)
 |none=>match ZY T u hs with
  |some _=>some (.seqT u)
  |none=>match u with
   |.str x=>some (.strW x)
   |_=>none
noncomputable def wkZ(T:Tbl)(u w:U)(hs:Hs):Option Wk :=
 let b:=(QU T u hs).isSome;let c:=(QU T w hs).isSome
 if(sqU T b u hs).isSome&&(sqU T c w hs).isSome then some (.zipB b c u w)else none
noncomputable def QcH(u:U)(hs h1:Hs):Option (Nat×List (U×U)):=match u with
 |.ref n=>(match hs[n]? with
  |some (.dic _)=>(match h1[n]? with
   |some (.dic kvs)=>some (n,kvs)
   |_=>none)
  |_=>none)
 |_=>none
noncomputable def Zl(T:Tbl)(f:Ev)(Z:Rho):Src->Hs->Option (Wk×Hs)
 |.seq e,hs=>bd (f e Z hs) λu h1=>(wkS T u h1).map λk=>(k,h1)
 |.rng a,hs=>bd (f a Z hs) λu h1=>match u with|.int i 0=>if Qq (i*4)then some (.rng 0 i.toNat,h1)else none|_=>none
 |.rng2 a b,hs=>bd (f a Z hs) λu h1=>bd (f b Z h1) λw h2=>match u,w with|.int i 0,.int j 0=>if Qq (i*4)&&Qq (j*4)then some (.rng i (j-i).toNat,h2)else none|_,_=>none
 |.rngA es,hs=>bd (evs f Z es hs) λus h1=>match us with
  |[.int i 0,.int j 0,.int c 0]=>if Qq (i*16)&&Qq (j*16)&&decide (0<c)&&decide (c<1073741824)then some (.rngC i c (Qdk i j c),h1)else if Qq (i*16)&&Qq (j*16)&&decide (c=-1)then some (.rngC i (-1) (i-j).toNat,h1)else none
  |_=>none
 |.zip a b,hs=>bd (f a Z hs) λu h1=>bd (f b Z h1) λw h2=>(wkZ T u w h2).map λk=>(k,h2)
 |.revd _,_=>none
 |.enm e,hs=>bd (f e Z hs) λu h1=>match QU T u h1 with|some _=>some (.enmL u,h1)|none=>none
 |.rngR _,_=>none
 |.key e,hs=>bd (f e Z hs) λu h1=>(QcH u hs h1).map λp=>(.keyD p.1,h1.set p.1 (.fzd p.2))
noncomputable def Qcp(T:Tbl)(f n:Nat):List U:=match T.dfl.lookup f with
 |none=>[]
 |some D=>D.ds.drop (D.ds.length-(D.np-n))
noncomputable def ZM(T:Tbl)(cf:Cf)(c:Nat)(us:List U)(hs:Hs):Option (U×Hs):=match T.cls[c]? with
 |none=>none
 |some C=>match C.init with
  |none=>if us=[]then some (.ref hs.length,hs++[.ins c []])else none
  |some f=>match cf f (.ref hs.length::(us++Qcp T f (us.length+1))) (hs++[.ins c []])with
   |some (.non,h2)=>some (.ref hs.length,h2)
   |_=>none
noncomputable def Yg(T:Tbl)(m:Nat)(o:U)(hs:Hs):Option Nat:=match o with
 |.ref n=>match hs[n]? with
  |some (.ins c _)=>match T.cls[c]? with
   |some C=>C.meths.lookup m
   |none=>none
  |_=>none
 |_=>none
noncomputable def tgN(b:Bool)(n:Nat):Tg:=if b then .pair n (n+1)else .name n
noncomputable def Qet(b:Bool):Rho:=if b then [none,none]else [none]
noncomputable def Yo(T:Tbl)(f:Ev)(ft:Rho->Hs->Option (Bool×Hs))(w:Wk)(b:Bool)(el:E)(Z:Rho):Nat->Nat->List U->Hs->Option (List U×Hs)
 |0,_,_,_=>none
 |k+1,i,acc,hs=>match itm T w i hs with
  |none=>none
  |some none=>some (acc,hs)
  |some (some x)=>match tgt (tgN b Z.length) x (Z++Qet b) hs with
   |none=>none
   |some ρ'=>if acc.length<1000000 then bd (ft ρ' hs) λc h1=>if c=true then bd (f el ρ' h1) λu h2=>Yo T f ft w b el Z k (i+1) (acc++[u]) h2 else Yo T f ft w b el Z k (i+1) acc h1 else none
noncomputable def Qaf(ft:E->Rho->Hs->Option (Bool×Hs))(t:Option E)(Z:Rho)(hs:Hs):Option (Bool×Hs):=match t with
 |none=>some (true,hs)
 |some e=>ft e Z hs
noncomputable def Qj5(a b c:Int):Option (List U):=if Qq (a*4)&&Qq (b*4)&&(decide (c=1)||decide (c=-1))then
  (let n:=if c=1 then(b-a).toNat else(a-b).toNat
    if n<=1000000 then some ((List.range n).map λi:Nat=>.int (a+(i:Int)*c) 0)else none)else none
noncomputable def QfX:List U->Option (List U)
 |[.int b 0]=>Qj5 0 b 1
 |[.int a 0,.int b 0]=>Qj5 a b 1
 |[.int a 0,.int b 0,.int c 0]=>Qj5 a b c
 |_=>none
mutual
noncomputable def ev(T:Tbl)(cf:Cf):Nat->Ev
 |0,_,_,_=>none
 |d+1,e,Z,hs=>match e with
  |.c u=>some (u,hs)
  |.con k=>some (.con k,hs)
  |.var i=>match Z[i]? with
   |some (some u)=>some (u,hs)
   |_=>none
  |.op o a b=>bd (ev T cf d a Z hs) λu h1=>bd (ev T cf d b Z h1) λw h2=>opU o u w h2
  |.neg a=>bd (ev T cf d a Z hs) λu h1=>match u with|.int i m=>some (.int (-i) m,h1)|_=>none
  |.cmp o a b=>bd (ev T cf d a Z hs) λu h1=>bd (ev T cf d b Z h1) λw h2=>(Q0 T o u w h2).map λc=>(.bl c,h2)
  |.and a b=>bd (ev T cf d a Z hs) λu h1=>match u with|.bl true=>ev T cf d b Z h1|.bl false=>some (.bl false,h1)|_=>none
  |.or a b=>bd (ev T cf d a Z hs) λu h1=>match u with|.bl true=>some (.bl true,h1)|.bl false=>ev T cf d b Z h1|_=>none
  |.not a=>bd (ev T cf d a Z hs) λu h1=>(Zo T u h1).map λc=>(.bl (!c),h1)
  |.ife t a b=>bd (evT T cf d t Z hs) λc h1=>if c=true then ev T cf d a Z h1 else ev T cf d b Z h1
  |.tup es=>bd (evs (ev T cf d) Z es hs) λus h1=>some (.ref h1.length,h1++[.tup us])
  |.lst es=>bd (evs (ev T cf d) Z es hs) λus h1=>some (.ref h1.length,h1++[.lst us])
  |.dis _ _=>none
  |.ix a b=>bd (ev T cf d a Z hs) λu h1=>bd (ev T cf d b Z h1) λw h2=>(QX T u w h2).map λx=>(x,h2)
  |.tab k b=>bd (ev T cf d b Z hs) λw h1=>(QeK T k w).map λx=>(x,h1)
  |.sl a lo hi=>bd (ev T cf d a Z hs) λu h1=>bd (evO (ev T cf d) Z lo h1) λl h2=>bd (evO (ev T cf d) Z hi h2) λr h3=>slU T u l r h3
  |.rev a=>bd (ev T cf d a Z hs) λu h1=>match QU T u h1 with|some xs=>some (.ref h1.length,h1++[.lst xs.reverse])|none=>none
  |.tupR es=>bd (evs (ev T cf d) Z es hs) λus h1=>match QfX us with|some xs=>some (.ref h1.length,h1++[.tup xs])|none=>none
  |.lstR _=>none
  |.fld a f=>bd (ev T cf d a Z hs) λu h1=>match u with
   |.ref n=>match h1[n]? with
    |some (.ins _ fs)=>(fs.lookup f).map λx=>(x,h1)
    |_=>none
   |_=>none
  |.call f es=>bd (evs (ev T cf d) Z es hs) λus h1=>cf f us h1
  |.meth m o es=>bd (ev T cf d o Z hs) λu h1=>match Yg T m u h1 with
   |some f=>bd (evs (ev T cf d) Z es h1) λus h2=>cf f (u::(us++Qcp T f (us.length+1))) h2
   |none=>none
  |.make c es=>bd (evs (ev T cf d) Z es hs) λus h1=>ZM T cf c us h1
  |.bi b es=>bd (evs (ev T cf d) Z es hs) λus h1=>biU T b us h1
  |.isi a t=>bd (ev T cf d a Z hs) λu h1=>(Qeu T t u h1).map λb=>(.bl b,h1)
  |.isiT _ _=>none
  |.isiS i=>(Qln Z[i]?).map λb=>(.bl b,hs)
  |.bm b o es=>bd (ev T cf d o Z hs) λu h1=>if Qa8 b u h1=true then bd (evs (ev T cf d) Z es h1) λus h2=>bmU T b u us h2 else none
  |.comp s b t el=>bd (Zl T (ev T cf d) Z s hs) λw h1=>bd (Yo T (ev T cf d) (Qaf (evT T cf d) t) w b el Z (Zn T w h1) 0 [] h1) λus h2=>some (.ref h2.length,h2++[.lst us])
  |.dnew=>some (.ref hs.length,hs++[.dic []])
  |.dnewT=>none
  |.zap _=>none
  |.thw a e=>match ev T cf d a Z hs with
   |some (.ref n,_)=>(match hs[n]? with
    |some (.dic _)=>(match ev T cf d e Z hs with
     |some (u,h2)=>(match h2[n]? with
      |some (.fzd kvs)=>some (u,h2.set n (.dic kvs))
      |_=>none)
     |none=>none)
    |_=>none)
   |_=>none
  |.dsp _ _=>none
  |.chain _ _ _ _ _=>none
noncomputable def evT(T:Tbl)(cf:Cf):Nat->E->Rho->Hs->Option (Bool×Hs)
 |0,_,_,_=>none
 |d+1,e,Z,hs=>match e with
  |.not a=>bd (evT T cf d a Z hs) λc h1=>some (!c,h1)
  |.and a b=>bd (evT T cf d a Z hs) λc h1=>if c=true then evT T cf d b Z h1 else some (false,h1)
  |.or a b=>bd (evT T cf d a Z hs) λc h1=>if c=true then some (true,h1)else evT T cf d b Z h1
  |e=>bd (ev T cf d e Z hs) λu h1=>(Zo T u h1).map λb=>(b,h1)
end
abbrev Ex:=Rho->Hs->Option (Fl×Rho×Hs)
noncomputable def QaH(T:Tbl)(w:Wk)(t:Tg)(body:Ex):Nat->Nat->Ex
 |0,_,_,_=>none
 |k+1,i,Z,hs=>match itm T w i hs with
  |none=>none
  |some none=>some (.next,Z,hs)
  |some (some x)=>match tgt t x Z hs with
   |none=>none
   |some ρ'=>match body ρ' hs with
    |some (.next,ρ2,h2)=>QaH T w t body k (i+1) ρ2 h2
    |some (.cont,ρ2,h2)=>QaH T w t body k (i+1) ρ2 h2
    |some (.brk,ρ2,h2)=>some (.next,ρ2,h2)
    |r=>r
noncomputable def Qev(i:Nat)(body:Ex):List U->Ex
 |[],Z,hs=>some (.next,Z,hs)
 |k::ks,Z,hs=>match body (Z.set i (some k)) hs with
  |some (.next,ρ2,h2)=>Qev i body ks ρ2 h2
  |some (.cont,ρ2,h2)=>Qev i body ks ρ2 h2
  |some (.brk,ρ2,h2)=>some (.next,ρ2,h2)
  |r=>r
noncomputable def QgK(n:Nat)(r:Option (Fl×Rho×Hs)):Option (Fl×Rho×Hs):=match r with
 |some (fl,Z,hs)=>(match hs[n]? with
  |some (.fzd kvs)=>some (fl,Z,hs.set n (.dic kvs))
  |_=>none)
 |none=>none
noncomputable def Qi3(o:Operator)(u w:U):Option U:=match o with
 |.Add=>(match u,w with|.int i 0,.int j 0=>some (.int (i+j) 0)|_,_=>none)
 |.Sub=>(match u,w with|.int i 0,.int j 0=>some (.int (i-j) 0)|_,_=>none)
 |_=>none
noncomputable def QfZ(x k u:U)(hs:Hs):Option Hs:=match x with
 |.ref n=>(match hs[n]? with
  |some o=>QfD n o k u hs
  |none=>none)
 |_=>none
mutual
noncomputable def ex(T:Tbl)(cf:Cf):Nat->S->Ex
 |0,_,_,_=>none
 |d+1,s,Z,hs=>match s with
  |.pass=>some (.next,Z,hs)
  |.bad=>none
  |.aug i o e=>match Z[i]? with
   |some (some u)=>bd (ev T cf d e Z hs) λw h1=>(Qi3 o u w).map λr=>(.next,Z.set i (some r),h1)
   |_=>none
  |.brk=>some (.brk,Z,hs)
  |.cont=>some (.cont,Z,hs)
  |.expr e=>bd (ev T cf d e Z hs) λz h1=>some (.next,Z,h1)
  |.set i e=>bd (ev T cf d e Z hs) λu h1=>some (.next,Z.set i (some u),h1)
  |.fld o f e=>bd (ev T cf d e Z hs) λu h1=>bd (ev T cf d o Z h1) λx h2=>match x with
   |.ref n=>match h2[n]? with
    |some (.ins c fs)=>if fs.length<500 then some (.next,Z,h2.set n (.ins c (JO f u fs)))else none
    |_=>none
   |_=>none
  |.ret e=>bd (ev T cf d e Z hs) λu h1=>some (.ret u,Z,h1)
  |.retN=>some (.ret .non,Z,hs)
  |.ite t a b=>match evT T cf d t Z hs with
   |some (true,h1)=>exs T cf d a Z h1
   |some (false,h1)=>exs T cf d b Z h1
   |none=>none
  |.loop t s body=>bd (Zl T (ev T cf d) Z s hs) λw h1=>QaH T w t (exs T cf d body) (Zn T w h1) 0 Z h1
  |.loopC _ _ _=>none
  |.loopD _ _ _=>none
  |.loopK i e body=>bd (ev T cf d e Z hs) λu h1=>match QcH u hs h1 with
   |some (n,kvs)=>QgK n (Qev i (exs T cf d body) (kvs.map (·.1)) Z (h1.set n (.fzd kvs)))
   |none=>none
  |.while _ _=>none
  |.put o i e=>bd (ev T cf d e Z hs) λu h1=>bd (ev T cf d o Z h1) λx h2=>bd (ev T cf d i Z h2) λk h3=>(QfZ x k u h3).map λh4=>(.next,Z,h4)
  |.unp _ _ _=>none
  |.par _ _ _ _=>none
  |.unpN _ _=>none
  |.tryN _=>none
  |.loopZ _ _ _=>none
  |.rse _ _=>none
  |.tryS _ _ _ _ _=>none
  |.cal _ _ _=>none
noncomputable def exs(T:Tbl)(cf:Cf):Nat->List S->Ex
 |0,_,_,_=>none
 |d+1,ss,Z,hs=>match ss with
  |[]=>some (.next,Z,hs)
  |s::r=>match ex T cf d s Z hs with
   |some (.next,ρ1,h1)=>exs T cf d r ρ1 h1
   |x=>x
end
noncomputable def dd:Nat:=100
noncomputable def fin:Option (Fl×Rho×Hs)->Option (U×Hs)
 |some (.ret u,_,h)=>some (u,h)
 |some (.next,_,h)=>some (.non,h)
 |_=>none
noncomputable def Qmo(us:List U)(n:Nat):Rho:=us.map some++List.replicate (n-us.length) none
noncomputable def Qa(T:Tbl):Nat->Cf
 |0,_,_,_=>none
 |n+1,f,us,hs=>match T.fns[f]? with
  |none=>none
  |some F=>if us.length=F.np then fin (exs T (Qa T n) dd F.body (Qmo us F.nN) hs)else none
end
section
variable {m:Nat}
inductive G where
 |fn (i:Nat)|cls (i:Nat)|con (k:Nat)|txt (u:U)
structure Ctx where
 T:Tbl
 N:List Str
 names:List (Str×NameKind)
 gl:List (Str×G)
 bl:List Str
 lc:Bool:=false
noncomputable def idx(x:Str):List Str->Option Nat
 |[]=>none
 |y::r=>if y=x then some 0 else(idx x r).map (· + 1)
noncomputable def Qfq(C:Ctx)(x:Str):Bool:=match C.names.lookup x with
 |some .local=>true|some .cell=>true|some .free=>true|_=>false
noncomputable def QaG(C:Ctx)(x:Str):Bool:=match C.names.lookup x with
 |some .local=>true|some .cell=>true|_=>false
noncomputable def Yx(C:Ctx)(x:Str):Bool:=match C.names.lookup x with
 |some .globalImplicit=>true|_=>false
noncomputable def Zy:Expr->Bool
 |.Call (.Name _ _) [] [] _=>false
 |_=>true
noncomputable def ZT:Expr->Bool
 |.Slice ..=>false
 |_=>true
noncomputable def Qjr(C:Ctx)(x:Str):Option Ty:=match C.gl.lookup x with
 |some (.cls i)=>some (.cls i)
 |some _=>none
 |none=>if C.bl.contains x=false then none else if x="int" then some .int else if x="str" then some .str else if x="bool" then some .bool else if x="list" then some .list else if x="tuple" then some .tuple else if x="dict" then some .dict else if x="ValueError" then some .vale else none
noncomputable def Qma(b:Bool)(x:Str):Option Bi:=if x="dict" then(if b=true then some .dictS else none)else none
noncomputable def Qmz(C:Ctx)(x:Str):Option Bi:=match C.gl.lookup x with
 |some _=>none
 |none=>if C.bl.contains x=false then none else if x="len" then some .len else if x="int" then some .int else if x="str" then some .str else if x="tuple" then some .tuple else if x="list" then some .list else if x="sum" then some .sum else Qma C.T.dts.isEmpty x
noncomputable def Ql9(x:Str):Option Bm:=if x="get" then some .get else if x="count" then some .count else none
noncomputable def Qmy(x:Str):Option Bm:=if x="append" then some .append else if x="pop" then some .pop else if x="extend" then some .extend else Ql9 x
noncomputable def Qdt:E->Bool
 |.and _ _=>false
 |.or _ _=>false
 |.not _=>false
 |_=>true
noncomputable def okT:Expr->E->Bool
 |.BoolOp ..,_=>true
 |.UnaryOp .Not ..,_=>true
 |.Compare ..,_=>true
 |_,ir=>Qdt ir
noncomputable def JN(C:Ctx)(f:Str)(args:List Expr):Option (List Expr):=if f="tuple" then(match args with
 |[.Call (.Name r _) ra [] _]=>if r="range"&&Yx C r&&(C.gl.lookup r).isNone&&C.bl.contains r&&decide (ra.length<=3)&&decide (1<=ra.length)then some ra else none
 |_=>none)else none
noncomputable def JR(C:Ctx)(f:Str)(args:List Expr):Option Expr:=if f="list" then(match args with
 |[.Call (.Name r _) [a] [] _]=>if r="reversed"&&Yx C r&&(C.gl.lookup r).isNone&&C.bl.contains r then some a else none
 |_=>none)else none
noncomputable def QlV:Expr->Option U
 |.Constant (.int i) _ _=>some (.int i 0)
 |.Constant (.str x) _ _=>some (.str x.cps.toList)
 |_=>none
noncomputable def Qoh:List (Option Expr)->List Expr->Option (List (U×U))
 |[],[]=>some []
 |some k::ks,v::vs=>(QlV k).bind λk'=>(QlV v).bind λv'=>(Qoh ks vs).bind λr=>if r.any (λp=>decide (p.1=k'))then none else some ((k',v')::r)
 |_,_=>none
noncomputable def Ctx.inner(C:Ctx)(xs:List Str)(scope:Scope):Ctx:={C with N:=L2.hideN xs C.N++xs,names:=L2.relN C.names scope.names,lc:=false}
noncomputable def hdC(C:Ctx):Bool:=decide (C.bl.head?=some ("isinstance":Str))
noncomputable def JC(C:Ctx)(xs:List Str)(scope:Scope):Bool:=(scope.kind==.function)&&xs.all (λx=>(scope.names.lookup x==some .local)&&(scope.names.lookup (L2.mang x)==none))&&decide (L2.hideN xs C.N++xs).Nodup&&scope.names.all (λy=>match y.2 with
  |.local=>(xs.contains y.1||decide (y.1=".0"))&&(scope.names.lookup y.1==some .local)
  |.free=>(C.names.lookup y.1==some .cell)||(C.names.lookup y.1==some .free)
  |.cell=>false
  |_=>true)&&!(C.N.contains ".0")
noncomputable def Qms:Src->Bool
 |.zip _ _=>true
 |.enm _=>true
 |_=>false
noncomputable def QdG:Src->Tg->Bool
 |.zip _ _,.name _=>false
 |.enm _,.name _=>false
 |.revd _,.pair _ _=>false
 |_,_=>true
noncomputable def QmS:Expr->Option (Bool×List Str)
 |.Name x _=>some (false,[x])
 |.Tuple es _ _=>(match es with
  |[a,b]=>(match a,b with
   |.Name x _,.Name y _=>some (true,[x,y])
   |_,_=>none)
  |_=>none)
 |_=>none
noncomputable def Qpb:List Expr->Option (Option Expr)
 |[]=>some none
 |[t]=>some (some t)
 |_=>none
structure Gn where
 b:Bool
 xs:List Str
 iter:Expr
 tl:Option Expr
noncomputable def Qfx:List Comprehension->Option Gn
 |[g]=>if g.is_async=0 then(QmS g.target).bind λt=>(Qpb g.ifs).map λtl=>⟨t.1,t.2,g.iter,tl⟩else none
 |_=>none
def QmB(tg:Expr)(b:Bool)(xs:List Str):Prop:=(b=false/\∃x p,tg=.Name x p/\xs=[x])\/(b=true/\∃x p y q k pt,tg=.Tuple [.Name x p,.Name y q] k pt/\xs=[x,y])
def QgL{tg:Expr}{b:Bool}{xs:List Str}(h:QmS tg=some (b,xs)):QmB tg b xs:=by
 unfold QmS at h;split at h
 ·cases h;exact .inl ⟨rfl,_,_,rfl,rfl⟩
 ·split at h
  ·split at h
   ·cases h;exact .inr ⟨rfl,_,_,_,_,_,_,rfl,rfl⟩
   ·cases h
  ·cases h
 ·cases h
def Jy{gens:List Comprehension}{g:Gn}(h:Qfx gens=some g):∃tg,gens=[⟨tg,g.iter,g.tl.toList,0⟩]/\QmB tg g.b g.xs:=by
 unfold Qfx at h;split at h
 ·rename_i c;split at h
  ·rename_i e;simp only[Xc,Xb]at h;obtain⟨⟨b,xs⟩,h1,tl,h2,rfl⟩:=h;obtain⟨tg,iter,ifs,ia⟩:=c;simp only at e h1 h2;subst e;refine⟨tg,?_,QgL h1⟩
   have:ifs=tl.toList:=by
    unfold Qpb at h2;split at h2<;>cases h2<;>rfl
   rw[this]
  ·cases h
 ·cases h
inductive Sl where
 |cut (lo hi:Option Expr)|rev|bad
noncomputable def QiZ:Expr->Option Sl
 |.Slice lo hi st _=>(match st with
  |none=>some (.cut lo hi)
  |some e=>some .bad)
 |_=>none
inductive He where
 |tab (ks:List (Option Expr)) (vs:List Expr)|nm (x:Str)|any
noncomputable def QlA:Expr->He
 |.Name x _=>.nm x
 |_=>.any
noncomputable def QgN(C:Ctx)(x:Str):Option Nat:=if Yx C x&&decide (x≠"__debug__")then(match C.gl.lookup x with
 |some (.con k)=>(match C.T.cons[k]? with|some (.tab _)=>some k|_=>none)
 |_=>none)else none
noncomputable def Qmp(C:Ctx)(i:Nat)(es:List E):Option E:=match C.T.dfl.lookup i with
 |none=>some (.call i es)
 |some _=>none
noncomputable def Qmw(C:Ctx)(it:Expr):Bool:=match it with
 |.Name y _=>C.T.dks.contains y
 |.Attribute (.Name _ _) f _=>C.T.dks.contains f
 |_=>false
noncomputable def QgD:E->Option Nat
 |.var i=>some i
 |_=>none
noncomputable def Qmt(C:Ctx):List Expr->Bool
 |[.Name x _,.Name y _]=>decide (x="int")&&decide (y="str")&&Yx C "int"&&Yx C "str"&&C.bl.contains ("int":Str)&&C.bl.contains ("str":Str)
 |_=>false
mutual
noncomputable def Qf:Nat->Ctx->Expr->Option E
 |0,_,_=>none
 |m+1,C,e=>match e with
  |.Constant (.int i) _ _=>some (.c (.int i 0))
  |.Constant (.bool b) _ _=>some (.c (.bl b))
  |.Constant .none _ _=>some (.c .non)
  |.Constant (.str x) _ _=>some (.c (.str x.cps.toList))
  |.Name x _=>if x="__debug__"\/x="__classdict__" then none else if Qfq C x then(idx x C.N).map .var else if Yx C x then(match C.gl.lookup x with|some (.con k)=> some (.con k)|some (.txt t)=> some (.c t)|_=>none)else none
  |.BinOp a o b _=>(Qf m C a).bind λa'=>(Qf m C b).bind λb'=>some (.op o a' b')
  |.UnaryOp .USub a _=>(Qf m C a).bind λa'=>some (.neg a')
  |.UnaryOp .Not a _=>(compT m C a).bind λa'=>some (.not a')
  |.BoolOp .And (a::r) p=>compAnd m C a r p
  |.BoolOp .Or (a::r) p=>compOr m C a r p
  |.Compare a [o] [b] _=>(Qf m C a).bind λa'=>(Qf m C b).bind λb'=>some (.cmp o a' b')
  |.IfExp t a b _=>(compT m C t).bind λt'=>(Qf m C a).bind λa'=>(Qf m C b).bind λb'=>some (.ife t' a' b')
  |.Tuple es _ _=>if es.length<=1000000 then(compA m C es).bind λes'=>some (.tup es')else none
  |.List es _=>if es.length<=1000000 then(compA m C es).bind λes'=>some (.lst es')else none
  |.Subscript a b _=>match QiZ b with
   |some (.cut lo hi)=>(Qf m C a).bind λa'=>(compO m C lo).bind λl=>(compO m C hi).bind λh=>some (.sl a' l h)
   |some .rev=>(Qf m C a).bind λa'=>some (.rev a')
   |some .bad=>none
   |none=>(Qf m C b).bind λb'=>match QlA a with
    |.tab ks vs=>if decide (ks.length<=15)&&!ks.isEmpty then(Qoh ks vs).bind λkvs=>some (.dis kvs b')else none
    |.nm x=>(match QgN C x with|some k=>some (.tab k b')|none=>(Qf m C a).bind λa'=>some (.ix a' b'))
    |.any=>(Qf m C a).bind λa'=>some (.ix a' b')
  |.Attribute a f _=>if Zy a then(Qf m C a).bind λa'=>(idx f C.T.fns').bind λk=>some (.fld a' k)else none
  |.Call (.Name f _) args [] _=>if f="__debug__"\/f="__name__"\/Yx C f=false then none else match C.gl.lookup f with
   |some (.fn i)=>if hdC C=true then none else(compA m C args).bind λes=>Qmp C i es
   |some (.cls i)=>if hdC C=true then none else(compA m C args).bind λes=>some (.make i es)
   |some (.con _)=>none
   |some (.txt _)=>none
   |none=>if C.bl.contains f=false then none else if f="isinstance" then(match args with
     |[a,.Name t _]=> if Yx C t/\t≠"__debug__"/\t≠"__name__" then(Qf m C a).bind λa'=>(Qjr C t).bind λty=>some (.isi a' ty)else none
     |[a,.Tuple es _ _]=>(Qf m C a).bind λa'=>(QgD a').bind λi=>if Qmt C es=true then some (.isiS i)else none
     |_=>none)
    else if hdC C=true then none else match JN C f args with
     |some ra=>(compA m C ra).bind λes=>some (.tupR es)
     |none=>match JR C f args with
      |some a=>(Qf m C a).bind λa'=>some (.rev a')
      |none=>(Qmz C f).bind λb=>(compA m C args).bind λes=>some (.bi b es)
  |.Call (.Attribute o x p) args [] q=>if Zy o&&(p.endLine==q.line)&&decide (args.length<29)then match idx x C.T.mns with
   |some k=>if hdC C=true then none else(Qf m C o).bind λo'=>(compA m C args).bind λes=>some (.meth k o' es)
   |none=>(Qmy x).bind λb=>(Qf m C o).bind λo'=>(compA m C args).bind λes=>some (.bm b o' es)else none
  |.ListComp elt gens scope _=>(match Qfx gens with
   |some g=>if JC C g.xs scope&&!hdC C then if Qmw C g.iter then(if g.b=true then none else(Qf m C g.iter).bind λe'=>(compTO m (C.inner g.xs scope) g.tl).bind λt=>(Qf m (C.inner g.xs scope) elt).bind λel=>some (.thw e' (.comp (.key e') false t el)))else(compSrc m C g.iter).bind λsrc=>if QdG src (tgN g.b 0)then(compTO m (C.inner g.xs scope) g.tl).bind λt=>(Qf m (C.inner g.xs scope) elt).bind λel=>some (.comp src g.b t el)else none else none
   |none=>none)
  |.Dict [] [] _=>some .dnew
  |_=>none
noncomputable def compT:Nat->Ctx->Expr->Option E
 |0,_,_=>none
 |m+1,C,e=>match e with
  |.IfExp ..=>none
  |.NamedExpr ..=>none
  |e=>(Qf m C e).bind λir=>if okT e ir then some ir else none
noncomputable def compTO:Nat->Ctx->Option Expr->Option (Option E)
 |0,_,_=>none
 |m+1,C,none=>some none
 |m+1,C,some e=>(compT m C e).bind λe'=>some (some e')
noncomputable def compAnd:Nat->Ctx->Expr->List Expr->Pos->Option E
 |0,_,_,_,_=>none
 |m+1,C,a,r,p=>match r with
  |[]=>compT m C a
  |b::r=>(compT m C a).bind λa'=>(compAnd m C b r p).bind λb'=>some (.and a' b')
noncomputable def compOr:Nat->Ctx->Expr->List Expr->Pos->Option E
 |0,_,_,_,_=>none
 |m+1,C,a,r,p=>match r with
  |[]=>compT m C a
  |b::r=>(compT m C a).bind λa'=>(compOr m C b r p).bind λb'=>some (.or a' b')
noncomputable def compA:Nat->Ctx->List Expr->Option (List E)
 |0,_,_=>none
 |m+1,C,es=>match es with
  |[]=>some []
  |e::r=>(Qf m C e).bind λe'=>(compA m C r).bind λr'=>some (e'::r')
noncomputable def compO:Nat->Ctx->Option Expr->Option (Option E)
 |0,_,_=>none
 |m+1,C,none=>some none
 |m+1,C,some e=>(Qf m C e).bind λe'=>some (some e')
noncomputable def compSrc:Nat->Ctx->Expr->Option Src
 |0,_,_=>none
 |m+1,C,e=>match e with
  |.Call (.Name f p) args [] q=>if Yx C f then(match C.gl.lookup f with
   |some _=>(Qf m C (.Call (.Name f p) args [] q)).map .seq
   |none=>if C.bl.contains f=false then none else if f="range" then(match args with
     |[a]=>(Qf m C a).map .rng
     |[a,b]=>(Qf m C a).bind λa'=>(Qf m C b).map λb'=>.rng2 a' b'
     |[a,b,c]=>(compA m C [a,b,c]).map .rngA
     |_=>none)
    else if f="zip" then(match args with
     |[a,b]=>(Qf m C a).bind λa'=>(Qf m C b).map λb'=>.zip a' b'
     |_=>none)
    else if f="enumerate" then(match args with
     |[a]=>(Qf m C a).map .enm
     |_=>none)
    else(Qf m C (.Call (.Name f p) args [] q)).map .seq)else none
  |e=>(Qf m C e).map .seq
end
def cE4{C:Ctx}{x w1}: Qf (m+1) C (.Name x w1)= (if x="__debug__"\/x="__classdict__" then none else if Qfq C x then(idx x C.N).map .var else if Yx C x then(match C.gl.lookup x with|some (.con k)=> some (.con k)|some (.txt t)=> some (.c t)|_=>none)else none):= rfl
def cE5{C:Ctx}{a o b w1}:Qf (m+1) C (.BinOp a o b w1)=((Qf m C a).bind λa'=>(Qf m C b).bind λb'=>some (.op o a' b')):=rfl
def cE6{C:Ctx}{a w1}:Qf (m+1) C (.UnaryOp .USub a w1)=((Qf m C a).bind λa'=>some (.neg a')):=rfl
def cE7{C:Ctx}{a w1}:Qf (m+1) C (.UnaryOp .Not a w1)=((compT m C a).bind λa'=>some (.not a')):=rfl
def Qrg{C:Ctx}{a o b w1}:Qf (m+1) C (.Compare a [o] [b] w1)=((Qf m C a).bind λa'=>(Qf m C b).bind λb'=>some (.cmp o a' b')):=rfl
def Qrf{C:Ctx}{t a b w1}:Qf (m+1) C (.IfExp t a b w1)=((compT m C t).bind λt'=>(Qf m C a).bind λa'=>(Qf m C b).bind λb'=>some (.ife t' a' b')):=rfl
def Qre{C:Ctx}{es w1 w2}:Qf (m+1) C (.Tuple es w1 w2)=(if es.length<=1000000 then(compA m C es).bind λes'=>some (.tup es')else none):=rfl
def Qrd{C:Ctx}{es w1}:Qf (m+1) C (.List es w1)=(if es.length<=1000000 then(compA m C es).bind λes'=>some (.lst es')else none):=rfl
def Qrc{C:Ctx}{a b w1}:Qf (m+1) C (.Subscript a b w1)=(match QiZ b with
   |some (.cut lo hi)=>(Qf m C a).bind λa'=>(compO m C lo).bind λl=>(compO m C hi).bind λh=>some (.sl a' l h)
   |some .rev=>(Qf m C a).bind λa'=>some (.rev a')
   |some .bad=>none
   |none=>(Qf m C b).bind λb'=>match QlA a with
    |.tab ks vs=>if decide (ks.length<=15)&&!ks.isEmpty then(Qoh ks vs).bind λkvs=>some (.dis kvs b')else none
    |.nm x=>(match QgN C x with|some k=>some (.tab k b')|none=>(Qf m C a).bind λa'=>some (.ix a' b'))
    |.any=>(Qf m C a).bind λa'=>some (.ix a' b')):=rfl
def Qrb{C:Ctx}{a f w1}:Qf (m+1) C (.Attribute a f w1)=(if Zy a then(Qf m C a).bind λa'=>(idx f C.T.fns').bind λk=>some (.fld a' k)else none):=rfl
def Qra{C:Ctx}{f w1 args w2}: Qf (m+1) C (.Call (.Name f w1) args [] w2)= (if f="__debug__"\/f="__name__"\/Yx C f=false then none else match C.gl.lookup f with
   |some (.fn i)=>if hdC C=true then none else(compA m C args).bind λes=>Qmp C i es
   |some (.cls i)=>if hdC C=true then none else(compA m C args).bind λes=>some (.make i es)
   |some (.con _)=>none
   |some (.txt _)=>none
   |none=>if C.bl.contains f=false then none else if f="isinstance" then(match args with
     |[a,.Name t _]=> if Yx C t/\t≠"__debug__"/\t≠"__name__" then(Qf m C a).bind λa'=>(Qjr C t).bind λty=>some (.isi a' ty)else none
     |[a,.Tuple es _ _]=>(Qf m C a).bind λa'=>(QgD a').bind λi=>if Qmt C es=true then some (.isiS i)else none
     |_=>none)
    else if hdC C=true then none else match JN C f args with
     |some ra=>(compA m C ra).bind λes=>some (.tupR es)
     |none=>match JR C f args with
      |some a=>(Qf m C a).bind λa'=>some (.rev a')
      |none=>(Qmz C f).bind λb=>(compA m C args).bind λes=>some (.bi b es)):=rfl
def Qq9{C:Ctx}{o x p args q}:Qf (m+1) C (.Call (.Attribute o x p) args [] q)=(if Zy o&&(p.endLine==q.line)&&decide (args.length<29)then match idx x C.T.mns with
   |some k=>if hdC C=true then none else(Qf m C o).bind λo'=>(compA m C args).bind λes=>some (.meth k o' es)
   |none=>(Qmy x).bind λb=>(Qf m C o).bind λo'=>(compA m C args).bind λes=>some (.bm b o' es)else none):=rfl
def Qpr{C:Ctx}{elt gens scope w1}:Qf (m+1) C (.ListComp elt gens scope w1)=((match Qfx gens with
   |some g=>if JC C g.xs scope&&!hdC C then if Qmw C g.iter then(if g.b=true then none else(Qf m C g.iter).bind λe'=>(compTO m (C.inner g.xs scope) g.tl).bind λt=>(Qf m (C.inner g.xs scope) elt).bind λel=>some (.thw e' (.comp (.key e') false t el)))else(compSrc m C g.iter).bind λsrc=>if QdG src (tgN g.b 0)then(compTO m (C.inner g.xs scope) g.tl).bind λt=>(Qf m (C.inner g.xs scope) elt).bind λel=>some (.comp src g.b t el)else none else none
   |none=>none)):=rfl
def Qq8{C:Ctx}{w1}:Qf (m+1) C (.Dict [] [] w1)=(some .dnew):=rfl
noncomputable def JB(C:Ctx):Expr->Option Tg
 |.Name x _=>if QaG C x then(idx x C.N).map .name else none
 |.Tuple [.Name x _,.Name y _] _ _=>if QaG C x&&QaG C y&&decide (x≠y)then(idx x C.N).bind λi=>(idx y C.N).map λj=>.pair i j else none
 |_=>none
noncomputable def Qph:Expr->Option Bool
 |.Constant c _ _=>(match c with|.str _=>some true|_=>none)
 |.ListComp ..=>some false
 |_=>none
inductive As where
 |nm (x:Str)|at (o:Expr) (f:Str)|sub (o i:Expr)|two (x:Str) (p:Pos) (y:Str) (q:Pos)|many (es:List Expr)
noncomputable def QeD:Expr->Expr->Option As
 |.Name x p,.Name y q=>some (.two x p y q)
 |_,_=>none
noncomputable def as1:Expr->Option As
 |.Name x _=>some (.nm x)
 |.Attribute o f _=>some (.at o f)
 |.Subscript o i _=>some (.sub o i)
 |.Tuple es _ _=>(match es with|[a,b]=>QeD a b|[a,b,c]=>some (.many [a,b,c])|[a,b,c,d]=>some (.many [a,b,c,d])|_=>none)
 |_=>none
noncomputable def Qme:List Expr->Option As
 |[t]=>as1 t
 |_=>none
noncomputable def QqK(C:Ctx)(it:Expr):Bool:=match it with
 |.Name y _=>C.T.dks.contains y
 |_=>false
noncomputable def Qo9(C:Ctx)(tg it:Expr)(t:Tg):Option Nat:=match tg with
 |.Name x _=>(match t with|.name i=>if C.T.dts.contains x||QqK C it then some i else none|_=>none)
 |_=>none
noncomputable def Qpm(m:Nat)(C:Ctx)(s:Stmt)(s0:S):Option S:=some s0
noncomputable def QoD:Option S->S
 |some s=>s
 |none=>.bad
mutual
noncomputable def Yp:Nat->Ctx->Stmt->Option S
 |0,_,_=>none
 |m+1,C,s=>match s with
  |.Pass _=>some .pass
  |.Break _=>some .brk
  |.Continue _=>some .cont
  |.Expr e _=>(match Qph e with
   |some true=>some .pass
   |some false=>none
   |none=>(Qf m C e).map .expr)
  |.Return v _=>(match v with
   |none=>some .retN
   |some e=>(Qf m C e).map .ret)
  |.Assign ts e _=>(match Qme ts with
   |some (.nm x)=>if QaG C x then(idx x C.N).bind λi=>(Qf m C e).bind λe'=>some (.set i e')else none
   |some (.at o f)=>if Zy o then(Qf m C e).bind λe'=>(Qf m C o).bind λo'=>(idx f C.T.fns').bind λk=>some (.fld o' k e')else none
   |some (.sub o i)=>if ZT i then(Qf m C e).bind λe'=>(Qf m C o).bind λo'=>(Qf m C i).bind λi'=>some (.put o' i' e')else none
   |some (.two _ _ _ _)=>none
   |some (.many _)=>none
   |none=>none)
  |.Raise _ _ _=>some .bad
  |.AugAssign t o e _=>(match t with
   |.Name x _=>if QaG C x then(idx x C.N).bind λi=>(Qf m C e).bind λe'=>some (.aug i o e')else none
   |_=>none)
  |.If t a b _=>(compT m C t).bind λt'=>(compSs m C a).bind λa'=>(compSs m C b).bind λb'=>some (.ite t' a' b')
  |.For tg it a [] _=>(JB C tg).bind λtg'=>(compSrc m C it).bind λit'=>match Qo9 C tg it tg' with
   |some i=>(Qf m C it).bind λe=>(compSs m C a).bind λa'=>some (.loopK i e a')
   |none=>if QdG it' tg' then(compSs m C a).bind λa'=>some (.loop tg' it' a')else none
  |_=>none
noncomputable def compSs:Nat->Ctx->List Stmt->Option (List S)
 |0,_,_=>none
 |m+1,C,ss=>match ss with
  |[]=>some []
  |s::r=>(Qpm m C s (QoD (Yp m C s))).bind λs'=>(compSs m C r).bind λr'=>some (s'::r')
end
end
end Iv
namespace L2
open PySem PySem.Spec PyProof.Rows
section
variable {X:Cx}
structure Mk0(K:W.Frag)(C:Addr):Prop where
 makes:W.makesIn K C=true
 init:W.findIn K (.ref C) "__init__"=some (some (.builtin "object.__init__"))
 kp:W.keepIn K (.ref C)=true
def QgR(C:Addr):TE:=λz H Q=>∀x dx,H x=none->H dx=none->dx≠x->Q (.ref x) (upd (upd H dx (.own x)) x (.ins C dx []))
def Qcn{pins:List (Addr×Obj)}{Y:St}{H:Hp}{s:Shared}{Q:VK}{C:Addr}(M:Mk0 X.K C)(I:Inv X pins Y H s)
  (h:∀x dx,H x=none->H dx=none->dx≠x->Q (.ref x) (upd (upd H dx (.own x)) x (.ins C dx []))):
  wpAny (model X.prog X.w) X.A (call (.ref C) []) (EP X pins Y Q) X.xe s:=by
 have hq:=h (s.heap.objs.size+1) s.heap.objs.size (I.hok.fresh (V8 _)) (I.hok.fresh (Xh _)) (X0 (Vn _));have I2:=Inv.made (C:=C) I;have Yyy:=W.makes_of (M:=model X.prog X.w) I.kIn M.makes
 have hob:((s.heap.push W.emptyDict).push (W.instObj C s.heap.objs.size)).get? (s.heap.objs.size+1)=some (W.instObj C s.heap.objs.size):=by
  have e:(s.heap.push W.emptyDict).objs.size=s.heap.objs.size+1:=Ug ..;rw[<-e];exact X2 _ rfl
 have t1:W.Looks (model X.prog X.w) ((s.heap.push W.emptyDict).push (W.instObj C s.heap.objs.size)) (typeOf (.ref (s.heap.objs.size+1))) (.ref C):=(W.Looks.ld hob).andThen .now
 have t2:W.Looks (model X.prog X.w) ((s.heap.push W.emptyDict).push (W.instObj C s.heap.objs.size)) (isInstance (.ref (s.heap.objs.size+1)) (.type "object")) true :=
  t1.andThen (Yyy.top.keeps λb o e=>Xj _ (Xj _ e))
 refine wpAny_call (QdO I.kIn M.makes M.init (λself=>W.Looks.of_pure (W.oi_bind self)) ?_);obtain⟨hh,g,d,t,os⟩:=s;refine codeAny_call_builtin W.oi_plain W.entry_oi (@W.check_slot (model X.prog X.w) _ _ _ "object.__init__" "object" "__init__" (.ref (hh.objs.size+1)) [] [] _ W.oi_kind W.oi_split t2 (W.oi_args (.ref (hh.objs.size+1))) ?_);rw[W.oi_run];exact Xu (And.intro rfl ⟨V.ref (hh.objs.size+1),_,I2,rfl,hq⟩)
def Qdz{C:Addr}{x:Str}{p pos:Pos}(M:Mk0 X.K C)(hg:Gl X x)(hm:X.mg x=some (.ref C))(hdb:(x==("__debug__":Str))=false:=by decide):PE X (.Call (.Name x p) [] [] pos) (QgR C):=by
 intro pins s Y H Q I h;refine Wy (Z6 I hg hm ?_ hdb);exact W.callWith_K0 I.kIn M.kp (Qcn M I h)
noncomputable def Qpl:V->Option Value
 |.ty n=>some (.type n)
 |.ref a=>some (.ref a)
 |_=>none
def TyE(K:W.Frag)(H:Hp)(x:V)(t:Value):Prop:=TyOf K H x t\/False
def QfG:CallR X (.builtin "isinstance") (λxs H Q=>∃x c cv t b,xs=[x,c]/\Qpl c=some cv/\TyE X.K H x t/\W.kitOne X.K t cv=some b/\Q (.bl b) H):= by
 intro pins s Y H xs us Q I r h;obtain⟨x,c,cv,t,b,rfl,hc,ty,e,q⟩:=h
 rcases ty with ty|ty
 case inr=>exact ty.elim
 obtain⟨u,w',rfl,rx,rc⟩:=Qcf r
 have ec:w'=cv:=by
  cases c with
  |ty n=>cases(show w'=Value.type n from rc);exact X4 hc
  |ref a=>cases(show w'=Value.ref a from rc);exact X4 hc
  |_=>cases hc
 subst ec;exact QdU I rx ty e λtk=>⟨.bl b,H,I.tok tk,rfl,q⟩
def Qee:CallR X (.builtin "isinstance") (λxs H Q=>∃x tp,xs=[x,.ref tp]/\H tp=some (.tup [.ty "int",.ty "str"])/\((∃i,x=.int i)\/∃y,x=.str y)/\Q (.bl true) H):= by
 intro pins s Y H xs us Q I r h;obtain⟨x,tp,rfl,ht,hx,q⟩:=h;obtain⟨u,w',rfl,rx,rc⟩:=Qcf r;cases(show w'=Value.ref tp from rc);obtain⟨its,r,pl,_⟩:=I.tuple (SqT.of (K:=X.K) ht);obtain⟨v1,v2,rfl,ra,rb⟩:=Qcf r;cases(show v1=Value.type "int" from ra);cases(show v2=Value.type "str" from rb);obtain⟨⟨cls,dd',data,sl⟩,ho,hc,n,hd⟩:=id pl;simp only at hc hd;subst hc hd
 rcases hx with⟨i,rfl⟩|⟨y,rfl⟩
 ·obtain⟨t,z⟩:=(show ∃t,u=Value.int i t from rx);cases z;exact W.kia_tup (b:=true) W.kitx_int I.kIn True.intro ho rfl (λz=>nomatch z) λtk=>⟨.bl true,H,I.tok tk,rfl,q⟩
 ·obtain⟨t,z⟩:=(show ∃t,u=Value.str y t from rx);cases z;exact W.kia_tup (b:=true) W.kitx_str I.kIn True.intro ho rfl (λz=>nomatch z) λtk=>⟨.bl true,H,I.tok tk,rfl,q⟩
end
end L2
namespace Iv
open PySem PySem.Spec PyProof.Rows L2
section
variable {a p:Addr}{e:Expr}{ho:HO}{H:Hp}{n:Nat}{o:O}{T:Tbl}
abbrev St:=L2.St
structure Adr where
 f:Nat->Addr
 c:Nat->Addr
 k:Nat->Addr
 s:Addr
def Cg(i r:Int)(m:Nat):Prop:=∃q:Int,i=r+m*q
def Cg.exact{i r:Int}(h:Cg i r 0):i=r:=by obtain⟨q,e⟩:=h;simpa using e
def Cg.refl(i:Int)(m:Nat):Cg i i m:=⟨0,by simp⟩
def RU(A:Adr)(α:List Addr):U->V->Prop
 |.non,v=>v=.non
 |.bl b,v=>v=.bl b
 |.int r m,v=>∃i,v=.int i/\Cg i r m
 |.str x,v=>v=.str ⟨x.toArray⟩
 |.ref n,v=>∃a,α[n]?=some a/\v=.ref a
 |.con k,v=>v=.ref (A.k k)
 |.scr,v=>v=.ref A.s
abbrev RUs(A:Adr)(α:List Addr):List U->List V->Prop:=Paired (RU A α)
def RF(T:Tbl)(A:Adr)(α:List Addr):List (Nat×U)->List (Str×V)->Prop:=Paired λp q=>T.fns'[p.1]?=some q.1/\RU A α p.2 q.2
def RK:U->Key->Prop
 |.int i m,k=>m=0/\k=Sum.inl i
 |.str x,k=>k=Sum.inr ⟨x.toArray⟩
 |_,_=>False
def RD(A:Adr)(α:List Addr):List (U×U)->List (Key×V)->Prop:=Paired λp q=>RK p.1 q.1/\RU A α p.2 q.2
abbrev RKs:List U->List Key->Prop:=Paired RK
def RT(A:Adr)(α:List Addr):List (List U×U)->List (List Key×V)->Prop:=Paired λp q=>RKs p.1 q.1/\RU A α p.2 q.2
def EF(T:Tbl)(H:Hp)(c:Er)(dd:Option Addr):Prop:=∀f,T.efl.contains (c.1,f)=true->∃d od x v,dd=some d/\T.fns'[f]?=some x/\H d=some (.frz od (.xd [(x,v)]))/\∀A,RU A [] c.2 v
def EF.fz{H':Hp}{c:Er}{dd:Option Addr}(h:EF T H c dd)(k:∀b o fs,H b=some (.frz o (.xd fs))->H' b=some (.frz o (.xd fs))):EF T H' c dd:=λf q=>by
 obtain⟨d,od,x,v,e1,e2,e3,e4⟩:=h f q;exact⟨d,od,x,v,e1,e2,k _ _ _ e3,e4⟩
def RO(T:Tbl)(A:Adr)(α:List Addr)(H:Hp)(a:Addr):O->Prop
 |.lst xs=>∃vs,H a=some (.lst vs)/\RUs A α xs vs
 |.tup xs=>∃vs,H a=some (.tup vs)/\RUs A α xs vs
 |.ins c fs=>∃dx fv,H a=some (.ins (A.c c) dx fv)/\RF T A α fs fv/\c<T.cls.length
 |.dic kvs=>∃kv,H a=some (.dK kv)/\RD A α kvs kv
 |.dct kvs=>∃kv,H a=some (.dT kv)/\RT A α kvs kv
 |.fzd kvs=>∃kv ob,H a=some (.frz ob (.dK kv))/\RD A α kvs kv
 |.fzt kvs=>∃kv ob,H a=some (.frz ob (.dT kv))/\RT A α kvs kv
 |.err c w=>∃dd,H a=some (QqB a (A.c c) dd)/\T.ers.contains c=true/\EF T H (c,w) dd
structure RH(T:Tbl)(A:Adr)(α:List Addr)(hs:Hs)(H:Hp):Prop where
 len:α.length=hs.length
 nd:∀(i j:Nat) a,α[i]?=some a->α[j]?=some a->i=j\/∃vs,H a=some (.tup vs)
 ob:∀(n:Nat) a o,α[n]?=some a->hs[n]?=some o->RO T A α H a o
def QoG(K:W.Frag)(H:Hp)(a:Addr)(xs:List V):Prop:=(∃o,H a=some (.frz o (.lst xs))) \/
 ∃(o:Obj) (its:Array Value) (n:Nat),K.lookup a=some o/\o.cls=.type "list"/\o.dict=none/\o.data=.seq its n/\its.size<=sizeLine/\Vals xs its.toList
def Scr(T:Tbl)(A:Adr)(K:W.Frag)(H:Hp):Prop:=∃vs,RUs A [] T.scr vs/\QoG K H A.s vs
structure Rep(T:Tbl)(A:Adr)(K:W.Frag)(α:List Addr)(hs:Hs)(H:Hp):Prop where
 h:RH T A α hs H
 s:Scr T A K H
structure Ext(α α':List Addr)(H H':Hp):Prop where
 pre:∀(n:Nat) a,α[n]?=some a->α'[n]?=some a
 new:∀(n:Nat) a,α'[n]?=some a->α.length<=n->H a=none\/∃vs,H a=some (.tup vs)
 keep:∀b o,H b=some o->b∉α->H' b=some o
 fz:∀b o u,H b=some (.frz o u)->H' b=some (.frz o u)
 tr:∀b o,H b=some o->∃o',H' b=some o'/\∀vs,o=.tup vs↔o'=.tup vs
structure RS(A:Adr)(α:List Addr)(Z:Rho)(Y:St):Prop where
 len:Z.length=Y.length
 val:∀(i:Nat) u,Z[i]?=some (some u)->∃v,Y[i]?=some (some v)/\RU A α u v
section
variable {A:Adr}{K:W.Frag}{α α' α1 α2:List Addr}{hs h2:Hs}{H' H1 H2:Hp}{u:U}{v:V}{us:List U}{vs:List V}{Z:Rho}{Y:St}
def RU.mono(p:∀(n:Nat) a,α[n]?=some a->α'[n]?=some a)(h:RU A α u v):RU A α' u v:=by
 cases u with
 |ref n=>obtain⟨a,e,r⟩:=h;exact⟨a,p _ _ e,r⟩
 |_=>exact h
theorem RUs.mono(p:∀(n:Nat) a,α[n]?=some a->α'[n]?=some a)(h:RUs A α us vs):RUs A α' us vs:=Paired.mapP h λz z r=>RU.mono p r
theorem RF.mono{fs:List (Nat×U)}{fv:List (Str×V)}(p:∀(n:Nat) a,α[n]?=some a->α'[n]?=some a)(h:RF T A α fs fv):RF T A α' fs fv:=Paired.mapP h λz z r=>⟨r.1,r.2.mono p⟩
theorem RD.mono{fs:List (U×U)}{fv:List (Key×V)}(p:∀(n:Nat) a,α[n]?=some a->α'[n]?=some a)(h:RD A α fs fv):RD A α' fs fv:=Paired.mapP h λz z r=>⟨r.1,r.2.mono p⟩
theorem RT.mono{fs:List (List U×U)}{fv:List (List Key×V)}(p:∀(n:Nat) a,α[n]?=some a->α'[n]?=some a)(h:RT A α fs fv):RT A α' fs fv:=Paired.mapP h λz z r=>⟨r.1,r.2.mono p⟩
theorem RS.mono(p:∀(n:Nat) a,α[n]?=some a->α'[n]?=some a)(h:RS A α Z Y):RS A α' Z Y:=⟨h.len,λi u e=>by obtain⟨v,e1,r⟩:=h.val i u e;exact⟨v,e1,r.mono p⟩⟩
def Ext.refl:Ext α α H H:=⟨λz z e=>e,λn a e l=>by
 have:=(Xa.mp e).1
 omega,λz z e z=>e,λz z z e=>e,λz o e=>⟨o,e,λz=>Tu⟩⟩
def getElem?_lt(e:α[n]?=some a):n < α.length:=(Xa.mp e).1
theorem Ext.trans(a:Ext α α1 H H1)(b:Ext α1 α2 H1 H2)(R:RH T A α2 h2 H2):Ext α α2 H H2 where
 fz:=λc o kv e=>b.fz c o kv (a.fz c o kv e)
 pre:=λn x e=>b.pre n x (a.pre n x e)
 tr:=λc o e=>by
  obtain⟨o1,e1,q1⟩:=a.tr c o e;obtain⟨o2,e2,q2⟩:=b.tr c o1 e1;exact⟨o2,e2,λvs=>(q1 vs).trans (q2 vs)⟩
 new:=λn x e l=>by
  by_cases hn:n < α1.length
  ·have e1:α1[n]?=some α1[n]:=Xk hn;have e2:=b.pre n _ e1;rw[e]at e2;cases e2;exact a.new n _ e1 l
  ·cases q:H x with
   |none=>exact .inl rfl
   |some o=>
    obtain⟨o1,e1,q1⟩:=a.tr x o q
    rcases b.new n x e (by omega)with z|⟨vs,z⟩
    ·rw[e1]at z;cases z
    ·rw[e1]at z;cases z;exact .inr ⟨vs,congrArg some ((q1 vs).mpr rfl)⟩
 keep:=λc o e hc=>by
  by_cases hm:c∈α1
  ·obtain⟨n,hn⟩:=Wx hm;by_cases l:n < α.length
   ·have e1:α[n]?=some α[n]:=Xk l;have:=a.pre n _ e1;rw[hn]at this;cases this;exact absurd (Tr l) hc
   ·rcases a.new n c hn (by omega)with z|⟨vs,z⟩
    ·rw[z]at e;cases e
    ·rw[e]at z;cases z;obtain⟨o1,e1,q1⟩:=a.tr c _ e;obtain⟨o2,e2,q2⟩:=b.tr c o1 e1;rw[e2,((q1 vs).trans (q2 vs)).mp rfl]
  ·exact b.keep c o (a.keep c o e hc) hm
def RO.trk(h:RO T A α H a o):∃x,H a=some x/\(∀ob u,x≠.frz ob (.lst u))/\∀ob u,x≠.frz ob (.xd u):=by
 cases o with
 |lst xs=>obtain⟨vs,e,_⟩:=h;exact⟨_,e,(λy y z=>nomatch z),λy y z=>nomatch z⟩
 |tup xs=>obtain⟨vs,e,_⟩:=h;exact⟨_,e,(λy y z=>nomatch z),λy y z=>nomatch z⟩
 |ins c fs=>obtain⟨dx,fv,e,_⟩:=h;exact⟨_,e,(λy y z=>nomatch z),λy y z=>nomatch z⟩
 |dic _=>obtain⟨kv,e,_⟩:=h;exact⟨_,e,(λy y z=>nomatch z),λy y z=>nomatch z⟩
 |dct _=>obtain⟨kv,e,_⟩:=h;exact⟨_,e,(λy y z=>nomatch z),λy y z=>nomatch z⟩
 |fzd _=>obtain⟨kv,ob,e,_⟩:=h;exact⟨_,e,(λy y z=>nomatch z),λy y z=>nomatch z⟩
 |fzt _=>obtain⟨kv,ob,e,_⟩:=h;exact⟨_,e,(λy y z=>nomatch z),λy y z=>nomatch z⟩
 |err _ _=>obtain⟨dd,e,_⟩:=h;exact⟨_,e,(λy y z=>nomatch z),λy y z=>nomatch z⟩
def RH.trk(R:RH T A α hs H)(e:α[n]?=some a):∃o,hs[n]?=some o/\RO T A α H a o:=by
 have l:=getElem?_lt e;rw[R.len]at l;exact⟨hs[n],Xk l,R.ob n a _ e (Xk l)⟩
def RH.adr(R:RH T A α hs H)(e:hs[n]?=some o):∃a,α[n]?=some a/\RO T A α H a o:=by
 have l:n<hs.length:=(Xa.mp e).1;rw[<-R.len]at l;exact⟨α[n],Xk l,R.ob n _ _ (Xk l) e⟩
def RH.notIn(R:RH T A α hs H)(h:H p=none):p∉α:=λm=>by
 obtain⟨n,e⟩:=Wx m;obtain⟨o,_,r⟩:=R.trk e;obtain⟨x,e,_⟩:=r.trk;rw[h]at e;cases e
def RH.nd_keep(R:RH T A α hs H)(k:∀b x,b∈α->H b=some x->H' b=some x):∀(i j:Nat) a,α[i]?=some a->α[j]?=some a->i=j\/∃vs,H' a=some (.tup vs):=λi j a e1 e2=>
 (R.nd i j a e1 e2).imp id λz=>by obtain⟨vs,q⟩:=z;exact⟨vs,k a _ (Xp e1) q⟩
def QdJ(h:∀(i j:Nat) a,α[i]?=some a->α[j]?=some a->i=j\/∃vs,H a=some (.tup vs))(n:p∉α):∀(i j:Nat) a,(α++[p])[i]?=some a->(α++[p])[j]?=some a->i=j\/∃vs,H a=some (.tup vs):=λi j a e1 e2=>by
 have cs:∀{k:Nat},(α++[p])[k]?=some a->α[k]?=some a\/(k=α.length/\a=p):=λ{k} e=>by
  by_cases l:k < α.length
  ·rw[Wi l]at e;exact .inl e
  ·rw[X5 (by omega)]at e
   have:=(Xa.mp e).1;simp at this
   have hk:k=α.length:=by omega
   subst hk;simp at e;exact .inr ⟨rfl,e.symm⟩
 rcases cs e1 with q1|⟨q1,w1⟩
 ·rcases cs e2 with q2|⟨q2,w2⟩
  ·exact h i j a q1 q2
  ·exact absurd (w2▸Xp q1) n
 ·rcases cs e2 with q2|⟨q2,w2⟩
  ·exact absurd (w1▸Xp q2) n
  ·exact .inl (q1.trans q2.symm)
def RO.keep(h:RO T A α H a o)(p:∀(n:Nat) a,α[n]?=some a->α'[n]?=some a)(k:∀b x,H b=some x->(b=a\/∃o fs,x=.frz o (.xd fs))->H' b=some x):RO T A α' H' a o:=by
 have kx:=k;have k:=λx e=>kx a x e (.inl rfl)
 cases o with
 |lst xs=>obtain⟨vs,e,r⟩:=h;exact⟨vs,k _ e,RUs.mono p r⟩
 |tup xs=>obtain⟨vs,e,r⟩:=h;exact⟨vs,k _ e,RUs.mono p r⟩
 |ins c fs=>obtain⟨dx,fv,e,r,l⟩:=h;exact⟨dx,fv,k _ e,RF.mono p r,l⟩
 |dic _=>obtain⟨kv,e,r⟩:=h;exact⟨kv,k _ e,RD.mono p r⟩
 |dct _=>obtain⟨kv,e,r⟩:=h;exact⟨kv,k _ e,RT.mono p r⟩
 |fzd _=>obtain⟨kv,ob,e,r⟩:=h;exact⟨kv,ob,k _ e,RD.mono p r⟩
 |fzt _=>obtain⟨kv,ob,e,r⟩:=h;exact⟨kv,ob,k _ e,RT.mono p r⟩
 |err _ _=>obtain⟨dd,e,l,q⟩:=h;exact⟨dd,k _ e,l,q.fz λb o fs e=>kx b _ e (.inr ⟨o,fs,rfl⟩)⟩
def Scr.keep(h:Scr T A K H)(k:∀x,H A.s=some x->(∃o u,x=.frz o (.lst u))->H' A.s=some x):Scr T A K H':=by
 obtain⟨vs,r,q|q⟩:=h
 ·obtain⟨o,e⟩:=q;exact⟨vs,r,.inl ⟨o,k _ e ⟨_,_,rfl⟩⟩⟩
 ·exact⟨vs,r,.inr q⟩
def Scr.sq(h:Scr T A K H):∃vs,RUs A α T.scr vs/\SqL K H A.s vs:=by
 obtain⟨vs,r,q⟩:=h
 refine⟨vs,RUs.mono (λn a e=>by simp at e) r,?_⟩
 rcases q with⟨o,e⟩|q
 ·exact .inl (.inr ⟨o,e⟩)
 ·exact .inr q
def Q3:(α++[p])[α.length]?=some p:=by simp
def QR:∀(n:Nat) a,α[n]?=some a->(α++[p])[n]?=some a:=λn a e=>by
 rw[Wi (getElem?_lt e)];exact e
def QZ{β:Type}{l:List β}{p a:β}(e:(l++[p])[n]?=some a):l[n]?=some a\/(n=l.length/\a=p):=by
 by_cases h:n<l.length
 ·rw[Wi h]at e;exact .inl e
 ·rw[X5 (by omega)]at e
  have:n-l.length=0:=by
   cases q:n-l.length with
   |zero=>rfl
   |succ k=>rw[q]at e;simp at e
  rw[this]at e;simp at e
  exact .inr ⟨by omega,e.symm⟩
def Rep.new(R:Rep T A K α hs H)(hp:H p=none)(r:RO T A (α++[p]) (upd H p ho) p o):Rep T A K (α++[p]) (hs++[o]) (upd H p ho)/\Ext α (α++[p]) H (upd H p ho):=by
 have ne:∀b x,H b=some x->b≠p:=λb x e z=>by rw[z,hp]at e;cases e
 refine⟨⟨⟨by simp[R.h.len],QdJ (R.h.nd_keep λb x y e=>by rw[Qc (ne _ _ e)];exact e) (R.h.notIn hp),λn a ob e1 e2=>?_⟩,R.s.keep λx e y=>by rw[Qc (ne _ _ e)];exact e⟩,⟨QR,λn a e l=>?_,λb x e y=>by rw[Qc (ne _ _ e)];exact e,λb x kv e=>by rw[Qc (ne _ _ e)];exact e,λb x e=>⟨x,by rw[Qc (ne _ _ e)];exact e,λy=>Tu⟩⟩⟩
 ·rcases QZ e1 with q|⟨q1,q2⟩
  ·rcases QZ e2 with z|⟨z,_⟩
   ·exact RO.keep (R.h.ob n a ob q z) QR λy x e y=>by rw[Qc (ne _ _ e)];exact e
   ·have:=getElem?_lt q;rw[R.h.len]at this;omega
  ·subst q2
   rcases QZ e2 with z|⟨_,z⟩
   ·have:=(Xa.mp z).1;rw[<-R.h.len]at this;omega
   ·subst z;exact r
 ·rcases QZ e with q|⟨_,q⟩
  ·have:=getElem?_lt q;omega
  ·rw[q];exact .inl hp
def Rep.side(R:Rep T A K α hs H)(hp:H p=none):Rep T A K α hs (upd H p ho)/\Ext α α H (upd H p ho):=by
 have k:∀b x,H b=some x->upd H p ho b=some x:=λb x e=>by rw[Qc (λz=>by rw[z,hp]at e;cases e)];exact e
 exact⟨⟨⟨R.h.len,R.h.nd_keep λb x y e=>k b x e,λn a o e1 e2=>RO.keep (R.h.ob n a o e1 e2) (λy y e=>e) λb x e y=>k b x e⟩,R.s.keep λx e y=>k _ x e⟩,⟨λy y e=>e,λn a e l=>absurd (getElem?_lt e) (Nat.not_lt.mpr l),λb x e y=>k b x e,λb x u e=>k b _ e,λb x e=>⟨x,k b x e,λy=>Tu⟩⟩⟩
def Rep.put0(R:Rep T A K α hs H)(ha:α[n]?=some a)(r:RO T A α (upd H a ho) a o)(ht:∀vs,H a≠some (.tup vs):=by intro _ z;simp only[*,Ws,reduceCtorEq]at z):Rep T A K α (hs.set n o) (upd H a ho):=by
 have ta:=R.h.trk ha;obtain⟨o0,_,r0⟩:=ta;obtain⟨x0,e0,nf,nx⟩:=r0.trk
 have nd:∀(i j:Nat) c,α[i]?=some c->α[j]?=some c->i=j\/∃vs,upd H a ho c=some (.tup vs):=λi j c e1 e2=>by
  rcases R.h.nd i j c e1 e2 with q|⟨vs,q⟩
  ·exact .inl q
  ·exact .inr ⟨vs,by rw[Qc (λ(z:c=a)=>ht vs (z▸q))];exact q⟩
 refine⟨⟨by simp[R.h.len],nd,λm b ob e1 e2=>?_⟩,R.s.keep λx e z=>?_⟩
 ·by_cases hm:m=n
  ·subst hm;rw[ha]at e1;cases e1
   have l:m<hs.length:=by rw[<-R.h.len];exact getElem?_lt ha
   rw[Xr l]at e2;cases e2;exact r
  ·rw[Xe (X8 hm)]at e2
   have hb:b≠a:=λz=>by
    rcases R.h.nd m n a (z▸e1) ha with q|⟨vs,q⟩
    ·exact hm q
    ·exact ht vs q
   refine RO.keep (R.h.ob m b ob e1 e2) (λy y e=>e) λc x e w=>?_
   rcases w with rfl|⟨oz,fs,rfl⟩
   ·rw[Qc hb];exact e
   ·rw[Qc (λz=>by rw[z,e0]at e;cases e;exact nx _ _ rfl)];exact e
 ·obtain⟨ob,u,z⟩:=z
  have hb:A.s≠a:=λq=>by rw[q,e0]at e;cases e;exact nf _ _ z
  rw[Qc hb];exact e
def Rep.put(R:Rep T A K α hs H)(ha:α[n]?=some a)(r:RO T A α (upd H a ho) a o)(hz:∀ob u,H a≠some (.frz ob u):=by intro _ _ z;simp only[*,Ws,reduceCtorEq]at z)(ht:∀vs,H a≠some (.tup vs):=by intro _ z;simp only[*,Ws,reduceCtorEq]at z)(hh:∀vs,ho≠.tup vs:=by intro _ z;cases z):Rep T A K α (hs.set n o) (upd H a ho)/\Ext α α H (upd H a ho):=by
 refine⟨R.put0 ha r ht,⟨λy y e=>e,λm b e l=>by have:=getElem?_lt e;omega,λb x e hb=>?_,λb ob kv e=>?_,λb x e=>?_⟩⟩
 ·have hb':b≠a:=λz=>hb (z▸Xp ha);rw[Qc hb'];exact e
 ·have hb':b≠a:=λz=>hz ob kv (z▸e);rw[Qc hb'];exact e
 ·by_cases hb':b=a
  ·subst hb';exact⟨ho,Qh,λvs=>⟨λz=>absurd (z▸e) (ht vs),λz=>absurd z (hh vs)⟩⟩
  ·exact⟨x,by rw[Qc hb'];exact e,λy=>Tu⟩
def RS.get(R:RS A α Z Y){i:Nat}{u:U}(e:Z[i]?=some (some u)):∃v,Y[i]?=some (some v)/\RU A α u v:=R.val i u e
theorem RS.set(R:RS A α Z Y)(i:Nat)(r:RU A α u v):RS A α (Z.set i (some u)) (Y.set i (some v)):=by
 refine⟨by simp[R.len],λj w e=>?_⟩
 by_cases h:j=i
 ·subst h
  have l:j < Z.length:=by
   have:=(Xa.mp e).1;simpa using this
  rw[Xr l]at e;cases e
  exact⟨v,Xr (by rw[<-R.len];exact l),r⟩
 ·rw[Xe (X8 h)]at e;rw[Xe (X8 h)];exact R.val j w e
end
def flE(A:Adr)(α:List Addr)(D:Ends)(Y:St)(H:Hp):Fl->Prop
 |.next=>D.nx Y H
 |.brk=>D.bk Y H
 |.cont=>D.ct Y H
 |.ret u=>∀v,RU A α u v->D.rt v H
section
variable (T:Tbl)(A:Adr)(K:W.Frag)
def TI(f:Rho->Hs->Option (U×Hs)):TE:=λY H Q=>∃α Z hs u hs',RS A α Z Y/\Rep T A K α hs H/\f Z hs=some (u,hs') /\
 ∀α' v H',Ext α α' H H'->Rep T A K α' hs' H'->RU A α' u v->Q v H'
def TIT(f:Rho->Hs->Option (Bool×Hs)):TT:=λY H Q=>∃α Z hs u hs',RS A α Z Y/\Rep T A K α hs H/\f Z hs=some (u,hs') /\
 ∀α' H',Ext α α' H H'->Rep T A K α' hs' H'->Q u H'
def TIA(f:Rho->Hs->Option (List U×Hs)):TA:=λY H Q=>∃α Z hs us hs',RS A α Z Y/\Rep T A K α hs H/\f Z hs=some (us,hs') /\
 ∀α' vs H',Ext α α' H H'->Rep T A K α' hs' H'->RUs A α' us vs->Q vs H'
def TIS(f:Ex):TS:=λD Y H=>∃α Z hs fl ρ' hs',RS A α Z Y/\Rep T A K α hs H/\f Z hs=some (fl,ρ',hs') /\
 ∀α' Y' H',Ext α α' H H'->Rep T A K α' hs' H'->RS A α' ρ' Y'->flE A α' D Y' H' fl
end
section
variable {A:Adr}{K:W.Frag}{α:List Addr}{Z:Rho}{Y:St}{hs h1:Hs}
def TI.run{f:Rho->Hs->Option (U×Hs)}{u:U}{Q:VK}(rs:RS A α Z Y)(rp:Rep T A K α hs H)(h:f Z hs=some (u,h1))
  (k:∀α1 v H1,Ext α α1 H H1->Rep T A K α1 h1 H1->RU A α1 u v->RS A α1 Z Y->Q v H1):TI T A K f Y H Q :=
 ⟨α,Z,hs,u,h1,rs,rp,h,λα1 v H1 e r q=>k α1 v H1 e r q (rs.mono e.pre)⟩
def TIT.run{f:Rho->Hs->Option (Bool×Hs)}{u:Bool}{Q:Bool->Hp->Prop}(rs:RS A α Z Y)(rp:Rep T A K α hs H)(h:f Z hs=some (u,h1))
  (k:∀α1 H1,Ext α α1 H H1->Rep T A K α1 h1 H1->RS A α1 Z Y->Q u H1):TIT T A K f Y H Q :=
 ⟨α,Z,hs,u,h1,rs,rp,h,λα1 H1 e r=>k α1 H1 e r (rs.mono e.pre)⟩
def TIA.run{f:Rho->Hs->Option (List U×Hs)}{us:List U}{Q:List V->Hp->Prop}(rs:RS A α Z Y)(rp:Rep T A K α hs H)(h:f Z hs=some (us,h1))
  (k:∀α1 vs H1,Ext α α1 H H1->Rep T A K α1 h1 H1->RUs A α1 us vs->RS A α1 Z Y->Q vs H1):TIA T A K f Y H Q :=
 ⟨α,Z,hs,us,h1,rs,rp,h,λα1 v H1 e r q=>k α1 v H1 e r q (rs.mono e.pre)⟩
end
section
variable {X:Cx}
def Za{t t':TE}(h:PE X e t)(i:∀Y H Q,t' Y H Q->t Y H Q):PE X e t':=λpins s Y H Q I q=>h pins s Y H Q I (i Y H Q q)
def QiW{t t':TT}(h:PT X e t)(i:∀Y H Q,t' Y H Q->t Y H Q):PT X e t':=λpins s Y H Q I q=>h pins s Y H Q I (i Y H Q q)
def Qmh{t t':TT}(h:PW X e t)(i:∀Y H Q,t' Y H Q->t Y H Q):PW X e t':=λwh pins s Y H Q I q=>h wh pins s Y H Q I (i Y H Q q)
def Qmi{es:List Expr}{t t':TA}(h:PA X es t)(i:∀Y H Q,t' Y H Q->t Y H Q):PA X es t':=λpos pins s Y H Q I q=>h pos pins s Y H Q I (i Y H Q q)
def Yr{st:Stmt}{t t':TS}(h:PS X st t)(i:∀D Y H,t' D Y H->t D Y H):PS X st t':=λpins s Y H D I q=>h pins s Y H D I (i D Y H q)
def Qgw{st:List Stmt}{t t':TS}(h:PSs X st t)(i:∀D Y H,t' D Y H->t D Y H):PSs X st t':=λpins s Y H D I q=>h pins s Y H D I (i D Y H q)
end
end
section
variable {A:Adr}{C:Ctx}{X:Cx}{us:List U}{vs:List V}{x:Str}{mg:Str->Option Value}{T:Tbl}
noncomputable def tyV:Ty->String
 |.non=>"NoneType"|.bool=>"bool"|.int=>"int"|.str=>"str"|.list=>"list"|.tuple=>"tuple"|.dict=>"dict"|.cls _=>"object"|.vale=>"ValueError"
noncomputable def tyW(A:Adr):Ty->Value
 |.cls c=>.ref (A.c c)
 |t=>.type (tyV t)
structure ClOk(T:Tbl)(A:Adr)(K:W.Frag)(i:Nat)(C:Cl):Prop where
 cls:Cls K (A.c i)
 nf:∀x∈T.fns',NoAttr K (A.c i) x
 me:∀m f,C.meths.lookup m=some f->∃x,T.mns[m]?=some x/\Meth K (A.c i) x (A.f f)
 mks:W.makesIn K (A.c i)=true
 kp:W.keepIn K (.ref (A.c i))=true
 ini:match C.init with
  |some f=>W.findIn K (.ref (A.c i)) "__init__"=some (some (.ref (A.f f)))/\W.isFn K (.ref (A.f f))= true
  |none=>W.findIn K (.ref (A.c i)) "__init__"=some (some (.builtin "object.__init__"))
 ty:∀(H:Hp) (a dx:Addr) (fs:List (Str×V)),H a=some (.ins (A.c i) dx fs)->TyOf K H (.ref a) (.ref (A.c i))
structure FunD(K:W.Frag)(x qual:Str)(st:Stmt)(f:Addr)(fd:FuncData):Prop where
 ex:∃(oc:Value) (od:Option Addr) (dV kV doc pm:Value) (an:Option Addr) (cdv ct:Value) (osl:Array (Option Value)),
  fd=W.fnOf x qual (Qbs st) (Z7 st) (QT st) dV kV doc pm an cdv ct/\K.lookup f=some ⟨oc,od,.func fd,osl⟩/\W.codeIn K cdv qual=true
 kp:W.keepIn K (.ref f)=true
def FunD.ok{P:Program}{w:World}{K:W.Frag}{base:Heap}{qual:Str}{st:Stmt}{f:Addr}{fd:FuncData}{N ps:List Str}{k:Nat}{sp:Sp}(F:FunD K x qual st f fd)(S:FnScope N ps (QT st))(len:∀vs H Q E,sp vs H Q E->vs.length=ps.length)
  (hbody:∀(cdv:Value) (A:Around) (outer:List Env) (s:Shared) (H:Hp) (vs:List V) (Q:VK) (E:XK),Room k (A.deeper (envOfC qual (QT st) s.heap.objs.size f cdv))->sp vs H Q E ->
   ∃t,PSs (Qgq CX0 P w K mg base N qual (QT st) f cdv A outer s H E).nox (Z7 st) t/\t {nx:=λz H'=>Q .non H',rt:=Q} (start N vs) H):FnOk P w K mg base CX0 (k+1) f fd ps sp:=by
 obtain⟨oc,od,dV,kV,doc,pm,an,cdv,ct,osl,rfl,lk,hcd⟩:=F.ex;refine Qob lk hcd S len λA outer s H vs Q E hr hsp=>?_;obtain⟨t,h,q⟩:=hbody cdv A outer s H vs Q E hr hsp;exact⟨t,h.nox,q⟩
def FunD.same{K:W.Frag}{y q q':Str}{st st':Stmt}{f:Addr}{fd fd':FuncData}(a:FunD K x q st f fd)(b:FunD K y q' st' f fd'):fd=fd':=by
 obtain⟨_,_,_,_,_,_,_,_,_,_,_,l1,_⟩:=a.ex;obtain⟨_,_,_,_,_,_,_,_,_,_,_,l2,_⟩:=b.ex;rw[l1]at l2;cases l2;rfl
def Qi5(A:Adr)(K:W.Frag)(fd:FuncData)(D:Df):Prop:=∃(ds:List Value) (dvs:List V),RUs A [] D.ds dvs/\Vals dvs ds/\(∀n,Binds K fd D.ps (ds.drop n))
structure Txt(T:Tbl)(A:Adr)(K:W.Frag)(mg:Str->Option Value):Prop where
 fn:∀i F,T.fns[i]?=some F->∃fd,FunD K F.name F.qual F.st (A.f i) fd/\Binds K fd F.ps []/\FnScope F.N F.ps (QT F.st)/\F.ps.length=F.np/\F.N.length=F.nN
 df:∀i D,T.dfl.lookup i=some D->∃fd x q st,FunD K x q st (A.f i) fd/\Qi5 A K fd D/\∀F,T.fns[i]?=some F->F.ps=D.ps/\F.np=D.np
 cl:∀i C,T.cls[i]?=some C->ClOk T A K i C
 fm:∀x∈T.fns',x∉T.mns
 fd:T.fns'.Nodup
 isi:∀k t b,T.isi.lookup (k,t)=some b->W.kitOne K (tyW A k) (tyW A t)=some b
 co:∀k c,T.cons[k]?=some c->match c with
  |Co.tup xs=>∃vs,RUs A [] xs vs/\∀H,SqT K H (A.k k) vs
  |Co.lst xs=>∃vs,RUs A [] xs vs/\∀H,SqL K H (A.k k) vs
  |Co.tab _=>True
def Qfp:U->Key->Prop
 |.int i 0,k=>k=.inl i
 |.str x,k=>k=.inr ⟨x.toArray⟩
 |_,_=>False
def QaW(P:Program)(w:World)(T:Tbl)(A:Adr)(K:W.Frag):Prop:=∀k kvs,T.cons[k]?=some (.tab kvs) ->
 ∃vs:List (Key×Value),(A.k k==sysModules)=false/\(∀h:Heap,K.In h->h.DictOf (QK P w) (A.k k) vs)/\Paired (λ(p:U×U) (q:Key×Value)=>Qfp p.1 q.1/\∃v,RU A [] p.2 v/\RelV v q.2) kvs vs
structure GX(T:Tbl)(A:Adr)(C:Ctx)(X:Cx):Prop where
 CT:C.T=T
 N:X.N=C.N
 nd:X.N.Nodup
 sc:X.env.scope.names=C.names
 calm:hdC C=false->X.calm=true
 kind:X.env.scope.kind=.function
 xe:X.xe=λ_ _=>False
 gfn:∀x i,C.gl.lookup x=some (.fn i)->X.mg x=some (.ref (A.f i))
 gcl:∀x i,C.gl.lookup x=some (.cls i)->X.mg x=some (.ref (A.c i))
 gco:∀x k,C.gl.lookup x=some (.con k)->X.mg x=some (.ref (A.k k))
 gtx:∀x t,C.gl.lookup x=some (.txt t)->∃v w,X.mg x=some w/\RelV v w/\∀α,RU A α t v
 blt:∀x,¬C.bl.contains x=false->X.mg x=none
 txt:Txt T A X.K X.mg
 tab:QaW X.prog X.w T A X.K
def spC(T:Tbl)(A:Adr)(K:W.Frag)(cf:Cf)(f:Nat):Sp:=λvs H Q z=>∃α us hs u hs',RUs A α us vs/\Rep T A K α hs H/\cf f us hs=some (u,hs')/\(∃F,T.fns[f]?=some F/\us.length=F.np) /\
 ∀α' v H',Ext α α' H H'->Rep T A K α' hs' H'->RU A α' u v->Q v H'
def spX(T:Tbl)(A:Adr)(K:W.Frag)(xf:Nat->List U->Hs->Option (Er×Hs))(f:Nat):Sp:=λvs H z E=>∃α us hs c hs',RUs A α us vs/\Rep T A K α hs H/\xf f us hs=some (c,hs')/\(∃F,T.fns[f]?=some F/\us.length=F.np) /\
 ∀α' H' dd,Ext α α' H H'->Rep T A K α' hs' H'->EF T H' c dd->E (.ref (A.c c.1)) dd H'
theorem Zz{x:Str}:∀{N:List Str} {i:Nat},idx x N=some i->N[i]?=some x
 |[],_,h=>by simp[idx]at h
 |y::r,i,h=>by
  unfold idx at h;split at h
  ·rename_i e;cases h;simp[e]
  ·cases q:idx x r with
   |none=>rw[q]at h;cases h
   |some j=>
    rw[q]at h;cases h;simpa using Zz q
def Qjj(g:GX T A C X)(h:Qfq C x=true):Vis X.env.scope x:=by
 unfold Qfq at h;unfold Vis;rw[g.sc];split at h<;>simp_all
def QaA(g:GX T A C X)(h:QaG C x=true):L2.Loc X.env.scope x:=by
 unfold QaG at h;unfold L2.Loc;rw[g.sc];split at h<;>simp_all
def Zc(g:GX T A C X)(h:Yx C x=true):Gl X x:=by
 unfold Yx at h;show X.env.scope.names.lookup x=some .globalImplicit;rw[g.sc];split at h
 ·assumption
 ·cases h
def Zj{y:Str}(h:x≠y):(x==y)=false:=by simpa using h
def Zw{o:Expr}{f:Str}{env:Env}{w:Sem Value}(h:Zy o=true):attributeBase o f env w=w:=by
 unfold attributeBase;split
 ·cases h
 ·rfl
def Jq{b:Expr}(h:ZT b=true):Qep b:=by
 intro o i
 cases b<;>first|rfl|cases h
def Qn{e:Expr}{es:List Expr}{env:Env}(h:∀x p,e≠.Starred x p):starEach (e::es) env=(false,eval e env)::starEach es env:=by
 cases e<;>first|rfl|exact absurd rfl (h _ _)
def YE(es:List Expr):Prop:=∀e∈es,∀x p,e≠.Starred x p
theorem Zv{env:Env}{pos:Pos}:∀{es:List Expr},YE es->(backTo pos (starEach es env)).any (·.1)=false
 |[],_=>rfl
 |e::r,h=>by
  rw[Qn (h e (Xm ..))];have ih:=Zv (env:=env) (pos:=pos) (es:=r) λx hx=>h x (Xi _ hx);unfold backTo at ih ⊢;rw[X1,V5,ih];rfl
def Qs{m:Nat}{e:Expr}{ir:E}(h:Qf m C e=some ir):∀x p,e≠.Starred x p:=by
 rintro x p rfl
 cases m<;>first|exact Znn h|simp[Qf]at h
theorem QF{C:Ctx}:∀{m:Nat} {es:List Expr} {irs:List E},compA m C es=some irs->YE es
 |0,_,_,h=>by simp[compA]at h
 |m+1,[],_,_=>λz h=>nomatch h
 |m+1,e::r,irs,h=>by
  simp only[compA,Xc]at h;obtain⟨e',he,r',hr,_⟩:=h;intro x hx
  rcases Xd.mp hx with rfl|hx
  ·exact Qs he
  ·exact QF hr x hx
section
variable {K:W.Frag}{α:List Addr}{hs:Hs}{H:Hp}{u:U}{v:V}
theorem RUs.length(r:RUs A α us vs):us.length=vs.length:=W7 r
def RUs.get{i:Nat}{u:U}(h:RUs A α us vs)(e:us[i]?=some u):∃v,vs[i]?=some v/\RU A α u v:=Q8 h e
def RUs.append{ws:List U}{ys:List V}(h:RUs A α us vs)(h':RUs A α ws ys):RUs A α (us++ws) (vs++ys):=QbQ h h'
def Yv{xs:List U}{K':W.Frag}(tx:Txt T A K mg)(R:Rep T A K α hs H)(h:ZJ T u hs=some xs)(r:RU A α u v):∃a vs,v=.ref a/\RUs A α xs vs/\(SqL K H a vs\/SqT K H a vs):=by
 cases u with
 |ref n=>
  obtain⟨a,ha,rfl⟩:=r;simp only[ZJ]at h;split at h
  ·rename_i ys e;cases h;obtain⟨vs,q,rr⟩:=R.h.ob n a _ ha e;exact⟨a,vs,rfl,rr,.inl (SqL.of q)⟩
  ·rename_i ys e;cases h;obtain⟨vs,q,rr⟩:=R.h.ob n a _ ha e;exact⟨a,vs,rfl,rr,.inr (SqT.of q)⟩
  ·cases h
 |con k=>
  simp only[ZJ]at h;split at h
  ·rename_i ys e;cases h;obtain⟨vs,rr,q⟩:=tx.co k _ e
   exact⟨_,vs,r,RUs.mono (λn a e=>by simp at e) rr,.inl (q H)⟩
  ·rename_i ys e;cases h;obtain⟨vs,rr,q⟩:=tx.co k _ e
   exact⟨_,vs,r,RUs.mono (λn a e=>by simp at e) rr,.inr (q H)⟩
  ·cases h
 |scr=>
  simp only[ZJ]at h;cases h;obtain⟨vs,rr,q⟩:=R.s.sq (α:=α);exact⟨_,vs,r,rr,.inl q⟩
 |_=>simp[ZJ]at h
def ZO(x:List Nat):({cps:=x.toArray}:Str).length=x.length:=by simp[Str.length]
def big:(1000000:Nat)<=sizeLine:=by decide
def Qc4{b:Bool}(tx:Txt T A K mg)(R:Rep T A K α hs H)(h:Zo T u hs=some b)(r:RU A α u v):Qmg K v H b:=by
 have sq:∀{xs:List U},ZJ T u hs=some xs->b=!xs.isEmpty->Qmg K v H b:=λ{xs} e1 e2=>by
  obtain⟨a,vs,rfl,rr,q⟩:=Yv (K':=K) tx R e1 r
  have e3:b=!vs.isEmpty:=by
   rw[e2];cases rr<;>rfl
  rcases q with q|q
  ·exact .inl ⟨vs,q,e3⟩
  ·exact .inr (.inl ⟨vs,q,e3⟩)
 cases u with
 |non=>simp only[Zo]at h;cases h;cases r;rfl
 |bl c=>simp only[Zo]at h;cases h;cases r;rfl
 |int i m=>
  cases m with
  |zero=>
   simp only[Zo]at h;cases h;obtain⟨j,rfl,c⟩:=r;cases c.exact;show decide (i≠0)=(i != 0);by_cases q:i=0<;>simp[q]
  |succ m=>simp[Zo,ZJ]at h
 |str x=>
  simp only[Zo]at h;split at h
  ·rename_i l;cases h;cases(show v=.str ⟨x.toArray⟩from r)
   refine⟨by rw[ZO];exact X3 l big,?_⟩
   rw[ZO];cases x<;>simp;omega
  ·cases h
 |ref n=>
  simp only[Zo,Xb]at h;obtain⟨xs,e1,e2⟩:=h;exact sq e1 e2.symm
 |con n=>
  simp only[Zo,Xb]at h;obtain⟨xs,e1,e2⟩:=h;exact sq e1 e2.symm
 |scr=>
  simp only[Zo,Xb]at h;obtain⟨xs,e1,e2⟩:=h;exact sq e1 e2.symm
end
end
section
variable {i i' j:Int}{m:Nat}
def Qgu{j':Int}{n:Nat}(a:Cg i' i m)(b:Cg j' j n):Cg (i'+j') (i+j) (gz m n):=by
 obtain⟨p,rfl⟩:=a;obtain⟨q,rfl⟩:=b
 cases m with
 |zero=>exact⟨q,by simp[gz];omega⟩
 |succ m=>
  obtain⟨x,hx⟩:=Nat.gcd_dvd_left (m+1) n;obtain⟨y,hy⟩:=Nat.gcd_dvd_right (m+1) n;refine⟨x*p+y*q,?_⟩
  have e1:((m+1:Nat):Int)=(Nat.gcd (m+1) n:Int)*(x:Int):=by
   have:=congrArg (λz:Nat=>(z:Int)) hx;simpa using this
  have e2:(n:Int)=(Nat.gcd (m+1) n:Int)*(y:Int):=by
   have:=congrArg (λz:Nat=>(z:Int)) hy;simpa using this
  show i+((m+1:Nat):Int)*p+(j+(n:Int)*q)=i+j+(Nat.gcd (m+1) n:Int)*(x*p+y*q);rw[Int.mul_add,<-T7,<-T7,<-e1,<-e2];omega
def Qgt(a:Cg i' i m):Cg (-i') (-i) m:=by
 obtain⟨p,rfl⟩:=a
 exact⟨-p,by rw[Int.mul_neg];omega⟩
def QlW{j':Int}{n:Nat}(a:Cg i' i m)(b:Cg j' j n):Cg (i'-j') (i-j) (gz m n):=by
 have:=Qgu a (Qgt b);rw[Int.sub_eq_add_neg,Int.sub_eq_add_neg];exact this
def QlX(a:Cg i' i m):Cg (i'*j) (i*j) (m*j.natAbs):=by
 obtain⟨p,rfl⟩:=a
 rcases Int.natAbs_eq j with e|e
 ·refine⟨p,?_⟩;rw[Int.add_mul,Ur,<-e,Int.mul_right_comm]
 ·refine⟨-p,?_⟩
  have e':(j.natAbs:Int)=-j:=by omega
  rw[Int.add_mul,Ur,e',Int.mul_neg,Int.mul_neg,Int.neg_mul,Int.neg_neg,Int.mul_right_comm]
def QlZ(a:Cg i' i m)(hj:0<j)(hd:m % j.toNat=0):Cg (i' / j) (i / j) (m / j.toNat):=by
 obtain⟨p,rfl⟩:=a
 have e:(m:Int)=j*((m / j.toNat:Nat):Int):=by
  have h:=Nat.div_add_mod m j.toNat;rw[hd,Td]at h;have h2:=congrArg (λz:Nat=>(z:Int)) h
  have h3:((j.toNat:Nat):Int)=j:=by omega
  simp only[Ur,h3]at h2;exact h2.symm
 refine⟨p,?_⟩
 rw[e,T7,Int.add_mul_ediv_left _ _ (by omega)]
def QlY(a:Cg i' i m)(hj:0<j)(hd:m % j.toNat=0):i' % j=i % j:=by
 obtain⟨p,rfl⟩:=a
 have e:(m:Int)=j*((m / j.toNat:Nat):Int):=by
  have h:=Nat.div_add_mod m j.toNat;rw[hd,Td]at h;have h2:=congrArg (λz:Nat=>(z:Int)) h
  have h3:((j.toNat:Nat):Int)=j:=by omega
  simp only[Ur,h3]at h2;exact h2.symm
 rw[e,T7,Int.add_mul_emod_self_left]
def Zp(h:Qq i=true):-(2 ^ 64) < i/\i<2 ^ 64:=by
 unfold Qq at h;rw[Xl,Xw,Xw]at h;exact h
def QgY(x y:List Nat):({cps:=x.toArray}:Str)++({cps:=y.toArray}:Str)={cps:=(x++y).toArray}:=by
 show Str.append _ _=_;simp[Str.append]
def OpS(X:Cx)(T:Tbl)(A:Adr)(o:Operator):Prop:=∃r,OpR X (binaryOp o) r/\∀{α:List Addr} {u w u':U} {hs hs':Hs} {v y:V} {H:Hp} {Q:VK},opU o u w hs=some (u',hs')->RU A α u v->RU A α w y->Rep T A X.K α hs H ->
 (∀α' v' H',Ext α α' H H'->Rep T A X.K α' hs' H'->RU A α' u' v'->Q v' H')->r v y H Q
section
variable {X:Cx}{T:Tbl}{A:Adr}
def Qfe{o:Operator}(h:∀u w hs,opU o u w hs=none):OpS X T A o:=⟨λz z z z=>False,λz z z z z z z z z z z z h=>h.elim,λe=>by rw[h]at e;cases e⟩
def QdF{o:Operator}{f:U->U->Option U}{r:R2}(ho:OpR X (binaryOp o) r)(hf:∀u w hs,opU o u w hs=(f u w).map λz=>(z,hs))
  (h:∀{α:List Addr} {u w z:U} {v y:V} {H:Hp} {Q:VK},f u w=some z->RU A α u v->RU A α w y->(∀v',RU A α z v'->Q v' H)->r v y H Q):OpS X T A o:=by
 refine⟨r,ho,?_⟩;intro α u w u' hs hs' v y H Q e ru rw R k;rw[hf,Xb]at e;obtain⟨z,e,q⟩:=e;cases q;exact h e ru rw λv' r'=>k α v' H Ext.refl R r'
def Zx{α:List Addr}{v:V}(r:RU A α (.int i 0) v):v=.int i:=by
 obtain⟨j,rfl,c⟩:=r;cases c.exact;rfl
def QhP:OpS X T A .Sub:=QdF QkH (λx x x=>rfl) λ{α u w z v y H Q} h ru rw k=>by
 unfold Qm4 at h;split at h
 ·cases h;obtain⟨i',rfl,a⟩:=ru;obtain⟨j',rfl,b⟩:=rw;exact⟨i',j',rfl,rfl,k _ ⟨_,rfl,QlW a b⟩⟩
 ·cases h
def QhO:OpR X (binaryOp .Mult) (rI IntMulOk λi j=>.int (i*j)):=opI λz z z z z z z hc q=>mul_int q hc
def Qek(h:Qel i=true):Builtin.Int.intBits i<=4096:=by
 have h:=Vt h;unfold Builtin.Int.intBits;split
 ·omega
 ·rename_i z
  have n0:i.natAbs≠0:=by simpa using z
  exact Nat.succ_le_of_lt ((Nat.log2_lt n0).mpr h)
def QkZ(h:(Qq i||Qq j||(Qel i&&Qel j))=true):IntMulOk i j:=by
 rw[V2,V2,Xl]at h
 rcases h with(h|h)|h
 ·exact CMul.ok (.inl (Zp h))
 ·exact CMul.ok (.inr (Zp h))
 ·have h1:=Qek h.1;have h2:=Qek h.2;unfold IntMulOk
  have:Builtin.Int.intTooBig (Builtin.Int.intBits i+Builtin.Int.intBits j)=false:=by
   unfold Builtin.Int.intTooBig;rw[bitsLine_eq]
   exact X6 (by omega)
  rw[this];simp
theorem RUs.rep{α:List Addr}{us:List U}{vs:List V}(r:RUs A α us vs):∀n:Nat,RUs A α (List.replicate n us).flatten (List.replicate n vs).flatten
 |0=>.nil
 |n+1=>by
  rw[Vv,Vv,Vs,Vs];exact RUs.append r (RUs.rep r n)
def QhR:OpS X T A .Mult:=by
 refine⟨_,OpR.or QhO QkI,?_⟩;intro α u w u' hs hs' v y H Q e ru rw R k;by_cases isr:∃a,u=.ref a
 ·obtain⟨a,rfl⟩:=isr;simp only[opU]at e;unfold Qnf at e;split at e
  ·rename_i xs j e1;split at e
   ·rename_i c;cases e;cases Zx rw;obtain⟨pa,ha,rfl⟩:=ru;obtain⟨vs,q1,r1⟩:=R.h.ob _ pa _ ha e1;refine .inr ⟨pa,j,vs,rfl,rfl,q1,c.1,c.2.1,?_,λp hp=>?_⟩
    ·rw[<-r1.length];exact X3 c.2.2 big
    ·obtain⟨R',E'⟩:=R.new (o:=.lst (List.replicate j.toNat xs).flatten) hp ⟨_,Qh,RUs.mono QR (r1.rep j.toNat)⟩
     exact k _ _ _ E' R' ⟨p,by rw[<-R.h.len];exact Q3,rfl⟩
   ·cases e
  ·cases e
 have e:(Qk0 u w).map (λr=>(r,hs))=some (u',hs'):=by
  cases u with
  |ref a=>exact absurd ⟨a,rfl⟩ isr
  |_=>exact e
 rw[Xb]at e;obtain⟨z,h,q⟩:=e;cases q;refine .inl ?_;have k:∀v',RU A α u' v'->Q v' H:=λv' r'=>k α v' H Ext.refl R r';unfold Qk0 at h;split at h
 ·split at h
  ·rename_i c;cases h;cases Zx ru;cases Zx rw;exact⟨_,_,rfl,rfl,QkZ c,k _ ⟨_,rfl,Cg.refl _ _⟩⟩
  ·cases h
 ·split at h
  ·rename_i c;cases h;obtain⟨i',rfl,a⟩:=ru;cases Zx rw;exact⟨i',_,rfl,rfl,CMul.ok (.inr (Zp c)),k _ ⟨_,rfl,QlX a⟩⟩
  ·cases h
 ·cases h
def QoK(i j:Int):Prop:=0<j/\j<1606938044258990275541962092341162602522202993782792835301376
def Qfd{X:Cx}:OpR X (binaryOp .FloorDiv) (rI QoK λi j=>.int (i / j)):=opI λi j y y y y y hc q=>by
 have h1:(0:Int) < j:=hc.1;have h2:j<1606938044258990275541962092341162602522202993782792835301376:=hc.2
 have h3:j.natAbs.log2<9000:=by
  have h4:j.natAbs<2 ^ 9000:=Wg (show j.natAbs<2 ^ 200 by omega) (Nat.pow_le_pow_right (by decide) (by decide))
  rcases Nat.eq_zero_or_pos j.natAbs with z|z
  ·rw[z];decide
  ·exact(Nat.log2_lt (by omega)).mpr h4
 exact floordiv_int (by omega) (by rw[Int.fdiv_eq_ediv_of_nonneg i (by omega)];exact q) (.inl (PyProof.noPylong_of_log2 h3))
def Qff:OpS X T A .FloorDiv:=QdF Qfd (λx x x=>rfl) λ{α u w z v y H Q} h ru rw k=>by
 unfold QlR at h;split at h
 ·split at h
  ·rename_i c;cases h;cases Zx ru;cases Zx rw;simp only[Xl,Xw]at c;exact⟨_,_,rfl,rfl,c,k _ ⟨_,rfl,Cg.refl _ _⟩⟩
  ·cases h
 ·split at h
  ·rename_i c;cases h;obtain⟨i',rfl,a⟩:=ru;cases Zx rw;simp only[Xl,Xw]at c;exact⟨i',_,rfl,rfl,c.1,k _ ⟨_,rfl,QlZ a c.1.1 c.2⟩⟩
  ·cases h
 ·cases h
def QhS:OpS X T A .Mod:=QdF QkM (λx x x=>rfl) λ{α u w z v y H Q} h ru rw k=>by
 unfold Qh0 at h;split at h
 ·split at h
  ·rename_i c;cases h;cases Zx ru;cases Zx rw;exact⟨_,_,rfl,rfl,c,k _ ⟨_,rfl,Cg.refl _ _⟩⟩
  ·cases h
 ·split at h
  ·rename_i c;cases h;obtain⟨i',rfl,a⟩:=ru;cases Zx rw;simp only[Xl,Xw]at c
   exact⟨i',_,rfl,rfl,c.1,k _ ⟨_,rfl,by rw[QlY a c.1 c.2];exact Cg.refl _ _⟩⟩
  ·cases h
 ·cases h
def QhQ:OpS X T A .Pow:=⟨λz z z z=>False,λpins s Y H x y v u Q I rx ry h=>h.elim,λ{α u w u' hs hs' v y H Q} e=>Znn e⟩
def QhT:OpS X T A .Add:=by
 refine⟨_,OpR.or QkU (OpR.or Qcr QkT),?_⟩;intro α u w u' hs hs' v y H Q h ru rw R k;have h:ZG u w hs=some (u',hs'):=h;unfold ZG at h;split at h
 ·cases h;obtain⟨i',rfl,a⟩:=ru;obtain⟨j',rfl,b⟩:=rw;exact .inl ⟨i',j',rfl,rfl,k α _ H Ext.refl R ⟨_,rfl,Qgu a b⟩⟩
 ·split at h
  ·rename_i c;cases h;cases(show v=_ from ru);cases(show y=_ from rw);refine .inr (.inl ⟨_,_,rfl,rfl,?_,k α _ H Ext.refl R ?_⟩)
   ·rw[ZO,ZO];exact X3 c big
   ·rw[QgY];rfl
  ·cases h
 ·rename_i a b;obtain⟨pa,ha,rfl⟩:=ru;obtain⟨pb,hb,rfl⟩:=rw;split at h
  ·rename_i ox oy e1 e2;have o1:=R.h.ob _ pa _ ha e1;have o2:=R.h.ob _ pb _ hb e2;unfold Qor at h;split at h
   ·rename_i xs ys;split at h
    ·rename_i c;cases h;obtain⟨vs,q1,r1⟩:=o1;obtain⟨ws,q2,r2⟩:=o2;refine .inr (.inr ⟨pa,pb,vs,ws,rfl,rfl,q1,q2,?_,λp hp=>?_⟩)
     ·rw[<-r1.length,<-r2.length];exact X3 c big
     ·obtain⟨R',E'⟩:=R.new (o:=.lst (xs++ys)) hp ⟨_,Qh,RUs.mono QR (r1.append r2)⟩
      exact k _ _ _ E' R' ⟨p,by rw[<-R.h.len];exact Q3,rfl⟩
    ·cases h
   ·cases h
  ·cases h
 ·cases h
def opS(o:Operator):OpS X T A o:=by
 cases o with
 |Add=>exact QhT
 |Sub=>exact QhP
 |Mult=>exact QhR
 |FloorDiv=>exact Qff
 |Mod=>exact QhS
 |Pow=>exact QhQ
 |_=>exact Qfe λu w hs=>rfl
end
end
section
variable {xs:List U}
section
variable {X:Cx}{T:Tbl}{A:Adr}{α:List Addr}{hs:Hs}{H:Hp}{u w:U}{v y:V}
def Zf(tx:Txt T A X.K X.mg)(R:Rep T A X.K α hs H)(h:QU T u hs=some xs)(r:RU A α u v):∃a vs,v=.ref a/\RUs A α xs vs/\SqL X.K H a vs:=by
 cases u with
 |ref n=>
  obtain⟨a,ha,rfl⟩:=r;simp only[QU]at h;split at h
  ·rename_i ys e;cases h;obtain⟨vs,q,rr⟩:=R.h.ob n a _ ha e;exact⟨a,vs,rfl,rr,SqL.of q⟩
  ·cases h
 |con k=>
  simp only[QU]at h;split at h
  ·rename_i ys e;cases h;obtain⟨vs,rr,q⟩:=tx.co k _ e
   exact⟨_,vs,r,RUs.mono (λn a e=>by simp at e) rr,q H⟩
  ·cases h
 |scr=>
  simp only[QU]at h;cases h;obtain⟨vs,rr,q⟩:=R.s.sq (α:=α);exact⟨_,vs,r,rr,q⟩
 |_=>simp[QU]at h
def JI(tx:Txt T A X.K X.mg)(R:Rep T A X.K α hs H)(h:ZY T u hs=some xs)(r:RU A α u v):∃a vs,v=.ref a/\RUs A α xs vs/\SqT X.K H a vs:=by
 cases u with
 |ref n=>
  obtain⟨a,ha,rfl⟩:=r;simp only[ZY]at h;split at h
  ·rename_i ys e;cases h;obtain⟨vs,q,rr⟩:=R.h.ob n a _ ha e;exact⟨a,vs,rfl,rr,SqT.of q⟩
  ·cases h
 |con k=>
  simp only[ZY]at h;split at h
  ·rename_i ys e;cases h;obtain⟨vs,rr,q⟩:=tx.co k _ e
   exact⟨_,vs,r,RUs.mono (λn a e=>by simp at e) rr,q H⟩
  ·cases h
 |_=>simp[ZY]at h
noncomputable def scP:U->PyData
 |.bl b=>.bool b
 |.int i _=>.int i
 |.str x=>.str ⟨x.toArray⟩
 |_=>.none
noncomputable def toP(T:Tbl):Nat->U->Hs->PyData
 |0,_,_=>.none
 |n+1,u,hs=>match QU T u hs with
  |some xs=>.list (xs.map λx=>toP T n x hs)
  |none=>match ZY T u hs with
   |some xs=>.tuple (xs.map λx=>toP T n x hs)
   |none=>scP u
def Qan{h:Heap}{f:U->PyData}{vs:List V}{its:List Value}(r:RUs A α xs vs)(q:Vals vs its)(k:∀x∈xs,∀v u,RU A α x v->RelV v u->∃as,Reads h u (f x) as):∃as,ReadsAll h its (xs.map f) as:=by
 induction r generalizing its with
 |nil=>cases q;exact⟨[],.nil⟩
 |cons r _ ih=>
  cases q with
  |cons q p=>
   obtain⟨as,h1⟩:=k _ Xm _ _ r q;obtain⟨bs,h2⟩:=ih p λx m=>k x (Xi _ m);exact⟨as++bs,.cons h1 h2⟩
theorem ZD{pins:List (Addr×Obj)}{s:Shared}{Y:L2.St}(tx:Txt T A X.K X.mg)(I:Inv X pins Y H s)(R:Rep T A X.K α hs H):∀(n:Nat) {u:U} {v:V} {z:Value},okW T n u hs=true->RU A α u v->RelV v z->∃as,Reads s.heap z (toP T n u hs) as
 |0,_,_,_,h,_,_=>by cases h
 |n+1,u,v,z,h,r,q=>by
  have ih:=λ{u:U} {v:V} {z:Value}=>ZD tx I R n (u:=u) (v:=v) (z:=z);simp only[okW,toP]at h ⊢
  cases el:QU T u hs with
  |some xs=>
   rw[el]at h;have h:=Xv.mp h;obtain⟨a,vs,rfl,rr,sq⟩:=Zf tx R el r;cases q;obtain⟨its,rv,pl,_⟩:=I.list sq;obtain⟨o,ho,hc,m,hd⟩:=pl.isList;obtain⟨as,ra⟩:=Qan (h:=s.heap) (f:=λx=>toP T n x hs) rr rv λx m v u h1 h2=>ih (h x m) h1 h2;exact⟨_,.list ho hc hd ra⟩
  |none=>
   rw[el]at h
   cases et:ZY T u hs with
   |some xs=>
    rw[et]at h;have h:=Xv.mp h;obtain⟨a,vs,rfl,rr,sq⟩:=JI tx R et r;cases q;obtain⟨its,rv,pl,_⟩:=I.tuple sq;obtain⟨o,ho,hc,m,hd⟩:=pl;obtain⟨as,ra⟩:=Qan (h:=s.heap) (f:=λx=>toP T n x hs) rr rv λx m v u h1 h2=>ih (h x m) h1 h2;exact⟨_,.tuple ho hc hd ra⟩
   |none=>
    rw[et]at h
    cases u with
    |non=>cases(show v=_ from r);cases q;exact⟨[],.none⟩
    |bl b=>cases(show v=_ from r);cases q;exact⟨[],.bool b⟩
    |int i m=>
     have h:(m==0)=true:=h;have h:=eq_of_beq h;subst h;cases Zx r;obtain⟨t,rfl⟩:=q;exact⟨[],.int i t⟩
    |str x=>cases(show v=_ from r);obtain⟨t,rfl⟩:=q;exact⟨[],.str _ t⟩
    |_=>cases h
theorem Qbm{f:U->PyData}{n:Nat}:∀{xs:List U},(∀x∈xs,(f x).canLay0=true/\(f x).depth<=n)->PyData.canLayAll0 (xs.map f)=true/\PyData.depthAll (xs.map f)<=n
 |[],_=>⟨rfl,Vw _⟩
 |x::r,h=>by
  obtain⟨h1,h2⟩:=h x Xm;obtain⟨h3,h4⟩:=Qbm (xs:=r) λy m=>h y (Xi _ m);refine⟨?_,?_⟩
  ·show((f x).canLay0&&PyData.canLayAll0 (r.map f))=true;rw[h1,h3];rfl
  ·show max (f x).depth (PyData.depthAll (r.map f))<=n;omega
theorem YD:∀(n:Nat) {u:U},okW T n u hs=true->(toP T n u hs).canLay0=true/\(toP T n u hs).depth<=n
 |0,_,h=>by cases h
 |n+1,u,h=>by
  have ih:=λ(u:U)=>YD n (u:=u);simp only[okW,toP]at h ⊢
  cases el:QU T u hs with
  |some xs=>
   rw[el]at h;obtain⟨h1,h2⟩:=Qbm (f:=λx=>toP T n x hs) (n:=n) λx m=>ih x (Xv.mp h x m);exact⟨h1,Nat.succ_le_succ h2⟩
  |none=>
   rw[el]at h
   cases et:ZY T u hs with
   |some xs=>
    rw[et]at h;obtain⟨h1,h2⟩:=Qbm (f:=λx=>toP T n x hs) (n:=n) λx m=>ih x (Xv.mp h x m);exact⟨h1,Nat.succ_le_succ h2⟩
   |none=>
    rw[et]at h
    cases u with
    |str x=>
     refine⟨?_,Vw _⟩;show PyData.strOk ⟨x.toArray⟩=true;unfold PyData.strOk;have h:=Xv.mp h;rw[Array.all_eq_true'];intro c hc
     have:=Vt (h c (by simpa using hc))
     exact Wt (by omega)
    |non=>exact⟨rfl,Vw _⟩
    |bl b=>exact⟨rfl,Vw _⟩
    |int i m=>exact⟨rfl,Vw _⟩
    |_=>cases h
theorem Qbp{f:U->PyData}{g:U->U->Bool}:∀{xs ys:List U},(∀x∈xs,∀y∈ys,PyData.eqv (f x) (f y)=g x y)->PyData.eqvAll (xs.map f) (ys.map f)=((xs.length==ys.length)&&(xs.zip ys).all λp=>g p.1 p.2)
 |[],[],_=>rfl
 |[],_::_,_=>rfl
 |_::_,[],_=>rfl
 |x::r,y::t,h=>by
  have h1:=h x Xm y Xm;have h2:=Qbp (xs:=r) (ys:=t) λa ma b mb=>h a (Xi _ ma) b (Xi _ mb);show(PyData.eqv (f x) (f y)&&PyData.eqvAll (r.map f) (t.map f))=_;rw[h1,h2];simp only[Wj,List.zip_cons_cons,Uo]
  have e:(r.length+1==t.length+1)=(r.length==t.length):=by simp
  rw[e];cases g x y<;>cases(r.length==t.length)<;>simp
def QgX{x y:List Nat}:((⟨x.toArray⟩:Str)==⟨y.toArray⟩)=(x==y):=by
 by_cases h:x=y
 ·subst h;simp
 ·have:(⟨x.toArray⟩:Str)≠⟨y.toArray⟩:=λz=>h (by
   have:=congrArg (λs:Str=>s.cps.toList) z
   simpa using this)
  rw[Wu.mpr this,Wu.mpr h]
theorem Qb5:∀(n:Nat) {u w:U},okW T n u hs=true->okW T n w hs=true->PyData.eqv (toP T n u hs) (toP T n w hs)=eqW T n u w hs
 |0,_,_,h,_=>by cases h
 |n+1,u,w,h,h'=>by
  have ih:=λ(u w:U)=>Qb5 n (u:=u) (w:=w);simp only[okW,toP,eqW]at h h' ⊢
  cases el:QU T u hs with
  |some xs=>
   rw[el]at h
   cases el':QU T w hs with
   |some ys=>
    rw[el']at h';exact Qbp (g:=λa b=>eqW T n a b hs) λx mx y my=>ih x y (Xv.mp h x mx) (Xv.mp h' y my)
   |none=>
    rw[el']at h'
    cases et':ZY T w hs with
    |some ys=>rfl
    |none=>rw[et']at h';cases w<;>first|rfl|(cases h';done)
  |none=>
   rw[el]at h
   cases et:ZY T u hs with
   |some xs=>
    rw[et]at h
    cases el':QU T w hs with
    |some ys=>rfl
    |none=>
     rw[el']at h'
     cases et':ZY T w hs with
     |some ys=>
      rw[et']at h';exact Qbp (g:=λa b=>eqW T n a b hs) λx mx y my=>ih x y (Xv.mp h x mx) (Xv.mp h' y my)
     |none=>rw[et']at h';cases w<;>first|rfl|(cases h';done)
   |none=>
    rw[et]at h
    cases el':QU T w hs with
    |some ys=>cases u<;>first|rfl|(cases h;done)
    |none=>
     rw[el']at h'
     cases et':ZY T w hs with
     |some ys=>cases u<;>first|rfl|(cases h;done)
     |none=>
      rw[et']at h'
      cases u<;>first|(cases h;done)|(cases w<;>first|(cases h';done)|rfl|exact QgX)
def Qo6(T:Tbl)(A:Adr)(K:W.Frag)(neg:Bool):R2:=λx y H Q=>∃α u w hs,RU A α u x/\RU A α w y/\Rep T A K α hs H/\okW T 20 u hs=true/\okW T 20 w hs=true/\Q (.bl (if neg then !(eqW T 20 u w hs)else eqW T 20 u w hs)) H
def Yc{d:PyData}{n:Nat}(h:d.canLay0=true/\d.depth<=n)(hn:n<=64):SeqAt.shaped d=true:=by
 unfold SeqAt.shaped;rw[h.1,U3];exact Wt (X3 h.2 hn)
def QkS(tx:Txt T A X.K X.mg)(hu:X.A.units+64<cLine):OpR X (compareOp .Eq) (Qo6 T A X.K false):=by
 intro pins s Y H x y v u Q I rx ry h;obtain⟨α,u1,w1,hs,r1,r2,R,o1,o2,q⟩:=h;obtain⟨as,ra⟩:=ZD tx I R 20 o1 r1 rx;obtain⟨bs,rb⟩:=ZD tx I R 20 o2 r2 ry
 refine eq_dataH ra rb (Yc (YD 20 o1) (by decide)) (Yc (YD 20 o2) (by decide)) hu ?_
 rw[Qb5 20 o1 o2];exact⟨.bl _,H,I,rfl,q⟩
def Qo2(T:Tbl)(A:Adr)(K:W.Frag)(b:Bool):R2:=λx y H Q=>∃α u w hs,RU A α u x/\RU A α w y/\Rep T A K α hs H/\Jg T u w hs=true/\Q (.bl b) H
def QbY{pins:List (Addr×Obj)}{s:Shared}{Y:L2.St}{H:Hp}{α:List Addr}{hs:Hs}{u w:U}{x y:V}{v z:Value}(tx:Txt T A X.K X.mg)(I:Inv X pins Y H s)(R:Rep T A X.K α hs H)(h:Jg T u w hs=true)(r1:RU A α u x)(r2:RU A α w y)(rx:RelV x v)(ry:RelV y z):
  ∃(a b:Addr) (i1 i2:List Value),v=.ref a/\z=.ref b/\s.heap.IsList a i1.toArray/\s.heap.IsList b i2.toArray/\(i1.toArray.size != i2.toArray.size)=true:=by
 unfold Jg at h;split at h
 ·rename_i xs ys e1 e2;obtain⟨a,vs,rfl,rr,sq⟩:=Zf tx R e1 r1;obtain⟨b,ws,rfl,rr',sq'⟩:=Zf tx R e2 r2;obtain⟨i1,q1,p1,_⟩:=I.list sq;obtain⟨i2,q2,p2,_⟩:=I.list sq';cases rx;cases ry;have l1:=rr.length;have l2:=rr'.length;have l3:=q1.length;have l4:=q2.length;have h:=Vt h;refine⟨a,b,i1,i2,rfl,rfl,p1.isList,p2.isList,?_⟩;simp only[Xq,bne_iff_ne,ne_eq];omega
 ·cases h
def QkR(tx:Txt T A X.K X.mg)(hu:X.A.units+64<cLine):OpR X (compareOp .Eq) (Qo2 T A X.K false):=by
 intro pins s Y H x y v u Q I rx ry h;obtain⟨α,u1,w1,hs,r1,r2,R,o1,q⟩:=h;obtain⟨a,b,i1,i2,rfl,rfl,p1,p2,z⟩:=QbY tx I R o1 r1 r2 rx ry
 exact SeqAt.RcAt.lists_lengths p1 p2 z (by omega) _ _ _ _ ⟨.bl _,H,I,rfl,q⟩
def QkK(tx:Txt T A X.K X.mg)(hu:X.A.units+64<cLine):OpR X (compareOp .NotEq) (Qo2 T A X.K true):=by
 intro pins s Y H x y v u Q I rx ry h;obtain⟨α,u1,w1,hs,r1,r2,R,o1,q⟩:=h;obtain⟨a,b,i1,i2,rfl,rfl,p1,p2,z⟩:=QbY tx I R o1 r1 r2 rx ry
 exact SeqAt.RcNeAt.lists_lengths p1 p2 z (by omega) _ _ _ _ ⟨.bl _,H,I,rfl,q⟩
def Qj9(T:Tbl)(A:Adr)(K:W.Frag)(b:Bool):R2:=λx y H Q=>∃α u w hs,RU A α u x/\RU A α w y/\Rep T A K α hs H/\Qa5 T u w hs=true/\Q (.bl b) H
def QcY{α:List Addr}{vs ws:List V}{i1 i2:List Value}(h:(xs.all λx=>match x with|.ref _=>true|_=>false)=true)(r1:RUs A α xs vs)(r2:RUs A α xs ws)(q1:Vals vs i1)(q2:Vals ws i2):i1=i2:=by
 induction xs generalizing vs ws i1 i2 with
 |nil=>cases r1;cases r2;cases q1;cases q2;rfl
 |cons x xs ih=>
  rw[Uo,Xl]at h
  cases r1 with
  |cons a r1=>
   cases r2 with
   |cons b r2=>
    cases q1 with
    |cons c q1=>
     cases q2 with
     |cons d q2=>
      rw[ih h.2 r1 r2 q1 q2]
      cases x with
      |ref n=>
       obtain⟨p,hp,rfl⟩:=a;obtain⟨p',hp',rfl⟩:=b;rw[hp]at hp';cases hp';cases c;cases d;rfl
      |_=>exact absurd h.1 (by simp)
def QbI{pins:List (Addr×Obj)}{s:Shared}{Y:L2.St}{H:Hp}{α:List Addr}{hs:Hs}{u w:U}{x y:V}{v z:Value}(tx:Txt T A X.K X.mg)(I:Inv X pins Y H s)(R:Rep T A X.K α hs H)(h:Qa5 T u w hs=true)(r1:RU A α u x)(r2:RU A α w y)(rx:RelV x v)(ry:RelV y z):
  ∃(a b:Addr) (i1:List Value),v=.ref a/\z=.ref b/\s.heap.IsList a i1.toArray/\s.heap.IsList b i1.toArray:=by
 unfold Qa5 at h;split at h
 ·rename_i xs ys e1 e2;rw[Xl]at h;obtain⟨h0,h⟩:=h;have h0:=Vt h0;subst h0;obtain⟨a,vs,rfl,rr,sq⟩:=Zf tx R e1 r1;obtain⟨b,ws,rfl,rr',sq'⟩:=Zf tx R e2 r2;obtain⟨i1,q1,p1,_⟩:=I.list sq;obtain⟨i2,q2,p2,_⟩:=I.list sq';cases rx;cases ry;cases QcY h rr rr' q1 q2;exact⟨a,b,i1,rfl,rfl,p1.isList,p2.isList⟩
 ·cases h
def QkQ(tx:Txt T A X.K X.mg)(hu:X.A.units+64<cLine):OpR X (compareOp .Eq) (Qj9 T A X.K true):=by
 intro pins s Y H x y v u Q I rx ry h;obtain⟨α,u1,w1,hs,r1,r2,R,o1,q⟩:=h;obtain⟨a,b,i1,rfl,rfl,p1,p2⟩:=QbI tx I R o1 r1 r2 rx ry
 have rc:=SeqAt.RcAt.lists (A:=X.A) (e:=λz=>true) p1 p2 rfl (by omega) λj h1 h2=>SeqAt.EqAt.same _
 have al:(List.range i1.toArray.size).all (λz=>true)=true:=by simp
 rw[al]at rc;exact rc _ _ _ _ ⟨.bl _,H,I,rfl,q⟩
def QkJ(tx:Txt T A X.K X.mg)(hu:X.A.units+64<cLine):OpR X (compareOp .NotEq) (Qj9 T A X.K false):=by
 intro pins s Y H x y v u Q I rx ry h;obtain⟨α,u1,w1,hs,r1,r2,R,o1,q⟩:=h;obtain⟨a,b,i1,rfl,rfl,p1,p2⟩:=QbI tx I R o1 r1 r2 rx ry
 have rc:=SeqAt.RcNeAt.lists (A:=X.A) (e:=λz=>true) p1 p2 rfl (by omega) λj h1 h2=>SeqAt.EqAt.same _
 have al:(!(List.range i1.toArray.size).all (λz=>true))=false:=by simp
 rw[al]at rc;exact rc _ _ _ _ ⟨.bl _,H,I,rfl,q⟩
def QkL(tx:Txt T A X.K X.mg)(hu:X.A.units+64<cLine):OpR X (compareOp .NotEq) (Qo6 T A X.K true):=by
 intro pins s Y H x y v u Q I rx ry h;obtain⟨α,u1,w1,hs,r1,r2,R,o1,o2,q⟩:=h;obtain⟨as,ra⟩:=ZD tx I R 20 o1 r1 rx;obtain⟨bs,rb⟩:=ZD tx I R 20 o2 r2 ry
 refine ne_dataH ra rb (Yc (YD 20 o1) (by decide)) (Yc (YD 20 o2) (by decide)) hu ?_
 rw[Qb5 20 o1 o2];exact⟨.bl _,H,I,rfl,q⟩
end
end
section
variable {u:U}{v:V}
section
variable {κ κ':Type}[DecidableEq κ][DecidableEq κ']{P:κ->κ'->Prop}{A:Adr}{α:List Addr}{w:κ}{k:κ'}
abbrev RG(P:κ->κ'->Prop)(A:Adr)(α:List Addr):List (κ×U)->List (κ'×V)->Prop:=Paired λp q=>P p.1 q.1/\RU A α p.2 q.2
def Inj(P:κ->κ'->Prop):Prop:=∀a b k l,P a k->P b l->(a=b↔k=l)
def RG.look(inj:Inj P)(hk:P w k){kvs:List (κ×U)}{kv:List (κ'×V)}(h:RG P A α kvs kv):(YG kvs w=none/\Qac kv k=none)\/∃u v,YG kvs w=some u/\Qac kv k=some v/\RU A α u v:=by
 induction h with
 |nil=>exact .inl ⟨rfl,rfl⟩
 | @cons p q _ _ r t ih=>
  by_cases h:p.1=w
  ·have h':q.1=k:=(inj _ _ _ _ r.1 hk).mp h
   exact .inr ⟨p.2,q.2,by simp[YG,Wz,h],by simp[Qac,Wz,h'],r.2⟩
  ·have h':¬q.1=k:=λz=>h ((inj _ _ _ _ r.1 hk).mpr z)
   have e1:∀l,YG (p::l) w=YG l w:=λl=>by simp[YG,Wz,h]
   have e2:∀l,Qac (q::l) k=Qac l k:=λl=>by simp[Qac,Wz,h']
   rw[e1,e2];exact ih
theorem RG.any(inj:Inj P)(hk:P w k){kvs:List (κ×U)}{kv:List (κ'×V)}(h:RG P A α kvs kv):(kvs.any λp=>decide (p.1=w))=(kv.any λp=>decide (p.1=k)):=by
 induction h with
 |nil=>rfl
 |cons r t ih=>rw[V5,V5,ih,decide_eq_decide.mpr (inj _ _ _ _ r.1 hk)]
def RG.repl(inj:Inj P)(hk:P w k)(ru:RU A α u v){kvs:List (κ×U)}{kv:List (κ'×V)}(h:RG P A α kvs kv):RG P A α (kvs.map λp=>if p.1=w then(p.1,u)else p) (kv.map λp=>if p.1=k then(p.1,v)else p):=by
 induction h with
 |nil=>exact .nil
 | @cons p q _ _ r t ih=>
  refine .cons ?_ ih;by_cases h:p.1=w
  ·have h':=(inj _ _ _ _ r.1 hk).mp h;simp only[h,h',Wo];exact⟨hk,ru⟩
  ·have h':¬q.1=k:=λz=>h ((inj _ _ _ _ r.1 hk).mpr z);simp only[h,h',V7];exact r
def RG.put(inj:Inj P)(hk:P w k)(ru:RU A α u v){kvs:List (κ×U)}{kv:List (κ'×V)}(r:RG P A α kvs kv):RG P A α (Qes kvs w u) (Qae kv k v):=by
 unfold Qes Qae;rw[RG.any inj hk r];split
 ·exact RG.repl inj hk ru r
 ·exact Paired.snoc r ⟨hk,ru⟩
def RG.merge(inj:Inj P){more:List (κ×U)}{mv:List (κ'×V)}(m:RG P A α more mv):∀{kvs:List (κ×U)} {kv:List (κ'×V)},RG P A α kvs kv->RG P A α (more.foldl (λacc p=>Qes acc p.1 p.2) kvs) (mv.foldl (λacc p=>Qae acc p.1 p.2) kv):=by
 induction m with
 |nil=>intro _ _ r;exact r
 |cons q _ ih=>intro _ _ r;exact ih (RG.put inj q.1 q.2 r)
end
def Qb3:Inj RK:=λa b k l h h'=>by
 cases a<;>cases b<;>simp only[RK]at h h'<;>first|exact h.elim|exact h'.elim|skip
 ·obtain⟨rfl,rfl⟩:=h;obtain⟨rfl,rfl⟩:=h';simp
 ·obtain⟨rfl,rfl⟩:=h;subst h';simp
 ·subst h;obtain⟨rfl,rfl⟩:=h';simp
 ·subst h h';simp
section
variable {X:Cx}{T:Tbl}{A:Adr}{K:W.Frag}{α:List Addr}{hs:Hs}{H:Hp}{n:Nat}{a:Addr}{o:O}{w:U}{y:V}
def QbZ(hk:QaY w=true)(r:RU A α w y):∃k,RK w k/\y=kV k:=by
 cases w with
 |int i m=>
  cases m with
  |zero=>obtain⟨j,rfl,c⟩:=r;cases c.exact;exact⟨Sum.inl i,⟨rfl,rfl⟩,rfl⟩
  |succ m=>cases hk
 |str x=>cases(show y=_ from r);exact⟨Sum.inr _,rfl,rfl⟩
 |_=>cases hk
def Qbr{r:Option U}(R:Rep T A K α hs H)(ho:hs[n]?=some o)(ha:α[n]?=some a)(h:QaK o w hs=some r)(rw':RU A α w y):(r=none/\DGet H a y none)\/∃u v,r=some u/\DGet H a y (some v)/\RU A α u v:=by
 cases o with
 |dic kvs=>
  obtain⟨kv,e,rd⟩:=R.h.ob n a _ ha ho;simp only[QaK]at h;split at h
  ·rename_i c;cases h;obtain⟨k,rk,rfl⟩:=QbZ c rw';have g:=DGet.k (k:=k) e
   rcases RG.look Qb3 rk rd with⟨h1,h2⟩|⟨u,v,h1,h2,h3⟩
   ·rw[h2]at g;exact .inl ⟨h1,g⟩
   ·rw[h2]at g;exact .inr ⟨u,v,h1,g,h3⟩
  ·cases h
 |fzd kvs=>
  obtain⟨kv,ob,e,rd⟩:=R.h.ob n a _ ha ho;simp only[QaK]at h;split at h
  ·rename_i c;cases h;obtain⟨k,rk,rfl⟩:=QbZ c rw';have g:DGet H a (kV k) (Qac kv k):=.inl ⟨kv,k,.inr ⟨ob,e⟩,rfl,rfl⟩
   rcases RG.look Qb3 rk rd with⟨h1,h2⟩|⟨u,v,h1,h2,h3⟩
   ·rw[h2]at g;exact .inl ⟨h1,g⟩
   ·rw[h2]at g;exact .inr ⟨u,v,h1,g,h3⟩
  ·cases h
 |_=>cases h
theorem RG.length{κ κ':Type}{P:κ->κ'->Prop}{kvs:List (κ×U)}{kv:List (κ'×V)}(r:RG P A α kvs kv):kvs.length=kv.length:=W7 r
def Qiz{hs':Hs}(R:Rep T A K α hs H)(ho:hs[n]?=some o)(ha:α[n]?=some a)(h:QfD n o w u hs=some hs')(rw':RU A α w y)(ru:RU A α u v):∃H',DPut H a y v H'/\Rep T A K α hs' H'/\Ext α α H H':=by
 cases o with
 |dic kvs=>
  obtain⟨kv,e,rd⟩:=R.h.ob n a _ ha ho;simp only[QfD]at h;split at h
  ·rename_i c;cases h;obtain⟨k,rk,rfl⟩:=QbZ c.1 rw';have l:=RG.length rd;obtain⟨R',E'⟩:=R.put (o:=.dic (Qes kvs w u)) (ho:=.dK (Qae kv k v)) ha ⟨_,Qh,RG.put Qb3 rk ru rd⟩
   exact⟨_,DPut.k e (Wg (by omega:kv.length<1000000) big),R',E'⟩
  ·cases h
 |_=>cases h
def Qnk:R2:=λx y H Q=>∃a v,x=.ref a/\DGet H a y (some v)/\Q v H
def Qh9(hu:X.A.units+1<cLine):IxR X Qnk:=by
 intro value slice pins s Y H x y v u Q I rx ry h hs;obtain⟨a,z,rfl,g,q⟩:=h;obtain rfl:v=Value.ref a:=rx;have hT:=Qbq I g;unfold subscriptTail;refine Xg ?_;rw[getitemInPython_of_ne hT.not_modules];refine Xg (T2 hT PySem.F.slot_dict_getitem.lookup ?_)
 have fin:wpAny (model X.prog X.w) X.A (subscripted slice false (.ref a) u) (λr s₃=>wpAny (model X.prog X.w) X.A (letTemporaryGo value (.ref a) r >>= λt=>pure r) (EP X pins Y Q) X.xe s₃) X.xe s:=by
  rw[hs];exact wpAny_operating (Qea hu I g ry λw' s3 I3 rw'=>Xg (wpAny_letTemporaryGo (Xu ⟨z,H,I3,rw',q⟩)))
 first
  |exact Xu (Xg fin)
  |exact Xg (Xu (Xg fin))
  |exact Xg fin
def Qnl(neg:Bool):R2:=λx y H Q=>∃a o,y=.ref a/\DGet H a x o/\Q (.bl (if neg then !o.isSome else o.isSome)) H
def QkP(hu:X.A.units+1<cLine):OpR X (compareOp .In) (Qnl false):=by
 intro pins s Y H x y v u Q I rx ry h;obtain⟨a,o,rfl,g,q⟩:=h;obtain rfl:u=Value.ref a:=ry;exact QqL hu I g rx λs3 I3=>⟨.bl o.isSome,H,I3,rfl,q⟩
def QdB(hu:X.A.units+1<cLine):OpR X (compareOp .NotIn) (Qnl true):=by
 intro pins s Y H x y v u Q I rx ry h;obtain⟨a,o,rfl,g,q⟩:=h;obtain rfl:u=Value.ref a:=ry;exact QiC hu I g rx λs3 I3=>⟨.bl (!o.isSome),H,I3,rfl,q⟩
def Qgg{w:U}{y:V}{c neg:Bool}{Q:VK}(R:Rep T A K α hs H)(h:inD T w u hs=some c)(ru:RU A α u v)(rw':RU A α w y)(q:Q (.bl (if neg then !c else c)) H):Qnl neg v y H Q\/QjA T w u=some c:=by
 unfold inD at h;split at h
 ·rename_i n;split at h
  ·rename_i o e;simp only[Xb]at h;obtain⟨r,h1,rfl⟩:=h;obtain⟨a,ha,rfl⟩:=rw'
   rcases Qbr R e ha h1 ru with⟨rfl,g⟩|⟨u',v',rfl,g,_⟩
   ·exact .inl ⟨a,none,rfl,g,q⟩
   ·exact .inl ⟨a,some v',rfl,g,q⟩
  ·cases h
 ·exact .inr h
def Qnj:V->V->V->Hp->(Hp->Prop)->Prop:=λo i v H Q=>∃a H',o=.ref a/\DPut H a i v H'/\Q H'
def QeW(hu:X.A.units+1<cLine):Qpw X Qnj:=by
 intro pins s Y H o i v ov iv u Q I ro ri rv h;obtain⟨a,H',rfl,g,q⟩:=h;obtain rfl:ov=Value.ref a:=ro;exact Qd9 hu I g ri rv λs4 I4=>⟨H',I4,q⟩
def Qnm:V->List V->Hp->VK->Prop:=λx vs H Q=>∃a y z o,x=.ref a/\vs=[y,z]/\DGet H a y o/\Q (o.getD z) H
def QhZ(hu:X.A.units+1<cLine):MtR X "dict.get" Qnm:=by
 intro pins s Y H x vs v us Q I rx rv h;obtain⟨a,y,z,o,rfl,rfl,g,q⟩:=h;cases rx;obtain⟨uk,uy,rfl,rk,ry⟩:=Qcf rv;exact QlU hu I g rk ry λw' s' I' rw'=>⟨o.getD z,H,I',rw',q⟩
end
end
section
variable {c:Bool}{H:Hp}{i:Int}{α:List Addr}{us:List U}{vs:List V}{u w x:U}{v y:V}{Q:VK}
section
variable {X:Cx}{T:Tbl}{A:Adr}
def Qok{j:Int}:decide (V.int i=V.int j)=decide (i=j):=by
 by_cases e:i=j
 ·subst e;simp
 ·have:¬V.int i=V.int j:=λq=>e (V.int.inj q);rw[X6 this,X6 e]
def Qoj{x y:List Nat}:decide (V.str ⟨x.toArray⟩=V.str ⟨y.toArray⟩)=decide (x=y):=by
 by_cases e:x=y
 ·subst e;simp
 ·have:¬V.str ⟨x.toArray⟩=V.str ⟨y.toArray⟩:=λq=>e (by
   have q1:=V.str.inj q;have q2:=congrArg (λs:Str=>s.cps.toList) q1
   simpa using q2)
  rw[X6 this,X6 e]
def Qol{x y:Bool}:decide (V.bl x=V.bl y)=decide (x=y):=by cases x<;>cases y<;>rfl
def Qgn(h:eqS u w=some c)(ru:RU A α u v)(rw':RU A α w y):Qm7 v y=true/\decide (v=y)=c:=by
 cases u with
 |non=>
  cases(show v=_ from ru)
  cases w with
  |non=>cases(show y=_ from rw');cases h;exact⟨rfl,rfl⟩
  |bl b=>cases(show y=_ from rw');cases h;exact⟨rfl,rfl⟩
  |int j n=>obtain⟨_,rfl,_⟩:=rw';cases h;exact⟨rfl,rfl⟩
  |str x=>cases(show y=_ from rw');cases h;exact⟨rfl,rfl⟩
  |_=>exact Znn h
 |bl b=>
  cases(show v=_ from ru)
  cases w with
  |non=>cases(show y=_ from rw');cases h;exact⟨rfl,rfl⟩
  |bl b=>cases(show y=_ from rw');cases h;exact⟨rfl,Qol⟩
  |str x=>cases(show y=_ from rw');cases h;exact⟨rfl,rfl⟩
  |_=>exact Znn h
 |str x=>
  cases(show v=_ from ru)
  cases w with
  |non=>cases(show y=_ from rw');cases h;exact⟨rfl,rfl⟩
  |bl b=>cases(show y=_ from rw');cases h;exact⟨rfl,rfl⟩
  |int j n=>obtain⟨_,rfl,_⟩:=rw';cases h;exact⟨rfl,rfl⟩
  |str z=>cases(show y=_ from rw');cases h;exact⟨rfl,Qoj⟩
  |_=>exact Znn h
 |int i m=>
  obtain⟨i',rfl,a⟩:=ru
  cases w with
  |non=>cases(show y=_ from rw');cases m<;>cases h<;>exact⟨rfl,rfl⟩
  |str x=>cases(show y=_ from rw');cases m<;>cases h<;>exact⟨rfl,rfl⟩
  |int j n=>
   obtain⟨j',rfl,b⟩:=rw'
   cases m with
   |succ m=>exact Znn h
   |zero=>
    cases n with
    |succ n=>exact Znn h
    |zero=>cases a.exact;cases b.exact;cases h;exact⟨rfl,Qok⟩
  |_=>cases m<;>exact Znn h
 |_=>cases w<;>exact Znn h
def Qbo(h:Y4 x=true)(r:RU A α x v):Jj v=true:=by
 cases x with
 |non=>cases(show v=_ from r);rfl
 |int i m=>obtain⟨_,rfl,_⟩:=r;rfl
 |str z=>cases(show v=_ from r);rfl
 |_=>cases h
def QlO{y:U}{w:V}(hx:Y4 x=true)(hy:Y4 y=true)(rx:RU A α x v)(ry:RU A α y w):eqV w v=eqF y x:=by
 cases y with
 |non=>
  cases(show w=_ from ry)
  cases x with
  |non=>cases(show v=_ from rx);rfl
  |int i m=>obtain⟨_,rfl,_⟩:=rx;rfl
  |str z=>cases(show v=_ from rx);rfl
  |_=>cases hx
 |str z=>
  cases(show w=_ from ry)
  cases x with
  |non=>cases(show v=_ from rx);rfl
  |int i m=>obtain⟨_,rfl,_⟩:=rx;rfl
  |str z'=>
   cases(show v=_ from rx);show(({cps:=z.toArray}:Str)=={cps:=z'.toArray})=decide (z=z');by_cases e:z=z'
   ·subst e;simp
   ·rw[X6 e,Wu];intro q;have q2:=congrArg (λs:Str=>s.cps.toList) q
    exact e (by simpa using q2)
  |_=>cases hx
 |int j n=>
  obtain⟨j',rfl,b⟩:=ry
  cases n with
  |succ n=>cases hy
  |zero=>
   cases b.exact
   cases x with
   |non=>cases(show v=_ from rx);rfl
   |str z=>cases(show v=_ from rx);rfl
   |int i m=>
    obtain⟨i',rfl,a⟩:=rx
    cases m with
    |succ m=>cases hx
    |zero=>
     cases a.exact;show(j==i)=decide (j=i);by_cases e:j=i<;>simp[e]
   |_=>cases hx
 |_=>cases hy
theorem QdY{α:List Addr}{x:U}{v:V}(hx:Y4 x=true)(rx:RU A α x v):∀{ys:List U} {ws:List V},RUs A α ys ws->ys.all Y4=true->ws.all Jj=true/\inV v ws=ys.any λy=>eqF y x
 |_,_,.nil,_=>⟨rfl,rfl⟩
 |_,_,.cons (a:=y) (b:=w) r t,h=>by
  rw[Uo,Xl]at h;obtain⟨h1,h2⟩:=QdY hx rx t h.2
  refine⟨by rw[Uo,h1,Qbo h.1 r];rfl,?_⟩
  show(eqV w v||inV v _)=(eqF y x||_);rw[h2,QlO hx h.1 rx r]
def QgM{vs:List (Key×Value)}{y:U}{yv:V}(ky:QaY y=true)(ry:RU A α y yv):∀{kvs:List (U×U)},Paired (λ(p:U×U) (q:Key×Value)=>Qfp p.1 q.1/\∃v,RU A [] p.2 v/\RelV v q.2) kvs vs ->
  ∃key,yv=kV key/\(valueAt vs key).isSome=(Qaz kvs y).isSome:=by
 obtain⟨key,hy,hk⟩:∃key,yv=kV key/\Qfp y key:=by
  cases y with
  |int i m=>
   cases m with
   |zero=>obtain⟨j,rfl,c⟩:=ry;cases c.exact;exact⟨.inl i,rfl,rfl⟩
   |succ m=>cases ky
  |str z=>cases(show yv=_ from ry);exact⟨.inr ⟨z.toArray⟩,rfl,rfl⟩
  |_=>cases ky
 have inj:∀{p:U} {q:Key},Qfp p q->(p=y↔q=key):=by
  intro p q hp
  cases y with
  |int i m=>
   cases m with
   |succ m=>cases ky
   |zero=>
    cases(show key=_ from hk)
    cases p with
    |int j n=>
     cases n with
     |succ n=>exact(show False from hp).elim
     |zero=>cases(show q=_ from hp);exact⟨λe=>(by cases e;rfl),λe=>(by cases e;rfl)⟩
    |str z=>cases(show q=_ from hp);exact⟨λe=>(by cases e),λe=>(by cases e)⟩
    |_=>exact(show False from hp).elim
  |str z=>
   cases(show key=_ from hk)
   cases p with
   |int j n=>
    cases n with
    |succ n=>exact(show False from hp).elim
    |zero=>cases(show q=_ from hp);exact⟨λe=>(by cases e),λe=>(by cases e)⟩
   |str z'=>
    cases(show q=_ from hp)
    refine⟨λe=>(by cases e;rfl),λe=>?_⟩
    have e1:=Sum.inr.inj e;have e2:=congrArg (λs:Str=>s.cps.toList) e1
    have e3:z'=z:=by simpa using e2
    rw[e3]
   |_=>exact(show False from hp).elim
  |_=>cases ky
 intro kvs r;refine⟨key,hy,?_⟩
 induction r with
 |nil=>rfl
 | @cons p q ps qs hpq t ih=>
  obtain⟨pk,pv⟩:=p;obtain⟨qk,qv⟩:=q;obtain⟨h1,v,h2,h3⟩:=hpq;simp only[Qaz];by_cases e:pk=y
  ·have e2:qk=key:=(inj h1).mp e;rw[if_pos e];simp[valueAt,e2]
  ·have e2:¬qk=key:=λz=>e ((inj h1).mpr z);rw[if_neg e,<-ih];simp only[valueAt,Wz];rw[X6 e2]
def Qni(P:Program)(w:World)(K:W.Frag)(neg:Bool):R2:=λx y H Q=>∃a vs key,y=.ref a/\(a==sysModules)=false/\x=kV key/\(∀h:Heap,K.In h->h.DictOf (QK P w) a vs)/\Q (.bl (if neg then !(valueAt vs key).isSome else(valueAt vs key).isSome)) H
def QdC:OpR X (compareOp .In) (Qni X.prog X.w X.K false):=by
 intro pins s Y H x y v u Q I rx ry h;obtain⟨a,vs,key,rfl,ns,rfl,hd,q⟩:=h;cases ry;exact wpAny_in_of (Jh rx) ns (hd s.heap I.kIn).mapOf ⟨.bl _,H,I.tok _,rfl,q⟩
def Qat:OpR X (compareOp .NotIn) (Qni X.prog X.w X.K true):=by
 intro pins s Y H x y v u Q I rx ry h;obtain⟨a,vs,key,rfl,ns,rfl,hd,q⟩:=h;cases ry;exact wpAny_notIn_of (Jh rx) ns (hd s.heap I.kIn).mapOf ⟨.bl _,H,I.tok _,rfl,q⟩
def Qcq{f:Value->Value->Sem Value}{r r':R2}(h:OpR X f r)(h':OpR X f r'):OpR X f (λx y H Q=>r x y H Q\/r' x y H Q):=λpins s Y H x y v u Q I rx ry q=>q.elim (h pins s Y H x y v u Q I rx ry) (h' pins s Y H x y v u Q I rx ry)
def Qc6{neg:Bool}(tab:QaW X.prog X.w T A X.K)(h:QjA T w u=some c)(ru:RU A α u v)(rw':RU A α w y)(q:Q (.bl (if neg then !c else c)) H):Qni X.prog X.w X.K neg v y H Q\/∃i j,v=.str i/\y=.str j/\Q (.bl (if neg then !(!(Builtin.Str.occurrences j i 0 j.length 1).isEmpty)else !(Builtin.Str.occurrences j i 0 j.length 1).isEmpty)) H:=by
 unfold QjA at h;split at h
 case h_3=>cases h
 case h_2=>
  split at h
  ·rename_i y' x';cases h;cases(show v=_ from ru);cases(show y=_ from rw');exact .inr ⟨_,_,rfl,rfl,q⟩
  ·cases h
 rename_i k;refine .inl ?_;split at h
 case h_2=>cases h
 rename_i kvs ec;split at h
 case isFalse=>cases h
 rename_i ky;cases h;obtain⟨vs,ns,hd,hp⟩:=tab k kvs ec;obtain⟨key,ev,e⟩:=QgM ky ru hp;cases(show y=_ from rw')
 exact⟨_,vs,key,rfl,ns,ev,hd,by rw[e];exact q⟩
def Qpz(X:Cx)(T:Tbl)(A:Adr)(o:CmpOp):Prop:=∃r,OpR X (compareOp o) r/\∀{α:List Addr} {u w:U} {hs:Hs} {v y:V} {H:Hp} {Q:VK} {c:Bool},Q0 T o u w hs=some c->RU A α u v->RU A α w y->Rep T A X.K α hs H->Q (.bl c) H->r v y H Q
def Qb8{o:CmpOp}{p:Int->Int->Bool}(ho:OpR X (compareOp o) (rI0 λi j=>.bl (p i j)))(hc:∀u w hs,Q0 T o u w hs=match u,w with|.int i 0,.int j 0=>some (p i j)|_,_=>none):Qpz X T A o:=by
 refine⟨_,ho,?_⟩;intro α u w hs v y H Q c h ru rw' R q;rw[hc]at h;split at h
 ·cases h;obtain⟨i',rfl,a⟩:=ru;obtain⟨j',rfl,b⟩:=rw';cases a.exact;cases b.exact;exact⟨_,_,rfl,rfl,q⟩
 ·cases h
def Ql(r:RUs A α (u::us) vs):∃v ws,vs=v::ws/\RU A α u v/\RUs A α us ws:=by cases r with|cons a b=>exact⟨_,_,rfl,a,b⟩
def Qr(r:RUs A α [] vs):vs=[]:=by cases r;rfl
theorem Qb2{α:List Addr}:∀{ys:List U} {ns:List Int} {vs:List V},Ji ys=some ns->RUs A α ys vs->vs=ns.map V.int
 |[],_,_,h,r=>by cases h;cases Qr r;rfl
 |u::ys,ns,vs,h,r=>by
  cases u with
  |int i m=>
   cases m with
   |succ m=>simp[Ji]at h
   |zero=>
    simp only[Ji,Xb]at h;obtain⟨ns',h,rfl⟩:=h;obtain⟨v,ws,rfl,ru,rn⟩:=Ql r;obtain⟨j,rfl,c⟩:=ru;cases c.exact;rw[Qb2 h rn];rfl
  |_=>simp[Ji]at h
def QkO:OpR X (compareOp .Is) (λx y H Q=>∃a b,x=.bl a/\y=.bl b/\Q (.bl (a==b)) H):=by
 intro pins s Y H x y v u Q I rx ry h;obtain⟨a,b,rfl,rfl,q⟩:=h;cases rx;cases ry
 exact wpAny_is_plain rfl ⟨.bl _,H,I,rfl,by cases a<;>cases b<;>exact q⟩
def QhN:OpR X (compareOp .IsNot) (λx y H Q=>∃a b,x=.bl a/\y=.bl b/\Q (.bl (!(a==b))) H):=by
 intro pins s Y H x y v u Q I rx ry h;obtain⟨a,b,rfl,rfl,q⟩:=h;cases rx;cases ry
 exact wpAny_isNot_plain rfl ⟨.bl _,H,I,rfl,by cases a<;>cases b<;>exact q⟩
def Qgf(h:isU u w=some c)(ru:RU A α u v)(rw':RU A α w y):(y=.non/\decide (v=.non)=c)\/∃a b,v=.bl a/\y=.bl b/\(a==b)=c:=by
 unfold isU at h;split at h
 ·cases h;refine .inl ⟨rw',?_⟩
  cases u with
  |non=>cases(show v=_ from ru);rfl
  |bl b=>cases(show v=_ from ru);rfl
  |int i m=>obtain⟨_,rfl,_⟩:=ru;rfl
  |str x=>cases(show v=_ from ru);rfl
  |ref n=>obtain⟨_,_,rfl⟩:=ru;rfl
  |con k=>cases(show v=_ from ru);rfl
  |scr=>cases(show v=_ from ru);rfl
 ·split at h
  ·cases h;exact .inr ⟨_,_,ru,rw',rfl⟩
  ·cases h
 ·cases h
def QqO(tx:Txt T A X.K X.mg)(tab:QaW X.prog X.w T A X.K)(hu:X.A.units+64<cLine)(o:CmpOp):Qpz X T A o:=by
 cases o with
 |Eq=>
  refine⟨_,OpR.or QnG (OpR.or (QkR tx hu) (OpR.or (QkQ tx hu) (QkS tx hu))),?_⟩;intro α u w hs v y H Q c h ru rw' R q;simp only[Q0,eqA]at h;split at h
  ·rename_i b e;cases h;obtain⟨h1,h2⟩:=Qgn e ru rw'
   exact .inl ⟨h1,by rw[h2];exact q⟩
  ·split at h
   ·rename_i c;cases h;exact .inr (.inl ⟨α,u,w,hs,ru,rw',R,c,q⟩)
   ·split at h
    ·rename_i c;cases h;exact .inr (.inr (.inl ⟨α,u,w,hs,ru,rw',R,c,q⟩))
    ·split at h
     ·rename_i c;cases h;rw[Xl]at c;exact .inr (.inr (.inr ⟨α,u,w,hs,ru,rw',R,c.1,c.2,q⟩))
     ·cases h
 |NotEq=>
  refine⟨_,OpR.or QnB (OpR.or (QkK tx hu) (OpR.or (QkJ tx hu) (QkL tx hu))),?_⟩;intro α u w hs v y H Q c h ru rw' R q;simp only[Q0,Xb,eqA]at h;obtain⟨d,h,e⟩:=h;split at h
  ·rename_i b eb;cases h;obtain⟨h1,h2⟩:=Qgn eb ru rw'
   exact .inl ⟨h1,by rw[h2,e];exact q⟩
  ·split at h
   ·rename_i cc;cases h;refine .inr (.inl ⟨α,u,w,hs,ru,rw',R,cc,?_⟩);rw[show(true:Bool)=c from e];exact q
   ·split at h
    ·rename_i cc;cases h;refine .inr (.inr (.inl ⟨α,u,w,hs,ru,rw',R,cc,?_⟩));rw[show(false:Bool)=c from e];exact q
    ·split at h
     ·rename_i cc;cases h;rw[Xl]at cc;refine .inr (.inr (.inr ⟨α,u,w,hs,ru,rw',R,cc.1,cc.2,?_⟩));rw[if_pos rfl,e];exact q
     ·cases h
 |Lt=>exact Qb8 QnC λz z z=>rfl
 |LtE=>exact Qb8 QnD λz z z=>rfl
 |Gt=>exact Qb8 QnE λz z z=>rfl
 |GtE=>exact Qb8 QnF λz z z=>rfl
 |Is=>
  refine⟨_,OpR.or QkN QkO,?_⟩;intro α u w hs v y H Q c h ru rw' R q
  rcases Qgf h ru rw' with⟨h1,h2⟩|⟨a,b,h1,h2,h3⟩
  ·exact .inl ⟨h1,by rw[h2];exact q⟩
  ·exact .inr ⟨a,b,h1,h2,by rw[h3];exact q⟩
 |IsNot=>
  refine⟨_,OpR.or QhM QhN,?_⟩;intro α u w hs v y H Q c h ru rw' R q;simp only[Q0,Xb]at h;obtain⟨d,h,e⟩:=h
  rcases Qgf h ru rw' with⟨h1,h2⟩|⟨a,b,h1,h2,h3⟩
  ·exact .inl ⟨h1,by rw[h2,e];exact q⟩
  ·exact .inr ⟨a,b,h1,h2,by rw[h3,e];exact q⟩
 |In=>
  refine⟨_,Qcq QdE (Qcq (QkP (by omega)) (Qcq QdC QdD)),?_⟩
  intro α u w hs v y H Q c h ru rw' R q;simp only[Q0]at h;split at h
  ·rename_i xs e;obtain⟨a,vs,rfl,rr,sq⟩:=Yv (K':=X.K) tx R e rw';unfold inU at h;split at h
   ·rename_i f;cases h;rw[Xl]at f;obtain⟨h1,h2⟩:=QdY f.1 ru rr f.2
    exact .inl ⟨a,vs,rfl,sq,Qbo f.1 ru,h1,by rw[h2];exact q⟩
   ·cases h
  ·exact .inr ((Qgg (neg:=false) R h ru rw' q).imp id λh=>Qc6 (neg:=false) tab h ru rw' q)
 |NotIn=>
  refine⟨_,Qcq Qau (Qcq (QdB (by omega)) (Qcq Qat Qas)),?_⟩
  intro α u w hs v y H Q c h ru rw' R q;simp only[Q0]at h;split at h
  ·rename_i xs e;obtain⟨a,vs,rfl,rr,sq⟩:=Yv (K':=X.K) tx R e rw';simp only[Xb]at h;obtain⟨d,h,e2⟩:=h;unfold inU at h;split at h
   ·rename_i f;cases h;rw[Xl]at f;obtain⟨h1,h2⟩:=QdY f.1 ru rr f.2
    exact .inl ⟨a,vs,rfl,sq,Qbo f.1 ru,h1,by rw[h2];simp only[Wo];rw[e2];exact q⟩
   ·cases h
  ·simp only[Xb]at h;obtain⟨d,h,e2⟩:=h
   have q':Q (.bl (if true=true then !d else d)) H:=by simp only[Wo];rw[e2];exact q
   exact .inr ((Qgg (neg:=true) R h ru rw' q').imp id λh=>Qc6 (neg:=true) tab h ru rw' q')
def Qmd(r:RUs A α us vs)(h:atU us i=some u):∃v,atI vs i=some v/\RU A α u v:=by
 unfold atU at h;split at h
 ·rename_i j e;obtain⟨v,h1,h2⟩:=r.get h;refine⟨v,?_,h2⟩
  have e':ixN vs.length i=some j:=by rw[<-r.length];exact e
  unfold atI;rw[e'];exact h1
 ·cases h
def QoE{xs:List Nat}{c:Nat}(h:atU xs i=some c):atI xs i=some c:=by
 unfold atU at h;split at h
 ·rename_i j e;have e':ixN xs.length i=some j:=e;unfold atI;rw[e'];exact h
 ·cases h
def QgV{hs:Hs}(tx:Txt T A X.K X.mg)(h:QX T u w hs=some x)(ru:RU A α u v)(rw':RU A α w y)(R:Rep T A X.K α hs H)(k:∀z,RU A α x z->Q z H):rIx X.K v y H Q\/Qnk v y H Q:=by
 have seq:∀{xs:List U} {i:Int},ZJ T u hs=some xs->w=.int i 0->atU xs i=some x->rIx X.K v y H Q\/Qnk v y H Q:=λ{xs i} e1 e2 e3=>by
  subst e2;obtain⟨j,rfl,c⟩:=rw';cases c.exact;obtain⟨a,vs,rfl,rr,sq⟩:=Yv (K':=X.K) tx R e1 ru;obtain⟨z,h1,h2⟩:=Qmd rr e3
  rcases sq with sq|sq
  ·exact .inl (.inl ⟨a,vs,i,z,rfl,rfl,sq,h1,k z h2⟩)
  ·exact .inl (.inr (.inl ⟨a,vs,i,z,rfl,rfl,sq,h1,k z h2⟩))
 cases u with
 |str z=>
  cases w with
  |int i m=>
   cases m with
   |succ m=>simp[QX,ZJ]at h
   |zero=>
    simp only[QX]at h;split at h
    ·rename_i l;simp only[Xb]at h;obtain⟨c,e,rfl⟩:=h;cases(show v=_ from ru);obtain⟨j,rfl,q⟩:=rw';cases q.exact
     exact .inl (.inr (.inr ⟨_,i,c,rfl,rfl,by rw[ZO];exact X3 l big,by simpa using QoE e,k _ (by show _=_;rfl)⟩))
    ·cases h
  |_=>simp[QX,ZJ]at h
 |ref n=>
  simp only[QX]at h;split at h
  ·rename_i xs i e
   exact seq (by simp only[ZJ,e]) rfl h
  ·rename_i xs i e
   exact seq (by simp only[ZJ,e]) rfl h
  ·rename_i o e _ _;obtain⟨a,ha,rfl⟩:=ru;simp only[Xc,id_eq]at h;obtain⟨r,h1,h2⟩:=h
   rcases Qbr R e ha h1 rw' with⟨h3,_⟩|⟨u',v',h3,g,rv⟩
   ·rw[h3]at h2;cases h2
   ·rw[h3]at h2;cases h2;exact .inr ⟨a,v',rfl,g,k v' rv⟩
  ·cases h
 |con n=>
  cases w with
  |int i m=>
   cases m with
   |succ m=>simp[QX]at h
   |zero=>
    simp only[QX]at h;split at h
    ·rename_i xs e;exact seq e rfl h
    ·cases h
  |_=>simp[QX]at h
 |scr=>
  cases w with
  |int i m=>
   cases m with
   |succ m=>simp[QX]at h
   |zero=>
    simp only[QX]at h;split at h
    ·rename_i xs e;exact seq e rfl h
    ·cases h
  |_=>simp[QX]at h
 |_=>
  cases w with
  |int i m=>cases m<;>simp[QX,ZJ]at h
  |_=>simp[QX]at h
theorem RUs.drop(n:Nat)(h:RUs A α us vs):RUs A α (us.drop n) (vs.drop n):=Qdq h n
theorem RUs.take(n:Nat)(h:RUs A α us vs):RUs A α (us.take n) (vs.take n):=Qdp h n
def YK(n d:Nat)(o:Option Int):ZN n d o=HT.sIx n d o:=by cases o<;>rfl
def RUs.cut(r:RUs A α us vs)(lo hi:Option Int):RUs A α (Y7 us lo hi) (Qgr vs lo hi):=by
 unfold Y7 Qgr;rw[YK,YK,r.length];exact RUs.take _ (RUs.drop _ r)
def QjM{hs hs':Hs}{lo hi:Option Int}(h:slU T u lo hi hs=some (x,hs'))(ru:RU A α u v)(R:Rep T A X.K α hs H)(k:∀α' z H',Ext α α' H H'->Rep T A X.K α' hs' H'->RU A α' x z->Q z H'):Qo1 X.K v lo hi H Q\/Qo0 X.K v lo hi H Q:=by
 cases u with
 |scr=>
  simp only[slU]at h;cases h;obtain⟨vs,rr,q⟩:=R.s.sq (α:=α);refine .inl ⟨_,vs,ru,q,λp hp=>?_⟩;obtain⟨R',E'⟩:=R.new (o:=.lst (Y7 T.scr lo hi)) hp ⟨_,Qh,RUs.mono QR (rr.cut lo hi)⟩
  exact k _ _ _ E' R' ⟨p,by rw[<-R.h.len];exact Q3,rfl⟩
 |ref n=>
  simp only[slU]at h;split at h
  ·rename_i xs e;cases h;obtain⟨a,ha,rfl⟩:=ru;obtain⟨vs,q,rr⟩:=R.h.ob n a _ ha e;refine .inl ⟨_,vs,rfl,SqL.of q,λp hp=>?_⟩;obtain⟨R',E'⟩:=R.new (o:=.lst (Y7 xs lo hi)) hp ⟨_,Qh,RUs.mono QR (rr.cut lo hi)⟩
   exact k _ _ _ E' R' ⟨p,by rw[<-R.h.len];exact Q3,rfl⟩
  ·rename_i xs e;split at h
   ·cases h
   rename_i hw;cases h;obtain⟨a,ha,rfl⟩:=ru;obtain⟨vs,q,rr⟩:=R.h.ob n a _ ha e;refine .inr (⟨_,vs,rfl,SqT.of q,?_,λp hp=>?_⟩)
   ·rw[YK,YK,rr.length]at hw;exact hw
   obtain⟨R',E'⟩:=R.new (o:=.tup (Y7 xs lo hi)) hp ⟨_,Qh,RUs.mono QR (rr.cut lo hi)⟩
   exact k _ _ _ E' R' ⟨p,by rw[<-R.h.len];exact Q3,rfl⟩
  ·cases h
 |_=>simp[slU]at h
end
end
section
variable {hs:Hs}{α:List Addr}{us:List U}{u:U}{v:V}
section
variable {X:Cx}{T:Tbl}{A:Adr}
def Yz{e:Expr}{t:TE}(h:∀Y H Q,¬t Y H Q):PE X e t:=λz z Y H Q z q=>(h Y H Q q).elim
def QnV(K:W.Frag){k t:Ty}{b:Bool}(h:QnZ k t=some b)(A:Adr):W.kitOne K (tyW A k) (tyW A t)=some b:=by
 cases k<;>cases t<;>simp only[QnZ]at h<;>first|(cases h;done)|(cases h;rfl)|(cases h;kernel_rfl)
def Qh7{H:Hp}{k:Ty}(tx:Txt T A X.K X.mg)(h:Qcy u hs=some k)(r:RU A α u v)(R:Rep T A X.K α hs H):TyE X.K H v (tyW A k):=by
 cases u with
 |non=>cases h;cases(show v=_ from r);exact .inl .non
 |bl b=>cases h;cases(show v=_ from r);exact .inl (.bl b)
 |int i m=>cases h;obtain⟨j,rfl,_⟩:=r;exact .inl (.int j)
 |str x=>cases h;cases(show v=_ from r);exact .inl (.str _)
 |ref n=>
  obtain⟨a,ha,rfl⟩:=r;simp only[Qcy]at h;split at h
  ·rename_i xs e;cases h;obtain⟨vs,q,_⟩:=R.h.ob n a _ ha e;exact .inl (.lst q)
  ·rename_i xs e;cases h;obtain⟨vs,q,_⟩:=R.h.ob n a _ ha e;exact .inl (.tup q)
  ·rename_i c fs e;cases h;obtain⟨dx,fv,q,_,l⟩:=R.h.ob n a _ ha e;exact .inl ((tx.cl c _ (Xk l)).ty H a dx fv q)
  ·cases h
 |_=>simp[Qcy]at h
def Qlm{H:Hp}{t:Ty}{b:Bool}(tx:Txt T A X.K X.mg)(h:Qeu T t u hs=some b)(r:RU A α u v)(R:Rep T A X.K α hs H):∃tv,TyE X.K H v tv/\W.kitOne X.K tv (tyW A t)=some b:=by
 unfold Qeu at h;split at h
 ·cases h
 ·rename_i k e;refine⟨tyW A k,Qh7 tx e r R,?_⟩;split at h
  ·rename_i b' e';cases h;exact QnV X.K e' A
  ·exact tx.isi k t b h
def QfF(n:Nat):((toString (n:Int):String):Str)=⟨(Qpi n).toArray⟩:=by
 apply Str.ext';apply Array.toList_inj.mp;exact W.KIN.signs_num n
def Qef:CallR X (.type "int") (λxs H Q=>((∃i,xs=[.int i]/\Q (.int i) H)\/∃k,xs=[.bl k]/\Q (.int (if k then 1 else 0)) H)\/∃x,xs=[.str x]/\NumText.AllDigits x.cps.toList/\x.cps.toList≠[]/\x.length<=640/\Q (.int ((NumText.digitsVal x.cps.toList:Nat): Int)) H):= by
 intro pins s Y H xs us Q I r h
 rcases h with h|h
 ·exact Qeg pins s Y H xs us Q I r h
 ·exact J0 pins s Y H xs us Q I r h
def BiS(X:Cx)(T:Tbl)(A:Adr)(b:Bi)(f:Value):Prop:=∃r,CallR X f r/\∀{α:List Addr} {us:List U} {u':U} {hs hs':Hs} {vs:List V} {H:Hp} {Q:VK},biU T b us hs=some (u',hs')->RUs A α us vs->Rep T A X.K α hs H ->
 (∀α' v' H',Ext α α' H H'->Rep T A X.K α' hs' H'->RU A α' u' v'->Q v' H')->r vs H Q
def Qgv{f:Value}:CallR X f (λz z z=>False):=λpins s Y H xs us Q I r h=>h.elim
def QiL(tx:Txt T A X.K X.mg):BiS X T A .len (.builtin "len"):=by
 refine⟨_,CallR.or (CallR.or QaR QaQ) Qgv,?_⟩;intro α us u' hs hs' vs H Q h r R k
 have seq:∀{u:U} {xs:List U},us=[u]->ZJ T u hs=some xs->(u',hs')=(U.int xs.length 0,hs)->(∃p ys,vs=[V.ref p]/\(SqL X.K H p ys\/SqT X.K H p ys)/\Q (.int ys.length) H):=λ{u xs} e1 e2 e3=>by
  subst e1;cases e3;obtain⟨v,ws,rfl,ru,rn⟩:=Ql r;cases Qr rn;obtain⟨a,ys,rfl,rr,sq⟩:=Yv (K':=X.K) tx R e2 ru
  exact⟨a,ys,rfl,sq,k α _ H Ext.refl R ⟨_,rfl,by rw[rr.length];exact Cg.refl _ _⟩⟩
 cases us with
 |nil=>first|exact Znn h|simp[biU]at h
 |cons u t=>
  cases t with
  |cons _ _=>cases u<;>first|exact Znn h|simp[biU]at h
  |nil=>
   cases u with
   |str x=>
    unfold biU at h;try dsimp only at h;split at h
    ·rename_i l;cases h;obtain⟨v,ws,rfl,ru,rn⟩:=Ql r;cases Qr rn;cases(show v=_ from ru)
     refine .inl (.inr ⟨_,rfl,by rw[ZO];exact X3 l big,k α _ H Ext.refl R ⟨_,rfl,?_⟩⟩)
     rw[ZO];exact Cg.refl _ _
    ·cases h
   |ref n=>
    unfold biU at h;try dsimp only at h;split at h
    ·rename_i xs e;exact .inl (.inl (seq rfl e (X4 h).symm))
    ·cases h
   |con n=>
    unfold biU at h;try dsimp only at h;split at h
    ·rename_i xs e;exact .inl (.inl (seq rfl e (X4 h).symm))
    ·cases h
   |scr=>
    unfold biU at h;try dsimp only at h;split at h
    ·rename_i xs e;exact .inl (.inl (seq rfl e (X4 h).symm))
    ·cases h
   |_=>unfold biU at h;simp[ZJ]at h
def QiM:BiS X T A .int (.type "int"):=by
 refine⟨_,Qef,?_⟩;intro α us u' hs hs' vs H Q h r R k
 cases us with
 |nil=>first|exact Znn h|simp[biU]at h
 |cons u t=>
  cases t with
  |cons _ _=>cases u<;>first|exact Znn h|simp[biU]at h
  |nil=>
   obtain⟨v,ws,rfl,ru,rn⟩:=Ql r;cases Qr rn
   cases u with
   |int i m=>
    cases h;obtain⟨j,rfl,c⟩:=ru;exact .inl (.inl ⟨j,rfl,k α _ H Ext.refl R ⟨_,rfl,c⟩⟩)
   |bl b=>
    cases h;cases(show v=_ from ru);refine .inl (.inr ⟨b,rfl,k α _ H Ext.refl R ⟨_,rfl,?_⟩⟩);cases b<;>exact Cg.refl _ _
   |str x=>
    unfold biU at h;try dsimp only at h;split at h
    case isFalse=>cases h
    rename_i c;cases h;cases(show v=_ from ru);unfold Qpj at c;simp only[Xl,Xv,Xw,Uv,List.isEmpty_eq_false_iff]at c;obtain⟨⟨c1,c2⟩,c3⟩:=c
    exact .inr ⟨_,rfl,c1,c2,by rw[ZO];exact c3,k α _ H Ext.refl R ⟨_,rfl,Cg.refl _ _⟩⟩
   |_=>first|exact Znn h|simp[biU]at h
def QiK:BiS X T A .str (.type "str"):=by
 refine⟨_,QaO,?_⟩;intro α us u' hs hs' vs H Q h r R k
 cases us with
 |nil=>simp[biU]at h
 |cons u t=>
  cases t with
  |cons _ _=>cases u<;>simp[biU]at h
  |nil=>
   obtain⟨v,ws,rfl,ru,rn⟩:=Ql r;cases Qr rn
   cases u with
   |int i m=>
    cases m with
    |succ m=>simp[biU]at h
    |zero=>
     simp only[biU]at h;split at h
     ·rename_i c;cases h;obtain⟨j,rfl,q⟩:=ru;cases q.exact;simp only[Xl,Xw]at c;obtain⟨n,rfl⟩:=Int.eq_ofNat_of_zero_le c.1;exact⟨(n:Int),rfl,c.2,k α _ H Ext.refl R (congrArg V.str (QfF n))⟩
     ·cases h
   |_=>simp[biU]at h
def Qem:BiS X T A .tuple (.type "tuple"):=by
 refine⟨_,JY,?_⟩;intro α us u' hs hs' vs H Q h r R k
 cases us with
 |nil=>first|exact Znn h|simp[biU]at h
 |cons u t=>
  cases t with
  |cons _ _=>cases u<;>first|exact Znn h|simp[biU]at h
  |nil=>
   obtain⟨v,ws,rfl,ru,rn⟩:=Ql r;cases Qr rn
   cases u with
   |ref n=>
    obtain⟨a,ha,rfl⟩:=ru;unfold biU at h;try dsimp only at h;split at h
    ·rename_i xs e;cases h;obtain⟨ys,q,rr⟩:=R.h.ob n a _ ha e;refine⟨a,ys,rfl,.inl ⟨SqL.of q,λp hp=>?_⟩⟩;obtain⟨R',E'⟩:=R.new (o:=.tup xs) hp ⟨_,Qh,RUs.mono QR rr⟩
     exact k _ _ _ E' R' ⟨p,by rw[<-R.h.len];exact Q3,rfl⟩
    ·rename_i xs e;cases h;obtain⟨ys,q,rr⟩:=R.h.ob n a _ ha e;exact⟨a,ys,rfl,.inr ⟨SqT.of q,k α _ H Ext.refl R ⟨a,ha,rfl⟩⟩⟩
    ·cases h
   |_=>first|exact Znn h|simp[biU]at h
def Qj6{k:Key}(h:RK u k):RU A α u (kV k):=by
 cases u<;>simp only[RK]at h<;>first|exact h.elim|skip
 ·obtain⟨rfl,rfl⟩:=h;exact⟨_,rfl,Cg.refl _ _⟩
 ·subst h;rfl
def QfI(tx:Txt T A X.K X.mg)(hc:X.calm=true):BiS X T A .list (.type "list"):=by
 refine⟨_,CallR.or QaP Qgv,?_⟩;intro α us u' hs hs' vs H Q h r R k
 cases us with
 |nil=>first|exact Znn h|simp[biU]at h
 |cons u t=>
  cases t with
  |cons _ _=>cases u<;>first|exact Znn h|simp[biU]at h
  |nil=>
   obtain⟨v,ws,rfl,ru,rn⟩:=Ql r;cases Qr rn
   have h:(match ZJ T u hs with
    |some xs=>some (U.ref hs.length,hs++[O.lst xs])
    |none=>none)=some (u',hs'):=by
    cases u<;>exact h
   split at h
   ·rename_i xs e;cases h;obtain⟨a,ys,rfl,rr,sq⟩:=Yv (K':=X.K) tx R e ru;refine .inl ⟨a,ys,rfl,sq,λp hp=>?_⟩;obtain⟨R',E'⟩:=R.new (o:=.lst xs) hp ⟨_,Qh,RUs.mono QR rr⟩
    exact k _ _ _ E' R' ⟨p,by rw[<-R.h.len];exact Q3,rfl⟩
   ·cases h
def Qb4{i:Int}(r:RU A α (.int i 0) v):v=.int i:=by
 obtain⟨j,rfl,c⟩:=r;cases c.exact;rfl
def QiJ(tx:Txt T A X.K X.mg)(hc:X.calm=true):BiS X T A .sum (.builtin "sum"):=by
 refine⟨_,Qed hc,?_⟩;intro α us u' hs hs' vs H Q h r R k;have h:biL T .sum us hs=some (u',hs'):=h;unfold biL at h;split at h<;>try contradiction
 ·simp only[Xc,Xb]at h;obtain⟨xs,el,ns,en,h⟩:=h;cases h;obtain⟨v,ws,rfl,ru,rn⟩:=Ql r;cases Qr rn;obtain⟨a,vs,rfl,rr,sq⟩:=Zf tx R el ru;cases Qb2 en rr;exact⟨a,ns,rfl,sq,k α _ H Ext.refl R ⟨_,rfl,Cg.refl _ _⟩⟩
theorem Qdo{α:List Addr}{hs:Hs}{H:Hp}(R:Rep T A X.K α hs H):∀{us:List U} {kvs:List (U×U)} {zs:List V},Qi0 hs us=some kvs->RUs A α us zs->∃kv,RD A α kvs kv/\Paired (λ(v:V) (p:Key×V)=>∃t,v=.ref t/\H t=some (.tup [kV p.1,p.2])) zs kv
 |[],_,_,h,.nil=>by cases h;exact⟨[],.nil,.nil⟩
 |u::r,kvs,z::zs,h,.cons ru rr=>by
  cases u with
  |ref p=>
   simp only[Qi0]at h;split at h
   ·rename_i k v hp;split at h
    ·rename_i hk;obtain⟨l,hl,rfl⟩:=Xb.mp h;obtain⟨kv,q1,q2⟩:=Qdo R hl rr;obtain⟨a,ha,rfl⟩:=ru;obtain⟨vs,ez,rz⟩:=R.h.ob p a _ ha hp;obtain⟨y1,ws,rfl,s1,rz⟩:=Ql rz;obtain⟨y2,ws,rfl,s2,rz⟩:=Ql rz;cases Qr rz;obtain⟨kk,rk,rfl⟩:=QbZ hk s1;exact⟨(kk,y2)::kv,.cons ⟨rk,s2⟩ q1,.cons ⟨a,rfl,ez⟩ q2⟩
    ·cases h
   ·cases h
  |_=>exact nomatch (show none=some _ from h)
def Qen(hh:X.calm=true):BiS X T A .dictS (.type "dict"):=by
 refine⟨_,QcJ hh,?_⟩;intro α us u' hs hs' vs H Q h r R k;have h:biL T .dictS us hs=some (u',hs'):=h
 obtain⟨u,rfl⟩:∃u,us=[u]:=by
  match us,h with
  |[],h=>exact Znn h
  |_::_::_,h=>exact Znn h
  |[u],_=>exact⟨u,rfl⟩
 have h:Option.bind (Qfm u hs) _=some (u',hs'):=h;simp only[Xc,Xb]at h;obtain⟨xs,el,kvs,hk,h⟩:=h;cases h;obtain⟨v,ws,rfl,ru,rn⟩:=Ql r;cases Qr rn
 cases u with
 |ref p=>
  simp only[Qfm]at el;split at el
  ·rename_i ys hp;cases el;obtain⟨a,ha,rfl⟩:=ru;obtain⟨zs,ez,rz⟩:=R.h.ob p a _ ha hp;obtain⟨kv,q1,q2⟩:=Qdo R hk rz;refine⟨a,zs,kv,rfl,ez,q2,λd hd=>?_⟩;obtain⟨R2,E2⟩:=R.new (p:=d) (o:=.dic (Js [] kvs)) (ho:=.dK (Yh [] kv)) hd ⟨_,Qh,RD.mono QR (RG.merge Qb3 q1 .nil)⟩
   exact k _ _ _ E2 R2 ⟨d,by rw[<-R.h.len];exact Q3,rfl⟩
  ·cases el
 |_=>exact nomatch (show none=some _ from el)
def BmS(X:Cx)(T:Tbl)(A:Adr)(b:Bm)(id:String):Prop:=∃r,MtR X id r/\∀{α:List Addr} {o u':U} {us:List U} {hs hs':Hs} {x:V} {vs:List V} {H:Hp} {Q:VK},bmU T b o us hs=some (u',hs')->RU A α o x->RUs A α us vs->Rep T A X.K α hs H ->
 (∀α' v' H',Ext α α' H H'->Rep T A X.K α' hs' H'->RU A α' u' v'->Q v' H')->r x vs H Q
def Qaa{b:Bm}{o u':U}{hs':Hs}(h:bmU T b o us hs=some (u',hs'))(hb:∀x,bmS T b x us hs=none)(hd:∀n kvs,bmD b n kvs us hs=none):∃n xs,o=.ref n/\hs[n]?=some (.lst xs):=by
 cases o with
 |ref n=>
  simp only[bmU]at h;split at h
  ·rename_i xs e;exact⟨n,xs,rfl,e⟩
  ·rw[hd]at h;cases h
  ·cases h
 |str x=>
  simp only[bmU]at h;rw[hb]at h;cases h
 |_=>simp[bmU]at h
def QcM:BmS X T A .append "list.append":=by
 refine⟨_,Qaw,?_⟩;intro α o u' us hs hs' x vs H Q h ro r R k;obtain⟨n,xs,rfl,e⟩:=Qaa h (λz=>rfl) (λz z=>rfl);obtain⟨a,ha,rfl⟩:=ro
 cases us with
 |nil=>simp[bmU,bmL,e]at h
 |cons u t=>
  cases t with
  |cons _ _=>simp[bmU,bmL,e]at h
  |nil=>
   simp only[bmU,bmL,e]at h;split at h
   ·rename_i l;cases h;obtain⟨v,ws,rfl,ru,rn⟩:=Ql r;cases Qr rn;obtain⟨ys,q,rr⟩:=R.h.ob n a _ ha e;refine⟨a,ys,v,rfl,rfl,q,?_,?_⟩
    ·rw[<-rr.length];exact Wg l big
    ·obtain⟨R',E'⟩:=R.put (o:=.lst (xs++[u])) ha ⟨_,Qh,rr.append (.cons ru .nil)⟩;exact k _ _ _ E' R' rfl
   ·cases h
theorem RUs.dropLast{vs:List V}(r:RUs A α us vs):RUs A α us.dropLast vs.dropLast:=by
 rw[List.dropLast_eq_take,List.dropLast_eq_take,r.length];exact RUs.take _ r
theorem RUs.reverse{vs:List V}(h:RUs A α us vs):RUs A α us.reverse vs.reverse:=Qkq h
def QqC{α β:Type}{P:α->β->Prop}{xs:List α}{ys:List β}(h:PySem.Paired P xs ys):PySem.Paired P (xs.eraseIdx 0) (ys.eraseIdx 0):=by
 cases h with
 |nil=>exact .nil
 |cons _ r=>exact r
def Qk1{X:Cx}{nm:String}{R1 R2:V->List V->Hp->VK->Prop}(a:MtM X nm R1)(b:MtM X nm R2):MtM X nm (λx vs H Q=>R1 x vs H Q\/R2 x vs H Q):=by
 intro pins s Y H x vs v us Q I rx rv h
 rcases h with h|h
 ·exact a pins s Y H x vs v us Q I rx rv h
 ·exact b pins s Y H x vs v us Q I rx rv h
def QiG:BmS X T A .pop "list.pop":=by
 refine⟨_,Qk1 Qk2 Qfg,?_⟩;intro α o u' us hs hs' x vs H Q h ro r R k;obtain⟨n,xs,rfl,e⟩:=Qaa h (λz=>rfl) (λz z=>rfl);obtain⟨a,ha,rfl⟩:=ro;obtain⟨ys,q,rr⟩:=R.h.ob n a _ ha e
 cases us with
 |nil=>
  simp only[bmU,bmL,e]at h;split at h
  ·rename_i y l;cases h;cases Qr r;obtain⟨v,hv,rv⟩:=rr.get l
   refine .inl ⟨a,ys,v,rfl,rfl,q,by rw[<-rr.length];exact hv,?_⟩
   obtain⟨R',E'⟩:=R.put (o:=.lst xs.dropLast) ha ⟨_,Qh,rr.dropLast⟩;exact k _ _ _ E' R' rv
  ·cases h
 |cons u t=>
  cases t with
  |cons u2 t=>simp[bmU,bmL,e]at h
  |nil=>
   cases u with
   |int i m=>
    cases m with
    |succ m=>simp[bmU,bmL,e]at h
    |zero=>
     simp only[bmU,bmL,e]at h;rw[Option.ite_none_right_eq_some]at h;obtain⟨ei,h⟩:=h;subst ei;split at h
     ·rename_i y l;cases h;obtain⟨v0,ws,rfl,r1,r2⟩:=Ql r;cases Qr r2;obtain⟨j,rfl,c⟩:=r1;cases c.exact;obtain⟨v,hv,rv⟩:=rr.get l;have lx:0<ys.length:=(Xa.mp hv).1
      refine .inr ⟨a,ys,0,0,v,rfl,rfl,q,by decide,by decide,?_,hv,?_⟩
      ·unfold seqIndex?;simp[lx]
      ·obtain⟨R',E'⟩:=R.put (o:=.lst (xs.eraseIdx 0)) ha ⟨_,Qh,QqC rr⟩;exact k _ _ _ E' R' rv
     ·cases h
   |_=>simp[bmU,bmL,e]at h
def QcL:BmS X T A .extend "list.extend":=by
 refine⟨_,QdL,?_⟩;intro α o u' us hs hs' x vs H Q h ro r R k;obtain⟨n,xs,rfl,e⟩:=Qaa h (λz=>rfl) (λz z=>rfl);obtain⟨a,ha,rfl⟩:=ro
 cases us with
 |nil=>simp[bmU,bmL,e]at h
 |cons u t=>
  cases t with
  |cons _ _=>cases u<;>simp[bmU,bmL,e]at h
  |nil=>
   cases u with
   |ref m=>
    simp only[bmU,bmL,e]at h;split at h
    ·rename_i ys e2;split at h
     ·rename_i l;cases h;obtain⟨v,ws,rfl,ru,rn⟩:=Ql r;cases Qr rn;obtain⟨b,hb,rfl⟩:=ru;obtain⟨zs,q,rr⟩:=R.h.ob n a _ ha e;obtain⟨zt,q2,rr2⟩:=R.h.ob m b _ hb e2;refine⟨a,b,zs,zt,rfl,rfl,q,q2,?_,?_⟩
      ·rw[<-rr.length,<-rr2.length];exact X3 l big
      ·obtain⟨R',E'⟩:=R.put (o:=.lst (xs++ys)) ha ⟨_,Qh,rr.append rr2⟩;exact k _ _ _ E' R' rfl
     ·cases h
    ·cases h
   |_=>simp[bmU,bmL,e]at h
def Qqh(T:Tbl)(A:Adr)(K:W.Frag):V->List V->Hp->VK->Prop:=λx vs H Q=>∃α hs a y xs ys w,x=.ref a/\vs=[y]/\H a=some (.lst ys)/\RUs A α xs ys/\RU A α w y/\Rep T A K α hs H/\(∀z∈xs,okW T 20 z hs=true)/\okW T 20 w hs=true/\Q (.int (xs.countP λz=>eqW T 20 z w hs:Nat)) H
theorem Qgs{α:List Addr}{hs:Hs}{H:Hp}{pins:List (Addr×Obj)}{s:Shared}{Y:L2.St}{w:U}(tx:Txt T A X.K X.mg)(I:Inv X pins Y H s)(R:Rep T A X.K α hs H)(ow:okW T 20 w hs=true):∀{xs:List U} {ys:List V} {its:List Value},RUs A α xs ys->Vals ys its->(∀z∈xs,okW T 20 z hs=true) ->
  its.countP (λz=>PyData.eqv (SeqAt.readOf s.heap z) (toP T 20 w hs))=xs.countP (λz=>eqW T 20 z w hs)/\∀z∈its,∃u as,okW T 20 u hs=true/\Reads s.heap z (toP T 20 u hs) as
 |_,_,_,.nil,.nil,_=>⟨rfl,λt h=>nomatch h⟩
 |x::xs,y::ys,z::its,.cons r rr,.cons v vv,h=>by
  obtain⟨e,m⟩:=Qgs tx I R ow rr vv λz hz=>h z (Xi _ hz);have ox:=h x Xm;obtain⟨as,ra⟩:=ZD tx I R 20 ox r v;refine⟨?_,λz' hz=>?_⟩
  ·rw[List.countP_cons,List.countP_cons,e,SeqAt.readOf_eq (YD 20 ox).1 ra,Qb5 20 ox ow]
  ·rcases Xd.mp hz with rfl|hz
   ·exact⟨x,as,ox,ra⟩
   ·exact m z' hz
def Qfh(tx:Txt T A X.K X.mg)(hu:X.A.units+64<cLine):MtR X "list.count" (Qqh T A X.K):=by
 intro pins s Y H x vs v us Q I rx rv h;obtain⟨α,hs,a,y,xs,ys,w,rfl,rfl,hH,rr,rw',R,ox,ow,q⟩:=h;cases rx;obtain⟨u,rfl,ru⟩:=rv.one;obtain⟨z,its,n,r,hl,e⟩:=I.lstM hH;obtain⟨bs,rb⟩:=ZD tx I R 20 ow rw' ru;obtain⟨ce,cm⟩:=Qgs tx I R ow rr r ox;have lw:=YD 20 ow;refine U1 F.slot_list_count ⟨_,e,rfl⟩ F.entry_list_count (F.args_list_count_2 _ _) (SeqAt.list_countAt a its.toArray n none #[] u (λz=>PyData.eqv (SeqAt.readOf s.heap z) (toP T 20 w hs))) ⟨e,λz hz=>?_,?_⟩
 ·obtain⟨u',as,ou,ra⟩:=cm z (by simpa using hz)
  have lu:=YD 20 ou;rw[SeqAt.readOf_eq lu.1 ra];refine SeqAt.eqAt_reads _ _ _ s z u as bs ra rb lu.1 lw.1 ?_;have h1:min (toP T 20 u' hs).depth (toP T 20 w hs).depth<=20:=X3 (Nat.min_le_left _ _) lu.2;have h2:X.A.in1.units=X.A.units+1:=rfl;omega
 ·rw[show its.toArray.toList=its from rfl,ce];exact⟨.int _,H,I.tok _,⟨_,rfl⟩,q⟩
def Qej(tx:Txt T A X.K X.mg)(hu:X.A.units+64<cLine):BmS X T A .count "list.count":=by
 refine⟨_,Qfh tx hu,?_⟩;intro α o u' us hs hs' x vs H Q h ro r R k;obtain⟨n,xs,rfl,e⟩:=Qaa h (λz=>rfl) (λz z=>rfl);obtain⟨a,ha,rfl⟩:=ro
 cases us with
 |nil=>simp[bmU,bmL,e]at h
 |cons u t=>
  cases t with
  |cons _ _=>simp[bmU,bmL,e]at h
  |nil=>
   simp only[bmU,bmL,e]at h;split at h
   ·rename_i c;rw[Xl]at c;cases h;obtain⟨v,ws,rfl,ru,rn⟩:=Ql r;cases Qr rn;obtain⟨ys,q,rr⟩:=R.h.ob n a _ ha e;exact⟨α,hs,a,v,xs,ys,u,rfl,rfl,q,rr,ru,R,Xv.mp c.1,c.2,k α _ H Ext.refl R ⟨_,rfl,Cg.refl _ _⟩⟩
   ·cases h
def QiH(hu:X.A.units+1<cLine):BmS X T A .get "dict.get":=by
 refine⟨_,QhZ hu,?_⟩;intro α o u' us hs hs' x vs H Q h ro r R k
 cases o with
 |ref n=>
  simp only[bmU]at h;split at h
  ·simp[bmL]at h
  case h_3=>cases h
  rename_i kvs e;obtain⟨a,ha,rfl⟩:=ro;simp only[bmD]at h;split at h
  case h_2=>cases h
  rename_i ku u;split at h
  case isFalse=>cases h
  rename_i ck;cases h;obtain⟨vk,ws,rfl,rk,rn⟩:=Ql r;obtain⟨vy,ws,rfl,ry,rn⟩:=Ql rn;cases Qr rn
  have g:=Qbr (o:=.dic kvs) (w:=ku) (r:=YG kvs ku) R e ha (by simp only[QaK];rw[if_pos ck]) rk
  rcases g with⟨h1,g⟩|⟨u1,v1,h1,g,rv⟩
  ·exact⟨a,vk,vy,none,rfl,rfl,g,k α vy H Ext.refl R (by rw[h1];exact ry)⟩
  ·exact⟨a,vk,vy,some v1,rfl,rfl,g,k α v1 H Ext.refl R (by rw[h1];exact rv)⟩
 |_=>first|(simp[bmU,bmS]at h;done)|(simp[bmU]at h;done)
end
end
section
variable {ir:E}{a e:Expr}{d:Nat}{p:Pos}
def TIO(T:Tbl)(A:Adr)(K:W.Frag)(f:Rho->Hs->Option (Option Int×Hs)):TO:=λY H Q=>∃α Z hs u hs',RS A α Z Y/\Rep T A K α hs H/\f Z hs=some (u,hs') /\
 ∀α' H',Ext α α' H H'->Rep T A K α' hs' H'->Q u H'
structure Fc(X:Cx)(T:Tbl)(A:Adr)(cf:Cf)(k:Nat):Prop where
 ok:∀f F,T.fns[f]?=some F->∃fd,FnOk X.prog X.w X.K X.mg X.base CX0 k (A.f f) fd F.ps (spC T A X.K cf f)/\Binds X.K fd F.ps []/\W.keepIn X.K (.ref (A.f f))=true
 some:∀f us hs r,cf f us hs=some r->∃F,T.fns[f]?=some F/\us.length=F.np
 df:∀i D F,T.dfl.lookup i=Option.some D->T.fns[i]?=Option.some F->∃fd,FnOk X.prog X.w X.K X.mg X.base CX0 k (A.f i) fd D.ps (spC T A X.K cf i)/\W.keepIn X.K (.ref (A.f i))=true/\Qi5 A X.K fd D
 xf:∀f F,T.fns[f]?=Option.some F->∃fd,FnOk X.prog X.w X.K X.mg X.base (CXw X.prog X.w) k (A.f f) fd F.ps (spX T A X.K T.xf f)/\Binds X.K fd F.ps []/\W.keepIn X.K (.ref (A.f f))=true
structure Snd(T:Tbl)(A:Adr)(C:Ctx)(X:Cx)(cf:Cf)(m:Nat):Prop where
 e:∀d e ir,Qf m C e=some ir->PE X e (TI T A X.K (ev T cf d ir))
 t:∀d e ir,compT m C e=some ir->PT X e (TIT T A X.K (evT T cf d ir))/\PE X e (TI T A X.K (ev T cf d ir))
 an:∀d a r p ir,compAnd m C a r p=some ir->PW X (.BoolOp .And (a::r) p) (TIT T A X.K (evT T cf d ir))/\PE X (.BoolOp .And (a::r) p) (TI T A X.K (ev T cf d ir))
 orr:∀d a r p ir,compOr m C a r p=some ir->PW X (.BoolOp .Or (a::r) p) (TIT T A X.K (evT T cf d ir))/\PE X (.BoolOp .Or (a::r) p) (TI T A X.K (ev T cf d ir))
 a:∀d es irs,compA m C es=some irs->PA X es (TIA T A X.K (λZ hs=>evs (ev T cf d) Z irs hs))
 o:∀d e ir,compO m C e=some ir->PO X e (TIO T A X.K (λZ hs=>evO (ev T cf d) Z ir hs))
section
variable {X:Cx}{T:Tbl}{A:Adr}{C:Ctx}{cf:Cf}{m:Nat}
def Qbx{t:TT}(h:∀Y H Q,¬t Y H Q):PT X e t:=λz z Y H Q z q=>(h Y H Q q).elim
def QiV{t:TT}(h:∀Y H Q,¬t Y H Q):PW X e t:=λz z z Y H Q z q=>(h Y H Q q).elim
def QnL{K:W.Frag}:∀Y H Q,¬TI T A K (ev T cf 0 ir) Y H Q:=λz z z y=>by obtain⟨_,_,_,_,_,_,_,h,_⟩:=y;exact nomatch h
def QdI{K:W.Frag}:∀Y H Q,¬TIT T A K (evT T cf 0 ir) Y H Q:=λz z z y=>by obtain⟨_,_,_,_,_,_,_,h,_⟩:=y;exact nomatch h
def QS(h:∀d',PE X e (TI T A X.K (ev T cf (d'+1) ir))):PE X e (TI T A X.K (ev T cf d ir)):=by
 cases d with
 |zero=>exact Yz QnL
 |succ d=>exact h d
def Qhh{c:Const}{k:Nat}(h:Qf (m+1) C (.Constant c k p)=some ir):PE X (.Constant c k p) (TI T A X.K (ev T cf d ir)):=by
 refine QS λd=>?_
 cases c with
 |int i=>cases h;exact Za QkD λY H Q z=>by obtain⟨α,Z,hs,u,hs',rs,R,e,q⟩:=z;cases e;exact q α _ H Ext.refl R ⟨i,rfl,Cg.refl _ _⟩
 |bool b=>cases h;exact Za Qnz λY H Q y=>by obtain⟨α,Z,hs,u,hs',rs,R,e,q⟩:=y;cases e;exact q α _ H Ext.refl R rfl
 |none=>cases h;exact Za QkB λY H Q w=>by obtain⟨α,Z,hs,u,hs',rs,R,e,q⟩:=w;cases e;exact q α _ H Ext.refl R rfl
 |str x=>cases h;exact Za QkA λY H Q v=>by obtain⟨α,Z,hs,u,hs',rs,R,e,q⟩:=v;cases e;exact q α _ H Ext.refl R rfl
 |_=>first|exact Znn h|simp[Qf]at h
def QjT{x:Str}(g:GX T A C X)(h:Qf (m+1) C (.Name x p)=some ir):PE X (.Name x p) (TI T A X.K (ev T cf d ir)):=by
 refine QS λd=>?_;simp only[cE4]at h;split at h
 ·cases h
 ·rename_i hn;have n1:(x==("__debug__":Str))=false:=Zj λz=>hn (.inl z);have n2:(x==("__classdict__":Str))=false:=Zj λz=>hn (.inr z);split at h
  ·rename_i hv;simp only[Xb]at h;obtain⟨i,hi,rfl⟩:=h
   refine Za (Qkz (i:=i) (by rw[g.N];exact Zz hi) (Qjj g hv) n1 n2) ?_
   rintro Y H Q ⟨α,Z,hs,u,hs',rs,R,e,q⟩;simp only[ev]at e;split at e
   ·rename_i w e';cases e;obtain⟨v,h1,h2⟩:=rs.get e';exact⟨v,h1,q α v H Ext.refl R h2⟩
   ·cases e
  ·split at h
   ·rename_i hg;split at h
    ·rename_i k hk;cases h;refine Za (Qbe (Zc g hg) (g.gco x k hk) (v:=.ref (A.k k)) rfl n1) ?_;rintro Y H Q ⟨α,Z,hs,u,hs',rs,R,e,q⟩;cases e;exact q α _ H Ext.refl R rfl
    ·rename_i t hk;cases h;obtain⟨v,w,hm,rv,ru⟩:=g.gtx x t hk;refine Za (Qbe (Zc g hg) hm rv n1) ?_;rintro Y H Q ⟨α,Z,hs,u,hs',rs,R,e,q⟩;simp only[ev]at e;cases e;exact q α _ H Ext.refl R (ru α)
    ·cases h
   ·cases h
def Qnb{b:Expr}{o:Operator}(S:Snd T A C X cf m)(h:Qf (m+1) C (.BinOp a o b p)=some ir):PE X (.BinOp a o b p) (TI T A X.K (ev T cf d ir)):=by
 refine QS λd=>?_;simp only[cE5,Xc]at h;obtain⟨a',ha,b',hb,h⟩:=h;cases h;obtain⟨r,ho,hr⟩:=opS (X:=X) (T:=T) (A:=A) o;refine Za (Qnw ho (S.e d a a' ha) (S.e d b b' hb)) ?_;rintro Y H Q ⟨α,Z,hs,u,hs',rs,R,e,q⟩;simp only[ev]at e;obtain⟨u1,h1,e1,e⟩:=Qd e;obtain⟨u2,h2,e2,e⟩:=Qd e;refine TI.run rs R e1 λα1 x H1 E1 R1 r1 rs1=>?_;refine TI.run rs1 R1 e2 λα2 y H2 E2 R2 r2 rs2=>?_;exact hr e (r1.mono E2.pre) r2 R2 λα3 v H3 E3 R3 r3=>q α3 v H3 ((E1.trans E2 R2.h).trans E3 R3.h) R3 r3
def Qm9(S:Snd T A C X cf m)(h:Qf (m+1) C (.UnaryOp .USub a p)=some ir):PE X (.UnaryOp .USub a p) (TI T A X.K (ev T cf d ir)):=by
 refine QS λd=>?_;simp only[cE6,Xc]at h;obtain⟨a',ha,h⟩:=h;cases h;refine Za (Qnu Qjq (S.e d a a' ha)) ?_;rintro Y H Q ⟨α,Z,hs,u,hs',rs,R,e,q⟩;simp only[ev]at e;obtain⟨u1,h1,e1,e⟩:=Qd e;refine TI.run rs R e1 λα1 x H1 E1 R1 r1 rs1=>?_;split at e
 ·cases e;obtain⟨i,rfl,c⟩:=r1;exact⟨i,rfl,q α1 _ H1 E1 R1 ⟨_,rfl,Qgt c⟩⟩
 ·cases e
def QjS(tx:Txt T A X.K X.mg)(S:Snd T A C X cf m)(h:Qf (m+1) C (.UnaryOp .Not a p)=some ir):PE X (.UnaryOp .Not a p) (TI T A X.K (ev T cf d ir))/\PT X (.UnaryOp .Not a p) (TIT T A X.K (evT T cf d ir)):=by
 simp only[cE7,Xc]at h;obtain⟨a',ha,h⟩:=h;cases h;constructor
 ·refine QS λd=>?_;intro pins s Y H Q I hw;obtain⟨α,Z,hs,u,hs',rs,R,e,q⟩:=hw;simp only[ev]at e;obtain⟨u1,h1,e1,e⟩:=Qd e;simp only[Xb]at e;obtain⟨c,e2,e⟩:=e;cases e;refine UnaryOp_ (thn ((S.t d a a' ha).2 pins s Y H (λv H'=>Qmg X.K v H' c/\Q (.bl (!c)) H') I ⟨α,Z,hs,u1,_,rs,R,e1,λα' v H' E' R' r'=>⟨Qc4 tx R' e2 r',q α' _ H' E' R' rfl⟩⟩) λv s1 z=>?_);obtain⟨x,H1,I1,r1,q1,q2⟩:=z
  exact not_of (thn (QfO pins s1 Y H1 x v (λb H'=>b=c/\H'=H1) I1 r1 ⟨c,q1,rfl,rfl⟩) λb s2 y=>by obtain⟨H2,I2,eb,eH⟩:=y;exact⟨.bl (!c),H2,I2,by rw[eb];rfl,by rw[eH];exact q2⟩)
 ·cases d with
  |zero=>exact Qbx QdI
  |succ d=>
   refine QiW (Qkk (S.t d a a' ha).1) ?_;rintro Y H Q ⟨α,Z,hs,u,hs',rs,R,e,q⟩;simp only[evT]at e;obtain⟨c,h1,e1,e⟩:=Qd e;cases e;exact TIT.run rs R e1 λα1 H1 E1 R1 rs1=>q α1 H1 E1 R1
end
end
section
variable {ir:E}{a b e:Expr}{d:Nat}{p:Pos}
section
variable {X:Cx}{T:Tbl}{A:Adr}{C:Ctx}{cf:Cf}{m:Nat}
def QbP(h:∀d',PT X e (TIT T A X.K (evT T cf (d'+1) ir))):PT X e (TIT T A X.K (evT T cf d ir)):=by
 cases d with
 |zero=>exact Qbx QdI
 |succ d=>exact h d
def QbN(h:∀d',PW X e (TIT T A X.K (evT T cf (d'+1) ir))):PW X e (TIT T A X.K (evT T cf d ir)):=by
 cases d with
 |zero=>exact QiV QdI
 |succ d=>exact h d
def Qj2(S:Snd T A C X cf m)(d:Nat)(a:Expr)(r:List Expr)(p:Pos)(ir:E)(h:compAnd (m+1) C a r p=some ir):
  PW X (.BoolOp .And (a::r) p) (TIT T A X.K (evT T cf d ir))/\PE X (.BoolOp .And (a::r) p) (TI T A X.K (ev T cf d ir)):=by
 cases r with
 |nil=>exact⟨Qhr (S.t d a ir h).1,Qf8 (S.t d a ir h).2⟩
 |cons b r=>
  simp only[compAnd,Xc]at h;obtain⟨a',ha,b',hb,h⟩:=h;cases h;constructor
  ·refine QbN λd=>?_;refine Qmh (Qkh (S.t d a a' ha).1 (S.an d b r p b' hb).1) ?_;rintro Y H Q ⟨α,Z,hs,u,hs',rs,R,e,q⟩;simp only[evT]at e;obtain⟨c,h1,e1,e⟩:=Qd e;refine TIT.run rs R e1 λα1 H1 E1 R1 rs1=>?_
   cases c with
   |true=>exact TIT.run rs1 R1 e λα2 H2 E2 R2 rs2=>q α2 H2 (E1.trans E2 R2.h) R2
   |false=>cases e;exact q α1 H1 E1 R1
  ·refine QS λd=>?_;refine Za (QkG (S.t d a a' ha).2 (S.an d b r p b' hb).2) ?_;rintro Y H Q ⟨α,Z,hs,u,hs',rs,R,e,q⟩;simp only[ev]at e;obtain⟨u1,h1,e1,e⟩:=Qd e;refine TI.run rs R e1 λα1 x H1 E1 R1 r1 rs1=>?_;split at e
   ·cases(show x=_ from r1);exact⟨true,rfl,TI.run rs1 R1 e λα2 v H2 E2 R2 r2 rs2=>q α2 v H2 (E1.trans E2 R2.h) R2 r2⟩
   ·cases(show x=_ from r1);cases e;exact⟨false,rfl,q α1 _ H1 E1 R1 rfl⟩
   ·cases e
def QoW(S:Snd T A C X cf m)(d:Nat)(a:Expr)(r:List Expr)(p:Pos)(ir:E)(h:compOr (m+1) C a r p=some ir):
  PW X (.BoolOp .Or (a::r) p) (TIT T A X.K (evT T cf d ir))/\PE X (.BoolOp .Or (a::r) p) (TI T A X.K (ev T cf d ir)):=by
 cases r with
 |nil=>exact⟨Qkg (S.t d a ir h).1,Qf8 (S.t d a ir h).2⟩
 |cons b r=>
  simp only[compOr,Xc]at h;obtain⟨a',ha,b',hb,h⟩:=h;cases h;constructor
  ·refine QbN λd=>?_;refine Qmh (Qnp (S.t d a a' ha).1 (S.orr d b r p b' hb).1) ?_;rintro Y H Q ⟨α,Z,hs,u,hs',rs,R,e,q⟩;simp only[evT]at e;obtain⟨c,h1,e1,e⟩:=Qd e;refine TIT.run rs R e1 λα1 H1 E1 R1 rs1=>?_
   cases c with
   |false=>exact TIT.run rs1 R1 e λα2 H2 E2 R2 rs2=>q α2 H2 (E1.trans E2 R2.h) R2
   |true=>cases e;exact q α1 H1 E1 R1
  ·refine QS λd=>?_;refine Za (Qnv (S.t d a a' ha).2 (S.orr d b r p b' hb).2) ?_;rintro Y H Q ⟨α,Z,hs,u,hs',rs,R,e,q⟩;simp only[ev]at e;obtain⟨u1,h1,e1,e⟩:=Qd e;refine TI.run rs R e1 λα1 x H1 E1 R1 r1 rs1=>?_;split at e
   ·cases(show x=_ from r1);cases e;exact⟨true,rfl,q α1 _ H1 E1 R1 rfl⟩
   ·cases(show x=_ from r1);exact⟨false,rfl,TI.run rs1 R1 e λα2 v H2 E2 R2 r2 rs2=>q α2 v H2 (E1.trans E2 R2.h) R2 r2⟩
   ·cases e
def QkY{b':E}{o:CmpOp}(h:Qf m C b=some b'):behindInMarks o b=false:=by
 cases b<;>first|rfl|skip
 cases m<;>first|exact Znn h|simp[Qf]at h
def QjZ{o:CmpOp}(tx:Txt T A X.K X.mg)(tab:QaW X.prog X.w T A X.K)(hu:X.A.units+64<cLine)(S:Snd T A C X cf m)(h:Qf (m+1) C (.Compare a [o] [b] p)=some ir):
  PE X (.Compare a [o] [b] p) (TI T A X.K (ev T cf d ir))/\PT X (.Compare a [o] [b] p) (TIT T A X.K (evT T cf d ir)):=by
 simp only[Qrg,Xc]at h;obtain⟨a',ha,b',hb,h⟩:=h;cases h;obtain⟨r,ho,hr⟩:=QqO (X:=X) (T:=T) (A:=A) tx tab hu o
 have key:∀(d:Nat) (Y:St) (H:Hp) (Q:VK) (α:List Addr) (Z:Rho) (hs hs':Hs) (u:U),RS A α Z Y->Rep T A X.K α hs H->ev T cf (d+1) (.cmp o a' b') Z hs=some (u,hs') ->
   (∀α' c H',u=.bl c->Ext α α' H H'->Rep T A X.K α' hs' H'->Q (.bl c) H')->tOp r (TI T A X.K (ev T cf d a')) (TI T A X.K (ev T cf d b')) Y H Q:=by
  intro d Y H Q α Z hs hs' u rs R e q;simp only[ev]at e;obtain⟨u1,h1,e1,e⟩:=Qd e;obtain⟨u2,h2,e2,e⟩:=Qd e;simp only[Xb]at e;obtain⟨c,e3,e⟩:=e;cases e;refine TI.run rs R e1 λα1 x H1 E1 R1 r1 rs1=>?_;refine TI.run rs1 R1 e2 λα2 y H2 E2 R2 r2 rs2=>?_;exact hr e3 (r1.mono E2.pre) r2 R2 (q α2 c H2 rfl (E1.trans E2 R2.h) R2)
 constructor
 ·refine QS λd=>?_;refine Za (QhJ ho (S.e d a a' ha) (S.e d b b' hb) (QkY hb)) ?_;rintro Y H Q ⟨α,Z,hs,u,hs',rs,R,e,q⟩
  exact key d Y H Q α Z hs hs' u rs R e λα' c H' eu E' R'=>q α' _ H' E' R' (by rw[eu];rfl)
 ·refine QbP λd=>?_
  cases d with
  |zero=>exact Qbx λz z z v=>by obtain⟨_,_,_,_,_,_,_,h,_⟩:=v;simp[evT,ev,bd]at h
  |succ d=>
   refine QiW (Qhs ho (S.e d a a' ha) (S.e d b b' hb) (QkY hb)) ?_;rintro Y H Q ⟨α,Z,hs,u,hs',rs,R,e,q⟩;simp only[evT]at e;obtain⟨u1,h1,e1,e⟩:=Qd e;simp only[Xb]at e;obtain⟨c,e3,e⟩:=e;cases e;refine key d Y H _ α Z hs _ u1 rs R e1 λα' c' H' eu E' R'=>⟨c',rfl,?_⟩;rw[eu]at e3;cases e3;exact q α' H' E' R'
def Qhg{t:Expr}(S:Snd T A C X cf m)(h:Qf (m+1) C (.IfExp t a b p)=some ir):PE X (.IfExp t a b p) (TI T A X.K (ev T cf d ir)):=by
 refine QS λd=>?_;simp only[Qrf,Xc]at h;obtain⟨t',ht,a',ha,b',hb,h⟩:=h;cases h;refine Za (Qfa (S.t d t t' ht).1 (S.e d a a' ha) (S.e d b b' hb)) ?_;rintro Y H Q ⟨α,Z,hs,u,hs',rs,R,e,q⟩;simp only[ev]at e;obtain⟨c,h1,e1,e⟩:=Qd e;refine TIT.run rs R e1 λα1 H1 E1 R1 rs1=>?_
 cases c with
 |true=>exact TI.run rs1 R1 e λα2 v H2 E2 R2 r2 rs2=>q α2 v H2 (E1.trans E2 R2.h) R2 r2
 |false=>exact TI.run rs1 R1 e λα2 v H2 E2 R2 r2 rs2=>q α2 v H2 (E1.trans E2 R2.h) R2 r2
theorem Y5{f:Ev}{Z:Rho}:∀{es:List E} {hs hs':Hs} {us:List U},evs f Z es hs=some (us,hs')->us.length=es.length
 |[],_,_,_,h=>by cases h;rfl
 |e::r,hs,hs',us,h=>by
  simp only[evs]at h;obtain⟨u,h1,e1,h⟩:=Qd h;obtain⟨ws,h2,e2,h⟩:=Qd h;cases h;simp[Y5 e2]
theorem Q9{C:Ctx}:∀{m:Nat} {es:List Expr} {irs:List E},compA m C es=some irs->irs.length=es.length
 |0,_,_,h=>by simp[compA]at h
 |m+1,[],_,h=>by cases h;rfl
 |m+1,e::r,irs,h=>by
  simp only[compA,Xc]at h;obtain⟨e',he,r',hr,h⟩:=h;cases h;simp[Q9 hr]
def QfU(S:Snd T A C X cf m)(d:Nat)(es:List Expr)(irs:List E)(h:compA (m+1) C es=some irs):PA X es (TIA T A X.K (λZ hs=>evs (ev T cf d) Z irs hs)):=by
 cases es with
 |nil=>
  cases h;refine Qmi YX ?_;rintro Y H Q ⟨α,Z,hs,u,hs',rs,R,e,q⟩;cases e;exact q α [] H Ext.refl R .nil
 |cons e r=>
  simp only[compA,Xc]at h;obtain⟨e',he,r',hr,h⟩:=h;cases h;refine Qmi (Zm (S.e d e e' he) (S.a d r r' hr) (Qn (Qs he))) ?_;rintro Y H Q ⟨α,Z,hs,u,hs',rs,R,e,q⟩;simp only[evs]at e;obtain⟨u1,h1,e1,e⟩:=Qd e;obtain⟨us,h2,e2,e⟩:=Qd e;cases e;refine TI.run rs R e1 λα1 x H1 E1 R1 r1 rs1=>?_;exact TIA.run rs1 R1 e2 λα2 xs H2 E2 R2 r2 rs2=>q α2 _ H2 (E1.trans E2 R2.h) R2 (.cons (r1.mono E2.pre) r2)
def QjR(S:Snd T A C X cf m)(d:Nat)(e:Option Expr)(ir:Option E)(h:compO (m+1) C e=some ir):PO X e (TIO T A X.K (λZ hs=>evO (ev T cf d) Z ir hs)):=by
 cases e with
 |none=>
  cases h;intro pins s Y H Q I hw;refine Qhy pins s Y H Q I ?_;obtain⟨α,Z,hs,u,hs',rs,R,e,q⟩:=hw;cases e;exact q α H Ext.refl R
 |some e=>
  simp only[compO,Xc]at h;obtain⟨e',he,h⟩:=h;cases h;intro pins s Y H Q I hw;refine Qhx (S.e d e e' he) pins s Y H Q I ?_;obtain⟨α,Z,hs,u,hs',rs,R,e,q⟩:=hw;simp only[evO]at e;obtain⟨u1,h1,e1,e⟩:=Qd e;refine TI.run rs R e1 λα1 x H1 E1 R1 r1 rs1=>?_;split at e
  ·cases e;obtain⟨i,rfl,c⟩:=r1;cases c.exact;exact⟨_,rfl,q α1 H1 E1 R1⟩
  ·cases e
def TIO.run{T:Tbl}{A:Adr}{K:W.Frag}{α:List Addr}{Z:Rho}{Y:St}{hs h1:Hs}{H:Hp}{f:Rho->Hs->Option (Option Int×Hs)}{u:Option Int}{Q:Option Int->Hp->Prop}(rs:RS A α Z Y)(rp:Rep T A K α hs H)(h:f Z hs=some (u,h1))
  (k:∀α1 H1,Ext α α1 H H1->Rep T A K α1 h1 H1->RS A α1 Z Y->Q u H1):TIO T A K f Y H Q :=
 ⟨α,Z,hs,u,h1,rs,rp,h,λα1 H1 e r=>k α1 H1 e r (rs.mono e.pre)⟩
def Qhd{es:List Expr}{k:Nat}(S:Snd T A C X cf m)(h:Qf (m+1) C (.Tuple es k p)=some ir):PE X (.Tuple es k p) (TI T A X.K (ev T cf d ir)):=by
 refine QS λd=>?_;simp only[Qre]at h;split at h
 case isFalse=>cases h
 rename_i hz;simp only[Xc]at h;obtain⟨es',he,h⟩:=h;cases h;refine Za (Qf7 (S.a d es es' he)) ?_;rintro Y H Q ⟨α,Z,hs,u,hs',rs,R,e,q⟩;simp only[ev]at e;obtain⟨us,h1,e1,e⟩:=Qd e;cases e;refine TIA.run rs R e1 λα1 vs H1 E1 R1 r1 rs1=>⟨?_,λp hp=>?_⟩
 ·rw[<-r1.length,Y5 e1,Q9 he];exact X3 hz big
 ·obtain⟨R',E'⟩:=R1.new (o:=.tup us) hp ⟨_,Qh,RUs.mono QR r1⟩
  exact q _ _ _ (E1.trans E' R'.h) R' ⟨p,by rw[<-R1.h.len];exact Q3,rfl⟩
def QjX{es:List Expr}(S:Snd T A C X cf m)(h:Qf (m+1) C (.List es p)=some ir):PE X (.List es p) (TI T A X.K (ev T cf d ir)):=by
 refine QS λd=>?_;simp only[Qrd]at h;split at h
 case isFalse=>cases h
 rename_i hz;simp only[Xc]at h;obtain⟨es',he,h⟩:=h;cases h;refine Za (QkC (S.a d es es' he)) ?_;rintro Y H Q ⟨α,Z,hs,u,hs',rs,R,e,q⟩;simp only[ev]at e;obtain⟨us,h1,e1,e⟩:=Qd e;cases e;refine TIA.run rs R e1 λα1 vs H1 E1 R1 r1 rs1=>⟨?_,λp hp=>?_⟩
 ·rw[<-r1.length,Y5 e1,Q9 he];exact X3 hz big
 ·obtain⟨R',E'⟩:=R1.new (o:=.lst us) hp ⟨_,Qh,RUs.mono QR r1⟩
  exact q _ _ _ (E1.trans E' R'.h) R' ⟨p,by rw[<-R1.h.len];exact Q3,rfl⟩
def Qhf{lo hi:Option Expr}{p2:Pos}(S:Snd T A C X cf m)(h:((Qf m C a).bind λa'=>(compO m C lo).bind λl=>(compO m C hi).bind λh=>some (E.sl a' l h))=some ir):PE X (.Subscript a (.Slice lo hi none p2) p) (TI T A X.K (ev T cf d ir)):=by
 refine QS λd=>?_;simp only[Xc]at h;obtain⟨a',ha,l',hl,h',hh,h⟩:=h;cases h;refine Za (Qe8 (sl_list.or QjL) (S.e d a a' ha) (S.o d lo l' hl) (S.o d hi h' hh)) ?_;rintro Y H Q ⟨α,Z,hs,u,hs',rs,R,e,q⟩;simp only[ev]at e;obtain⟨u1,h1,e1,e⟩:=Qd e;obtain⟨u2,h2,e2,e⟩:=Qd e;obtain⟨u3,h3,e3,e⟩:=Qd e;refine TI.run rs R e1 λα1 x H1 E1 R1 r1 rs1=>?_;refine TIO.run rs1 R1 e2 λα2 H2 E2 R2 rs2=>?_;refine TIO.run rs2 R2 e3 λα3 H3 E3 R3 rs3=>?_;exact QjM e ((r1.mono E2.pre).mono E3.pre) R3 λα4 z H4 E4 R4 r4=>q α4 z H4 (((E1.trans E2 R2.h).trans E3 R3.h).trans E4 R4.h) R4 r4
def Qia{a' b':E}(hu:X.A.units+1<cLine)(tx:Txt T A X.K X.mg)(ha:PE X a (TI T A X.K (ev T cf d a')))(hb:PE X b (TI T A X.K (ev T cf d b')))(hs:ZT b=true):PE X (.Subscript a b p) (TI T A X.K (ev T cf (d+1) (.ix a' b'))):=by
 refine Za (Qnx (ix_seq.or (Qh9 hu)) ha hb (Jq hs)) ?_;rintro Y H Q ⟨α,Z,hs,u,hs',rs,R,e,q⟩;simp only[ev]at e;obtain⟨u1,h1,e1,e⟩:=Qd e;obtain⟨u2,h2,e2,e⟩:=Qd e;simp only[Xb]at e;obtain⟨x,e3,e⟩:=e;cases e;refine TI.run rs R e1 λα1 x H1 E1 R1 r1 rs1=>?_;refine TI.run rs1 R1 e2 λα2 y H2 E2 R2 r2 rs2=>?_;exact QgV tx e3 (r1.mono E2.pre) r2 R2 λz rz=>q α2 z H2 (E1.trans E2 R2.h) R2 rz
theorem RF.look{α:List Addr}{x:Str}{k:Nat}{u:U}(hk:T.fns'[k]?=some x)(nd:T.fns'.Nodup):∀{fs:List (Nat×U)} {fv:List (Str×V)},RF T A α fs fv->fs.lookup k=some u->∃v,fv.lookup x=some v/\RU A α u v
 |_,_,.nil,h=>by cases h
 |_,_,.cons (a:=p) (b:=q) r t,h=>by
  obtain⟨pk,pu⟩:=p;obtain⟨qx,qv⟩:=q;rw[Vo]at h ⊢;by_cases e:k=pk
  ·subst e;rw[Ui]at h;cases h;have e2:x=qx:=X4 (hk.symm.trans r.1);subst e2;rw[Ui];exact⟨qv,rfl,r.2⟩
  ·have n1:(k==pk)=false:=by simpa using e
   rw[n1]at h
   have n2:(x==qx)=false:=by
    rw[Wu];rintro rfl;obtain⟨l1,q1⟩:=Xa.mp hk;obtain⟨l2,q2⟩:=Xa.mp r.1;exact e ((List.getElem_inj nd).mp (q1.trans q2.symm))
   rw[n2];exact RF.look hk nd t h
def Qrl{t t':TE}(h:PE X e t)(h':PE X e t'):PE X e (λY H Q=>t Y H Q\/t' Y H Q):=λpins s Y H Q I z=>z.elim (h pins s Y H Q I) (h' pins s Y H Q I)
def Qqk:PE X e (λz z z=>False):=λpins s Y H Q I h=>h.elim
def Qj1{f:Str}(g:GX T A C X)(S:Snd T A C X cf m)(h:Qf (m+1) C (.Attribute a f p)=some ir):PE X (.Attribute a f p) (TI T A X.K (ev T cf d ir)):=by
 refine QS λd=>?_;simp only[Qrb]at h;split at h
 ·rename_i hn;simp only[Xc]at h;obtain⟨a',ha,k,hk,h⟩:=h;cases h
  have hk':T.fns'[k]?=some f:=by rw[<-g.CT];exact Zz hk
  refine Za (Qrl (QkE (S.e d a a' ha) (Zw hn)) Qqk) ?_;rintro Y H Q ⟨α,Z,hs,u,hs',rs,R,e,q⟩;simp only[ev]at e;obtain⟨u1,h1,e1,e⟩:=Qd e;split at e
  ·rename_i n;split at e
   ·rename_i c fs eo;refine .inl (TI.run rs R e1 λα1 x H1 E1 R1 r1 rs1=>?_);obtain⟨pa,hpa,rfl⟩:=r1;simp only[Xb]at e;obtain⟨w,el,e⟩:=e;cases e;obtain⟨dx,fv,q1,rf,lc⟩:=R1.h.ob n pa _ hpa eo;obtain⟨v,l1,rv⟩:=RF.look hk' g.txt.fd rf el;have cl:=g.txt.cl c _ (Xk lc);exact⟨pa,A.c c,dx,fv,v,rfl,q1,cl.cls,cl.nf f (Xp hk'),l1,q α1 v H1 E1 R1 rv⟩
   ·cases e
  ·cases e
 ·cases h
end
end
section
variable {α:List Addr}{es:List E}{args:List Expr}{us:List U}{vs:List V}{d i:Nat}{p pos:Pos}{x:Str}
section
variable {X:Cx}{T:Tbl}{A:Adr}{C:Ctx}{cf:Cf}{m k:Nat}
def QeJ{vs:List (Key×Value)}{y:U}{x:U}{yv:V}(ky:QaY y=true)(ry:RU A α y yv):∀{kvs:List (U×U)},Paired (λ(p:U×U) (q:Key×Value)=>Qfp p.1 q.1/\∃v,RU A [] p.2 v/\RelV v q.2) kvs vs->Qaz kvs y=some x ->
  ∃key v u,yv=kV key/\valueAt vs key=some u/\RU A [] x v/\RelV v u:=by
 obtain⟨key,hy,hk⟩:∃key,yv=kV key/\Qfp y key:=by
  cases y with
  |int i m=>
   cases m with
   |zero=>obtain⟨j,rfl,c⟩:=ry;cases c.exact;exact⟨.inl i,rfl,rfl⟩
   |succ m=>cases ky
  |str z=>cases(show yv=_ from ry);exact⟨.inr ⟨z.toArray⟩,rfl,rfl⟩
  |_=>cases ky
 have inj:∀{p:U} {q:Key},Qfp p q->(p=y↔q=key):=by
  intro p q hp
  cases y with
  |int i m=>
   cases m with
   |succ m=>cases ky
   |zero=>
    cases(show key=_ from hk)
    cases p with
    |int j n=>
     cases n with
     |succ n=>exact(show False from hp).elim
     |zero=>cases(show q=_ from hp);exact⟨λe=>(by cases e;rfl),λe=>(by cases e;rfl)⟩
    |str z=>cases(show q=_ from hp);exact⟨λe=>(by cases e),λe=>(by cases e)⟩
    |_=>exact(show False from hp).elim
  |str z=>
   cases(show key=_ from hk)
   cases p with
   |int j n=>
    cases n with
    |succ n=>exact(show False from hp).elim
    |zero=>cases(show q=_ from hp);exact⟨λe=>(by cases e),λe=>(by cases e)⟩
   |str z'=>
    cases(show q=_ from hp)
    refine⟨λe=>(by cases e;rfl),λe=>?_⟩
    have e1:=Sum.inr.inj e;have e2:=congrArg (λs:Str=>s.cps.toList) e1
    have e3:z'=z:=by simpa using e2
    rw[e3]
   |_=>exact(show False from hp).elim
  |_=>cases ky
 intro kvs r
 induction r with
 |nil=>intro h;cases h
 | @cons p q ps qs hpq t ih=>
  intro h;obtain⟨pk,pv⟩:=p;obtain⟨qk,qv⟩:=q;obtain⟨h1,v,h2,h3⟩:=hpq;simp only[Qaz]at h;by_cases e:pk=y
  ·rw[if_pos e]at h;cases h;have e2:qk=key:=(inj h1).mp e
   exact⟨key,v,qv,hy,by simp[valueAt,e2],h2,h3⟩
  ·rw[if_neg e]at h;obtain⟨key',v',u',g1,g2,g3,g4⟩:=ih h
   have e1:key'=key:=by
    rw[hy]at g1;cases key<;>cases key'<;>simp_all [kV]
   subst e1;have e2:¬qk=key':=λz=>e ((inj h1).mpr z);refine⟨key',v',u',g1,?_,g3,g4⟩;simp only[valueAt,Wz];rw[X6 e2];exact g2
def Qm8{b:Expr}{b':E}(g:GX T A C X)(hb:PE X b (TI T A X.K (ev T cf d b')))(hs:ZT b=true)(hg:Yx C x=true)(hn:x≠"__debug__")(hx:C.gl.lookup x=some (.con i)):
  PE X (.Subscript (.Name x p) b pos) (TI T A X.K (ev T cf (d+1) (.tab i b'))):=by
 intro pins s Y H Q I h;obtain⟨α,Z,hs',u,hs2,rs,R,e,q⟩:=h;simp only[ev]at e;obtain⟨w,h1,e1,e⟩:=Qd e;simp only[Xb]at e;obtain⟨z,e2,e⟩:=e;cases e;unfold QeK at e2;split at e2
 case h_2=>cases e2
 rename_i kvs ec;split at e2
 case isFalse=>cases e2
 rename_i ky;obtain⟨vs,_,hd,hp⟩:=g.tab i kvs ec;refine QgW PySem.F.slot_dict_getitem.lookup (Jq hs) (Z6 I (Zc g hg) (g.gco x i hx) ?_ (Zj hn));refine thn (hb pins s Y H (λy H1=>∃α1,Ext α α1 H H1/\Rep T A X.K α1 hs2 H1/\RU A α1 w y) I (TI.run rs R e1 λα1 y H1 E1 R1 r1 rs1=>⟨α1,E1,R1,r1⟩)) λiv s1 t=>?_;obtain⟨y,H1,I1,ry,α1,E1,R1,r1⟩:=t;obtain⟨key,v,u',ey,ev',rv,rl⟩:=QeJ ky r1 hp e2;have dd:=hd s1.heap I1.kIn;subst ey
 exact⟨dd.typeIs,wpAny_getItem_of (Jh ry) dd.mapOf ev' ⟨v,H1,I1.tok _,rl,q α1 v H1 E1 R1 (RU.mono (λn a e=>by simp at e) rv)⟩⟩
def Qda{hs hs':Hs}{H:Hp}{u:U}{f:Nat}{Q:VK}{E:XK}(F:Fc X T A cf k)(r:RUs A α us vs)(R:Rep T A X.K α hs H)(e:cf f us hs=some (u,hs'))
  (q:∀α' v H',Ext α α' H H'->Rep T A X.K α' hs' H'->RU A α' u v->Q v H'):spC T A X.K cf f vs H Q E:=⟨α,us,hs,u,hs',r,R,e,F.some f us hs _ e,q⟩
def Qj0(g:GX T A C X)(F:Fc X T A cf k)(hr:Room k X.A)(S:Snd T A C X cf m)(hg:Yx C x=true)(hn:x≠"__debug__")(hx:C.gl.lookup x=some (.fn i))(ha:compA m C args=some es):
  PE X (.Call (.Name x p) args [] pos) (TI T A X.K (ev T cf (d+1) (.call i es))):=by
 cases hF:T.fns[i]? with
 |none=>
  refine Yz ?_;rintro Y H Q ⟨α,Z,hs,u,hs',rs,R,e,q⟩;simp only[ev]at e;obtain⟨us,h1,e1,e⟩:=Qd e;obtain⟨F',h,_⟩:=F.some _ _ _ _ e;rw[hF]at h;cases h
 |some Fn=>
  obtain⟨fd,G,b,kp⟩:=F.ok i Fn hF;have pa:=S.a d args es ha
  have key:∀Y H Q,TI T A X.K (ev T cf (d+1) (.call i es)) Y H Q->QgT (spC T A X.K cf i) [] E0 (TIA T A X.K (λZ hs=>evs (ev T cf d) Z es hs)) Y H Q:=by
   rintro Y H Q ⟨α,Z,hs,u,hs',rs,R,e,q⟩;simp only[ev]at e;obtain⟨us,h1,e1,e⟩:=Qd e;refine TIA.run rs R e1 λα1 vs H1 E1 R1 r1 rs1=>?_;rw[Vu];exact Qda F r1 R1 e λα2 v H2 E2 R2 r2=>q α2 v H2 (E1.trans E2 R2.h) R2 r2
  cases args with
  |nil=>
   have ee:es=[]:=by
    have:=Q9 ha;simpa using this
   subst ee;refine Za (Qfc G hr (Zc g hg) (g.gfn x i hx) kp b .nil QdA (Zj hn)) λY H Q h=>?_;have h2:=key Y H Q h;obtain⟨α,Z,hs,us,hs',rs,R,e,q⟩:=h2;cases e;exact q α [] H Ext.refl R .nil
  |cons a r=>exact Za (QhK G hr (Zc g hg) (g.gfn x i hx) kp b .nil QdA pa (Zj hn) (Qn (QF ha a (Xm ..))) (Zv λz hz=>QF ha z (Xi _ hz))) key
def RUs.app{ws:List U}{zs:List V}(a:RUs A α us vs)(b:RUs A α ws zs):RUs A α (us++ws) (vs++zs):=a.append b
def Vals.dropN{us:List Value}(r:Vals vs us):∀n,Vals (vs.drop n) (us.drop n):=λn=>by
 induction r generalizing n with
 |nil=>simp;exact .nil
 |cons a t ih=>
  cases n with
  |zero=>exact .cons a t
  |succ n=>exact ih n
def Qhi{ir:E}(g:GX T A C X)(F:Fc X T A cf k)(hr:Room k X.A)(S:Snd T A C X cf m)(hg:Yx C x=true)(hn:x≠"__debug__")(hx:C.gl.lookup x=some (.fn i))(ha:compA m C args=some es)(h:Qmp C i es=some ir):
  PE X (.Call (.Name x p) args [] pos) (TI T A X.K (ev T cf (d+1) ir)):=by
 unfold Qmp at h;rw[g.CT]at h;split at h
 ·cases h;exact Qj0 g F hr S hg hn hx ha
 cases h
def RUs.nilA(r:RUs A [] us vs):RUs A α us vs:=RUs.mono (λn a e=>by simp at e) r
def Qgk(F:Fc X T A cf k){f n:Nat}{Fn:Fn}(hF:T.fns[f]?=some Fn):∃fd ps ds dvs,FnOk X.prog X.w X.K X.mg X.base CX0 k (A.f f) fd ps (spC T A X.K cf f)/\W.keepIn X.K (.ref (A.f f))=true/\Binds X.K fd ps ds/\Vals dvs ds/\RUs A [] (Qcp T f n) dvs:=by
 unfold Qcp
 cases hD:T.dfl.lookup f with
 |none=>
  obtain⟨fd,G,b,kp⟩:=F.ok f Fn hF;exact⟨fd,_,[],[],G,kp,b,.nil,.nil⟩
 |some D=>
  obtain⟨fd,G,kp,ds,dvs,rd,vd,hb⟩:=F.df f D Fn hD hF;exact⟨fd,_,_,_,G,kp,hb (D.ds.length-(D.np-n)),Vals.dropN vd _,RUs.drop (D.ds.length-(D.np-n)) rd⟩
def QjV(g:GX T A C X)(F:Fc X T A cf k)(hr:Room (k+1) X.A)(S:Snd T A C X cf m)(hg:Yx C x=true)(hn:x≠"__debug__")(hx:C.gl.lookup x=some (.cls i))(ha:compA m C args=some es):
  PE X (.Call (.Name x p) args [] pos) (TI T A X.K (ev T cf (d+1) (.make i es))):=by
 cases hC:T.cls[i]? with
 |none=>
  refine Yz ?_;rintro Y H Q ⟨α,Z,hs,u,hs',rs,R,e,q⟩;simp only[ev]at e;obtain⟨us,h1,e1,e⟩:=Qd e;simp[ZM,hC]at e
 |some Cl=>
  have cl:=g.txt.cl i Cl hC;have li:i<T.cls.length:=(Xa.mp hC).1;have pa:=S.a d args es ha
  have new:∀{α:List Addr} {hs:Hs} {H:Hp} (R:Rep T A X.K α hs H) (x dx:Addr),H x=none->H dx=none->dx≠x ->
    Rep T A X.K (α++[x]) (hs++[.ins i []]) (upd (upd H dx (.own x)) x (.ins (A.c i) dx []))/\Ext α (α++[x]) H (upd (upd H dx (.own x)) x (.ins (A.c i) dx [])):=by
   intro α hs H R x dx hx hd hne
   have ne:∀b y,H b=some y->b≠dx:=λb y e z=>by rw[z,hd]at e;cases e
   have R0:Rep T A X.K α hs (upd H dx (.own x)):=⟨⟨R.h.len,R.h.nd_keep λb x w e=>by rw[Qc (ne _ _ e)];exact e,λn a o e1 e2=>RO.keep (R.h.ob n a o e1 e2) (λw w e=>e) λw y e w=>by rw[Qc (ne _ _ e)];exact e⟩,R.s.keep λy e w=>by rw[Qc (ne _ _ e)];exact e⟩
   obtain⟨R1,E1⟩:=R0.new (p:=x) (o:=.ins i []) (ho:=.ins (A.c i) dx []) (by rw[Qc (X8 hne)];exact hx) ⟨dx,[],Qh,.nil,li⟩
   refine⟨R1,⟨E1.pre,λn a e l=>?_,λb o e hb=>E1.keep b o (by rw[Qc (ne _ _ e)];exact e) hb,λb o kv e=>E1.fz b o kv (by rw[Qc (ne _ _ e)];exact e),λb o e=>E1.tr b o (by rw[Qc (ne _ _ e)];exact e)⟩⟩
   rcases QZ e with z|⟨_,z⟩
   ·have:=getElem?_lt z;omega
   ·rw[z];exact .inl hx
  cases hi:Cl.init with
  |none=>
   have ini:=cl.ini;rw[hi]at ini
   cases args with
   |cons a r=>
    refine Yz ?_;rintro Y H Q ⟨α,Z,hs,u,hs',rs,R,e,q⟩;simp only[ev]at e;obtain⟨us,h1,e1,e⟩:=Qd e;have l1:=Y5 e1;rw[Q9 ha]at l1;simp only[ZM,hC,hi]at e;split at e
    ·rename_i z;rw[z]at l1;simp at l1
    ·cases e
   |nil=>
    refine Za (Qdz (C:=A.c i) ⟨cl.mks,ini,cl.kp⟩ (Zc g hg) (g.gcl x i hx) (Zj hn)) ?_;rintro Y H Q ⟨α,Z,hs,u,hs',rs,R,e,q⟩
    have ee:es=[]:=by
     have:=Q9 ha;simpa using this
    subst ee;simp only[ev,evs,bd,ZM,hC,hi,Wo]at e;cases e;intro y dx h1 h2 h3;obtain⟨R1,E1⟩:=new R y dx h1 h2 h3
    exact q _ _ _ E1 R1 ⟨y,by rw[<-R.h.len];exact Q3,rfl⟩
  |some f=>
   have ini:=cl.ini;rw[hi]at ini
   have key:∀dvs:List V,RUs A [] (Qcp T f (es.length+1)) dvs->∀Y H Q,TI T A X.K (ev T cf (d+1) (.make i es)) Y H Q->TIA T A X.K (λZ hs=>evs (ev T cf d) Z es hs) Y H λvs H1=>∀x dx,H1 x=none->H1 dx=none->dx≠x ->
     spC T A X.K cf f (.ref x::(vs++dvs)) (upd (upd H1 dx (.own x)) x (.ins (A.c i) dx [])) (λv H2=>v=.non/\Q (.ref x) H2) E0:=by
    rintro dvs rdv Y H Q ⟨α,Z,hs,u,hs',rs,R,e,q⟩;simp only[ev]at e;obtain⟨us,h1,e1,e⟩:=Qd e;simp only[ZM,hC,hi]at e;rw[Y5 e1]at e;split at e
    case h_2=>cases e
    rename_i h2 e2;cases e;refine TIA.run rs R e1 λα1 vs H1 E1 R1 r1 rs1=>?_;intro y dx g1 g2 g3;obtain⟨R2,E2⟩:=new R1 y dx g1 g2 g3
    have at1:(α1++[y])[h1.length]?=some y:=by rw[<-R1.h.len];exact Q3
    refine Qda F (us:=.ref h1.length::(us++Qcp T f (es.length+1))) (.cons ⟨y,at1,rfl⟩ ((RUs.mono E2.pre r1).app (RUs.nilA rdv))) R2 e2 λα3 v H3 E3 R3 r3=>⟨r3,?_⟩;exact q α3 _ H3 (((E1.trans E2 R2.h)).trans E3 R3.h) R3 ⟨y,E3.pre _ _ at1,rfl⟩
   cases hF:T.fns[f]? with
   |none=>
    refine Yz ?_;rintro Y H Q ⟨α,Z,hs,u,hs',rs,R,e,q⟩;simp only[ev]at e;obtain⟨us,h1,e1,e⟩:=Qd e;simp only[ZM,hC,hi]at e;split at e
    case h_2=>cases e
    rename_i h2 e2;obtain⟨F',h,_⟩:=F.some _ _ _ _ e2;rw[hF]at h;cases h
   |some Fn=>
    obtain⟨fd,ps,ds,dvs,G,kp,b,vd,rdv⟩:=Qgk F (n:=es.length+1) hF;have M:Mk X.K (A.c i) (A.f f):=⟨cl.mks,ini.1,ini.2,cl.kp⟩
    cases args with
    |nil=>
     have ee:es=[]:=by
      have:=Q9 ha;simpa using this
     subst ee;refine Za (Qe9 M G hr (Zc g hg) (g.gcl x i hx) b vd QdA (Zj hn)) λY H Q h=>?_;obtain⟨α,Z,hs,us,hs',rs,R,e,q⟩:=key dvs rdv Y H Q h;cases e;exact q α [] H Ext.refl R .nil
    |cons a r=>exact Za (QhH M G hr (Zc g hg) (g.gcl x i hx) b vd QdA pa (Zj hn) (Qn (QF ha a (Xm ..))) (Zv λz hz=>QF ha z (Xi _ hz))) (key dvs rdv)
end
end
section
variable {b:Bm}{o':E}{env:Env}{o:Expr}{hs:Hs}{es:List E}{args:List Expr}{d i:Nat}{p pos q:Pos}{x:Str}
section
variable {X:Cx}{T:Tbl}{A:Adr}{C:Ctx}{cf:Cf}{m k:Nat}
theorem JL{env:Env}{pos:Pos}:∀{es:List Expr},YE es->(backTo pos (starEach es env)).all (λx=>!x.1)=true
 |[],_=>rfl
 |e::r,h=>by
  rw[Qn (h e (Xm ..))];have ih:=JL (env:=env) (pos:=pos) (es:=r) λx hx=>h x (Xi _ hx);unfold backTo at ih ⊢;rw[X1,Uo,ih];rfl
def Qiq(hn:YE args)(hl:args.length<29):methodCallForm (args.length+([]:List Keyword).length) (backTo pos (starEach args env)) (backToKw pos (keywordEach [] env))=true:=by
 unfold methodCallForm;rw[JL hn]
 have:(args.length+([]:List Keyword).length+(if(backToKw pos (keywordEach [] env)).isEmpty then 0 else 1) < 30):=by
  simp only[V0];split<;>omega
 simp only[Wt this,Bool.and_true,U3];rfl
def Qh4(h1:Zy o=true)(h2:(p.endLine==q.line)=true)(h3:args.length<29)(h4:YE args):
  eval (.Call (.Attribute o x p) args [] q) env=(do
   let ov <-eval o env
   standAt p.atName
   let (f,first) <-holding [ov] (getMethod ov x (do return (<-importBound o env).getD true))
   callWith q f first (backTo q (starEach args env)) (backToKw q (keywordEach [] env))):=by
 rw[PySem.arm_eval_Call,Zw h1];unfold methodCall;rw[Qiq h4 h3];unfold calleeOf methodCallPos;rw[h2];rfl
theorem RF.none_of{α:List Addr}{x:Str}(hx:x∉T.fns'):∀{fs:List (Nat×U)} {fv:List (Str×V)},RF T A α fs fv->fv.lookup x=none
 |_,_,.nil=>rfl
 |_,_,.cons (a:=p) (b:=q) r t=>by
  obtain⟨qx,qv⟩:=q;rw[Vo]
  have n2:(x==qx)=false:=by
   rw[Wu];rintro rfl;exact hx (Xp r.1)
  rw[n2];exact RF.none_of hx t
def Qct{f:Nat}{u:U}(h:Yg T i u hs=some f):∃n c fs Cl,u=.ref n/\hs[n]?=some (.ins c fs)/\T.cls[c]?=some Cl/\Cl.meths.lookup i=some f:=by
 cases u with
 |ref n=>
  simp only[Yg]at h;split at h
  ·rename_i c fs e;split at h
   ·rename_i Cl e2;exact⟨n,c,fs,Cl,rfl,e,e2,h⟩
   ·cases h
  ·cases h
 |_=>simp[Yg]at h
def QjU(g:GX T A C X)(F:Fc X T A cf k)(hr:Room k X.A)(S:Snd T A C X cf m)(h1:Zy o=true)(h2:(p.endLine==q.line)=true)(h3:args.length<29)
  (hx:idx x C.T.mns=some i) (ho:Qf m C o=some o') (ha:compA m C args=some es):PE X (.Call (.Attribute o x p) args [] q) (TI T A X.K (ev T cf (d+1) (.meth i o' es))):=by
 intro pins s Y H Q I hw;obtain⟨α,Z,hs,u,hs',rs,R,e,q'⟩:=hw;simp only[ev]at e;obtain⟨u1,h1',e1,e⟩:=Qd e;split at e
 case h_2=>cases e
 rename_i f hf;obtain⟨us,h2',e2,e⟩:=Qd e
 have hx':T.mns[i]?=some x:=by rw[<-g.CT];exact Zz hx
 have hns:=QF ha;refine W.methodCall_KW (thn (S.e d o o' ho pins s Y H (λv H1=>∃α1,Ext α α1 H H1/\Rep T A X.K α1 h1' H1/\RU A α1 u1 v/\RS A α1 Z Y) I (TI.run rs R e1 λα1 v H1 E1 R1 r1 rs1=>⟨α1,E1,R1,r1,rs1⟩)) λov s1 y=>?_) (Qh4 h1 h2 h3 hns);obtain⟨v,H1,I1,rv,α1,E1,R1,r1,rs1⟩:=y;obtain⟨n,c,fs,Cl,rfl,eo,hC,hf⟩:=Qct hf;obtain⟨pa',hpa,rfl⟩:=r1;cases(show ov=_ from rv);obtain⟨dx,fv,q1,rf,lc⟩:=R1.h.ob n pa' _ hpa eo;have cl:=g.txt.cl c Cl hC;obtain⟨x',hx2,hm⟩:=cl.me i f hf;have ex:x=x':=X4 (hx'.symm.trans hx2);subst ex;have nx:x∉T.fns':=λz=>g.txt.fm x z (Xp hx');obtain⟨Fn,hF,_⟩:=F.some _ _ _ _ e;obtain⟨fd,ps,ds,dvs,G,kp,b,vd,rdv⟩:=Qgk F (n:=us.length+1) hF;refine QcB I1 q1 cl.cls hm (RF.none_of nx rf) ?_
 have fin:∀(s2:Shared) (H2:Hp) (α2:List Addr) (vs:List V) (ws:List Value),Inv X pins Y H2 s2->Ext α1 α2 H1 H2->Rep T A X.K α2 h2' H2->RUs A α2 us vs->Vals vs ws ->
   wpAny (model X.prog X.w) X.A (call (.ref (A.f f)) (.ref pa'::ws)) (EP X pins Y Q) X.xe s2:=by
  intro s2 H2 α2 vs ws I2 E2 R2 r2 rw';refine Qdi (us:=.ref pa'::ws) (vs:=.ref pa'::vs) G hr b vd QdA I2 (.cons rfl rw') ?_;exact Qda F (us:=.ref n::(us++Qcp T f (us.length+1))) (.cons ⟨pa',E2.pre _ _ hpa,rfl⟩ (r2.app (RUs.nilA rdv))) R2 e λα3 v H3 E3 R3 r3=>q' α3 v H3 ((E1.trans E2 R2.h).trans E3 R3.h) R3 r3
 cases args with
 |nil=>
  have ee:es=[]:=by
   have:=Q9 ha;simpa using this
  subst ee;cases e2
  exact W.callWith_K0 (first:=[.ref pa']) I1.kIn hm.kp (fin s1 H1 α1 [] [] I1 Ext.refl R1 .nil .nil)
 |cons a r=>
  refine W.callWith_K (first:=[.ref pa']) (h₀:=X.base) I.ok.mod.kin hm.kp (thn (S.a d (a::r) es ha q pins s1 Y H1 (λvs H2=>∃α2,Ext α1 α2 H1 H2/\Rep T A X.K α2 h2' H2/\RUs A α2 us vs) I1 (TIA.run rs1 R1 e2 λα2 vs H2 E2 R2 r2 rs2=>⟨α2,E2,R2,r2⟩)) λws s2 ⟨vs,H2,I2,rw',α2,E2,R2,r2⟩=>⟨I2.kIn,?_⟩)
   (Qn (hns a (Xm ..))) (Zv λz hz=>hns z (Xi _ hz))
  exact fin s2 H2 α2 vs ws I2 E2 R2 r2 rw'
def QlL{e:Expr}{es:List Expr}(hn:YE (e::es))(hl:(e::es).length<29):((backTo pos (starEach (e::es) env)).all (λx=>!x.1)&&(backToKw pos (keywordEach [] env)).all (λx=>x.1.isSome)
   && decide ((e::es).length+([]:List Keyword).length+(if([]:List Keyword).isEmpty then 0 else 1) < 30))=true:=by
 rw[JL hn]
 have:(e::es).length+([]:List Keyword).length+(if([]:List Keyword).isEmpty then 0 else 1) < 30:=by
  simp only[V0,List.isEmpty_nil,Wo];omega
 rw[Wt this];rfl
def Y8{id ty:String}(S:Snd T A C X cf m)(B:BmS X T A b id)(pa:PlainAttrs ty)(slot:Slot ty x id)(hty:typeOf (.builtin id)=pure (.type "method_descriptor"))
  (ty:∀{u:U} {hs:Hs} {α:List Addr} {v:V} {H:Hp},Qa8 b u hs=true->RU A α u v->Rep T A X.K α hs H->L2.tyV X.K ty v H) (h1:Zy o=true) (h2:(p.endLine==q.line)=true) (h3:args.length<29)
  (ho:Qf m C o=some o') (ha:compA m C args=some es):PE X (.Call (.Attribute o x p) args [] q) (TI T A X.K (ev T cf (d+1) (.bm b o' es))):=by
 obtain⟨r,hm,hB⟩:=B;have hns:=QF ha
 cases args with
 |nil=>
  have ee:es=[]:=by
   have:=Q9 ha;simpa using this
  subst ee;refine Za (QkF pa slot hty hm (S.e d o o' ho) (Zw h1) h2) ?_;rintro Y H Q ⟨α,Z,hs,u,hs',rs,R,e,q⟩;simp only[ev,evs]at e;obtain⟨u1,h1',e1,e⟩:=Qd e;split at e
  case isFalse=>cases e
  rename_i il;obtain⟨us,h2',e2,e⟩:=Qd e;cases e2;exact TI.run rs R e1 λα1 v H1 E1 R1 r1 rs1=>⟨ty il r1 R1,hB e r1 .nil R1 λα2 v2 H2 E2 R2 r2=>q α2 v2 H2 (E1.trans E2 R2.h) R2 r2⟩
 |cons a t=>
  refine Za (Qny pa slot hty hm (S.e d o o' ho) (S.a d (a::t) es ha) (Zw h1) (QlL hns h3) h2 (Qn (hns a (Xm ..))) (Zv λz hz=>hns z (Xi _ hz))) ?_;rintro Y H Q ⟨α,Z,hs,u,hs',rs,R,e,q⟩;simp only[ev]at e;obtain⟨u1,h1',e1,e⟩:=Qd e;split at e
  case isFalse=>cases e
  rename_i il;obtain⟨us,h2',e2,e⟩:=Qd e;exact TI.run rs R e1 λα1 v H1 E1 R1 r1 rs1=>⟨ty il r1 R1,TIA.run rs1 R1 e2 λα2 vs H2 E2 R2 r2 rs2=>hB e (r1.mono E2.pre) r2 R2 λα3 v2 H3 E3 R3 r3=>q α3 v2 H3 ((E1.trans E2 R2.h).trans E3 R3.h) R3 r3⟩
noncomputable def kdB:Bm->String
 |.setdef=>"dict"
 |.get=>"dict"
 |.update=>"dict"
 |.join=>"str"
 |.split=>"str"
 |.find=>"str"
 |.index=>"str"
 |_=>"list"
def Qao{u:U}{α:List Addr}{v:V}{H:Hp}(e:Qa8 b u hs=true)(r:RU A α u v)(R:Rep T A X.K α hs H):L2.tyV X.K (kdB b) v H:=by
 cases u with
 |ref n=>
  obtain⟨a,ha,rfl⟩:=r;simp only[Qa8]at e;split at e
  ·rename_i xs eo;obtain⟨vs,q,_⟩:=R.h.ob n a _ ha eo
   have:kdB b="list":=by cases b<;>first|rfl|cases e
   rw[this];exact .inl ⟨rfl,vs,SqL.of q⟩
  ·rename_i kvs eo;obtain⟨kv,q,_⟩:=R.h.ob n a _ ha eo
   have:kdB b="dict":=by cases b<;>first|rfl|cases e
   rw[this];exact .inr (.inr (.inl ⟨rfl,.inl ⟨kv,q⟩⟩))
  ·cases e
 |str x=>
  cases(show v=_ from r)
  have:kdB b="str":=by cases b<;>first|rfl|cases e
  exact this
 |_=>cases e
def Qqa(hu:X.A.units+64<cLine)(tx:Txt T A X.K X.mg)(S:Snd T A C X cf m)(hb:Qmy x=some b)(h1:Zy o=true)(h2:(p.endLine==q.line)=true)(h3:args.length<29)
  (ho:Qf m C o=some o') (ha:compA m C args=some es):PE X (.Call (.Attribute o x p) args [] q) (TI T A X.K (ev T cf (d+1) (.bm b o' es))):=by
 unfold Qmy at hb;split at hb
 ·rename_i e;subst e;cases hb;exact Y8 S QcM Ul PySem.F.slot_list_append PySem.F.type_list_append (λe r R=>Qao e r R) h1 h2 h3 ho ha
 split at hb
 ·rename_i e;subst e;cases hb;exact Y8 S QiG Ul PySem.F.slot_list_pop PySem.F.type_list_pop (λe r R=>Qao e r R) h1 h2 h3 ho ha
 split at hb
 ·rename_i e;subst e;cases hb;exact Y8 S QcL Ul PySem.F.slot_list_extend PySem.F.type_list_extend (λe r R=>Qao e r R) h1 h2 h3 ho ha
 unfold Ql9 at hb;split at hb
 ·rename_i e;subst e;cases hb;exact Y8 S (QiH (by omega)) PySem.F.plainAttrs_dict Ts PySem.F.type_dict_get (λe r R=>Qao e r R) h1 h2 h3 ho ha
 split at hb
 ·rename_i e;subst e;cases hb;exact Y8 S (Qej tx hu) Ul PySem.F.slot_list_count PySem.F.type_list_count (λe r R=>Qao e r R) h1 h2 h3 ho ha
 ·cases hb
def Z8{args:List Expr}{b:Bi}{fv:Value}{r:List V->Hp->VK->Prop}{e0:Expr}(hB:∀{α:List Addr} {us:List U} {u':U} {hs hs':Hs} {vs:List V} {H:Hp} {Q:VK},biU T b us hs=some (u',hs')->RUs A α us vs->Rep T A X.K α hs H ->
   (∀α' v' H',Ext α α' H H'->Rep T A X.K α' hs' H'->RU A α' u' v'->Q v' H')->r vs H Q)
  (h:PE X e0 (tCB r (TIA T A X.K (λZ hs=>evs (ev T cf d) Z es hs)))):PE X e0 (TI T A X.K (ev T cf (d+1) (.bi b es))):=by
 refine Za h ?_;rintro Y H Q ⟨α,Z,hs,u,hs',rs,R,e,q⟩;simp only[ev]at e;obtain⟨us,h1,e1,e⟩:=Qd e;exact TIA.run rs R e1 λα1 vs H1 E1 R1 r1 rs1=>hB e r1 R1 λα2 v2 H2 E2 R2 r2=>q α2 v2 H2 (E1.trans E2 R2.h) R2 r2
def QiI{b:Bi}:biU T b [] hs=none:=by cases b<;>rfl
def Qqb{b:Bi}(g:GX T A C X)(hh:hdC C=false)(hu:X.A.units+2<cLine)(S:Snd T A C X cf m)(hg:Yx C x=true)(hn:x≠"__debug__")(hn2:x≠"__name__")(hx:Qmz C x=some b)(ha:compA m C args=some es):
  PE X (.Call (.Name x p) args [] pos) (TI T A X.K (ev T cf (d+1) (.bi b es))):=by
 have hns:=QF ha
 cases args with
 |nil=>
  refine Yz ?_;rintro Y H Q ⟨α,Z,hs,u,hs',rs,R,e,q⟩
  have ee:es=[]:=by
   have:=Q9 ha;simpa using this
  subst ee;simp[ev,evs,bd,QiI]at e
 |cons a t=>
  unfold Qmz at hx;split at hx
  ·cases hx
  split at hx
  ·cases hx
  rename_i hl;have hm:X.mg x=none:=g.blt x hl;have pa:=S.a d (a::t) es ha;have st:=Qn (env:=X.env) (es:=t) (hns a (Xm ..));have sa:=Zv (env:=X.env) (pos:=pos) (es:=t) λz hz=>hns z (Xi _ hz);split at hx
  ·rename_i e;subst e;cases hx;obtain⟨r,hc,hB⟩:=QiL (X:=X) (A:=A) g.txt
   exact Z8 (fv:=.builtin "len") (args:=[]) hB (YJ hc (Zc g hg) hm (by decide +kernel) pa hn2 (Zj hn) st sa)
  split at hx
  ·rename_i e;subst e;cases hx;obtain⟨r,hc,hB⟩:=QiM (X:=X) (A:=A) (T:=T)
   exact Z8 (fv:=.none) (args:=[]) hB (ZL hc (Zc g hg) hm (by decide +kernel) pa hn2 (Zj hn) st sa)
  split at hx
  ·rename_i e;subst e;cases hx;obtain⟨r,hc,hB⟩:=QiK (X:=X) (A:=A) (T:=T)
   exact Z8 (fv:=.none) (args:=[]) hB (ZL hc (Zc g hg) hm (by decide +kernel) pa hn2 (Zj hn) st sa)
  split at hx
  ·rename_i e;subst e;cases hx;obtain⟨r,hc,hB⟩:=Qem (X:=X) (A:=A) (T:=T)
   exact Z8 (fv:=.none) (args:=[]) hB (ZL hc (Zc g hg) hm (by decide +kernel) pa hn2 (Zj hn) st sa)
  split at hx
  ·rename_i e;subst e;cases hx;obtain⟨r,hc,hB⟩:=QfI (X:=X) (A:=A) g.txt (g.calm hh)
   exact Z8 (fv:=.none) (args:=[]) hB (ZL hc (Zc g hg) hm (by decide +kernel) pa hn2 (Zj hn) st sa)
  split at hx
  ·rename_i e;subst e;cases hx;obtain⟨r,hc,hB⟩:=QiJ (X:=X) (A:=A) g.txt (g.calm hh)
   exact Z8 (fv:=.builtin "sum") (args:=[]) hB (YJ hc (Zc g hg) hm (by decide +kernel) pa hn2 (Zj hn) st sa)
  unfold Qma at hx;split at hx
  ·rename_i e;subst e;split at hx
   ·cases hx;obtain⟨r,hc,hB⟩:=Qen (X:=X) (A:=A) (T:=T) (g.calm hh)
    exact Z8 (fv:=.none) (args:=[]) hB (ZL hc (Zc g hg) hm (by decide +kernel) pa hn2 (Zj hn) st sa)
   ·cases hx
  ·cases hx
def Qp9{t:Str}{ty:Ty}(g:GX T A C X)(hg:Yx C t=true)(hn:t≠"__debug__")(hn2:t≠"__name__")(h:Qjr C t=some ty): ∃v,PE X (.Name t p) (tC v)/\Qpl v=some (tyW A ty):= by
 unfold Qjr at h;split at h
 ·rename_i i e;cases h;exact⟨.ref (A.c i),Qbe (Zc g hg) (g.gcl t i e) rfl (Zj hn),rfl⟩
 ·cases h
 ·split at h
  ·cases h
  rename_i e;have hm:X.mg t=none:=g.blt t e;have fin:∀n:String,bootBuiltins t=some (.type n)->PE X (.Name t p) (tC (.ty n)):=λn hb=>Qbg (Zc g hg) hm hb rfl hn2 (Zj hn);split at h
  ·rename_i e;subst e;cases h;exact⟨_,fin "int" (by decide +kernel),rfl⟩
  split at h
  ·rename_i e;subst e;cases h;exact⟨_,fin "str" (by decide +kernel),rfl⟩
  split at h
  ·rename_i e;subst e;cases h;exact⟨_,fin "bool" (by decide +kernel),rfl⟩
  split at h
  ·rename_i e;subst e;cases h;exact⟨_,fin "list" (by decide +kernel),rfl⟩
  split at h
  ·rename_i e;subst e;cases h;exact⟨_,fin "tuple" (by decide +kernel),rfl⟩
  split at h
  ·rename_i e;subst e;cases h;exact⟨_,fin "dict" (by decide +kernel),rfl⟩
  split at h
  ·rename_i e;subst e;cases h;exact⟨_,fin "ValueError" (by decide +kernel),rfl⟩
  ·cases h
def Qna{a:Expr}{t:Str}{ty:Ty}{a':E}{p1:Pos}(g:GX T A C X)(S:Snd T A C X cf m)(hi:Yx C "isinstance"=true)(hl:¬C.bl.contains ("isinstance":Str)=false)(hg:Yx C t=true)(hn:t≠"__debug__")(hn2:t≠"__name__")(h:Qjr C t=some ty)(ha:Qf m C a=some a'):
  PE X (.Call (.Name "isinstance" p) [a,.Name t p1] [] pos) (TI T A X.K (ev T cf (d+1) (.isi a' ty))):=by
 obtain⟨v,hv,hc⟩:=Qp9 (p:=p1) g hg hn hn2 h;have s1:starEach [a,.Name t p1] X.env=(false,eval a X.env)::starEach [.Name t p1] X.env:=Qn (Qs ha)
 refine Za (YJ QfG (Zc g hi) (g.blt _ hl) (by decide +kernel) (Zm (S.e d a a' ha) (Zm hv YX) s1) (by decide) (by decide) s1 rfl) ?_
 rintro Y H Q ⟨α,Z,hs,u,hs',rs,R,e,q⟩;simp only[ev]at e;obtain⟨u1,h1,e1,e⟩:=Qd e;simp only[Xb]at e;obtain⟨b,e2,e⟩:=e;cases e;refine TI.run rs R e1 λα1 x H1 E1 R1 r1 rs1=>?_;obtain⟨tv,h1,h2⟩:=Qlm g.txt e2 r1 R1;exact⟨x,v,_,tv,b,rfl,hc,h1,h2,q α1 _ H1 E1 R1 rfl⟩
def QjY{a:Expr}{es:List Expr}{p1:Pos}{kt:Nat}(g:GX T A C X)(S:Snd T A C X cf m)(hi:Yx C "isinstance"=true)(hl:¬C.bl.contains ("isinstance":Str)=false)(hb:Qmt C es=true)(ha:Qf m C a=some (.var i)):
  PE X (.Call (.Name "isinstance" p) [a,.Tuple es kt p1] [] pos) (TI T A X.K (ev T cf (d+1) (.isiS i))):=by
 unfold Qmt at hb;split at hb
 case h_2=>cases hb
 rename_i x px y py;simp only[Xl,Xw]at hb;obtain⟨⟨⟨⟨⟨rfl,rfl⟩,g1⟩,g2⟩,b1⟩,b2⟩:=hb
 have p1':PE X (.Name "int" px) (tC (.ty "int")):=Qbg (Zc g g1) (g.blt _ (by rw[b1];simp)) (by decide +kernel) rfl (by decide) (by decide)
 have p2':PE X (.Name "str" py) (tC (.ty "str")):=Qbg (Zc g g2) (g.blt _ (by rw[b2];simp)) (by decide +kernel) rfl (by decide) (by decide)
 have pc:=Zm p1' (Zm p2' YX) (Qn λw w z=>nomatch z);have s1:starEach [a,.Tuple [.Name "int" px,.Name "str" py] kt p1] X.env=(false,eval a X.env)::starEach [.Tuple [.Name "int" px,.Name "str" py] kt p1] X.env:=Qn (Qs ha)
 refine Za (YJ Qee (Zc g hi) (g.blt _ hl) (by decide +kernel) (Zm (S.e 1 a (.var i) ha) (Zm (Qf7 pc) YX) s1) (by decide) (by decide) s1 rfl) ?_
 rintro Y H Q ⟨α,Z,hs,u,hs',rs,R,e,q⟩;simp only[ev,Xb]at e;obtain⟨b,e2,e⟩:=e;cases e
 have key:∃u1,Z[i]?=some (some u1)/\b=true/\((∃k m,u1=.int k m)\/∃x,u1=.str x):=by
  unfold Qln at e2;split at e2
  ·rename_i er;cases e2;exact⟨_,er,rfl,.inl ⟨_,_,rfl⟩⟩
  ·rename_i er;cases e2;exact⟨_,er,rfl,.inr ⟨_,rfl⟩⟩
  ·cases e2
 obtain⟨u1,er,rfl,k⟩:=key
 have e1:ev T cf 1 (.var i) Z hs=some (u1,hs):=by simp only[ev,er]
 refine TI.run rs R e1 λα1 x H1 E1 R1 r1 rs1=>?_
 refine⟨by decide,λtp ht=>?_⟩
 obtain⟨R2,E2⟩:=R1.side (ho:=.tup [V.ty "int",V.ty "str"]) ht
 refine⟨x,tp,rfl,by simp[upd],?_,q α1 _ _ (E1.trans E2 R2.h) R2 rfl⟩
 rcases k with⟨k,m,rfl⟩|⟨x',rfl⟩
 ·obtain⟨j,rfl,_⟩:=r1;exact .inl ⟨_,rfl⟩
 ·cases(show x=_ from r1);exact .inr ⟨_,rfl⟩
end
end
end Iv
namespace L2
open PySem PySem.Spec PyProof.Rows
section
open Sem (wp)
end
section
section
variable {X:Cx}{pins:List (Addr×Obj)}{Y:St}{H:Hp}{s:Shared}{h':Heap}
def Inv.turnedLay{t':Nat}{ch:List Addr}{p:Addr}{vs:List V}{its:List Value}(I:Inv X pins Y H s)(hf:∀b∈ch,QbA X pins H b)(k:∀b o,b∉ch->s.heap.get? b=some o->h'.get? b=some o)
  (there:∀b o,b∈ch->s.heap.get? b=some o->∃o',h'.get? b=some o')
  (hp:s.heap.objs.size<=p) (hv:Vals vs its) (ht:IsTup h' p its.toArray) (hz:vs.length<=sizeLine):Inv X pins Y (upd H p (.tup vs)) {s with heap:=h',toks:=t'}:=by
 have hn:H p=none:=I.hok.fresh hp
 have ne:∀b o,s.heap.get? b=some o->b≠p:=λb o e z=>by
  have:=Xo e;rw[z]at this;exact absurd (Wg this hp) (Vx _)
 have nch:∀b u,H b=some u->b∉ch:=λb u e z=>by rw[(hf b z).1]at e;cases e
 have up:∀b u,H b=some u->upd H p (.tup vs) b=some u:=λb u e=>by rw[Qc (Zq e hn)];exact e
 refine I.step (g':=s.gens) (d':=s.drawn) (ch:=ch) (λb hb=>?_) (λb o y y hc e y=>k b o hc e) (λb o y y hc e y=>⟨o.slots,k b o hc e⟩) (λb o y e n=>by rw[Qc (ne b o e)];exact n)
  (λb o hc e=>⟨o,k b o hc e⟩) (λb xs e=>up b _ e) (λb o u e=>up b _ e) (λb ps e=>⟨#[],by rw[up b _ e];simp⟩) (λm hm=>?_) (λb u e=>?_) I.bare
 ·obtain⟨_,f1,_,f3,f4,f5⟩:=hf b hb;exact⟨f3,f1,f4,f5⟩
 ·obtain⟨o,es,ep,ho,r⟩:=hm;refine⟨o,es,ep,k _ o (λz=>(hf _ z).2.1 rfl) ho,r⟩
 ·by_cases hb:b=p
  ·subst hb;rw[Qh]at e;cases e;exact⟨hz,its,hv,ht⟩
  ·rw[Qc hb]at e;refine(I.hok b u e).stay (λc v hc q=>k c v ?_ q) (λc q=>up c _ q) λc xs q=>up c _ q
   rcases hc with z|z
   ·rw[z];exact nch b u e
   ·exact nch c _ z
def Inv.turnedL{t':Nat}{ch:List Addr}(I:Inv X pins Y H s)(hf:∀b∈ch,QbA X pins H b)(k:∀b o,b∉ch->s.heap.get? b=some o->h'.get? b=some o):Inv X pins Y H {s with heap:=h',toks:=t'}:=by
 have nch:∀b u,H b=some u->b∉ch:=λb u e z=>by rw[(hf b z).1]at e;cases e
 refine I.step (g':=s.gens) (d':=s.drawn) (ch:=ch) (λb hb=>?_) (λb o y y hc e y=>k b o hc e) (λb o y y hc e y=>⟨o.slots,k b o hc e⟩) (λb o y e n=>n)
  (λb o hc e=>⟨o,k b o hc e⟩) (λb xs e=>e) (λb o u e=>e) (λb ps e=>⟨#[],by rw[e];simp⟩) (λm hm=>?_) (λb u e=>?_) I.bare
 ·obtain⟨_,f1,_,f3,f4,f5⟩:=hf b hb;exact⟨f3,f1,f4,f5⟩
 ·obtain⟨o,es,ep,ho,r⟩:=hm;exact⟨o,es,ep,k _ o (λz=>(hf _ z).2.1 rfl) ho,r⟩
 ·refine(I.hok b u e).stay (λc v hc q=>k c v ?_ q) (λc q=>q) λc xs q=>q
  rcases hc with z|z
  ·rw[z];exact nch b u e
  ·exact nch c _ z
end
def SqB(_:Bool):W.Frag->Hp->Addr->List V->Prop:=SqL
noncomputable def Itz(_ _:Bool)(K:W.Frag)(a1 a2:Addr):It :=
 ⟨λi H=>∃xs ys x y,SqL K H a1 xs/\SqL K H a2 ys/\xs[i]?=some x/\ys[i]?=some y,
   λi H x H'=>∃p v w,H p=none/\x=.ref p/\H'=upd H p (.tup [v,w])/\(∀xs,SqL K H a1 xs->xs[i]?=some v)/\∀ys,SqL K H a2 ys->ys[i]?=some w,
   λi H=>∃xs ys,SqL K H a1 xs/\SqL K H a2 ys/\(xs.length<=i\/ys.length<=i)⟩
def QeE{P:Program}{w:World}{K:W.Frag}{elts:List Expr}{kt:Nat}{pt:Pos}(b b':Bool)(a1 a2 z TI TO i1 i2:Addr)(D:ZipApart z TI TO i1 i2 a1 a2):
  Turn P w K (.Tuple elts kt pt) (Itz b b' K a1 a2) [z,TI,TO,i1,i2] z (λi h=>IsZip h z TI TO .none/\IsPair h TI (.ref i1) (.ref i2)/\(∃a c,IsPair h TO a c)/\h.IsListIter i1 a1 i/\h.IsListIter i2 a2 i) where
 mem:=by simp
 obj:=λi h st c hc=>by
  obtain⟨hz,hTI,⟨a,c',hTO⟩,p1,p2⟩:=st
  have hc':c=z\/c=TI\/c=TO\/c=i1\/c=i2:=by simpa using hc
  rcases hc' with rfl|rfl|rfl|rfl|rfl
  ·exact⟨_,hz,λv q=>nomatch q⟩
  ·exact⟨_,hTI,λv q=>nomatch q⟩
  ·exact⟨_,hTO,λv q=>nomatch q⟩
  ·obtain⟨o,e,_,d⟩:=p1
   exact⟨o,e,λv q=>by rw[d]at q;cases q⟩
  ·obtain⟨o,e,_,d⟩:=p2
   exact⟨o,e,λv q=>by rw[d]at q;cases q⟩
 keep:=λi h h' st k=>by
  obtain⟨hz,hTI,⟨a,c',hTO⟩,p1,p2⟩:=st
  exact⟨k z (by simp) _ hz,k TI (by simp) _ hTI,⟨a,c',k TO (by simp) _ hTO⟩,p1.at λo e=>k i1 (by simp) o e,p2.at λo e=>k i2 (by simp) o e⟩
 item:=by
  intro X hP hw hK hc i pins s Y H E I hf st hg;subst hP hw hK;obtain⟨hz,hTI,⟨a,c',hTO⟩,p1,p2⟩:=st;obtain⟨xs,ys,x,y,q1,q2,ex,ey⟩:=hg;obtain⟨it1,r1,l1,_⟩:=I.list q1;obtain⟨it2,r2,l2,_⟩:=I.list q2;obtain⟨u,hu,ru⟩:=r1.get ex;obtain⟨v,hv,rv⟩:=r2.get ey
  have ltz:∀c,c∈[z,TI,TO,i1,i2]->c<s.heap.objs.size:=λc hc=>by
   have hc':c=z\/c=TI\/c=TO\/c=i1\/c=i2:=by simpa using hc
   rcases hc' with rfl|rfl|rfl|rfl|rfl
   ·exact Xo hz
   ·exact Xo hTI
   ·exact Xo hTO
   ·obtain⟨o,e,_,d⟩:=p1;exact Xo e
   ·obtain⟨o,e,_,d⟩:=p2;exact Xo e
  refine wpAny_pyNext_zip_item D hz hTI hTO p1 p2 l1.isList l2.isList (x:=u) (y:=v) (by simpa using hu) (by simpa using hv) λh' b1 b2 b3 b4 b5 b6 b7=>?_
  refine⟨_,rfl,?_⟩;refine wpAny_letOwnedTupleGo_zip (s:={s with heap:=h'}) b1 λh2 c1 c2=>?_;have nep:∀c,c∈[z,TI,TO,i1,i2]->c≠s.heap.objs.size:=λc hc=>X0 (ltz c hc);have up:∀c o,c≠z->h'.get? c=some o->h2.get? c=some o:=λc o hc e=>c2.extBut _ _ hc e
  have kp:∀c o,c∉[z,TO,i1,i2]->s.heap.get? c=some o->h2.get? c=some o:=λc o hc e=>by
   have hc':¬(c=z\/c=TO\/c=i1\/c=i2):=by simpa using hc
   exact up c o (λq=>hc' (.inl q)) (b7 c o (λq=>hc' (.inl q)) (λq=>hc' (.inr (.inl q))) (λq=>hc' (.inr (.inr (.inl q)))) (λq=>hc' (.inr (.inr (.inr q)))) e)
  have hf':∀c∈[z,TO,i1,i2],QbA X pins H c:=λc hc=>hf c (by
   have hc':c=z\/c=TO\/c=i1\/c=i2:=by simpa using hc
   rcases hc' with rfl|rfl|rfl|rfl<;>simp)
  have hT:IsPair h2 s.heap.objs.size u v:=up _ _ (X8 (nep z (by simp))) b5
  have I2:Inv X pins Y (upd H s.heap.objs.size (.tup [x,y])) {s with heap:=h2}:=I.turnedLay (t':=s.toks) (its:=[u,v]) hf' kp (λc o t e=>by
   by_cases hc:c∈[z,TO,i1,i2]
   ·have hc':c=z\/c=TO\/c=i1\/c=i2:=by simpa using hc
    rcases hc' with rfl|rfl|rfl|rfl
    ·exact⟨_,c1⟩
    ·exact⟨_,up _ _ D.TOz b2⟩
    ·obtain⟨o,e,_,d⟩:=b3;exact⟨o,up _ _ D.i1z e⟩
    ·obtain⟨o,e,_,d⟩:=b4;exact⟨o,up _ _ D.i2z e⟩
   ·exact⟨o,kp c o hc e⟩) (Xh _) (.cons ru (.cons rv .nil)) ⟨_,hT,rfl,_,rfl⟩ (by show 2<=sizeLine;decide)
  have hn:H s.heap.objs.size=none:=I.hok.fresh (Xh _)
  refine⟨.ref s.heap.objs.size,_,I2,rfl,⟨_,x,y,hn,rfl,rfl,λws hw=>by rw[I.list_inj hw q1];exact ex,λws hw=>by rw[I.list_inj hw q2];exact ey⟩,⟨c1,?_,⟨_,_,up _ _ D.TOz b2⟩,?_,?_⟩,λc hc=>?_⟩
  ·exact kp _ _ (by
    have d1:=D.TIz;have d2:=D.TITO;have d3:=D.TIi1;have d4:=D.TIi2
    simp[d1,d2,d3,d4]) hTI
  ·exact b3.at λo e=>up _ _ D.i1z e
  ·exact b4.at λo e=>up _ _ D.i2z e
  ·rw[Qc (nep c hc)];exact(hf c hc).1
 done:=by
  intro X hP hw hK hc i pins s Y H E I hf st hg;subst hP hw hK;obtain⟨hz,hTI,⟨a,c',hTO⟩,p1,p2⟩:=st;obtain⟨xs,ys,q1,q2,hl⟩:=hg;obtain⟨it1,r1,l1,_⟩:=I.list q1;obtain⟨it2,r2,l2,_⟩:=I.list q2;have e1:=r1.length;have e2:=r2.length
  refine wpAny_pyNext_zip_end (I.ok.hd hc) D hz hTI hTO p1 p2 l1.isList l2.isList (by
   rcases hl with q|q
   ·exact .inl (by simp;omega)
   ·exact .inr (by simp;omega)) λh' kp=>⟨rfl,I.turnedL (t':=s.toks) (ch:=[z,TO,i1,i2]) (λc hc=>hf c (by
    have hc':c=z\/c=TO\/c=i1\/c=i2:=by simpa using hc
    rcases hc' with rfl|rfl|rfl|rfl<;>simp)) λc o hc e=>?_⟩
  have hc':¬(c=z\/c=TO\/c=i1\/c=i2):=by simpa using hc
  exact kp c o (λq=>hc' (.inl q)) (λq=>hc' (.inr (.inl q))) (λq=>hc' (.inr (.inr (.inl q)))) (λq=>hc' (.inr (.inr (.inr q)))) e
 self:=λA i s Q E st h=>wpAny_pyIter_zip st.1 h
section
variable {X:Cx}
def Qpc(b b':Bool)(K:W.Frag)(ta:TA):TI:=λY H R=>ta Y H λvs H1=>∃a1 a2,vs=[.ref a1,.ref a2]/\(∃xs,SqL K H1 a1 xs)/\(∃ys,SqL K H1 a2 ys)/\R (Itz b b' K a1 a2) H1
def Qks{b b':Bool}{e1 e2:Expr}{ta:TA}{elts:List Expr}{kt:Nat}{pt p pos:Pos}(hg:Gl X "zip")(hm:X.mg "zip"=none)(ha:PA X [e1,e2] ta)(hs:starEach [e1,e2] X.env=[(false,eval e1 X.env),(false,eval e2 X.env)])(hs2:starEach [e2] X.env=[(false,eval e2 X.env)]):
  PI X (.Tuple elts kt pt) (.Call (.Name "zip" p) [e1,e2] [] pos) (Qpc b b' X.K ta):=by
 intro pins s Y H R I h
 refine Call_ (ZF I hg hm PyProof.Rows.boot_zip (Wm (thn (ha pos pins s Y H _ I h) λus s1 z=>?_) (by rw[hs,hs2]) (by rw[hs2];rfl)));obtain⟨vs,H1,I1,r1,q1⟩:=z
 obtain⟨a1,a2,e,⟨xs,q1⟩,⟨ys,q2⟩,q⟩:=q1;subst e;obtain⟨u,w',rfl,ru,rw'⟩:=Qcf r1;cases(show u=_ from ru);cases(show w'=_ from rw');obtain⟨it1,v1,l1,_⟩:=I1.list q1;replace l1:=l1.isList;obtain⟨it2,v2,l2,_⟩:=I1.list q2;replace l2:=l2.isList
 have hlt1:a1<s1.heap.objs.size:=by
  obtain⟨o,e,_⟩:=l1;exact Xo e
 have hlt2:a2<s1.heap.objs.size:=by
  obtain⟨o,e,_⟩:=l2;exact Xo e
 refine call_zip_2 l1 l2 λh' b1 b2 b3 b4 b5 b6 b7=>?_;refine wpAny_pyIter_zip b1 ?_;have I2:Inv X pins Y H1 {s1 with heap:=h'}:=I1.kept (t':=s1.toks) b7;refine⟨_,[s1.heap.objs.size+4,s1.heap.objs.size+2,s1.heap.objs.size+3,s1.heap.objs.size,s1.heap.objs.size+1],_,_,H1,rfl,I2,QeE b b' a1 a2 _ _ _ _ _ (W.ktu_apart _ _ _ hlt1 hlt2),⟨b1,b2,⟨_,_,b3⟩,b4,b5⟩,λc hc=>?_,q⟩
 have hc':c=s1.heap.objs.size+4\/c=s1.heap.objs.size+2\/c=s1.heap.objs.size+3\/c=s1.heap.objs.size\/c=s1.heap.objs.size+1:=by simpa using hc
 have le:s1.heap.objs.size<=c:=by rcases hc' with rfl|rfl|rfl|rfl|rfl<;>omega
 exact I1.fpOk le (I1.hok.fresh le)
end
end
section
noncomputable def Ite(K:W.Frag)(a:Addr):It :=
 ⟨λi H=>∃xs x,SqL K H a xs/\xs[i]?=some x,
   λi H x H'=>∃p v,H p=none/\x=.ref p/\H'=upd H p (.tup [.int i,v])/\∀xs,SqL K H a xs->xs[i]?=some v,
   λi H=>∃xs,SqL K H a xs/\xs.length<=i⟩
def Qc3{P:Program}{w:World}{K:W.Frag}{elts:List Expr}{kt:Nat}{pt:Pos}(a e it:Addr)(hne:e≠it):
  Turn P w K (.Tuple elts kt pt) (Ite K a) [e,it] e (λi h=>(∃old,IsEnum h e it (i:Nat) old)/\h.IsListIter it a i) where
 mem:=by simp
 obj:=λi h st c hc=>by
  obtain⟨⟨old,he⟩,o,hi,_,hd⟩:=st
  have hc':c=e\/c=it:=by simpa using hc
  rcases hc' with rfl|rfl
  ·exact⟨_,he,λv q=>nomatch q⟩
  ·exact⟨o,hi,λv q=>by rw[hd]at q;cases q⟩
 keep:=λi h h' st k=>by
  obtain⟨⟨old,he⟩,hi⟩:=st
  exact⟨⟨old,k e (by simp) _ he⟩,hi.at λo q=>k it (by simp) o q⟩
 item:=by
  intro X hP hw hK hc i pins s Y H E I hf st hg;subst hP hw hK;obtain⟨⟨old,he⟩,hi⟩:=st;obtain⟨xs,x,q1,ex⟩:=hg;obtain⟨its,r1,pl,_⟩:=I.list q1;obtain⟨u,hu,ru⟩:=r1.get ex;have lte:e<s.heap.objs.size:=Xo he
  have lti:it<s.heap.objs.size:=by obtain⟨o,q,_⟩:=hi;exact Xo q
  refine wpAny_pyNext_enum_item he hi pl.isList (x:=u) (by simpa using hu) hne λh' b1 b2 b3 b4 b5=>?_
  refine⟨_,rfl,?_⟩;refine wpAny_letOwnedTupleGo_enum (s:={s with heap:=h',toks:=s.toks+1}) b1 λh2 c1 c2=>?_;have up:∀c o,c≠e->h'.get? c=some o->h2.get? c=some o:=λc o hc q=>c2.extBut _ _ hc q
  have kp:∀c o,c∉[e,it]->s.heap.get? c=some o->h2.get? c=some o:=λc o hc q=>by
   have hc':¬(c=e\/c=it):=by simpa using hc
   exact up c o (λz=>hc' (.inl z)) (b5 c o (λz=>hc' (.inl z)) (λz=>hc' (.inr z)) q)
  have hT:h2.get? s.heap.objs.size=some {cls:=.type "tuple",data:=.seq #[.int i s.toks,u]}:=up _ _ (Nat.ne_of_gt lte) b3;have hi2:h2.IsListIter it a (i+1):=b2.at λo q=>up it o hne.symm q
  have I2:Inv X pins Y (upd H s.heap.objs.size (.tup [.int i,x])) {s with heap:=h2,toks:=s.toks+1}:=I.turnedLay (t':=s.toks+1) (its:=[.int i s.toks,u]) hf kp (λc o hc q=>by
   have hc':c=e\/c=it:=by simpa using hc
   rcases hc' with rfl|rfl
   ·exact⟨_,c1⟩
   ·obtain⟨o2,q2,_⟩:=hi2;exact⟨o2,q2⟩) (Xh _) (.cons ⟨_,rfl⟩ (.cons ru .nil)) ⟨_,hT,rfl,_,rfl⟩ (by show 2<=sizeLine;decide)
  have hn:H s.heap.objs.size=none:=I.hok.fresh (Xh _)
  have cast:((i+1:Nat):Int)=(i:Int)+1:=by push_cast;rfl
  refine⟨.ref s.heap.objs.size,_,I2,rfl,⟨_,x,hn,rfl,rfl,λws hw=>by rw[I.list_inj hw q1];exact ex⟩,⟨⟨_,by rw[cast];exact c1⟩,hi2⟩,λc hc=>?_⟩
  have hc':c=e\/c=it:=by simpa using hc
  have ne:c≠s.heap.objs.size:=by
   rcases hc' with rfl|rfl
   ·exact X0 lte
   ·exact X0 lti
  rw[Qc ne];exact(hf c hc).1
 done:=by
  intro X hP hw hK hc i pins s Y H E I hf st hg;subst hP hw hK;obtain⟨⟨old,he⟩,hi⟩:=st;obtain⟨xs,q1,hl⟩:=hg;obtain⟨its,r1,pl,_⟩:=I.list q1;have e1:=r1.length
  refine wpAny_pyNext_enum_end (I.ok.hd hc) he hi pl.isList (by simp;omega) λh' kp=>⟨rfl,I.turnedL (t':=s.toks) (ch:=[e,it]) hf λc o hc q=>?_⟩
  have hc':¬(c=e\/c=it):=by simpa using hc
  exact kp c o (λz=>hc' (.inr z)) q
 self:=λA i s Q E st h=>by
  obtain⟨⟨old,he⟩,_⟩:=st;exact wpAny_pyIter_enum he h
section
variable {X:Cx}
def Qn5(K:W.Frag)(tl:TE):TI:=λY H R=>tl Y H λx H1=>∃a xs,x=.ref a/\SqL K H1 a xs/\R (Ite K a) H1
def QhE{e:Expr}{te:TE}{elts:List Expr}{kt:Nat}{pt p pos:Pos}(hg:Gl X "enumerate")(hm:X.mg "enumerate"=none)(he:PE X e te)(hs:starEach [e] X.env=[(false,eval e X.env)]):
  PI X (.Tuple elts kt pt) (.Call (.Name "enumerate" p) [e] [] pos) (Qn5 X.K te):=by
 intro pins s Y H R I h;refine Call_ (ZF I hg hm PyProof.Rows.boot_enumerate (Wm (e:=e) (rest:=[]) ?_ hs rfl));rw[hs];show wpAny _ _ (spliced ((false,eval e X.env)::backTo pos (starEach [] X.env))) _ _ s;refine Up (thn (he pins s Y H _ I h) λu s1 z=>?_);obtain⟨x,H1,I1,rx,q1⟩:=z;refine Uu ?_;obtain⟨a,xs,ev,hq,q⟩:=q1;subst ev;cases rx;obtain⟨its,rv,pl,hz⟩:=I1.list hq;refine call_enumerate_list pl.isList λh' b1 b2 b3 b4=>?_;refine wpAny_pyIter_enum b1 ?_;have I2:Inv X pins Y H1 {s1 with heap:=h'}:=I1.kept (t':=s1.toks) b4;refine⟨_,[s1.heap.objs.size+1,s1.heap.objs.size],_,_,H1,rfl,I2,Qc3 a _ _ (Nat.succ_ne_self _),⟨⟨_,b1⟩,b2⟩,λc hc=>?_,q⟩
 have hc':c=s1.heap.objs.size+1\/c=s1.heap.objs.size:=by simpa using hc
 have le:s1.heap.objs.size<=c:=by rcases hc' with rfl|rfl<;>omega
 exact I1.fpOk le (I1.hok.fresh le)
end
end
section
variable {elt iter tg:Expr}{n:Nat}{tl:Option Expr}{pos:Pos}{y:Str}{te:TE}{g:TG}{tt:TT}
noncomputable def Cx.block(X:Cx)(xs:List Str)(scope:Scope)(C:Addr)(s:Shared)(H:Hp)(fp:List Addr):Cx :=
 {X with N:=hideN xs X.N++xs,s₀:=s,H₀:=H,env:=compEnvC scope (QcI X.env.cells scope.names []) C X.env,outer:=X.stack,ex:=fp,fn:=λz=>false,pn:=[],xe:=λz z=>False}
structure CompOk(X:Cx)(xs:List Str)(scope:Scope):Prop where
 kind:scope.kind=.function
 loc:∀x∈xs,scope.names.lookup x=some .local
 all:∀y∈scope.names,(y.2=.local->(y.1∈xs\/y.1=".0")/\scope.names.lookup y.1=some .local)/\y.2≠.cell/\(y.2=.free->X.env.scope.names.lookup y.1=some .cell\/X.env.scope.names.lookup y.1=some .free)
 hid:∀x∈xs,scope.names.lookup (mang x)=none
 nd:xs.Nodup
 dot:(".0":Str)∉X.N
section
variable {X:Cx}{xs:List Str}{scope:Scope}{pins:List (Addr×Obj)}{Y:St}{H:Hp}{s:Shared}{fp:List Addr}
def CompOk.free_of(k:CompOk X xs scope)(hk:X.env.scope.kind=.function)(h:(relabel scope X.env).names.lookup y=some .cell\/(relabel scope X.env).names.lookup y=some .free):(y,NameKind.free)∈scope.names:=by
 rw[Zd hk,ZK]at h
 cases q:scope.names.lookup y with
 |none=>rw[q]at h;simp at h
 |some kd=>
  rw[q]at h;have m:=ZU q
  cases kd with
  |free=>exact m
  |cell=>exact absurd rfl (k.all _ m).2.1
  |_=>simp at h
def CompOk.local_of(k:CompOk X xs scope)(hk:X.env.scope.kind=.function)(h:(relabel scope X.env).names.lookup y=some .local): y∈xs\/y=".0":=by
 rw[Zd hk,ZK]at h
 cases q:scope.names.lookup y with
 |none=>rw[q]at h;simp at h
 |some kd=>
  rw[q]at h;have m:=ZU q
  cases kd with
  | «local»=>exact((k.all _ m).1 rfl).1
  |free=>
   simp only[Ub]at h;split at h<;>cases h
  |_=>simp at h
def Zr{cells:List (Str×Addr)}{l:List (Str×NameKind)}{c:Addr}(e:(QcI cells l []).lookup y=some c):cells.lookup y=some c:=by
 rcases QaN e with z|z
 ·simp at z
 ·exact z
def QhL{Y:St}{i:Nat}{v:V}(e:(Y++List.replicate n none)[i]?=some (some v)):Y[i]?=some (some v):=by
 by_cases h:i < Y.length
 ·rw[Wi h]at e;exact e
 ·rw[X5 (by omega),Tj]at e
  split at e<;>cases e
theorem Inv.block{h₁:Heap}{m:Str->Option Value}{tk:Nat}(I:Inv X pins Y H s)(k:CompOk X xs scope)(hf:∀b∈fp,QbA X pins H b)(hfs:∀b∈fp,b<s.heap.objs.size)
  (hn:h₁.Ns s.heap.objs.size m) (kp:∀b o,s.heap.get? b=some o->h₁.get? b=some o):Inv (X.block xs scope s.heap.objs.size s H fp) [] (Y++List.replicate xs.length none) H {s with heap:=h₁,toks:=tk}:=by
 have hk:X.env.scope.kind=.function:=I.ok.kind
 have fsub:∀b∈fp,b∉frs X.stack:=λb hb z=>by
  rcases Xd.mp (I.stkSub b z)with e|e
  ·exact(hf b hb).2.1 e
  ·exact(hf b hb).2.2.1 e
 have okB:(X.block xs scope s.heap.objs.size s H fp).Ok:={
  mod:=I.ok.mod
  kind:=k.kind
  glob:=I.ok.glob
  blt:=I.ok.blt
  above:=Xh _
  inj:=λy z c e1 e2=>I.ok.inj y z c (Zr e1) (Zr e2)
  has:=λy h=>by
   have m:=k.free_of hk h;obtain⟨c,hc⟩:=I.ok.has y ((k.all _ m).2.2 rfl);exact⟨c,JX hc (.inl m)⟩
  cab:=λy c h=>nomatch h
  hd:=I.ok.hd
  frames:=I.ok.frames
  stk:=.inl rfl
  exf:=λb hb=>⟨X0 (hfs b hb),λy c e=>(hf b hb).2.2.2.2.1 y c (Zr e)⟩
  bs:=I.bs
  bsz:=X3 I.ok.bsz I.sz
  noex:=λb o e hb=>by
   rcases (hf b hb).2.2.2.1 with z|z
   ·exact I.ok.noex b o e z
   ·exact absurd (Wg (Xo e) (X3 I.ok.bsz z)) (Vx _)
  exfs:=λb hb z=>fsub b hb z
  funs:=I.stack
  frf:=λb hb=>I.stkFree b hb}
 refine⟨okB,rfl,I.bare,Un.kept kp,⟨m,hn,λi y v e1 e2 e3=>?_⟩,λy c e=>?_,I.hok.fresh (Xh _),λy c e=>I.freeC y c (Zr e),(λp hp=>by cases hp),I.hok.kept kp,?_⟩
 ·have e1:(hideN xs X.N++xs)[i]?=some y:=e1;have e3:Vis (relabel scope X.env) y:=e3;have q2:Y[i]?=some (some v):=QhL e2
  have q0:(hideN xs X.N)[i]?=some y:=by
   have:=(Xa.mp q2).1;rw[I.len,<-Yj (xs:=xs)]at this;rw[Wi this]at e1;exact e1
  obtain⟨z,q1,⟨zm,rfl⟩|⟨zn,rfl⟩⟩:=Qfs q0
  ·have no:=k.hid z zm
   have no':(relabel scope X.env).names.lookup (mang z)=none:=by rw[Zd hk,ZK,no];rfl
   rcases e3 with w|w|w<;>(rw[no']at w;cases w)
  have ym:y∈X.N:=Xp q1
  have hcf:(relabel scope X.env).names.lookup y=some .cell\/(relabel scope X.env).names.lookup y=some .free:=by
   rcases e3 with z|z
   ·rcases k.local_of hk z with q|q
    ·exact absurd q zn
    ·exact absurd (q▸ym) k.dot
   ·exact z
  have m':=k.free_of hk hcf;have xk:=(k.all _ m').2.2 rfl;obtain⟨mm,hnn,hl⟩:=I.loc;obtain⟨u,r,l⟩:=hl i y v q1 q2 (.inr xk);refine⟨u,r,.inr ⟨hcf,?_⟩⟩
  rcases l with⟨l,_⟩|⟨_,c,e,o,ho,hd⟩
  ·have l:X.env.scope.names.lookup y=some .local:=l
   rcases xk with z|z<;>(rw[l]at z;cases z)
  ·exact⟨c,JX e (.inl m'),o,kp c o ho,hd⟩
 ·obtain⟨v,o,ho,hd⟩:=I.cell y c (Zr e);exact⟨v,o,kp c o ho,hd⟩
 ·show(Y++List.replicate xs.length none).length=(hideN xs X.N++xs).length;simp[I.len,Yj]
def PTO(X:Cx)(tl:Option Expr)(tt:TT):Prop:=match tl with
 |none=>∀Y H Q,tt Y H Q->Q true H
 |some c=>PT X c tt
def Qa4(wi:TI)(n:Nat)(g:TG)(tt:TT)(te:TE):TE:=λY H Q=>wi Y H λJ H1=>∀D,H1 D=none->∃W:Nat->Nat->List V->Hp->Prop,(∃m,W 0 m [] (upd H1 D (.lst [])))/\∀i m ys H2,W i m ys H2->H2 D=some (.lst ys) /\
 ((J.stop i H2/\Q (.ref D) H2)\/(J.go i H2/\ys.length<sizeLine/\∀x H3 os,os.length=n->J.yld i H2 x H3->g x (Y++os) H3 λY' H4=>(∃os',os'.length=n/\Y'=Y++os')/\tt Y' H4 λb H5=>if b=true then te Y' H5 λy H6=>H6 D=some (.lst ys)/\∃m',m'<m/\W (i+1) m' (ys++[y]) (upd H6 D (.lst (ys++[y])))else ∃m',m'<m/\W (i+1) m' ys H5))
def JA{Q:VK}{it:Addr}{tn:Nat->Heap->Prop}{J:It}{E:Value->Shared->Prop}{RR:Value->Addr->Result->Shared->Prop}(hc:X.calm=true)(k:CompOk X xs scope)
  (hn:xs.length=n) (hg:∀C s H fp,PG (X.block xs scope C s H fp) tg g) (ht:∀C s H fp,PTO (X.block xs scope C s H fp) tl tt) (he:∀C s H fp,PE (X.block xs scope C s H fp) elt te)
  (I2:Inv X pins Y H s) (T:Turn X.prog X.w X.K tg J fp it tn) (st2:tn 0 s.heap) (f2:∀b∈fp,QbA X pins H b)
  (q:∀D,H D=none->∃W:Nat->Nat->List V->Hp->Prop,(∃m,W 0 m [] (upd H D (.lst [])))/\∀i m ys H2,W i m ys H2->H2 D=some (.lst ys) /\
   ((J.stop i H2/\Q (.ref D) H2)\/(J.go i H2/\ys.length<sizeLine/\∀x H3 os,os.length=n->J.yld i H2 x H3->g x (Y++os) H3 λY' H4=>(∃os',os'.length=n/\Y'=Y++os')/\tt Y' H4 λb H5=>if b=true then te Y' H5 λy H6=>H6 D=some (.lst ys)/\∃m',m'<m/\W (i+1) m' (ys++[y]) (upd H6 D (.lst (ys++[y])))else ∃m',m'<m/\W (i+1) m' ys H5)))
  (hRR:∀D C s' H' m,Inv X pins Y H' s'->s'.heap.Ns C m->QbA X pins H' C->Q (.ref D) H'->RR (.ref D) C (.ok .next) s'):
  wpAny (model X.prog X.w) X.A (newList []) (λacc s₃=>wpAny (model X.prog X.w) X.A (newFunctionEnv scope X.env.globals (QcI X.env.cells scope.names []) [] X.env.qual none .none (some X.env)) (λcenv s₄=>
   codeAny (model X.prog X.w) X.A (.compStart (.ListComp elt [⟨tg,iter,tl.toList,0⟩] scope pos) 0 (.ref it) acc {cenv with scope:=relabel scope X.env}) (RR acc cenv.locals) s₄) E s₃) E s:=by
 have hk:X.env.scope.kind=.function:=I2.ok.kind
 refine V3 (wpAny_newFunctionEnv (λy hy=>(k.all y hy).2.1) (by intro y hy;simp at hy) (λh₁ hns₁ hsb₁=>?_) k.kind)
 dsimp only at hns₁ hsb₁ ⊢;have hD:H s.heap.objs.size=none:=I2.hok.fresh (Xh _);obtain⟨W,⟨m0,w0⟩,turn⟩:=q s.heap.objs.size hD
 have I3:Inv X pins Y (upd H s.heap.objs.size (.lst [])) {s with heap:=s.heap.push {cls:=.type "list",dict:=none,data:=.seq ([]:List Value).toArray} }:=
  I2.laid (t':=s.toks) (λb o e=>Xj _ e) (Xh _) (show ObjOk X.prog X.w _ _ _ (.lst [])from⟨Vw _,[],_,.nil,X2 _ rfl⟩)
 have lt2:∀b∈fp,b<s.heap.objs.size:=λb hb=>by
  obtain⟨o,e,_⟩:=T.obj 0 _ st2 b hb;exact Xo e
 have f3:∀b∈fp,QbA X pins (upd H s.heap.objs.size (.lst [])) b:=λb hb=>⟨by rw[Qc (X0 (lt2 b hb))];exact(f2 b hb).1,(f2 b hb).2⟩
 have lt3:∀b∈fp,b<(s.heap.push {cls:=.type "list",dict:=none,data:=.seq ([]:List Value).toArray}).objs.size:=λb hb=>by
  rw[Ug];exact Nat.lt_succ_of_lt (lt2 b hb)
 generalize hs3:({s with heap:=s.heap.push {cls:=.type "list",dict:=none,data:=.seq ([]:List Value).toArray} }:Shared)=s3 at I3
 have e3:s3.heap=s.heap.push {cls:=.type "list",dict:=none,data:=.seq ([]:List Value).toArray}:=by rw[<-hs3]
 rw[<-e3]at hns₁ hsb₁ lt3 ⊢;have kp:∀b o,s3.heap.get? b=some o->h₁.get? b=some o:=λb o e=>hsb₁.extBut b o (X0 (Xo e)) (Xj _ e);have IB:=I3.block (tk:=s.toks+([]:List (Str×Value)).length) k f3 lt3 hns₁ kp
 have es:({s3 with heap:=h₁,toks:=s.toks+([]:List (Str×Value)).length}:Shared)={s with heap:=h₁,toks:=s.toks+([]:List (Str×Value)).length}:=by rw[<-hs3]
 rw[es]at IB;generalize hX:X.block xs scope s3.heap.objs.size s3 (upd H s.heap.objs.size (.lst [])) fp=Yyy at IB;have HE:PE Yyy elt te:=hX▸he _ _ _ _;have HT:PTO Yyy tl tt:=hX▸ht _ _ _ _;have HG:PG Yyy tg g:=hX▸hg _ _ _ _
 have hP:Yyy.prog=X.prog:=by rw[<-hX];rfl
 have hw:Yyy.w=X.w:=by rw[<-hX];rfl
 have hK:Yyy.K=X.K:=by rw[<-hX];rfl
 have hA:Yyy.A=X.A:=by rw[<-hX];rfl
 have hcY:Yyy.calm=true:=by rw[<-hX];exact hc
 have hxe:Yyy.xe=λt t=>False:=by rw[<-hX];rfl
 have henv:Yyy.env=compEnvC scope (QcI X.env.cells scope.names []) s3.heap.objs.size X.env:=by rw[<-hX];rfl
 have fpY:∀{H':Hp},(∀b∈fp,H' b=none)->∀b∈fp,QbA Yyy [] H' b:=λhn b hb=>by
  have hb1:=(f2 b hb).2;rw[<-hX]
  refine⟨hn b hb,?_,λz=>?_,.inl hb,λy c e=>hb1.2.2.2.1 y c (Zr e),(λp hp=>by cases hp)⟩
  ·exact X0 (lt3 b hb)
  ·rcases Xd.mp (I3.stkSub b z)with e|e
   ·exact hb1.1 e
   ·exact hb1.2.1 e
 have back:∀{Y':St} {H':Hp} {s':Shared},Inv Yyy [] Y' H' s'->Inv X pins Y H' s'/\(∃m,s'.heap.Ns s3.heap.objs.size m)/\QbA X pins H' s3.heap.objs.size:=λ{Y' H' s'} J'=>by
  have u:=J'.base;have os:=J'.os;have hok:=J'.hok;have bare:=J'.bare;obtain⟨mm,hnn,_⟩:=J'.loc;have fr:=J'.free;rw[henv]at hnn fr;rw[<-hX]at u os hok;refine⟨I3.call' os u hok bare λb hb=>?_,⟨mm,hnn⟩,I3.fpOk (Xh _) fr⟩;exact⟨(f2 b hb).2.2.2.1,(f2 b hb).2.1,(f2 b hb).2.2.2.2.1,(f2 b hb).2.2.2.2.2⟩
 have loop:∀s₃:Shared,Inv Yyy [] (Y++List.replicate xs.length none) (upd H s.heap.objs.size (.lst [])) s₃->tn 0 s₃.heap ->
   codeAny (model X.prog X.w) X.A (.compLoop (.ListComp elt [⟨tg,iter,tl.toList,0⟩] scope pos) 0 (.ref it) (.ref s.heap.objs.size) Yyy.env) (RR (.ref s.heap.objs.size) s3.heap.objs.size) s₃:=by
  intro s₃ J3 t3
  refine Qbt (λm s'=>∃i os H' ys,os.length=n/\Inv Yyy [] (Y++os) H' s'/\tn i s'.heap/\(∀b∈fp,H' b=none)/\W i m ys H') ?_ m0 ⟨0,_,_,[],by rw[Vm];exact hn,J3,t3,λb hb=>(f3 b hb).1,w0⟩
  rintro m s4 ⟨i,os,H4,ys,lo,J4,st4,fr4,w4⟩;obtain⟨hDl,tr⟩:=turn i m ys H4 w4
  rcases tr with⟨stop,qn⟩|⟨go,hz,step⟩
  ·have dn:=T.done Yyy hP hw hK hcY i [] s4 (Y++os) H4 (notedBy (model X.prog X.w) X.A Yyy.env λe s'=>RR (.ref s.heap.objs.size) s3.heap.objs.size (.error e) s') J4 (fpY fr4) st4 stop;rw[hA]at dn;refine thn dn λr s5 l=>?_;obtain⟨hr,J5⟩:=l;subst hr;obtain⟨I5,⟨m5,n5⟩,f5⟩:=back J5;exact hRR _ _ _ _ _ I5 n5 f5 qn
  ·have im:=T.item Yyy hP hw hK hcY i [] s4 (Y++os) H4 (notedBy (model X.prog X.w) X.A Yyy.env λe s'=>RR (.ref s.heap.objs.size) s3.heap.objs.size (.error e) s') J4 (fpY fr4) st4 go;rw[hA]at im;refine thn im λr s5 j=>?_;obtain⟨u,hr,h5⟩:=j;subst hr;refine thn h5 λt s6 f=>?_;obtain⟨v,H6,J6,rv,y6,st6,fr6⟩:=f;have J6':=J6.pinned (fpY fr6) (T.obj _ _ st6)
   have noE:∀{EE:Value->Shared->Prop},∀e s',Yyy.xe e s'->EE e s':=λ{EE} e s' z=>by rw[hxe]at z;exact z.elim
   have asg:=HG _ s6 (Y++os) H6 v u _ J6' rv (step v H6 os lo y6);rw[hP,hw,hA]at asg;refine W2 asg (λt s7 a=>?_) noE;obtain⟨σ7,H7,J7,⟨os',lo',e7⟩,q7⟩:=a;subst e7
   have fin:∀{s9:Shared} {H9:Hp} {m':Nat} {zs:List V},Inv Yyy ([]++YW fp s6.heap) (Y++os') H9 s9->m'<m->W (i+1) m' zs H9->∃m',m'<m/\∃i os H' ys,os.length=n/\Inv Yyy [] (Y++os) H' s9/\tn i s9.heap/\(∀b∈fp,H' b=none)/\W i m' ys H':=λ{s9 H9 m' zs} J9 hm' w9=>by
    refine⟨m',hm',i+1,os',H9,zs,lo',J9.unpinned,T.keep _ _ _ st6 λb hb ob e=>(J9.pin (b,ob) (Wq _ (Wq _ (ZB hb e)))).1,λb hb=>?_,w9⟩;obtain⟨ob,e,d⟩:=T.obj _ _ st6 b hb;exact(J9.pin (b,ob) (Wq _ (Wq _ (ZB hb e)))).2.1
   have tst:wpAny (model X.prog X.w) X.A (forIn tl.toList true λc r=>if r=true then do let ok <-isTrue c Yyy.env (eval c Yyy.env);pure (ForInStep.yield ok)else pure (ForInStep.yield r)) (TP Yyy ([]++YW fp s6.heap) (Y++os') λb H5=>if b=true then te (Y++os') H5 λy H6=>H6 s.heap.objs.size=some (.lst ys)/\∃m',m'<m/\W (i+1) m' (ys++[y]) (upd H6 s.heap.objs.size (.lst (ys++[y])))else ∃m',m'<m/\W (i+1) m' ys H5) (notedBy (model X.prog X.w) X.A Yyy.env λe s'=>RR (.ref s.heap.objs.size) s3.heap.objs.size (.error e) s') s7:=by
    refine Qex ?_
    cases tl with
    |none=>exact⟨H7,J7,HT _ _ _ q7⟩
    |some c=>
     have z:=(show PT Yyy c tt from HT) _ s7 _ _ _ J7 q7;rw[hP,hw,hA]at z;exact W2 z (λt t h=>h) noE
   refine W2 tst (λb s8 Z=>?_) λt t e=>e;obtain⟨H8,J8,q8⟩:=Z
   cases b with
   |false=>
    rw[if_neg Xs]at q8 ⊢;obtain⟨m',hm',w8⟩:=q8;exact fin J8 hm' w8
   |true=>
    rw[if_pos rfl]at q8 ⊢;have ev:=HE _ s8 _ _ _ J8 q8;rw[hP,hw,hA]at ev;refine W2 ev (λy s8 U=>?_) noE;obtain⟨yv,H8,J8,ry,hD8,m',hm',w8⟩:=U;have ap:=Qaw (X:=Yyy) _ s8 _ H8 (.ref s.heap.objs.size) [yv] (.ref s.heap.objs.size) [y] (λt H'=>H'=upd H8 s.heap.objs.size (.lst (ys++[yv]))) J8 rfl (.cons ry .nil) ⟨_,ys,yv,rfl,rfl,hD8,hz,rfl⟩;rw[hP,hw,hA]at ap;refine W2 ap (λt s9 S=>?_) noE;obtain⟨_,H9,J9,_,e9⟩:=S;subst e9;exact fin J9 hm' w8
 have t1:tn 0 h₁:=T.keep 0 _ _ st2 λb hb o e=>kp b o (by rw[e3];exact Xj _ e)
 have go:=loop _ IB t1;rw[henv]at go;refine codeAny_compStart_list ?_ ?_
 ·exact go
 ·exact T.self X.A 0 _ _ _ t1 go
def Qbf{wi:TI}(hc:X.calm=true)(k:CompOk X xs scope)(hi:PI X tg iter wi)(hn:xs.length=n)(hg:∀C s H fp,PG (X.block xs scope C s H fp) tg g)(ht:∀C s H fp,PTO (X.block xs scope C s H fp) tl tt)(he:∀C s H fp,PE (X.block xs scope C s H fp) elt te)
  (hs:∀v,foldedSetIterable iter X.env v=pure v):PE X (.ListComp elt [⟨tg,iter,tl.toList,0⟩] scope pos) (Qa4 wi n g tt te):=by
 intro pins s Y H Q I h;rw[eval_ListComp];refine wpAny_comprehension_free (use:=none) rfl hs (JD λy hy hf=>I.ok.has y.1 ((k.all y hy).2.2 hf)) k.kind (λy hy hl=>((k.all y hy).1 hl).2) ?_;refine thn (hi pins s Y H _ I h) λv s1 h1=>thn h1 λitv s2 h2=>?_;obtain⟨it,fp,tn,J,H2,e,I2,T,st2,f2,q⟩:=h2;subst e;refine JA (RR:=λacc C=>compPost (model X.prog X.w) X.A X.xe none (EP X pins Y Q) acc C) hc k hn hg ht he I2 T st2 f2 q ?_;intro D C s' H' m I' n' f' q';refine⟨m,n',λh' sb=>?_⟩;exact⟨.ref D,H',I'.turned (t':=s'.toks) (λb o hb e=>sb.extBut b o hb e) f'.1 f'.2.1 f'.2.2.2.1 f'.2.2.2.2.1 f'.2.2.2.2.2,rfl,q'⟩
def Qdn{py spos:Pos}{wi:TI}{j:Nat}(hc:X.calm=true)(hN:X.N.Nodup)(k:CompOk X xs scope)(hi:PI X tg iter wi)(hn:xs.length=n)(hg:∀C s H fp,PG (X.block xs scope C s H fp) tg g)(ht:∀C s H fp,PTO (X.block xs scope C s H fp) tl tt)(he:∀C s H fp,PE (X.block xs scope C s H fp) elt te)
  (hs:∀v,foldedSetIterable iter X.env v=pure v) (hj:X.N[j]?=some y) (hy:Loc X.env.scope y) (hfn:X.fn y=true\/X.env.scope.names.lookup y=some .local):
  PS X (.Assign [.Name y py] (.ListComp elt [⟨tg,iter,tl.toList,0⟩] scope pos) spos) (λD Y H=>Qa4 wi n g tt te Y H λv H1=>D.nx (Y.set j (some v)) H1):=by
 have hsw:∃b,swapsWith (.ListComp elt [⟨tg,iter,tl.toList,0⟩] scope pos) (some (.Name y py)) spos.line X.env=pure b:=⟨_,rfl⟩;obtain⟨b,hsw⟩:=hsw
 cases b with
 |false=>exact Qf0 hN hj hy (Qbf hc k hi hn hg ht he hs) hsw hfn
 |true=>
  intro pins s Y H D I h;rw[exec_Assign_Name_used _ _ _ _ hsw];refine Xg (wpAny_standAt (Xg ?_))
  show wpAny _ _ (do let _ <-comprehension (.ListComp elt [⟨tg,iter,tl.toList,0⟩] scope pos) scope X.env _ (newList []) false (eval iter X.env) (some (assign (.Name y py) X.env))) _ _ s
  refine Xg (W2 (wpAny_comprehension_free (use:=some (assign (.Name y py) X.env)) (Q:=λx s'=>SP X pins D .next s') rfl hs (JD λy hy hf=>I.ok.has y.1 ((k.all y hy).2.2 hf)) k.kind (λy hy hl=>((k.all y hy).1 hl).2) ?_)
   (λx s' hq=>Xu (Xu hq)) λx x e=>e)
  refine thn (hi pins s Y H _ I h) λv s1 h1=>thn h1 λitv s2 h2=>?_;obtain⟨it,fp,tn,J,H2,e,I2,T,st2,f2,q⟩:=h2;subst e;refine JA (Q:=λv H1=>D.nx (Y.set j (some v)) H1) (RR:=λacc C=>compPost (model X.prog X.w) X.A X.xe (some (assign (.Name y py) X.env)) (λx s'=>SP X pins D .next s') acc C) hc k hn hg ht he I2 T st2 f2 q ?_;intro Da C s' H' m I' n' f' q';obtain⟨o,es,ep,ho,hd,r⟩:=id n'
  have Ip:Inv X (pins++YW [C] s'.heap) Y H' s':=I'.pinned (λb hb=>by
   have e:b=C:=by simpa using hb
   subst e
   exact f') λb hb=>by
    have e:b=C:=by simpa using hb
    subst e
    exact⟨o,ho,λv z=>by rw[hd]at z;cases z⟩
  refine thn (Qbd (i:=j) hN hj hy hfn _ s' Y H' (.ref Da) (.ref Da) _ Ip rfl q') λx s'' u=>?_;obtain⟨σ2,H2',J2,q2⟩:=u
  have pc:=J2.pin (C,o) (Wq _ (Wq _ (ZB (by simp) ho)))
  refine⟨m,⟨o,es,ep,pc.1,hd,r⟩,λh' sb=>?_⟩;exact⟨σ2,H2',J2.unpinned.turned (t':=s''.toks) (λb ob hb e=>sb.extBut b ob hb e) pc.2.1 f'.2.1 f'.2.2.2.1 f'.2.2.2.2.1 f'.2.2.2.2.2,q2⟩
end
end
section
variable {a b c:Int}
section
variable {X:Cx}
noncomputable def Itc(lo c:Int)(n:Nat):It:=⟨λi z=>i<n,λi H x H'=>H'=H/\x=.int (lo+i*c),λi z=>n<=i⟩
def Qa1{P:Program}{w:World}{K:PySem.W.Frag}{tg:Expr}(it:Addr)(lo c:Int)(n:Nat):Turn P w K tg (Itc lo c n) [it] it (λi h=>IsRangeIter h it (lo+(i:Nat)*c) ((n:Int) - (i:Nat)) c) where
 mem:=by simp
 obj:=λi h st b hb=>by
  have e:b=it:=by simpa using hb
  subst e
  exact⟨_,st,λv z=>by
   have z':Data.fields _=Data.cell v:=z
   cases z'⟩
 keep:=λi h h' st k=>k it (by simp) _ st
 item:=by
  intro X hP hw hK hc i pins s Y H E I hf st hg;subst hP hw hK
  obtain⟨f0,f1,f2,f3,f4,f5⟩:=hf it (by simp)
  have W:=Walks.range (prog:=X.prog) (w:=X.w) (I.ok.hd hc) it lo c n;refine W.item i s _ _ hg st λv h' tk hv st' kk=>?_;obtain⟨t,rfl⟩:=hv
  have I1:Inv X pins Y H {s with heap:=h',toks:=tk}:=I.turned (λb o hb e=>kk b o (by simpa using hb) e) f0 f1 f3 f4 f5
  exact⟨_,rfl,QcA (s:={s with heap:=h',toks:=tk}) (n:="range_iterator") st' rfl rfl (by decide) ⟨.int (lo+i*c),H,I1,⟨t,rfl⟩,⟨rfl,rfl⟩,st',λb hb=>(hf b hb).1⟩⟩
 done:=by
  intro X hP hw hK hc i pins s Y H E I hf st hg;subst hP hw hK
  obtain⟨f0,f1,f2,f3,f4,f5⟩:=hf it (by simp)
  exact wpAny_pyNext_range_end (I.ok.hd hc) st (by have:n<=i:=hg;omega) λh' eb=>⟨rfl,I.turned (t':=s.toks) (λb o hb e=>eb b o hb e) f0 f1 f3 f4 f5⟩
 self:=λy y y y y st h=>wpAny_pyIter_rangeiter st h
noncomputable def rngC(a b c:Int):Nat:=if a<b then((b-a-1) / c+1).toNat else 0
def Qhn(h:0<c):Builtin.Range.rangeSize a b c=(rngC a b c:Nat):=by
 unfold rngC Builtin.Range.rangeSize;rw[if_pos (show c>0 from h)];split
 ·have:=Int.ediv_nonneg (a:=b-a-1) (b:=c) (by omega) (by omega)
  omega
 ·rfl
def Qdb(ha:-(2 ^ 60)<=a)(ha':a<2 ^ 60)(hb:-(2 ^ 60)<=b)(hb':b<2 ^ 60)(h0:0<c)(h1:c<2 ^ 60):Builtin.Range.small a b c=true:=by
 have e:Builtin.Range.rangeSize a b c=if a<b then(b-a-1) / c+1 else 0:=by
  unfold Builtin.Range.rangeSize;rw[if_pos (show c>0 from h0)]
 have q1:a<b->(b-a-1) / c<=b-a-1:=λh=>Int.ediv_le_self _ (by omega)
 have q0:a<b->0<=(b-a-1) / c:=λh=>Int.ediv_nonneg (by omega) (by omega)
 have q2:a<b->c*((b-a-1) / c)<=b-a-1:=λh=>Int.mul_ediv_self_le (by omega)
 unfold Builtin.Range.small;rw[e];simp only[Builtin.Range.rangeFitsLong,Xl,V2,Xw,Ww,show(c>0)from h0,Wo];generalize (b-a-1) / c=d at q0 q1 ⊢;clear q2;split
 ·rename_i h;have:=q0 h;have:=q1 h;omega
 ·omega
def Qdc(ha:-(2 ^ 60)<=a)(ha':a<2 ^ 60)(hb:-(2 ^ 60)<=b)(hb':b<2 ^ 60):Builtin.Range.small a b (-1)=true/\Builtin.Range.rangeSize a b (-1)=((a-b).toNat:Nat):=by
 have e:Builtin.Range.rangeSize a b (-1)=((a-b).toNat:Nat):=by
  unfold Builtin.Range.rangeSize;simp;omega
 refine⟨?_,e⟩;unfold Builtin.Range.small;rw[e];simp only[Builtin.Range.rangeFitsLong,Xl,V2,Xw,Ww];simp;omega
def Qeo(i j c:Int)(n:Nat):Prop:=(0<c/\c<1073741824/\n=rngC i j c)\/(c=-1/\n=(i-j).toNat)
def QgZ{i j:Int}{n:Nat}(b1:-(2 ^ 60)<=i)(b2:i<2 ^ 60)(b3:-(2 ^ 60)<=j)(b4:j<2 ^ 60)(h:Qeo i j c n):Builtin.Range.small i j c=true/\Builtin.Range.rangeSize i j c=(n:Nat)/\c≠0/\-1073741824<c/\c<1073741824:=by
 rcases h with⟨c0,c1,rfl⟩|⟨rfl,rfl⟩
 ·exact⟨Qdb b1 b2 b3 b4 c0 (by omega),Qhn c0,by omega,by omega,c1⟩
 ·obtain⟨z1,z2⟩:=Qdc b1 b2 b3 b4
  exact⟨z1,z2,by omega,by omega,by omega⟩
def Qn0(ta:TA):TI:=λY H R=>ta Y H λvs H1=>∃(i j c:Int) (n:Nat),vs=[.int i,.int j,.int c]/\(-(2 ^ 60)<=i/\i<2 ^ 60/\-(2 ^ 60)<=j/\j<2 ^ 60)/\Qeo i j c n/\R (Itc i c n) H1
def Qdu{tg a:Expr}{args:List Expr}{ta:TA}{p pos:Pos}(hg:Gl X "range")(hm:X.mg "range"=none)(ha:PA X (a::args) ta)(he:starEach (a::args) X.env=(false,eval a X.env)::starEach args X.env)
  (hpl:(backTo pos (starEach args X.env)).any (·.1)=false):PI X tg (.Call (.Name "range" p) (a::args) [] pos) (Qn0 ta):=by
 intro pins s Y H R I h;refine Call_ (ZF I hg hm boot_range (Wm (thn (ha pos pins s Y H _ I h) λus s1 z=>?_) he hpl));obtain⟨vs,H1,I1,r1,q1⟩:=z;obtain⟨i,j,c,n,e,⟨b1,b2,b3,b4⟩,so,q⟩:=q1;obtain⟨sm,sz,cz,c0,c1⟩:=QgZ b1 b2 b3 b4 so;subst e
 cases r1 with
 |cons r rr=>
  obtain⟨x,y,rfl,⟨t',rfl⟩,u',rfl⟩:=Vals.two rr;obtain⟨t,rfl⟩:=r
  refine call_range_3 (by omega) ?_ (.inl (PyProof.noPylong_small (by omega)))
  have I2:Inv X pins Y H1 {s1 with heap:=s1.heap.push {cls:=.type "range",data:=.fields #[.int i t,.int j t',.int c u']},toks:=s1.toks}:=I1.kept λb o e=>Xj _ e;refine wpAny_pyIter_range (IsRange.new ..) sm ?_
  refine⟨(s1.heap.push {cls:=.type "range",data:=.fields #[.int i t,.int j t',.int c u']}).objs.size,[(s1.heap.push {cls:=.type "range",data:=.fields #[.int i t,.int j t',.int c u']}).objs.size],_,_,H1,rfl,
   I2.kept (t':=s1.toks) λb o e=>Xj _ e,Qa1 _ i c n,?_,λb hb=>?_,q⟩
  ·show IsRangeIter _ _ (i+((0:Nat):Int)*c) (((n:Nat):Int) - ((0:Nat):Int)) c;rw[<-sz]
   have e1:i+((0:Nat):Int)*c=i:=by simp
   have e2:Builtin.Range.rangeSize i j c-((0:Nat):Int)=Builtin.Range.rangeSize i j c:=by simp
   rw[e1,e2];exact X2 _ rfl
  ·have e:b=(s1.heap.push {cls:=.type "range",data:=.fields #[.int i t,.int j t',.int c u']}).objs.size:=by simpa using hb
   subst e;exact I2.fpOk (Xh _) (I2.hok.fresh (Xh _))
end
end
end L2
namespace Iv
open PySem PySem.Spec PyProof.Rows L2
section
variable {D:Addr}{b:Bool}{a':E}{a it tg:Expr}{J:It}{d:Nat}{p q:Pos}{w:Wk}
section
variable {X:Cx}{T:Tbl}{A:Adr}{cf:Cf}{m k:Nat}{α:List Addr}{hs:Hs}{H:Hp}{u:U}{v:V}{Z:Rho}{Y:St}
def WJ(A:Adr)(K:W.Frag)(α:List Addr)(J:It)(H:Hp):Wk->Prop
 |.seqL u=>∃a,RU A α u (.ref a)/\J=Itl K a
 |.seqT u=>∃a,RU A α u (.ref a)/\J=Itt K a
 |.rng lo n=>J=Itr lo n
 |.zipB p q x y=>∃a b,RU A α x (.ref a)/\RU A α y (.ref b)/\J=Itz p q K a b
 |.revL _ _=>False
 |.rngC lo c n=>J=Itc lo c n
 |.enmL u=>∃a,RU A α u (.ref a)/\J=Ite K a
 |.strW x=>J=Its ⟨x.toArray⟩
 |.keyD n=>∃a o kv,α[n]?=some a/\J=Itk a o kv/\H a=some (.frz o (.dK kv))
theorem WJ.mono{K:W.Frag}{α':List Addr}{H':Hp}(p:∀(n:Nat) a,α[n]?=some a->α'[n]?=some a)(f:∀b o u,H b=some (.frz o u)->H' b=some (.frz o u))(h:WJ A K α J H w):WJ A K α' J H' w:=by
 cases w with
 |seqL u=>obtain⟨a,r,e⟩:=h;exact⟨a,r.mono p,e⟩
 |seqT u=>obtain⟨a,r,e⟩:=h;exact⟨a,r.mono p,e⟩
 |rng lo n=>exact h
 |zipB b c x y=>obtain⟨a,b,r,r',e⟩:=h;exact⟨a,b,r.mono p,r'.mono p,e⟩
 |revL u n=>exact False.elim h
 |rngC lo c n=>exact h
 |enmL u=>obtain⟨a,r,e⟩:=h;exact⟨a,r.mono p,e⟩
 |strW x=>exact h
 |keyD n=>obtain⟨a,o,kv,e1,e2,e3⟩:=h;exact⟨a,o,kv,p _ _ e1,e2,f _ _ _ e3⟩
noncomputable def gT(K:W.Frag):Tg->TG
 |.name i=>Qbn i
 |.pair i j=>Qpd K 2 (Qip (Qbn i) (Qip (Qbn j) Qpe))
def Jm{xs:List U}(tx:Txt T A X.K X.mg)(R:Rep T A X.K α hs H)(h:sqU T b u hs=some xs)(r:RU A α u v):∃a vs,v=.ref a/\RUs A α xs vs/\SqB b X.K H a vs:=by
 cases b with
 |true=>exact Zf tx R h r
 |false=>cases h
def Qb0{i:Nat}(tx:Txt T A X.K X.mg)(R:Rep T A X.K α hs H)(W:WJ A X.K α J H w)(h:itm T w i hs=some none):J.stop i H:=by
 cases w with
 |seqL u=>
  obtain⟨a,r,rfl⟩:=W;simp only[itm,Xb,V9]at h;obtain⟨xs,e,h⟩:=h;obtain⟨a',vs,ea,rr,q⟩:=Zf tx R e r;cases ea
  exact⟨vs,q,by rw[<-rr.length];exact Vl.mp h⟩
 |seqT u=>
  obtain⟨a,r,rfl⟩:=W;simp only[itm,Xb,V9]at h;obtain⟨xs,e,h⟩:=h;obtain⟨a',vs,ea,rr,q⟩:=JI tx R e r;cases ea
  exact⟨vs,q,by rw[<-rr.length];exact Vl.mp h⟩
 |rng lo n=>
  cases(show J=_ from W);simp only[itm,Ws]at h;split at h
  ·cases h
  ·rename_i l;show n<=i;omega
 |zipB p q x y=>
  obtain⟨a,b,r1,r2,rfl⟩:=W;simp only[itm]at h;split at h
  case h_2=>cases h
  rename_i xs ys e1 e2;obtain⟨a',vs,ea,rr,q⟩:=Jm tx R e1 r1;cases ea;obtain⟨b',ws,eb,rr',q'⟩:=Jm tx R e2 r2;cases eb;refine⟨vs,ws,q,q',?_⟩;unfold two at h;rw[<-rr.length,<-rr'.length];by_cases l1:i<xs.length
  ·by_cases l2:i<ys.length
   ·rw[Xk l1,Xk l2]at h;cases h
   ·exact .inr (by omega)
  ·exact .inl (by omega)
 |revL u n=>exact False.elim W
 |rngC lo c n=>
  cases(show J=_ from W);simp only[itm,Ws]at h;split at h
  ·cases h
  ·rename_i l;show n<=i;omega
 |enmL u=>
  obtain⟨a,r,rfl⟩:=W;simp only[itm,Xb,V9]at h;obtain⟨xs,e,h⟩:=h;obtain⟨a',vs,ea,rr,q⟩:=Zf tx R e r;cases ea
  exact⟨vs,q,by rw[<-rr.length];exact Vl.mp h⟩
 |strW x=>
  cases(show J=_ from W);simp only[itm,Ws,V9]at h;show(x.toArray).size<=i;rw[Xq];exact Vl.mp h
 |keyD n=>
  obtain⟨a,o,kv,ha,rfl,hz⟩:=W;simp only[itm]at h;split at h
  case h_2=>cases h
  rename_i kvs hn;obtain⟨kv',ob,e,rd⟩:=R.h.ob n a _ ha hn;rw[hz]at e;cases e;simp only[Ws,V9]at h
  exact⟨hz,by rw[<-W7 rd];exact Vl.mp h⟩
def Yu{t:Tg}{ρ':Rho}{Q:St->Hp->Prop}(R:Rep T A X.K α hs H)(rs:RS A α Z Y)(r:RU A α u v)(h:tgt t (.one u) Z hs=some ρ')(k:∀σ2,RS A α ρ' σ2->Q σ2 H):gT X.K t v Y H Q:=by
 cases t with
 |name i=>cases h;exact k _ (rs.set i r)
 |pair i j=>
  cases u with
  |ref n=>
   obtain⟨a,ha,rfl⟩:=r;simp only[tgt]at h;split at h
   case h_2=>cases h
   rename_i x y e;cases h;obtain⟨vs,q,rr⟩:=R.h.ob n a _ ha e;obtain⟨v1,ws,rfl,r1,rr⟩:=Ql rr;obtain⟨v2,ws,rfl,r2,rr⟩:=Ql rr;cases Qr rr;exact⟨a,[v1,v2],rfl,SqT.of q,rfl,v1,[v2],rfl,v2,[],rfl,rfl,k _ ((rs.set i r1).set j r2)⟩
  |_=>simp[tgt]at h
def QdT{i:Nat}{x:Im}{t:Tg}{ρ':Rho}(tx:Txt T A X.K X.mg)(R:Rep T A X.K α hs H)(W:WJ A X.K α J H w)(rs:RS A α Z Y)(h:itm T w i hs=some (some x))(ht:tgt t x Z hs=some ρ'):
  J.go i H/\∀v H' (Q:St->Hp->Prop),J.yld i H v H'->(∀σ2,RS A α ρ' σ2->Rep T A X.K α hs H'->Ext α α H H'->Q σ2 H')->gT X.K t v Y H' Q:=by
 have zip:∀{b c:Bool} {a1 a2:Addr} {xs ys:List U} {vs ws:List V},SqB b X.K H a1 vs->SqB c X.K H a2 ws->RUs A α xs vs->RUs A α ys ws->some (two xs ys i)=some (some x) ->
   (Itz b c X.K a1 a2).go i H/\∀v H' (Q:St->Hp->Prop),(Itz b c X.K a1 a2).yld i H v H'->(∀σ2,RS A α ρ' σ2->Rep T A X.K α hs H'->Ext α α H H'->Q σ2 H')->gT X.K t v Y H' Q:=by
  intro b c a1 a2 xs ys vs ws q1 q2 r1 r2 h;unfold two at h;split at h
  case h_2=>cases h
  rename_i x1 y1 e1 e2;cases h;obtain⟨v1,f1,g1⟩:=r1.get e1;obtain⟨v2,f2,g2⟩:=r2.get e2;refine⟨⟨vs,ws,v1,v2,q1,q2,f1,f2⟩,?_⟩;rintro v H' Q ⟨p,w1,w2,hp,rfl,rfl,k1,k2⟩ k;have n1:w1=v1:=X4 ((k1 vs q1).symm.trans f1);have n2:w2=v2:=X4 ((k2 ws q2).symm.trans f2);subst n1 n2
  have ne:∀b y,H b=some y->b≠p:=λb y e z=>by rw[z,hp]at e;cases e
  have R':Rep T A X.K α hs (upd H p (.tup [w1,w2])):=⟨⟨R.h.len,R.h.nd_keep λb x m e=>by rw[Qc (ne _ _ e)];exact e,λn a o e1 e2=>RO.keep (R.h.ob n a o e1 e2) (λm m e=>e) λm y e m=>by rw[Qc (ne _ _ e)];exact e⟩,R.s.keep λy e m=>by rw[Qc (ne _ _ e)];exact e⟩
  have E':Ext α α H (upd H p (.tup [w1,w2])):=⟨λm m e=>e,λn a e l=>by have:=getElem?_lt e;omega,λb o e m=>by rw[Qc (ne _ _ e)];exact e,λb o kv e=>by rw[Qc (ne _ _ e)];exact e,λb o e=>⟨o,by rw[Qc (ne _ _ e)];exact e,λm=>Tu⟩⟩
  cases t with
  |name i=>simp[tgt]at ht
  |pair i j=>
   cases ht;exact⟨p,[w1,w2],rfl,SqT.of Qh,rfl,w1,[w2],rfl,w2,[],rfl,rfl,k _ ((rs.set i g1).set j g2) R' E'⟩
 cases w with
 |seqL u=>
  obtain⟨a,r,rfl⟩:=W;simp only[itm,Xb]at h;obtain⟨xs,e,y,h,rfl⟩:=h;obtain⟨a',vs,ea,rr,q⟩:=Zf tx R e r;cases ea;obtain⟨v1,f1,g1⟩:=rr.get h;refine⟨⟨vs,v1,q,f1⟩,?_⟩;rintro v H' Q ⟨rfl,k1⟩ k;have n1:v=v1:=X4 ((k1 vs q).symm.trans f1);subst n1;exact Yu R rs g1 ht λσ2 r2=>k σ2 r2 R Ext.refl
 |seqT u=>
  obtain⟨a,r,rfl⟩:=W;simp only[itm,Xb]at h;obtain⟨xs,e,y,h,rfl⟩:=h;obtain⟨a',vs,ea,rr,q⟩:=JI tx R e r;cases ea;obtain⟨v1,f1,g1⟩:=rr.get h;refine⟨⟨vs,v1,q,f1⟩,?_⟩;rintro v H' Q ⟨rfl,k1⟩ k;have n1:v=v1:=X4 ((k1 vs q).symm.trans f1);subst n1;exact Yu R rs g1 ht λσ2 r2=>k σ2 r2 R Ext.refl
 |rng lo n=>
  cases(show J=_ from W);simp only[itm,Ws]at h;split at h
  case isFalse=>cases h
  rename_i l;cases h;refine⟨l,?_⟩;rintro v H' Q ⟨rfl,rfl⟩ k;exact Yu (u:=.int (lo+i) 0) R rs ⟨_,rfl,Cg.refl _ _⟩ ht λσ2 r2=>k σ2 r2 R Ext.refl
 |zipB p q x1 y1=>
  obtain⟨a,b,r1,r2,rfl⟩:=W;simp only[itm]at h;split at h
  case h_2=>cases h
  rename_i xs ys e1 e2;obtain⟨a',vs,ea,rr,q⟩:=Jm tx R e1 r1;cases ea;obtain⟨b',ws,eb,rr',q'⟩:=Jm tx R e2 r2;cases eb;exact zip q q' rr rr' h
 |revL u n=>exact False.elim W
 |rngC lo c n=>
  cases(show J=_ from W);simp only[itm,Ws]at h;split at h
  case isFalse=>cases h
  rename_i l;cases h;refine⟨l,?_⟩;rintro v H' Q ⟨rfl,rfl⟩ k;exact Yu (u:=.int (lo+i*c) 0) R rs ⟨_,rfl,Cg.refl _ _⟩ ht λσ2 r2=>k σ2 r2 R Ext.refl
 |enmL u=>
  obtain⟨a,r,rfl⟩:=W;simp only[itm,Xb]at h;obtain⟨xs,e,y,h,rfl⟩:=h;obtain⟨a',vs,ea,rr,q⟩:=Zf tx R e r;cases ea;obtain⟨v1,f1,g1⟩:=rr.get h;refine⟨⟨vs,v1,q,f1⟩,?_⟩;rintro v H' Q ⟨p,w1,hp,rfl,rfl,k1⟩ k;have n1:w1=v1:=X4 ((k1 vs q).symm.trans f1);subst n1
  have ne:∀b y,H b=some y->b≠p:=λb y e z=>by rw[z,hp]at e;cases e
  have R':Rep T A X.K α hs (upd H p (.tup [.int i,w1])):=⟨⟨R.h.len,R.h.nd_keep λb x m e=>by rw[Qc (ne _ _ e)];exact e,λn a o e1 e2=>RO.keep (R.h.ob n a o e1 e2) (λm m e=>e) λm y e m=>by rw[Qc (ne _ _ e)];exact e⟩,R.s.keep λy e m=>by rw[Qc (ne _ _ e)];exact e⟩
  have E':Ext α α H (upd H p (.tup [.int i,w1])):=⟨λm m e=>e,λn a e l=>by have:=getElem?_lt e;omega,λb o e m=>by rw[Qc (ne _ _ e)];exact e,λb o kv e=>by rw[Qc (ne _ _ e)];exact e,λb o e=>⟨o,by rw[Qc (ne _ _ e)];exact e,λm=>Tu⟩⟩
  cases t with
  |name i=>simp[tgt]at ht
  |pair i' j'=>
   cases ht;have g0:RU A α (.int i 0) (.int i):=⟨_,rfl,Cg.refl _ _⟩;exact⟨p,[.int i,w1],rfl,SqT.of Qh,rfl,.int i,[w1],rfl,w1,[],rfl,rfl,k _ ((rs.set i' g0).set j' g1) R' E'⟩
 |strW y=>
  cases(show J=_ from W);simp only[itm,Ws,Xb]at h;obtain⟨c,hc,rfl⟩:=h
  refine⟨by show i<y.toArray.size;rw[Xq];exact(Xa.mp hc).1,?_⟩
  rintro v H' Q ⟨rfl,c',hc',rfl⟩ k
  have e:c'=c:=by
   have:y[i]?=some c':=by simpa using hc'
   rw[hc]at this;exact(X4 this).symm
  subst e;exact Yu (u:=.str [c']) R rs rfl ht λσ2 r2=>k σ2 r2 R Ext.refl
 |keyD n=>
  obtain⟨a,o,kv,ha,rfl,hz⟩:=W;simp only[itm]at h;split at h
  case h_2=>cases h
  rename_i kvs hn;obtain⟨kv',ob,e,rd⟩:=R.h.ob n a _ ha hn;rw[hz]at e;cases e;simp only[Ws,Xb]at h;obtain⟨p,hp,rfl⟩:=h;obtain⟨p',hp',r'⟩:=Qo7 rd hp;refine⟨⟨hz,(Xa.mp hp').1⟩,?_⟩;rintro v H' Q ⟨rfl,q,hq,rfl⟩ k;rw[hp']at hq;cases hq;exact Yu R rs (Qj6 r'.1) ht λσ2 r2=>k σ2 r2 R Ext.refl
noncomputable def TIW(T:Tbl)(A:Adr)(K:W.Frag)(f:Rho->Hs->Option (Wk×Hs)):L2.TI:=λY H R=>∃α Z hs w hs',RS A α Z Y/\Rep T A K α hs H/\f Z hs=some (w,hs') /\
 ∀α' J H',Ext α α' H H'->Rep T A K α' hs' H'->WJ A K α' J H' w->R J H'
def Qbz{t t':L2.TI}(h:PI X tg it t)(i:∀Y H R,t' Y H R->t Y H R):PI X tg it t':=λpins s Y H R I q=>h pins s Y H R I (i Y H R q)
def Qpx{t t':L2.TI}(h:PI X tg it t)(h':PI X tg it t'):PI X tg it (λY H R=>t Y H R\/t' Y H R):=λpins s Y H R I q=>q.elim (h pins s Y H R I) (h' pins s Y H R I)
def Qb6{u:U}{hs h1:Hs}{n:Nat}{kvs:List (U×U)}(h:QcH u hs h1=some (n,kvs)):u=.ref n/\(∃k0,hs[n]?=some (.dic k0))/\h1[n]?=some (.dic kvs):=by
 unfold QcH at h;split at h
 ·split at h
  ·rename_i k0 e0;split at h
   ·rename_i e1;cases h;exact⟨rfl,⟨_,e0⟩,e1⟩
   ·cases h
  ·cases h
 ·cases h
def Qiv{a:Addr}{o:Obj}{kv:List (Key×V)}(ha:a∈α)(h:H a=some (.dK kv)):Ext α α H (upd H a (.frz o (.dK kv))):=by
 have ne:∀b y,H b=some y->b∉α->b≠a:=λb y x hb z=>hb (z▸ha)
 refine⟨λx x e=>e,λn b e l=>by have:=getElem?_lt e;omega,λb y e hb=>?_,λb y u e=>?_,λb y e=>?_⟩
 ·rw[Qc (ne b y e hb)];exact e
 ·rw[Qc (λz=>by rw[z,h]at e;cases e)];exact e
 ·by_cases hb:b=a
  ·subst hb;rw[h]at e;cases e;exact⟨_,Qh,λx=>⟨λz=>(nomatch z),λz=>(nomatch z)⟩⟩
  ·exact⟨y,by rw[Qc hb];exact e,λx=>Tu⟩
def Qkx{ir:E}(h:PE X it (Iv.TI T A X.K (ev T cf d ir))):PI X tg it (TIW T A X.K (λZ hs=>Zl T (ev T cf d) Z (.key ir) hs)):=by
 refine Qbz (Qdx h) ?_;rintro Y H R ⟨α,Z,hs,w,hs',rs,Rp,e,q⟩;simp only[Zl]at e;obtain⟨u,h1,e1,e⟩:=Qd e;simp only[Xb]at e;obtain⟨⟨n,kvs⟩,ed,e⟩:=e;cases e;obtain⟨rfl,_,hk1⟩:=Qb6 ed;refine TI.run rs Rp e1 λα1 x H1 E1 R1 r1 rs1=>?_;obtain⟨a1,ha1,rfl⟩:=r1;obtain⟨kv1,hH1,rd1⟩:=R1.h.ob n a1 _ ha1 hk1;refine⟨a1,kv1,rfl,hH1,λob=>?_⟩;have R2:Rep T A X.K α1 (h1.set n (.fzd kvs)) (upd H1 a1 (.frz ob (.dK kv1))):=R1.put0 ha1 ⟨kv1,ob,Qh,rd1⟩;exact q α1 _ _ (E1.trans (Qiv (Xp ha1) hH1) R2.h) R2 ⟨a1,ob,kv1,ha1,rfl,Qh⟩
def Qkv{ir:E}(tx:Txt T A X.K X.mg)(h:PE X it (Iv.TI T A X.K (ev T cf d ir))):PI X tg it (TIW T A X.K (λZ hs=>Zl T (ev T cf d) Z (.seq ir) hs)):=by
 refine Qbz (Qpx (Qpx (QhD h) (Qkt h)) (Qku h)) ?_;rintro Y H R ⟨α,Z,hs,w,hs',rs,Rp,e,q⟩;simp only[Zl]at e;obtain⟨u,h1,e1,e⟩:=Qd e;simp only[Xb]at e;obtain⟨w',e2,e⟩:=e;cases e;unfold wkS at e2;split at e2
 ·rename_i xs el;cases e2;refine .inl (.inl (TI.run rs Rp e1 λα1 x H1 E1 R1 r1 rs1=>?_));obtain⟨a,vs,rfl,rr,sq⟩:=Zf tx R1 el r1;exact⟨a,rfl,⟨vs,sq⟩,q α1 _ H1 E1 R1 ⟨a,r1,rfl⟩⟩
 ·split at e2
  ·rename_i xs el;cases e2;refine .inl (.inr (TI.run rs Rp e1 λα1 x H1 E1 R1 r1 rs1=>?_));obtain⟨a,vs,rfl,rr,sq⟩:=JI tx R1 el r1;exact⟨a,rfl,⟨vs,sq⟩,q α1 _ H1 E1 R1 ⟨a,r1,rfl⟩⟩
  ·split at e2
   ·cases e2;refine .inr (TI.run rs Rp e1 λα1 x H1 E1 R1 r1 rs1=>?_);exact⟨_,r1,q α1 _ H1 E1 R1 rfl⟩
   ·cases e2
def YS{i:Int}(h:Qq (i*4)=true):-(2 ^ 62)<=i/\i<2 ^ 62:=by
 obtain⟨h1,h2⟩:=Zp h;constructor<;>omega
def Qkw(hg:Gl X "range")(hm:X.mg "range"=none)(hns:∀x p,a≠.Starred x p)(h:PE X a (Iv.TI T A X.K (ev T cf d a'))):PI X tg (.Call (.Name "range" p) [a] [] q) (TIW T A X.K (λZ hs=>Zl T (ev T cf d) Z (.rng a') hs)):=by
 refine Qbz (Qdw hg hm (Zm h YX (Qn hns)) (Qn hns)) ?_;rintro Y H R ⟨α,Z,hs,w,hs',rs,Rp,e,q⟩;simp only[Zl]at e;obtain⟨u,h1,e1,e⟩:=Qd e;split at e
 case h_2=>cases e
 split at e
 case isFalse=>cases e
 rename_i i c;cases e;refine TI.run rs Rp e1 λα1 x H1 E1 R1 r1 rs1=>?_;obtain⟨j,rfl,cg⟩:=r1;cases cg.exact;obtain⟨b1,b2⟩:=YS c;exact⟨_,rfl,b1,b2,q α1 _ H1 E1 R1 rfl⟩
def QhC{b:Expr}{b':E}(hg:Gl X "range")(hm:X.mg "range"=none)(hna:∀x p,a≠.Starred x p)(hnb:∀x p,b≠.Starred x p)(ha:PE X a (Iv.TI T A X.K (ev T cf d a')))(hb:PE X b (Iv.TI T A X.K (ev T cf d b'))):PI X tg (.Call (.Name "range" p) [a,b] [] q) (TIW T A X.K (λZ hs=>Zl T (ev T cf d) Z (.rng2 a' b') hs)):=by
 have s2:starEach [b] X.env=[(false,eval b X.env)]:=Qn hnb
 have s1:starEach [a,b] X.env=[(false,eval a X.env),(false,eval b X.env)]:=by rw[Qn hna,s2]
 refine Qbz (Qdv hg hm (Zm ha (Zm hb YX (Qn hnb)) (Qn hna)) s1 s2) ?_;rintro Y H R ⟨α,Z,hs,w,hs',rs,Rp,e,q⟩;simp only[Zl]at e;obtain⟨u,h1,e1,e⟩:=Qd e;obtain⟨u2,h2,e2,e⟩:=Qd e;split at e
 case h_2=>cases e
 split at e
 case isFalse=>cases e
 rename_i i j c;cases e;rw[Xl]at c;refine TI.run rs Rp e1 λα1 x H1 E1 R1 r1 rs1=>?_;refine TI.run rs1 R1 e2 λα2 y H2 E2 R2 r2 rs2=>?_;obtain⟨i',rfl,cg⟩:=r1;cases cg.exact;obtain⟨j',rfl,cg⟩:=r2;cases cg.exact;obtain⟨b1,b2⟩:=YS c.1;obtain⟨b3,b4⟩:=YS c.2;exact⟨_,_,rfl,⟨b1,b2,b3,b4⟩,q α2 _ H2 (E1.trans E2 R2.h) R2 rfl⟩
def QhA{elts:List Expr}{kt:Nat}{pt:Pos}{b:Expr}{b':E}(tx:Txt T A X.K X.mg)(hg:Gl X "zip")(hm:X.mg "zip"=none)(hna:∀x p,a≠.Starred x p)(hnb:∀x p,b≠.Starred x p)(ha:PE X a (Iv.TI T A X.K (ev T cf d a')))(hb:PE X b (Iv.TI T A X.K (ev T cf d b'))):
  PI X (.Tuple elts kt pt) (.Call (.Name "zip" p) [a,b] [] q) (TIW T A X.K (λZ hs=>Zl T (ev T cf d) Z (.zip a' b') hs)):=by
 have s2:starEach [b] X.env=[(false,eval b X.env)]:=Qn hnb
 have s1:starEach [a,b] X.env=[(false,eval a X.env),(false,eval b X.env)]:=by rw[Qn hna,s2]
 have pa:=Zm ha (Zm hb YX (Qn hnb)) (Qn hna);refine Qbz (Qks (b:=true) (b':=true) hg hm pa s1 s2) ?_;rintro Y H R ⟨α,Z,hs,w,hs',rs,Rp,e,q⟩;simp only[Zl]at e;obtain⟨u1,h1,e1,e⟩:=Qd e;obtain⟨u2,h2,e2,e⟩:=Qd e;simp only[Xb]at e;obtain⟨w',e3,e⟩:=e;cases e;unfold wkZ at e3;simp only at e3;generalize (QU T u1 hs').isSome=p at e3;generalize (QU T u2 hs').isSome=p' at e3;split at e3
 case isFalse=>cases e3
 rename_i c;simp only[Xl]at c;obtain⟨xs,l1⟩:=Tb.mp c.1;obtain⟨ys,l2⟩:=Tb.mp c.2;cases e3
 have key:Qpc p p' X.K (QgS (Iv.TI T A X.K (ev T cf d a')) (QgS (Iv.TI T A X.K (ev T cf d b')) Qmm)) Y H R:=by
  refine TI.run rs Rp e1 λα1 x H1 E1 R1 r1 rs1=>TI.run rs1 R1 e2 λα2 y H2 E2 R2 r2 rs2=>?_;obtain⟨a,vs,rfl,rr,sq⟩:=Jm tx R2 l1 (r1.mono E2.pre);obtain⟨b,ws,rfl,rr',sq'⟩:=Jm tx R2 l2 r2;exact⟨a,b,rfl,⟨vs,sq⟩,⟨ws,sq'⟩,q α2 _ H2 (E1.trans E2 R2.h) R2 ⟨a,b,r1.mono E2.pre,r2,rfl⟩⟩
 exact key
def QhB{args:List Expr}{es:List E}(hg:Gl X "range")(hm:X.mg "range"=none)(hns:YE (a::args))(h:PA X (a::args) (TIA T A X.K (λZ hs=>evs (ev T cf d) Z es hs))):
  PI X tg (.Call (.Name "range" p) (a::args) [] q) (TIW T A X.K (λZ hs=>Zl T (ev T cf d) Z (.rngA es) hs)):=by
 refine Qbz (Qdu hg hm h (Qn (hns a (Xm ..))) (Zv λz hz=>hns z (Xi _ hz))) ?_;rintro Y H R ⟨α,Z,hs,w,hs',rs,Rp,e,q⟩;simp only[Zl]at e;obtain⟨us,h1,e1,e⟩:=Qd e;split at e
 case h_2=>cases e
 rename_i i j c
 obtain⟨n,so,ew,c1,c2⟩:∃n,Qeo i j c n/\some (Wk.rngC i c n,h1)=some (w,hs')/\Qq (i*16)=true/\Qq (j*16)=true:=by
  split at e
  ·rename_i cc;simp only[Xl,Xw]at cc;obtain⟨⟨⟨c1,c2⟩,c3⟩,c4⟩:=cc;exact⟨_,.inl ⟨c3,c4,rfl⟩,e,c1,c2⟩
  ·split at e
   ·rename_i cc;simp only[Xl,Xw]at cc;obtain⟨⟨c1,c2⟩,rfl⟩:=cc;exact⟨_,.inr ⟨rfl,rfl⟩,e,c1,c2⟩
   ·cases e
 cases ew;obtain⟨d1,d2⟩:=Zp c1;obtain⟨d3,d4⟩:=Zp c2;refine TIA.run rs Rp e1 λα1 vs H1 E1 R1 r1 rs1=>?_;obtain⟨v1,ws,rfl,x1,rr⟩:=Ql r1;obtain⟨v2,ws,rfl,x2,rr⟩:=Ql rr;obtain⟨v3,ws,rfl,x3,rr⟩:=Ql rr;cases Qr rr;cases Zx x1;cases Zx x2;cases Zx x3
 exact⟨i,j,c,n,rfl,⟨by omega,by omega,by omega,by omega⟩,so,q α1 _ H1 E1 R1 rfl⟩
def QhF{elts:List Expr}{kt:Nat}{pt:Pos}(tx:Txt T A X.K X.mg)(hg:Gl X "enumerate")(hm:X.mg "enumerate"=none)(hns:∀x p,a≠.Starred x p)(h:PE X a (Iv.TI T A X.K (ev T cf d a'))):
  PI X (.Tuple elts kt pt) (.Call (.Name "enumerate" p) [a] [] q) (TIW T A X.K (λZ hs=>Zl T (ev T cf d) Z (.enm a') hs)):=by
 refine Qbz (QhE hg hm h (Qn hns)) ?_;rintro Y H R ⟨α,Z,hs,w,hs',rs,Rp,e,q⟩;simp only[Zl]at e;obtain⟨u,h1,e1,e⟩:=Qd e;split at e
 case h_2=>cases e
 rename_i xs el;cases e;refine TI.run rs Rp e1 λα1 x H1 E1 R1 r1 rs1=>?_;obtain⟨a,vs,rfl,rr,sq⟩:=Zf tx R1 el r1;exact⟨a,vs,rfl,sq,q α1 _ H1 E1 R1 ⟨a,r1,rfl⟩⟩
def Rep.aside{ho:HO}(R:Rep T A X.K α hs H)(hn:D∉α)(hs':∀o u,H D≠some (.frz o u)):Rep T A X.K α hs (upd H D ho):=
 ⟨⟨R.h.len,R.h.nd_keep λb x hb e=>by rw[Qc (λ(z:b=D)=>hn (z▸hb))];exact e,λn a o e1 e2=>RO.keep (R.h.ob n a o e1 e2) (λv v e=>e) λc y e w=>by
   rcases w with rfl|⟨oz,fs,rfl⟩
   ·have ne:c≠D:=λz=>hn (z▸Xp e1);rw[Qc ne];exact e
   ·rw[Qc (λz=>hs' _ _ (z▸e))];exact e⟩,
  R.s.keep λy e z=>by
   obtain⟨ob,u,rfl⟩:=z;have ne:A.s≠D:=λz=>hs' ob _ (z▸e);rw[Qc ne]
   exact e⟩
def Rep.adopt{us:List U}{ys:List V}(R:Rep T A X.K α hs H)(hn:D∉α)(hD:H D=some (.lst ys))(r:RUs A α us ys):Rep T A X.K (α++[D]) (hs++[.lst us]) H:=by
 refine⟨⟨by simp[R.h.len],QdJ R.h.nd hn,λn a o e1 e2=>?_⟩,R.s⟩
 rcases QZ e1 with q|⟨q1,q2⟩
 ·rcases QZ e2 with z|⟨z,_⟩
  ·exact RO.keep (R.h.ob n a o q z) QR λy y e y=>e
  ·have:=getElem?_lt q;rw[R.h.len]at this;omega
 ·subst q2
  rcases QZ e2 with z|⟨_,z⟩
  ·have:=(Xa.mp z).1;rw[<-R.h.len]at this;omega
  ·subst z;exact⟨ys,hD,RUs.mono QR r⟩
def RS.pad{p:Rho}{os:St}(rs:RS A α Z Y)(hl:p.length=os.length)(hp:∀x∈p,x=none):RS A α (Z++p) (Y++os):=by
 refine⟨by simp[rs.len,hl],λi u e=>?_⟩
 by_cases l:i < Z.length
 ·rw[Wi l]at e;obtain⟨v,h1,h2⟩:=rs.val i u e
  exact⟨v,by rw[Wi (Xa.mp h1).1];exact h1,h2⟩
 ·rw[X5 (by omega)]at e
  cases hp _ (Xp e)
noncomputable def nN(b:Bool):Nat:=if b then 2 else 1
def QbR(b:Bool):(Qet b).length=nN b:=by cases b<;>rfl
def Qar(b:Bool):∀x∈Qet b,x=none:=by cases b<;>simp[Qet]
def Qin{K:W.Frag}{os:St}{Q:St->Hp->Prop}(hl:os.length=nN b)(h:gT K (tgN b Y.length) v (Y++os) H Q):
  gT K (tgN b Y.length) v (Y++os) H λσ2 H2=>(∃os':St,os'.length=nN b/\σ2=Y++os')/\Q σ2 H2:=by
 cases b with
 |false=>
  have h:Q ((Y++os).set Y.length (some v)) H:=h
  exact⟨⟨os.set 0 (some v),by simp[hl],by rw[Vz _ _ (Xh _),Uz]⟩,h⟩
 |true=>
  obtain⟨a,xs,rfl,sq,len,v1,r1,rfl,v2,r2,rfl,e,q⟩:=h
  refine⟨a,_,rfl,sq,len,v1,_,rfl,v2,_,rfl,e,⟨(os.set 0 (some v1)).set 1 (some v2),by simp[hl],?_⟩,q⟩
  rw[Vz _ _ (Xh _),Uz,Vz _ _ (V8 _)]
  congr 1
  congr 1
  omega
def Qf9{α4:List Addr}{ho:HO}{H4:Hp}(E4:Ext α α4 H H4)(nD:D∉α)(d3:H D=some ho)(hnt:∀vs,ho≠.tup vs:=by intro _ z;cases z):D∉α4:=λz=>by
 obtain⟨n,hn⟩:=Wx z;by_cases l:n < α.length
 ·have e1:α[n]?=some α[n]:=Xk l;have e2:=E4.pre _ _ e1;rw[hn]at e2;cases e2;exact nD (Tr l)
 ·rcases E4.new n D hn (by omega)with q|⟨vs,q⟩
  ·rw[d3]at q;cases q
  ·rw[d3]at q;exact hnt vs (X4 q)
def QaL{src:Src}{t:Option E}{el:E}{Y:St}{H:Hp}{Q:VK}(tx:Txt T A X.K X.mg)(hl:Y.length=X.N.length)(h:Iv.TI T A X.K (ev T cf (d+1) (.comp src b t el)) Y H Q):
  Qa4 (TIW T A X.K (λZ hs=>Zl T (ev T cf d) Z src hs)) (nN b) (gT X.K (tgN b X.N.length)) (TIT T A X.K (Qaf (evT T cf d) t)) (Iv.TI T A X.K (ev T cf d el)) Y H Q:=by
 rw[<-hl];obtain⟨α,Z,hs,u,hs',rs,R,e,q⟩:=h;simp only[ev]at e;obtain⟨w,h1,e1,e⟩:=Qd e;obtain⟨us,h2,e2,e⟩:=Qd e;cases e;refine⟨α,Z,hs,w,h1,rs,R,e1,λα1 J H1 E1 R1 W1 D hD=>?_⟩;have rs1:=rs.mono E1.pre
 refine⟨λi m ys H2=>∃αc hc acc,RS A αc Z Y/\Rep T A X.K αc hc H2/\D∉αc/\H2 D=some (.lst ys)/\RUs A αc acc ys/\Ext α1 αc H1 H2/\WJ A X.K αc J H2 w/\Yo T (ev T cf d) (Qaf (evT T cf d) t) w b el Z m i acc hc=some (us,h2),⟨Zn T w h1,α1,h1,[],rs1,?_,R1.h.notIn hD,Qh,.nil,?_,W1.mono (λs s e=>e) (λb o u e=>by rw[Qc (λz=>by rw[z,hD]at e;cases e)];exact e),e2⟩,?_⟩
 ·exact R1.aside (R1.h.notIn hD) λo u z=>by rw[hD]at z;cases z
 ·exact⟨λs s e=>e,λn a e l=>by have:=getElem?_lt e;omega,λb o e s=>by rw[Qc (λz=>by rw[z,hD]at e;cases e)];exact e,λb o kv e=>by rw[Qc (λz=>by rw[z,hD]at e;cases e)];exact e,λb o e=>⟨o,by rw[Qc (λz=>by rw[z,hD]at e;cases e)];exact e,λs=>Tu⟩⟩
 rintro i m ys H2 ⟨αc,hc,acc,rsc,Rc,nD,hDl,rr,Ec,Wc,ec⟩;refine⟨hDl,?_⟩
 cases m with
 |zero=>cases ec
 |succ m=>
  simp only[Yo]at ec;split at ec
  ·cases ec
  ·rename_i ei;cases ec;refine .inl ⟨Qb0 tx Rc Wc ei,?_⟩;have Ra:=Rc.adopt nD hDl rr
   have Ea:Ext α1 (αc++[D]) H1 H2:=⟨λn a e=>QR n a (Ec.pre n a e),λn a e l=>by
    rcases QZ e with z|⟨_,z⟩
    ·exact Ec.new n a z l
    ·rw[z];exact .inl hD,Ec.keep,Ec.fz,Ec.tr⟩
   exact q _ _ _ (E1.trans Ea Ra.h) Ra ⟨D,by rw[<-Rc.h.len];exact Q3,rfl⟩
  ·rename_i x ei;split at ec
   ·cases ec
   rename_i ρ' et;split at ec
   case isFalse=>cases ec
   rename_i small;obtain⟨c,h3,e3,ec⟩:=Qd ec
   have go:J.go i H2:=(QdT tx Rc Wc (rsc.pad (os:=List.replicate (nN b) none) (by rw[QbR];simp) (Qar b)) ei et).1
   refine .inr ⟨go,?_,λv H3 os lo yl=>?_⟩
   ·have:=rr.length;rw[sizeLine_eq];omega
   have rsn:RS A αc (Z++Qet b) (Y++os):=rsc.pad (by rw[QbR,lo]) (Qar b)
   obtain⟨_,stp⟩:=QdT tx Rc Wc rsn ei et;rw[rs.len]at stp;refine Qin lo (stp v H3 _ yl λσ2 rs2 R3 E3=>?_);have d3:H3 D=some (.lst ys):=E3.keep D _ hDl nD;refine TIT.run rs2 R3 e3 λα4 H4 E4 R4 rs4=>?_;have d4:H4 D=some (.lst ys):=E4.keep D _ d3 nD;have nD4:=Qf9 E4 nD d3;have Et4:=(Ec.trans E3 R3.h).trans E4 R4.h
   cases c with
   |false=>
    rw[if_neg Xs]at ec ⊢;exact⟨m,Vn _,α4,h3,acc,rsc.mono E4.pre,R4,nD4,d4,RUs.mono E4.pre rr,Et4,Wc.mono E4.pre λb o u e=>E4.fz _ _ _ (E3.fz _ _ _ e),ec⟩
   |true=>
    rw[if_pos rfl]at ec ⊢;obtain⟨u',h5,e5,ec⟩:=Qd ec;refine TI.run rs4 R4 e5 λα5 y H5 E5 R5 r5 rs5=>?_;have d5:H5 D=some (.lst ys):=E5.keep D _ d4 nD4;have nD5:=Qf9 E5 nD4 d4
    refine⟨d5,m,Vn _,α5,h5,acc++[u'],(rsc.mono E4.pre).mono E5.pre,R5.aside nD5 (λo u z=>by rw[d5]at z;cases z),nD5,Qh,?_,?_,(Wc.mono (λn a e=>E5.pre n a (E4.pre n a e)) λb o u e=>by rw[Qc (λz=>by rw[z,hDl]at e;cases e)];exact E5.fz _ _ _ (E4.fz _ _ _ (E3.fz _ _ _ e))),ec⟩
    ·exact Paired.snoc (RUs.mono E5.pre (RUs.mono E4.pre rr)) r5
    ·have Et:=Et4.trans E5 R5.h
     exact⟨Et.pre,Et.new,λb o e hb=>by rw[Qc (λz=>by rw[z,hD]at e;cases e)];exact Et.keep b o e hb,λb o kv e=>by rw[Qc (λz=>by rw[z,hD]at e;cases e)];exact Et.fz b o kv e,λb o e=>by
      obtain⟨o',q1,q2⟩:=Et.tr b o e
      exact⟨o',by rw[Qc (λz=>by rw[z,hD]at e;cases e)];exact q1,q2⟩⟩
end
end
section
variable {d:Nat}{pos:Pos}{scope:Scope}
section
variable {X:Cx}{T:Tbl}{A:Adr}{C:Ctx}{cf:Cf}{m k:Nat}
def QjW{f:Str}{args:List Expr}{a:Expr}{a':E}{p:Pos}(g:GX T A C X)(hh:hdC C=false)(hg:Yx C f=true)(hx:¬C.bl.contains f=false)(hra:JR C f args=some a)(h:PE X a (TI T A X.K (ev T cf d a')))(hns:∀x p,a≠.Starred x p):
  PE X (.Call (.Name f p) args [] pos) (TI T A X.K (ev T cf (d+1) (.rev a'))):=by
 unfold JR at hra;split at hra
 case isFalse=>cases hra
 rename_i ef;subst ef;split at hra
 case h_2=>cases hra
 rename_i r pr a0 p2;split at hra
 case isFalse=>cases hra
 rename_i c;cases hra;simp only[Xl,Xw]at c;obtain⟨⟨⟨c1,c2⟩,c3⟩,c4⟩:=c
 have e1:r=Str.ofString "reversed":=by simpa using c1
 subst e1
 refine Za (QhI (g.calm hh) (Zc g hg) (g.blt _ hx) (Zc g c2) (g.blt _ (by rw[c4];simp)) h (Qn hns)) ?_
 rintro Y H Q ⟨α,Z,hs,u,hs',rs,R,e,q⟩;simp only[ev]at e;obtain⟨u1,h1,e1,e⟩:=Qd e;split at e
 case h_2=>cases e
 rename_i xs el;cases e;refine TI.run rs R e1 λα1 x H1 E1 R1 r1 rs1=>?_;obtain⟨b,vs,rfl,rr,sq⟩:=Zf g.txt R1 el r1;refine⟨b,vs,rfl,sq,λp hp=>?_⟩;obtain⟨R2,E2⟩:=R1.new (p:=p) (o:=.lst xs.reverse) (ho:=.lst vs.reverse) hp ⟨_,Qh,RUs.mono QR rr.reverse⟩
 exact q _ _ _ (E1.trans E2 R2.h) R2 ⟨p,by rw[<-R1.h.len];exact Q3,rfl⟩
def Qhl{α:List Addr}{us xs:List U}{vs:List V}(h:QfX us=some xs)(r:RUs A α us vs):∃a b c:Int,rngA vs=some (a,b,c)/\(-(2 ^ 62)<=a/\a<2 ^ 62/\-(2 ^ 62)<=b/\b<2 ^ 62)/\(c=1\/c=-1) /\
  QaX a b c<=sizeLine/\QaX a b c<=2 ^ 24/\∀α',RUs A α' xs (Qer a (QaX a b c) c):=by
 have one:∀{i:Int} {v:V},RU A α (.int i 0) v->v=.int i:=λz=>by obtain⟨j,e,c⟩:=z;cases c.exact;exact e
 have core:∀{a b c:Int},Qj5 a b c=some xs->(-(2 ^ 62)<=a/\a<2 ^ 62/\-(2 ^ 62)<=b/\b<2 ^ 62)/\(c=1\/c=-1)/\QaX a b c<=sizeLine/\QaX a b c<=2 ^ 24/\∀α',RUs A α' xs (Qer a (QaX a b c) c):=by
  intro a b c h;unfold Qj5 at h;split at h
  case isFalse=>cases h
  rename_i cc;simp only[Xl,V2,Xw]at cc;obtain⟨⟨c1,c2⟩,c3⟩:=cc;obtain⟨b1,b2⟩:=YS c1;obtain⟨b3,b4⟩:=YS c2;have h:(if QaX a b c<=1000000 then some ((List.range (QaX a b c)).map λi:Nat=>U.int (a+(i:Int)*c) 0)else none)=some xs:=h;split at h
  case isFalse=>cases h
  rename_i hn;cases h
  refine⟨⟨b1,b2,b3,b4⟩,c3,by rw[sizeLine_eq];omega,by omega,λα'=>?_⟩
  unfold Qer;generalize List.range (QaX a b c)=l
  induction l with
  |nil=>exact .nil
  |cons x r ih=>exact .cons ⟨_,rfl,Cg.refl _ _⟩ ih
 unfold QfX at h;split at h
 ·obtain⟨v,ws,rfl,r1,rr⟩:=Ql r;cases Qr rr;cases one r1;exact⟨_,_,_,rfl,core h⟩
 ·obtain⟨v,ws,rfl,r1,rr⟩:=Ql r;obtain⟨v2,ws,rfl,r2,rr⟩:=Ql rr;cases Qr rr;cases one r1;cases one r2;exact⟨_,_,_,rfl,core h⟩
 ·obtain⟨v,ws,rfl,r1,rr⟩:=Ql r;obtain⟨v2,ws,rfl,r2,rr⟩:=Ql rr;obtain⟨v3,ws,rfl,r3,rr⟩:=Ql rr;cases Qr rr;cases one r1;cases one r2;cases one r3;exact⟨_,_,_,rfl,core h⟩
 ·cases h
def QjN{f:Str}{args ra:List Expr}{es:List E}{p:Pos}(g:GX T A C X)(hh:hdC C=false)(hg:Yx C f=true)(hx:¬C.bl.contains f=false)(hra:JN C f args=some ra)(ha:PA X ra (TIA T A X.K (λZ hs=>evs (ev T cf d) Z es hs)))(hns:YE ra):
  PE X (.Call (.Name f p) args [] pos) (TI T A X.K (ev T cf (d+1) (.tupR es))):=by
 unfold JN at hra;split at hra
 case isFalse=>cases hra
 rename_i ef;subst ef;split at hra
 case h_2=>cases hra
 rename_i r pr ra' pc;split at hra
 case isFalse=>cases hra
 rename_i c;simp only[Xl,Xw]at c;obtain⟨⟨⟨⟨⟨c1,c2⟩,c3⟩,c4⟩,c5⟩,c6⟩:=c;cases hra;subst c1
 cases ra with
 |nil=>simp at c6
 |cons a0 args=>
  refine Za (QhG (g.calm hh) (Zc g hg) (g.blt _ hx) (Zc g c2) (g.blt _ (by rw[c4];simp)) ha (Qn (hns a0 (Xm ..))) (Zv λz hz=>hns z (Xi _ hz))) ?_
  rintro Y H Q ⟨α,Z,hs,u,hs',rs,R,e,q⟩;simp only[ev]at e;obtain⟨us,h1,e1,e⟩:=Qd e;split at e
  case h_2=>cases e
  rename_i xs er;cases e;refine TIA.run rs R e1 λα1 vs H1 E1 R1 r1 rs1=>?_;obtain⟨a,b,c,h1,h2,h3,h4,h5,h6⟩:=Qhl er r1;refine⟨a,b,c,h1,h2,h3,h4,h5,λp hp=>?_⟩;obtain⟨R2,E2⟩:=R1.new (p:=p) (o:=.tup xs) (ho:=.tup (Qer a (QaX a b c) c)) hp ⟨_,Qh,h6 _⟩
  exact q _ _ _ (E1.trans E2 R2.h) R2 ⟨p,by rw[<-R1.h.len];exact Q3,rfl⟩
def QjQ{tg it:Expr}{src:Src}(g:GX T A C X)(S:Snd T A C X cf m)(h:compSrc (m+1) C it=some src)(hz:Qms src=true->∃elts kt pt,tg=.Tuple elts kt pt):PI X tg it (TIW T A X.K (λZ hs=>Zl T (ev T cf d) Z src hs)):=by
 have seq:∀{it:Expr} {src:Src},(Qf m C it).map Src.seq=some src->PI X tg it (TIW T A X.K (λZ hs=>Zl T (ev T cf d) Z src hs)):=by
  intro it src h;simp only[Xb]at h;obtain⟨ir,hi,rfl⟩:=h;exact Qkv g.txt (S.e d it ir hi)
 simp only[compSrc]at h;split at h
 ·rename_i f p args q;split at h
  case isFalse=>cases h
  rename_i hg;split at h
  ·exact seq h
  ·split at h
   ·cases h
   rename_i hx;split at h
   ·rename_i e;subst e;split at h
    ·rename_i a;simp only[Xb]at h;obtain⟨a',ha,rfl⟩:=h;exact Qkw (Zc g hg) (g.blt _ hx) (Qs ha) (S.e d a a' ha)
    ·rename_i a b;simp only[Xc,Xb]at h;obtain⟨a',ha,b',hb,rfl⟩:=h;exact QhC (Zc g hg) (g.blt _ hx) (Qs ha) (Qs hb) (S.e d a a' ha) (S.e d b b' hb)
    ·rename_i a b c;simp only[Xb]at h;obtain⟨es,ha,rfl⟩:=h;exact QhB (Zc g hg) (g.blt _ hx) (QF ha) (S.a d _ es ha)
    ·cases h
   ·split at h
    ·rename_i e;subst e;split at h
     ·rename_i a b;simp only[Xc,Xb]at h;obtain⟨a',ha,b',hb,rfl⟩:=h;obtain⟨elts,kt,pt,rfl⟩:=hz rfl;exact QhA g.txt (Zc g hg) (g.blt _ hx) (Qs ha) (Qs hb) (S.e d a a' ha) (S.e d b b' hb)
     ·cases h
    ·split at h
     ·rename_i e;subst e;split at h
      ·rename_i a;simp only[Xb]at h;obtain⟨a',ha,rfl⟩:=h;obtain⟨elts,kt,pt,rfl⟩:=hz rfl;exact QhF g.txt (Zc g hg) (g.blt _ hx) (Qs ha) (S.e d a a' ha)
      ·cases h
     ·exact seq h
 ·exact seq h
def QbV{it:Expr}{src:Src}{env:Env}(h:compSrc m C it=some src):∀x,foldedSetIterable it env x=pure x:=by
 intro x
 cases it<;>first|rfl|skip
 cases m with
 |zero=>simp[compSrc]at h
 |succ m=>
  simp only[compSrc,Xb]at h;obtain⟨_,h,_⟩:=h
  cases m<;>first|exact Znn h|simp[Qf]at h
def ZP{xs:List Str}(g:GX T A C X)(h:JC C xs scope=true):CompOk X xs scope/\∀C0 s H fp,GX T A (C.inner xs scope) (X.block xs scope C0 s H fp):=by
 unfold JC at h;simp only[Xl,Ww,Xv,Uv,Xw]at h;obtain⟨⟨⟨⟨h1,h2⟩,hd⟩,h3⟩,h5⟩:=h
 have nd:(".0":Str)∉X.N:=λz=>by
  rw[g.N]at z;rw[Uy.mpr z]at h5;cases h5
 refine⟨⟨h1,λx hx=>(h2 x hx).1,λy hy=>?_,λx hx=>(h2 x hx).2,(Uw.mp hd).2.1,nd⟩,λC0 s H fp=>?_⟩
 ·have:=h3 y hy;obtain⟨n,kd⟩:=y
  cases kd with
  | «local»=>
   simp only[Xl,V2,Xw,Ww,Uy]at this;exact⟨λw=>this,(λz=>nomatch z),λz=>nomatch z⟩
  |cell=>cases this
  |free=>
   simp only[V2,Ww]at this;rw[<-g.sc]at this;exact⟨(λz=>nomatch z),(λz=>nomatch z),λw=>this⟩
  |_=>exact⟨(λz=>nomatch z),(λz=>nomatch z),λz=>nomatch z⟩
 ·refine⟨g.CT,?_,?_,?_,g.calm,h1,rfl,g.gfn,g.gcl,g.gco,g.gtx,g.blt,g.txt,g.tab⟩
  ·show hideN xs X.N++xs=hideN xs C.N++xs;rw[g.N]
  ·show(hideN xs X.N++xs).Nodup;rw[g.N];exact hd
  ·show(relabel scope X.env).names=relN C.names scope.names;rw[Zd g.kind,g.sc]
def JQ{tg:Expr}{b:Bool}{xs:List Str}{C0:Addr}{s:Shared}{H:Hp}{fp:List Addr}(g:GX T A C X)(hh:hdC C=false)(k:CompOk X xs scope)(gb:GX T A (C.inner xs scope) (X.block xs scope C0 s H fp))(h:QmB tg b xs):PG (X.block xs scope C0 s H fp) tg (gT X.K (tgN b X.N.length)):=by
 have nm:∀{x:Str} {p:Pos} {i:Nat},x∈xs->(hideN xs X.N++xs)[i]?=some x->PG (X.block xs scope C0 s H fp) (.Name x p) (Qbn i):=λ{x p i} hx hi=>by
  have loc:(X.block xs scope C0 s H fp).env.scope.names.lookup x=some .local:=by
   show(relabel scope X.env).names.lookup x=some .local;rw[Zd g.kind,ZK,k.loc x hx];rfl
  exact Qbd gb.nd hi (.inl loc) (.inr loc)
 rcases h with⟨rfl,x,p,rfl,rfl⟩|⟨rfl,x,p,y,q,kt,pt,rfl,rfl⟩
 ·exact nm (by simp) (by rw[<-Yj (xs:=[x])];simp)
 ·refine Qf6 (gb.calm hh) (YI (nm (by simp) (by rw[<-Yj (xs:=[x,y])];simp)) (YI (nm (by simp) ?_) Qdy))
  rw[<-Yj (xs:=[x,y]),X5 (by omega)]
  simp
def CompParts(X:Cx)(elt:Expr)(gens:List Comprehension)(scope:Scope)(t:TE):Prop:=∃tg iter tl xs n wi g tt te,gens=[⟨tg,iter,Option.toList tl,0⟩]/\CompOk X xs scope/\PI X tg iter wi/\xs.length=n/\(∀C s H fp,PG (X.block xs scope C s H fp) tg g)/\(∀C s H fp,PTO (X.block xs scope C s H fp) tl tt)/\(∀C s H fp,PE (X.block xs scope C s H fp) elt te) /\
 (∀v,foldedSetIterable iter X.env v=pure v)/\∀Y H Q,Y.length=X.N.length->t Y H Q->Qa4 wi n g tt te Y H Q\/∃a kv,H a=some (.dK kv)/\Qa4 wi n g tt te Y H λv H'=>Qcj a H (Q v) H'
def CompParts.pe{elt:Expr}{gens:List Comprehension}{t:TE}(hc:X.calm=true)(h:CompParts X elt gens scope t):PE X (.ListComp elt gens scope pos) t:=by
 obtain⟨tg,iter,tl,xs,n,wi,gg,tt,te,rfl,ok,hi,hn,hg,ht,he,hf,imp⟩:=h;intro pins s Y H Q I q
 rcases imp Y H Q I.len q with q|⟨a,kv,ha,q⟩
 ·exact Qbf hc ok hi hn hg ht he hf pins s Y H Q I q
 ·have h0:∀o' u',X.H₀ a≠some (.frz o' u'):=λo' u' z=>by
   have:=I.base.frzs a o' u' z;rw[ha]at this;cases this
  exact thn (Qbf hc ok hi hn hg ht he hf pins s Y H _ I q) λv s' y=>by obtain⟨x,H',I',rx,o,kv',e,p⟩:=y;exact⟨x,_,I'.thaw e h0,rx,p⟩
end
end
section
variable {ir:E}{b:Expr}{d:Nat}{p:Pos}
section
variable {X:Cx}{T:Tbl}{A:Adr}{C:Ctx}{cf:Cf}{m k:Nat}
def Qez{e:E}{i:Nat}(h:QgD e=some i):e=.var i:=by
 cases e<;>first|(cases h;rfl)|exact nomatch (show none=some _ from h)
def Qdd(h:QiZ b=none):ZT b=true:=by
 cases b with
 |Slice lo hi st p=>
  cases st with
  |none=>cases h
  |some e=>
   cases h
 |_=>rfl
def QeV{lo hi:Option Expr}(h:QiZ b=some (.cut lo hi)):∃p,b=.Slice lo hi none p:=by
 cases b with
 |Slice lo' hi' st p=>
  cases st with
  |none=>cases h;exact⟨p,rfl⟩
  |some e=>
   cases h
 |_=>cases h
def Qij{a:Expr}{x:Str}(h:QlA a=.nm x):∃p,a=.Name x p:=by
 unfold QlA at h;split at h
 ·cases h;exact⟨_,rfl⟩
 ·cases h
def Qck:QiZ b≠some .rev:=λh=>by
 unfold QiZ at h;split at h
 ·split at h<;>cases h
 ·cases h
def Qa6{a:Expr}(g:GX T A C X)(hu:X.A.units+1<cLine)(S:Snd T A C X cf m)(h:Qf (m+1) C (.Subscript a b p)=some ir):PE X (.Subscript a b p) (TI T A X.K (ev T cf d ir)):=by
 simp only[Qrc]at h;split at h
 ·rename_i lo hi hb;obtain⟨p2,rfl⟩:=QeV hb;exact Qhf S h
 ·rename_i hb;exact absurd hb Qck
 ·cases h
 ·rename_i hb;have hs:=Qdd hb;refine QS λd=>?_;simp only[Xc]at h;obtain⟨b',hb',h⟩:=h
  have gen:((Qf m C a).bind λa'=>some (E.ix a' b'))=some ir->PE X (.Subscript a b p) (TI T A X.K (ev T cf (d+1) ir)):=λh=>by
   simp only[Xc]at h;obtain⟨a',ha,h⟩:=h;cases h;exact Qia hu g.txt (S.e d a a' ha) (S.e d b b' hb') hs
  split at h
  ·rename_i ks vs hh
   exact absurd hh (by cases a<;>simp[QlA])
  ·rename_i x hh;split at h
   ·rename_i k ht;obtain⟨px,rfl⟩:=Qij hh;cases h;unfold QgN at ht;split at ht
    case isFalse=>cases ht
    rename_i c;simp only[Xl,Xw]at c;split at ht
    case h_2=>cases ht
    rename_i k' hx;split at ht
    ·cases ht;exact Qm8 g (S.e d b b' hb') hs c.1 c.2 hx
    ·cases ht
   ·exact gen h
  ·exact gen h
def hd0{C:Ctx}(h:¬hdC C=true):hdC C=false:=by
 cases q:hdC C with
 |true=>exact absurd q h
 |false=>rfl
def QnO{elt:Expr}{gens:List Comprehension}{scope:Scope}(h:Qf (m+1) C (.ListComp elt gens scope p)=some ir):hdC C=false:=by
 simp only[Qpr]at h;split at h
 case h_2=>cases h
 split at h
 case isFalse=>cases h
 rename_i ok;simp only[Xl,Uv]at ok;exact ok.2
def Qcm{f:Expr}{args:List Expr}{kws:List Keyword}(g:GX T A C X)(F:Fc X T A cf k)(hr:hdC C=false->Room (k+1) X.A)(hu:X.A.units+64<cLine)(S:Snd T A C X cf m)(h:Qf (m+1) C (.Call f args kws p)=some ir):PE X (.Call f args kws p) (TI T A X.K (ev T cf d ir)):=by
 refine QS λd=>?_
 cases kws with
 |cons kw kws=>cases f<;>exact Znn h
 |nil=>
  cases f with
  |Name x px=>
   simp only[Qra]at h;split at h
   ·cases h
   rename_i hn;have n1:x≠"__debug__":=λz=>hn (.inl z);have n2:x≠"__name__":=λz=>hn (.inr (.inl z))
   have hg:Yx C x=true:=by
    cases q:Yx C x with
    |true=>rfl
    |false=>exact absurd (.inr (.inr q)) hn
   split at h
   ·rename_i i hx;split at h
    ·cases h
    rename_i hh;simp only[Xc]at h;obtain⟨es,ha,h⟩:=h;exact Qhi g F ((hr (hd0 hh)).mono (V8 _)) S hg n1 hx ha h
   ·rename_i i hx;split at h
    ·cases h
    rename_i hh;simp only[Xc]at h;obtain⟨es,ha,h⟩:=h;cases h;exact QjV g F (hr (hd0 hh)) S hg n1 hx ha
   ·cases h
   ·cases h
   ·split at h
    ·cases h
    rename_i hx;split at h
    ·rename_i e;subst e;split at h
     ·rename_i a t pt;split at h
      ·rename_i c;simp only[Xc]at h;obtain⟨a',ha,ty,ht,h⟩:=h;cases h;exact Qna g S hg hx c.1 c.2.1 c.2.2 ht ha
      ·cases h
     ·simp only[Xc]at h;obtain⟨a',ha,i,hi,h⟩:=h;cases Qez hi;split at h
      ·rename_i hb;cases h;exact QjY g S hg hx hb ha
      ·cases h
     ·cases h
    ·split at h
     ·cases h
     rename_i hh;have hh:=hd0 hh;split at h
     ·rename_i ra hra;simp only[Xc]at h;obtain⟨es,ha,h⟩:=h;cases h;exact QjN g hh hg hx hra (S.a d ra es ha) (QF ha)
     ·split at h
      ·rename_i a hra;simp only[Xc]at h;obtain⟨a',ha,h⟩:=h;cases h;exact QjW g hh hg hx hra (S.e d a a' ha) (Qs ha)
      ·simp only[Xc]at h;obtain⟨b,hb,es,ha,h⟩:=h;cases h
       exact Qqb g hh (by omega) S hg n1 n2 hb ha
  |Attribute o x pa=>
   simp only[Qq9]at h;split at h
   case isFalse=>cases h
   rename_i c;simp only[Xl,Xw]at c;split at h
   ·rename_i i hx;split at h
    ·cases h
    rename_i hh;simp only[Xc]at h;obtain⟨o',ho,es,ha,h⟩:=h;cases h;exact QjU g F ((hr (hd0 hh)).mono (V8 _)) S c.1.1 c.1.2 c.2 hx ho ha
   ·simp only[Xc]at h;obtain⟨b,hb,o',ho,es,ha,h⟩:=h;cases h
    exact Qqa (by omega) g.txt S hb c.1.1 c.1.2 c.2 ho ha
  |_=>exact Znn h
def Qdh(g:GX T A C X)(F:Fc X T A cf k)(hr:hdC C=false->Room (k+1) X.A)(hu:X.A.units+64<cLine)(S:Snd T A C X cf m)(cp:∀d elt gens scope p ir,Qf (m+1) C (.ListComp elt gens scope p)=some ir->CompParts X elt gens scope (TI T A X.K (ev T cf d ir)))(d:Nat)(e:Expr)(ir:E)(h:Qf (m+1) C e=some ir):PE X e (TI T A X.K (ev T cf d ir)):=by
 cases e with
 |Constant c j p=>exact Qhh h
 |Name x p=>exact QjT g h
 |BinOp a o b p=>exact Qnb S h
 |UnaryOp o a p=>
  cases o with
  |USub=>exact Qm9 S h
  |Not=>exact(QjS g.txt S h).1
  |_=>exact Znn h
 |BoolOp o vs p=>
  cases vs with
  |nil=>cases o<;>first|exact Znn h|simp[Qf]at h
  |cons a r=>
   cases o with
   |And=>exact(S.an d a r p ir h).2
   |Or=>exact(S.orr d a r p ir h).2
 |Compare a os bs p=>
  match os,bs,h with
  |[o],[b],h=>exact(QjZ g.txt g.tab hu S h).1
  |[_,_],[_,_],h=>exact Znn h
  |[],_,h=>exact Znn h
  |[_],[],h=>exact Znn h
  |[_],_::_::_,h=>exact Znn h
  |[_,_],[],h=>exact Znn h
  |[_,_],[_],h=>exact Znn h
  |[_,_],_::_::_::_,h=>exact Znn h
  |_::_::_::_,_,h=>exact Znn h
 |IfExp t a b p=>exact Qhg S h
 |Tuple es j p=>exact Qhd S h
 |List es p=>exact QjX S h
 |Subscript a b p=>exact Qa6 g (by omega) S h
 |ListComp elt gens scope p=>exact(cp d elt gens scope p ir h).pe (g.calm (QnO h))
 |Dict ks vs p=>
  cases ks with
  |cons k0 ks=>exact Znn h
  |nil=>
   cases vs with
   |cons v0 vs=>exact Znn h
   |nil=>
    simp only[Qq8]at h;cases h;refine QS λd=>Za Qfb ?_;rintro Y H Q ⟨α,Z,hs,u,hs',rs,R,e,q⟩;simp only[ev]at e;cases e;intro p hp;obtain⟨R',E'⟩:=R.new (o:=.dic []) hp ⟨[],Qh,.nil⟩
    exact q _ _ _ E' R' ⟨p,by rw[<-R.h.len];exact Q3,rfl⟩
 |Attribute a f p=>exact Qj1 g S h
 |Call f args kws p=>exact Qcm g F hr hu S h
 |_=>exact Znn h
def Ze{e:Expr}(g:GX T A C X)(he:∀whole,isTrue e X.env whole=(do let v <-whole;standAt e.pos;holding [v] (truthy v)))(h:∀d,PE X e (TI T A X.K (ev T cf d ir)))(hir:∀d Z hs,evT T cf (d+1) ir Z hs=bd (ev T cf d ir Z hs) λu h1=>(Zo T u h1).map λb=>(b,h1)):
  PT X e (TIT T A X.K (evT T cf d ir)):=by
 refine QbP λd=>?_;refine QiW (Qe3 (h d) he) ?_;rintro Y H Q ⟨α,Z,hs,u,hs',rs,R,e,q⟩;rw[hir]at e;obtain⟨u1,h1,e1,e⟩:=Qd e;simp only[Xb]at e;obtain⟨b,e2,e⟩:=e;cases e;exact TI.run rs R e1 λα1 x H1 E1 R1 r1 rs1=>⟨_,Qc4 g.txt R1 e2 r1,q α1 H1 E1 R1⟩
def QY(h:Qdt ir=true):∀d Z hs,evT T cf (d+1) ir Z hs=bd (ev T cf d ir Z hs) λu h1=>(Zo T u h1).map λb=>(b,h1):=by
 intro d Z hs
 cases ir<;>first|rfl|cases h
def QjO(g:GX T A C X)(F:Fc X T A cf k)(hr:hdC C=false->Room (k+1) X.A)(hu:X.A.units+64<cLine)(S:Snd T A C X cf m)(cp:∀d elt gens scope p ir,Qf (m+1) C (.ListComp elt gens scope p)=some ir->CompParts X elt gens scope (TI T A X.K (ev T cf d ir)))(d:Nat)(e:Expr)(ir:E)(hne:∀t a b p,e≠.IfExp t a b p)(ok:okT e ir=true)(h:Qf (m+1) C e=some ir):PT X e (TIT T A X.K (evT T cf d ir)):=by
 have all:=λd=>Qdh g F hr hu S cp d e ir h
 cases e with
 |Constant c j p=>exact Ze g (λz=>rfl) all (QY ok)
 |Name x p=>exact Ze g (λz=>rfl) all (QY ok)
 |BinOp a o b p=>exact Ze g (λz=>rfl) all (QY ok)
 |UnaryOp o a p=>
  cases o with
  |USub=>exact Ze g (λz=>rfl) all (QY ok)
  |Not=>exact(QjS g.txt S h).2
  |_=>exact Znn h
 |BoolOp o vs p=>
  cases vs with
  |nil=>cases o<;>first|exact Znn h|simp[Qf]at h
  |cons a r=>
   cases o with
   |And=>exact(S.an d a r p ir h).1.pt
   |Or=>exact(S.orr d a r p ir h).1.pt
 |Compare a os bs p=>
  match os,bs,h with
  |[o],[b],h=>exact(QjZ g.txt g.tab hu S h).2
  |[_,_],[_,_],h=>exact Znn h
  |[],_,h=>exact Znn h
  |[_],[],h=>exact Znn h
  |[_],_::_::_,h=>exact Znn h
  |[_,_],[],h=>exact Znn h
  |[_,_],[_],h=>exact Znn h
  |[_,_],_::_::_::_,h=>exact Znn h
  |_::_::_::_,_,h=>exact Znn h
 |IfExp t a b p=>exact absurd rfl (hne t a b p)
 |Tuple es j p=>exact Ze g (λz=>rfl) all (QY ok)
 |List es p=>exact Ze g (λz=>rfl) all (QY ok)
 |Subscript a b p=>exact Ze g (λz=>rfl) all (QY ok)
 |ListComp elt gens scope p=>exact Ze g (λz=>rfl) all (QY ok)
 |Dict ks vs p=>exact Ze g (λz=>rfl) all (QY ok)
 |Attribute a f p=>exact Ze g (λz=>rfl) all (QY ok)
 |Call f args kws p=>exact Ze g (λz=>rfl) all (QY ok)
 |_=>exact Znn h
def Qp6:Snd T A C X cf 0 where
 e:=λd e ir h=>by first|exact Znn h|simp[Qf]at h
 t:=λd e ir h=>by simp[compT]at h
 an:=λd a r p ir h=>by simp[compAnd]at h
 orr:=λd a r p ir h=>by simp[compOr]at h
 a:=λd es irs h=>by simp[compA]at h
 o:=λd e ir h=>by simp[compO]at h
structure Snd2(T:Tbl)(A:Adr)(C:Ctx)(X:Cx)(cf:Cf)(m:Nat):Prop where
 s:Snd T A C X cf m
 w:∀d it src tg,compSrc m C it=some src->(Qms src=true->∃elts kt pt,tg=.Tuple elts kt pt)->PI X tg it (TIW T A X.K (λZ hs=>Zl T (ev T cf d) Z src hs))
 c:∀d elt gens scope p ir,Qf m C (.ListComp elt gens scope p)=some ir->CompParts X elt gens scope (TI T A X.K (ev T cf d ir))
def Qkj{tl:Option Expr}{t:Option E}{Yyy:Cx}{C':Ctx}(S:Snd T A C' Yyy cf m)(h:compTO (m+1) C' tl=some t):PTO Yyy tl (TIT T A Yyy.K (Qaf (evT T cf d) t)):=by
 cases tl with
 |none=>
  simp only[compTO]at h;cases h;rintro Y H Q ⟨α,Z,hs,u,hs',rs,R,e,q⟩;simp only[Qaf]at e;cases e;exact q α H Ext.refl R
 |some e=>
  simp only[compTO,Xc]at h;obtain⟨e',he,h⟩:=h;cases h;exact(S.t d e e' he).1
def Qc5{tg:Expr}{b:Bool}{xs:List Str}{src:Src}(ht:QmB tg b xs)(ok:QdG src (tgN b 0)=true):Qms src=true->∃elts kt pt,tg=.Tuple elts kt pt:=by
 intro hp
 rcases ht with⟨rfl,_⟩|⟨rfl,x,p,y,q,k,pt,rfl,_⟩
 ·cases src<;>first|(cases hp;done)|(cases ok;done)
 ·exact⟨_,_,_,rfl⟩
def QbD{a0 e0:E}{Z:Rho}{hs hs':Hs}{u:U}(h:ev T cf (d+1) (.thw a0 e0) Z hs=some (u,hs')):∃n k0 h2 kvs,hs[n]?=some (.dic k0)/\ev T cf d e0 Z hs=some (u,h2)/\h2[n]?=some (.fzd kvs)/\hs'=h2.set n (.dic kvs):=by
 simp only[ev]at h;split at h
 case h_2=>cases h
 rename_i n _ _;split at h
 case h_2=>cases h
 rename_i k0 e1;split at h
 case h_2=>cases h
 rename_i u2 h2 e2;split at h
 case h_2=>cases h
 rename_i kvs e3;cases h;exact⟨n,k0,h2,kvs,e1,e2,e3,rfl⟩
def QiA{it:Expr}(h:Qmw C it=true):(∃y p,it=.Name y p)\/∃y p f q,it=.Attribute (.Name y p) f q:=by
 unfold Qmw at h;split at h
 ·exact .inl ⟨_,_,rfl⟩
 ·exact .inr ⟨_,_,_,_,rfl⟩
 ·cases h
def Jz(g:GX T A C X)(S:Snd2 T A C X cf m)(SB:∀xs scope C0 s H fp,JC C xs scope=true->Snd2 T A (C.inner xs scope) (X.block xs scope C0 s H fp) cf m)(ST:∀xs scope C0 s H fp tl t d,JC C xs scope=true->compTO m (C.inner xs scope) tl=some t->PTO (X.block xs scope C0 s H fp) tl (TIT T A X.K (Qaf (evT T cf d) t)))(d:Nat)(elt:Expr)(gens:List Comprehension)(scope:Scope)(p:Pos)(ir:E)
  (h:Qf (m+1) C (.ListComp elt gens scope p)=some ir):CompParts X elt gens scope (TI T A X.K (ev T cf d ir)):=by
 simp only[Qpr]at h;split at h
 case h_2=>cases h
 rename_i gn hgen;split at h
 case isFalse=>cases h
 rename_i ok;simp only[Xl,Uv]at ok;obtain⟨ok,hh⟩:=ok;split at h
 ·rename_i hdk;split at h
  ·cases h
  rename_i hb;simp only[Xc]at h;obtain⟨e',he,t,ht,el,hel,h⟩:=h;cases h;have hit:=QiA hdk;obtain⟨tg,rfl,htg⟩:=Jy hgen;obtain⟨ck,gb⟩:=ZP g ok
  have hb0:gn.b=false:=by simpa using hb
  rw[hb0]at htg
  have hn:gn.xs.length=nN false:=by
   rcases htg with⟨e,x,p,_,e'⟩|⟨e,_⟩
   ·rw[e'];rfl
   ·cases e
  have mk:∀(d:Nat) (t':TE),(∀Y H Q,Y.length=X.N.length->t' Y H Q->Qa4 (TIW T A X.K (λZ hs=>Zl T (ev T cf d) Z (.key e') hs)) (nN false) (gT X.K (tgN false X.N.length)) (TIT T A X.K (Qaf (evT T cf d) t)) (TI T A X.K (ev T cf d el)) Y H Q\/∃a kv,H a=some (.dK kv)/\Qa4 (TIW T A X.K (λZ hs=>Zl T (ev T cf d) Z (.key e') hs)) (nN false) (gT X.K (tgN false X.N.length)) (TIT T A X.K (Qaf (evT T cf d) t)) (TI T A X.K (ev T cf d el)) Y H λv H'=>Qcj a H (Q v) H')->CompParts X elt [⟨tg,gn.iter,gn.tl.toList,0⟩] scope t':=λd t' imp=>
   ⟨tg,gn.iter,gn.tl,gn.xs,nN false,_,_,TIT T A X.K (Qaf (evT T cf d) t),TI T A X.K (ev T cf d el),rfl,ck,Qkx (S.s.e d gn.iter e' he),hn,(λC0 s H fp=>JQ g hh ck (gb C0 s H fp) htg),(λC0 s H fp=>ST _ _ C0 s H fp _ _ d ok ht),(λC0 s H fp=>show PE _ elt (TI T A X.K (ev T cf d el))from(SB _ scope C0 s H fp ok).s.e d elt el hel),(by rcases hit with⟨y,py,hit⟩|⟨y,py,f,q,hit⟩<;>(rw[hit];exact λv=>rfl)),imp⟩
  cases d with
  |zero=>exact mk 0 _ λY H Q r ⟨_,_,_,_,_,_,_,e,_⟩=>nomatch e
  |succ d=>
   cases d with
   |zero=>
    refine mk 0 _ λY H Q r l=>?_;obtain⟨α,Z,hs,u,hs',rs,R,e,q⟩:=l;obtain⟨_,_,_,_,_,e2,_⟩:=QbD e;exact nomatch e2
   |succ d=>
    refine mk d _ λY H Q hl ⟨α,Z,hs,u,hs',rs,R,e,q⟩=>.inr ?_;obtain⟨n,k0,h2,kvs,hk0,e2,hk2,rfl⟩:=QbD e;obtain⟨a0,ha0,kv0,hH0,rd0⟩:=R.h.adr hk0;refine⟨a0,kv0,hH0,QaL g.txt hl ⟨α,Z,hs,u,h2,rs,R,e2,λα3 v H3 E3 R3 r3=>?_⟩⟩;have ha3:=E3.pre n a0 ha0;obtain⟨kv3,ob3,hH3,rd3⟩:=R3.h.ob n a0 _ ha3 hk2;refine⟨ob3,kv3,hH3,q α3 v _ ?_ (R3.put0 ha3 ⟨kv3,Qh,rd3⟩) r3⟩;refine⟨E3.pre,E3.new,λb o e hb=>?_,λb o u e=>?_,λb o e=>?_⟩
    ·rw[Qc (λz:b=a0=>hb (z▸Xp ha0))];exact E3.keep b o e hb
    ·rw[Qc (λz=>by rw[z,hH0]at e;cases e)]
     exact E3.fz b o u e
    ·by_cases hb':b=a0
     ·subst hb';rw[hH0]at e;cases e;exact⟨_,Qh,λr=>⟨λz=>(nomatch z),λz=>(nomatch z)⟩⟩
     ·rw[Qc hb'];exact E3.tr b o e
 simp only[Xc]at h;obtain⟨src,hsrc,h⟩:=h;split at h
 case isFalse=>cases h
 rename_i oks;simp only[Xc]at h;obtain⟨t,ht,el,hel,h⟩:=h;cases h;obtain⟨tg,rfl,htg⟩:=Jy hgen;obtain⟨ck,gb⟩:=ZP g ok
 have hn:gn.xs.length=nN gn.b:=by
  rcases htg with⟨e,x,p,_,e'⟩|⟨e,x,p,y,q,k,pt,_,e'⟩<;>rw[e,e']<;>rfl
 cases d with
 |zero=>
  exact⟨tg,gn.iter,gn.tl,gn.xs,nN gn.b,_,_,TIT T A X.K (Qaf (evT T cf 0) t),TI T A X.K (ev T cf 0 el),rfl,ck,S.w 0 gn.iter src tg hsrc (Qc5 htg oks),hn,(λC0 s H fp=>JQ g hh ck (gb C0 s H fp) htg),(λC0 s H fp=>ST _ _ C0 s H fp _ _ 0 ok ht),(λC0 s H fp=>show PE _ elt (TI T A X.K (ev T cf 0 el))from(SB _ scope C0 s H fp ok).s.e 0 elt el hel),QbV hsrc,λY H Q r j=>by obtain⟨_,_,_,_,_,_,_,e,_⟩:=j;exact nomatch e⟩
 |succ d=>
  exact⟨tg,gn.iter,gn.tl,gn.xs,nN gn.b,_,_,TIT T A X.K (Qaf (evT T cf d) t),TI T A X.K (ev T cf d el),rfl,ck,S.w d gn.iter src tg hsrc (Qc5 htg oks),hn,(λC0 s H fp=>JQ g hh ck (gb C0 s H fp) htg),(λC0 s H fp=>ST _ _ C0 s H fp _ _ d ok ht),(λC0 s H fp=>show PE _ elt (TI T A X.K (ev T cf d el))from(SB _ scope C0 s H fp ok).s.e d elt el hel),QbV hsrc,λY H Q hl hq=>.inl (QaL g.txt hl hq)⟩
theorem Qha:∀(m:Nat) {C:Ctx} {X:Cx},GX T A C X->Fc X T A cf k->(hdC C=false->Room (k+1) X.A)->X.A.units+64<cLine->Snd2 T A C X cf m
 |0,C,X,g,F,hr,hu=>⟨Qp6,λd it src tg h=>by simp[compSrc]at h,λd elt gens scope p ir h=>by first|exact Znn h|simp[Qf]at h⟩
 |1,C,X,g,F,hr,hu=>by
  have S0:=Qha 0 g F hr hu;have S:=S0.s
  have cp:=Jz g S0 (λx scope C0 s H fp ok=>Qha 0 ((ZP g ok).2 C0 s H fp) ⟨F.ok,F.some,F.df,F.xf⟩ hr hu) (λxs scope C0 s H fp tl t d ok h=>by simp[compTO]at h)
  refine⟨⟨Qdh g F hr hu S cp,λd e ir h=>?_,Qj2 S,QoW S,QfU S,QjR S⟩,λd it src tg h hz=>QjQ g S h hz,cp⟩;cases e<;>exact Znn h
 |m+2,C,X,g,F,hr,hu=>by
  have S1:=Qha (m+1) g F hr hu;have S:=S1.s;have S':=Qha m g F hr hu;have cp:=Jz g S1 (λx scope C0 s H fp ok=>Qha (m+1) ((ZP g ok).2 C0 s H fp) ⟨F.ok,F.some,F.df,F.xf⟩ hr hu) (λxs scope C0 s H fp tl t d ok h=>Qkj (Qha m ((ZP g ok).2 C0 s H fp) ⟨F.ok,F.some,F.df,F.xf⟩ hr hu).s h);refine⟨⟨Qdh g F hr hu S cp,λd e ir h=>?_,Qj2 S,QoW S,QfU S,QjR S⟩,λd it src tg h hz=>QjQ g S h hz,cp⟩
  have hne:∀t a b p,e≠.IfExp t a b p:=by
   rintro t a b p rfl;simp[compT]at h
  have h':((Qf (m+1) C e).bind λir=>if okT e ir=true then some ir else none)=some ir:=by
   cases e<;>first|exact h|(simp[compT]at h;done)
  simp only[Xc]at h';obtain⟨ir',he,h'⟩:=h';split at h'
  ·rename_i ok;cases h';exact⟨QjO g F hr hu S'.s S1.c d e ir hne ok he,S.e d e ir he⟩
  ·cases h'
end
end
section
variable {ir:E}{D:Ends}{env:Env}{e i o:Expr}{fl:Fl}{α:List Addr}{ts:List Expr}{d l:Nat}{ρ':Rho}{st:Stmt}{t:Tg}
section
variable {X:Cx}{T:Tbl}{A:Adr}{C:Ctx}{cf:Cf}{m k:Nat}
def Qby{t:TS}(h:∀D Y H,¬t D Y H):PS X st t:=λz z Y H D z q=>(h D Y H q).elim
def QfL{st:List Stmt}{t:TS}(h:∀D Y H,¬t D Y H):PSs X st t:=λz z Y H D z q=>(h D Y H q).elim
def Qgb{tg:Option Expr}(h:Qf m C e=some ir)(hn:∀elt gens scope p,e≠.ListComp elt gens scope p):swapsWith e tg l env=pure false:=by
 cases e<;>first|rfl|exact absurd rfl (hn _ _ _ _)|(cases m<;>exact Znn h)
def QhY{f:Str}{p:Pos}(h:Qf m C e=some ir):swapsWith e (some (.Attribute o f p)) l env=pure false:=by
 cases e<;>first|rfl|(cases m<;>exact Znn h)
def QoV{tg:Expr}(hc:X.calm=true)(g:GX T A C X)(fl:∀x,X.fn x=true\/X.env.scope.names.lookup x=some .local)(h:JB C tg=some t):PG X tg (gT X.K t):=by
 have nm:∀{x:Str} {p:Pos} {i:Nat},QaG C x=true->idx x C.N=some i->PG X (.Name x p) (Qbn i):=λ{x p i} h1 h2=>Qbd g.nd (by rw[g.N];exact Zz h2) (QaA g h1) (fl x)
 unfold JB at h;split at h
 ·split at h
  ·rename_i hl;simp only[Xb]at h;obtain⟨i,hi,rfl⟩:=h;exact nm hl hi
  ·cases h
 ·split at h
  ·rename_i c;simp only[Xl]at c;simp only[Xc,Xb]at h;obtain⟨i,hi,j,hj,rfl⟩:=h;exact Qf6 hc (YI (nm c.1.1 hi) (YI (nm c.1.2 hj) Qdy))
  ·cases h
 ·cases h
def QcN{pos:Pos}(h:ZT i=true):∀v,assign (.Subscript o i pos) env v=(do
   let ov <-holding [v] (eval o env);let iv <-holding [v,ov] (eval i env)
   standAt pos
   holding [v,ov,iv] (setItem ov iv v)
   release [v,ov,iv] []):=by
 intro v
 cases i<;>first|rfl|cases h
def QhX{p:Pos}(h:Qf m C e=some ir):swapsWithSole [.Subscript o i p] e l env=pure false:=by
 cases e<;>first|rfl|(cases m<;>exact Znn h)
def QfB(h:Qph e=some true):∃x j q,e=.Constant (.str x) j q:=by
 cases e with
 |Constant c j q=>cases c<;>first|exact⟨_,_,_,rfl⟩|cases h
 |_=>cases h
def Qab{a:As}(h:Qme ts=some a):∃t,ts=[t]/\as1 t=some a:=by
 match ts,h with
 |[t],h=>exact⟨t,rfl,h⟩
def QiS{x:Str}(h:Qme ts=some (.nm x)):∃p,ts=[.Name x p]:=by
 obtain⟨t,rfl,h'⟩:=Qab h;clear h;have h:=h';clear h';unfold as1 at h;split at h
 ·cases h;exact⟨_,rfl⟩
 ·cases h
 ·cases h
 ·split at h
  ·unfold QeD at h;split at h<;>cases h
  all_goals cases h
 ·cases h
def QiT{f:Str}(h:Qme ts=some (.at o f)):∃p,ts=[.Attribute o f p]:=by
 obtain⟨t,rfl,h'⟩:=Qab h;clear h;have h:=h';clear h';unfold as1 at h;split at h
 ·cases h
 ·cases h;exact⟨_,rfl⟩
 ·cases h
 ·split at h
  ·unfold QeD at h;split at h<;>cases h
  all_goals cases h
 ·cases h
def QfK(h:Qme ts=some (.sub o i)):∃p,ts=[.Subscript o i p]:=by
 obtain⟨t,rfl,h'⟩:=Qab h;clear h;have h:=h';clear h';unfold as1 at h;split at h
 ·cases h
 ·cases h
 ·cases h;exact⟨_,rfl⟩
 ·split at h
  ·unfold QeD at h;split at h<;>cases h
  all_goals cases h
 ·cases h
def Qjz{tg:Expr}{src:Src}(ht:JB C tg=some t)(ok:QdG src t=true):Qms src=true->∃elts kt pt,tg=.Tuple elts kt pt:=by
 intro hp
 cases tg with
 |Tuple elts kt pt=>exact⟨_,_,_,rfl⟩
 |Name x p=>
  simp only[JB]at ht;split at ht
  ·simp only[Xb]at ht;obtain⟨i,_,rfl⟩:=ht
   cases src<;>first|(cases hp;done)|(cases ok;done)
  ·cases ht
 |_=>simp[JB]at ht
structure SndS(T:Tbl)(A:Adr)(C:Ctx)(X:Cx)(cf:Cf)(m:Nat):Prop where
 s:∀d st ir,Yp m C st=some ir->PS X st (TIS T A X.K (ex T cf d ir))
 ss:∀d sts irs,compSs m C sts=some irs->PSs X sts (TIS T A X.K (exs T cf d irs))
def SndS.sB(SS:SndS T A C X cf m)(d:Nat)(st:Stmt):PS X st (TIS T A X.K (ex T cf d (QoD (Yp m C st)))):=by
 cases e:Yp m C st with
 |some ir=>exact SS.s d st ir e
 |none=>exact Qby λD Y H y=>by obtain⟨_,_,_,_,_,_,_,_,z,_⟩:=y;cases d<;>simp[QoD,ex]at z
def QnK{K:W.Frag}{ir:S}:∀D Y H,¬TIS T A K (ex T cf 0 ir) D Y H:=λz z z y=>by obtain⟨_,_,_,_,_,_,_,_,h,_⟩:=y;exact nomatch h
def QkX{K:W.Frag}{irs:List S}:∀D Y H,¬TIS T A K (exs T cf 0 irs) D Y H:=λz z z y=>by obtain⟨_,_,_,_,_,_,_,_,h,_⟩:=y;exact nomatch h
def Qe5{ir:S}(h:∀d',PS X st (TIS T A X.K (ex T cf (d'+1) ir))):PS X st (TIS T A X.K (ex T cf d ir)):=by
 cases d with
 |zero=>exact Qby QnK
 |succ d=>exact h d
def TIS.run{K:W.Frag}{Z:Rho}{Y:St}{hs h1:Hs}{H:Hp}{f:Ex}(rs:RS A α Z Y)(rp:Rep T A K α hs H)(h:f Z hs=some (fl,ρ',h1))
  (k:∀α1 σ1 H1,Ext α α1 H H1->Rep T A K α1 h1 H1->RS A α1 ρ' σ1->flE A α1 D σ1 H1 fl):TIS T A K f D Y H:=⟨α,Z,hs,fl,ρ',h1,rs,rp,h,k⟩
def Qfy{body:List S}{w:Wk}{J:It}{K:PySem.W.Frag}{α0:List Addr}{H0:Hp}{σ0:St}{ρ0:Rho}{h0 hs':Hs}{n:Nat}(hK:K=X.K)(tx:Txt T A X.K X.mg)(rs0:RS A α0 ρ0 σ0)(R0:Rep T A X.K α0 h0 H0)(W0:WJ A X.K α0 J H0 w)
  (e0:QaH T w t (exs T cf d body) n 0 ρ0 h0=some (fl,ρ',hs'))
  (q:∀α' Y' H',Ext α0 α' H0 H'->Rep T A X.K α' hs' H'->RS A α' ρ' Y'->flE A α' D Y' H' fl):
  ∃W:Nat->Nat->St->Hp->Prop,(∃m,W 0 m σ0 H0)/\∀i m Y H,W i m Y H->(J.stop i H/\D.nx Y H)\/(J.go i H/\∃N:St->Hp->Prop,(∀Y' H',N Y' H'->∃m',m'<m/\W (i+1) m' Y' H') /\
   ∀x H',J.yld i H x H'->gT X.K t x Y H' λσ2 H2=>TIS T A X.K (exs T cf d body) {D with nx:=N,ct:=N,bk:=D.nx} σ2 H2):=by
 refine⟨λi m Y H=>∃α Z hs,RS A α Z Y/\Rep T A X.K α hs H/\Ext α0 α H0 H/\QaH T w t (exs T cf d body) m i Z hs=some (fl,ρ',hs'),⟨n,α0,ρ0,h0,rs0,R0,Ext.refl,e0⟩,?_⟩;rintro i m Y H ⟨α,Z,hs,rs,R,E,e⟩
 cases m with
 |zero=>cases e
 |succ m=>
  have W:=W0.mono E.pre E.fz;simp only[QaH]at e;split at e
  ·cases e
  ·rename_i ei;cases e;exact .inl ⟨Qb0 tx R W ei,q α Y H E R rs⟩
  ·rename_i x ei;split at e
   ·cases e
   ·rename_i ρ1 et;obtain⟨go,yl⟩:=QdT tx R W rs ei et;refine .inr ⟨go,λY' H'=>∃α Z hs,RS A α Z Y'/\Rep T A X.K α hs H'/\Ext α0 α H0 H'/\QaH T w t (exs T cf d body) m (i+1) Z hs=some (fl,ρ',hs'),λY' H' z=>⟨m,Vn _,z⟩,?_⟩;intro v H' hy;refine yl v H' _ hy λσ2 rs2 R2 E2=>?_;have E02:Ext α0 α H0 H':=E.trans E2 R2.h;split at e
    ·rename_i ρ2 h2 eb;exact TIS.run rs2 R2 eb λα3 σ3 H3 E3 R3 rs3=>⟨α3,ρ2,h2,rs3,R3,E02.trans E3 R3.h,e⟩
    ·rename_i ρ2 h2 eb;exact TIS.run rs2 R2 eb λα3 σ3 H3 E3 R3 rs3=>⟨α3,ρ2,h2,rs3,R3,E02.trans E3 R3.h,e⟩
    ·rename_i ρ2 h2 eb;cases e;exact TIS.run rs2 R2 eb λα3 σ3 H3 E3 R3 rs3=>q α3 σ3 H3 (E02.trans E3 R3.h) R3 rs3
    ·rename_i n1 n2 n3
     cases fl with
     |next=>exact absurd e (n1 _ _)
     |cont=>exact absurd e (n2 _ _)
     |brk=>exact absurd e (n3 _ _)
     |ret u=>exact TIS.run rs2 R2 e λα3 σ3 H3 E3 R3 rs3=>q α3 σ3 H3 (E02.trans E3 R3.h) R3 rs3
def Qng{kvs:List (U×U)}{kv:List (Key×V)}{i:Nat}{p:U×U}{q:Key×V}(h:RD A α kvs kv)(h1:kvs[i]?=some p)(h2:kv[i]?=some q):RK p.1 q.1:=by
 obtain⟨q',e,r⟩:=Q8 h h1;rw[h2]at e;cases e;exact r.1
def Qd2{body:List S}{i0:Nat}{a:Addr}{ob:Obj}{kv:List (Key×V)}{kvs:List (U×U)}{α0:List Addr}{H0:Hp}{σ0:St}{ρ0:Rho}{h0 hs':Hs}(rs0:RS A α0 ρ0 σ0)(R0:Rep T A X.K α0 h0 H0)
  (hz:H0 a=some (.frz ob (.dK kv))) (rd:RD A α0 kvs kv)
  (e0:Qev i0 (exs T cf d body) (kvs.map (·.1)) ρ0 h0=some (fl,ρ',hs'))
  (q:∀α' Y' H',Ext α0 α' H0 H'->Rep T A X.K α' hs' H'->RS A α' ρ' Y'->flE A α' D Y' H' fl):
  ∃W:Nat->Nat->St->Hp->Prop,(∃m,W 0 m σ0 H0)/\∀i m Y H,W i m Y H->((Itk a ob kv).stop i H/\D.nx Y H)\/((Itk a ob kv).go i H/\∃N:St->Hp->Prop,(∀Y' H',N Y' H'->∃m',m'<m/\W (i+1) m' Y' H') /\
   ∀x H',(Itk a ob kv).yld i H x H'->gT X.K (.name i0) x Y H' λσ2 H2=>TIS T A X.K (exs T cf d body) {D with nx:=N,ct:=N,bk:=D.nx} σ2 H2):=by
 have hl:=W7 rd;refine⟨λi m Y H=>∃α Z hs,RS A α Z Y/\Rep T A X.K α hs H/\Ext α0 α H0 H/\m+i=kvs.length/\Qev i0 (exs T cf d body) ((kvs.drop i).map (·.1)) Z hs=some (fl,ρ',hs'),⟨kvs.length,α0,ρ0,h0,rs0,R0,Ext.refl,rfl,e0⟩,?_⟩;rintro i m Y H ⟨α,Z,hs,rs,R,E,hm,e⟩;have hzi:=E.fz a ob (.dK kv) hz
 cases m with
 |zero=>
  rw[List.drop_of_length_le (by omega)]at e
  simp only[V1,Qev]at e;cases e
  exact .inl ⟨⟨hzi,by omega⟩,q α Y H E R rs⟩
 |succ m=>
  have hi:i<kvs.length:=by omega
  rw[List.drop_eq_getElem_cons hi,X1]at e;simp only[Qev]at e
  refine .inr ⟨⟨hzi,by omega⟩,λY' H'=>∃α Z hs,RS A α Z Y'/\Rep T A X.K α hs H'/\Ext α0 α H0 H'/\m+(i+1)=kvs.length/\Qev i0 (exs T cf d body) ((kvs.drop (i+1)).map (·.1)) Z hs=some (fl,ρ',hs'),λY' H' z=>⟨m,Vn _,z⟩,?_⟩
  rintro x H' ⟨rfl,p,hp,rfl⟩;have rk:RK kvs[i].1 p.1:=Qng rd (Xk hi) hp;have rs2:=rs.set i0 (Qj6 (A:=A) (α:=α) rk);show TIS T A X.K (exs T cf d body) _ _ _;split at e
  ·rename_i ρ2 h2 eb
   exact TIS.run rs2 R eb λα3 σ3 H3 E3 R3 rs3=>⟨α3,ρ2,h2,rs3,R3,E.trans E3 R3.h,by omega,e⟩
  ·rename_i ρ2 h2 eb
   exact TIS.run rs2 R eb λα3 σ3 H3 E3 R3 rs3=>⟨α3,ρ2,h2,rs3,R3,E.trans E3 R3.h,by omega,e⟩
  ·rename_i ρ2 h2 eb;cases e;exact TIS.run rs2 R eb λα3 σ3 H3 E3 R3 rs3=>q α3 σ3 H3 (E.trans E3 R3.h) R3 rs3
  ·rename_i n1 n2 n3
   cases fl with
   |next=>exact absurd e (n1 _ _)
   |cont=>exact absurd e (n2 _ _)
   |brk=>exact absurd e (n3 _ _)
   |ret u=>exact TIS.run rs2 R e λα3 σ3 H3 E3 R3 rs3=>q α3 σ3 H3 (E.trans E3 R3.h) R3 rs3
theorem RF.put{α:List Addr}{x:Str}{i:Nat}{u:U}{v:V}(hk:T.fns'[i]?=some x)(nd:T.fns'.Nodup)(r:RU A α u v):∀{fs:List (Nat×U)} {fv:List (Str×V)},RF T A α fs fv->RF T A α (JO i u fs) (JP x v fv)
 |_,_,.nil=>.cons ⟨hk,r⟩ .nil
 |_,_,.cons (a:=p) (b:=q) h t=>by
  obtain⟨pk,pu⟩:=p;obtain⟨qx,qv⟩:=q;simp only[JO,JP];by_cases e:pk=i
  ·subst e;have e2:qx=x:=X4 (h.1.symm.trans hk);subst e2;rw[if_pos rfl,if_pos rfl];exact .cons ⟨hk,r⟩ t
  ·have n2:¬qx=x:=λz=>by
    subst z;obtain⟨l1,q1⟩:=Xa.mp hk;obtain⟨l2,q2⟩:=Xa.mp h.1;exact e ((List.getElem_inj nd).mp (q2.trans q1.symm))
   rw[if_neg e,if_neg n2];exact .cons h (RF.put hk nd r t)
theorem RF.length{fs:List (Nat×U)}{fv:List (Str×V)}(r:RF T A α fs fv):fs.length=fv.length:=W7 r
def Qri(o:Operator):∃ti,PIp X o ti/\∀{α:List Addr} {u w r:U} {x y:V} {H:Hp} {Q:VK},Qi3 o u w=some r->RU A α u x->RU A α w y->(∀z,RU A α r z->Q z H)->ti x y H Q:=by
 have no:∀{o:Operator},(∀u w,Qi3 o u w=none)->∃ti,PIp X o ti/\∀{α:List Addr} {u w r:U} {x y:V} {H:Hp} {Q:VK},Qi3 o u w=some r->RU A α u x->RU A α w y->(∀z,RU A α r z->Q z H)->ti x y H Q:=λ{o} h=>⟨λv v v v=>False,λv v v v v v v v v v v v f=>f.elim,λe v v v=>by rw[h]at e;cases e⟩
 have two:∀{f:Int->Int->U} {u w r:U},(match u,w with|.int i 0,.int j 0=>some (f i j)|_,_=>none)=some r->∃i j,u=.int i 0/\w=.int j 0/\r=f i j:=λ{f u w r} h=>by
  split at h
  ·cases h;exact⟨_,_,rfl,rfl,rfl⟩
  ·cases h
 cases o with
 |Add=>
  refine⟨_,Qid,λ{α u w r x y H Q} e ru rw' k=>?_⟩;obtain⟨i,j,rfl,rfl,rfl⟩:=two (f:=λi j=>.int (i+j) 0) e;cases Qb4 ru;cases Qb4 rw';exact⟨i,j,rfl,rfl,k _ ⟨_,rfl,Cg.refl _ _⟩⟩
 |Sub=>
  refine⟨_,Qic,λ{α u w r x y H Q} e ru rw' k=>?_⟩;obtain⟨i,j,rfl,rfl,rfl⟩:=two (f:=λi j=>.int (i-j) 0) e;cases Qb4 ru;cases Qb4 rw';exact⟨i,j,rfl,rfl,k _ ⟨_,rfl,Cg.refl _ _⟩⟩
 |_=>exact no λv v=>rfl
structure Bd(X:Cx):Prop where
 stk:X.stack=X.env::X.outer
 frm:X.env.frame=some X.env.locals
 ex:X.ex=[]
 cm:X.calm=true
def QjP(bX:Bd X)(F:Fc X T A cf k)(hr:Room k X.A)(hu:X.A.units+1<cLine)(g:GX T A C X)(fl:∀x,X.fn x=true\/X.env.scope.names.lookup x=some .local)(S2:Snd2 T A C X cf m)(SS:SndS T A C X cf m)(d:Nat)(st:Stmt)(ir:Iv.S)(h:Yp (m+1) C st=some ir):PS X st (TIS T A X.K (ex T cf d ir)):=by
 have S:=S2.s;refine Qe5 λd=>?_
 cases st with
 |Pass p=>cases h;exact Yr Qhv λD Y H W=>by obtain⟨α,Z,hs,fl,ρ',hs',rs,R,e,q⟩:=W;cases e;exact q α Y H Ext.refl R rs
 |Break p=>cases h;exact Yr Qe6 λD Y H V=>by obtain⟨α,Z,hs,fl,ρ',hs',rs,R,e,q⟩:=V;cases e;exact q α Y H Ext.refl R rs
 |Continue p=>cases h;exact Yr Qba λD Y H U=>by obtain⟨α,Z,hs,fl,ρ',hs',rs,R,e,q⟩:=U;cases e;exact q α Y H Ext.refl R rs
 |Expr e p=>
  unfold Yp at h;try dsimp only at h;split at h
  ·rename_i hd;obtain⟨x,j,q,rfl⟩:=QfB hd;cases h
   exact Yr Qkn λD Y H Q=>by obtain⟨α,Z,hs,fl,ρ',hs',rs,R,e,q⟩:=Q;cases e;exact q α Y H Ext.refl R rs
  ·cases h
  ·rename_i hn;simp only[Xb]at h;obtain⟨e',he,rfl⟩:=h
   refine Yr (Qhw (S.e d e e' he) (Qgb he λelt gens scope q z=>by subst z;cases hn)) ?_
   rintro D Y H ⟨α,Z,hs,fl,ρ',hs',rs,R,e,q⟩;simp only[ex]at e;obtain⟨u,h1,e1,e⟩:=Qd e;cases e;exact TI.run rs R e1 λα1 x H1 E1 R1 r1 rs1=>q α1 Y H1 E1 R1 rs1
 |Return v p=>
  cases v with
  |none=>
   cases h
   exact Yr Qhu λD Y H P=>by obtain⟨α,Z,hs,fl,ρ',hs',rs,R,e,q⟩:=P;cases e;exact q α Y H Ext.refl R rs .non rfl
  |some e=>
   unfold Yp at h;simp only[Xb]at h;obtain⟨e',he,rfl⟩:=h;refine Yr (Qkl (S.e d e e' he)) ?_;rintro D Y H ⟨α,Z,hs,fl,ρ',hs',rs,R,e,q⟩;simp only[ex]at e;obtain⟨u,h1,e1,e⟩:=Qd e;cases e;exact TI.run rs R e1 λα1 x H1 E1 R1 r1 rs1=>q α1 Y H1 E1 R1 rs1 x r1
 |Raise x c p=>
  cases h
  exact Qby λD Y H M=>by obtain⟨_,_,_,_,_,_,_,_,e,_⟩:=M;simp[ex]at e
 |AugAssign t o e p=>
  unfold Yp at h;try dsimp only at h;split at h
  case h_2=>cases h
  rename_i x px;split at h
  case isFalse=>cases h
  rename_i hl;simp only[Xc]at h;obtain⟨i,hi,e',he,h⟩:=h;cases h;obtain⟨ti,hp,ht⟩:=Qri (X:=X) (A:=A) o
  refine Yr (Qko (i:=i) g.nd (by rw[g.N];exact Zz hi) (QaA g hl) (S.e d e e' he) hp (fl x)) ?_
  rintro D Y H ⟨α,Z,hs,fl,ρ',hs',rs,R,e,q⟩;simp only[ex]at e;split at e
  case h_2=>cases e
  rename_i u eu;obtain⟨w,h1,e1,e⟩:=Qd e;simp only[Xb]at e;obtain⟨r,e2,e⟩:=e;cases e;obtain⟨v,ev',rv⟩:=rs.val i u eu;refine⟨v,ev',TI.run rs R e1 λα1 y H1 E1 R1 r1 rs1=>?_⟩;exact ht e2 (rv.mono E1.pre) r1 λz rz=>q α1 _ H1 E1 R1 (rs1.set i rz)
 |If t a b p=>
  unfold Yp at h;simp only[Xc]at h;obtain⟨t',ht,a',ha,b',hb,h⟩:=h;cases h;refine Yr (Qnq (S.t d t t' ht).1 (SS.ss d a a' ha) (SS.ss d b b' hb)) ?_;rintro D Y H ⟨α,Z,hs,fl,ρ',hs',rs,R,e,q⟩;simp only[ex]at e;split at e
  ·rename_i h1 e1;refine TIT.run rs R e1 λα1 H1 E1 R1 rs1=>?_;rw[if_pos rfl];exact TIS.run rs1 R1 e λα2 σ2 H2 E2 R2 rs2=>q α2 σ2 H2 (E1.trans E2 R2.h) R2 rs2
  ·rename_i h1 e1;refine TIT.run rs R e1 λα1 H1 E1 R1 rs1=>?_;rw[if_neg Xs];exact TIS.run rs1 R1 e λα2 σ2 H2 E2 R2 rs2=>q α2 σ2 H2 (E1.trans E2 R2.h) R2 rs2
  ·cases e
 |While t a b p=>first|exact Znn h|simp[Yp]at h
 |For tg it a b p=>
  cases b with
  |cons _ _=>first|exact Znn h|simp[Yp]at h
  |nil=>
   unfold Yp at h;try dsimp only at h;simp only[Xc]at h;obtain⟨tg',ht,it',hi,h⟩:=h;split at h
   ·rename_i i0 hk;simp only[Xc]at h;obtain⟨e',he,a',ha,h⟩:=h;cases h
    have et:tg'=.name i0:=by
     unfold Qo9 at hk;split at hk
     case h_2=>cases hk
     split at hk
     case h_2=>cases hk
     split at hk
     case isFalse=>cases hk
     cases hk;rfl
    subst et
    refine Yr (Qdm (Qf1 (by rw[g.xe];exact PassesOwn.never) bX.cm (Qdx (S.e d it e' he)) (QoV bX.cm g fl ht) (SS.ss d a a' ha) (QbV hi))) ?_
    rintro D Y H ⟨α,Z,hs,fl,ρ',hs',rs,R,e,q⟩;simp only[ex]at e;obtain⟨u,h1,e1,e⟩:=Qd e;split at e
    ·rename_i n kvs ed;obtain⟨rfl,⟨k0,hk0⟩,hk1⟩:=Qb6 ed;unfold QgK at e;split at e
     case h_2=>cases e
     rename_i fl' ρ2 h2 ef;split at e
     case h_2=>cases e
     rename_i kvs' hk2;cases e;obtain⟨a0,ha0,kv0,hH0,rd0⟩:=R.h.adr hk0;refine⟨a0,kv0,hH0,TI.run rs R e1 λα1 x H1 E1 R1 r1 rs1=>?_⟩;obtain⟨a1,ha1,rfl⟩:=r1
     have ea:a1=a0:=by
      have:=E1.pre n a0 ha0;rw[ha1]at this;exact X4 this
     subst ea;obtain⟨kv1,hH1,rd1⟩:=R1.h.ob n a1 _ ha1 hk1;refine⟨a1,kv1,rfl,hH1,λob=>?_⟩;have R2:Rep T A X.K α1 (h1.set n (.fzd kvs)) (upd H1 a1 (.frz ob (.dK kv1))):=R1.put0 ha1 ⟨kv1,ob,Qh,rd1⟩;have ne:∀b o,H1 b=some o->b∉α1->b≠a1:=λb o L hb z=>hb (z▸Xp ha1);refine Qd2 rs1 R2 Qh rd1 ef λα3 σ3 H3 E3 R3 rs3=>?_;have z3:=E3.fz a1 ob (.dK kv1) Qh;have ha3:=E3.pre n a1 ha1;obtain⟨kv3,ob3,hH3,rd3⟩:=R3.h.ob n a1 _ ha3 hk2;rw[z3]at hH3;cases hH3;have R4:Rep T A X.K α3 (h2.set n (.dic kvs')) (upd H3 a1 (.dK kv1)):=R3.put0 ha3 ⟨kv1,Qh,rd3⟩
     have E4:Ext α1 α3 H1 (upd H3 a1 (.dK kv1)):=by
      refine⟨E3.pre,λk b e l=>?_,λb o e hb=>?_,λb o kv e=>?_,λb o e=>?_⟩
      ·have hn:=E3.new k b e l
       have hb:b≠a1:=λz=>by
        rw[z,Qh]at hn
        rcases hn with q|⟨_,q⟩<;>cases q
       rw[Qc hb]at hn;exact hn
      ·have hb':=ne b o e hb;rw[Qc hb']
       exact E3.keep b o (by rw[Qc hb'];exact e) hb
      ·have hb':b≠a1:=λz=>by rw[z,hH1]at e;cases e
       rw[Qc hb']
       exact E3.fz b o kv (by rw[Qc hb'];exact e)
      ·by_cases hb':b=a1
       ·subst hb';rw[hH1]at e;cases e;exact⟨_,Qh,λL=>Tu⟩
       ·obtain⟨o',q1,q2⟩:=E3.tr b o (by rw[Qc hb'];exact e)
        exact⟨o',by rw[Qc hb'];exact q1,q2⟩
     have fin:=q α3 σ3 _ (E1.trans E4 R4.h) R4 rs3
     cases fl with
     |next=>exact⟨ob,kv1,z3,fin⟩
     |brk=>exact⟨ob,kv1,z3,fin⟩
     |cont=>exact⟨ob,kv1,z3,fin⟩
     |ret u=>exact λv rv=>⟨ob,kv1,z3,fin v rv⟩
    ·cases e
   split at h
   case isFalse=>cases h
   rename_i ok;simp only[Xc]at h;obtain⟨a',ha,h⟩:=h;cases h
   refine Yr (Qf1 (by rw[g.xe];exact PassesOwn.never) bX.cm (S2.w d it _ tg hi (Qjz ht ok)) (QoV bX.cm g fl ht) (SS.ss d a a' ha) (QbV hi)) ?_
   rintro D Y H ⟨α,Z,hs,fl,ρ',hs',rs,R,e,q⟩;simp only[ex]at e;obtain⟨w,h1,e1,e⟩:=Qd e;refine⟨α,Z,hs,w,h1,rs,R,e1,λα1 J H1 E1 R1 W1=>?_⟩;exact Qfy rfl g.txt (rs.mono E1.pre) R1 W1 e λα2 σ2 H2 E2 R2 rs2=>q α2 σ2 H2 (E1.trans E2 R2.h) R2 rs2
 |Assign ts e p=>
  unfold Yp at h;try dsimp only at h;split at h
  ·rename_i x ht;obtain⟨px,rfl⟩:=QiS ht;split at h
   case isFalse=>cases h
   rename_i hl;simp only[Xc]at h;obtain⟨i,hi,e',he,h⟩:=h;cases h
   have fin:∀e' D Y H,TIS T A X.K (ex T cf (d+1) (.set i e')) D Y H->TI T A X.K (ev T cf d e') Y H λv H1=>D.nx (Y.set i (some v)) H1:=by
    intro e';rintro D Y H ⟨α,Z,hs,fl,ρ',hs',rs,R,e,q⟩;simp only[ex]at e;obtain⟨u,h1,e1,e⟩:=Qd e;cases e;exact TI.run rs R e1 λα1 x H1 E1 R1 r1 rs1=>q α1 _ H1 E1 R1 (rs1.set i r1)
   by_cases hc:∃elt gens scope q,e=.ListComp elt gens scope q
   ·obtain⟨elt,gens,scope,pc,rfl⟩:=hc;obtain⟨tg,iter,tl,xs,n,wi,gg,tt,te,rfl,ok,hi',hn',hg',ht',he',hf,imp⟩:=S2.c d elt gens scope pc e' he;intro pins s Y H D I hq
    rcases imp Y H _ I.len (fin _ D Y H hq)with w|⟨a,kv,ha,w⟩
    ·exact Qdn bX.cm g.nd ok hi' hn' hg' ht' he' hf (by rw[g.N];exact Zz hi) (QaA g hl) (fl x) pins s Y H D I w
    ·exact Qdm (Qdn bX.cm g.nd ok hi' hn' hg' ht' he' hf (by rw[g.N];exact Zz hi) (QaA g hl) (fl x)) pins s Y H D I ⟨a,kv,ha,w⟩
   ·exact Yr (Qf0 (i:=i) g.nd (by rw[g.N];exact Zz hi) (QaA g hl) (S.e d e e' he) (Qgb he λelt gens scope q z=>hc ⟨elt,gens,scope,q,z⟩) (fl x)) (fin _)
  ·rename_i o f ht;obtain⟨pa,rfl⟩:=QiT ht;split at h
   case isFalse=>cases h
   rename_i hn;simp only[Xc]at h;obtain⟨e',he,o',ho,i,hi,h⟩:=h;cases h
   have hk':T.fns'[i]?=some f:=by rw[<-g.CT];exact Zz hi
   refine Yr (Qkm (S.e d o o' ho) (S.e d e e' he) (QhY he)) ?_;rintro D Y H ⟨α,Z,hs,fl,ρ',hs',rs,R,e,q⟩;simp only[ex]at e;obtain⟨u,h1,e1,e⟩:=Qd e;obtain⟨u2,h2,e2,e⟩:=Qd e;refine TI.run rs R e1 λα1 x H1 E1 R1 r1 rs1=>TI.run rs1 R1 e2 λα2 y H2 E2 R2 r2 rs2=>?_;split at e
   case h_2=>cases e
   rename_i n;split at e
   case h_2=>cases e
   rename_i c fs eo;split at e
   case isFalse=>cases e
   rename_i l;cases e;obtain⟨a,ha,rfl⟩:=r2;obtain⟨dx,fv,q1,rf,lc⟩:=R2.h.ob n a _ ha eo;have cl:=g.txt.cl c _ (Xk lc)
   refine⟨a,A.c c,dx,fv,rfl,q1,cl.cls,cl.nf f (Xp hk'),by rw[<-RF.length rf];omega,?_⟩
   obtain⟨R',E'⟩:=R2.put (o:=.ins c (JO i u fs)) (ho:=.ins (A.c c) dx (JP f x fv)) ha ⟨dx,_,Qh,RF.put hk' g.txt.fd (r1.mono E2.pre) rf,lc⟩;exact q α2 Y _ ((E1.trans E2 R2.h).trans E' R'.h) R' rs2
  ·rename_i o i ht;obtain⟨ps,rfl⟩:=QfK ht;split at h
   case isFalse=>cases h
   rename_i nsl;simp only[Xc]at h;obtain⟨e',he,o',ho,i',hi,h⟩:=h;cases h;refine Yr (Qkp (S.e d e e' he) (Qky (S.e d o o' ho) (S.e d i i' hi) (QeW hu) (QcN nsl)) (QhX he) rfl rfl) ?_;rintro D Y H ⟨α,Z,hs,fl,ρ',hs',rs,R,e,q⟩;simp only[ex]at e;obtain⟨u,h1,e1,e⟩:=Qd e;obtain⟨x,h2,e2,e⟩:=Qd e;obtain⟨k,h3,e3,e⟩:=Qd e;simp only[Xb]at e;obtain⟨h4,e4,e⟩:=e;cases e;refine TI.run rs R e1 λα1 v H1 E1 R1 r1 rs1=>TI.run rs1 R1 e2 λα2 y H2 E2 R2 r2 rs2=>TI.run rs2 R2 e3 λα3 z H3 E3 R3 r3 rs3=>?_;unfold QfZ at e4;split at e4
   case h_2=>cases e4
   rename_i n;split at e4
   case h_2=>cases e4
   rename_i oo eo;obtain⟨a,ha,rfl⟩:=r2.mono E3.pre;obtain⟨H',g',R',E'⟩:=Qiz R3 eo ha e4 r3 (r1.mono λn a e=>E3.pre n a (E2.pre n a e));exact⟨a,H',rfl,g',q α3 Y _ (((E1.trans E2 R2.h).trans E3 R3.h).trans E' R'.h) R' rs3⟩
  ·cases h
  ·cases h
  ·cases h
 |_=>exact Znn h
def Ql0{s0 s':S}(hs:Qpm m C st s0=some s')(h:∀d,PS X st (TIS T A X.K (ex T cf d s0)))(d:Nat):PS X st (TIS T A X.K (ex T cf d s')):=by
 cases hs;exact h d
def Qhe(SS:SndS T A C X cf m)(d:Nat)(sts:List Stmt)(irs:List S)(h:compSs (m+1) C sts=some irs):PSs X sts (TIS T A X.K (exs T cf d irs)):=by
 cases d with
 |zero=>exact QfL QkX
 |succ d=>
  cases sts with
  |nil=>
   cases h
   exact Qgw Qht λD Y H z=>by obtain⟨α,Z,hs,fl,ρ',hs',rs,R,e,q⟩:=z;cases e;exact q α Y H Ext.refl R rs
  |cons st r=>
   simp only[compSs,Xc]at h;obtain⟨s',hs,r',hr,h⟩:=h;cases h;refine Qgw (Qe4 (Ql0 hs (λd=>SS.sB d st) d) (SS.ss d r r' hr)) ?_;rintro D Y H ⟨α,Z,hs,fl,ρ',hs',rs,R,e,q⟩;simp only[exs]at e;split at e
   ·rename_i ρ1 h1 e1;exact TIS.run rs R e1 λα1 σ1 H1 E1 R1 rs1=>TIS.run rs1 R1 e λα2 σ2 H2 E2 R2 rs2=>q α2 σ2 H2 (E1.trans E2 R2.h) R2 rs2
   ·rename_i n1;refine TIS.run rs R e λα1 σ1 H1 E1 R1 rs1=>?_
    cases fl with
    |next=>exact absurd e (n1 _ _)
    |cont=>exact q α1 σ1 H1 E1 R1 rs1
    |brk=>exact q α1 σ1 H1 E1 R1 rs1
    |ret u=>exact q α1 σ1 H1 E1 R1 rs1
theorem QoS(bX:Bd X)(g:GX T A C X)(fl:∀x,X.fn x=true\/X.env.scope.names.lookup x=some .local)(F:Fc X T A cf k)(hr:Room (k+1) X.A):∀m,SndS T A C X cf m
 |0=>⟨λd st ir h=>by first|exact Znn h|simp[Yp]at h,λd sts irs h=>by exact Znn h⟩
 |m+1=>by
  have SS:=QoS bX g fl F hr m;exact⟨QjP bX F (hr.mono (V8 k)) (Qn6 hr) g fl (Qha m g F (λz=>hr) hr.units) SS,Qhe SS⟩
end
end
section
structure Top(T:Tbl)(A:Adr)(K:W.Frag)(mg:Str->Option Value)(gl:List (Str×G))(bl:List Str):Prop where
 txt:Txt T A K mg
 gfn:∀x i,gl.lookup x=some (.fn i)->mg x=some (.ref (A.f i))
 gcl:∀x i,gl.lookup x=some (.cls i)->mg x=some (.ref (A.c i))
 gco:∀x k,gl.lookup x=some (.con k)->mg x=some (.ref (A.k k))
 gtx:∀x t,gl.lookup x=some (.txt t)->∃v w,mg x=some w/\RelV v w/\∀α,RU A α t v
 blt:∀x,¬bl.contains x=false->mg x=none
def Qcb(T:Tbl)(gl:List (Str×G))(bl:List Str):Prop:=∀(i:Nat) (F:Fn),T.fns[i]?=some F->∃m,compSs m ⟨T,F.N,(QT F.st).names,gl,bl,F.lc⟩ (Z7 F.st)=some F.body
section
variable {P:Program}{w:World}{K:W.Frag}{mg:Str->Option Value}{base:Heap}{T:Tbl}{A:Adr}{gl:List (Str×G)}{bl:List Str}
def QbG{α:List Addr}{us:List U}{vs:List V}{N:List Str}{n:Nat}(r:RUs A α us vs)(hn:N.length=n):RS A α (Qmo us n) (L2.start N vs):=by
 unfold Qmo L2.start;have l:=r.length
 refine⟨by simp[l,hn],λi u e=>?_⟩
 by_cases hi:i<us.length
 ·rw[Wi (by simpa using hi),W6]at e
  rw[Wi (by simpa[<-l]using hi),W6]
  cases q:us[i]? with
  |none=>rw[q]at e;cases e
  |some x=>
   rw[q]at e;cases e;obtain⟨v,h1,h2⟩:=r.get q
   exact⟨v,by rw[h1];rfl,h2⟩
 ·rw[X5 (by simpa using Tq hi),Tj]at e
  split at e<;>cases e
def QcK{n:Nat}:∀f us hs r,Qa T n f us hs=some r->∃F,T.fns[f]?=some F/\us.length=F.np:=by
 intro f us hs r h
 cases n with
 |zero=>cases h
 |succ n=>
  simp only[Qa]at h;split at h
  ·cases h
  ·rename_i F e;split at h
   ·rename_i l;exact⟨F,e,l⟩
   ·cases h
def XOk(P:Program)(w:World)(K:W.Frag)(mg:Str->Option Value)(base:Heap)(T:Tbl)(A:Adr)(r:Nat):Prop:=∀f F,T.fns[f]?=some F->∃fd,FnOk P w K mg base (CXw P w) r (A.f f) fd F.ps (spX T A K T.xf f)/\Binds K fd F.ps []/\W.keepIn K (.ref (A.f f))=true
def Qqm(tp:Top T A K mg gl bl)(h:T.xf=λy y y=>none):XOk P w K mg base T A 0:=λf F hF=>by
 obtain⟨fd,fn,b,_⟩:=tp.txt.fn f F hF
 have no:∀vs H Q E,¬spX T A K T.xf f vs H Q E:=λvs H Q E z=>by
  obtain⟨α,us,hs,u,hs',_,_,e,_⟩:=z;rw[h]at e;cases e
 exact⟨fd,⟨λvs H Q E h=>absurd h (no vs H Q E),λA outer s H args us vs Q E y y y y h=>absurd h (no vs H Q E)⟩,b,fn.kp⟩
theorem Qd3{rm:Nat}(tp:Top T A K mg gl bl)(tab:QaW P w T A K)(hb:Qcb T gl bl)(hX:XOk P w K mg base T A rm):∀n f F,T.fns[f]?=some F->∃fd,FnOk P w K mg base CX0 (rm+2*n) (A.f f) fd F.ps (spC T A K (Qa T n) f)/\Binds K fd F.ps []/\W.keepIn K (.ref (A.f f))=true/\FunD K F.name F.qual F.st (A.f f) fd
 |0,f,F,hF=>by
  obtain⟨fd,fn,b,_⟩:=tp.txt.fn f F hF
  have no:∀vs H Q E,¬spC T A K (Qa T 0) f vs H Q E:=λvs H Q E h=>by
   obtain⟨α,us,hs,u,hs',_,_,e,_⟩:=h;cases e
  exact⟨fd,⟨λvs H Q E h=>absurd h (no vs H Q E),λA outer s H args us vs Q E z z z z h=>absurd h (no vs H Q E)⟩,b,fn.kp,fn⟩
 |n+1,f,F,hF=>by
  obtain⟨fd,fn,b,sc,lp,lN⟩:=tp.txt.fn f F hF;obtain⟨m,hm⟩:=hb f F hF;refine⟨fd,?_,b,fn.kp,fn⟩;refine fn.ok (k:=rm+2*n+1) sc (λvs H Q E h=>?_) (λcdv A' outer s H vs Q E hr h=>?_)
  ·obtain⟨α,us,hs,u,hs',r,_,_,⟨F',h1,h2⟩,_⟩:=h;rw[hF]at h1;cases h1;rw[<-r.length,h2,lp]
  ·obtain⟨α,us,hs,u,hs',r,R,e,_,q⟩:=h;refine⟨TIS T A K (exs T (Qa T n) dd F.body),?_,?_⟩
   ·have gx:GX T A ⟨T,F.N,(QT F.st).names,gl,bl,F.lc⟩ (Qgq CX0 P w K mg base F.N F.qual (QT F.st) (A.f f) cdv A' outer s H E).nox :=
     ⟨rfl,rfl,sc.nd,rfl,λz=>rfl,sc.kind,rfl,tp.gfn,tp.gcl,tp.gco,tp.gtx,tp.blt,tp.txt,tab⟩
    have fc:Fc (Qgq CX0 P w K mg base F.N F.qual (QT F.st) (A.f f) cdv A' outer s H E).nox T A (Qa T n) (rm+2*n):=⟨λf' F' h'=>by
     obtain⟨fd',G,b',kp,_⟩:=Qd3 tp tab hb hX n f' F' h'
     exact⟨fd',G,b',kp⟩,QcK,λi D F' hD h'=>by
     obtain⟨fd',G,_,kp,fn'⟩:=Qd3 tp tab hb hX n i F' h';obtain⟨fd2,x,q,st,fn2,dk,hp⟩:=tp.txt.df i D hD;have e:=FunD.same fn2 fn';subst e;rw[(hp F' h').1]at G
     exact⟨fd2,G,kp,dk⟩,λf' F' h'=>by
     obtain⟨fd',G,b',kp⟩:=hX f' F' h'
     exact⟨fd',G.mono (Nat.le_add_right _ _),b',kp⟩⟩
    exact(QoS ⟨rfl,rfl,rfl,rfl⟩ gx (λz=>.inl rfl) fc hr m).ss dd (Z7 F.st) F.body hm
   ·simp only[Qa,hF]at e;split at e
    case isFalse=>cases e
    unfold fin at e;split at e
    ·rename_i u' ρ' h1 e1;cases e;exact TIS.run (QbG r lN) R e1 λα1 σ1 H1 E1 R1 rs1 v rv=>q α1 v H1 E1 R1 rv
    ·rename_i ρ' h1 e1;cases e;exact TIS.run (QbG r lN) R e1 λα1 σ1 H1 E1 R1 rs1=>q α1 .non H1 E1 R1 rfl
    ·cases e
end
end
section
variable {n:Nat}
inductive AllI{α:Type}(P:Nat->α->Prop):Nat->List α->Prop where
 |nil {n:Nat}:AllI P n []
 |cons {n:Nat} {a:α} {r:List α}:P n a->AllI P (n+1) r->AllI P n (a::r)
def AllI.get{α:Type}{P:Nat->α->Prop}{l:List α}(h:AllI P n l)(i:Nat)(a:α)(e:l[i]?=some a):P (n+i) a:=by
 induction h generalizing i with
 |nil=>cases e
 |cons h _ ih=>
  cases i with
  |zero=>cases(show some _=some _ from e);exact h
  |succ i=>have:=ih i e;rw[Nat.add_assoc,T1 1 i]at this;exact this
def AllI.mem{α:Type}{P:α->Prop}{l:List α}(h:AllI (λz a=>P a) n l){a:α}(m:a∈l):P a:=by
 obtain⟨i,e⟩:=Wx m;exact AllI.get h i a e
def AllI.look{κ β:Type}[BEq κ][LawfulBEq κ]{P:κ->β->Prop}{l:List (κ×β)}(h:AllI (λz p=>P p.1 p.2) n l){k:κ}{b:β}(e:l.lookup k=some b):P k b:=AllI.mem (P:=λp=>P p.1 p.2) h (ZU e)
def gvP(A:Adr)(mg:Str->Option Value)(x:Str):G->Prop
 |.fn i=>mg x=some (.ref (A.f i))
 |.cls i=>mg x=some (.ref (A.c i))
 |.con k=>mg x=some (.ref (A.k k))
 |.txt t=>∃v w,mg x=some w/\RelV v w/\∀α,RU A α t v
section
variable {P:Program}{w:World}{K:W.Frag}{mg:Str->Option Value}{base:Heap}{T:Tbl}{A:Adr}{gl:List (Str×G)}{bl:List Str}
def Qpy(A:Adr)(K:W.Frag)(k:Nat)(c:Co):Prop:=match c with
 |Co.tup xs=>∃vs,RUs A [] xs vs/\∀H,SqT K H (A.k k) vs
 |Co.lst xs=>∃vs,RUs A [] xs vs/\∀H,SqL K H (A.k k) vs
 |Co.tab _=>True
def Qjw(fns:AllI (λi (F:Fn)=>∃fd,FunD K F.name F.qual F.st (A.f i) fd/\Binds K fd F.ps []/\FnScope F.N F.ps (QT F.st)/\F.ps.length=F.np/\F.N.length=F.nN) 0 T.fns)
  (cls:AllI (λi C=>ClOk T A K i C) 0 T.cls)
  (fm:(T.fns'.all λx=>!(T.mns.contains x))=true) (fd:T.fns'.Nodup)
  (isi:AllI (λz p=>W.kitOne K (tyW A p.1.1) (tyW A p.1.2)=some p.2) 0 T.isi)
  (co:AllI (Qpy A K) 0 T.cons)
  (dfs:AllI (λz (p:Nat×Df)=>∃fd x q st,FunD K x q st (A.f p.1) fd/\Qi5 A K fd p.2/\∀F,T.fns[p.1]?=some F->F.ps=p.2.ps/\F.np=p.2.np) 0 T.dfl)
  (g:AllI (λz (p:Str×G)=>gvP A mg p.1 p.2) 0 gl)
  (b:AllI (λz x=>mg x=none) 0 bl)
  (er:AllI (λz (_:Nat)=>True) 0 T.ers)
  (es:AllI (λz (p:Nat×Nat)=>W.exmOne K (.ref (A.c p.1)) (.ref (A.c p.2))=some true) 0 T.esb):Top T A K mg gl bl where
 txt:={
  fn:=λi F e=>by simpa using fns.get i F e
  df:=λi D e=>AllI.look (P:=λi (D:Df)=>∃fd x q st,FunD K x q st (A.f i) fd/\Qi5 A K fd D/\∀F,T.fns[i]?=some F->F.ps=D.ps/\F.np=D.np) dfs e
  cl:=λi C e=>by simpa using cls.get i C e
  fm:=λx m n=>by
   have:=Xv.mp fm x m;simp at this;exact this n
  fd:=fd
  isi:=λk t b e=>AllI.look (P:=λ(q:Ty×Ty) b=>W.kitOne K (tyW A q.1) (tyW A q.2)=some b) isi e
  co:=λk c e=>by
   have:=co.get k c e;simp only[W5]at this;exact this
 }
 gfn:=λx i e=>AllI.look (P:=λx (q:G)=>gvP A mg x q) g e
 gcl:=λx i e=>AllI.look (P:=λx (q:G)=>gvP A mg x q) g e
 gco:=λx i e=>AllI.look (P:=λx (q:G)=>gvP A mg x q) g e
 gtx:=λx i e=>AllI.look (P:=λx (q:G)=>gvP A mg x q) g e
 blt:=λx h=>by
  have:bl.contains x=true:=by cases q:bl.contains x with|true=>rfl|false=>exact absurd q h
  exact AllI.mem (P:=λx=>mg x=none) b (by simpa using this)
def Qei(h:AllI (λz (F:Fn)=>compSs 100 ⟨T,F.N,(QT F.st).names,gl,bl,F.lc⟩ (Z7 F.st)=some F.body) 0 T.fns):Qcb T gl bl:=λi F e=>⟨100,h.get i F e⟩
def tv{x:Str}{y:List Nat}{t:Tok}(h:x.cps.toList=y):∃v,RU A [] (.str y) v/\RelV v (.str x t):=by
 subst h;exact⟨.str x,rfl,⟨t,rfl⟩⟩
def tvi{i:Int}{t:Tok}:∃v,RU A [] (.int i 0) v/\RelV v (.int i t):=⟨.int i,⟨i,rfl,Cg.refl i 0⟩,⟨t,rfl⟩⟩
def QeT(K:W.Frag):Sp:=λvs H Q z=>∃(a:Addr) (ns:List Int),vs=[.ref a]/\SqL K H a (ns.map V.int)/\QmC H/\ns.length<=63/\∀H',Q (.bl true) H'
def Abs:U->Int->Prop:=λu i=>∃r m,u=.int r m/\Cg i r m
def Abs.rus{s:List U}{ns:List Int}(h:Paired Abs s ns):RUs A [] s (ns.map V.int):=by
 induction h with
 |nil=>exact .nil
 | @cons _ i _ _ h _ ih=>obtain⟨r,m,e,c⟩:=h;subst e;exact .cons ⟨i,rfl,c⟩ ih
def Qk9{tb:List U->Tbl}{adr:Addr->Adr}{L r:Nat}{F:Fn}{x:Str}{fd:FuncData}(hF:∀s,(tb s).fns[L]?=some F)(hs:∀s,(tb s).scr=s)(hps:F.ps=[x])(hnp:F.np=1)
  (hA:∀a,(adr a).s=a) (hf:∀a,(adr a).f=(adr 0).f)
  (tp:∀s a,Top (tb s) (adr a) K mg gl bl) (tab:∀s a,QaW P w (tb s) (adr a) K) (hb:∀s,Qcb (tb s) gl bl) (hX:∀s a,XOk P w K mg base (tb s) (adr a) r)
  (hfun:FunD K F.name F.qual F.st ((adr 0).f L) fd)
  (comp:∀ns:List Int,ns.length<=63->∃s hs',Paired Abs s ns/\Qa (tb s) n L [.scr] []=some (.bl true,hs')):
  FnOk P w K mg base CX0 (r+2*n) ((adr 0).f L) fd [x] (QeT K):=by
 refine⟨λvs H Q E y=>by obtain⟨a,ns,h,_⟩:=y;rw[h];rfl,λA0 outer s H args us vs Q E hr e0 hbd rel ⟨a,ns,h,hS,hO,hl,q⟩=>?_⟩
 obtain⟨sc,hs',pr,hc⟩:=comp ns hl;obtain⟨fd',G,_,_,hfun'⟩:=Qd3 (base:=base) (tp sc a) (tab sc a) (hb sc) (hX sc a) n L F (hF sc);rw[hf a]at G hfun';have ef:=FunD.same hfun hfun';subst ef;rw[hps]at G;refine G.run A0 outer s H args us vs Q E hr e0 hbd rel ?_;subst h
 refine⟨[],[.scr],[],.bl true,hs',.cons (show V.ref a=V.ref (adr a).s by rw[hA]) .nil,⟨⟨rfl,(λi j a e u=>by simp at e),λn b o e u=>by simp at e⟩,ns.map V.int,by rw[hs];exact Abs.rus pr,?_⟩,hc,⟨F,hF sc,hnp.symm⟩,λα' v H' u u rv=>?_⟩
 ·rw[hA]
  rcases hS with(h|⟨o,h⟩)|h
  ·rcases hO a with z|⟨o,xs,z⟩
   ·rw[h]at z;cases z
   ·rw[h]at z;cases z
  ·exact .inl ⟨o,h⟩
  ·exact .inr h
 ·have:v=.bl true:=rv;subst this;exact q H'
end
end
section
noncomputable def QaJ(K:W.Frag)(a:Addr):FuncData:=match K.lookup a with
 |some o=>(match o.data with
  |.func fd=>fd
  |_=>default)
 |none=>default
noncomputable def fnT(F:Fn)(fd:FuncData):FuncData:=W.fnOf F.name F.qual (Qbs F.st) (Z7 F.st) (QT F.st) fd.defaults fd.kwdefaults fd.doc fd.pyModule fd.annotations fd.code fd.closureTuple
noncomputable def vsN(n:Nat)(v:Nat->Value):List Value:=(List.range n).map v
def QcX(us:List Value):us=vsN us.length λi=>us.getD i .none:=by
 apply List.ext_getElem?;intro i;simp only[vsN,W6,List.getElem?_range',List.getD_eq_getElem?_getD];by_cases h:i<us.length
 ·rw[List.getElem?_range h];simp[Xk h]
 ·rw[W3 (Tq h),W3 (by simpa using Tq h)];rfl
noncomputable def scB(F:Fn)(sc:Scope):Bool:=decide (sc.kind=.function)&&(!sc.isCoroutine&&(!sc.isGenerator&&(decide F.N.Nodup&&(decide (F.N.take F.ps.length=F.ps)&&(F.ps.all (λx=>decide (sc.names.lookup x=some .local)||decide (sc.names.lookup x=some .cell))&&(sc.names.all (λy=>decide (y.2≠.free))&&(decide (F.ps.length=F.np)&&decide (F.N.length=F.nN))))))))
noncomputable def fnB(K:W.Frag)(F:Fn)(a:Addr):Bool:=W.fnIn K a&&(W.codeIn K (QaJ K a).code F.qual&&scB F (QT F.st))
section
variable {P:Program}{w:World}{K:W.Frag}{mg:Str->Option Value}{h:Heap}{T:Tbl}{A:Adr}{gl:List (Str×G)}{bl:List Str}{F:Fn}{a:Addr}
def JU(h1:QaJ K a=fnT F (QaJ K a))(h2:fnB K F a=true):FunD K F.name F.qual F.st a (QaJ K a)/\FnScope F.N F.ps (QT F.st)/\F.ps.length=F.np/\F.N.length=F.nN:=by
 obtain⟨i,c,s⟩:_/\_/\_:=by simpa only[fnB,Xl]using h2
 obtain⟨s1,s2,s3,s4,s5,s6,s7,s8,s9⟩:_/\_/\_/\_/\_/\_/\_/\_/\_:=by simpa only[scB,Xl,Xw,Uv]using s
 have z:∃oc od sl,K.lookup a=some ⟨oc,od,.func (QaJ K a),sl⟩:=by
  unfold W.fnIn at i;split at i
  ·rename_i oc od fd sl e
   exact⟨oc,od,sl,by rw[e];simp[QaJ,e]⟩
  ·cases i
 obtain⟨oc,od,sl,e⟩:=z
 refine⟨⟨⟨oc,od,_,_,_,_,_,_,_,sl,h1,e,c⟩,by simp only[W.keepIn,e]⟩,⟨s1,s2,s3,s4,s5,λx m=>?_,λy m=>?_⟩,s8,s9⟩
 ·simpa using Xv.mp s6 x m
 ·simpa using Xv.mp s7 y m
def QfH(n:F.ps.length=F.np)(h3:∀v,bindArgs (QaJ K a) ⟨vsN F.np v,[]⟩=pure (F.ps.zip (vsN F.np v))):Binds K (QaJ K a) F.ps []:=.all λus l=>by
 have:=h3 λi=>us.getD i .none;rwa [<-n,<-l,<-QcX]at this
def Yq{fd:FuncData}{ps:List Str}{ds:List Value}{m:Nat}(n:ps.length=m+ds.length)(h:∀(s:Shared) (v:Nat->Value),K.In s.heap->BindsTo s fd ⟨vsN m v,[]⟩ (ps.zip (vsN m v++ds))):Binds K fd ps ds:=λs us X l=>by
 have e:us.length=m:=by rw[Xn]at l;omega
 have:=h s (λi=>us.getD i .none) X;rwa [<-e,<-QcX]at this
def QfJ{fd fd':FuncData}{ps:List Str}{ds:List Value}(e:fd=fd')(h:Binds K fd' ps ds):Binds K fd ps ds:=e▸h
noncomputable def Qi4{α:Type}(f:Nat->α->Bool):Nat->List α->Bool
 |_,[]=>true
 |n,a::r=>f n a&&Qi4 f (n+1) r
theorem YL{α:Type}{f:Nat->α->Bool}{Q:Nat->α->Prop}(q:∀n a,f n a=true->Q n a):∀{n:Nat} {l:List α},Qi4 f n l=true->AllI Q n l
 |_,[],_=>.nil
 |_,_::_,e=>.cons (q _ _ (Vr.mp e).1) (YL q (Vr.mp e).2)
def AllI.imp{α:Type}{Q R:Nat->α->Prop}(q:∀n a,Q n a->R n a){n:Nat}{l:List α}(h:AllI Q n l):AllI R n l:=by
 induction h with
 |nil=>exact .nil
 |cons e _ ih=>exact .cons (q _ _ e) ih
noncomputable def bi(x:String):Option (Option Value):=some (some (.builtin x))
noncomputable def clB(K:W.Frag)(T:Tbl)(A:Adr)(i:Nat)(C:Cl):Bool:=W.plainGet K (A.c i) Str.empty&&(W.hasDictIn K (A.c i)&&(W.plainOver K (A.c i)&&(W.findIn K (.ref (A.c i)) "__setattr__"==bi "object.__setattr__"&&(T.fns'.all (λx=>W.findIn K (.ref (A.c i)) x==some none) &&
 (C.meths.all (λp=>(T.mns[p.1]?).any λx=>W.findIn K (.ref (A.c i)) x==some (some (.ref (A.f p.2)))&&(W.isFn K (.ref (A.f p.2))&&W.keepIn K (.ref (A.f p.2)))) &&
 (W.makesIn K (A.c i)&&(W.keepIn K (.ref (A.c i))&&((match C.init with
  |some f=>W.findIn K (.ref (A.c i)) "__init__"==some (some (.ref (A.f f)))&&W.isFn K (.ref (A.f f))
  |none=>W.findIn K (.ref (A.c i)) "__init__"==bi "object.__init__")&&(W.findIn K (.ref (A.c i)) "__class__"==bi "object.__class__"&&W.mroIn K (A.c i) (.type "object")==some true)))))))))
noncomputable def obB(K:W.Frag):Bool:=W.specialIn K (.builtin "object.__class__") "__get__"==bi "getset_descriptor.__get__"&&W.takesIn K (.builtin "object.__class__")==some true
def Qop{i:Nat}{C:Cl}(o:obB K=true)(e:clB K T A i C=true):ClOk T A K i C:=by
 obtain⟨o1,o2⟩:_/\_:=by simpa only[obB,bi,Xl,Ww]using o
 obtain⟨e1,e2,e3,e4,e5,e6,e7,e8,e9,e10,e11⟩:_/\_/\_/\_/\_/\_/\_/\_/\_/\_/\_:=by simpa only[clB,bi,Xl,Ww]using e
 have c:Cls K (A.c i):=⟨e1,e2,e3,e4⟩;refine⟨c,λx m=>Ww.mp (Xv.mp e5 x m),λm f q=>?_,e7,e8,?_,λH a dx fs e=>.ins e c e10 o1 o2 e11⟩
 ·obtain⟨x,h1,h2⟩:=Option.any_eq_true _ _ |>.mp (Xv.mp e6 _ (ZU q))
  obtain⟨h2,h3,h4⟩:_/\_/\_:=by simpa only[Xl,Ww]using h2
  exact⟨x,h1,h2,h3,h4⟩
 ·revert e9
  cases C.init with
  |none=>exact λe=>by simpa using e
  |some f=>exact λe=>by simpa using e
noncomputable def vB(A:Adr):U->Value->Bool
 |.str x,.str s _=>s.cps.toList==x
 |.int i 0,.int j _=>decide (i=j)
 |_,_=>false
def Qjo{u:U}{v:Value}(e:vB A u v=true):∃z,RU A [] u z/\RelV z v:=by
 unfold vB at e;split at e
 ·exact tv (Ww.mp e)
 ·have:=Vt e;subst this;exact tvi
 ·cases e
noncomputable def vsB(A:Adr):List U->List Value->Bool
 |[],[]=>true
 |u::us,v::vs=>vB A u v&&vsB A us vs
 |_,_=>false
theorem JF:∀{us:List U} {vs:List Value},vsB A us vs=true->∃zs,RUs A [] us zs/\Vals zs vs
 |[],[],_=>⟨[],.nil,.nil⟩
 |_::_,_::_,e=>by
  obtain⟨z,r1,r2⟩:=Qjo (Vr.mp e).1;obtain⟨zs,h1,h2⟩:=JF (Vr.mp e).2;exact⟨z::zs,.cons r1 h1,.cons r2 h2⟩
 |[],_::_,e=>nomatch e
 |_::_,[],e=>nomatch e
noncomputable def Qmn(K:W.Frag)(t:String)(a:Addr):Option (List Value):=match K.lookup a with
 |some o=>if o.cls=.type t/\o.dict=none then(match o.data with
  |.seq its _=>if its.size<=sizeLine then some its.toList else none
  |_=>none)else none
 |none=>none
noncomputable def Qi2(K:W.Frag)(a:Addr):List DictEntry:=match K.lookup a with
 |some o=>(match o.data with
  |.dict es _=>es.toList
  |_=>[])
 |none=>[]
noncomputable def Qi1:Value->Key
 |.str s _=>.inr s
 |.int i _=>.inl i
 |_=>.inl 0
noncomputable def QnW:Value->Bool
 |.str _ _=>true
 |.int _ _=>true
 |_=>false
def QdR:∀{v:Value},QnW v=true->QaE (Qi1 v) v=true
 |.str s t,_=>QaC s t
 |.int i t,_=>QaD i t
noncomputable def keB:U->Key->Bool
 |.int i 0,.inl j=>decide (i=j)
 |.str x,.inr s=>s.cps.toList==x
 |_,_=>false
def Qlj{u:U}{k:Key}(e:keB u k=true):Qfp u k:=by
 unfold keB at e;split at e
 ·exact congrArg Sum.inl (Vt e).symm
 ·rename_i s;have:=Ww.mp e;subst this;rfl
 ·cases e
noncomputable def kvB(A:Adr):List (U×U)->List DictEntry->Bool
 |[],[]=>true
 |p::ps,e::es=>QnW e.key&&(keB p.1 (Qi1 e.key)&&(vB A p.2 e.val&&kvB A ps es))
 |_,_=>false
noncomputable def exB(K:W.Frag)(a:Addr):Bool:=match K.lookup a with
 |some o=>decide (o.cls=.type "dict")&&(decide (o.dict=none)&&decide (o.slots=#[]))&&(match o.data with
  |.dict _ _=>true
  |_=>false)
 |none=>false
noncomputable def coB(K:W.Frag)(A:Adr)(a:Addr)(c:Co):Bool:=match c with
 |.tup xs=>(Qmn K "tuple" a).any (vsB A xs)
 |.lst xs=>(Qmn K "list" a).any (vsB A xs)
 |.tab kvs=>exB K a&&(kvB A kvs (Qi2 K a)&&(decide (((Qi2 K a).map λe=>Qi1 e.key).Nodup)&&!(a==sysModules)))
abbrev QoH(K:W.Frag)(w:World)(a:Addr):Prop:=(Qi2 K a).map (·.hash)=(Qi2 K a).map λe=>Qpa w (Qi1 e.key)
def Qal{t:String}{xs:List U}(e:(Qmn K t a).any (vsB A xs)=true):∃(o:Obj) (its:Array Value) (n:Nat),K.lookup a=some o/\o.cls=.type t/\o.dict=none/\o.data=.seq its n/\its.size<=sizeLine/\vsB A xs its.toList=true:=by
 unfold Qmn at e
 cases ho:K.lookup a with
 |none=>rw[ho]at e;cases e
 |some o=>
  simp only[ho]at e;split at e
  ·rename_i hc;split at e
   ·rename_i its n hd;split at e
    ·rename_i hz;exact⟨o,its,n,rfl,hc.1,hc.2,hd,hz,e⟩
    ·cases e
   ·cases e
  ·cases e
theorem Qge:∀{kvs:List (U×U)} {es:List DictEntry},kvB A kvs es=true->(∀e∈es,QnW e.key=true)/\Paired (λ(p:U×U) (q:Key×Value)=>Qfp p.1 q.1/\∃v,RU A [] p.2 v/\RelV v q.2) kvs (es.map λe=>(Qi1 e.key,e.val))/\Pairs (QK P w) es (es.map λe=>(Qi1 e.key,e.val))
 |[],[],_=>⟨(λe m=>nomatch m),.nil,.nil⟩
 |_::_,_::_,z=>by
  obtain⟨h1,h2,h3,h4⟩:_/\_/\_/\_:=by simpa only[kvB,Xl]using z
  obtain⟨i1,i2,i3⟩:=Qge h4;refine⟨λe m=>?_,.cons ⟨Qlj h2,Qjo h3⟩ i2,.cons (QdR h1) rfl i3⟩
  rcases Xd.mp m with rfl|m
  ·exact h1
  ·exact i1 e m
 |[],_::_,e=>nomatch e
 |_::_,[],e=>nomatch e
def Qon{k:Nat}{c:Co}(e:coB K A (A.k k) c=true):Qpy A K k c:=by
 cases c with
 |tup xs=>
  obtain⟨o,its,n,h1,h2,_,h3,h4,h5⟩:=Qal e;obtain⟨vs,g1,g2⟩:=JF h5;exact⟨vs,g1,λH=>.inr ⟨o,its,n,h1,h2,h3,h4,g2⟩⟩
 |lst xs=>
  obtain⟨o,its,n,h1,h2,h0,h3,h4,h5⟩:=Qal e;obtain⟨vs,g1,g2⟩:=JF h5;exact⟨vs,g1,λH=>.inr ⟨o,its,n,h1,h2,h0,h3,h4,g2⟩⟩
 |tab=>trivial
theorem Jt{α β:Type}{f g:α->β}:∀{l:List α},l.map f=l.map g->∀a∈l,f a=g a
 |[],_,a,m=>by cases m
 |x::r,e,a,m=>by
  obtain⟨e1,e2⟩:=List.cons.inj e
  rcases Xd.mp m with rfl|m
  ·exact e1
  ·exact Jt e2 a m
def QjB(co:Qi4 (λk c=>coB K A (A.k k) c) 0 T.cons=true)(hs:AllI (λk z=>QoH K w (A.k k)) 0 T.cons):QaW P w T A K:=λk kvs e=>by
 have c:=(YL (Q:=λk c=>coB K A (A.k k) c=true) (λz z q=>q) co).get k _ e;have hh:=hs.get k _ e;simp only[W5]at c hh
 obtain⟨c1,c2,c3,c4⟩:_/\_/\_/\_:=by simpa only[coB,Xl]using c
 obtain⟨k1,k2,k3⟩:=Qge (P:=P) (w:=w) c2
 refine⟨_,by simpa using c4,?_,k2⟩
 unfold exB at c1
 cases ho:K.lookup (A.k k)with
 |none=>rw[ho]at c1;cases c1
 |some o=>
  simp only[ho]at c1;obtain⟨d1,d2⟩:=Vr.mp c1;split at d2
  ·rename_i es n hd
   obtain⟨x1,x2,x3⟩:_/\_/\_:=by simpa only[Xl,Xw]using d1
   have de:Qi2 K (A.k k)=es.toList:=by simp[Qi2,ho,hd]
   unfold QoH at hh;rw[de]at hh k1 k2 k3 c3 ⊢
   exact λh X=>⟨o,es,n,X _ _ ho,⟨x1,x2,x3⟩,hd,λe m=>⟨_,QdR (k1 e (by simpa using m)),Jt hh e (by simpa using m)⟩,k3,by rw[U0];exact Vt c3⟩
  ·cases d2
noncomputable def glB(K:W.Frag)(A:Adr)(p:Str×G):Bool:=match p.2 with
 |.fn i=>W.nsIn K mainGlobals p.1==some (some (.ref (A.f i)))
 |.cls i=>W.nsIn K mainGlobals p.1==some (some (.ref (A.c i)))
 |.con i=>W.nsIn K mainGlobals p.1==some (some (.ref (A.k i)))
 |.txt t=>(match W.nsIn K mainGlobals p.1 with
  |some (some (.str s _))=>t==.str s.cps.toList
  |some (some (.int i _))=>t==.int i 0
  |_=>false)
def Qoa(X:K.In h)(G:h.Ns mainGlobals mg){p:Str×Iv.G}(e:glB K A p=true):gvP A mg p.1 p.2:=by
 obtain⟨x,g⟩:=p
 cases g with
 |fn i=>exact W.mg_of X G (by simpa[glB]using e)
 |cls i=>exact W.mg_of X G (by simpa[glB]using e)
 |con i=>exact W.mg_of X G (by simpa[glB]using e)
 |txt t=>
  simp only[glB]at e;split at e
  ·rename_i s k q;cases Ww.mp e;exact⟨.str s,_,W.mg_of X G q,⟨k,rfl⟩,λz=>rfl⟩
  ·rename_i i k q;cases Ww.mp e;exact⟨.int i,_,W.mg_of X G q,⟨k,rfl⟩,λz=>⟨i,rfl,Cg.refl _ _⟩⟩
  ·cases e
noncomputable def QmR(K:W.Frag)(T:Tbl)(A:Adr)(gl:List (Str×G))(bl:List Str):Bool:=obB K&&(Qi4 (clB K T A) 0 T.cls&&(T.fns'.all (λx=>!(T.mns.contains x))&&(decide T.fns'.Nodup&&(T.isi.all (λp=>W.kitOne K (tyW A p.1.1) (tyW A p.1.2)==some p.2)&&(gl.all (glB K A)&&(bl.all (λx=>W.nsIn K mainGlobals x==some none)&&T.esb.all (λp=>W.exmOne K (.ref (A.c p.1)) (.ref (A.c p.2))==some true)))))))
abbrev FnA(K:W.Frag)(A:Adr)(i:Nat)(F:Fn):Prop:=QaJ K (A.f i)=fnT F (QaJ K (A.f i))/\fnB K F (A.f i)=true/\((∀v,bindArgs (QaJ K (A.f i)) ⟨vsN F.np v,[]⟩=pure (F.ps.zip (vsN F.np v)))\/Binds K (QaJ K (A.f i)) F.ps [])
theorem Ja{α:Type}{Q:α->Prop}:∀{l:List α} {n:Nat},(∀a∈l,Q a)->AllI (λz a=>Q a) n l
 |[],_,_=>.nil
 |_::_,_,q=>.cons (q _ Xm) (Ja λa m=>q a (Xi _ m))
def FnA.at{i:Nat}(q:FnA K A i F):∃fd,FunD K F.name F.qual F.st (A.f i) fd/\Binds K fd F.ps []/\FnScope F.N F.ps (QT F.st)/\F.ps.length=F.np/\F.N.length=F.nN:=by
 obtain⟨d,s,l,n⟩:=JU q.1 q.2.1;exact⟨_,d,q.2.2.elim (QfH l) id,s,l,n⟩
def Qjx(X:K.In h)(G:h.Ns mainGlobals mg)(fns:AllI (FnA K A) 0 T.fns)(co:Qi4 (λk c=>coB K A (A.k k) c) 0 T.cons=true)(b:QmR K T A gl bl=true)
  (dfs:AllI (λz (p:Nat×Df)=>∃fd x q st,FunD K x q st (A.f p.1) fd/\Qi5 A K fd p.2/\∀F,T.fns[p.1]?=some F->F.ps=p.2.ps/\F.np=p.2.np) 0 T.dfl)
  (er:AllI (λz (_:Nat)=>True) 0 T.ers):Top T A K mg gl bl:=by
 obtain⟨b1,b2,b3,b4,b5,b6,b7,b8⟩:_/\_/\_/\_/\_/\_/\_/\_:=by simpa only[QmR,Xl]using b
 exact Qjw (fns.imp λz z q=>q.at) (YL (λz z e=>Qop b1 e) b2) b3 (Vt b4) (Ja λp m=>by simpa using Xv.mp b5 p m) (YL (λz z e=>Qon e) co) dfs
  (Ja λp m=>Qoa X G (Xv.mp b6 p m)) (Ja λx m=>W.mg_none_of X G (by simpa using Xv.mp b7 x m)) er (Ja λp m=>by simpa using Xv.mp b8 p m)
end
end
end Iv
namespace Iv
open PySem
variable {a b e:E}{es:List E}{i:Nat}
section
variable {T:Tbl}{cf:Cf}{d:Nat}{Z:Rho}{hs h1:Hs}{α β:Type}
def Qm{a:α}{f:α->Hs->Option β}:bd (some (a,h1)) f=f a h1:=rfl
def QI:exs T cf (d+1) [] Z hs=some (.next,Z,hs):=rfl
def Qj{s:S}{r:List S}:exs T cf (d+1) (s::r) Z hs=(match ex T cf d s Z hs with
   |some (.next,ρ1,h1)=>exs T cf d r ρ1 h1
   |x=>x):=rfl
def Qo:ex T cf (d+1) (.expr e) Z hs=bd (ev T cf d e Z hs) λz h1=>some (.next,Z,h1):=rfl
def QG:ex T cf (d+1) (.set i e) Z hs=bd (ev T cf d e Z hs) λu h1=>some (.next,Z.set i (some u),h1):=rfl
def Qy:ex T cf (d+1) (.ret e) Z hs=bd (ev T cf d e Z hs) λu h1=>some (.ret u,Z,h1):=rfl
def QC{t:E}{a b:List S}:ex T cf (d+1) (.ite t a b) Z hs=bd (evT T cf d t Z hs) λc h1=>if c=true then exs T cf d a Z h1 else exs T cf d b Z h1:=by
 rw[ex]
 cases h:evT T cf d t Z hs with
 |none=>rfl
 |some p=>obtain⟨c,h1⟩:=p;cases c<;>rfl
def Qja{t:Tg}{s:Src}{body:List S}:ex T cf (d+1) (.loop t s body) Z hs=bd (Zl T (ev T cf d) Z s hs) λw h1=>QaH T w t (exs T cf d body) (Zn T w h1) 0 Z h1:=rfl
def Qi9{o i:E}:ex T cf (d+1) (.put o i e) Z hs=bd (ev T cf d e Z hs) λu h1=>bd (ev T cf d o Z h1) λx h2=>bd (ev T cf d i Z h2) λk h3=>(QfZ x k u h3).map λh4=>(.next,Z,h4):=rfl
def y_c{u:U}:ev T cf (d+1) (.c u) Z hs=some (u,hs):=rfl
def Q6{k:Nat}:ev T cf (d+1) (.con k) Z hs=some (.con k,hs):=rfl
def QH:ev T cf (d+1) (.var i) Z hs=(match Z[i]? with|some (some u)=>some (u,hs)|_=>none):=rfl
def Zs{o:Operator}:ev T cf (d+1) (.op o a b) Z hs=bd (ev T cf d a Z hs) λu h1=>bd (ev T cf d b Z h1) λw h2=>opU o u w h2:=rfl
def QO:ev T cf (d+1) (.neg a) Z hs=bd (ev T cf d a Z hs) λu h1=>(match u with|.int i m=>some (.int (-i) m,h1)|_=>none):=rfl
def QN{o:CmpOp}:ev T cf (d+1) (.cmp o a b) Z hs=bd (ev T cf d a Z hs) λu h1=>bd (ev T cf d b Z h1) λw h2=>(Q0 T o u w h2).map λc=>(.bl c,h2):=rfl
def Q5:ev T cf (d+1) (.not a) Z hs=bd (ev T cf d a Z hs) λu h1=>(Zo T u h1).map λc=>(.bl (!c),h1):=rfl
def QV{t:E}:ev T cf (d+1) (.ife t a b) Z hs=bd (evT T cf d t Z hs) λc h1=>if c=true then ev T cf d a Z h1 else ev T cf d b Z h1:=rfl
def Qx:ev T cf (d+1) (.tup es) Z hs=bd (evs (ev T cf d) Z es hs) λus h1=>some (.ref h1.length,h1++[.tup us]):=rfl
def Qw:ev T cf (d+1) (.lst es) Z hs=bd (evs (ev T cf d) Z es hs) λus h1=>some (.ref h1.length,h1++[.lst us]):=rfl
def ZQ:ev T cf (d+1) (.ix a b) Z hs=bd (ev T cf d a Z hs) λu h1=>bd (ev T cf d b Z h1) λw h2=>(QX T u w h2).map λx=>(x,h2):=rfl
def QmD{lo hi:Option E}:ev T cf (d+1) (.sl a lo hi) Z hs=bd (ev T cf d a Z hs) λu h1=>bd (evO (ev T cf d) Z lo h1) λl h2=>bd (evO (ev T cf d) Z hi h2) λr h3=>slU T u l r h3:=rfl
def Qt{f:Nat}:ev T cf (d+1) (.call f es) Z hs=bd (evs (ev T cf d) Z es hs) λus h1=>cf f us h1:=rfl
def ZR{b:Bi}:ev T cf (d+1) (.bi b es) Z hs=bd (evs (ev T cf d) Z es hs) λus h1=>biU T b us h1:=rfl
def Q1{t:Ty}:ev T cf (d+1) (.isi a t) Z hs=bd (ev T cf d a Z hs) λu h1=>(Qeu T t u h1).map λb=>(.bl b,h1):=rfl
def ZC{b:Bm}{o:E}:ev T cf (d+1) (.bm b o es) Z hs=bd (ev T cf d o Z hs) λu h1=>if Qa8 b u h1=true then bd (evs (ev T cf d) Z es h1) λus h2=>bmU T b u us h2 else none:=rfl
def Qjb{s:Src}{b:Bool}{t:Option E}{el:E}:ev T cf (d+1) (.comp s b t el) Z hs=bd (Zl T (ev T cf d) Z s hs) λw h1=>bd (Yo T (ev T cf d) (Qaf (evT T cf d) t) w b el Z (Zn T w h1) 0 [] h1) λus h2=>some (.ref h2.length,h2++[.lst us]):=rfl
def Q7:ev T cf (d+1) (.and a b) Z hs=bd (ev T cf d a Z hs) λu h1=>(match u with|.bl true=>ev T cf d b Z h1|.bl false=>some (.bl false,h1)|_=>none):=rfl
def ZX:ev T cf (d+1) (.or a b) Z hs=bd (ev T cf d a Z hs) λu h1=>(match u with|.bl true=>some (.bl true,h1)|.bl false=>ev T cf d b Z h1|_=>none):=rfl
def QmE{o:Operator}:ex T cf (d+1) (.aug i o e) Z hs=(match Z[i]? with
   |some (some u)=>bd (ev T cf d e Z hs) λw h1=>(Qi3 o u w).map λr=>(.next,Z.set i (some r),h1)
   |_=>none):=rfl
def QbB:ev T cf (d+1) .dnew Z hs=some (.ref hs.length,hs++[.dic []]):=rfl
def Qz:evT T cf (d+1) (.not a) Z hs=bd (evT T cf d a Z hs) λc h1=>some (!c,h1):=rfl
def Qu:evT T cf (d+1) (.and a b) Z hs=bd (evT T cf d a Z hs) λc h1=>if c=true then evT T cf d b Z h1 else some (false,h1):=rfl
def Q2:evT T cf (d+1) (.or a b) Z hs=bd (evT T cf d a Z hs) λc h1=>if c=true then some (true,h1)else evT T cf d b Z h1:=rfl
def Qp{o:CmpOp}:evT T cf (d+1) (.cmp o a b) Z hs=bd (ev T cf d (.cmp o a b) Z hs) λu h1=>(Zo T u h1).map λc=>(c,h1):=rfl
def QE:evT T cf (d+1) (.var i) Z hs=bd (ev T cf d (.var i) Z hs) λu h1=>(Zo T u h1).map λc=>(c,h1):=rfl
def QA{t:Ty}:evT T cf (d+1) (.isi a t) Z hs=bd (ev T cf d (.isi a t) Z hs) λu h1=>(Zo T u h1).map λc=>(c,h1):=rfl
def Qi7{f:Ev}{i j c:Int}(h:evs f Z es hs=some ([.int i 0,.int j 0,.int c 0],h1))(c1:(Qq (i*16)&&Qq (j*16)&&decide (0<c)&&decide (c<1073741824))=true):Zl T f Z (.rngA es) hs=some (.rngC i c (Qdk i j c),h1):=by
 simp only[Zl,h,Qm,c1,Wo]
def Qe{n f:Nat}{us:List U}(F:Fn)(hF:T.fns[f]?=some F)(hl:us.length=F.np):Qa T (n+1) f us hs=fin (exs T (Qa T n) dd F.body (Qmo us F.nN) hs):=by simp[Qa,hF,hl]
end
end Iv
namespace K60
open PySem Iv L2
variable {cf:Cf}{C:Cl}{e el t:E}{Q:Fl->Rho->Hs->Prop}{g h h' h0 h1 h2 h3 h4 hb hs:Hs}{fa j ne x y:Int}{rows:List (List (List Nat))}{ks ms row:List (List Nat)}{mvs:List (List U)}{kvs:List (U×U)}{es:List E}{m:List Nat}{kl:List Nat->Nat}{body:List S}{L ns s us vs xs ys:List U}{D F R a b c co d e' f given i l left lies n nm p pd q r:Nat}{o:O}{x0 x1 x2 x3 x4 x5 x7 x8:Option U}{Z ρ':Rho}{st:S}{src:Src}{T:Tbl}{α β:Type}{u v w:U}
noncomputable abbrev Va:E:=.var 0
noncomputable abbrev Vb:E:=.var 1
noncomputable abbrev Vc:E:=.var 2
noncomputable abbrev Vd:E:=.var 3
noncomputable abbrev Ve:E:=.var 4
noncomputable abbrev Vf:E:=.var 5
noncomputable abbrev Vg:E:=.var 6
noncomputable abbrev Vh:E:=.var 7
noncomputable abbrev Vi:E:=.var 8
noncomputable abbrev Vj:E:=.var 9
noncomputable abbrev Vk:E:=.var 10
noncomputable abbrev Wa:E:=.c (.int 0 0)
noncomputable abbrev Wb:E:=.c (.int 1 0)
noncomputable abbrev Wc:E:=.c (.int 2 0)
noncomputable abbrev Wd:E:=.c (.int 3 0)
noncomputable abbrev We:E:=.c (.int 4 0)
noncomputable abbrev Wf:E:=.c (.int 5 0)
noncomputable def Qqy:List Str:=["side","many","way","first","second","keeper","front","left","right","rows","kept","off","names","supply","loops","put"]
noncomputable def Qqn:List Str:=["ties","ends","takes","gives","mark","mirrored","turned","work","web","lying_on","refuse_misfit","work_stitch","seen","in_order","make_ready"]
noncomputable def glo:List (Str×G):=([("KEEPERS",.con 0),("SIDE_SIGNS",.con 1),("CROSS_SIGNS",.con 2),("Stitch",.cls 0),("Plain",.cls 1),("Slip",.cls 2),("Over",.cls 3),("Lean",.cls 4),("Grow",.cls 5),("Cross",.cls 6),("Off",.cls 7),("Keep",.cls 8),("Fetch",.cls 9),("Needles",.cls 10),("Course",.cls 11),("new_names",.fn 53),("new_many",.fn 54),("fetches_of",.fn 55),("moves_of",.fn 56),("row_moves",.fn 57)]:List (Str×G))++([("stitch_moves",.fn 58),("tie_moves",.fn 59),("end_move",.fn 60),("SIDES",.con 3),("CROSS_SIDES",.con 4),("LEAN_WAYS",.con 5),("CROSS_WAYS",.con 6),("MANY",.con 7),("CROSSED",.con 8),("stitch",.fn 61),("stitch_of_text",.fn 62),("bare_stitch",.fn 63),("keeper_stitch",.fn 64),("sided_stitch",.fn 65),("crossing",.fn 66),("_law_cell_at",.fn 67),("_law_mark",.fn 68),("_law_takes",.fn 69),("_law_gives",.fn 70),("_law_row_by",.fn 71)]:List (Str×G))++([("_law_kept",.fn 72),("_law_rows",.fn 73),("_law_tie_moves",.fn 74),("_law_moves",.fn 75),("_law_same",.fn 76),("law",.fn 77)]:List (Str×G))
noncomputable def Qoz:List Str:=["len","int","str","tuple","list","bool","dict","isinstance","range","zip","reversed","enumerate","sum","sorted"]
noncomputable def QqN:List Co:=[.tup [.str [119],.str [120],.str [121],.str [122]],.tab [(.int 1 0,.str [107]),(.int (-1) 0,.str [112])],.tab [(.int 1 0,.str [99]),(.int (-1) 0,.str [113])],.tab [(.str [107],.int 1 0),(.str [112],.int (-1) 0)],.tab [(.str [99],.int 1 0),(.str [113],.int (-1) 0)],.tup [.str [114],.str [108]],.tup [.str [102],.str [98]],.tab [(.str [50],.int 2 0),(.str [51],.int 3 0),(.str [52],.int 4 0)],.tab [(.str [49],.int 1 0),(.str [50],.int 2 0),(.str [51],.int 3 0),(.str [52],.int 4 0)]]
noncomputable def QqP:List Cl:=[⟨"Stitch",none,[(0,0),(1,1)],[0]⟩,⟨"Plain",some 2,[(0,5),(1,1),(2,3),(3,4),(4,6)],[1,0]⟩,⟨"Slip",none,[(0,9),(1,1),(2,7),(3,8),(4,10)],[2,0]⟩,⟨"Over",none,[(0,13),(1,1),(2,11),(3,12),(4,14)],[3,0]⟩,⟨"Lean",some 15,[(0,18),(1,1),(2,16),(3,17),(4,19)],[4,0]⟩,⟨"Grow",some 20,[(0,23),(1,1),(2,21),(3,22),(4,24)],[5,0]⟩,⟨"Cross",some 25,[(0,28),(1,1),(2,26),(3,27),(4,29)],[6,0]⟩,⟨"Off",none,[(0,0),(1,32),(2,30),(3,31),(4,33)],[7,0]⟩,⟨"Keep",some 34,[(0,0),(1,37),(2,35),(3,36),(4,38)],[8,0]⟩,⟨"Fetch",some 39,[(0,42),(1,1),(2,40),(3,41),(4,43)],[9,0]⟩,⟨"Needles",some 44,[(7,45),(9,46),(10,47),(11,48),(12,49),(13,50),(14,51)],[10]⟩,⟨"Course",some 52,[],[11]⟩]
noncomputable def Qqp:List ((Ty×Ty)×Bool):=[]
noncomputable def dflL:List (Nat×Df):=[(44,⟨["self","way","cast","web","names"],5,"names",[.non,.non]⟩),(45,⟨["self","stitches","turn"],3,"turn",[.bl false]⟩)]
noncomputable def QqH:List Str:=[]
noncomputable def QpA:List Str:=[]
noncomputable def QqA:List Nat:=[]
noncomputable def Qqz:List (Nat×Nat):=[]
noncomputable def Qqj:List Nat:=[]
noncomputable def QqF:List (Nat×Nat):=[]
noncomputable def QqG:List Nat:=[]
noncomputable def QqI:List Str:=["fetches","supply"]
noncomputable def b0:List S:=[.ret (.lst [])]
noncomputable def b1:List S:=[.ret (.lst [])]
noncomputable def b2:List S:=[.fld Va 0 Vb]
noncomputable def b3:List S:=[.ret Wb]
noncomputable def b4:List S:=[.ret Wb]
noncomputable def b5:List S:=[.ret (.lst [.tup [.c (.str [110,101,119]),.tup [Wa],.fld Va 0,Wa]])]
noncomputable def b6:List S:=[.ret (.tab 1 (.fld Va 0))]
noncomputable def b7:List S:=[.ret Wb]
noncomputable def b8:List S:=[.ret Wb]
noncomputable def b9:List S:=[.ret (.lst [.tup [.c (.str [115,97,109,101]),Wa]])]
noncomputable def b10:List S:=[.ret (.c (.str [115]))]
noncomputable def b11:List S:=[.ret Wa]
noncomputable def b12:List S:=[.ret Wb]
noncomputable def b13:List S:=[.ret (.lst [.tup [.c (.str [110,101,119]),.tup [],Wa,Wa]])]
noncomputable def b14:List S:=[.ret (.c (.str [111]))]
noncomputable def b15:List S:=[.fld Va 1 Vb,.fld Va 2 Vc,.fld Va 0 Vd]
noncomputable def b16:List S:=[.ret (.fld Va 1)]
noncomputable def b17:List S:=[.ret Wb]
noncomputable def b18:List S:=[.ite (.cmp .Eq (.fld Va 2) (.c (.str [114]))) [.set 1 (.tupR [.op .Sub (.fld Va 1) Wb,.neg Wb,.neg Wb])] [.set 1 (.tupR [.fld Va 1])],.ret (.lst [.tup [.c (.str [110,101,119]),Vb,.fld Va 0,Wa]])]
noncomputable def b19:List S:=[.ret (.op .Add (.op .Add (.tab 1 (.fld Va 0)) (.bi .str [.fld Va 1])) (.fld Va 2))]
noncomputable def b20:List S:=[.fld Va 1 Vb,.fld Va 0 Vc]
noncomputable def b21:List S:=[.ret Wb]
noncomputable def b22:List S:=[.ret (.fld Va 1)]
noncomputable def b23:List S:=[.ret (.comp (.rng (.fld Va 1)) false none (.tup [.c (.str [110,101,119]),.tup [Wa],.ife (.cmp .Eq (.op .Mod Vb Wc) Wa) (.fld Va 0) (.neg (.fld Va 0)),Wa]))]
noncomputable def b24:List S:=[.ret (.op .Add (.op .Add (.tab 1 (.fld Va 0)) (.c (.str [120]))) (.bi .str [.fld Va 1]))]
noncomputable def b25:List S:=[.fld Va 3 Vb,.fld Va 4 Vc,.fld Va 2 Vd,.fld Va 0 Ve]
noncomputable def b26:List S:=[.ret (.op .Add (.fld Va 3) (.fld Va 4))]
noncomputable def b27:List S:=[.ret (.op .Add (.fld Va 3) (.fld Va 4))]
noncomputable def b28:List S:=[.set 1 (.ife (.cmp .Eq (.fld Va 2) (.c (.str [102]))) Wb (.neg Wb)),.set 2 (.comp (.rng2 (.fld Va 3) (.op .Add (.fld Va 3) (.fld Va 4))) false none (.tup [.c (.str [110,101,119]),.tup [Ve],.fld Va 0,.neg Vb])),.set 3 (.comp (.rng (.fld Va 3)) false none (.tup [.c (.str [110,101,119]),.tup [Ve],.fld Va 0,Vb])),.ret (.op .Add Vc Vd)]
noncomputable def b29:List S:=[.ret (.op .Add (.op .Add (.op .Add (.tab 2 (.fld Va 0)) (.bi .str [.fld Va 3])) (.fld Va 2)) (.bi .str [.fld Va 4]))]
noncomputable def b30:List S:=[.ret Wb]
noncomputable def b31:List S:=[.ret Wa]
noncomputable def b32:List S:=[.ret (.lst [.tup [Wa,.c (.str [111,102,102])]])]
noncomputable def b33:List S:=[.ret (.c (.str [98]))]
noncomputable def b34:List S:=[.fld Va 5 Vb]
noncomputable def b35:List S:=[.ret Wb]
noncomputable def b36:List S:=[.ret Wa]
noncomputable def b37:List S:=[.ret (.lst [.tup [Wa,.fld Va 5]])]
noncomputable def b38:List S:=[.ret (.op .Add (.c (.str [104])) (.fld Va 5))]
noncomputable def b39:List S:=[.fld Va 5 Vb]
noncomputable def b40:List S:=[.ret Wa]
noncomputable def b41:List S:=[.ret Wb]
noncomputable def b42:List S:=[.ret (.lst [.tup [.c (.str [102,114,111,109]),.fld Va 5]])]
noncomputable def b43:List S:=[.ret (.op .Add (.c (.str [102])) (.fld Va 5))]
noncomputable def b44:List S:=[.fld Va 2 Vb,.fld Va 6 (.c (.bl true)),.ite (.cmp .Is Vd (.c .non)) [.fld Va 9 (.lst [.comp (.rng Vc) false none (.tup [.tup [],Wa,Wa])]),.fld Va 10 .dnew,.fld Va 11 (.lst [])] [.fld Va 9 (.op .Add (.comp (.seq (.ix Vd Wa)) false none (.bi .list [Vf])) (.lst [.comp (.seq Ve) false none (.tup [.tup [Vf],Wb,Wa])])),.fld Va 10 (.bi .dictS [.comp (.seq (.ix Vd Wc)) true none (.tup [Vf,.bi .list [Vg]])]),.fld Va 11 (.bi .list [.ix Vd Wd])],.fld Va 7 (.rev (.call 53 [.op .Sub (.bi .len [.fld Va 9]) Wb,.bi .len [.ix (.fld Va 9) (.neg Wb)]])),.fld Va 8 (.lst [])]
noncomputable def b45:List S:=[.set 3 (.call 55 [Vb]),.expr (.meth 10 Va [Vb,Vc,Vd]),.set 4 (.meth 13 Va [.call 53 [.bi .len [.fld Va 9],.call 54 [Vb]]]),.set 5 (.bi .dictS [.thw Vd (.comp (.key Vd) false none (.tup [Vj,.meth 13 Va [.meth 9 Va [Vj]]]))]),.set 6 (.make 11 [Ve,Vf]),.loop (.name 7) (.seq Vb) [.expr (.meth 11 Va [Vh,Vg])],.expr (.bm .append (.fld Va 9) [.meth 13 Va [.fld Vg 14]]),.loopK 8 Vd [.put (.fld Va 10) Vi (.meth 13 Va [.ix (.fld Vg 15) Vi])],.expr (.meth 14 Va []),.ret (.op .Add (.bi .len [.fld Va 7]) (.bi .len [.fld Va 8]))]
noncomputable def b46:List S:=[.ret (.bm .get (.fld Va 10) [Vb,.lst []])]
noncomputable def b47:List S:=[.set 4 (.bi .len [.fld Va 9]),.set 5 (.bi .len [.fld Va 7]),.set 6 (.bi .sum [.comp (.seq Vb) false none (.meth 2 Vi [])]),.ite (.or (.cmp .Gt Vg Vf) (.and (.cmp .Lt Vg Vf) (.not Vc))) [.bad] [],.loop (.name 7) (.seq (.con 0)) [.set 5 (.bi .len [.meth 9 Va [Vh]]),.ite (.and (.cmp .In Vh Vd) (.cmp .NotEq (.ix Vd Vh) Vf)) [.bad] []]]
noncomputable def b48:List S:=[.set 3 (.comp (.rng (.meth 2 Vb [])) false none (.bm .pop (.fld Va 7) [])),.loop (.name 4) (.seq (.meth 0 Vb [])) [.ite (.cmp .Eq (.ix Ve Wa) (.c (.str [115,97,109,101]))) [.expr (.bm .append (.fld Va 8) [.ix Vd (.ix Ve Wb)])] [.ite (.cmp .Eq (.ix Ve Wa) (.c (.str [102,114,111,109]))) [.expr (.bm .append (.fld Va 8) [.bm .pop (.ix (.fld Vc 13) (.ix Ve Wb)) [Wa]])] [.expr (.bm .append (.fld Va 8) [.ix (.fld Vc 12) (.bi .len [.fld Vc 14])]),.expr (.bm .append (.fld Vc 14) [.meth 12 Va [Ve,Vd]])]]],.loop (.pair 5 6) (.seq (.meth 1 Vb [])) [.set 7 (.ife (.cmp .Eq Vg (.c (.str [111,102,102]))) (.fld Va 11) (.ix (.fld Vc 15) Vg)),.expr (.bm .append Vh [.ix Vd Vf])]]
noncomputable def b49:List S:=[.set 3 (.meth 13 Va [.comp (.seq (.ix Vb Wb)) false none (.ix Vc Vf)]),.set 4 (.ife (.fld Va 6) Wb (.neg Wb)),.ret (.tup [.bi .tuple [Vd],.op .Mult Ve (.ix Vb Wc),.op .Mult Ve (.ix Vb Wd)])]
noncomputable def b50:List S:=[.ret (.ife (.fld Va 6) (.bi .list [Vb]) (.rev Vb))]
noncomputable def b51:List S:=[.ite (.cmp .Eq (.fld Va 2) (.c (.str [114,111,117,110,100]))) [.fld Va 7 (.rev (.fld Va 8)),.fld Va 8 (.lst [])] [.set 1 (.fld Va 7),.fld Va 7 (.fld Va 8),.fld Va 8 Vb,.fld Va 6 (.not (.fld Va 6))]]
noncomputable def b52:List S:=[.fld Va 12 Vb,.fld Va 13 Vc,.fld Va 14 (.lst []),.fld Va 15 (.bi .dictS [.thw Vc (.comp (.key Vc) false none (.tup [Vd,.lst []]))])]
noncomputable def b53:List S:=[.ret (.comp (.rng Vb) false none (.tup [Va,Vc]))]
noncomputable def b54:List S:=[.set 1 Wa,.loop (.name 2) (.seq Va) [.aug 1 .Add (.bi .len [.comp (.seq (.meth 0 Vc [])) false (some (.cmp .Eq (.ix Vd Wa) (.c (.str [110,101,119])))) Vd])],.ret Vb]
noncomputable def b55:List S:=[.set 1 .dnew,.loop (.name 2) (.seq Va) [.loop (.name 3) (.seq (.meth 0 Vc [])) [.ite (.cmp .Eq (.ix Vd Wa) (.c (.str [102,114,111,109]))) [.put Vb (.ix Vd Wb) (.op .Add (.bm .get Vb [.ix Vd Wb,Wa]) Wb)] []],.loop (.pair 4 5) (.seq (.meth 1 Vc [])) [.ite (.cmp .NotEq Vf (.c (.str [111,102,102]))) [.put Vb Vf (.bm .get Vb [Vf,Wa])] []]],.ret Vb]
noncomputable def b56:List S:=[.set 2 (.make 10 [.c (.str [114,111,117,110,100]),Va]),.set 3 (.lst [.tup [.c (.str [99,97,115,116]),Va]]),.loop (.name 4) (.seq Vb) [.expr (.meth 7 Vc [Ve]),.expr (.bm .extend Vd [.call 57 [Ve]])],.ret Vd]
noncomputable def b57:List S:=[.set 1 (.lst []),.set 2 Wa,.set 3 Wa,.loop (.name 4) (.seq Va) [.expr (.bm .extend Vb [.call 58 [Ve,Vc,Vd]]),.aug 2 .Add (.meth 2 Ve []),.aug 3 .Add (.meth 3 Ve [])],.ret (.op .Add Vb (.lst [.tup [.c (.str [101,110,100])]]))]
noncomputable def b58:List S:=[.set 3 (.lst []),.loop (.pair 4 5) (.enm (.meth 0 Va [])) [.expr (.bm .extend Vd [.call 59 [Vf,Vb,.op .Add Vc Ve]])],.ret (.op .Add Vd (.comp (.seq (.meth 1 Va [])) false none (.call 60 [Vg,Vb])))]
noncomputable def b59:List S:=[.ite (.cmp .Eq (.ix Va Wa) (.c (.str [115,97,109,101]))) [.ret (.lst [.tup [.c (.str [108,97,121]),.op .Add Vb (.ix Va Wb),Vc]])] [],.ite (.cmp .Eq (.ix Va Wa) (.c (.str [102,114,111,109]))) [.ret (.lst [.tup [.c (.str [102,101,116,99,104]),.ix Va Wb,Vc]])] [],.ite (.not (.ix Va Wb)) [.ret (.lst [.tup [.c (.str [111,118,101,114]),Vc]])] [],.ret (.op .Add (.comp (.seq (.ix Va Wb)) false none (.tup [.c (.str [108,97,121]),.op .Add Vb Vd,Vc])) (.lst [.tup [.c (.str [100,114,97,119]),Vc,.ix Va Wc,.ix Va Wd]]))]
noncomputable def b60:List S:=[.ite (.cmp .Eq (.ix Va Wb) (.c (.str [111,102,102]))) [.ret (.tup [.c (.str [111,102,102]),.op .Add Vb (.ix Va Wa)])] [],.ret (.tup [.c (.str [107,101,101,112]),.op .Add Vb (.ix Va Wa),.ix Va Wb])]
noncomputable def b61:List S:=[.set 1 (.ife (.isi Va .str) (.call 62 [Va]) (.c .non)),.ite (.cmp .Is Vb (.c .non)) [.bad] [],.ret Vb]
noncomputable def b62:List S:=[.set 1 (.bi .len [Va]),.ite (.cmp .Eq Vb Wb) [.ret (.call 63 [Va])] [],.ite (.cmp .Eq Vb Wc) [.ret (.call 64 [.ix Va Wa,.ix Va Wb])] [],.ite (.cmp .Eq Vb Wd) [.ret (.call 65 [.ix Va Wa,.ix Va Wb,.ix Va Wc])] [],.ite (.cmp .Eq Vb We) [.ret (.call 66 [.ix Va Wa,.ix Va Wb,.ix Va Wc,.ix Va Wd])] [],.ret (.c .non)]
noncomputable def b63:List S:=[.ite (.cmp .In Va (.con 3)) [.ret (.make 1 [.tab 3 Va])] [],.ite (.cmp .Eq Va (.c (.str [115]))) [.ret (.make 2 [])] [],.ite (.cmp .Eq Va (.c (.str [111]))) [.ret (.make 3 [])] [],.ite (.cmp .Eq Va (.c (.str [98]))) [.ret (.make 7 [])] [],.ret (.c .non)]
noncomputable def b64:List S:=[.ite (.cmp .NotIn Vb (.con 0)) [.ret (.c .non)] [],.ite (.cmp .Eq Va (.c (.str [104]))) [.ret (.make 8 [Vb])] [],.ite (.cmp .Eq Va (.c (.str [102]))) [.ret (.make 9 [Vb])] [],.ret (.c .non)]
noncomputable def b65:List S:=[.ite (.cmp .NotIn Va (.con 3)) [.ret (.c .non)] [],.ite (.and (.cmp .Eq Vb (.c (.str [120]))) (.cmp .In Vc (.con 7))) [.ret (.make 5 [.tab 7 Vc,.tab 3 Va])] [],.ite (.and (.cmp .In Vb (.con 7)) (.cmp .In Vc (.con 5))) [.ret (.make 4 [.tab 7 Vb,Vc,.tab 3 Va])] [],.ret (.c .non)]
noncomputable def b66:List S:=[.ite (.and (.cmp .In Va (.con 4)) (.and (.cmp .In Vb (.con 8)) (.and (.cmp .In Vc (.con 6)) (.cmp .In Vd (.con 8))))) [.ret (.make 6 [.tab 8 Vb,.tab 8 Vd,Vc,.tab 4 Va])] [],.ret (.c .non)]
noncomputable def b67:List S:=[.ite (.cmp .Lt Vb (.bi .len [Va])) [.ret (.ix Va Vb)] [],.ret Wa]
noncomputable def b68:List S:=[.set 1 (.op .Mod Va Wc),.set 2 (.op .Mod (.op .FloorDiv Va Wc) (.c (.int 9 0))),.set 3 (.op .FloorDiv Va (.c (.int 18 0))),.ite (.cmp .Eq Vc Wc) [.ret (.c (.str [115]))] [],.ite (.cmp .Eq Vc Wd) [.ret (.c (.str [111]))] [],.ite (.cmp .Eq Vc We) [.ret (.op .Add (.op .Add (.ix (.c (.str [107,112])) Vb) (.ix (.c (.str [50,51,52])) (.op .Mod Vd Wd))) (.ix (.c (.str [114,108])) (.op .Mod (.op .FloorDiv Vd Wd) Wc)))] [],.ite (.cmp .Eq Vc Wf) [.ret (.op .Add (.op .Add (.ix (.c (.str [107,112])) Vb) (.c (.str [120]))) (.ix (.c (.str [50,51,52])) (.op .Mod Vd Wd)))] [],.ite (.cmp .Eq Vc (.c (.int 6 0))) [.ret (.op .Add (.op .Add (.op .Add (.ix (.c (.str [99,113])) Vb) (.ix (.c (.str [49,50,51,52])) (.op .Mod Vd We))) (.ix (.c (.str [102,98])) (.op .Mod (.op .FloorDiv Vd We) Wc))) (.ix (.c (.str [49,50,51,52])) (.op .Mod (.op .FloorDiv Vd (.c (.int 8 0))) We)))] [],.ite (.cmp .Eq Vc (.c (.int 7 0))) [.ret (.c (.str [98]))] [],.ite (.cmp .Eq Vc (.c (.int 8 0))) [.ret (.op .Add (.ix (.c (.str [104,102])) Vb) (.ix (.c (.str [119,120,121,122])) (.op .Mod Vd We)))] [],.ret (.ix (.c (.str [107,112])) Vb)]
noncomputable def b69:List S:=[.ite (.cmp .In (.ix Va Wa) (.c (.str [111,102]))) [.ret Wa] [],.ite (.cmp .In (.ix Va Wa) (.c (.str [99,113]))) [.ret (.op .Add (.bi .int [.ix Va Wb]) (.bi .int [.ix Va Wd]))] [],.ite (.and (.cmp .Eq (.bi .len [Va]) Wd) (.cmp .NotEq (.ix Va Wb) (.c (.str [120])))) [.ret (.bi .int [.ix Va Wb])] [],.ret Wb]
noncomputable def b70:List S:=[.ite (.cmp .In (.ix Va Wa) (.c (.str [98,104]))) [.ret Wa] [],.ite (.cmp .In (.ix Va Wa) (.c (.str [99,113]))) [.ret (.op .Add (.bi .int [.ix Va Wb]) (.bi .int [.ix Va Wd]))] [],.ite (.and (.cmp .Eq (.bi .len [Va]) Wd) (.cmp .Eq (.ix Va Wb) (.c (.str [120])))) [.ret (.bi .int [.ix Va Wc])] [],.ret Wb]
noncomputable def b71:List S:=[.set 3 (.lst []),.set 4 Vb,.set 5 Wa,.loop (.name 6) (.seq Va) [.set 7 (.call 68 [Vg]),.set 8 Wb,.ite (.cmp .Eq (.ix Vh Wa) (.c (.str [102]))) [.set 8 (.bi .len [.bm .get Vc [.ix Vh Wb,.lst []]])] [],.ite (.or (.cmp .Gt (.call 69 [Vh]) Ve) (.cmp .Gt (.op .Sub (.op .Add (.op .Add Vf (.op .Mult Vi (.call 70 [Vh]))) Ve) (.call 69 [Vh])) (.c (.int 12 0)))) [.cont] [],.ite (.and (.cmp .Eq (.ix Vh Wa) (.c (.str [104]))) (.and (.cmp .NotEq (.bm .get Vc [.ix Vh Wb,.lst []]) (.lst [])) (.cmp .NotIn (.op .Add (.c (.str [102])) (.ix Vh Wb)) Vd))) [.cont] [],.ite (.and (.cmp .Eq (.ix Vh Wa) (.c (.str [102]))) (.or (.cmp .Eq Vi Wa) (.cmp .In Vh Vd))) [.cont] [],.expr (.bm .extend Vd [.op .Mult (.lst [Vh]) Vi]),.set 5 (.op .Add Vf (.op .Mult Vi (.call 70 [Vh]))),.set 4 (.op .Sub Ve (.call 69 [Vh]))],.ret (.op .Add Vd (.op .Mult (.lst [.c (.str [107])]) Ve))]
noncomputable def b72:List S:=[.set 2 .dnew,.loop (.name 3) (.seq (.c (.str [119,120,121,122]))) [.put Vc Vd (.bm .get Vb [Vd,.lst []]),.ite (.or (.cmp .In (.op .Add (.c (.str [104])) Vd) Va) (.cmp .In (.op .Add (.c (.str [102])) Vd) Va)) [.put Vc Vd (.op .Mult (.lst [.op .Add (.c (.str [104])) Vd]) (.bm .count Va [.op .Add (.c (.str [104])) Vd]))] []],.ret Vc]
noncomputable def b73:List S:=[.set 2 (.lst []),.set 3 Va,.set 4 .dnew,.loop (.name 5) (.rngA [Wa,.bi .len [Vb],Wf]) [.set 6 (.call 71 [.sl Vb (some Vf) (some (.op .Add Vf Wf)),Vd,Ve]),.set 4 (.call 72 [Vg,Ve]),.set 3 (.bi .sum [.comp (.seq Vg) false none (.call 70 [Vh])]),.expr (.bm .append Vc [Vg])],.ret Vc]
noncomputable def b74:List S:=[.ite (.cmp .Eq (.ix Va Wa) (.c (.str [115,97,109,101]))) [.ret (.lst [.tup [.c (.str [108,97,121]),.op .Add Vb (.ix Va Wb),Vc]])] [],.ite (.cmp .Eq (.ix Va Wa) (.c (.str [102,114,111,109]))) [.ret (.lst [.tup [.c (.str [102,101,116,99,104]),.ix Va Wb,Vc]])] [],.ite (.cmp .Eq (.bi .len [.ix Va Wb]) Wa) [.ret (.lst [.tup [.c (.str [111,118,101,114]),Vc]])] [],.ret (.op .Add (.comp (.seq (.ix Va Wb)) false none (.tup [.c (.str [108,97,121]),.op .Add Vb Vd,Vc])) (.lst [.tup [.c (.str [100,114,97,119]),Vc,.ix Va Wc,.ix Va Wd]]))]
noncomputable def b75:List S:=[.set 2 (.lst [.tup [.c (.str [99,97,115,116]),Va]]),.loop (.name 3) (.seq Vb) [.set 4 Wa,.set 5 Wa,.loop (.name 6) (.seq Vd) [.set 7 (.call 61 [Vg]),.loop (.name 8) (.seq (.meth 0 Vh [])) [.set 2 (.op .Add Vc (.call 74 [Vi,Ve,Vf])),.set 5 (.op .Add Vf Wb)],.loop (.pair 9 10) (.seq (.meth 1 Vh [])) [.ite (.cmp .Eq Vk (.c (.str [111,102,102]))) [.expr (.bm .append Vc [.tup [.c (.str [111,102,102]),.op .Add Ve Vj]])] [.expr (.bm .append Vc [.tup [.c (.str [107,101,101,112]),.op .Add Ve Vj,Vk]])]],.set 4 (.op .Add Ve (.call 69 [Vg]))],.expr (.bm .append Vc [.tup [.c (.str [101,110,100])]])],.ret Vc]
noncomputable def b76:List S:=[.ite (.or (.not (.isi Va .list)) (.cmp .NotEq (.bi .len [Va]) (.bi .len [Vb]))) [.ret (.c (.bl false))] [],.loop (.pair 2 3) (.zip Va Vb) [.ite (.or (.not (.isi Vc .tuple)) (.cmp .NotEq Vc Vd)) [.ret (.c (.bl false))] [],.loop (.name 4) (.seq (.sl Vc (some Wb) none)) [.ite (.or (.isi Ve .bool) (.not (.isiS 4))) [.ret (.c (.bl false))] []]],.ret (.c (.bl true))]
noncomputable def b77:List S:=[.set 1 (.op .Mod (.call 67 [Va,Wa]) (.c (.int 7 0))),.set 2 (.call 73 [Vb,.sl Va (some Wb) (some (.c (.int 61 0)))]),.set 3 (.call 75 [Vb,Vc]),.set 4 (.comp (.seq Vc) false none (.comp (.seq Vg) false none (.call 61 [Vh]))),.set 5 (.call 56 [Vb,Ve]),.ite (.not (.call 76 [Vf,Vd])) [.ret (.c (.bl false))] [],.ite (.cmp .NotEq (.comp (.seq Ve) false none (.comp (.seq Vg) false none (.meth 4 Vh []))) Vc) [.ret (.c (.bl false))] [],.expr (.bm .append Vf [.tup [.c (.str [101,110,100])]]),.ret (.call 76 [.call 56 [Vb,Ve],Vd])]
noncomputable def F0(x:Str)(k:Nat)(N:List Str)(n:Nat)(b:List S):Fn:=⟨x,x,top k,N.take n,N,n,N.length,false,b⟩
noncomputable def F1(x q:Str)(k j:Nat)(N:List Str)(n:Nat)(b:List S):Fn:=⟨x,q,Qg (top k) j,N.take n,N,n,N.length,false,b⟩
noncomputable def fnL:List Fn:=[F1 "ties" "Stitch.ties" 9 0 ["self"] 1 b0,
 F1 "ends" "Stitch.ends" 9 1 ["self"] 1 b1,
 F1 "__init__" "Plain.__init__" 10 0 ["self","side"] 2 b2,
 F1 "takes" "Plain.takes" 10 1 ["self"] 1 b3,
 F1 "gives" "Plain.gives" 10 2 ["self"] 1 b4,
 F1 "ties" "Plain.ties" 10 3 ["self"] 1 b5,
 F1 "mark" "Plain.mark" 10 4 ["self"] 1 b6,
 F1 "takes" "Slip.takes" 11 0 ["self"] 1 b7,
 F1 "gives" "Slip.gives" 11 1 ["self"] 1 b8,
 F1 "ties" "Slip.ties" 11 2 ["self"] 1 b9,
 F1 "mark" "Slip.mark" 11 3 ["self"] 1 b10,
 F1 "takes" "Over.takes" 12 0 ["self"] 1 b11,
 F1 "gives" "Over.gives" 12 1 ["self"] 1 b12,
 F1 "ties" "Over.ties" 12 2 ["self"] 1 b13,
 F1 "mark" "Over.mark" 12 3 ["self"] 1 b14,
 F1 "__init__" "Lean.__init__" 13 0 ["self","many","way","side"] 4 b15,
 F1 "takes" "Lean.takes" 13 1 ["self"] 1 b16,
 F1 "gives" "Lean.gives" 13 2 ["self"] 1 b17,
 F1 "ties" "Lean.ties" 13 3 ["self","parents"] 1 b18,
 F1 "mark" "Lean.mark" 13 4 ["self"] 1 b19,
 F1 "__init__" "Grow.__init__" 14 0 ["self","many","side"] 3 b20,
 F1 "takes" "Grow.takes" 14 1 ["self"] 1 b21,
 F1 "gives" "Grow.gives" 14 2 ["self"] 1 b22,
 F1 "ties" "Grow.ties" 14 3 ["self"] 1 b23,
 F1 "mark" "Grow.mark" 14 4 ["self"] 1 b24,
 F1 "__init__" "Cross.__init__" 15 0 ["self","first","second","way","side"] 5 b25,
 F1 "takes" "Cross.takes" 15 1 ["self"] 1 b26,
 F1 "gives" "Cross.gives" 15 2 ["self"] 1 b27,
 F1 "ties" "Cross.ties" 15 3 ["self","lift","later","former"] 1 b28,
 F1 "mark" "Cross.mark" 15 4 ["self"] 1 b29,
 F1 "takes" "Off.takes" 16 0 ["self"] 1 b30,
 F1 "gives" "Off.gives" 16 1 ["self"] 1 b31,
 F1 "ends" "Off.ends" 16 2 ["self"] 1 b32,
 F1 "mark" "Off.mark" 16 3 ["self"] 1 b33,
 F1 "__init__" "Keep.__init__" 17 0 ["self","keeper"] 2 b34,
 F1 "takes" "Keep.takes" 17 1 ["self"] 1 b35,
 F1 "gives" "Keep.gives" 17 2 ["self"] 1 b36,
 F1 "ends" "Keep.ends" 17 3 ["self"] 1 b37,
 F1 "mark" "Keep.mark" 17 4 ["self"] 1 b38,
 F1 "__init__" "Fetch.__init__" 18 0 ["self","keeper"] 2 b39,
 F1 "takes" "Fetch.takes" 18 1 ["self"] 1 b40,
 F1 "gives" "Fetch.gives" 18 2 ["self"] 1 b41,
 F1 "ties" "Fetch.ties" 18 3 ["self"] 1 b42,
 F1 "mark" "Fetch.mark" 18 4 ["self"] 1 b43,
 F1 "__init__" "Needles.__init__" 20 0 ["self","way","cast","web","names"] 5 b44,
 F1 "work" "Needles.work" 20 1 ["self","stitches","turn","fetches","names","supply","course","stitch","keeper"] 3 b45,
 F1 "lying_on" "Needles.lying_on" 20 3 ["self","keeper"] 2 b46,
 F1 "refuse_misfit" "Needles.refuse_misfit" 20 4 ["self","stitches","turn","fetches","number","lies","takes","keeper"] 4 b47,
 F1 "work_stitch" "Needles.work_stitch" 20 5 ["self","stitch","course","taken","tie","place","word","pile"] 3 b48,
 F1 "seen" "Needles.seen" 20 6 ["self","tie","taken","parents","sign"] 3 b49,
 F1 "in_order" "Needles.in_order" 20 7 ["self","some"] 2 b50,
 F1 "make_ready" "Needles.make_ready" 20 8 ["self","not_taken"] 1 b51,
 F1 "__init__" "Course.__init__" 21 0 ["self","names","supply"] 3 b52,
 F0 "new_names" 22 ["row","many"] 2 b53,
 F0 "new_many" 23 ["stitches","many","stitch"] 1 b54,
 F0 "fetches_of" 24 ["stitches","fetches","stitch","tie","place","word"] 1 b55,
 F0 "moves_of" 26 ["cast","rows","needles","moves","stitches"] 2 b56,
 F0 "row_moves" 27 ["stitches","moves","near","far","stitch"] 1 b57,
 F0 "stitch_moves" 28 ["stitch","near","far","moves","place","tie"] 3 b58,
 F0 "tie_moves" 29 ["tie","near","far"] 3 b59,
 F0 "end_move" 30 ["end","near"] 2 b60,
 F0 "stitch" 38 ["mark","found"] 1 b61,
 F0 "stitch_of_text" 39 ["text","size"] 1 b62,
 F0 "bare_stitch" 40 ["sign"] 1 b63,
 F0 "keeper_stitch" 41 ["sign","keeper"] 2 b64,
 F0 "sided_stitch" 42 ["sign","middle","last"] 3 b65,
 F0 "crossing" 43 ["sign","first","way","second"] 4 b66,
 F0 "_law_cell_at" 45 ["_law_script","_law_k"] 2 b67,
 F0 "_law_mark" 46 ["_law_cell","_law_side","_law_kind","_law_more"] 1 b68,
 F0 "_law_takes" 47 ["_law_mark_here"] 1 b69,
 F0 "_law_gives" 48 ["_law_mark_here"] 1 b70,
 F0 "_law_row_by" 49 ["_law_cells","_law_lies","_law_kept_here","_law_row","_law_left","_law_given","_law_cell","_law_mark_here","_law_many"] 3 b71,
 F0 "_law_kept" 50 ["_law_row","_law_kept_here","_law_found","_law_keeper"] 2 b72,
 F0 "_law_rows" 51 ["_law_cast","_law_cells","_law_rows_here","_law_lies","_law_kept_here","_law_k","_law_row"] 2 b73,
 F0 "_law_tie_moves" 52 ["_law_tie","_law_near","_law_far"] 3 b74,
 F0 "_law_moves" 53 ["_law_cast","_law_rows_here","_law_moves_here","_law_row","_law_near","_law_far","_law_mark_here","_law_one","_law_tie","_law_p","_law_word"] 2 b75,
 F0 "_law_same" 54 ["_law_found","_law_due","_law_one","_law_other","_law_thing"] 2 b76,
 ⟨"law","law",top 55,["_law_script"],["_law_script","_law_cast","_law_rows_here","_law_due","_law_handed","_law_found"],1,6,true,b77⟩]
noncomputable def tb(s:List U):Tbl:=⟨fnL,QqP,QqN,Qqy,Qqn,s,Qqp,dflL,QqH,QpA,false,QqA,Qqz,Qqj,QqF,QqI,QqG,λz z z=>none⟩
noncomputable abbrev sR(n:Nat):Option U:=some (.ref n)
noncomputable abbrev sN(n:Nat):Option U:=some (.int (n:Int) 0)
noncomputable abbrev sF:Option U:=some (.bl false)
noncomputable abbrev sS(x:List Nat):Option U:=some (.str x)
noncomputable abbrev sI(n:Int):Option U:=some (.int n 0)
def eq_int{i:Int}:eqA T (.int i 0) (.int j 0) hs=some (decide (i=j)):=rfl
def eq_str{x y:List Nat}:eqA T (.str x) (.str y) hs=some (decide (x=y)):=rfl
def at0{a:O}{r:Hs}:(hs++a::r)[hs.length]?=some a:=by rw[X5 (Xh _),Uz];rfl
def Q4{r:Hs}(h:hs[p]?=some o):(hs++r)[p]?=some o:=by
 rw[Wi (Xa.mp h).1];exact h
def Kp(hs hs':Hs):Prop:=∀(p:Nat) o,hs[p]?=some o->hs'[p]?=some o
def Kp.refl(hs:Hs):Kp hs hs:=λz z h=>h
def Kp.app(hs r:Hs):Kp hs (hs++r):=λz z h=>Q4 h
def Kp.trans{a b c:Hs}(h:Kp a b)(h':Kp b c):Kp a c:=λp o e=>h' p o (h p o e)
def Kp.len{a b:Hs}(h:Kp a b):a.length<=b.length:=by
 cases ha:a.length with
 |zero=>lia
 |succ k=>
  have lt:k<a.length:=by lia
  have:=(Xa.mp (h k a[k] (by simp[lt]))).1
  lia
def Kp.put{a b:Hs}{j:Nat}(h:Kp a b)(hj:a.length<=j):Kp a (b.set j o):=λp x e=>by
 have lt:=(Xa.mp e).1
 rw[Xe (by lia)]
 exact h p x e
section

def Zi{r:List S}(e:ex T cf d st Z hs=some (.next,ρ',h1)):exs T cf (d+1) (st::r) Z hs=exs T cf d r ρ' h1:=by
 rw[Qj,e]
def Qgy{a:List S}(e:evT T cf (d+1) t Z hs=some (false,h1)):ex T cf (d+2) (.ite t a []) Z hs=some (.next,Z,h1):=by
 rw[QC,e,Qm,if_neg (by decide),QI]
def QmP{a b:E}{o:CmpOp}{c:Bool}(ea:ev T cf d a Z hs=some (u,h1))(eb:ev T cf d b Z h1=some (w,h2))(ec:Q0 T o u w h2=some c):ev T cf (d+1) (.cmp o a b) Z hs=some (.bl c,h2):=by
 rw[QN,ea,Qm,eb,Qm,ec];rfl
def QQ{a b:E}{o:CmpOp}{c:Bool}(ea:ev T cf d a Z hs=some (u,h1))(eb:ev T cf d b Z h1=some (w,h2))(ec:Q0 T o u w h2=some c):evT T cf (d+2) (.cmp o a b) Z hs=some (c,h2):=by
 rw[Qp,QmP ea eb ec,Qm];rfl
def YC(hi:Z[i]?=some (some u))(e:cf f [u] hs=some (v,h1)):ev T cf (d+2) (.call f [.var i]) Z hs=some (v,h1):=by
 simp only[Qt,evs,QH,hi,Qm,e]
end
def QnN(h:hs[p]?=some (.lst xs)):biU T .len [.ref p] hs=some (.int xs.length 0,hs):=by unfold biU;simp only[ZJ,h]
def QmQ(h:hs[p]?=some (.lst xs)):biU T .tuple [.ref p] hs=some (.ref hs.length,hs++[.tup xs]):=by unfold biU;simp only[h]
def Qmf(h:hs[p]?=some (.lst xs))(hl:xs.length<1000000):bmU T .append (.ref p) [u] hs=some (.non,hs.set p (.lst (xs++[u]))):=by
 simp only[bmU,h,bmL,hl];rfl
def Qj8(h:hs[p]?=some (.lst xs)):Qa8 .append (.ref p) hs=true:=by simp only[Qa8,h];rfl
def md(h:0<j):Qh0 (.int x 0) (.int j 0)=sI (x % j):=by simp only[Qh0];rw[if_pos h]
def TK(hs hs':Hs):Prop:=∀(i:Nat) us,hs[i]?=some (.tup us)->hs'[i]?=some (.tup us)
def TK.refl:TK hs hs:=λz z h=>h
def TK.trans{a b c:Hs}(h:TK a b)(h':TK b c):TK a c:=λi us e=>h' i us (h i us e)
def TK.app{r:Hs}:TK hs (hs++r):=λi us h=>Q4 h
theorem TK.set{x y:O}(h:hs[i]?=some x)(n:∀us,x≠.tup us):TK hs (hs.set i y):=λj us e=>by
 have ne:i≠j:=λz=>by rw[z,e]at h;cases h;exact n us rfl
 rw[Xe ne];exact e
abbrev Nm:=Int×Int
structure Lp where
 ps:List Nm
 sd:Int
 lf:Int
def DN(hs:Hs)(u:U)(a:Nm):Prop:=∃i,u=.ref i/\hs[i]?=some (.tup [.int a.1 0,.int a.2 0])
def DL(hs:Hs)(u:U)(a:Lp):Prop:=∃i j us,u=.ref i/\hs[i]?=some (.tup [.ref j,.int a.sd 0,.int a.lf 0])/\hs[j]?=some (.tup us)/\Paired (DN hs) us a.ps
def DN.mono{hs':Hs}(t:TK hs hs'){a:Nm}(h:DN hs u a):DN hs' u a:=by obtain⟨i,e,h⟩:=h;exact⟨i,e,t _ _ h⟩
def Qi{P Q:α->β->Prop}(f:∀a b,P a b->Q a b){l:List α}{r:List β}(h:Paired P l r):Paired Q l r:=Paired.mono f h
def Ye{P:α->β->Prop}{a:α}{b:β}(h:P a b){l:List α}{r:List β}(t:Paired P l r):Paired P (l++[a]) (r++[b]):=t.snoc h
def Qk{P:α->β->Prop}{l:List α}{r:List β}(h:Paired P l r):l.length=r.length:=h.length
theorem DL.mono{hs':Hs}(t:TK hs hs'){a:Lp}(h:DL hs u a):DL hs' u a:=by obtain⟨i,j,us,e,h1,h2,h3⟩:=h;exact⟨i,j,us,e,t _ _ h1,t _ _ h2,Qi (λz z=>DN.mono t) h3⟩
def Qp8{lo hi:Option Int}(h:hs[p]?=some (.lst xs)):slU T (.ref p) lo hi hs=some (.ref hs.length,hs++[.lst (Y7 xs lo hi)]):=by simp only[slU,h]
def Z3{P:α->β->Prop}{l l':List α}{r r':List β}(h:Paired P l r)(h':Paired P l' r'):Paired P (l++l') (r++r'):=QbQ h h'
def QmA{xs:List α}{x:α}(h:xs[i]?=some x):atU xs (i:Int)=some x:=by
 have l:=(Xa.mp h).1
 have e:ixU xs.length (i:Int)=some i:=by
  unfold ixU
  rw[if_pos (by lia),if_pos (by lia)]
  simp
 simp only[atU,e,h]
def QmF{TT:Tbl}{a:E}(e:ev TT cf d a Z h=some (u,h1)):ex TT cf (d+1) (.set i a) Z h=some (.next,Z.set i (some u),h1):=by
 rw[QG,e,Qm]
def Qah{TT:Tbl}{t:Option E}{w:Wk}(es:Zl TT (ev TT cf d) Z src h=some (w,h1))(ec:Yo TT (ev TT cf d) (Qaf (evT TT cf d) t) w false el Z (Zn TT w h1) 0 [] h1=some (us,h2)):ev TT cf (d+1) (.comp src false t el) Z h=some (.ref h2.length,h2++[.lst us]):=by
 rw[Qjb,es,Qm,ec,Qm]
def Zu{TT:Tbl}{o:Operator}{a b:E}{r:Option (U×Hs)}(ea:ev TT cf d a Z h=some (u,h1))(eb:ev TT cf d b Z h1=some (w,h2))(eo:opU o u w h2=r):ev TT cf (d+1) (.op o a b) Z h=r:=by
 rw[Zs,ea,Qm,eb,Qm,eo]
def Qb{TT:Tbl}(e:Z[i]?=some (some u)):ev TT cf (d+1) (.var i) Z h=some (u,h):=by
 rw[QH,e]
def QB{TT:Tbl}(e:ex TT cf (d+1) st Z h=some (.next,ρ',h1)):exs TT cf (d+2) [st] Z h=some (.next,ρ',h1):=by
 rw[Qj,e];exact QI
def Qjf{t:Tg}{w:Wk}{r:Option (Fl×Rho×Hs)}(es:Zl T (ev T cf d) Z src hs=some (w,h1))(ef:QaH T w t (exs T cf d body) (Zn T w h1) 0 Z h1=r):ex T cf (d+1) (.loop t src body) Z hs=r:=by
 rw[Qja,es,Qm,ef]
def dvj(h:(decide ((0:Int) < j)&&decide (j<1606938044258990275541962092341162602522202993782792835301376))=true):QlR (.int x 0) (.int j 0)=sI (x / j):=by
 simp only[QlR];rw[if_pos h]
section

def Qjg{a b:List S}{k:Bool}{r:Option (Fl×Rho×Hs)}(e:evT T cf d t Z hs=some (k,h1))(e2:(if k=true then exs T cf d a Z h1 else exs T cf d b Z h1)=r):ex T cf (d+1) (.ite t a b) Z hs=r:=by
 rw[QC,e,Qm,e2]
def QmU(h:Z[i]?=some (sI y)):evT T cf (d+3) (.cmp .Eq (.var i) (.c (.int j 0))) Z hs=some (decide (y=j),hs):=by
 rw[Qp,QN,QH,h];simp only[Qm,y_c,Q0,eq_int,Option.map,Zo]
end
def QfC{j:Nat}:eqS (.ref i) (.ref j)=none:=rfl
def Qix{e:Nat}(hp:hs[p]?=some (.lst xs))(he:hs[e]?=some (.lst [])):eqA T (.ref p) (.ref e) hs=some (decide (xs=[])):=by
 cases xs with
 |nil=>simp[eqA,QfC,Jg,Qa5,QU,hp,he]
 |cons a r=>simp[eqA,QfC,Jg,QU,hp,he]
section

def Qjd{a b:List S}{r:Option (Fl×Rho×Hs)}{p:Prop}[Decidable p](e:evT T cf d t Z hs=some (decide p,h1))(np:¬p)(e2:exs T cf d b Z h1=r):ex T cf (d+1) (.ite t a b) Z hs=r:=by
 rw[QC,e,Qm,if_neg (by simpa using np),e2]
def QcU{a b:List S}{r:Option (Fl×Rho×Hs)}{p:Prop}[Decidable p](e:evT T cf d t Z hs=some (decide p,h1))(np:p)(e2:exs T cf d a Z h1=r):ex T cf (d+1) (.ite t a b) Z hs=r:=by
 rw[QC,e,Qm,if_pos (by simpa using np),e2]
end
def Qi8{a:E}:ev T cf (d+1) (.rev a) Z hs=bd (ev T cf d a Z hs) λu h1=>(match QU T u h1 with|some xs=>some (.ref h1.length,h1++[.lst xs.reverse])|none=>none):=by rw[ev]<;>rfl
instance:DecidableEq Nm:=inferInstanceAs (DecidableEq (Int×Int))
def Qeb{f:α->β}{xs:List α}{a b:Option Int}:Y7 (xs.map f) a b=(Y7 xs a b).map f:=by
 unfold Y7;rw[Xz,List.map_take,List.map_drop]
def QcQ(ha:hs[a]?=some (.lst xs))(hb:hs[b]?=some (.lst ys))(l:xs.length+ys.length<=1000000):ZG (.ref a) (.ref b) hs=some (.ref hs.length,hs++[.lst (xs++ys)]):=by
 simp only[ZG,ha,hb,Qor,l,Wo]
def Qjk{a b c:E}{x:U}(ea:ev T cf d a Z h0=some (u,h1))(eb:ev T cf d b Z h1=some (v,h2))(ec:ev T cf d c Z h2=some (w,h3))(ee:ev T cf d e Z h3=some (x,h4)):ev T cf (d+1) (.tup [a,b,c,e]) Z h0=some (.ref h4.length,h4++[.tup [u,v,w,x]]):=by
 simp only[Qx,evs,ea,eb,ec,ee,Qm]
def QaZ{TT:Tbl}{a:E}(e:ev TT cf d a Z h=some (u,h1)):fin (exs TT cf (d+2) [.ret a] Z h)=some (u,h1):=by
 rw[Qj,Qy,e];rfl
section

def Rr(T:Tbl)(cf:Cf)(d:Nat)(e:E)(Z:Rho)(h:Hs)(Q:U->Hs->Prop):Prop:=∃u h1,ev T cf d e Z h=some (u,h1)/\Q u h1
def Xx(T:Tbl)(cf:Cf)(d:Nat)(ss:List S)(Z:Rho)(h:Hs)(Q:Fl->Rho->Hs->Prop):Prop:=∃f ρ1 h1,exs T cf d ss Z h=some (f,ρ1,h1)/\Q f ρ1 h1
def Cc(T:Tbl)(m f:Nat)(us:List U)(h:Hs)(Q:U->Hs->Prop):Prop:=∃u h1,Qa T m f us h=some (u,h1)/\Q u h1
def Fq(Q:U->Hs->Prop):Fl->Rho->Hs->Prop:=λf z h=>match f with
 |.next=>Q .non h
 |.ret u=>Q u h
 |_=>False
def Nq(T:Tbl)(cf:Cf)(d:Nat)(r:List S)(Q:Fl->Rho->Hs->Prop):Fl->Rho->Hs->Prop:=λf Z h=>match f with
 |.next=>Xx T cf d r Z h Q
 |f=>Q f Z h
def Qbu{m:Nat}{b:List S}{Q:U->Hs->Prop}(e:Qa T (m+1) f us h=fin (exs T (Qa T m) dd b Z h))(x:Xx T (Qa T m) 100 b Z h (Fq Q)):Cc T (m+1) f us h Q:=by
 obtain⟨f,ρ1,h1,a,q⟩:=x
 cases f with
 |next=>exact⟨_,_,by rw[e,show dd=100 from rfl,a];rfl,q⟩
 |ret u=>exact⟨_,_,by rw[e,show dd=100 from rfl,a];rfl,q⟩
 |brk=>exact q.elim
 |cont=>exact q.elim
def Cc.mono{m:Nat}{Q Q':U->Hs->Prop}(c:Cc T m f us h Q)(k:∀u h1,Q u h1->Q' u h1):Cc T m f us h Q':=by obtain⟨u,h1,a,b⟩:=c;exact⟨u,h1,a,k u h1 b⟩
variable {r:List S}{G:U->Hs->Prop}
def Z2(q:Q .next Z h):Xx T cf (d+1) [] Z h Q:=⟨_,_,_,QI,q⟩
def Qe2{ρ1:Rho}(e:ex T cf d st Z h=some (.next,ρ1,h1))(q:Xx T cf d r ρ1 h1 Q):Xx T cf (d+1) (st::r) Z h Q:=by obtain⟨f,a,b,c,x⟩:=q;exact⟨f,a,b,by rw[Qj,e];exact c,x⟩
def Yd(q:Rr T cf d e Z h λu h1=>Q (.ret u) Z h1):Xx T cf (d+2) (.ret e::r) Z h Q:=by obtain⟨u,h1,a,b⟩:=q;exact⟨_,_,_,by rw[Qj,Qy,a,Qm],b⟩
def Qkc{o i:E}{x k:U}(ee:ev T cf d e Z h=some (u,h1))(eo:ev T cf d o Z h1=some (x,h2))(ei:ev T cf d i Z h2=some (k,h3))(ep:QfZ x k u h3=some h4)(q:Xx T cf (d+1) r Z h4 Q):Xx T cf (d+2) (.put o i e::r) Z h Q:=Qe2 (by rw[Qi9,ee,Qm,eo,Qm,ei,Qm,ep];rfl) q
def Qke{a b:List S}{c:Bool}(e:evT T cf d t Z h=some (c,h1))(q:Xx T cf d (if c=true then a else b) Z h1 (Nq T cf (d+1) r Q)):Xx T cf (d+2) (.ite t a b::r) Z h Q:=by
 obtain⟨f,ρ1,h2,x,q⟩:=q
 have e1:ex T cf (d+1) (.ite t a b) Z h=some (f,ρ1,h2):=by rw[QC,e,Qm];cases c<;>exact x
 cases f with
 |next=>exact Qe2 e1 q
 |ret u=>exact⟨_,_,_,by rw[Qj,e1],q⟩
 |brk=>exact⟨_,_,_,by rw[Qj,e1],q⟩
 |cont=>exact⟨_,_,_,by rw[Qj,e1],q⟩
def QfY{t:Tg}{w:Wk}(es:Zl T (ev T cf d) Z src h=some (w,h1))(q:∃ρ2 h2,QaH T w t (exs T cf d body) (Zn T w h1) 0 Z h1=some (.next,ρ2,h2)/\Xx T cf (d+1) r ρ2 h2 Q):Xx T cf (d+2) (.loop t src body::r) Z h Q:=by obtain⟨_,_,a,b⟩:=q;exact Qe2 (Qjf es a) b
def Jo(a:ev T cf d e Z h=some (u,h1))(q:G u h1):Rr T cf d e Z h G:=⟨_,_,a,q⟩
def ZA(a:evs (ev T cf d) Z es h=some (us,h1))(b:cf f us h1=some (u,h2)):ev T cf (d+1) (.call f es) Z h=some (u,h2):=by rw[Qt,a,Qm,b]
def Jc{d':Nat}{ss:List S}(e:exs T cf d ss Z h=exs T cf d' r ρ' h')(x:Xx T cf d' r ρ' h' Q):Xx T cf d ss Z h Q:=by obtain⟨a,b,c,x,q⟩:=x;exact⟨a,b,c,e.trans x,q⟩
def QD(a:ev T cf d e Z h=some (u,h1)):exs T cf (d+2) (.set i e::r) Z h=exs T cf (d+1) r (Z.set i (some u)) h1:=by rw[Qj,QG,a,Qm]
def Qjn{k r:U}(hi:Z[i]?=some (some u))(e:QX T u k h=some r):ev T cf (d+2) (.ix (.var i) (.c k)) Z h=some (r,h):=by rw[ZQ,Qb hi,Qm,y_c,Qm,e];rfl
def e_1(a:ev T cf d e Z h=some (u,h1)):evs (ev T cf d) Z [e] h=some ([u],h1):=by simp only[evs,a,Qm]
def Qew{a:List S}{c:Bool}(e:evT T cf (d+1) t Z h=some (c,h1))(hc:c=false):ex T cf (d+2) (.ite t a []) Z h=some (.next,Z,h1):=Qgy (by rw[e,hc])
def Qcs{a:List S}{c:Bool}(e:evT T cf (d+1) t Z h=some (c,h1))(hc:c=false):exs T cf (d+3) (.ite t a []::r) Z h=exs T cf (d+2) r Z h1:=Zi (Qew e hc)
def QcV{b:List S}{c:Bool}(et:evT T cf (d+2) t Z h=some (c,h1))(hc:c=true)(v:ev T cf d e Z h1=some (u,h2)):fin (exs T cf (d+4) (.ite t [.ret e] b::r) Z h)=some (u,h2):=by subst hc;rw[Qj,QC,et,Qm,if_pos rfl,Qj,Qy,v,Qm];rfl
def Z9(a:ev T cf d e Z h=some (.ref p,h1))(hp:h1[p]?=some (.lst xs)):ev T cf (d+1) (.bi .len [e]) Z h=some (.int xs.length 0,h1):=by rw[ZR];simp only[evs,a,Qm,QnN hp]
def YB{a b:E}(ea:ev T cf d a Z h=some (u,h1))(eb:ev T cf d b Z h1=some (v,h2)):ev T cf (d+1) (.tup [a,b]) Z h=some (.ref h2.length,h2++[.tup [u,v]]):=by rw[Qx];simp only[evs,ea,eb,Qm]
def YN{a b c:E}(ea:ev T cf d a Z h=some (u,h1))(eb:ev T cf d b Z h1=some (v,h2))(ec:ev T cf d c Z h2=some (w,h3)):ev T cf (d+1) (.tup [a,b,c]) Z h=some (.ref h3.length,h3++[.tup [u,v,w]]):=by rw[Qx];simp only[evs,ea,eb,ec,Qm]
def QgE{b:Bi}{x:Option (U×Hs)}(a:ev T cf d e Z h=some (u,h1))(eb:biU T b [u] h1=x):ev T cf (d+1) (.bi b [e]) Z h=x:=by rw[ZR];simp only[evs,a,Qm,eb]
def QnJ(hj:(decide ((0:Int) < j)&&decide (j<1606938044258990275541962092341162602522202993782792835301376))=true):opU .FloorDiv (.int x 0) (.int j 0) h=some (.int (x / j) 0,h):=by show(QlR _ _).map _=_;rw[dvj hj];rfl
def QnI(hj:0<j):opU .Mod (.int x 0) (.int j 0) h=some (.int (x % j) 0,h):=by show(Qh0 _ _).map _=_;rw[md hj];rfl
def Z4:opU .Add (.int x 0) (.int j 0) h=some (.int (x+j) 0,h):=rfl
def QhW:opU .Sub (.int x 0) (.int j 0) h=some (.int (x-j) 0,h):=rfl
def Qc0{a:E}(ea:ev T cf (d+1) a Z h=some (.int x 0,h1))(hj:(decide ((0:Int) < j)&&decide (j<1606938044258990275541962092341162602522202993782792835301376))=true):ev T cf (d+2) (.op .FloorDiv a (.c (.int j 0))) Z h=some (.int (x / j) 0,h1):=Zu ea y_c (QnJ hj)
def Qcg{a:E}(ea:ev T cf (d+1) a Z h=some (.int x 0,h1))(hj:0<j):ev T cf (d+2) (.op .Mod a (.c (.int j 0))) Z h=some (.int (x % j) 0,h1):=Zu ea y_c (QnI hj)
def QmT{a b:E}(ea:ev T cf d a Z h=some (.int x 0,h1))(eb:ev T cf d b Z h1=some (.int y 0,h2)):evT T cf (d+2) (.cmp .Gt a b) Z h=some (decide (y<x),h2):=QQ ea eb rfl
def QpI{a b:E}(ea:ev T cf d a Z h=some (.int x 0,h1))(eb:ev T cf d b Z h1=some (.int y 0,h2)):evT T cf (d+2) (.cmp .Eq a b) Z h=some (decide (x=y),h2):=QQ ea eb rfl
end
abbrev Vp:=Nat->O->Prop
def Le(P P':Vp):Prop:=∀i o,P i o->P' i o
def Le.refl{P:Vp}:Le P P:=λz z h=>h
def Le.trans{P P1 P2:Vp}(a:Le P P1)(b:Le P1 P2):Le P P2:=λi o h=>b i o (a i o h)
structure Own(h:Hs)(C:List (Nat×O))(P:Vp):Prop where
 c:∀(k i:Nat) x,C[k]?=some (i,x)->h[i]?=some x
 nd:∀(k k' i:Nat) x x',C[k]?=some (i,x)->C[k']?=some (i,x')->k=k'
 p:∀i o,P i o->h[i]?=some o
 q:∀i o,P i o->∀(k:Nat) x,C[k]?≠some (i,x)
section
variable {C:List (Nat×O)}{P:Vp}{x y:O}
def QbH{C:List α}{k k':Nat}{a b:α}(e:(C.set k a)[k']?=some b):(k'=k/\b=a)\/(k'≠k/\C[k']?=some b):=by
 by_cases z:k=k'
 ·subst z;rw[List.getElem?_set]at e;split at e
  ·split at e<;>cases e;exact .inl ⟨rfl,rfl⟩
  ·contradiction
 ·rw[Xe z]at e;exact .inr ⟨X8 z,e⟩
def Own.lt(o:Own h C P){k:Nat}(e:C[k]?=some (i,x)):i<h.length:=(Xa.mp (o.c _ _ _ e)).1
theorem Own.set(o:Own h C P)(k:Nat)(e:C[k]?=some (i,x)):Own (h.set i y) (C.set k (i,y)) P:=by
 have ne:∀(k' j:Nat) z,k'≠k->C[k']?=some (j,z)->i≠j:=λk' j z n a b=>n (o.nd _ _ _ _ _ a (b▸e));refine⟨λk' j z a=>?_,λk1 k2 j z1 z2 a b=>?_,λj z a=>?_,λj z a k' z' b=>?_⟩
 ·rcases QbH a with⟨_,rfl,rfl⟩|⟨n,a⟩
  ·rw[Xr (o.lt e)]
  ·rw[Xe (ne _ _ _ n a)];exact o.c _ _ _ a
 ·rcases QbH a with⟨e1,a⟩|⟨n1,a⟩<;>rcases QbH b with⟨e2,b⟩|⟨n2,b⟩
  ·rw[e1,e2]
  ·cases a;exact absurd rfl (ne _ _ _ n2 b)
  ·cases b;exact absurd rfl (ne _ _ _ n1 a)
  ·exact o.nd _ _ _ _ _ a b
 ·rw[Xe (λz=>o.q _ _ a k x (by rw[<-z];exact e))];exact o.p _ _ a
 ·rcases QbH b with⟨_,b⟩|⟨_,b⟩
  ·cases b;exact o.q _ _ a _ _ e
  ·exact o.q _ _ a _ _ b
def Own.new(o:Own h C P):Own (h++[y]) (C++[(h.length,y)]) P:=by
 have cs:∀(k j:Nat) z,(C++[(h.length,y)])[k]?=some (j,z)->C[k]?=some (j,z)\/(k=C.length/\j=h.length/\z=y):=λk j z a=>by
  rw[List.getElem?_append]at a;split at a
  ·exact .inl a
  ·rename_i n;have l:=(Xa.mp a).1
   have e:k=C.length:=by simp at l;lia
   subst e;simp at a;exact .inr ⟨rfl,a.1.symm,a.2.symm⟩
 refine⟨λk j z a=>?_,λk1 k2 j z1 z2 a b=>?_,λj z a=>Q4 (o.p _ _ a),λj z a k z' b=>?_⟩
 ·rcases cs _ _ _ a with a|⟨_,rfl,rfl⟩
  ·exact Q4 (o.c _ _ _ a)
  ·exact at0
 ·rcases cs _ _ _ a with a|⟨e1,f1,_⟩<;>rcases cs _ _ _ b with b|⟨e2,f2,_⟩
  ·exact o.nd _ _ _ _ _ a b
  ·subst f2;exact absurd (o.lt a) (Vx _)
  ·subst f1;exact absurd (o.lt b) (Vx _)
  ·rw[e1,e2]
 ·rcases cs _ _ _ b with b|⟨_,rfl,_⟩
  ·exact o.q _ _ a _ _ b
  ·exact absurd (Xa.mp (o.p _ _ a)).1 (Vx _)
end
theorem Qk5{T:Tbl}{w:Wk}{t:Tg}{body:Ex}(I:Nat->Rho->Hs->Prop){n:Nat}
  (st:∀i,i<n->∀Z hs,I i Z hs->∃x ρ' ρ2 h2,itm T w i hs=some (some x)/\tgt t x Z hs=some ρ'/\body ρ' hs=some (.next,ρ2,h2)/\I (i+1) ρ2 h2)
  (en:∀Z hs,I n Z hs->itm T w n hs=some none):
  ∀(m i k:Nat) (Z:Rho) (hs:Hs),n=i+m->m<k->I i Z hs->∃ρ2 h2,QaH T w t body k i Z hs=some (.next,ρ2,h2)/\I n ρ2 h2
 |m,i,0,Z,hs,e,l,h=>by lia
 |0,i,k+1,Z,hs,e,l,h=>by
  have e':n=i:=by lia
  subst e'
  exact⟨Z,hs,by simp only[QaH,en Z hs h],h⟩
 |m+1,i,k+1,Z,hs,e,l,h=>by
  obtain⟨x,ρ',ρ1,h1,a,b,c,d⟩:=st i (by lia) Z hs h
  obtain⟨ρ2,h2,g1,g2⟩:=Qk5 I st en m (i+1) k ρ1 h1 (by lia) (by lia) d
  exact⟨ρ2,h2,by simp only[QaH,a,b,c,g1],g2⟩
theorem QaM{T:Tbl}{f:Ev}{ft:Rho->Hs->Option (Bool×Hs)}{w:Wk}{el:E}{Z:Rho}(I:Nat->List U->Hs->Prop){n:Nat}
  (st:∀i,i<n->∀acc hs,I i acc hs->acc.length<1000000/\∃x b h1,itm T w i hs=some (some (.one x))/\ft (Z++[some x]) hs=some (b,h1)/\(b=true->∃u h2,f el (Z++[some x]) h1=some (u,h2)/\I (i+1) (acc++[u]) h2)/\(b=false->I (i+1) acc h1))
  (en:∀acc hs,I n acc hs->itm T w n hs=some none):
  ∀(m i k:Nat) (acc:List U) (hs:Hs),n=i+m->m<k->I i acc hs->∃us h2,Yo T f ft w false el Z k i acc hs=some (us,h2)/\I n us h2
 |m,i,0,acc,hs,e,l,h=>by lia
 |0,i,k+1,acc,hs,e,l,h=>by
  have e':n=i:=by lia
  subst e'
  exact⟨acc,hs,by simp only[Yo,en acc hs h],h⟩
 |m+1,i,k+1,acc,hs,e,l,h=>by
  obtain⟨la,x,b,h1,a,t,y,z⟩:=st i (by lia) acc hs h
  have sx:(Z++[none]).set Z.length (some x)=Z++[some x]:=by
   rw[Vz _ _ (Xh _),Uz];rfl
  cases b with
  |true=>
   obtain⟨u,h2,c,d⟩:=y rfl
   obtain⟨us,h3,g1,g2⟩:=QaM I st en m (i+1) k _ h2 (by lia) (by lia) d
   refine⟨us,h3,?_,g2⟩;rw[Yo];simp only[a,tgt,tgN,Qet,W8,V7,la,Wo,sx,t,Qm,c,g1]
  |false=>
   obtain⟨us,h3,g1,g2⟩:=QaM I st en m (i+1) k _ h1 (by lia) (by lia) (z rfl)
   refine⟨us,h3,?_,g2⟩;rw[Yo];simp only[a,tgt,tgN,Qet,W8,V7,la,Wo,sx,t,Qm,g1]
def Qdr{P:α->β->Prop}{l:List α}{r:List β}(h:Paired P l r){b:β}(e:r[i]?=some b):∃a,l[i]?=some a/\P a b:=by
 induction h generalizing i with
 |nil=>cases e
 |cons x _ ih=>
  cases i with
  |zero=>cases(show some _=some _ from e);exact⟨_,rfl,x⟩
  |succ i=>exact ih e
noncomputable abbrev iU(i:Int):U:=.int i 0
section
variable {a b:E}
def Zk{fs:List (Nat×U)}(hi:Z[i]?=some (sR q))(hq:h[q]?=some (.ins c fs))(hf:fs.lookup f=some u):ev T cf (d+2) (.fld (.var i) f) Z h=some (u,h):=by
 rw[ev,Qb hi,Qm];simp only[hq,hf,Option.map]
def Qmj{m:Nat}{o:E}{es:List E}:ev T cf (d+1) (.meth m o es) Z h=bd (ev T cf d o Z h) λu h1=>match Yg T m u h1 with
   |some f=>bd (evs (ev T cf d) Z es h1) λus h2=>cf f (u::(us++Qcp T f (us.length+1))) h2
   |none=>none:=rfl
def QoM{m:Nat}{fs:List (Nat×U)}(hi:Z[i]?=some (sR q))(hq:h[q]?=some (.ins c fs))(hC:T.cls[c]?=some C)(hf:C.meths.lookup m=some f)(hz:Qcp T f 1=[]):ev T cf (d+2) (.meth m (.var i) []) Z h=cf f [.ref q] h:=by
 have e:Yg T m (.ref q) h=some f:=by
  unfold Yg;simp only[hq,hC,hf]
 rw[Qmj,Qb hi,Qm];simp only[e,evs,Qm,V0,W5,hz,Vu]
def e_2{a b:E}{u:U}{f:Ev}(x:f a Z h=some (u,h1))(y:f b Z h1=some (w,h2)):evs f Z [a,b] h=some ([u,w],h2):=by simp only[evs,x,y,Qm]
def e_3{a b c:E}{u z:U}{f:Ev}(x:f a Z h=some (u,h1))(y:f b Z h1=some (w,h2))(t:f c Z h2=some (z,h3)):evs f Z [a,b,c] h=some ([u,w,z],h3):=by simp only[evs,x,y,t,Qm]
def YQ{a b:E}{u r:U}(x:ev T cf d a Z h=some (u,h1))(y:ev T cf d b Z h1=some (w,h2))(s:QX T u w h2=some r):ev T cf (d+1) (.ix a b) Z h=some (r,h2):=by rw[ZQ,x,Qm,y,Qm,s];rfl
def ZH{a:E}{u r:U}{k:Int}(x:ev T cf (d+1) a Z h=some (u,h1))(s:QX T u (iU k) h1=some r):ev T cf (d+2) (.ix a (.c (.int k 0))) Z h=some (r,h1):=YQ x y_c s
def ZI{t:Nat}{j:Nat}(ht:h[t]?=some (.tup us))(hj:us[j]?=some u):QX T (.ref t) (iU (j:Int)) h=some u:=by
 simp only[QX,ht];exact QmA hj
def QjI{t:Nat}{j:Nat}(ht:h[t]?=some (.lst us))(hj:us[j]?=some u):QX T (.ref t) (iU (j:Int)) h=some u:=by
 simp only[QX,ht];exact QmA hj
def Qoc{e:E}{b:Bool}(n:Qdt e=true)(x:ev T cf d e Z h=some (.bl b,h1)):evT T cf (d+1) e Z h=some (b,h1):=by
 have z:evT T cf (d+1) e Z h=bd (ev T cf d e Z h) λu h1=>(Zo T u h1).map λc=>(c,h1):=by
  cases e<;>first|rfl|cases n
 rw[z,x,Qm];rfl
def QeL{a:E}{c:Bool}(x:evT T cf d a Z h=some (c,h1)):evT T cf (d+1) (.not a) Z h=some (!c,h1):=by rw[Qz,x,Qm]
def QfQ{a b:E}{c:Bool}{r:Option (Bool×Hs)}(x:evT T cf d a Z h=some (c,h1))(y:(if c=true then some (true,h1)else evT T cf d b Z h1)=r):evT T cf (d+1) (.or a b) Z h=r:=by rw[Q2,x,Qm];exact y
def QeA{a b:E}{c:Bool}{r:Option (U×Hs)}(x:evT T cf d t Z h=some (c,h1))(y:(if c=true then ev T cf d a Z h1 else ev T cf d b Z h1)=r):ev T cf (d+1) (.ife t a b) Z h=r:=by rw[QV,x,Qm];exact y
def Qju(k:Kp h h1)(e:ZY T u h=some xs):ZY T u h1=some xs:=by
 cases u with
 |ref n=>
  simp only[ZY]at e ⊢
  cases q:h[n]? with
  |none=>rw[q]at e;cases e
  |some o=>rw[q]at e;rw[k _ _ q];exact e
 |_=>exact e
def Qgd(k:Kp h h1)(e:QU T u h=some xs):QU T u h1=some xs:=by
 cases u with
 |ref n=>
  simp only[QU]at e ⊢
  cases q:h[n]? with
  |none=>rw[q]at e;cases e
  |some o=>rw[q]at e;rw[k _ _ q];exact e
 |_=>exact e
def Qai(e:ZY T u h=some xs):QU T u h=none:=by
 cases u with
 |ref n=>
  simp only[ZY,QU]at e ⊢
  cases q:h[n]? with
  |none=>rfl
  |some o=>rw[q]at e;cases o<;>first|rfl|cases e
 |con n=>
  simp only[ZY,QU]at e ⊢
  cases q:T.cons[n]? with
  |none=>rfl
  |some o=>rw[q]at e;cases o<;>first|rfl|cases e
 |_=>cases e
def QL(e:h[n]?=some (.lst xs)):QU T (.ref n) h=some xs:=by simp only[QU,e]
def Yb(e:h[n]?=some (.tup xs)):ZY T (.ref n) h=some xs:=by simp only[ZY,e]
def Sq(T:Tbl)(u:U)(h:Hs)(xs:List U):Prop:=QU T u h=some xs\/ZY T u h=some xs
def Qay(e:QU T u h=some xs):sqU T (QU T u h).isSome u h=some xs/\∀h1,Kp h h1->sqU T (QU T u h).isSome u h1=some xs:=by rw[e];exact⟨e,λh1 k=>Qgd k e⟩
theorem QiD{f:Ev}{ft:E->Rho->Hs->Option (Bool×Hs)}{w:Wk}{bb:Bool}{el:E}{α:Type}{L:List α}{im:α->Im}{r:α->Rho}(F:α->U->Hs->Prop)(mono:∀a u h h',Kp h h'->F a u h->F a u h')(hit:∀(i:Nat) hs,Kp h1 hs->itm T w i hs=some ((L[i]?).map im))
  (ht:∀a hs,tgt (tgN bb Z.length) (im a) (Z++Qet bb) hs=some (r a)) (st:∀a∈L,∀hs,Kp h1 hs->∃u h2,f el (r a) hs=some (u,h2)/\Kp hs h2/\F a u h2):
  ∀(m i k:Nat) (acc:List U) (hs:Hs),L.length=i+m->m<k->L.length<=900000->Kp h1 hs->Paired (λu a=>F a u hs) acc (L.take i)->∃us h2,Yo T f (Qaf ft none) w bb el Z k i acc hs=some (us,h2)/\Kp h1 h2/\Paired (λu a=>F a u h2) us L
 |m,i,0,acc,hs,e,l,_,_,_=>by lia
 |0,i,k+1,acc,hs,e,l,_,kp,pr=>by
  have e':L.length<=i:=by lia
  refine⟨acc,hs,?_,kp,by rw[X9 e']at pr;exact pr⟩
  have:itm T w i hs=some none:=by rw[hit i hs kp,W3 e'];rfl
  simp only[Yo,this]
 |m+1,i,k+1,acc,hs,e,l,l9,kp,pr=>by
  have lt:i<L.length:=by lia
  have ei:itm T w i hs=some (some (im L[i])):=by rw[hit i hs kp,Xk lt];rfl
  obtain⟨u,h3,a,kp3,fu⟩:=st L[i] (Tr lt) hs kp
  have la:acc.length<1000000:=by rw[Qk pr,X7];lia
  obtain⟨us,h4,b,kp4,p4⟩:=QiD F mono hit ht st m (i+1) k (acc++[u]) h3 (by lia) (by lia) l9 (kp.trans kp3) (by
   rw[Wl,Xk lt]
   exact Ye (P:=λu a=>F a u h3) fu (Qi (λz z=>mono _ _ _ _ kp3) pr))
  refine⟨us,h4,?_,kp4,p4⟩;rw[Yo];simp only[ei,ht,la,Wo,Qaf,Qm,a];exact b
def QoT{x:U}:(Z++[none]).set Z.length (some x)=Z++[some x]:=by
 rw[Vz _ _ (Xh _),Uz];rfl
def Ql4{w:Wk}(F:U->U->Hs->Prop)(mono:∀a u h h',Kp h h'->F a u h->F a u h')(es:Zl T (ev T cf d) Z src h=some (w,h1))(tn:L.length<Zn T w h1)(ll:L.length<=900000)(hit:∀(i:Nat) hs,Kp h1 hs->itm T w i hs=some ((L[i]?).map .one))
  (st:∀x∈L,∀hs,Kp h1 hs->∃u h2,ev T cf d el (Z++[some x]) hs=some (u,h2)/\Kp hs h2/\F x u h2):∃us h2,ev T cf (d+1) (.comp src false none el) Z h=some (.ref h2.length,h2++[.lst us])/\Kp h1 h2/\Paired (λu a=>F a u h2) us L:=by
 obtain⟨us,h2,a,k,p⟩:=QiD (T:=T) (Z:=Z) (f:=ev T cf d) (ft:=evT T cf d) (w:=w) (bb:=false) (el:=el) (im:=Im.one) (r:=λx=>Z++[some x]) F mono hit (λx hs=>by simp only[tgN,Qet,tgt,W8,V7,QoT]) st L.length 0 _ [] h1 (W5 _).symm tn ll (Kp.refl _) .nil
 exact⟨us,h2,Qah es a,k,p⟩
def J1(F:U->U->Hs->Prop)(mono:∀a u h h',Kp h h'->F a u h->F a u h')(v:ev T cf d e Z h=some (u,h1))(s:Sq T u h1 L)(ll:L.length<=900000)
  (st:∀x∈L,∀hs,Kp h1 hs->∃u h2,ev T cf d el (Z++[some x]) hs=some (u,h2)/\Kp hs h2/\F x u h2):∃us h2,ev T cf (d+1) (.comp (.seq e) false none el) Z h=some (.ref h2.length,h2++[.lst us])/\Kp h1 h2/\Paired (λu a=>F a u h2) us L:=by
 rcases s with s|s
 ·exact Ql4 (w:=.seqL u) F mono (by simp only[Zl,v,Qm,wkS,s];rfl) (by simp only[Zn,s,Vy];lia) ll (λi hs k=>by simp only[itm,Qgd k s,Option.map]) st
 ·exact Ql4 (w:=.seqT u) F mono (by simp only[Zl,v,Qm,wkS,s,Qai s];rfl) (by simp only[Zn,s,Vy];lia) ll (λi hs k=>by simp only[itm,Qju k s,Option.map]) st
def Qjs:two xs ys i=((xs.zip ys)[i]?).map λp=>.two p.1 p.2:=by
 unfold two;show _=((List.zipWith Prod.mk xs ys)[i]?).map _;rw[List.getElem?_zipWith];cases xs[i]?<;>cases ys[i]?<;>rfl
def Qjh{u:U}(sa:QU T u h=some xs)(sb:QU T w h=some ys):wkZ T u w h=some (.zipB (QU T u h).isSome (QU T w h).isSome u w):=by
 simp only[wkZ,(Qay sa).1,(Qay sb).1,Option.isSome_some,T8,Wo]
def Qi6{u:U}(sa:QU T u h=some xs)(sb:QU T w h=some ys)(i:Nat)(hs:Hs)(k:Kp h hs):itm T (.zipB (QU T u h).isSome (QU T w h).isSome u w) i hs=some (((xs.zip ys)[i]?).map λp=>.two p.1 p.2):=by
 simp only[itm,(Qay sa).2 hs k,(Qay sb).2 hs k,Qjs]
def Qf2{g:α->U}{L:List α}(h:Paired (λu a=>u=g a) us L):us=L.map g:=by
 induction h with
 |nil=>rfl
 |cons a _ ih=>rw[X1,<-ih,a]
variable {r:List S}{t:Tg}
def YV{w:Wk}{L:List α}{im:α->Im}(I:Nat->Rho->Hs->Prop)(es:Zl T (ev T cf d) Z src h=some (w,h1))(tn:L.length<Zn T w h1)(hit:∀i Z hs,I i Z hs->itm T w i hs=some ((L[i]?).map im))(h0:I 0 Z h1)
  (st:∀i a,L[i]?=some a->∀Z hs,I i Z hs->∃ρ' ρ2 h2,tgt t (im a) Z hs=some ρ'/\exs T cf d body ρ' hs=some (.next,ρ2,h2)/\I (i+1) ρ2 h2) (k:∀ρ2 h2,I L.length ρ2 h2->Xx T cf (d+1) r ρ2 h2 Q):Xx T cf (d+2) (.loop t src body::r) Z h Q:=by
 obtain⟨ρ2,h2,a,b⟩:=Qk5 (T:=T) (w:=w) (t:=t) (body:=exs T cf d body) I (n:=L.length) (λi hi Z hs z=>by
  obtain⟨ρ',ρ2,h2,a,b,c⟩:=st i _ (Xk hi) Z hs z
  exact⟨_,ρ',ρ2,h2,by rw[hit i Z hs z,Xk hi];rfl,a,b,c⟩) (λZ hs z=>by rw[hit _ Z hs z,W3 (Xh _)];rfl) L.length 0 _ Z h1 (W5 _).symm tn h0
 exact QfY es ⟨ρ2,h2,a,k ρ2 h2 b⟩
def Yw(I:Nat->Rho->Hs->Prop)(v:ev T cf d e Z h=some (u,h1))(hl:∀i Z hs,I i Z hs->QU T u hs=some L)(h0:I 0 Z h1)
  (st:∀i x,L[i]?=some x->∀Z hs,I i Z hs->∃ρ' ρ2 h2,tgt t (.one x) Z hs=some ρ'/\exs T cf d body ρ' hs=some (.next,ρ2,h2)/\I (i+1) ρ2 h2) (k:∀ρ2 h2,I L.length ρ2 h2->Xx T cf (d+1) r ρ2 h2 Q):Xx T cf (d+2) (.loop t (.seq e) body::r) Z h Q:=by
 have s:=hl _ _ _ h0
 exact YV (w:=.seqL u) (im:=Im.one) I (by simp only[Zl,v,Qm,wkS,s];rfl) (by simp only[Zn,s,Vy];lia) (λi Z hs z=>by simp only[itm,hl _ _ _ z,Option.map]) h0 st k
def Qno(I:Nat->Rho->Hs->Prop)(v:ev T cf d e Z h=some (u,h1))(hl:∀i Z hs,I i Z hs->QU T u hs=some L)(h0:I 0 Z h1)
  (st:∀i x,L[i]?=some x->∀Z hs,I i Z hs->∃ρ' ρ2 h2,tgt t (.two (iU (i:Int)) x) Z hs=some ρ'/\exs T cf d body ρ' hs=some (.next,ρ2,h2)/\I (i+1) ρ2 h2) (k:∀ρ2 h2,I L.length ρ2 h2->Xx T cf (d+1) r ρ2 h2 Q):Xx T cf (d+2) (.loop t (.enm e) body::r) Z h Q:=by
 have s:=hl _ _ _ h0
 refine YV (w:=.enmL u) (L:=L.zipIdx) (im:=λp:U×Nat=>Im.two (iU (p.2:Int)) p.1) I (by simp only[Zl,v,Qm,s]) (by simp only[Zn,s,Vy,Tf];lia) (λi Z hs z=>?_) h0 (λi a ha Z hs z=>?_) (by rw[Tf];exact k)
 ·simp only[itm,hl _ _ _ z,Option.map,U2,W5];cases L[i]?<;>rfl
 ·rw[U2,W5]at ha
  cases q:L[i]? with
  |none=>rw[q]at ha;cases ha
  |some x=>rw[q]at ha;cases ha;exact st i x q Z hs z
def QgA(hi:Z[i]?=some (sI x))(v:ev T cf d e Z h=some (.int y 0,h1)):ex T cf (d+1) (.aug i .Add e) Z h=some (.next,Z.set i (sI (x+y)),h1):=by
 rw[QmE,hi];simp only[v,Qm,Qi3];rfl
end
def Pc(T:Tbl)(m f:Nat)(us:List U)(h:Hs)(Q:U->Hs->Prop):Prop:=∃u h1,Qa T m f us h=some (u,h1)/\Kp h h1/\Q u h1
def Pc.of{m:Nat}{Q:U->Hs->Prop}(c:Cc T m f us h λu h1=>Kp h h1/\Q u h1):Pc T m f us h Q:=c
def kp1:Kp h (h++[o]):=Kp.app h [o]
def Qla:(h++[o])[h.length]?=some o:=at0
noncomputable def sg(l:List Nat)(z:Int):Nat:=(l[(z % (l.length:Int)).toNat]?).getD 0
def Qc7{l:List Nat}{k:Int}(hk:(l.length:Int)=k)(h0:0<k)(hl:l.length<=1000000)(z:Int):QX T (.str l) (.int (z % k) 0) hs=some (.str [sg l z]):=by
 subst hk;have h1:=Int.emod_nonneg z (Int.ne_of_gt h0);have h2:=Int.emod_lt_of_pos z h0
 have h3:(z % (l.length:Int)).toNat<l.length:=by lia
 have e:atU l (z % (l.length:Int))=some (sg l z):=by
  unfold atU ixU sg;rw[if_pos h1,if_pos h2];simp[h3]
 simp[QX,hl,e]
def Qde{l:List Nat}(h:0<l.length)(z:Int):sg l z∈l:=by
 have h0:(0:Int) < (l.length:Int):=by lia
 have h1:=Int.emod_nonneg z (Int.ne_of_gt h0);have h2:=Int.emod_lt_of_pos z h0
 have h3:(z % (l.length:Int)).toNat<l.length:=by lia
 unfold sg;rw[Xk h3];exact Tr h3
inductive Mk:List Nat->Prop
 |bare {a:Nat} (h:a∈[107,112,115,111,98]):Mk [a]
 |lean {a b c:Nat} (h:a∈[107,112]) (hb:b∈[50,51,52]) (hc:c∈[114,108]):Mk [a,b,c]
 |grow {a b:Nat} (h:a∈[107,112]) (hb:b∈[50,51,52]):Mk [a,120,b]
 |cross {a b c e:Nat} (h:a∈[99,113]) (hb:b∈[49,50,51,52]) (hc:c∈[102,98]) (he:e∈[49,50,51,52]):Mk [a,b,c,e]
 |keep {a b:Nat} (h:a∈[104,102]) (hb:b∈[119,120,121,122]):Mk [a,b]
def Mk.len(h:Mk m):1<=m.length/\m.length<=4:=by cases h<;>exact⟨by simp,by simp⟩
def ZE{x y:List Nat}(l:x.length+y.length<=1000000):opU .Add (.str x) (.str y) h=some (.str (x++y),h):=if_pos l
def Qa9{r:List S}{k:Int}(hi:Z[2]?=some (sI k))(yes:Rr T cf (d+1) e Z h λu h1=>Q (.ret u) Z h1)(no:Xx T cf (d+4) r Z h Q):Xx T cf (d+5) (.ite (.cmp .Eq Vc (.c (.int j 0))) [.ret e] []::r) Z h Q:=by
 refine Qke (d:=d+3) (QmU hi) ?_;by_cases c:k=j
 ·rw[if_pos (Wt c)];exact Yd yes
 ·rw[if_neg (by simpa using c)]
  exact Z2 no
def QqU:∃m,Mk m/\Qa (tb s) (n+1) 68 [.int x 0] hs=some (.str m,hs):=by
 suffices z:Cc (tb s) (n+1) 68 [.int x 0] hs λu h1=>h1=hs/\∃m,Mk m/\u=.str m by
  obtain⟨_,_,e,rfl,m,hm,rfl⟩:=z;exact⟨m,hm,e⟩
 have q2:∀(a b:Nat) (z:Int),QX (tb s) (.str [a,b]) (.int (z % 2) 0) hs=some (.str [sg [a,b] z]):=λa b z=>Qc7 (k:=2) rfl (by decide) (by simp) z
 have q3:∀(a b c:Nat) (z:Int),QX (tb s) (.str [a,b,c]) (.int (z % 3) 0) hs=some (.str [sg [a,b,c] z]):=λa b c z=>Qc7 (k:=3) rfl (by decide) (by simp) z
 have q4:∀(a b c e:Nat) (z:Int),QX (tb s) (.str [a,b,c,e]) (.int (z % 4) 0) hs=some (.str [sg [a,b,c,e] z]):=λa b c e z=>Qc7 (k:=4) rfl (by decide) (by simp) z
 have M2:∀(a b:Nat) (z:Int),sg [a,b] z∈[a,b]:=λa b z=>Qde (by simp) z
 have M3:∀(a b c:Nat) (z:Int),sg [a,b,c] z∈[a,b,c]:=λa b c z=>Qde (by simp) z
 have M4:∀(a b c e:Nat) (z:Int),sg [a,b,c,e] z∈[a,b,c,e]:=λa b c e z=>Qde (by simp) z
 have md:∀{d i:Nat} {y j:Int} {Z:Rho},Z[i]?=some (sI y)->0<j->ev (tb s) (Qa (tb s) n) (d+2) (.op .Mod (.var i) (.c (.int j 0))) Z hs=some (.int (y % j) 0,hs):=λh hj=>Qcg (Qb h) hj
 refine Qbu (Qe fnL[68] rfl rfl) (Jc ((QD (d:=98) (md (d:=96) rfl (by decide))).trans ((QD (d:=97) (Qcg (d:=95) (Qc0 (d:=94) (Qb rfl) (by decide)) (by decide))).trans (QD (d:=96) (Qc0 (d:=94) (Qb rfl) (by decide))))) (Qa9 (d:=92) rfl (Jo y_c ⟨rfl,_,.bare (by simp),rfl⟩) (Qa9 (d:=91) rfl (Jo y_c ⟨rfl,_,.bare (by simp),rfl⟩) (Qa9 (d:=90) rfl ?_ (Qa9 (d:=89) rfl ?_ (Qa9 (d:=88) rfl ?_ (Qa9 (d:=87) rfl (Jo y_c ⟨rfl,_,.bare (by simp),rfl⟩) (Qa9 (d:=86) rfl ?_ ?_))))))))
 ·exact Jo (Zu (d:=90) (Zu (d:=89) (YQ (d:=88) y_c (Qb rfl) (q2 107 112 x)) (YQ (d:=88) y_c (md (d:=86) rfl (by decide)) (q3 50 51 52 (x / 18))) (ZE (by simp))) (YQ (d:=89) y_c (Qcg (d:=87) (Qc0 (d:=86) (Qb rfl) (by decide)) (by decide)) (q2 114 108 (x / 18 / 3))) (ZE (by simp))) ⟨rfl,_,.lean (M2 107 112 x) (M3 50 51 52 (x / 18)) (M2 114 108 (x / 18 / 3)),rfl⟩
 ·exact Jo (Zu (d:=89) (Zu (d:=88) (YQ (d:=87) y_c (Qb rfl) (q2 107 112 x)) y_c (ZE (by simp))) (YQ (d:=88) y_c (md (d:=86) rfl (by decide)) (q3 50 51 52 (x / 18))) (ZE (by simp))) ⟨rfl,_,.grow (M2 107 112 x) (M3 50 51 52 (x / 18)),rfl⟩
 ·exact Jo (Zu (d:=88) (Zu (d:=87) (Zu (d:=86) (YQ (d:=85) y_c (Qb rfl) (q2 99 113 x)) (YQ (d:=85) y_c (md (d:=83) rfl (by decide)) (q4 49 50 51 52 (x / 18))) (ZE (by simp))) (YQ (d:=86) y_c (Qcg (d:=84) (Qc0 (d:=83) (Qb rfl) (by decide)) (by decide)) (q2 102 98 (x / 18 / 4))) (ZE (by simp))) (YQ (d:=87) y_c (Qcg (d:=85) (Qc0 (d:=84) (Qb rfl) (by decide)) (by decide)) (q4 49 50 51 52 (x / 18 / 8))) (ZE (by simp))) ⟨rfl,_,.cross (M2 99 113 x) (M4 49 50 51 52 (x / 18)) (M2 102 98 (x / 18 / 4)) (M4 49 50 51 52 (x / 18 / 8)),rfl⟩
 ·exact Jo (Zu (d:=86) (YQ (d:=85) y_c (Qb rfl) (q2 104 102 x)) (YQ (d:=85) y_c (md (d:=83) rfl (by decide)) (q4 119 120 121 122 (x / 18))) (ZE (by simp))) ⟨rfl,_,.keep (M2 104 102 x) (M4 119 120 121 122 (x / 18)),rfl⟩
 ·refine Yd (d:=88) (Jo (YQ (d:=87) y_c (Qb rfl) (q2 107 112 x)) ⟨rfl,_,.bare (a:=sg [107,112] x) ?_,rfl⟩);have:=M2 107 112 x;simp only[Xd,Xf,Xy]at this ⊢;lia
def QeX{a c:O}{r:Hs}:(hs++a::r).set hs.length c=hs++c::r:=by rw[Vz _ _ (Xh _),Uz];rfl
def QiX{T:Tbl}{cf:Cf}{d f:Nat}{o e:E}{Z:Rho}{hs:Hs}:ex T cf (d+1) (.fld o f e) Z hs=bd (ev T cf d e Z hs) λu h1=>bd (ev T cf d o Z h1) λx h2=>match x with
   |.ref n=>match h2[n]? with
    |some (.ins c fs)=>if fs.length<500 then some (.next,Z,h2.set n (.ins c (JO f u fs)))else none
    |_=>none
   |_=>none:=rfl
def Qeq{T:Tbl}{cf:Cf}{d f:Nat}{a:E}{Z:Rho}{hs:Hs}:ev T cf (d+1) (.fld a f) Z hs=bd (ev T cf d a Z hs) λu h1=>match u with
   |.ref n=>match h1[n]? with
    |some (.ins _ fs)=>(fs.lookup f).map λx=>(x,h1)
    |_=>none
   |_=>none:=rfl
def Qcc{k:Nat}{b:E}:ev T cf (d+1) (.tab k b) Z hs=bd (ev T cf d b Z hs) λw h1=>(QeK T k w).map λx=>(x,h1):=rfl
def QcT:ev T cf (d+1) (.make c es) Z hs=bd (evs (ev T cf d) Z es hs) λus h1=>ZM T cf c us h1:=rfl
def Sk(s:List U)(o:O)(m:List Nat):Prop:=∃c fs,o=.ins c fs/\∃f,f<44/\(∀p hs,hs[p]?=some o->Yg (tb s) 4 (.ref p) hs=some f)/\∀n p hs,hs[p]?=some o->Qa (tb s) (n+1) f [.ref p] hs=some (.str m,hs)
noncomputable def sd(a:Nat):Int:=if a=107\/a=99 then 1 else -1
section

def tS(h:a∈[107,112]):QeK (tb s) 3 (.str [a])=sI (sd a)/\QeK (tb s) 1 (.int (sd a) 0)=some (.str [a])/\Q0 (tb s) .In (.str [a]) (.con 3) hs=some true/\Q0 (tb s) .NotIn (.str [a]) (.con 3) hs=some false:=by
 simp only[Xd,Xf,Xy]at h
 rcases h with rfl|rfl<;>exact⟨rfl,rfl,rfl,rfl⟩
def tC(h:a∈[99,113]):QeK (tb s) 4 (.str [a])=sI (sd a)/\QeK (tb s) 2 (.int (sd a) 0)=some (.str [a])/\Q0 (tb s) .In (.str [a]) (.con 4) hs=some true:=by
 simp only[Xd,Xf,Xy]at h
 rcases h with rfl|rfl<;>exact⟨rfl,rfl,rfl⟩
def tM(h:b∈[50,51,52]):QeK (tb s) 7 (.str [b])=some (.int ((b:Int) - 48) 0)/\Q0 (tb s) .In (.str [b]) (.con 7) hs=some true/\biU (tb s) .str [.int ((b:Int) - 48) 0] hs=some (.str [b],hs)/\b≠120:=by
 simp only[Xd,Xf,Xy]at h
 rcases h with rfl|rfl|rfl<;>exact⟨rfl,rfl,rfl,by decide⟩
def tX(h:b∈[49,50,51,52]):QeK (tb s) 8 (.str [b])=some (.int ((b:Int) - 48) 0)/\Q0 (tb s) .In (.str [b]) (.con 8) hs=some true/\biU (tb s) .str [.int ((b:Int) - 48) 0] hs=some (.str [b],hs):=by
 simp only[Xd,Xf,Xy]at h
 rcases h with rfl|rfl|rfl|rfl<;>exact⟨rfl,rfl,rfl⟩
def tK(h:b∈[119,120,121,122]):Q0 (tb s) .NotIn (.str [b]) (.con 0) hs=some false:=by
 simp only[Xd,Xf,Xy]at h
 rcases h with rfl|rfl|rfl|rfl<;>rfl
def tL(h:b∈[114,108]):Q0 (tb s) .In (.str [b]) (.con 5) hs=some true:=by
 simp only[Xd,Xf,Xy]at h
 rcases h with rfl|rfl<;>rfl
def tF(h:b∈[102,98]):Q0 (tb s) .In (.str [b]) (.con 6) hs=some true:=by
 simp only[Xd,Xf,Xy]at h
 rcases h with rfl|rfl<;>rfl
def Qbl{fs:List (Nat×U)}(h:∃C,(tb s).cls[c]?=some C/\C.meths.lookup 4=some f):∀p hs,hs[p]?=some (.ins c fs)->Yg (tb s) 4 (.ref p) hs=some f:=λp hs e=>by
 obtain⟨C,h1,h2⟩:=h;unfold Yg;simp only[e,h1,h2]
def Qie:Qa (tb s) (n+1) 2 [.ref hs.length,u] (hs++[.ins 1 []])=some (.non,hs++[.ins 1 [(0,u)]]):=by
 rw[Qe fnL[2] rfl rfl];show fin (exs (tb s) (Qa (tb s) n) 100 b2 [sR hs.length,some u] (hs++[.ins 1 []]))=_;generalize Qa (tb s) n=cf;generalize tb s=T;simp[b2,Qm,QI,Qj,Qo,QG,Qy,QC,y_c,Q6,QH,Zs,QO,QN,Q5,QV,Qx,Qw,ZQ,Qt,ZR,Q1,ZC,Q7,ZX,Qz,Qu,Q2,Qp,QE,QA,evs,Q0,eq_int,Zo,QX,opU,ZG,biU,biL,fin,QiX,at0,QeX,JO]
def Qlq:Qa (tb s) (n+1) 34 [.ref hs.length,u] (hs++[.ins 8 []])=some (.non,hs++[.ins 8 [(5,u)]]):=by
 rw[Qe fnL[34] rfl rfl];show fin (exs (tb s) (Qa (tb s) n) 100 b34 [sR hs.length,some u] (hs++[.ins 8 []]))=_;generalize Qa (tb s) n=cf;generalize tb s=T;simp[b34,Qm,QI,Qj,Qo,QG,Qy,QC,y_c,Q6,QH,Zs,QO,QN,Q5,QV,Qx,Qw,ZQ,Qt,ZR,Q1,ZC,Q7,ZX,Qz,Qu,Q2,Qp,QE,QA,evs,Q0,eq_int,Zo,QX,opU,ZG,biU,biL,fin,QiX,at0,QeX,JO]
def Qif:Qa (tb s) (n+1) 39 [.ref hs.length,u] (hs++[.ins 9 []])=some (.non,hs++[.ins 9 [(5,u)]]):=by
 rw[Qe fnL[39] rfl rfl];show fin (exs (tb s) (Qa (tb s) n) 100 b39 [sR hs.length,some u] (hs++[.ins 9 []]))=_;generalize Qa (tb s) n=cf;generalize tb s=T;simp[b39,Qm,QI,Qj,Qo,QG,Qy,QC,y_c,Q6,QH,Zs,QO,QN,Q5,QV,Qx,Qw,ZQ,Qt,ZR,Q1,ZC,Q7,ZX,Qz,Qu,Q2,Qp,QE,QA,evs,Q0,eq_int,Zo,QX,opU,ZG,biU,biL,fin,QiX,at0,QeX,JO]
def Qlr:Qa (tb s) (n+1) 20 [.ref hs.length,u,w] (hs++[.ins 5 []])=some (.non,hs++[.ins 5 [(1,u),(0,w)]]):=by
 rw[Qe fnL[20] rfl rfl];show fin (exs (tb s) (Qa (tb s) n) 100 b20 [sR hs.length,some u,some w] (hs++[.ins 5 []]))=_;generalize Qa (tb s) n=cf;generalize tb s=T;simp[b20,Qm,QI,Qj,Qo,QG,Qy,QC,y_c,Q6,QH,Zs,QO,QN,Q5,QV,Qx,Qw,ZQ,Qt,ZR,Q1,ZC,Q7,ZX,Qz,Qu,Q2,Qp,QE,QA,evs,Q0,eq_int,Zo,QX,opU,ZG,biU,biL,fin,QiX,at0,QeX,JO]
def Qlp{x:U}:Qa (tb s) (n+1) 15 [.ref hs.length,u,w,x] (hs++[.ins 4 []])=some (.non,hs++[.ins 4 [(1,u),(2,w),(0,x)]]):=by
 rw[Qe fnL[15] rfl rfl];show fin (exs (tb s) (Qa (tb s) n) 100 b15 [sR hs.length,some u,some w,some x] (hs++[.ins 4 []]))=_;generalize Qa (tb s) n=cf;generalize tb s=T;simp[b15,Qm,QI,Qj,Qo,QG,Qy,QC,y_c,Q6,QH,Zs,QO,QN,Q5,QV,Qx,Qw,ZQ,Qt,ZR,Q1,ZC,Q7,ZX,Qz,Qu,Q2,Qp,QE,QA,evs,Q0,eq_int,Zo,QX,opU,ZG,biU,biL,fin,QiX,at0,QeX,JO]
def Qig{x y:U}:Qa (tb s) (n+1) 25 [.ref hs.length,u,w,x,y] (hs++[.ins 6 []])=some (.non,hs++[.ins 6 [(3,u),(4,w),(2,x),(0,y)]]):=by
 rw[Qe fnL[25] rfl rfl];show fin (exs (tb s) (Qa (tb s) n) 100 b25 [sR hs.length,some u,some w,some x,some y] (hs++[.ins 6 []]))=_;generalize Qa (tb s) n=cf;generalize tb s=T;simp[b25,Qm,QI,Qj,Qo,QG,Qy,QC,y_c,Q6,QH,Zs,QO,QN,Q5,QV,Qx,Qw,ZQ,Qt,ZR,Q1,ZC,Q7,ZX,Qz,Qu,Q2,Qp,QE,QA,evs,Q0,eq_int,Zo,QX,opU,ZG,biU,biL,fin,QiX,at0,QeX,JO]
end
section

def Qfi:ZM (tb s) (Qa (tb s) (n+1)) 1 [u] hs=some (.ref hs.length,hs++[.ins 1 [(0,u)]]):=by
 show(match Qa (tb s) (n+1) 2 (.ref hs.length::[u]) (hs++[.ins 1 []])with|some (.non,h2)=>some (U.ref hs.length,h2)|_=>none)=_
 rw[Qie]
def Qh2:ZM (tb s) (Qa (tb s) (n+1)) 8 [u] hs=some (.ref hs.length,hs++[.ins 8 [(5,u)]]):=by
 show(match Qa (tb s) (n+1) 34 (.ref hs.length::[u]) (hs++[.ins 8 []])with|some (.non,h2)=>some (U.ref hs.length,h2)|_=>none)=_
 rw[Qlq]
def Qfj:ZM (tb s) (Qa (tb s) (n+1)) 9 [u] hs=some (.ref hs.length,hs++[.ins 9 [(5,u)]]):=by
 show(match Qa (tb s) (n+1) 39 (.ref hs.length::[u]) (hs++[.ins 9 []])with|some (.non,h2)=>some (U.ref hs.length,h2)|_=>none)=_
 rw[Qif]
def Qh3:ZM (tb s) (Qa (tb s) (n+1)) 5 [u,w] hs=some (.ref hs.length,hs++[.ins 5 [(1,u),(0,w)]]):=by
 show(match Qa (tb s) (n+1) 20 (.ref hs.length::[u,w]) (hs++[.ins 5 []])with|some (.non,h2)=>some (U.ref hs.length,h2)|_=>none)=_
 rw[Qlr]
def Qh1{x:U}:ZM (tb s) (Qa (tb s) (n+1)) 4 [u,w,x] hs=some (.ref hs.length,hs++[.ins 4 [(1,u),(2,w),(0,x)]]):=by
 show(match Qa (tb s) (n+1) 15 (.ref hs.length::[u,w,x]) (hs++[.ins 4 []])with|some (.non,h2)=>some (U.ref hs.length,h2)|_=>none)=_
 rw[Qlp]
def Qfk{x y:U}:ZM (tb s) (Qa (tb s) (n+1)) 6 [u,w,x,y] hs=some (.ref hs.length,hs++[.ins 6 [(3,u),(4,w),(2,x),(0,y)]]):=by
 show(match Qa (tb s) (n+1) 25 (.ref hs.length::[u,w,x,y]) (hs++[.ins 6 []])with|some (.non,h2)=>some (U.ref hs.length,h2)|_=>none)=_
 rw[Qig]
def Qbi(h:(tb s).cls[c]?=some C)(h':C.init=none):ZM (tb s) cf c [] hs=some (.ref hs.length,hs++[.ins c []]):=by
 unfold ZM;simp only[h,h',Wo]
def eqs{x y:List Nat}:Q0 T .Eq (.str x) (.str y) hs=some (decide (x=y)):=rfl
def eqi:Q0 T .Eq (.int x 0) (.int y 0) hs=some (decide (x=y)):=rfl
def QeN(h:a∈[107,112]):Sk s (.ins 1 [(0,.int (sd a) 0)]) [a]:=by
 refine⟨1,_,rfl,6,by decide,Qbl ⟨_,rfl,rfl⟩,λn p hs e=>?_⟩
 have t:=(tS (s:=s) (hs:=hs) h).2.1;rw[Qe fnL[6] rfl rfl];show fin (exs (tb s) (Qa (tb s) n) 100 b6 [sR p] hs)=_;generalize Qa (tb s) n=cf;generalize tb s=T at t ⊢;simp[b6,Qm,QI,Qj,Qo,QG,Qy,QC,y_c,Q6,QH,Zs,QO,QN,Q5,QV,Qx,Qw,ZQ,Qt,ZR,Q1,ZC,Q7,ZX,Qz,Qu,Q2,Qp,QE,QA,evs,Q0,eq_int,Zo,QX,opU,ZG,biU,biL,fin,Qeq,Qcc,e,t]
def Qc9{x:List Nat}(hc:f<44)(hm:∃C,(tb s).cls[c]?=some C/\C.meths.lookup 4=some f)(hf:∀n p hs,Qa (tb s) (n+1) f [.ref p] hs=some (.str x,hs)):Sk s (.ins c []) x:=⟨c,[],rfl,f,hc,Qbl hm,λn p hs z=>hf n p hs⟩
def Qg1:Sk s (.ins 8 [(5,.str [b])]) [104,b]:=by
 refine⟨8,_,rfl,38,by decide,Qbl ⟨_,rfl,rfl⟩,λn p hs e=>?_⟩
 rw[Qe fnL[38] rfl rfl];show fin (exs (tb s) (Qa (tb s) n) 100 b38 [sR p] hs)=_;generalize Qa (tb s) n=cf;generalize tb s=T;simp[b38,Qm,QI,Qj,Qo,QG,Qy,QC,y_c,Q6,QH,Zs,QO,QN,Q5,QV,Qx,Qw,ZQ,Qt,ZR,Q1,ZC,Q7,ZX,Qz,Qu,Q2,Qp,QE,QA,evs,Q0,eq_int,Zo,QX,opU,ZG,biU,biL,fin,Qeq,Qcc,e]
def QeO:Sk s (.ins 9 [(5,.str [b])]) [102,b]:=by
 refine⟨9,_,rfl,43,by decide,Qbl ⟨_,rfl,rfl⟩,λn p hs e=>?_⟩
 rw[Qe fnL[43] rfl rfl];show fin (exs (tb s) (Qa (tb s) n) 100 b43 [sR p] hs)=_;generalize Qa (tb s) n=cf;generalize tb s=T;simp[b43,Qm,QI,Qj,Qo,QG,Qy,QC,y_c,Q6,QH,Zs,QO,QN,Q5,QV,Qx,Qw,ZQ,Qt,ZR,Q1,ZC,Q7,ZX,Qz,Qu,Q2,Qp,QE,QA,evs,Q0,eq_int,Zo,QX,opU,ZG,biU,biL,fin,Qeq,Qcc,e]
def Qg2(h:a∈[107,112])(hb:b∈[50,51,52]):Sk s (.ins 5 [(1,.int ((b:Int) - 48) 0),(0,.int (sd a) 0)]) [a,120,b]:=by
 refine⟨5,_,rfl,24,by decide,Qbl ⟨_,rfl,rfl⟩,λn p hs e=>?_⟩
 have t:=(tS (s:=s) (hs:=hs) h).2.1;have t':=(tM (s:=s) (hs:=hs) hb).2.2.1;rw[Qe fnL[24] rfl rfl];show fin (exs (tb s) (Qa (tb s) n) 100 b24 [sR p] hs)=_;generalize Qa (tb s) n=cf;generalize tb s=T at t t' ⊢;simp[b24,Qm,QI,Qj,Qo,QG,Qy,QC,y_c,Q6,QH,Zs,QO,QN,Q5,QV,Qx,Qw,ZQ,Qt,ZR,Q1,ZC,Q7,ZX,Qz,Qu,Q2,Qp,QE,QA,evs,Q0,eq_int,Zo,QX,opU,ZG,biL,fin,Qeq,Qcc,List.lookup,e,t,t']
def Qg0(h:a∈[107,112])(hb:b∈[50,51,52]):Sk s (.ins 4 [(1,.int ((b:Int) - 48) 0),(2,.str [c]),(0,.int (sd a) 0)]) [a,b,c]:=by
 refine⟨4,_,rfl,19,by decide,Qbl ⟨_,rfl,rfl⟩,λn p hs e=>?_⟩
 have t:=(tS (s:=s) (hs:=hs) h).2.1;have t':=(tM (s:=s) (hs:=hs) hb).2.2.1;rw[Qe fnL[19] rfl rfl];show fin (exs (tb s) (Qa (tb s) n) 100 b19 [sR p] hs)=_;generalize Qa (tb s) n=cf;generalize tb s=T at t t' ⊢;simp[b19,Qm,QI,Qj,Qo,QG,Qy,QC,y_c,Q6,QH,Zs,QO,QN,Q5,QV,Qx,Qw,ZQ,Qt,ZR,Q1,ZC,Q7,ZX,Qz,Qu,Q2,Qp,QE,QA,evs,Q0,eq_int,Zo,QX,opU,ZG,biL,fin,Qeq,Qcc,List.lookup,e,t,t']
def QeP(h:a∈[99,113])(hb:b∈[49,50,51,52])(he:e'∈[49,50,51,52]):Sk s (.ins 6 [(3,.int ((b:Int) - 48) 0),(4,.int ((e':Int) - 48) 0),(2,.str [c]),(0,.int (sd a) 0)]) [a,b,c,e']:=by
 refine⟨6,_,rfl,29,by decide,Qbl ⟨_,rfl,rfl⟩,λn p hs e=>?_⟩
 have t:=(tC (s:=s) (hs:=hs) h).2.1;have t':=(tX (s:=s) (hs:=hs) hb).2.2;have t2:=(tX (s:=s) (hs:=hs) he).2.2;rw[Qe fnL[29] rfl rfl];show fin (exs (tb s) (Qa (tb s) n) 100 b29 [sR p] hs)=_;generalize Qa (tb s) n=cf;generalize tb s=T at t t' t2 ⊢;simp[b29,Qm,QI,Qj,Qo,QG,Qy,QC,y_c,Q6,QH,Zs,QO,QN,Q5,QV,Qx,Qw,ZQ,Qt,ZR,Q1,ZC,Q7,ZX,Qz,Qu,Q2,Qp,QE,QA,evs,Q0,eq_int,Zo,QX,opU,ZG,biL,fin,Qeq,Qcc,List.lookup,e,t,t',t2]
end
def ZV{b:Bool}:Zo T (.bl b) hs=some b:=rfl
noncomputable def Jd:List Nat:=[110,101,119]
noncomputable def Qce:List Nat:=[115,97,109,101]
noncomputable def Zt:List Nat:=[111,102,102]
noncomputable def YM:List Nat:=[102,114,111,109]
inductive Ti where
 |nw (ps:List Int) (s l:Int)|sm|fr (w:List Nat)
def DTi(h:Hs)(u:U):Ti->Prop
 |.nw ps s l=>∃p q,u=.ref p/\h[p]?=some (.tup [.str Jd,.ref q,.int s 0,.int l 0])/\h[q]?=some (.tup (ps.map iU))
 |.sm=>∃p,u=.ref p/\h[p]?=some (.tup [.str Qce,.int 0 0])
 |.fr w=>∃p,u=.ref p/\h[p]?=some (.tup [.str YM,.str w])
def DEn(h:Hs)(u:U)(w:List Nat):Prop:=∃p,u=.ref p/\h[p]?=some (.tup [.int 0 0,.str w])
structure Sp where
 tk:Nat
 ts:List Ti
 es:List (List Nat)
def DTi.mono{g':Hs}(h:Kp g g'){t:Ti}(z:DTi g u t):DTi g' u t:=by
 cases t with
 |nw ps s l=>obtain⟨p,q,e,e1,e2⟩:=z;exact⟨p,q,e,h _ _ e1,h _ _ e2⟩
 |sm=>obtain⟨p,e,e1⟩:=z;exact⟨p,e,h _ _ e1⟩
 |fr w=>obtain⟨p,e,e1⟩:=z;exact⟨p,e,h _ _ e1⟩
def DEn.mono{g':Hs}(h:Kp g g'){w:List Nat}(z:DEn g u w):DEn g' u w:=by obtain⟨p,e,e1⟩:=z;exact⟨p,e,h _ _ e1⟩
def Mt(T:Tbl)(o:O)(k f:Nat):Prop:=∃c fs C,o=.ins c fs/\T.cls[c]?=some C/\C.meths.lookup k=some f/\f<44
def Te(T:Tbl)(o:O)(k:Nat)(u:U):Prop:=∃f,Mt T o k f/\∀n p h,h[p]?=some o->Qa T (n+1) f [.ref p] h=some (u,h)
def Gi{α:Type}(T:Tbl)(o:O)(k:Nat)(D:Hs->U->α->Prop)(xs:List α):Prop:=∃f,Mt T o k f/\∀n p h,h[p]?=some o->∃h' us,Qa T (n+1) f [.ref p] h=some (.ref h'.length,h'++[.lst us])/\Kp h h'/\Paired (D h') us xs
structure Tl(T:Tbl)(o:O)(sp:Sp):Prop where
 tk:Te T o 2 (iU sp.tk)
 gv:Te T o 3 (iU sp.ts.length)
 ts:Gi T o 0 DTi sp.ts
 es:Gi T o 1 DEn sp.es
section
variable {k j:Nat}{fs:List (Nat×U)}{F:Fn}
def QbE(hC:T.cls[c]?=some C)(hk:C.meths.lookup k=some f)(l:f<44)(hF:T.fns[f]?=some F)(hp:F.np=1)(hb:F.body=[.ret (.c u)]):Te T (.ins c fs) k u:=⟨f,⟨c,fs,C,rfl,hC,hk,l⟩,λn p h e=>by
 rw[Qe F hF (show [U.ref p].length=F.np from hp.symm),hb]
 rfl⟩
def ZZ{f c:Nat}{a:E}{fs:List (Nat×U)}(ha:ev T cf d a Z h0=some (.ref n,hs))(hn:hs[n]?=some (.ins c fs))(hl:fs.lookup f=some u):ev T cf (d+1) (.fld a f) Z h0=some (u,hs):=by
 rw[Qeq,ha,Qm];simp only[hn,hl,Ub]
def QoL:ev T cf (d+1) (.tupR es) Z hs=bd (evs (ev T cf d) Z es hs) λus h1=>match QfX us with|some xs=>some (.ref h1.length,h1++[.tup xs])|none=>none:=rfl
def QoP(hC:T.cls[c]?=some C)(hk:C.meths.lookup k=some f)(l:f<44)(hF:T.fns[f]?=some F)(hp:F.np=1)(hb:F.body=[.ret (.fld Va j)])(hj:fs.lookup j=some u):Te T (.ins c fs) k u:=⟨f,⟨c,fs,C,rfl,hC,hk,l⟩,λn p h e=>by
 rw[Qe F hF (show [U.ref p].length=F.np from hp.symm),hb];show fin (exs T (Qa T n) (97+3) _ _ h)=_;rw[Qj,Qy,ZZ (Qb rfl) e hj,Qm]
 rfl⟩
def Yk{D:Hs->U->α->Prop}(hC:T.cls[c]?=some C)(hk:C.meths.lookup k=some f)(l:f<44)(hF:T.fns[f]?=some F)(hp:F.np=1)(hb:F.body=[.ret (.lst [])]):Gi T (.ins c fs) k D []:=⟨f,⟨c,fs,C,rfl,hC,hk,l⟩,λn p h e=>⟨h,[],by
 rw[Qe F hF (show [U.ref p].length=F.np from hp.symm),hb]
 rfl,Kp.refl h,.nil⟩⟩
def Y2{D:Hs->U->α->Prop}{x:α}(hC:T.cls[c]?=some C)(hk:C.meths.lookup k=some f)(l:f<44)(H:∀n p h,h[p]?=some (.ins c fs)->∃h' u,Qa T (n+1) f [.ref p] h=some (.ref h'.length,h'++[.lst [u]])/\Kp h h'/\D h' u x):Gi T (.ins c fs) k D [x]:=⟨f,⟨c,fs,C,rfl,hC,hk,l⟩,λn p h e=>by
 obtain⟨h',u,a,b,d⟩:=H n p h e
 exact⟨h',[u],a,b,.cons d .nil⟩⟩
end
section

def QeQ(_:a∈[107,112]):Tl (tb s) (.ins 1 [(0,.int (sd a) 0)]) ⟨1,[.nw [0] (sd a) 0],[]⟩:=⟨QbE rfl rfl (by decide) rfl rfl rfl,QbE rfl rfl (by decide) rfl rfl rfl,Y2 (f:=5) rfl rfl (by decide) λn p h e=>⟨h++[.tup [.int 0 0]]++[.tup [.str Jd,.ref h.length,.int (sd a) 0,.int 0 0]],.ref (h.length+1),by
  rw[Qe fnL[5] rfl rfl];show fin (exs (tb s) (Qa (tb s) n) 100 b5 [sR p] h)=_;generalize Qa (tb s) n=cf;generalize tb s=T
  simp[b5,Qj,QI,Qy,QG,Qo,QC,Qp,QN,y_c,QH,Qm,Q0,eq_str,eq_int,ZV,evs,Zs,QO,opU,Qw,Qx,fin,Qeq,Q4 e,Jd],(Kp.app _ _).trans (Kp.app _ _),h.length+1,h.length,rfl,by simp,by simp⟩,Yk rfl rfl (by decide) rfl rfl rfl⟩
def Qg3:Tl (tb s) (.ins 2 []) ⟨1,[.sm],[]⟩:=⟨QbE rfl rfl (by decide) rfl rfl rfl,QbE rfl rfl (by decide) rfl rfl rfl,Y2 (f:=9) rfl rfl (by decide) λn p h e=>⟨h++[.tup [.str Qce,.int 0 0]],.ref h.length,by
  rw[Qe fnL[9] rfl rfl]
  rfl,Kp.app _ _,h.length,rfl,by simp⟩,Yk rfl rfl (by decide) rfl rfl rfl⟩
def Qg4:Tl (tb s) (.ins 3 []) ⟨0,[.nw [] 0 0],[]⟩:=⟨QbE rfl rfl (by decide) rfl rfl rfl,QbE rfl rfl (by decide) rfl rfl rfl,Y2 (f:=13) rfl rfl (by decide) λn p h e=>⟨h++[.tup []]++[.tup [.str Jd,.ref h.length,.int 0 0,.int 0 0]],.ref (h.length+1),by
  rw[Qe fnL[13] rfl rfl];show fin (exs (tb s) (Qa (tb s) n) 100 b13 [sR p] h)=_;generalize Qa (tb s) n=cf;generalize tb s=T
  simp[b13,Qj,QI,Qy,QG,Qo,QC,Qp,QN,y_c,QH,Qm,Q0,eq_str,eq_int,ZV,evs,Zs,QO,opU,Qw,Qx,fin,Jd],(Kp.app _ _).trans (Kp.app _ _),h.length+1,h.length,rfl,by simp,by simp⟩,Yk rfl rfl (by decide) rfl rfl rfl⟩
def QjK:Tl (tb s) (.ins 7 []) ⟨1,[],[Zt]⟩:=⟨QbE rfl rfl (by decide) rfl rfl rfl,QbE rfl rfl (by decide) rfl rfl rfl,Yk rfl rfl (by decide) rfl rfl rfl,Y2 (f:=32) rfl rfl (by decide) λn p h e=>⟨h++[.tup [.int 0 0,.str Zt]],.ref h.length,by
  rw[Qe fnL[32] rfl rfl]
  rfl,Kp.app _ _,h.length,rfl,by simp⟩⟩
def Qg6:Tl (tb s) (.ins 8 [(5,.str [b])]) ⟨1,[],[[b]]⟩:=⟨QbE rfl rfl (by decide) rfl rfl rfl,QbE rfl rfl (by decide) rfl rfl rfl,Yk rfl rfl (by decide) rfl rfl rfl,Y2 (f:=37) rfl rfl (by decide) λn p h e=>⟨h++[.tup [.int 0 0,.str [b]]],.ref h.length,by
  rw[Qe fnL[37] rfl rfl];show fin (exs (tb s) (Qa (tb s) n) 100 b37 [sR p] h)=_;generalize Qa (tb s) n=cf;generalize tb s=T
  simp[b37,Qj,QI,Qy,QG,Qo,QC,Qp,QN,y_c,QH,Qm,Q0,eq_str,eq_int,ZV,evs,Zs,QO,opU,Qw,Qx,fin,Qeq,e],Kp.app _ _,h.length,rfl,by simp⟩⟩
def QeR:Tl (tb s) (.ins 9 [(5,.str [b])]) ⟨0,[.fr [b]],[]⟩:=⟨QbE rfl rfl (by decide) rfl rfl rfl,QbE rfl rfl (by decide) rfl rfl rfl,Y2 (f:=42) rfl rfl (by decide) λn p h e=>⟨h++[.tup [.str YM,.str [b]]],.ref h.length,by
  rw[Qe fnL[42] rfl rfl];show fin (exs (tb s) (Qa (tb s) n) 100 b42 [sR p] h)=_;generalize Qa (tb s) n=cf;generalize tb s=T
  simp[b42,Qj,QI,Qy,QG,Qo,QC,Qp,QN,y_c,QH,Qm,Q0,eq_str,eq_int,ZV,evs,Zs,QO,opU,Qw,Qx,fin,Qeq,e,YM],Kp.app _ _,h.length,rfl,by simp⟩,Yk rfl rfl (by decide) rfl rfl rfl⟩
end
noncomputable def Qjp(m:Nat):List Int:=(List.range m).map λi:Nat=>(i:Int)
noncomputable def lnP(m w:Nat):List Int:=if w=114 then(Qjp m).reverse else Qjp m
def Qne{m:Nat}(h:m∈[2,3,4]):QfX [.int ((m:Int) - 1) 0,.int (-1) 0,.int (-1) 0]=some ((lnP m 114).map iU)/\QfX [.int m 0]=some ((lnP m 108).map iU):=by
 simp only[Xd,Xf,Xy]at h
 rcases h with rfl|rfl|rfl<;>exact⟨rfl,rfl⟩
section
variable {m:Int}{zs:List U}
def Qk7(e:h[p]?=some (.ins 4 [(1,.int m 0),(2,.str [114]),(0,.int x 0)]))(r1:QfX [.int (m-1) 0,.int (-1) 0,.int (-1) 0]=some zs):
  exs T cf (d+12) b18 [sR p,none] h=some (.ret (.ref (h.length+2)),[sR p,sR h.length],h++[.tup zs]++[.tup [.str Jd,.ref h.length,.int x 0,.int 0 0]]++[.lst [.ref (h.length+1)]]):=by
 have f2:∀d,ev T cf (d+2) (.fld Va 2) [sR p,none] h=some (.str [114],h):=λd=>ZZ rfl e rfl;have f1:∀d,ev T cf (d+2) (.fld Va 1) [sR p,none] h=some (.int m 0,h):=λd=>ZZ rfl e rfl;have f0:∀d u,ev T cf (d+2) (.fld Va 0) [sR p,some u] (h++[.tup zs])=some (.int x 0,h++[.tup zs]):=λd u=>ZZ rfl (Q4 e) rfl;simp[b18,Qj,QI,Qy,QG,Qo,QC,Qp,QN,y_c,QH,Qm,Q0,eq_str,eq_int,ZV,evs,Zs,QO,opU,Qw,Qx,f2,f1,f0,QoL,Qm4,gz,r1,Jd]
def Qk8(e:h[p]?=some (.ins 4 [(1,.int m 0),(2,.str [108]),(0,.int x 0)]))(r1:QfX [.int m 0]=some zs):
  exs T cf (d+12) b18 [sR p,none] h=some (.ret (.ref (h.length+2)),[sR p,sR h.length],h++[.tup zs]++[.tup [.str Jd,.ref h.length,.int x 0,.int 0 0]]++[.lst [.ref (h.length+1)]]):=by
 have f2:∀d,ev T cf (d+2) (.fld Va 2) [sR p,none] h=some (.str [108],h):=λd=>ZZ rfl e rfl;have f1:∀d,ev T cf (d+2) (.fld Va 1) [sR p,none] h=some (.int m 0,h):=λd=>ZZ rfl e rfl;have f0:∀d u,ev T cf (d+2) (.fld Va 0) [sR p,some u] (h++[.tup zs])=some (.int x 0,h++[.tup zs]):=λd u=>ZZ rfl (Q4 e) rfl;simp[b18,Qj,QI,Qy,QG,Qo,QC,Qp,QN,y_c,QH,Qm,Q0,eq_str,eq_int,ZV,evs,Zs,QO,opU,Qw,Qx,f2,f1,f0,QoL,r1,Jd]
def Qeh{cf:Cf}{lo:Int}{D:Hs->U->α->Prop}{xs:List α}(mo:∀g g' u x,Kp g g'->D g u x->D g' u x)(sr:Zl T (ev T cf d) Z src h0=some (.rng lo n,hs))(hn:xs.length=n)(hl:n<=900000)
  (st:∀(i:Nat) x,xs[i]?=some x->∀h,Kp hs h->∃v h2,ev T cf d el (Z++[sI (lo+i)]) h=some (v,h2)/\Kp h h2/\D h2 v x):
  ∃vs h2,ev T cf (d+1) (.comp src false none el) Z h0=some (.ref h2.length,h2++[.lst vs])/\Kp hs h2/\Paired (D h2) vs xs:=by
 obtain⟨vs,h2,a,b,c⟩:=QiD (T:=T) (Z:=Z) (f:=ev T cf d) (ft:=evT T cf d) (w:=.rng lo n) (bb:=false) (el:=el) (L:=xs.zipIdx) (im:=λp:α×Nat=>Im.one (.int (lo+p.2) 0)) (r:=λp:α×Nat=>Z++[sI (lo+p.2)]) (λp u h=>D h u p.1) (λp u h h' k z=>mo _ _ _ _ k z)
  (λi hs k=>by
   simp only[itm,U2,W5];by_cases l:i<n
   ·have:xs[i]?=some xs[i]:=Xk (by lia)
    simp[l,this]
   ·have:xs[i]?=none:=by rw[Vl];lia
    simp[l,this]) (λx hs=>by simp only[tgN,Qet,tgt,W8,V7,QoT])
  (λp mp hs k=>by
   obtain⟨i,hi⟩:=Wx mp;rw[U2,W5]at hi
   cases q:xs[i]? with
   |none=>rw[q]at hi;cases hi
   |some x=>rw[q]at hi;cases hi;exact st i x q hs k) (n) 0 (n+1) [] hs (by rw[Tf];lia) (by lia) (by rw[Tf];lia) (Kp.refl _) .nil
 refine⟨vs,h2,Qah sr a,b,?_⟩
 have:∀{l:List U} {r:List (α×Nat)},Paired (λu p=>D h2 u p.1) l r->Paired (D h2) l (r.map (·.1)):=λh=>by
  induction h with
  |nil=>exact .nil
  |cons a _ ih=>exact .cons a ih
 have:=this c
 rwa [show xs.zipIdx.map (·.1)=xs from by simp]at this
def Qp4{h:Hs}{i:Int}(hs:Qq (i*4)=true)(he:ev T cf d e Z h=some (.int i 0,h')):Zl T (ev T cf d) Z (.rng e) h=some (.rng 0 i.toNat,h'):=by
 simp only[Zl,he,Qm,hs,Wo]
def sm4{i:Int}(h0:0<=i)(h1:i<100000):Qq (i*4)=true:=by
 simp only[Qq,Xl,Xw];constructor
 ·have:(0:Int)<=i*4:=by lia
  exact Int.lt_of_lt_of_le (by decide) this
 ·have:i*4<400000:=by lia
  exact Int.lt_trans this (by decide)
def QjJ{h:Hs}{m:Nat}(hm:m<1000)(he:ev T cf d e Z h=some (.int m 0,h')):Zl T (ev T cf d) Z (.rng e) h=some (.rng 0 m,h'):=Qp4 (sm4 (Int.natCast_nonneg m) (by lia)) he
def Qm5{e':E}{h:Hs}{i:Int}(hi:Qq (i*4)=true)(hj:Qq (j*4)=true)(he:ev T cf d e Z h=some (.int i 0,h'))(he':ev T cf d e' Z h'=some (.int j 0,h2)):Zl T (ev T cf d) Z (.rng2 e e') h=some (.rng i (j-i).toNat,h2):=by
 simp only[Zl,he,he',Qm,hi,hj,T8,Wo]
noncomputable def elG:E:=.tup [.c (.str Jd),.tup [Wa],.ife (.cmp .Eq (.op .Mod Vb Wc) Wa) (.fld Va 0) (.neg (.fld Va 0)),Wa]
noncomputable def elC(L:E):E:=.tup [.c (.str Jd),.tup [Ve],.fld Va 0,L]
def QlM{x i:Int}{fs:List (Nat×U)}(e:h[p]?=some (.ins 5 fs))(l:fs.lookup 0=sI x):
  ev T cf (d+8) elG [sR p,sI i] h=some (.ref (h.length+1),h++[.tup [.int 0 0]]++[.tup [.str Jd,.ref h.length,.int (if i % 2=0 then x else -x) 0,.int 0 0]]):=by
 have f0:∀d,ev T cf (d+2) (.fld Va 0) [sR p,sI i] (h++[.tup [.int 0 0]])=some (.int x 0,h++[.tup [.int 0 0]]):=λd=>ZZ rfl (Q4 e) l;by_cases c:i % 2=0
 ·simp[elG,Qj,QI,Qy,QG,Qo,QC,Qp,QN,y_c,QH,Qm,Q0,eq_str,eq_int,ZV,evs,Zs,QO,opU,Qw,Qx,f0,QV,Qh0,c]
 ·simp[elG,Qj,QI,Qy,QG,Qo,QC,Qp,QN,y_c,QH,Qm,Q0,eq_str,eq_int,ZV,evs,Zs,QO,opU,Qw,Qx,f0,QV,Qh0,c]
def Qgl{x l li i:Int}{L:E}{u2 u3:Option U}{fs:List (Nat×U)}(e:h[p]?=some (.ins 6 fs))(l0:fs.lookup 0=sI x)
  (hL:∀h,ev T cf (d+7) L [sR p,sI li,u2,u3,sI i] h=some (.int l 0,h)):
  ev T cf (d+8) (elC L) [sR p,sI li,u2,u3,sI i] h=some (.ref (h.length+1),h++[.tup [.int i 0]]++[.tup [.str Jd,.ref h.length,.int x 0,.int l 0]]):=by
 have f0:∀d,ev T cf (d+2) (.fld Va 0) [sR p,sI li,u2,u3,sI i] (h++[.tup [.int i 0]])=some (.int x 0,h++[.tup [.int i 0]]):=λd=>ZZ rfl (Q4 e) l0;simp[elC,Qj,QI,Qy,QG,Qo,QC,Qp,QN,y_c,QH,Qm,Q0,eq_str,eq_int,ZV,evs,Zs,QO,opU,Qw,Qx,f0,hL]
def Qio{f:Nat->Ti}{t:Ti}(h:((List.range b).map f)[i]?=some t):t=f i:=by
 simp only[W6,Xb]at h;obtain⟨j,hj,rfl⟩:=h;obtain⟨l,rfl⟩:=Xa.mp hj;simp
end
noncomputable def grT(m:Nat)(x:Int):List Ti:=(List.range m).map λi:Nat=>.nw [0] (if(i:Int) % 2=0 then x else -x) 0
noncomputable def crA(a b:Nat)(x l:Int):List Ti:=(List.range b).map λi:Nat=>.nw [(a:Int)+i] x (-l)
noncomputable def crB(a:Nat)(x l:Int):List Ti:=(List.range a).map λi:Nat=>.nw [0+(i:Int)] x l
noncomputable def lf(w:Nat):Int:=if w=102 then 1 else -1
section

def n48(h:b∈[50,51,52]):((b:Int) - 48)=((b-48:Nat):Int)/\b-48∈[2,3,4]:=by
 simp only[Xd,Xf,Xy]at h
 rcases h with rfl|rfl|rfl<;>exact⟨rfl,by decide⟩
def n49(h:b∈[49,50,51,52]):((b:Int) - 48)=((b-48:Nat):Int)/\b-48<=4/\1<=b-48:=by
 simp only[Xd,Xf,Xy]at h
 rcases h with rfl|rfl|rfl|rfl<;>exact⟨rfl,by decide,by decide⟩
def Qg5(hb:b∈[50,51,52])(hc:c∈[114,108]):Tl (tb s) (.ins 4 [(1,.int ((b:Int) - 48) 0),(2,.str [c]),(0,.int (sd a) 0)]) ⟨b-48,[.nw (lnP (b-48) c) (sd a) 0],[]⟩:=by
 obtain⟨e1,hm⟩:=n48 hb;rw[e1];generalize b-48=m at hm;simp only[Xd,Xf,Xy]at hc
 refine⟨QoP rfl rfl (by decide) rfl rfl rfl rfl,QbE rfl rfl (by decide) rfl rfl rfl,Y2 (f:=18) rfl rfl (by decide) λn p h e=>⟨h++[.tup ((lnP m c).map iU)]++[.tup [.str Jd,.ref h.length,.int (sd a) 0,.int 0 0]],.ref (h.length+1),?_,(Kp.app _ _).trans (Kp.app _ _),h.length+1,h.length,rfl,by simp,by simp⟩,Yk rfl rfl (by decide) rfl rfl rfl⟩
 rw[Qe fnL[18] rfl rfl];show fin (exs (tb s) (Qa (tb s) n) (88+12) b18 [sR p,none] h)=_;obtain⟨r1,r2⟩:=Qne hm
 rcases hc with rfl|rfl
 ·rw[Qk7 e r1];simp[fin]
 ·rw[Qk8 e r2];simp[fin]
def Qg7(hb:b∈[50,51,52]):Tl (tb s) (.ins 5 [(1,.int ((b:Int) - 48) 0),(0,.int (sd a) 0)]) ⟨1,grT (b-48) (sd a),[]⟩:=by
 obtain⟨e1,hm⟩:=n48 hb;rw[e1];generalize b-48=m at hm
 have hb:m<=4:=by
  simp only[Xd,Xf,Xy]at hm;lia
 have lg:(grT m (sd a)).length=m:=by simp[grT]
 refine⟨QbE rfl rfl (by decide) rfl rfl rfl,by show Te _ _ _ (iU ((grT m (sd a)).length:Nat));rw[lg];exact QoP rfl rfl (by decide) rfl rfl rfl rfl,⟨23,⟨_,_,_,rfl,rfl,rfl,by decide⟩,λn p h e=>?_⟩,Yk rfl rfl (by decide) rfl rfl rfl⟩
 rw[Qe fnL[23] rfl rfl];show ∃h' us,fin (exs (tb s) (Qa (tb s) n) (88+12) b23 [sR p] h)=_/\_;generalize Qa (tb s) n=cf;generalize tb s=T
 obtain⟨vs,h2,e2,k,pr⟩:=Qeh (T:=T) (cf:=cf) (d:=97) (lo:=0) (n:=m) (src:=.rng (.fld Va 1)) (Z:=[sR p]) (h0:=h) (hs:=h) (D:=DTi) (xs:=grT m (sd a)) (el:=elG)
  (λy y y y g z=>z.mono g) (QjJ (by lia) (ZZ rfl e rfl)) lg (by lia) λi t hi h1 k1=>by
   cases Qio hi;have e1:=k1 _ _ e
   refine⟨_,_,QlM (d:=89) e1 rfl,(Kp.app _ _).trans (Kp.app _ _),h1.length+1,h1.length,rfl,by simp,by simp⟩
 exact⟨h2,vs,by rw[show b23=[.ret (.comp (.rng (.fld Va 1)) false none elG)]from rfl,Qj,Qy,e2,Qm];rfl,k,pr⟩
def QeS{p0:Nat}(hb:b∈[49,50,51,52])(hc:c∈[102,98])(he:e'∈[49,50,51,52]):Tl (tb s) (.ins 6 [(3,.int ((b:Int) - 48) 0),(4,.int ((e':Int) - 48) 0),(2,.str [c]),(0,.int (sd p0) 0)]) ⟨(b-48)+(e'-48),crA (b-48) (e'-48) (sd p0) (lf c)++crB (b-48) (sd p0) (lf c),[]⟩:=by
 obtain⟨e1,ha,_⟩:=n49 hb;obtain⟨e2,hb,_⟩:=n49 he;rw[e1,e2];generalize b-48=a at ha;generalize e'-48=b at hb;generalize sd p0=x;simp only[Xd,Xf,Xy]at hc
 have lg:(crA a b x (lf c)++crB a x (lf c)).length=a+b:=by simp[crA,crB,T1]
 have sm:∀{k f} (_:k=2\/k=3) (_:f=26\/f=27),(k=2->f=26)->(k=3->f=27)->Te (tb s) (.ins 6 [(3,.int a 0),(4,.int b 0),(2,.str [c]),(0,.int x 0)]) k (iU ((a+b:Nat):Int)):=λ{k f} hk hf h2 h3=>by
  have key:∀n p h,h[p]?=some (O.ins 6 [(3,.int a 0),(4,.int b 0),(2,.str [c]),(0,.int x 0)])->fin (exs (tb s) (Qa (tb s) n) (88+12) [.ret (.op .Add (.fld Va 3) (.fld Va 4))] [sR p] h)=some (iU ((a+b:Nat):Int),h):=λn p h e=>by
   rw[Qj,Qy,Zs,ZZ rfl e rfl,Qm,ZZ rfl e rfl,Qm];simp[opU,ZG,gz,Qm,fin]
  rcases hk with rfl|rfl
  ·exact⟨26,⟨_,_,_,rfl,rfl,rfl,by decide⟩,λn p h e=>by rw[Qe fnL[26] rfl rfl];exact key n p h e⟩
  ·exact⟨27,⟨_,_,_,rfl,rfl,rfl,by decide⟩,λn p h e=>by rw[Qe fnL[27] rfl rfl];exact key n p h e⟩
 refine⟨sm (f:=26) (.inl rfl) (.inl rfl) (λy=>rfl) (by decide),by show Te _ _ _ (iU ((crA a b x (lf c)++crB a x (lf c)).length:Nat));rw[lg];exact sm (f:=27) (.inr rfl) (.inr rfl) (by decide) (λy=>rfl),⟨28,⟨_,_,_,rfl,rfl,rfl,by decide⟩,λn p h e=>?_⟩,Yk rfl rfl (by decide) rfl rfl rfl⟩
 rw[Qe fnL[28] rfl rfl];show ∃h' us,fin (exs (tb s) (Qa (tb s) n) (88+12) b28 [sR p,none,none,none] h)=_/\_;generalize Qa (tb s) n=cf;generalize tb s=T;generalize hl:lf c=li
 have e1:∀d,ev T cf (d+5) (.ife (.cmp .Eq (.fld Va 2) (.c (.str [102]))) Wb (.neg Wb)) [sR p,none,none,none] h=some (.int li 0,h):=λd=>by
  have f2:∀d,ev T cf (d+2) (.fld Va 2) [sR p,none,none,none] h=some (.str [c],h):=λd=>ZZ rfl e rfl;subst hl
  rcases hc with rfl|rfl
  ·simp[Qj,QI,Qy,QG,Qo,QC,Qp,QN,y_c,QH,Qm,Q0,eq_str,eq_int,ZV,evs,Zs,QO,opU,Qw,Qx,f2,QV,lf]
  ·simp[Qj,QI,Qy,QG,Qo,QC,Qp,QN,y_c,QH,Qm,Q0,eq_str,eq_int,ZV,evs,Zs,QO,opU,Qw,Qx,f2,QV,lf]
 have f3:∀d u u' u'' (g:Hs),Kp h g->ev T cf (d+2) (.fld Va 3) [sR p,u,u',u''] g=some (.int a 0,g):=λd u u' u'' g k=>ZZ rfl (k _ _ e) rfl;have f4:∀d u u' u'' (g:Hs),Kp h g->ev T cf (d+2) (.fld Va 4) [sR p,u,u',u''] g=some (.int b 0,g):=λd u u' u'' g k=>ZZ rfl (k _ _ e) rfl
 obtain⟨v1,h1,e2,k1,p1⟩:=Qeh (T:=T) (cf:=cf) (d:=96) (lo:=a) (n:=b) (src:=.rng2 (.fld Va 3) (.op .Add (.fld Va 3) (.fld Va 4))) (Z:=[sR p,sI li,none,none]) (h0:=h) (hs:=h) (D:=DTi) (xs:=crA a b x li) (el:=elC (.neg Vb))
  (λy y y y g z=>z.mono g) (by
   have:=Qm5 (T:=T) (cf:=cf) (d:=96) (Z:=[sR p,sI li,none,none]) (e:=.fld Va 3) (e':=.op .Add (.fld Va 3) (.fld Va 4)) (i:=a) (j:=(a:Int)+b) (sm4 (by lia) (by lia)) (sm4 (by lia) (by lia)) (f3 94 _ _ _ h (Kp.refl h)) (h2:=h) (by rw[Zs,f3 93 _ _ _ h (Kp.refl h),Qm,f4 93 _ _ _ h (Kp.refl h),Qm];rfl)
   rw[show((a:Int)+b-a).toNat=b by lia]at this
   exact this) (by simp[crA]) (by lia) λi t hi h1 k1=>by
   cases Qio hi
   exact⟨_,_,Qgl (d:=88) (l:=-li) (k1 _ _ e) rfl (λh=>rfl),(Kp.app _ _).trans (Kp.app _ _),h1.length+1,h1.length,rfl,by simp,by simp⟩
 have k1':Kp h (h1++[.lst v1]):=k1.trans (Kp.app _ _)
 obtain⟨v2,h2,e3,k2,p2⟩:=Qeh (T:=T) (cf:=cf) (d:=95) (lo:=0) (n:=a) (src:=.rng (.fld Va 3)) (Z:=[sR p,sI li,sR h1.length,none]) (h0:=h1++[.lst v1]) (hs:=h1++[.lst v1]) (D:=DTi) (xs:=crB a x li) (el:=elC Vb)
  (λy y y y g z=>z.mono g) (QjJ (by lia) (f3 93 _ _ _ _ k1')) (by simp[crB]) (by lia) λi t hi h1 k1=>by
   cases Qio hi
   exact⟨_,_,Qgl (d:=87) (l:=li) (k1 _ _ (k1' _ _ e)) rfl (λh=>rfl),(Kp.app _ _).trans (Kp.app _ _),h1.length+1,h1.length,rfl,by simp,by simp⟩
 have l1:=Qk p1;have l2:=Qk p2;simp only[crA,crB,Xz,Ux]at l1 l2;have q1:(h2++[.lst v2])[h1.length]?=some (.lst v1):=Q4 (k2 _ _ (show(h1++[.lst v1])[h1.length]?=_ from at0));have q2:(h2++[O.lst v2])[h2.length]?=some (.lst v2):=at0;have K:Kp h (h2++[.lst v2]):=(k1'.trans k2).trans (Kp.app _ _);refine⟨h2++[.lst v2],v1++v2,?_,K,Z3 (Qi (λy y z=>z.mono (((Kp.app _ _).trans k2).trans (Kp.app _ _))) p1) (Qi (λy y z=>z.mono (Kp.app _ _)) p2)⟩;rw[show b28=[.set 1 (.ife (.cmp .Eq (.fld Va 2) (.c (.str [102]))) Wb (.neg Wb)),.set 2 (.comp (.rng2 (.fld Va 3) (.op .Add (.fld Va 3) (.fld Va 4))) false none (elC (.neg Vb))),.set 3 (.comp (.rng (.fld Va 3)) false none (elC Vb)),.ret (.op .Add Vc Vd)]from rfl];rw[Qj,QG,e1,Qm];show fin (exs T cf (87+12) _ [sR p,sI li,none,none] h)=_;rw[Qj,QG,e2,Qm];show fin (exs T cf (86+12) _ [sR p,sI li,sR h1.length,none] (h1++[.lst v1]))=_;rw[Qj,QG,e3,Qm];show fin (exs T cf (85+12) _ [sR p,sI li,sR h1.length,sR h2.length] (h2++[.lst v2]))=_
 have ca:=QcQ q1 q2 (by lia)
 simp only[Qj,Qy,Zs,QH,List.getElem?_cons_succ,List.getElem?_cons_zero,Qm,opU,ca,fin]
end
noncomputable def spm:List Nat->Sp
 |[a]=>if a=115 then⟨1,[.sm],[]⟩else if a=111 then⟨0,[.nw [] 0 0],[]⟩else if a=98 then⟨1,[],[Zt]⟩else⟨1,[.nw [0] (sd a) 0],[]⟩
 |[a,b]=>if a=104 then⟨1,[],[[b]]⟩else⟨0,[.fr [b]],[]⟩
 |[a,b,c]=>if b=120 then⟨1,grT (c-48) (sd a),[]⟩else⟨b-48,[.nw (lnP (b-48) c) (sd a) 0],[]⟩
 |[a,b,c,e]=>⟨(b-48)+(e-48),crA (b-48) (e-48) (sd a) (lf c)++crB (b-48) (sd a) (lf c),[]⟩
 |_=>⟨0,[],[]⟩
def Sm(s:List U)(o:O)(m:List Nat):Prop:=Sk s o m/\Tl (tb s) o (spm m)
section

def QeG(h:a∈[107,112]):Tl (tb s) (.ins 1 [(0,.int (sd a) 0)]) (spm [a]):=by
 have e:spm [a]=⟨1,[.nw [0] (sd a) 0],[]⟩:=by
  simp only[Xd,Xf,Xy]at h
  rcases h with rfl|rfl<;>rfl
 rw[e];exact QeQ h
def QgF:Tl (tb s) (.ins 2 []) (spm [115]):=Qg3
def QgG:Tl (tb s) (.ins 3 []) (spm [111]):=Qg4
def Qjy:Tl (tb s) (.ins 7 []) (spm [98]):=QjK
def QgI:Tl (tb s) (.ins 8 [(5,.str [b])]) (spm [104,b]):=Qg6
def QeH:Tl (tb s) (.ins 9 [(5,.str [b])]) (spm [102,b]):=QeR
def QgJ(hb:b∈[50,51,52]):Tl (tb s) (.ins 5 [(1,.int ((b:Int) - 48) 0),(0,.int (sd a) 0)]) (spm [a,120,b]):=Qg7 hb
def QgH(hb:b∈[50,51,52])(hc:c∈[114,108]):Tl (tb s) (.ins 4 [(1,.int ((b:Int) - 48) 0),(2,.str [c]),(0,.int (sd a) 0)]) (spm [a,b,c]):=by
 have e:spm [a,b,c]=⟨b-48,[.nw (lnP (b-48) c) (sd a) 0],[]⟩:=if_neg (by simp only[Xd,Xf,Xy]at hb;lia)
 rw[e];exact Qg5 hb hc
def QeI{p0:Nat}(hb:b∈[49,50,51,52])(hc:c∈[102,98])(he:e'∈[49,50,51,52]):Tl (tb s) (.ins 6 [(3,.int ((b:Int) - 48) 0),(4,.int ((e':Int) - 48) 0),(2,.str [c]),(0,.int (sd p0) 0)]) (spm [p0,b,c,e']):=QeS hb hc he
end
section

def QqX(h:a∈[107,112,115,111,98]):∃o,Sm s o [a]/\Qa (tb s) (n+2) 63 [.str [a]] hs=some (.ref hs.length,hs++[o]):=by
 rw[Qe fnL[63] rfl rfl];show ∃o,_/\fin (exs (tb s) (Qa (tb s) (n+1)) 100 b63 [some (.str [a])] hs)=_
 have h':a∈[107,112]\/a=115\/a=111\/a=98:=by simp only[Xd,Xf,Xy]at h ⊢;lia
 rcases h' with h|rfl|rfl|rfl
 ·obtain⟨t1,_,t3,_⟩:=tS (s:=s) (hs:=hs) h;have mk:=Qfi (s:=s) (hs:=hs) (n:=n) (u:=.int (sd a) 0);refine⟨_,⟨QeN h,QeG h⟩,?_⟩;generalize Qa (tb s) (n+1)=cf at mk ⊢;generalize tb s=T at t1 t3 mk ⊢;simp[b63,Qm,QI,Qj,Qo,QG,Qy,QC,y_c,Q6,QH,Zs,QO,QN,Q5,QV,Qx,Qw,ZQ,Qt,ZR,Q1,ZC,Q7,ZX,Qz,Qu,Q2,Qp,QE,QA,evs,eq_int,Zo,QX,opU,ZG,biU,biL,fin,Qcc,QcT,t1,t3,mk]
 ·have i1:Q0 (tb s) .In (.str [115]) (.con 3) hs=some false:=rfl;have mk:=Qbi (s:=s) (hs:=hs) (c:=2) (cf:=Qa (tb s) (n+1)) rfl rfl
  refine⟨_,⟨Qc9 (c:=2) (f:=10) (by decide) ⟨_,rfl,rfl⟩ (λn p hs=>by rw[Qe fnL[10] rfl rfl];rfl),QgF⟩,?_⟩
  generalize Qa (tb s) (n+1)=cf at mk ⊢;generalize tb s=T at i1 mk ⊢;simp[b63,Qm,QI,Qj,Qo,QG,Qy,QC,y_c,Q6,QH,Zs,QO,QN,Q5,QV,Qx,Qw,ZQ,Qt,ZR,Q1,ZC,Q7,ZX,Qz,Qu,Q2,Qp,QE,QA,evs,eq_int,Zo,QX,opU,ZG,biU,biL,fin,eqs,Qcc,QcT,i1,mk]
 ·have i1:Q0 (tb s) .In (.str [111]) (.con 3) hs=some false:=rfl;have mk:=Qbi (s:=s) (hs:=hs) (c:=3) (cf:=Qa (tb s) (n+1)) rfl rfl
  refine⟨_,⟨Qc9 (c:=3) (f:=14) (by decide) ⟨_,rfl,rfl⟩ (λn p hs=>by rw[Qe fnL[14] rfl rfl];rfl),QgG⟩,?_⟩
  generalize Qa (tb s) (n+1)=cf at mk ⊢;generalize tb s=T at i1 mk ⊢;simp[b63,Qm,QI,Qj,Qo,QG,Qy,QC,y_c,Q6,QH,Zs,QO,QN,Q5,QV,Qx,Qw,ZQ,Qt,ZR,Q1,ZC,Q7,ZX,Qz,Qu,Q2,Qp,QE,QA,evs,eq_int,Zo,QX,opU,ZG,biU,biL,fin,eqs,Qcc,QcT,i1,mk]
 ·have i1:Q0 (tb s) .In (.str [98]) (.con 3) hs=some false:=rfl;have mk:=Qbi (s:=s) (hs:=hs) (c:=7) (cf:=Qa (tb s) (n+1)) rfl rfl
  refine⟨_,⟨Qc9 (c:=7) (f:=33) (by decide) ⟨_,rfl,rfl⟩ (λn p hs=>by rw[Qe fnL[33] rfl rfl];rfl),Qjy⟩,?_⟩
  generalize Qa (tb s) (n+1)=cf at mk ⊢;generalize tb s=T at i1 mk ⊢;simp[b63,Qm,QI,Qj,Qo,QG,Qy,QC,y_c,Q6,QH,Zs,QO,QN,Q5,QV,Qx,Qw,ZQ,Qt,ZR,Q1,ZC,Q7,ZX,Qz,Qu,Q2,Qp,QE,QA,evs,eq_int,Zo,QX,opU,ZG,biU,biL,fin,eqs,Qcc,QcT,i1,mk]
def QqW(h:a∈[104,102])(hb:b∈[119,120,121,122]):∃o,Sm s o [a,b]/\Qa (tb s) (n+2) 64 [.str [a],.str [b]] hs=some (.ref hs.length,hs++[o]):=by
 rw[Qe fnL[64] rfl rfl];show ∃o,_/\fin (exs (tb s) (Qa (tb s) (n+1)) 100 b64 [some (.str [a]),some (.str [b])] hs)=_;have t:=tK (s:=s) (hs:=hs) hb;simp only[Xd,Xf,Xy]at h
 rcases h with rfl|rfl
 ·have mk:=Qh2 (s:=s) (hs:=hs) (n:=n) (u:=.str [b]);refine⟨_,⟨Qg1,QgI⟩,?_⟩;generalize Qa (tb s) (n+1)=cf at mk ⊢;generalize tb s=T at t mk ⊢;simp[b64,Qm,QI,Qj,Qo,QG,Qy,QC,y_c,Q6,QH,Zs,QO,QN,Q5,QV,Qx,Qw,ZQ,Qt,ZR,Q1,ZC,Q7,ZX,Qz,Qu,Q2,Qp,QE,QA,evs,eq_int,Zo,QX,opU,ZG,biU,biL,fin,eqs,QcT,t,mk]
 ·have mk:=Qfj (s:=s) (hs:=hs) (n:=n) (u:=.str [b]);refine⟨_,⟨QeO,QeH⟩,?_⟩;generalize Qa (tb s) (n+1)=cf at mk ⊢;generalize tb s=T at t mk ⊢;simp[b64,Qm,QI,Qj,Qo,QG,Qy,QC,y_c,Q6,QH,Zs,QO,QN,Q5,QV,Qx,Qw,ZQ,Qt,ZR,Q1,ZC,Q7,ZX,Qz,Qu,Q2,Qp,QE,QA,evs,eq_int,Zo,QX,opU,ZG,biU,biL,fin,eqs,QcT,t,mk]
def Qox(h:a∈[107,112])(hb:b∈[50,51,52]):∃o,Sm s o [a,120,b]/\Qa (tb s) (n+2) 65 [.str [a],.str [120],.str [b]] hs=some (.ref hs.length,hs++[o]):=by
 rw[Qe fnL[65] rfl rfl];show ∃o,_/\fin (exs (tb s) (Qa (tb s) (n+1)) 100 b65 [some (.str [a]),some (.str [120]),some (.str [b])] hs)=_;obtain⟨t1,_,_,t2⟩:=tS (s:=s) (hs:=hs) h;obtain⟨t3,t4,_,_⟩:=tM (s:=s) (hs:=hs) hb;have mk:=Qh3 (s:=s) (hs:=hs) (n:=n) (u:=.int ((b:Int) - 48) 0) (w:=.int (sd a) 0);refine⟨_,⟨Qg2 h hb,QgJ hb⟩,?_⟩;generalize Qa (tb s) (n+1)=cf at mk ⊢;generalize tb s=T at t1 t2 t3 t4 mk ⊢;simp[b65,Qm,QI,Qj,Qo,QG,Qy,QC,y_c,Q6,QH,Zs,QO,QN,Q5,QV,Qx,Qw,ZQ,Qt,ZR,Q1,ZC,Q7,ZX,Qz,Qu,Q2,Qp,QE,QA,evs,eq_int,Zo,QX,opU,ZG,biU,biL,fin,eqs,QcT,Qcc,t1,t2,t3,t4,mk]
def Qow(h:a∈[107,112])(hb:b∈[50,51,52])(hc:c∈[114,108]):∃o,Sm s o [a,b,c]/\Qa (tb s) (n+2) 65 [.str [a],.str [b],.str [c]] hs=some (.ref hs.length,hs++[o]):=by
 rw[Qe fnL[65] rfl rfl];show ∃o,_/\fin (exs (tb s) (Qa (tb s) (n+1)) 100 b65 [some (.str [a]),some (.str [b]),some (.str [c])] hs)=_;obtain⟨t1,_,_,t2⟩:=tS (s:=s) (hs:=hs) h;obtain⟨t3,t4,_,t5⟩:=tM (s:=s) (hs:=hs) hb;have t6:=tL (s:=s) (hs:=hs) hc;have mk:=Qh1 (s:=s) (hs:=hs) (n:=n) (u:=.int ((b:Int) - 48) 0) (w:=.str [c]) (x:=.int (sd a) 0);refine⟨_,⟨Qg0 h hb,QgH hb hc⟩,?_⟩;generalize Qa (tb s) (n+1)=cf at mk ⊢;generalize tb s=T at t1 t2 t3 t4 t6 mk ⊢;simp[b65,Qm,QI,Qj,Qo,QG,Qy,QC,y_c,Q6,QH,Zs,QO,QN,Q5,QV,Qx,Qw,ZQ,Qt,ZR,Q1,ZC,Q7,ZX,Qz,Qu,Q2,Qp,QE,QA,evs,eq_int,Zo,QX,opU,ZG,biU,biL,fin,eqs,QcT,Qcc,t1,t2,t3,t4,t5,t6,mk]
def QqV{e:Nat}(h:a∈[99,113])(hb:b∈[49,50,51,52])(hc:c∈[102,98])(he:e∈[49,50,51,52]):∃o,Sm s o [a,b,c,e]/\Qa (tb s) (n+2) 66 [.str [a],.str [b],.str [c],.str [e]] hs=some (.ref hs.length,hs++[o]):=by
 rw[Qe fnL[66] rfl rfl];show ∃o,_/\fin (exs (tb s) (Qa (tb s) (n+1)) 100 b66 [some (.str [a]),some (.str [b]),some (.str [c]),some (.str [e])] hs)=_;obtain⟨t1,_,t2⟩:=tC (s:=s) (hs:=hs) h;obtain⟨t3,t4,_⟩:=tX (s:=s) (hs:=hs) hb;obtain⟨t5,t6,_⟩:=tX (s:=s) (hs:=hs) he;have t7:=tF (s:=s) (hs:=hs) hc;have mk:=Qfk (s:=s) (hs:=hs) (n:=n) (u:=.int ((b:Int) - 48) 0) (w:=.int ((e:Int) - 48) 0) (x:=.str [c]) (y:=.int (sd a) 0);refine⟨_,⟨QeP h hb he,QeI hb hc he⟩,?_⟩;generalize Qa (tb s) (n+1)=cf at mk ⊢;generalize tb s=T at t1 t2 t3 t4 t5 t6 t7 mk ⊢;simp[b66,Qm,QI,Qj,Qo,QG,Qy,QC,y_c,Q6,QH,Zs,QO,QN,Q5,QV,Qx,Qw,ZQ,Qt,ZR,Q1,ZC,Q7,ZX,Qz,Qu,Q2,Qp,QE,QA,evs,eq_int,Zo,QX,opU,ZG,biU,biL,fin,eqs,QcT,Qcc,t1,t2,t3,t4,t5,t6,t7,mk]
def QqY(h:Mk m):∃o,Sm s o m/\Qa (tb s) (n+3) 62 [.str m] hs=some (.ref hs.length,hs++[o]):=by
 rw[Qe fnL[62] rfl rfl];show ∃o,_/\fin (exs (tb s) (Qa (tb s) (n+2)) 100 b62 [sS m,none] hs)=_
 cases h with
 |bare h=>
  obtain⟨o,h1,e⟩:=QqX (s:=s) (n:=n) (hs:=hs) h;refine⟨o,h1,?_⟩;generalize Qa (tb s) (n+2)=cf at e ⊢;generalize tb s=T;simp[b62,Qm,QI,Qj,Qo,QG,Qy,QC,y_c,Q6,QH,Zs,QO,QN,Q5,QV,Qx,Qw,ZQ,Qt,ZR,Q1,ZC,Q7,ZX,Qz,Qu,Q2,Qp,QE,QA,evs,Q0,eq_int,Zo,QX,opU,ZG,biU,biL,fin,ZJ,e]
 |keep h hb=>
  obtain⟨o,h1,e⟩:=QqW (s:=s) (n:=n) (hs:=hs) h hb;refine⟨o,h1,?_⟩;generalize Qa (tb s) (n+2)=cf at e ⊢;generalize tb s=T;simp[b62,Qm,QI,Qj,Qo,QG,Qy,QC,y_c,Q6,QH,Zs,QO,QN,Q5,QV,Qx,Qw,ZQ,Qt,ZR,Q1,ZC,Q7,ZX,Qz,Qu,Q2,Qp,QE,QA,evs,Q0,eq_int,Zo,QX,opU,ZG,biU,biL,fin,ZJ,atU,ixU,e]
 |grow h hb=>
  obtain⟨o,h1,e⟩:=Qox (s:=s) (n:=n) (hs:=hs) h hb;refine⟨o,h1,?_⟩;generalize Qa (tb s) (n+2)=cf at e ⊢;generalize tb s=T;simp[b62,Qm,QI,Qj,Qo,QG,Qy,QC,y_c,Q6,QH,Zs,QO,QN,Q5,QV,Qx,Qw,ZQ,Qt,ZR,Q1,ZC,Q7,ZX,Qz,Qu,Q2,Qp,QE,QA,evs,Q0,eq_int,Zo,QX,opU,ZG,biU,biL,fin,ZJ,atU,ixU,e]
 |lean h hb hc=>
  obtain⟨o,h1,e⟩:=Qow (s:=s) (n:=n) (hs:=hs) h hb hc;refine⟨o,h1,?_⟩;generalize Qa (tb s) (n+2)=cf at e ⊢;generalize tb s=T;simp[b62,Qm,QI,Qj,Qo,QG,Qy,QC,y_c,Q6,QH,Zs,QO,QN,Q5,QV,Qx,Qw,ZQ,Qt,ZR,Q1,ZC,Q7,ZX,Qz,Qu,Q2,Qp,QE,QA,evs,Q0,eq_int,Zo,QX,opU,ZG,biU,biL,fin,ZJ,atU,ixU,e]
 |cross h hb hc he=>
  obtain⟨o,h1,e⟩:=QqV (s:=s) (n:=n) (hs:=hs) h hb hc he;refine⟨o,h1,?_⟩;generalize Qa (tb s) (n+2)=cf at e ⊢;generalize tb s=T;simp[b62,Qm,QI,Qj,Qo,QG,Qy,QC,y_c,Q6,QH,Zs,QO,QN,Q5,QV,Qx,Qw,ZQ,Qt,ZR,Q1,ZC,Q7,ZX,Qz,Qu,Q2,Qp,QE,QA,evs,Q0,eq_int,Zo,QX,opU,ZG,biU,biL,fin,ZJ,atU,ixU,e]
def Qca(h:Mk m):∃o,Sm s o m/\Qa (tb s) (n+4) 61 [.str m] hs=some (.ref hs.length,hs++[o]):=by
 rw[Qe fnL[61] rfl rfl];show ∃o,_/\fin (exs (tb s) (Qa (tb s) (n+3)) 100 b61 [sS m,none] hs)=_;obtain⟨o,h1,e⟩:=QqY (s:=s) (n:=n) (hs:=hs) h;refine⟨o,h1,?_⟩;have is:Qeu (tb s) .str (.str m) hs=some true:=rfl;have nn:Q0 (tb s) .Is (.ref hs.length) .non (hs++[o])=some false:=rfl;generalize Qa (tb s) (n+3)=cf at e ⊢;generalize tb s=T at is nn ⊢;simp[b61,Qm,QI,Qj,Qo,QG,Qy,QC,y_c,Q6,QH,Zs,QO,QN,Q5,QV,Qx,Qw,ZQ,Qt,ZR,Q1,ZC,Q7,ZX,Qz,Qu,Q2,Qp,QE,QA,evs,eq_int,Zo,QX,opU,ZG,biU,biL,fin,is,e,nn]
end
section

def Qfr(h:b∈[49,50,51,52]):biU T .int [.str [b]] hs=some (.int ((b-48:Nat):Int) 0,hs):=by
 simp only[Xd,Xf,Xy]at h
 rcases h with rfl|rfl|rfl|rfl<;>rfl
def g48(h:b∈[50,51,52]):b∈[49,50,51,52]:=Xi _ h
def QcS{x y:List Nat}{b:Bool}(h:inS x y=b):Q0 T .In (.str x) (.str y) hs=some b:=by simp only[Q0,ZJ,inD,QjA,h]
def in3:∀a∈[107,112,115,111,98,104,102,99,113],inS [a] [111,102]=decide (a=111\/a=102)/\inS [a] [99,113]=decide (a=99\/a=113)/\inS [a] [98,104]=decide (a=98\/a=104):=by decide +kernel
def Qh6{x:List Nat}(h:x.length<=1000000):biU T .len [.str x] hs=some (.int x.length 0,hs):=if_pos h
def nes{x y:List Nat}:Q0 T .NotEq (.str x) (.str y) hs=some (!decide (x=y)):=rfl
def Tk(s:List U)(hs:Hs)(n:Nat)(m:List Nat)(t g:Nat):Prop:=fin (exs (tb s) (Qa (tb s) n) 100 b69 [sS m] hs)=some (iU t,hs)/\fin (exs (tb s) (Qa (tb s) n) 100 b70 [sS m] hs)=some (iU g,hs)
def QpG(h:a∈[107,112,115,111,98]):Tk s hs n [a] (if a=111 then 0 else 1) (if a=98 then 0 else 1):=by
 unfold Tk;simp only[Xd,Xf,Xy]at h
 obtain⟨j1,j2,j3⟩:=in3 a (by simp only[Xd,Xf,Xy];lia)
 have i1:=QcS (T:=tb s) (hs:=hs) j1;have i2:=QcS (T:=tb s) (hs:=hs) j2;have i3:=QcS (T:=tb s) (hs:=hs) j3
 have i4:=Qh6 (T:=tb s) (hs:=hs) (x:=[a]) (by simp)
 generalize Qa (tb s) n=cf;generalize tb s=T at i1 i2 i3 i4 ⊢
 rcases h with rfl|rfl|rfl|rfl|rfl<;>(constructor<;>simp[b69,b70,Qm,QI,Qj,Qo,QG,Qy,QC,y_c,Q6,QH,Zs,QO,QN,Q5,QV,Qx,Qw,ZQ,Qt,ZR,Q1,ZC,Q7,ZX,Qz,Qu,Q2,Qp,QE,QA,evs,eq_int,ZV,QX,opU,ZG,biL,fin,eqi,eqs,nes,QX,atU,ixU,i1,i2,i3,i4])
def QpE(h:a∈[104,102]):Tk s hs n [a,b] (if a=104 then 1 else 0) (if a=104 then 0 else 1):=by
 unfold Tk;simp only[Xd,Xf,Xy]at h
 obtain⟨j1,j2,j3⟩:=in3 a (by simp only[Xd,Xf,Xy];lia)
 have i1:=QcS (T:=tb s) (hs:=hs) j1;have i2:=QcS (T:=tb s) (hs:=hs) j2;have i3:=QcS (T:=tb s) (hs:=hs) j3
 have i4:=Qh6 (T:=tb s) (hs:=hs) (x:=[a,b]) (by simp)
 generalize Qa (tb s) n=cf;generalize tb s=T at i1 i2 i3 i4 ⊢
 rcases h with rfl|rfl<;>(constructor<;>simp[b69,b70,Qm,QI,Qj,Qo,QG,Qy,QC,y_c,Q6,QH,Zs,QO,QN,Q5,QV,Qx,Qw,ZQ,Qt,ZR,Q1,ZC,Q7,ZX,Qz,Qu,Q2,Qp,QE,QA,evs,eq_int,ZV,QX,opU,ZG,biL,fin,eqi,eqs,nes,QX,atU,ixU,i1,i2,i3,i4])
def QoN(h:a∈[107,112])(hb:(b=120/\c∈[50,51,52])\/b∈[50,51,52]):Tk s hs n [a,b,c] (if b=120 then 1 else b-48) (if b=120 then c-48 else 1):=by
 unfold Tk;simp only[Xd,Xf,Xy]at h
 obtain⟨j1,j2,j3⟩:=in3 a (by simp only[Xd,Xf,Xy];lia)
 have i1:=QcS (T:=tb s) (hs:=hs) j1;have i2:=QcS (T:=tb s) (hs:=hs) j2;have i3:=QcS (T:=tb s) (hs:=hs) j3
 have i4:=Qh6 (T:=tb s) (hs:=hs) (x:=[a,b,c]) (by simp)
 rw[X6 (by lia)]at i1 i2 i3
 rcases hb with⟨rfl,hc⟩|hb
 ·have i5:=Qfr (T:=tb s) (hs:=hs) (g48 hc);generalize Qa (tb s) n=cf;generalize tb s=T at i1 i2 i3 i4 i5 ⊢;constructor<;>simp[b69,b70,Qm,QI,Qj,Qo,QG,Qy,QC,y_c,Q6,QH,Zs,QO,QN,Q5,QV,Qx,Qw,ZQ,Qt,ZR,Q1,ZC,Q7,ZX,Qz,Qu,Q2,Qp,QE,QA,evs,eq_int,ZV,QX,opU,ZG,biL,fin,eqi,eqs,nes,QX,atU,ixU,i1,i2,i3,i4,i5]
 ·have i5:=Qfr (T:=tb s) (hs:=hs) (g48 hb)
  have nb:b≠120:=by simp only[Xd,Xf,Xy]at hb;lia
  generalize Qa (tb s) n=cf;generalize tb s=T at i1 i2 i3 i4 i5 ⊢;constructor<;>simp[b69,b70,Qm,QI,Qj,Qo,QG,Qy,QC,y_c,Q6,QH,Zs,QO,QN,Q5,QV,Qx,Qw,ZQ,Qt,ZR,Q1,ZC,Q7,ZX,Qz,Qu,Q2,Qp,QE,QA,evs,eq_int,ZV,QX,opU,ZG,biL,fin,eqi,eqs,nes,QX,atU,ixU,i1,i2,i3,i4,i5,nb]
def QpF{e:Nat}(h:a∈[99,113])(hb:b∈[49,50,51,52])(he:e∈[49,50,51,52]):Tk s hs n [a,b,c,e] ((b-48)+(e-48)) ((b-48)+(e-48)):=by
 unfold Tk;simp only[Xd,Xf,Xy]at h
 obtain⟨j1,j2,j3⟩:=in3 a (by simp only[Xd,Xf,Xy];lia)
 have i1:=QcS (T:=tb s) (hs:=hs) j1;have i2:=QcS (T:=tb s) (hs:=hs) j2;have i3:=QcS (T:=tb s) (hs:=hs) j3
 rw[X6 (by lia)]at i1 i3
 rw[Wt (by lia)]at i2
 have e1:=Qfr (T:=tb s) (hs:=hs) hb;have e2:=Qfr (T:=tb s) (hs:=hs) he;generalize Qa (tb s) n=cf;generalize tb s=T at i1 i2 i3 e1 e2 ⊢;constructor<;>(simp[b69,b70,Qm,QI,Qj,Qo,QG,Qy,QC,y_c,Q6,QH,Zs,QO,QN,Q5,QV,Qx,Qw,ZQ,Qt,ZR,Q1,ZC,Q7,ZX,Qz,Qu,Q2,Qp,QE,QA,evs,eq_int,ZV,QX,opU,ZG,biL,fin,QX,atU,ixU,i1,i2,i3,e1,e2];rfl)
def Qmx(h:Mk m):Qa (tb s) (n+1) 69 [.str m] hs=some (iU (spm m).tk,hs)/\Qa (tb s) (n+1) 70 [.str m] hs=some (iU (spm m).ts.length,hs):=by
 rw[Qe fnL[69] rfl rfl,Qe fnL[70] rfl rfl]
 suffices e:∃t g,Tk s hs n m t g/\t=(spm m).tk/\g=(spm m).ts.length by
  obtain⟨t,g,k,e1,e2⟩:=e;rw[<-e1,<-e2];exact k
 cases h with
 |bare h=>
  refine⟨_,_,QpG h,?_⟩;simp only[Xd,Xf,Xy]at h
  rcases h with rfl|rfl|rfl|rfl|rfl<;>exact⟨rfl,rfl⟩
 |keep h hb=>
  refine⟨_,_,QpE h,?_⟩;simp only[Xd,Xf,Xy]at h
  rcases h with rfl|rfl<;>exact⟨rfl,rfl⟩
 |grow h hb=>exact⟨_,_,QoN h (.inl ⟨rfl,hb⟩),rfl,by simp[spm,grT]⟩
 | @lean a b c h hb hc=>
  have nb:b≠120:=by simp only[Xd,Xf,Xy]at hb;lia
  exact⟨_,_,QoN h (.inr hb),by simp[spm,nb],by simp[spm,nb]⟩
 |cross h hb hc he=>exact⟨_,_,QpF h hb he,rfl,by simp[spm,crA,crB,T1]⟩
end
noncomputable def dS(ks:List (List Nat))(v:List Nat->U):List (U×U):=ks.map λk=>(U.str k,v k)
noncomputable def pk(ks:List (List Nat))(k:List Nat):List (List Nat):=if k∈ks then ks else ks++[k]
noncomputable def up{α:Type}(v:List Nat->α)(k:List Nat)(u:α):List Nat->α:=λj=>if j=k then u else v j
def QpC{v:List Nat->α}{k:List Nat}{u:α}:up v k u k=u:=if_pos rfl
def Qml{v:List Nat->α}{k j:List Nat}{u:α}(h:j≠k):up v k u j=v j:=if_neg h
def QoX{i j:List Nat}:decide (U.str i=U.str j)=decide (i=j):=by simp
def Qgp{v:List Nat->U}:(dS ks v).length=ks.length:=Xz ..
def Qaq{k:List Nat}:(pk ks k).length<=ks.length+1:=by unfold pk;split<;>simp
def pk_mem{k j:List Nat}:j∈pk ks k↔j∈ks\/j=k:=by
 unfold pk;split
 ·rename_i h;exact⟨.inl,λz=>z.elim id λe=>e▸h⟩
 ·simp
def Qkr{k:List Nat}(h:ks.Nodup):(pk ks k).Nodup:=by
 unfold pk;split
 ·exact h
 ·rename_i n;rw[Uw]
  exact⟨h,by simp,λa ha b hb e=>n (by simp at hb;rw[<-hb,<-e];exact ha)⟩
def Qf5{k:List Nat}(h:k∉ks):pk ks k=ks++[k]:=if_neg h
def Qf4{k:List Nat}(h:k∈ks):pk ks k=ks:=if_pos h
theorem QbX{v:List Nat->U}{k:List Nat}:∀{ks:List (List Nat)},YG (dS ks v) (U.str k)=if k∈ks then some (v k)else none
 |[]=>rfl
 |j::ks=>by
  have ih:=QbX (v:=v) (k:=k) (ks:=ks);unfold YG dS at *;rw[X1,Wz];dsimp only;rw[QoX];by_cases e:j=k
  ·subst e;simp
  ·have e':k≠j:=X8 e;rw[X6 e];dsimp only;rw[ih];simp[e']
def Qb7{v w:List Nat->U}(h:∀k∈ks,v k=w k):dS ks v=dS ks w:=U4 λk hk=>by rw[h k hk]
def Qki{v:List Nat->U}{k:List Nat}:Qes (dS ks v) (U.str k) u=dS (pk ks k) (up v k u):=by
 have ea:((dS ks v).any λp=>decide (p.1=U.str k))=decide (k∈ks):=by
  unfold dS;rw[List.any_map,U7];simp only[List.any_eq_true,Function.comp,QoX,Xw];exact⟨λz=>by obtain⟨x,a,b⟩:=z;exact b▸a,λh=>⟨k,h,rfl⟩⟩
 unfold Qes;rw[ea];by_cases h:k∈ks
 ·rw[if_pos (Wt h),Qf4 h];unfold dS;rw[U0];refine U4 λj y=>?_;by_cases e:j=k
  ·subst e;simp[up]
  ·simp[up,e]
 ·rw[X6 h,if_neg Xs,Qf5 h];unfold dS;rw[Wn]
  congr 1
  ·refine U4 λj hj=>?_
   rw[Qml (λe:j=k=>h (by rw[<-e];exact hj))]
  ·simp[up]
section
variable {v:List Nat->U}{k:List Nat}{b:E}
def Dk(o:O)(kvs:List (U×U)):Prop:=o=.dic kvs\/o=.fzd kvs
def Qqr(hp:h[p]?=some o)(ho:Dk o (dS ks v)):Q0 T .In (U.str k) (.ref p) h=some (decide (k∈ks)):=by
 rcases ho with rfl|rfl<;>(simp only[Q0,ZJ,hp,inD,QaK,QaY,Wo,QbX,Option.map];by_cases e:k∈ks<;>simp[e])
def Qm3(hp:h[p]?=some o)(ho:Dk o (dS ks v))(hk:k∈ks):QX T (.ref p) (U.str k) h=some (v k):=by
 rcases ho with rfl|rfl<;>(simp only[QX,hp,QaK,QaY,Wo,QbX,hk];rfl)
def Qqq(hp:h[p]?=some (.dic (dS ks v))):Q0 T .In (U.str k) (.ref p) h=some (decide (k∈ks)):=Qqr hp (.inl rfl)
def QeM(hp:h[p]?=some (.dic (dS ks v)))(hk:k∈ks):QX T (.ref p) (U.str k) h=some (v k):=Qm3 hp (.inl rfl) hk
def QbO(hp:h[p]?=some (.dic (dS ks v)))(l:ks.length<1000000):QfZ (.ref p) (U.str k) u h=some (h.set p (.dic (dS (pk ks k) (up v k u)))):=by
 have l':(dS ks v).length<1000000:=by rw[Qgp];exact l
 simp only[QfZ,hp,QfD,QaY,l',true_and,Wo,Qki]
def Qil(hp:h[p]?=some (.dic (dS ks v))):bmU T .get (.ref p) [U.str k,u] h=some (if k∈ks then v k else u,h):=by
 simp only[bmU,hp,bmD,QaY,Wo,QbX];by_cases e:k∈ks<;>simp[e]
def Qnh{b:Bm}(hp:h[p]?=some (.dic kvs))(hb:bD b=true):Qa8 b (.ref p) h=true:=by simp only[Qa8,hp,hb]
end
noncomputable def Qji:List Nat:=[108,97,121]
noncomputable def QfM:List Nat:=[102,101,116,99,104]
noncomputable def QgB:List Nat:=[111,118,101,114]
noncomputable def JE:List Nat:=[100,114,97,119]
noncomputable def QgC:List Nat:=[107,101,101,112]
noncomputable def Qcx(ne fa:Int)(p:Int):List U:=[.str Qji,iU (ne+p),iU fa]
noncomputable def Yt(ne fa:Int):Ti->List (List U)
 |.sm=>[[.str Qji,iU (ne+0),iU fa]]
 |.fr w=>[[.str QfM,.str w,iU fa]]
 |.nw ps s l=>if ps=[]then [[.str QgB,iU fa]]else ps.map (Qcx ne fa)++[[.str JE,iU fa,iU s,iU l]]
def DM(h:Hs)(u:U)(mv:List U):Prop:=∃p,u=.ref p/\h[p]?=some (.tup mv)
def DM.mono(k:Kp h h1){mv:List U}(z:DM h u mv):DM h1 u mv:=by obtain⟨p,e,a⟩:=z;exact⟨p,e,k _ _ a⟩
def LM(mvs:List (List U))(u:U)(h:Hs):Prop:=∃p us,u=.ref p/\h[p]?=some (.lst us)/\Paired (DM h) us mvs
noncomputable def QoO(t:E):List S:=[.ite (.cmp .Eq (.ix Va Wa) (.c (.str Qce))) [.ret (.lst [.tup [.c (.str Qji),.op .Add Vb (.ix Va Wb),Vc]])] [],.ite (.cmp .Eq (.ix Va Wa) (.c (.str YM))) [.ret (.lst [.tup [.c (.str QfM),.ix Va Wb,Vc]])] [],.ite t [.ret (.lst [.tup [.c (.str QgB),Vc]])] [],
 .ret (.op .Add (.comp (.seq (.ix Va Wb)) false none (.tup [.c (.str Qji),.op .Add Vb Vd,Vc])) (.lst [.tup [.c (.str JE),Vc,.ix Va Wc,.ix Va Wd]]))]
section
variable {t:Ti}
def QhU{mv:List U}:LM [mv] (.ref (h++[O.tup mv]).length) (h++[O.tup mv]++[O.lst [.ref h.length]]):=⟨_,_,rfl,at0,.cons ⟨_,rfl,Q4 at0⟩ .nil⟩
def t0{x:U}{r:List U}(hp:h[p]?=some (.tup (x::r))):ev T cf (d+2) (.ix Va Wa) (sR p::Z) h=some (x,h):=ZH (Qb rfl) (ZI (j:=0) hp rfl)
def t1{x y:U}{r:List U}(hp:h[p]?=some (.tup (x::y::r))):ev T cf (d+2) (.ix Va Wb) (sR p::Z) h=some (y,h):=ZH (Qb rfl) (ZI (j:=1) hp rfl)
def QgO{x w:List Nat}{r:List U}(hp:h[p]?=some (.tup (.str x::r))):evT T cf (d+4) (.cmp .Eq (.ix Va Wa) (.c (.str w))) (sR p::Z) h=some (decide (x=w),h):=QQ (t0 hp) y_c rfl
def QcZ(a:ev T cf d e Z h=some (v,h1)):ev T cf (d+1) (.lst [e]) Z h=some (.ref h1.length,h1++[.lst [v]]):=by rw[Qw];simp only[evs,a,Qm]
def Qjc(he:∀p q s l ps,u=.ref p->h[p]?=some (.tup [.str Jd,.ref q,.int s 0,.int l 0])->h[q]?=some (.tup (ps.map iU))->∀d,evT T cf (d+5) e [some u,some (iU ne),some (iU fa)] h=some (decide (ps=[]),h))(lt:∀ps s l,t=.nw ps s l->ps.length<=1000)(z:DTi h u t):
  ∃v h1,fin (exs T cf 100 (QoO e) [some u,some (iU ne),some (iU fa)] h)=some (v,h1)/\Kp h h1/\LM (Yt ne fa t) v h1:=by
 cases t with
 |sm=>
  obtain⟨p,rfl,e1⟩:=z;refine⟨_,_,?_,(Kp.app _ _).trans (Kp.app _ _),QhU⟩;exact QcV (d:=96) (QgO e1) rfl (QcZ (d:=95) (YN (d:=94) y_c (Zu (d:=93) (Qb rfl) (t1 e1) Z4) (Qb rfl)))
 |fr w=>
  obtain⟨p,rfl,e1⟩:=z;refine⟨_,_,?_,(Kp.app _ _).trans (Kp.app _ _),QhU⟩;exact(congrArg fin (Qcs (d:=97) (QgO e1) rfl)).trans (QcV (d:=95) (QgO e1) rfl (QcZ (d:=94) (YN (d:=93) y_c (t1 e1) (Qb rfl))))
 |nw ps s l=>
  obtain⟨p,q,rfl,e1,e2⟩:=z;have l1:=lt ps s l rfl;have hh:=he p q s l ps rfl e1 e2;by_cases c:ps=[]
  ·rw[show Yt ne fa (.nw ps s l)=[[.str QgB,iU fa]]from if_pos c];refine⟨_,_,?_,(Kp.app _ _).trans (Kp.app _ _),QhU⟩;exact(congrArg fin ((Qcs (d:=97) (QgO e1) rfl).trans (Qcs (d:=96) (QgO e1) rfl))).trans (QcV (d:=94) (hh 91) (Wt c) (QcZ (d:=93) (YB (d:=92) y_c (Qb rfl))))
  ·rw[show Yt ne fa (.nw ps s l)=ps.map (Qcx ne fa)++[[.str JE,iU fa,iU s,iU l]]from if_neg c];have R1:fin (exs T cf 100 (QoO e) [sR p,some (iU ne),some (iU fa)] h)=_:=(congrArg fin ((Qcs (d:=97) (QgO e1) rfl).trans ((Qcs (d:=96) (QgO e1) rfl).trans (Qcs (d:=95) (hh 91) (X6 c)))))
   obtain⟨us,h2,ec,k,pr⟩:=J1 (T:=T) (cf:=cf) (d:=93) (Z:=[sR p,some (iU ne),some (iU fa)]) (h:=h) (h1:=h) (u:=.ref q) (L:=ps.map iU) (e:=.ix Va Wb) (el:=.tup [.c (.str Qji),.op .Add Vb Vd,Vc]) (λx u h=>∃i,x=iU i/\DM h u (Qcx ne fa i)) (λy y y y k o=>by obtain⟨i,a,b⟩:=o;exact⟨i,a,b.mono k⟩) (t1 e1) (.inr (Yb e2)) (by rw[Xz];lia)
    (λx mx hs k=>by
     obtain⟨i,_,rfl⟩:=Wr.mp mx
     exact⟨_,_,YN (d:=92) y_c (Zu (d:=91) (Qb rfl) (Qb rfl) Z4) (Qb rfl),Kp.app _ _,i,rfl,_,rfl,at0⟩)
   have pr':Paired (DM h2) us (ps.map (Qcx ne fa)):=by
    have:∀{us:List U} {ps:List Int},Paired (λu a=>∃i,a=iU i/\DM h2 u (Qcx ne fa i)) us (ps.map iU)->Paired (DM h2) us (ps.map (Qcx ne fa)):=λ{us ps} z=>by
     induction ps generalizing us with
     |nil=>cases z;exact .nil
     |cons i r ih=>
      cases z with
      |cons a b=>
       obtain⟨j,ej,d⟩:=a;cases ej;exact .cons d (ih b)
    exact this pr
   have lu:=Qk pr';rw[Xz]at lu;have K:Kp h (h2++[.lst us]):=k.trans (Kp.app _ _);have e3:=K _ _ e1
   have e2':ev T cf 94 (.lst [.tup [.c (.str JE),Vc,.ix Va Wc,.ix Va Wd]]) [sR p,some (iU ne),some (iU fa)] (h2++[O.lst us])=some (.ref (h2++[O.lst us]++[O.tup [.str JE,iU fa,iU s,iU l]]).length,h2++[O.lst us]++[O.tup [.str JE,iU fa,iU s,iU l]]++[O.lst [.ref (h2++[O.lst us]).length]]):=by
    exact QcZ (d:=93) (Qjk (d:=92) y_c (Qb rfl) (ZH (d:=90) (Qb rfl) (ZI (j:=2) e3 rfl)) (ZH (d:=90) (Qb rfl) (ZI (j:=3) e3 rfl)))
   have a1:(h2++[O.lst us]++[.tup [.str JE,iU fa,iU s,iU l]]++[.lst [.ref (h2++[O.lst us]).length]])[h2.length]?=some (.lst us):=Q4 (Q4 at0);have a2:(h2++[O.lst us]++[.tup [.str JE,iU fa,iU s,iU l]]++[O.lst [.ref (h2++[O.lst us]).length]])[(h2++[O.lst us]++[O.tup [.str JE,iU fa,iU s,iU l]]).length]?=some (.lst [.ref (h2++[O.lst us]).length]):=at0
   refine⟨_,_,R1.trans (QaZ (d:=95) (Zu ec e2' (QcQ a1 a2 (by simp;lia)))),(K.trans ((Kp.app _ _).trans (Kp.app _ _))).trans (Kp.app _ _),_,_,rfl,at0,Z3 (Qi (λy y d=>d.mono (((Kp.app _ _).trans ((Kp.app _ _).trans (Kp.app _ _))).trans (Kp.app _ _))) pr') (.cons ⟨_,rfl,Q4 (Q4 at0)⟩ .nil)⟩
end
def OkT(tk:Nat):Ti->Prop
 |.nw ps _ _=>ps.length<=8/\∀i∈ps,0<=i/\i<(tk:Int)
 |.sm=>0<tk
 |.fr w=>∃b∈[119,120,121,122],w=[b]
section
variable {t:Ti}{tk:Nat}
def OkT.le(o:OkT tk t):∀ps s l,t=.nw ps s l->ps.length<=1000:=λps s l e=>by subst e;have:=o.1;lia
def Ql1(o:OkT tk t)(z:DTi h u t):Pc (tb s) (n+1) 59 [u,iU ne,iU fa] h (LM (Yt ne fa t)):=by
 obtain⟨v,h1,a,k,m⟩:=Qjc (T:=tb s) (cf:=Qa (tb s) n) (ne:=ne) (fa:=fa) (e:=.not (.ix Va Wb)) (λp q x l ps eu e1 e2 d=>by
  subst eu
  have e3:evT (tb s) (Qa (tb s) n) (d+4) (.ix Va Wb) [sR p,some (iU ne),some (iU fa)] h=some (!decide (ps=[]),h):=by
   show bd (ev (tb s) (Qa (tb s) n) (d+1+2) _ _ h) _=_;rw[t1 e1,Qm]
   have:Zo (tb s) (.ref q) h=some (!decide (ps=[])):=by
    simp only[Zo,ZJ,e2,Option.map];cases ps<;>rfl
   rw[this];rfl
  rw[QeL e3,Bool.not_not]) o.le z
 refine⟨v,h1,?_,k,m⟩;rw[Qe fnL[59] rfl rfl];exact a
def Ql2(o:OkT tk t)(z:DTi h u t):Pc (tb s) (n+1) 74 [u,iU ne,iU fa] h (LM (Yt ne fa t)):=by
 obtain⟨v,h1,a,k,m⟩:=Qjc (T:=tb s) (cf:=Qa (tb s) n) (ne:=ne) (fa:=fa) (e:=.cmp .Eq (.bi .len [.ix Va Wb]) Wa) (λp q x l ps eu e1 e2 d=>by
  subst eu
  have e4:biU (tb s) .len [.ref q] h=some (iU ((ps.map iU).length:Nat),h):=by unfold biU;simp only[ZJ,e2]
  refine(QQ (d:=d+3) (QgE (t1 e1) e4) y_c rfl).trans ?_;rw[Xz]
  cases ps<;>rfl) o.le z
 refine⟨v,h1,?_,k,m⟩;rw[Qe fnL[74] rfl rfl];exact a
end
structure Gw{α:Type}(hb:Hs)(l:Nat)(D:Hs->U->α->Prop)(xs:List α)(hs:Hs):Prop where
 st:∀(p:Nat) o,p≠l->hb[p]?=some o->hs[p]?=some o
 it:∃us,hs[l]?=some (.lst us)/\Paired (D hs) us xs
def Mo{α:Type}(D:Hs->U->α->Prop):Prop:=∀h h1 u x,TK h h1->D h u x->D h1 u x
def Kp.tk{a b:Hs}(k:Kp a b):TK a b:=λi us e=>k i _ e
section
variable {D:Hs->U->α->Prop}{xs ys:List α}
def Gw.kp(mo:Mo D)(z:Gw hb l D xs hs)(k:Kp hs h1):Gw hb l D xs h1:=⟨λp o n a=>k _ _ (z.st p o n a),let ⟨us,a,b⟩:=z.it;⟨us,k _ _ a,Qi (λy y=>mo _ _ _ _ k.tk) b⟩⟩
def Gw.base(z:Gw hb l D xs hs)(k:Kp h hb)(lt:h.length<=l):Kp h hs:=λp o a=>z.st p o (by have:=(Xa.mp a).1;lia) (k _ _ a)
theorem Gw.set(mo:Mo D)(z:Gw hb l D xs hs)(p:Paired (D hs) vs ys):Gw hb l D ys (hs.set l (.lst vs)):=by
 obtain⟨us,a,_⟩:=z.it
 exact⟨λp o n e=>by rw[Xe (X8 n)];exact z.st p o n e,vs,Xr (Xa.mp a).1,Qi (λy y=>mo _ _ _ _ (TK.set a λy=>by simp)) p⟩
def Qqe{T:Tbl}{xs:List U}(hp:h[p]?=some (.lst xs)):Qa8 .extend (.ref p) h=true:=by simp only[Qa8,hp];rfl
def Qgz{xs ys:List U}(hi:Z[i]?=some (sR p))(hp:h[p]?=some (.lst xs))(ve:ev T cf (d+1) e Z h=some (.ref q,h1))(hp1:h1[p]?=some (.lst xs))(hq:h1[q]?=some (.lst ys))(l:xs.length+ys.length<=1000000):ex T cf (d+3) (.expr (.bm .extend (.var i) [e])) Z h=some (.next,Z,h1.set p (.lst (xs++ys))):=by
 rw[Qo,ZC,Qb hi,Qm,if_pos (Qqe (T:=T) hp)];simp only[evs,ve,Qm,bmU,hp1,bmL,hq,l,Wo]
def Qcd{o e:E}(vo:ev T cf d o Z h=some (.ref p,h))(hp:h[p]?=some (.lst us))(ve:ev T cf d e Z h=some (u,h1))(hp1:h1[p]?=some (.lst us))(l:us.length<1000000):ex T cf (d+2) (.expr (.bm .append o [e])) Z h=some (.next,Z,h1.set p (.lst (us++[u]))):=by
 rw[Qo,ZC,vo,Qm,if_pos (Qj8 hp)];simp only[evs,ve,Qm,Qmf hp1 l]
def QlF(mo:Mo D)(z:Gw hb l D xs hs)(hi:Z[i]?=some (sR l))(ve:ev T cf (d+1) e Z hs=some (.ref q,h1))(k:Kp hs h1)(hq:h1[q]?=some (.lst vs))(p:Paired (D h1) vs ys)(b:xs.length+ys.length<=1000000):
  ∃h2,ex T cf (d+3) (.expr (.bm .extend (.var i) [e])) Z hs=some (.next,Z,h2)/\Gw hb l D (xs++ys) h2:=by
 obtain⟨us,a,pu⟩:=z.it
 exact⟨_,Qgz hi a ve (k _ _ a) hq (by rw[Qk pu,Qk p];exact b),(z.kp mo k).set mo (Z3 (Qi (λy y=>mo _ _ _ _ k.tk) pu) p)⟩
def QlG(mo:Mo D)(z:Gw hb l D xs hs)(hi:Z[i]?=some (sR l)){y:α}(ve:ev T cf (d+1) e Z hs=some (u,h1))(k:Kp hs h1)(p:D h1 u y)(b:xs.length<1000000):
  ∃h2,ex T cf (d+3) (.expr (.bm .append (.var i) [e])) Z hs=some (.next,Z,h2)/\Gw hb l D (xs++[y]) h2:=by
 obtain⟨us,a,pu⟩:=z.it
 exact⟨_,Qcd (Qb hi) a ve (k _ _ a) (by rw[Qk pu];exact b),(z.kp mo k).set mo (Ye p (Qi (λx x=>mo _ _ _ _ k.tk) pu))⟩
end
def Gw.tk{D:Hs->U->α->Prop}{xs:List α}(z:Gw hb l D xs hs)(e:hb[l]?=some (.lst ys)):TK hb hs:=λi us a=>z.st i _ (λq=>by rw[q,e]at a;cases a) a
def Qax:Mo DTi:=λh h1 u t k z=>by
 cases t with
 |nw ps s l=>obtain⟨p,q,e,e1,e2⟩:=z;exact⟨p,q,e,k _ _ e1,k _ _ e2⟩
 |sm=>obtain⟨p,e,e1⟩:=z;exact⟨p,e,k _ _ e1⟩
 |fr w=>obtain⟨p,e,e1⟩:=z;exact⟨p,e,k _ _ e1⟩
def QbW:Mo DEn:=λy y y y k z=>by obtain⟨p,e,a⟩:=z;exact⟨p,e,k _ _ a⟩
def QdM:Mo DM:=λy y y y k z=>by obtain⟨p,e,a⟩:=z;exact⟨p,e,k _ _ a⟩
noncomputable def Zb(ne fa:Int):List Ti->List (List U)
 |[]=>[]
 |t::r=>Yt ne fa t++Zb ne (fa+1) r
theorem Z0{ne:Int}{t:Ti}:∀{ts:List Ti} {fa:Int},Zb ne fa (ts++[t])=Zb ne fa ts++Yt ne (fa+(ts.length:Nat)) t
 |[],fa=>by simp[Zb]
 |x::r,fa=>by
  rw[List.cons_append,Zb,Zb,Z0 (ts:=r),Wv,Wj]
  congr 3
  lia
noncomputable def Yn(ne:Int)(w:List Nat):List U:=if w=Zt then [.str Zt,iU (ne+0)]else [.str QgC,iU (ne+0),.str w]
noncomputable def QfS(sp:Sp)(ne fa:Int):List (List U):=Zb ne fa sp.ts++sp.es.map (Yn ne)
structure Gd(sp:Sp):Prop where
 tk:sp.tk<=8
 lt:sp.ts.length<=8
 ok:∀t∈sp.ts,OkT sp.tk t
 le:sp.es.length<=1
 en:∀w∈sp.es,0<sp.tk/\(w=Zt\/∃b∈[119,120,121,122],w=[b])
def Qa2{tk:Nat}{t:Ti}(o:OkT tk t):(Yt ne fa t).length<=9:=by
 cases t with
 |nw ps s l=>
  have:=o.1;simp only[Yt];split
  ·simp
  ·simp;lia
 |sm=>simp[Yt]
 |fr w=>simp[Yt]
theorem ZS{ne:Int}{tk:Nat}:∀{ts:List Ti} {fa:Int},(∀t∈ts,OkT tk t)->(Zb ne fa ts).length<=9*ts.length
 |[],_,_=>by simp[Zb]
 |t::r,fa,h=>by
  have a:=Qa2 (ne:=ne) (fa:=fa) (h t Xm);have b:=ZS (ne:=ne) (ts:=r) (fa:=fa+1) λx m=>h x (Xi _ m);rw[Zb,Xn,Wj];lia
section
variable {sp:Sp}{w:List Nat}
def QnA{m:Nat}(l:f<44):Qcp (tb s) f m=[]:=by
 unfold Qcp
 have:(tb s).dfl.lookup f=none:=by
  show dflL.lookup f=none;unfold dflL;simp only[List.lookup]
  repeat (split;· rename_i q;simp at q;lia)
  all_goals rfl
 rw[this]
def QiY{k:Nat}(z:Te (tb s) o k u)(hi:Z[i]?=some (sR p))(hp:h[p]?=some o):ev (tb s) (Qa (tb s) (n+1)) (d+2) (.meth k (.var i) []) Z h=some (u,h):=by
 obtain⟨f,⟨c,fs,C,rfl,hC,hk,l⟩,H⟩:=z;rw[QoM hi hp hC hk (QnA l)];exact H n p h hp
def QeB{D:Hs->U->α->Prop}{xs:List α}{k:Nat}(z:Gi (tb s) o k D xs)(hi:Z[i]?=some (sR p))(hp:h[p]?=some o):∃h' us,ev (tb s) (Qa (tb s) (n+1)) (d+2) (.meth k (.var i) []) Z h=some (.ref h'.length,h'++[.lst us])/\Kp h h'/\Paired (D h') us xs:=by
 obtain⟨f,⟨c,fs,C,rfl,hC,hk,l⟩,H⟩:=z;obtain⟨h',us,a,b⟩:=H n p h hp
 exact⟨h',us,by rw[QoM hi hp hC hk (QnA l)];exact a,b⟩
def Qou(z:DEn h u w):Pc (tb s) (n+1) 60 [u,iU ne] h λv h1=>DM h1 v (Yn ne w):=by
 obtain⟨p,rfl,e⟩:=z;have t2:∀d,evT (tb s) (Qa (tb s) n) (d+4) (.cmp .Eq (.ix Va Wb) (.c (.str Zt))) [sR p,some (iU ne)] h=some (decide (w=Zt),h):=λd=>QQ (t1 e) y_c rfl;unfold Yn;by_cases c:w=Zt
 ·rw[if_pos c];refine⟨_,_,(Qe fnL[60] rfl rfl).trans ?_,kp1,_,rfl,Qla⟩;exact QcV (d:=96) (t2 94) (Wt c) (YB (d:=95) y_c (Zu (d:=94) (Qb rfl) (t0 e) Z4))
 ·rw[if_neg c];refine⟨_,_,(Qe fnL[60] rfl rfl).trans ?_,kp1,_,rfl,Qla⟩;exact(congrArg fin (Qcs (d:=97) (t2 94) (X6 c))).trans (QaZ (d:=97) (YN (d:=96) y_c (Zu (d:=95) (Qb rfl) (t0 e) Z4) (t1 e)))
def Jp{R:U->α->Prop}{ws:List α}(h:Paired R us ws){x:U}(m:x∈us):∃w,w∈ws/\R x w:=by
 obtain⟨i,hi⟩:=Wx m;obtain⟨w,hw,r⟩:=Q8 h hi;exact⟨w,Xp hw,r⟩
def Qap{R:U->α->Prop}{D:U->β->Prop}{f:α->β}{ws:List α}(a:Paired (λv u=>∀w,R u w->D v (f w)) vs us)(b:Paired R us ws):Paired D vs (ws.map f):=by
 induction a generalizing ws with
 |nil=>cases b;exact .nil
 |cons x _ ih=>
  cases b with
  |cons y r=>exact .cons (x _ y) (ih r)
def QqZ(z:Tl (tb s) o sp)(gd:Gd sp)(hp:h[p]?=some o):Pc (tb s) (n+2) 58 [.ref p,iU ne,iU fa] h (LM (QfS sp ne fa)):=by
 obtain⟨h',us,e1,k1,pr⟩:=QeB (n:=n) (d:=95) (h:=h++[.lst []]) (i:=0) (Z:=[sR p,some (iU ne),some (iU fa),sR h.length,none,none]) z.ts rfl (Q4 hp);have lu:=Qk pr;have K1:Kp h (h'++[.lst us]):=(kp1.trans k1).trans kp1;have hl:(h'++[.lst us])[h.length]?=some (.lst []):=kp1 _ _ (k1 _ _ at0);have g0:Gw (h'++[.lst us]) h.length DM [] (h'++[.lst us]):=⟨λr r r a=>a,[],hl,.nil⟩
 have nl:h'.length≠h.length:=by
  have:=k1.len;simp at this;lia
 refine Qbu (Qe fnL[58] rfl rfl) (Jc (QD (d:=98) rfl) (Qno (u:=.ref h'.length) (L:=us) (λi Z hs=>∃x4 x5,Z=[sR p,some (iU ne),some (iU fa),sR h.length,x4,x5]/\Gw (h'++[.lst us]) h.length DM (Zb ne fa (sp.ts.take i)) hs) e1 (λi Z hs z=>?_) ⟨none,none,rfl,g0⟩ (λi x hx Z hs y=>?_) λρ2 h2 y=>?_))
 ·obtain⟨_,_,_,g⟩:=z;exact QL (g.st _ _ nl at0)
 ·obtain⟨x4,x5,rfl,g⟩:=y;obtain⟨t,ht,dt⟩:=Q8 pr hx;have ot:=gd.ok t (Xp ht);have li:=(Xa.mp ht).1
  have dt':DTi hs x t:=Qax _ _ _ _ (Kp.tk kp1 |>.trans (g.tk hl)) dt
  obtain⟨_,h3,a,k,q,vs,rfl,hq,pv⟩:=Ql1 (s:=s) (n:=n) (ne:=ne) (fa:=fa+(i:Int)) ot dt';have b1:=Qa2 (ne:=ne) (fa:=fa+(i:Int)) ot;have b2:=ZS (ne:=ne) (fa:=fa) (ts:=sp.ts.take i) λt m=>gd.ok t (W9 m)
  have b3:(sp.ts.take i).length=i:=by rw[X7];lia
  have b4:=gd.lt
  obtain⟨h4,e4,g4⟩:=QlF (T:=tb s) (cf:=Qa (tb s) (n+1)) (d:=93) (i:=3) (Z:=[sR p,some (iU ne),some (iU fa),sR h.length,some (iU (i:Int)),some x]) QdM g rfl (e:=.call 59 [Vf,Vb,.op .Add Vc Ve]) (ZA (d:=93) (e_3 (Qb rfl) (Qb rfl) (Zu (d:=92) (Qb rfl) (Qb rfl) Z4)) a) k hq pv (by lia)
  refine⟨_,_,h4,rfl,QB (d:=95) e4,_,_,rfl,?_⟩;rw[Wl,ht];show Gw _ _ _ (Zb ne fa (sp.ts.take i++[t])) h4;rw[Z0,b3];exact g4
 ·obtain⟨x4,x5,rfl,g⟩:=y
  rw[X9 (by lia)]at g
  have K2:Kp h h2:=g.base K1 (Xh _);obtain⟨h3,ws,e3,k3,p3⟩:=QeB (n:=n) (d:=92) (h:=h2) (i:=0) (Z:=[sR p,some (iU ne),some (iU fa),sR h.length,x4,x5]) z.es rfl (K2 _ _ hp);have lw:=Qk p3;have p3':=Qi (λr r d=>QbW _ (h3++[.lst ws]) _ _ (Kp.tk kp1) d) p3;have b5:=gd.le
  obtain⟨vs,h4,e4,k4,p4⟩:=J1 (T:=tb s) (cf:=Qa (tb s) (n+1)) (d:=94) (u:=.ref h3.length) (L:=ws) (el:=.call 60 [Vg,Vb]) (λx v hh=>∀w,DEn (h3++[.lst ws]) x w->DM hh v (Yn ne w)) (λr r r r k f w d=>(f w d).mono k) e3 (.inl (QL at0)) (by lia)
   (λx mx hs k=>by
    obtain⟨w,_,d⟩:=Jp p3' mx;obtain⟨v,h5,a,k5,m⟩:=Qou (s:=s) (n:=n) (ne:=ne) (QbW _ _ _ _ k.tk d);refine⟨v,h5,ZA (d:=93) (e_2 (Qb rfl) (Qb rfl)) a,k5,λw' d'=>?_⟩;obtain⟨q,rfl,a1⟩:=d;obtain⟨q',eq,a2⟩:=d';cases eq;rw[a1]at a2;cases a2
    exact m)
  have P:=Qap p4 p3';obtain⟨us3,hg,pg⟩:=g.it;have K3:Kp h2 (h4++[.lst vs]):=((k3.trans kp1).trans k4).trans kp1;have b2:=ZS (ne:=ne) (fa:=fa) gd.ok;have b4:=gd.lt;have l1:=Qk pg;have l2:=Qk P;rw[Xz]at l2
  exact Yd (Jo (Zu (d:=95) (Qb rfl) e4 (QcQ (K3 _ _ hg) at0 (by lia))) ⟨(K2.trans K3).trans kp1,_,_,rfl,at0,Z3 (Qi (λr r d=>d.mono (K3.trans kp1)) pg) (Qi (λr r d=>d.mono (kp1.trans kp1)) P)⟩)
end
noncomputable def Qey:List Nat:=[101,110,100]
noncomputable def tkS(sps:List Sp):Nat:=(sps.map Sp.tk).sum
noncomputable def gvS(sps:List Sp):Nat:=(sps.map λsp=>sp.ts.length).sum
noncomputable def Qad(ne fa:Int):List Sp->List (List U)
 |[]=>[]
 |sp::r=>QfS sp ne fa++Qad (ne+(sp.tk:Nat)) (fa+(sp.ts.length:Nat)) r
def JJ{sps:List Sp}{sp:Sp}:tkS (sps++[sp])=tkS sps+sp.tk:=by simp[tkS]
def JT{sps:List Sp}{sp:Sp}:gvS (sps++[sp])=gvS sps+sp.ts.length:=by simp[gvS]
theorem YU{sp:Sp}:∀{sps:List Sp} {ne fa:Int},Qad ne fa (sps++[sp])=Qad ne fa sps++QfS sp (ne+(tkS sps:Nat)) (fa+(gvS sps:Nat))
 |[],ne,fa=>by simp[Qad,tkS,gvS]
 |x::r,ne,fa=>by
  rw[List.cons_append,Qad,Qad,YU (sps:=r),Wv]
  congr 3
  ·simp[tkS];lia
  ·simp[gvS];lia
noncomputable def Z1(sps:List Sp):List (List U):=Qad 0 0 sps++[[.str Qey]]
def QfR{sp:Sp}(gd:Gd sp):(QfS sp ne fa).length<=80:=by
 have a:=ZS (ne:=ne) (fa:=fa) gd.ok;have b:=gd.lt;have c:=gd.le;rw[QfS,Xn,Xz];lia
theorem YT:∀{sps:List Sp} {ne fa:Int},(∀sp∈sps,Gd sp)->(Qad ne fa sps).length<=80*sps.length
 |[],_,_,_=>by simp[Qad]
 |sp::r,ne,fa,h=>by
  have a:=QfR (ne:=ne) (fa:=fa) (h sp Xm);have b:=YT (sps:=r) (ne:=ne+(sp.tk:Nat)) (fa:=fa+(sp.ts.length:Nat)) λx m=>h x (Xi _ m);rw[Qad,Xn,Wj];lia
def SO(s:List U)(h:Hs)(u:U)(sp:Sp):Prop:=∃p o,u=.ref p/\h[p]?=some o/\Tl (tb s) o sp/\Gd sp
def SO.kp(k:Kp h h1){sp:Sp}(z:SO s h u sp):SO s h1 u sp:=by obtain⟨p,o,a,b,c⟩:=z;exact⟨p,o,a,k _ _ b,c⟩
def Qg9{sps:List Sp}(p:Paired (SO s h) us sps):∀sp∈sps,Gd sp:=λsp m=>by
 obtain⟨i,hi⟩:=Wx m;obtain⟨u,_,z⟩:=Qdr p hi;obtain⟨_,_,_,_,_,g⟩:=z;exact g
def Qq0{sps:List Sp}(hr:h[r]?=some (.lst us))(p:Paired (SO s h) us sps)(l:sps.length<=1000):Pc (tb s) (n+3) 57 [.ref r] h (LM (Z1 sps)):=by
 have lu:=Qk p;have GD:=Qg9 p;have hl:(h++[O.lst []])[h.length]?=some (.lst []):=at0;refine Qbu (Qe fnL[57] rfl rfl) (Jc ((QD (d:=98) rfl).trans ((QD (d:=97) y_c).trans (QD (d:=96) y_c))) (Yw (u:=.ref r) (L:=us) (λi Z hs=>∃x4,Z=[sR r,sR h.length,some (iU (tkS (sps.take i))),some (iU (gvS (sps.take i))),x4]/\Gw (h++[O.lst []]) h.length DM (Qad 0 0 (sps.take i)) hs) (Qb rfl) (λi Z hs z=>?_) ⟨none,rfl,λw w w a=>a,[],hl,.nil⟩ (λi x hx Z hs y=>?_) λρ2 h2 y=>?_))
 ·obtain⟨_,_,g⟩:=z;exact QL (g.base kp1 (Xh _) _ _ hr)
 ·obtain⟨x4,rfl,g⟩:=y;obtain⟨sp,ht,q,o,rfl,ho,tl,gd⟩:=Q8 p hx;have li:=(Xa.mp ht).1;have ho':=g.base kp1 (Xh _) _ _ ho;obtain⟨_,h3,a,k,q3,vs,rfl,hq,pv⟩:=QqZ (n:=n) (ne:=(tkS (sps.take i):Nat)) (fa:=(gvS (sps.take i):Nat)) tl gd ho';have b1:=QfR (ne:=(tkS (sps.take i):Nat)) (fa:=(gvS (sps.take i):Nat)) gd;have b2:=YT (ne:=0) (fa:=0) (sps:=sps.take i) λt m=>GD t (W9 m)
  have b3:(sps.take i).length=i:=by rw[X7];lia
  obtain⟨h4,e4,g4⟩:=QlF (T:=tb s) (cf:=Qa (tb s) (n+2)) (d:=91) (i:=1) (Z:=[sR r,sR h.length,some (iU (tkS (sps.take i))),some (iU (gvS (sps.take i))),sR q]) QdM g rfl (e:=.call 58 [Ve,Vc,Vd]) (ZA (d:=91) (e_3 (Qb rfl) (Qb rfl) (Qb rfl)) a) k hq pv (by lia)
  have ho4:=g4.base kp1 (Xh _) _ _ ho;refine⟨_,_,h4,rfl,(Zi (d:=94) e4).trans ((Zi (d:=93) (QgA (d:=92) rfl (QiY (n:=n+1) (d:=90) tl.tk rfl ho4))).trans (QB (d:=91) (QgA (d:=91) rfl (QiY (n:=n+1) (d:=89) tl.gv rfl ho4)))),sR q,?_,?_⟩
  ·rw[Wl,ht];show _=[_,_,some (iU (tkS (sps.take i++[sp]):Nat)),some (iU (gvS (sps.take i++[sp]):Nat)),_];rw[JJ,JT];simp
  ·rw[Wl,ht];show Gw _ _ _ (Qad 0 0 (sps.take i++[sp])) h4;rw[YU,Int.zero_add,Int.zero_add];exact g4
 ·obtain⟨x4,rfl,g⟩:=y
  rw[X9 (by lia)]at g
  have K2:Kp h h2:=g.base kp1 (Xh _);obtain⟨us3,hg,pg⟩:=g.it;have b2:=YT (ne:=0) (fa:=0) GD;have l1:=Qk pg
  have e1:ev (tb s) (Qa (tb s) (n+2)) 93 (.lst [.tup [.c (.str Qey)]]) [sR r,sR h.length,some (iU (tkS (sps.take us.length))),some (iU (gvS (sps.take us.length))),x4] h2=some (.ref (h2++[O.tup [.str Qey]]).length,h2++[O.tup [.str Qey]]++[O.lst [.ref h2.length]]):=QcZ (d:=92) (by rw[Qx];simp only[evs,y_c,Qm])
  have K3:Kp h2 (h2++[O.tup [.str Qey]]++[O.lst [.ref h2.length]]):=kp1.trans kp1
  exact Yd (Jo (Zu (d:=93) (Qb rfl) e1 (QcQ (K3 _ _ hg) at0 (by simp;lia))) ⟨(K2.trans K3).trans kp1,_,_,rfl,at0,Z3 (Qi (λw w d=>d.mono (K3.trans kp1)) pg) (.cons ⟨_,rfl,kp1 _ _ (kp1 _ _ at0)⟩ .nil)⟩)
def Qim(h:Mk m):Gd (spm m):=by
 have up:∀{m:Nat} {t:Nat},m<=t->∀i∈Qjp m,(0:Int)<=i/\i<(t:Int):=λ{m t} l i mi=>by
  obtain⟨j,hj,rfl⟩:=Wr.mp mi;rw[T5]at hj;lia
 cases h with
 |bare h=>
  simp only[Xd,Xf,Xy]at h
  rcases h with rfl|rfl|rfl|rfl|rfl<;>exact⟨by decide,by decide,by simp[spm,OkT],by decide,by simp[spm,Zt]⟩
 |keep h hb=>
  simp only[Xd,Xf,Xy]at h
  rcases h with rfl|rfl
  ·exact⟨show 1<=8 by decide,show 0<=8 by decide,(λt m=>nomatch m),show 1<=1 by decide,(λw m=>by cases Wh.mp m;exact⟨show 0<1 by decide,.inr ⟨_,hb,rfl⟩⟩)⟩
  ·exact⟨show 0<=8 by decide,show 1<=8 by decide,(λt m=>by cases Wh.mp m;exact⟨_,hb,rfl⟩),show 0<=1 by decide,(λw m=>nomatch m)⟩
 | @grow a b h hb=>
  obtain⟨_,hm⟩:=n48 hb
  have l:b-48<=4:=by simp only[Xd,Xf,Xy]at hm;lia
  refine⟨show 1<=8 by decide,by show(grT _ _).length<=8;simp[grT];lia,λt m=>?_,show 0<=1 by decide,(λw m=>nomatch m)⟩
  obtain⟨i,_,rfl⟩:=Wr.mp (show t∈grT _ _ from m)
  exact⟨by simp,λi mi=>by cases Wh.mp mi;exact⟨Int.le_refl _,show(0:Int) < ((1:Nat):Int) by decide⟩⟩
 | @lean a b c h hb hc=>
  have nb:b≠120:=by simp only[Xd,Xf,Xy]at hb;lia
  obtain⟨_,hm⟩:=n48 hb
  have l:b-48<=4:=by simp only[Xd,Xf,Xy]at hm;lia
  rw[show spm [a,b,c]=⟨b-48,[.nw (lnP (b-48) c) (sd a) 0],[]⟩from if_neg nb]
  refine⟨by show b-48<=8;lia,show 1<=8 by decide,λt m=>?_,show 0<=1 by decide,(λw m=>nomatch m)⟩
  cases Wh.mp m;refine⟨?_,λi mi=>?_⟩
  ·unfold lnP;split<;>simp[Qjp]<;>lia
  ·have:i∈Qjp (b-48):=by unfold lnP at mi;split at mi<;>simpa using mi
   exact up (Xh _) i this
 | @cross a b c e h hb hc he=>
  obtain⟨_,ha,_⟩:=n49 hb;obtain⟨_,hb,_⟩:=n49 he
  refine⟨by show(b-48)+(e-48)<=8;lia,by show(crA _ _ _ _++crB _ _ _).length<=8;simp[crA,crB];lia,λt m=>?_,by show 0<=1;decide,λw m=>nomatch m⟩
  rcases Wp.mp (show t∈crA _ _ _ _++crB _ _ _ from m)with m|m
  ·obtain⟨i,hi,rfl⟩:=Wr.mp m;rw[T5]at hi
   exact⟨by simp,λj mj=>by cases Wh.mp mj;show _/\_<((b-48+(e-48):Nat):Int);lia⟩
  ·obtain⟨i,hi,rfl⟩:=Wr.mp m;rw[T5]at hi
   exact⟨by simp,λj mj=>by cases Wh.mp mj;show _/\_<((b-48+(e-48):Nat):Int);lia⟩
def Ys{ss:List S}{Q:Rho->Hs->Prop}(x:Xx T cf d ss Z h λf ρ1 h1=>f=.next/\Q ρ1 h1):∃ρ2 h2,exs T cf d ss Z h=some (.next,ρ2,h2)/\Q ρ2 h2:=by
 obtain⟨f,ρ1,h1,a,rfl,q⟩:=x;exact⟨ρ1,h1,a,q⟩
def Ms(h:Hs)(l:Nat)(mvs:List (List U))(hs:Hs):Prop:=Kp h hs/\h.length<=l/\∃us,hs[l]?=some (.lst us)/\Paired (DM hs) us mvs
def Ms.kp(z:Ms h l mvs hs)(k:Kp hs h1):Ms h l mvs h1:=by obtain⟨a,b,us,c,d⟩:=z;exact⟨a.trans k,b,us,k _ _ c,Qi (λy y=>DM.mono k) d⟩
noncomputable def QoB:List S:=[.set 2 (.op .Add Vc (.call 74 [Vi,Ve,Vf])),.set 5 (.op .Add Vf Wb)]
noncomputable def Qmb:List S:=[.ite (.cmp .Eq Vk (.c (.str Zt))) [.expr (.bm .append Vc [.tup [.c (.str Zt),.op .Add Ve Vj]])] [.expr (.bm .append Vc [.tup [.c (.str QgC),.op .Add Ve Vj,Vk]])]]
noncomputable def QiO:List S:=[.set 7 (.call 61 [Vg]),.loop (.name 8) (.seq (.meth 0 Vh [])) QoB,.loop (.pair 9 10) (.seq (.meth 1 Vh [])) Qmb,.set 4 (.op .Add Ve (.call 69 [Vg]))]
section
variable {x9 x10:Option U}
def QpY(mk:Mk m)(z:Ms h l mvs hs)(lm:mvs.length<=900000):∃l' y7 y8 y9 y10 h2,exs (tb s) (Qa (tb s) (n+4)) 93 QiO [x0,x1,sR l,x3,some (iU ne),some (iU fa),sS m,x7,x8,x9,x10] hs=some (.next,[x0,x1,sR l',x3,some (iU (ne+((spm m).tk:Nat))),some (iU (fa+((spm m).ts.length:Nat))),sS m,y7,y8,y9,y10],h2)/\Ms h l' (mvs++QfS (spm m) ne fa) h2:=by
 have gd:=Qim mk;obtain⟨o,⟨_,tl⟩,e61⟩:=Qca (s:=s) (n:=n) (hs:=hs) mk;have z1:Ms h l mvs (hs++[o]):=z.kp kp1;obtain⟨h',us,e1,k1,pr⟩:=QeB (n:=n+3) (d:=88) (h:=hs++[o]) (i:=7) (Z:=[x0,x1,sR l,x3,some (iU ne),some (iU fa),sS m,sR hs.length,x8,x9,x10]) tl.ts rfl at0;have lu:=Qk pr;have z2:=z1.kp (k1.trans (kp1 (o:=.lst us)));have ho:=(k1.trans (kp1 (o:=.lst us))) _ _ at0;have bT:=ZS (ne:=ne) (fa:=fa) gd.ok;have b4:=gd.lt
 suffices x:Xx (tb s) (Qa (tb s) (n+4)) 93 QiO [x0,x1,sR l,x3,some (iU ne),some (iU fa),sS m,x7,x8,x9,x10] hs λf ρ1 h1=>f=.next/\∃l' y7 y8 y9 y10,ρ1=[x0,x1,sR l',x3,some (iU (ne+((spm m).tk:Nat))),some (iU (fa+((spm m).ts.length:Nat))),sS m,y7,y8,y9,y10]/\Ms h l' (mvs++QfS (spm m) ne fa) h1 by
  obtain⟨ρ2,h2,a,l',y7,y8,y9,y10,rfl,w⟩:=Ys x;exact⟨l',y7,y8,y9,y10,h2,a,w⟩
 refine Jc (QD (d:=91) (ZA (d:=90) (e_1 (Qb rfl)) e61)) (Yw (d:=90) (u:=.ref h'.length) (L:=us) (λi Z g=>∃l' y8,Z=[x0,x1,sR l',x3,some (iU ne),some (iU (fa+(i:Nat))),sS m,sR hs.length,y8,x9,x10]/\Kp (h'++[.lst us]) g/\Ms h l' (mvs++Zb ne fa ((spm m).ts.take i)) g) e1 (λi Z g z=>?_) ⟨l,x8,by simp,Kp.refl _,by simpa[Zb]using z2⟩ (λi x hx Z g y=>?_) λρ2 h2 y=>?_)
 ·obtain⟨_,_,_,k,_⟩:=z;exact QL (k _ _ at0)
 ·obtain⟨l',y8,rfl,k,ms⟩:=y;obtain⟨t,ht,dt⟩:=Q8 pr hx;have ot:=gd.ok t (Xp ht);have li:=(Xa.mp ht).1;obtain⟨_,h3,a,k3,q,vs,rfl,hq,pv⟩:=Ql2 (s:=s) (n:=n+3) (ne:=ne) (fa:=fa+(i:Nat)) ot (Qax _ _ _ _ (kp1.trans k).tk dt);have b1:=Qa2 (ne:=ne) (fa:=fa+(i:Nat)) ot;have b2:=ZS (ne:=ne) (fa:=fa) (ts:=(spm m).ts.take i) λt m=>gd.ok t (W9 m)
  have b3:((spm m).ts.take i).length=i:=by rw[X7];lia
  obtain⟨m1,m2,ws,m3,m4⟩:=ms;have lw:=Qk m4;have lv:=Qk pv;rw[Xn]at lw
  have e74:ev (tb s) (Qa (tb s) (n+4)) 88 (.op .Add Vc (.call 74 [Vi,Ve,Vf])) [x0,x1,sR l',x3,some (iU ne),some (iU (fa+(i:Nat))),sS m,sR hs.length,some x,x9,x10] g=some (.ref h3.length,h3++[.lst (ws++vs)]):=Zu (d:=87) (Qb rfl) (ZA (d:=86) (e_3 (Qb rfl) (Qb rfl) (Qb rfl)) a) (QcQ (k3 _ _ m3) hq (by lia))
  refine⟨_,_,_,rfl,(QD (d:=88) e74).trans (QB (d:=87) (QmF (d:=87) (Zu (d:=86) (Qb rfl) y_c Z4))),h3.length,some x,?_,(k.trans k3).trans kp1,(m1.trans k3).trans kp1,?_,_,at0,?_⟩
  ·show _=[_,_,_,_,_,some (iU (fa+((i+1:Nat):Int))),_,_,_,_,_]
   rw[show fa+((i+1:Nat):Int)=fa+(i:Int)+1 by lia]
   rfl
  ·exact X3 m1.len k3.len
  ·rw[Wl,ht];show Paired _ _ (mvs++Zb ne fa ((spm m).ts.take i++[t]));rw[Z0,b3,<-Wv];exact Z3 (Qi (λv v d=>d.mono (k3.trans kp1)) m4) (Qi (λv v d=>d.mono kp1) pv)
 ·obtain⟨l',y8,rfl,k,ms⟩:=y
  rw[X9 (by lia)]at ms
  rw[lu];obtain⟨h3,ws,e3,k3,p3⟩:=QeB (n:=n+3) (d:=87) (h:=h2) (i:=7) (Z:=[x0,x1,sR l',x3,some (iU ne),some (iU (fa+((spm m).ts.length:Nat))),sS m,sR hs.length,y8,x9,x10]) tl.es rfl (k _ _ ho);have p3':=Qi (λv v d=>QbW _ (h3++[.lst ws]) _ _ (Kp.tk kp1) d) p3;have lw:=Qk p3;have b5:=gd.le;obtain⟨m1,m2,us3,m3,m4⟩:=ms;have l3:=Qk m4;rw[Xn]at l3;have kk:=k3.trans (kp1 (o:=.lst ws));have hl:=kk _ _ m3;have g0:Gw (h3++[.lst ws]) l' DM (mvs++Zb ne fa (spm m).ts) (h3++[.lst ws]):=⟨λv v v a=>a,us3,hl,Qi (λv v=>DM.mono kk) m4⟩
  have nl:h3.length≠l':=by
   have:=(Xa.mp m3).1;have:=k3.len;lia
  refine Yw (d:=89) (u:=.ref h3.length) (L:=ws) (λi Z g=>∃y9 y10,Z=[x0,x1,sR l',x3,some (iU ne),some (iU (fa+((spm m).ts.length:Nat))),sS m,sR hs.length,y8,y9,y10]/\Gw (h3++[.lst ws]) l' DM (mvs++Zb ne fa (spm m).ts++((spm m).es.take i).map (Yn ne)) g) e3 (λi Z g z=>?_) ⟨x9,x10,rfl,by simpa using g0⟩ (λi x hx Z g y=>?_) λρ2 h4 y=>?_
  ·obtain⟨_,_,_,g⟩:=z;exact QL (g.st _ _ nl at0)
  ·obtain⟨y9,y10,rfl,gw⟩:=y;obtain⟨w,hw,q,rfl,dq⟩:=Q8 p3' hx;have dg:=gw.tk hl _ _ dq
   have lt:((spm m).es.take i).length<=1:=by rw[X7];lia
   have bb:(mvs++Zb ne fa (spm m).ts++((spm m).es.take i).map (Yn ne)).length<1000000:=by
    rw[Xn,Xn,Xz];lia
   have key:∃h5,exs (tb s) (Qa (tb s) (n+4)) 89 Qmb [x0,x1,sR l',x3,some (iU ne),some (iU (fa+((spm m).ts.length:Nat))),sS m,sR hs.length,y8,sI 0,sS w] g=some (.next,[x0,x1,sR l',x3,some (iU ne),some (iU (fa+((spm m).ts.length:Nat))),sS m,sR hs.length,y8,sI 0,sS w],h5)/\Gw (h3++[.lst ws]) l' DM (mvs++Zb ne fa (spm m).ts++((spm m).es.take i).map (Yn ne)++[Yn ne w]) h5:=by
    have et:evT (tb s) (Qa (tb s) (n+4)) 87 (.cmp .Eq Vk (.c (.str Zt))) [x0,x1,sR l',x3,some (iU ne),some (iU (fa+((spm m).ts.length:Nat))),sS m,sR hs.length,y8,sI 0,sS w] g=some (decide (w=Zt),g):=QQ (d:=85) (Qb rfl) y_c rfl;by_cases c:w=Zt
    ·obtain⟨h5,e5,g5⟩:=QlG (T:=tb s) (cf:=Qa (tb s) (n+4)) (d:=83) (i:=2) (Z:=[x0,x1,sR l',x3,some (iU ne),some (iU (fa+((spm m).ts.length:Nat))),sS m,sR hs.length,y8,sI 0,sS w]) (y:=Yn ne w) QdM gw rfl (e:=.tup [.c (.str Zt),.op .Add Ve Vj]) (YB (d:=83) y_c (Zu (d:=82) (Qb rfl) (Qb rfl) Z4)) kp1 ⟨_,rfl,by unfold Yn;rw[if_pos c];exact at0⟩ bb
     exact⟨h5,QB (d:=87) (QcU (d:=87) et c (QB (d:=85) e5)),g5⟩
    ·obtain⟨h5,e5,g5⟩:=QlG (T:=tb s) (cf:=Qa (tb s) (n+4)) (d:=83) (i:=2) (Z:=[x0,x1,sR l',x3,some (iU ne),some (iU (fa+((spm m).ts.length:Nat))),sS m,sR hs.length,y8,sI 0,sS w]) (y:=Yn ne w) QdM gw rfl (e:=.tup [.c (.str QgC),.op .Add Ve Vj,Vk]) (YN (d:=83) y_c (Zu (d:=82) (Qb rfl) (Qb rfl) Z4) (Qb rfl)) kp1 ⟨_,rfl,by unfold Yn;rw[if_neg c];exact at0⟩ bb
     exact⟨h5,QB (d:=87) (Qjd (d:=87) et c (QB (d:=85) e5)),g5⟩
   obtain⟨h5,e5,g5⟩:=key
   refine⟨_,_,h5,by simp only[tgt,dg];rfl,e5,_,_,rfl,?_⟩
   rw[Wl,hw];show Gw _ _ _ (_++((spm m).es.take i++[w]).map (Yn ne)) h5;rw[Wn,<-Wv];exact g5
  ·obtain⟨y9,y10,rfl,gw⟩:=y
   rw[X9 (by lia),Wv]at gw
   obtain⟨us4,hg,pg⟩:=gw.it;have e69:=(Qmx (s:=s) (n:=n+3) (hs:=h4) mk).1;refine Jc (QD (d:=88) (Zu (d:=87) (Qb rfl) (ZA (d:=86) (e_1 (Qb rfl)) e69) Z4)) (Z2 ⟨rfl,l',_,_,_,_,rfl,gw.base (m1.trans kk) m2,m2,us4,hg,pg⟩)
end
noncomputable def QcW:List Nat:=[99,97,115,116]
def RM(h:Hs)(u:U)(ms:List (List Nat)):Prop:=∃p,u=.ref p/\h[p]?=some (.lst (ms.map U.str))/\∀m∈ms,Mk m
def RM.kp(k:Kp h h1)(z:RM h u ms):RM h1 u ms:=by obtain⟨p,a,b,c⟩:=z;exact⟨p,a,k _ _ b,c⟩
noncomputable def Jl(rows:List (List (List Nat))):List (List U):=(rows.map λr=>Z1 (r.map spm)).flatten
noncomputable def Qav(c:Int)(rows:List (List (List Nat))):List (List U):=[.str QcW,iU c]::Jl rows
def Qhk(h:∀m∈ms,Mk m):(Z1 (ms.map spm)).length<=80*ms.length+1:=by
 have:=YT (ne:=0) (fa:=0) (sps:=ms.map spm) λsp m=>by
  obtain⟨x,hx,rfl⟩:=Wr.mp m;exact Qim (h x hx)
 rw[Z1,Xn];simp at this ⊢;lia
theorem Qbw:∀{rows:List (List (List Nat))},(∀r∈rows,r.length<=200/\∀m∈r,Mk m)->(Jl rows).length<=16001*rows.length
 |[],_=>by simp[Jl]
 |r::rows,h=>by
  have a:=Qhk (h r Xm).2;have b:=(h r Xm).1;have c:=Qbw (rows:=rows) λx m=>h x (Xi _ m);show(Z1 (r.map spm)++Jl rows).length<=_;rw[Xn,Wj];lia
def QcO{r:List (List Nat)}:Jl (rows++[r])=Jl rows++Z1 (r.map spm):=by simp[Jl]
noncomputable def QiN:List S:=[.set 4 Wa,.set 5 Wa,.loop (.name 6) (.seq Vd) QiO,.expr (.bm .append Vc [.tup [.c (.str Qey)]])]
section
variable {x6 x9 x10:Option U}
def QpX(z:RM h u ms)(lm:ms.length<=200)(y:Ms h l mvs hs)(b:mvs.length<=800000):∃l' y3 y4 y5 y6 y7 y8 y9 y10 h2,exs (tb s) (Qa (tb s) (n+4)) 97 QiN [x0,x1,sR l,some u,x4,x5,x6,x7,x8,x9,x10] hs=some (.next,[x0,x1,sR l',y3,y4,y5,y6,y7,y8,y9,y10],h2)/\Ms h l' (mvs++Z1 (ms.map spm)) h2:=by
 obtain⟨p,rfl,hp,mk⟩:=z
 suffices x:Xx (tb s) (Qa (tb s) (n+4)) 97 QiN [x0,x1,sR l,sR p,x4,x5,x6,x7,x8,x9,x10] hs λf ρ1 h1=>f=.next/\∃l' y3 y4 y5 y6 y7 y8 y9 y10,ρ1=[x0,x1,sR l',y3,y4,y5,y6,y7,y8,y9,y10]/\Ms h l' (mvs++Z1 (ms.map spm)) h1 by
  obtain⟨ρ2,h2,a,l',y3,y4,y5,y6,y7,y8,y9,y10,rfl,w⟩:=Ys x;exact⟨l',y3,y4,y5,y6,y7,y8,y9,y10,h2,a,w⟩
 have lw:∀i,(Qad 0 0 ((ms.take i).map spm)).length<=16000:=λi=>by
  have:=YT (ne:=0) (fa:=0) (sps:=(ms.take i).map spm) λsp m=>by
   obtain⟨x,hx,rfl⟩:=Wr.mp m;exact Qim (mk x (W9 hx))
  rw[Xz,X7]at this;lia
 refine Jc ((QD (d:=95) y_c).trans (QD (d:=94) y_c)) (Yw (d:=93) (u:=.ref p) (L:=ms.map U.str) (λi Z g=>∃l' y6 y7 y8 y9 y10,Z=[x0,x1,sR l',sR p,some (iU (0+(tkS ((ms.take i).map spm):Nat))),some (iU (0+(gvS ((ms.take i).map spm):Nat))),y6,y7,y8,y9,y10]/\Ms h l' (mvs++Qad 0 0 ((ms.take i).map spm)) g) (Qb rfl) (λi Z g z=>?_) ⟨l,x6,x7,x8,x9,x10,rfl,by simpa[Qad]using y⟩ (λi x hx Z g y=>?_) λρ2 h2 y=>?_)
 ·obtain⟨_,_,_,_,_,_,_,z⟩:=z;exact QL (z.1 _ _ hp)
 ·obtain⟨l',y6,y7,y8,y9,y10,rfl,z⟩:=y;rw[W6]at hx
  cases hm:ms[i]? with
  |none=>rw[hm]at hx;cases hx
  |some m=>
   rw[hm]at hx;cases hx;have lw:=lw i
   obtain⟨l2,z7,z8,z9,z10,h3,e,w⟩:=QpY (s:=s) (n:=n) (x0:=x0) (x1:=x1) (x3:=sR p) (x7:=y7) (x8:=y8) (x9:=y9) (x10:=y10) (ne:=0+(tkS ((ms.take i).map spm):Nat)) (fa:=0+(gvS ((ms.take i).map spm):Nat)) (mk m (Xp hm)) z (by rw[Xn];lia)
   refine⟨_,_,h3,rfl,e,l2,sS m,z7,z8,z9,z10,?_,?_⟩
   ·rw[Wl,hm];show _=[_,_,_,_,some (iU (0+(tkS ((ms.take i++[m]).map spm):Nat))),some (iU (0+(gvS ((ms.take i++[m]).map spm):Nat))),_,_,_,_,_];rw[Wn,X1,V1,JJ,JT,Int.natCast_add,Int.natCast_add,<-Int.add_assoc,<-Int.add_assoc]
   ·rw[Wl,hm];show Ms h l2 (mvs++Qad 0 0 ((ms.take i++[m]).map spm)) h3;rw[Wn,X1,V1,YU,<-Wv];exact w
 ·obtain⟨l',y6,y7,y8,y9,y10,rfl,z⟩:=y;rw[Xz,Uh]at z;obtain⟨a,b',us,c,d⟩:=z;have ld:=Qk d;have lw:=lw ms.length;rw[Uh]at lw;rw[Xn]at ld
  refine Qe2 (Qcd (d:=91) (u:=.ref h2.length) (h1:=h2++[O.tup [.str Qey]]) (Qb rfl) c (by rw[Qx];simp only[evs,y_c,Qm]) (kp1 _ _ c) (by lia)) (Z2 ⟨rfl,l',_,_,_,_,_,_,_,_,rfl,(a.trans kp1).put b',b',_,Xr (by have:=(Xa.mp c).1;simp;lia),?_⟩)
  rw[Z1,<-Wv]
  have tk:TK (h2++[O.tup [.str Qey]]) ((h2++[O.tup [.str Qey]]).set l' (.lst (us++[.ref h2.length]))):=TK.set (kp1 _ _ c) λv=>by simp
  exact Ye ⟨_,rfl,tk _ _ at0⟩ (Qi (λv v z=>QdM _ _ _ _ (Kp.tk kp1 |>.trans tk) z) d)
end
def QqQ{rp:Nat}{c:Int}(hr:h[rp]?=some (.lst us))(pr:Paired (RM h) us rows)(lr:rows.length<=20)(lm:∀r∈rows,r.length<=200):Pc (tb s) (n+5) 75 [iU c,.ref rp] h (LM (Qav c rows)):=by
 have lu:=Qk pr
 have good:∀r∈rows,r.length<=200/\∀m∈r,Mk m:=λr m=>⟨lm r m,by
  obtain⟨i,hi⟩:=Wx m;obtain⟨_,_,_,_,_,z⟩:=Qdr pr hi
  exact z⟩
 refine Qbu (Qe fnL[75] rfl rfl) (Jc (QD (d:=98) (QcZ (d:=97) (YB (d:=96) y_c (Qb rfl)))) (Yw (d:=97) (u:=.ref rp) (L:=us) (body:=QiN) (λi Z g=>∃l' y3 y4 y5 y6 y7 y8 y9 y10,Z=[some (iU c),sR rp,sR l',y3,y4,y5,y6,y7,y8,y9,y10]/\Ms h l' (Qav c (rows.take i)) g) (Qb rfl) (λi Z g z=>?_) ⟨_,none,none,none,none,none,none,none,none,rfl,kp1.trans kp1,by simp,_,at0,.cons ⟨_,rfl,kp1 _ _ at0⟩ .nil⟩ (λi x hx Z g y=>?_) λρ2 h2 y=>?_))
 ·obtain⟨_,_,_,_,_,_,_,_,_,_,z⟩:=z;exact QL (z.1 _ _ hr)
 ·obtain⟨l',y3,y4,y5,y6,y7,y8,y9,y10,rfl,z⟩:=y;obtain⟨r,hm,rm⟩:=Q8 pr hx;have mem:=Xp hm;have b:=Qbw (rows:=rows.take i) λr m=>good r (W9 m);rw[X7]at b
  obtain⟨l2,z3,z4,z5,z6,z7,z8,z9,z10,h3,e,w⟩:=QpX (s:=s) (n:=n) (x0:=some (iU c)) (x1:=sR rp) (x4:=y4) (x5:=y5) (x6:=y6) (x7:=y7) (x8:=y8) (x9:=y9) (x10:=y10) rm (lm r mem) z (by show(Jl _).length+1<=_;lia)
  refine⟨_,_,h3,rfl,e,l2,z3,z4,z5,z6,z7,z8,z9,z10,rfl,?_⟩;rw[Wl,hm];show Ms h l2 (_::Jl (rows.take i++[r])) h3;rw[QcO];exact w
 ·obtain⟨l',y3,y4,y5,y6,y7,y8,y9,y10,rfl,z⟩:=y
  rw[X9 (by lia)]at z
  obtain⟨a,b,us,c,d⟩:=z;exact Yd (Jo (Qb rfl) ⟨a,l',us,rfl,c,d⟩)
noncomputable def fkT(ks:List (List Nat)):Ti->List (List Nat)
 |.fr w=>pk ks w
 |_=>ks
noncomputable def fkE(ks:List (List Nat))(w:List Nat):List (List Nat):=if w=Zt then ks else pk ks w
noncomputable def fkS(ks:List (List Nat))(sp:Sp):List (List Nat):=sp.es.foldl fkE (sp.ts.foldl fkT ks)
noncomputable def fk(sps:List Sp):List (List Nat):=sps.foldl fkS []
noncomputable def cT(k:List Nat):Ti->Nat
 |.fr w=>if w=k then 1 else 0
 |_=>0
noncomputable def cS(k:List Nat)(sp:Sp):Nat:=(sp.ts.map (cT k)).sum
noncomputable def cR(k:List Nat)(sps:List Sp):Nat:=(sps.map (cS k)).sum
structure Dw(hb:Hs)(D:Nat)(ks:List (List Nat))(c:List Nat->Nat)(hs:Hs):Prop where
 st:∀(p:Nat) o,p≠D->hb[p]?=some o->hs[p]?=some o
 it:hs[D]?=some (.dic (dS ks λk=>iU (c k:Nat)))
 z:∀k,k∉ks->c k=0
 l:ks.length<=900000
section
variable {c c':List Nat->Nat}
def Dw.kp(w:Dw hb D ks c hs)(k:Kp hs h1):Dw hb D ks c h1:=⟨λp o n a=>k _ _ (w.st p o n a),k _ _ w.it,w.z,w.l⟩
def Dw.base(w:Dw hb D ks c hs)(k:Kp h hb)(lt:h.length<=D):Kp h hs:=λp o a=>w.st p o (by have:=(Xa.mp a).1;lia) (k _ _ a)
def Dw.tk(w:Dw hb D ks c hs)(e:hb[D]?=some (.dic kvs)):TK hb hs:=λi us a=>w.st i _ (λq=>by rw[q,e]at a;cases a) a
def Dw.put(w:Dw hb D ks c hs){k:List Nat}(lt:ks.length<900000)(e:∀j,c' j=if j=k then n else c j):Dw hb D (pk ks k) c' (hs.set D (.dic (dS (pk ks k) (up (λk=>iU (c k:Nat)) k (iU (n:Nat)))))):=by
 have lp:=(Xa.mp w.it).1
 refine⟨λp o n a=>by rw[Xe (X8 n)];exact w.st p o n a,?_,λj hj=>?_,by have:=Qaq (ks:=ks) (k:=k);lia⟩
 ·rw[Xr lp]
  congr 2
  refine Qb7 λj y=>?_;unfold up;rw[e];split<;>rfl
 ·rw[pk_mem]at hj;rw[e,if_neg λz=>hj (.inr z)];exact w.z j λz=>hj (.inl z)
def QlE(w:Dw hb D ks c hs){k:List Nat}:bmU T .get (.ref D) [.str k,.int 0 0] hs=some (iU (c k:Nat),hs):=by
 rw[Qil w.it];by_cases m:k∈ks
 ·rw[if_pos m]
 ·rw[if_neg m,w.z k m];rfl
end
section
variable {a b o:E}
def QeC{r:Option (U×Hs)}(vo:ev T cf d o Z h=some (.ref D,h))(hD:h[D]?=some (.dic kvs))(es:evs (ev T cf d) Z [a,b] h=some ([u,v],h1))(g:bmU T .get (.ref D) [u,v] h1=r):ev T cf (d+1) (.bm .get o [a,b]) Z h=r:=by
 rw[ZC,vo,Qm,if_pos (Qnh (b:=.get) hD rfl),es,Qm];exact g
def Qgx{k:E}{x:U}(ee:ev T cf d e Z h=some (u,h1))(eo:ev T cf d o Z h1=some (x,h2))(ei:ev T cf d k Z h2=some (w,h3))(ep:QfZ x w u h3=some h4):ex T cf (d+1) (.put o k e) Z h=some (.next,Z,h4):=by
 rw[Qi9,ee,Qm,eo,Qm,ei,Qm,ep];rfl
end
section
variable {c:List Nat->Nat}
noncomputable def QiP:List S:=[.ite (.cmp .Eq (.ix Vd Wa) (.c (.str YM))) [.put Vb (.ix Vd Wb) (.op .Add (.bm .get Vb [.ix Vd Wb,Wa]) Wb)] []]
noncomputable def Qmc:List S:=[.ite (.cmp .NotEq Vf (.c (.str Zt))) [.put Vb Vf (.bm .get Vb [Vf,Wa])] []]
noncomputable def QoC:List S:=[.loop (.name 3) (.seq (.meth 0 Vc [])) QiP,.loop (.pair 4 5) (.seq (.meth 1 Vc [])) Qmc]
def Qp0{x:U}{t:Ti}(w:Dw hb D ks c hs)(dt:DTi hs x t)(l:ks.length<900000):∃h2,exs (tb s) cf 95 QiP [x0,sR D,x2,some x,x4,x5] hs=some (.next,[x0,sR D,x2,some x,x4,x5],h2)/\Dw hb D (fkT ks t) (λk=>c k+cT k t) h2:=by
 have no:∀{p:Nat} {y:List Nat} {r:List U},x=.ref p->hs[p]?=some (.tup (.str y::r))->y≠YM->∃h2,exs (tb s) cf 95 QiP [x0,sR D,x2,some x,x4,x5] hs=some (.next,[x0,sR D,x2,some x,x4,x5],h2)/\Dw hb D ks c h2:=λ{p y r} e ep ny=>by
  subst e;exact⟨hs,QB (d:=93) (Qew (d:=92) (QQ (d:=91) (ZH (d:=89) (Qb rfl) (ZI (j:=0) ep rfl)) y_c rfl) (X6 ny)),w⟩
 cases t with
 |nw ps s l=>obtain⟨p,q,e,e1,_⟩:=dt;exact no e e1 (by decide)
 |sm=>obtain⟨p,e,e1⟩:=dt;exact no e e1 (by decide)
 |fr y=>
  obtain⟨p,rfl,ep⟩:=dt
  refine⟨_,QB (d:=93) (QcU (d:=93) (p:=YM=YM) (QQ (d:=91) (ZH (d:=89) (Qb rfl) (ZI (j:=0) ep rfl)) y_c rfl) rfl (QB (d:=91) (Qgx (d:=91) (Zu (d:=90) (QeC (d:=89) (Qb rfl) w.it (e_2 (ZH (d:=87) (Qb rfl) (ZI (j:=1) ep rfl)) y_c) (QlE w)) y_c Z4) (Qb rfl) (ZH (d:=89) (Qb rfl) (ZI (j:=1) ep rfl)) (QbO w.it (by lia))))),?_⟩
  have:=w.put (c':=λk=>c k+cT k (.fr y)) (k:=y) (n:=c y+1) l λj=>by
   simp only[cT];by_cases z:j=y
   ·subst z;simp
   ·rw[if_neg z,if_neg (X8 z)];rfl
  exact this
def QpZ{w:List Nat}(z:Dw hb D ks c hs)(l:ks.length<900000):∃h2,exs (tb s) cf 94 Qmc [x0,sR D,x2,x3,some (iU 0),sS w] hs=some (.next,[x0,sR D,x2,x3,some (iU 0),sS w],h2)/\Dw hb D (fkE ks w) c h2:=by
 have et:evT (tb s) cf 92 (.cmp .NotEq Vf (.c (.str Zt))) [x0,sR D,x2,x3,some (iU 0),sS w] hs=some (decide (w≠Zt),hs):=(QQ (d:=90) (Qb rfl) y_c nes).trans (by simp)
 unfold fkE;by_cases e:w=Zt
 ·rw[if_pos e];exact⟨hs,QB (d:=92) (Qjd (d:=92) et (λn=>n e) QI),z⟩
 ·rw[if_neg e]
  refine⟨_,QB (d:=92) (QcU (d:=92) et e (QB (d:=90) (Qgx (d:=90) (QeC (d:=89) (Qb rfl) z.it (e_2 (Qb rfl) y_c) (QlE z)) (Qb rfl) (Qb rfl) (QbO z.it (by lia))))),?_⟩
  exact z.put (n:=c w) l λj=>by
   by_cases q:j=w
   ·subst q;simp
   ·rw[if_neg q]
end
section
variable {c:List Nat->Nat}{sp:Sp}
def Qhz{ks:List (List Nat)}{t:Ti}:(fkT ks t).length<=ks.length+1:=by
 cases t with
 |fr w=>exact Qaq
 |_=>exact V8 _
def Qgj{ks:List (List Nat)}{w:List Nat}:(fkE ks w).length<=ks.length+1:=by
 unfold fkE;split
 ·lia
 ·exact Qaq
theorem Yy{α:Type}{f:List (List Nat)->α->List (List Nat)}(hf:∀ks a,(f ks a).length<=ks.length+1):∀{l:List α} {ks:List (List Nat)},(l.foldl f ks).length<=ks.length+l.length
 |[],ks=>Xh _
 |a::l,ks=>by
  have x:=hf ks a;have y:=Yy hf (l:=l) (ks:=f ks a);simp only[T0,Wj]at y ⊢;lia
def Y3{f:β->α->β}{l:List α}{a:α}{b:β}:(l++[a]).foldl f b=f (l.foldl f b) a:=by simp
def t55(tl:Tl (tb s) o sp)(gd:Gd sp)(K:Kp h hb)(lt:h.length<=D)(hD:∃kvs,hb[D]?=some (.dic kvs))(hp:h[p]?=some o)(w:Dw hb D ks c hs)(l:ks.length<=800000):∃y3 y4 y5 h2,exs (tb s) (Qa (tb s) (n+1)) 97 QoC [x0,sR D,sR p,x3,x4,x5] hs=some (.next,[x0,sR D,sR p,y3,y4,y5],h2)/\Dw hb D (fkS ks sp) (λk=>c k+cS k sp) h2:=by
 obtain⟨kvs,hD⟩:=hD;obtain⟨h',us,e1,k1,pr⟩:=QeB (n:=n) (d:=93) (h:=hs) (i:=2) (Z:=[x0,sR D,sR p,x3,x4,x5]) tl.ts rfl (w.base K lt _ _ hp);have lu:=Qk pr;have b4:=gd.lt;have w1:=w.kp (k1.trans (kp1 (o:=.lst us)));have ltD:=(Xa.mp w.it).1
 have nl:h'.length≠D:=by
  have:=k1.len;lia
 have s1:Dw (h'++[.lst us]) D ks c (h'++[.lst us]):=⟨λv v v a=>a,w1.it,w1.z,w1.l⟩
 suffices x:Xx (tb s) (Qa (tb s) (n+1)) 97 QoC [x0,sR D,sR p,x3,x4,x5] hs λf ρ1 h1=>f=.next/\∃y3 y4 y5,ρ1=[x0,sR D,sR p,y3,y4,y5]/\Dw hb D (fkS ks sp) (λk=>c k+cS k sp) h1 by
  obtain⟨ρ2,h2,a,y3,y4,y5,rfl,w⟩:=Ys x;exact⟨y3,y4,y5,h2,a,w⟩
 have back:∀{ks' c' g},Dw (h'++[.lst us]) D ks' c' g->Dw hb D ks' c' g:=λ{ks' c' g} z=>⟨λp o n a=>z.st p o n (w1.st p o n a),z.it,z.z,z.l⟩
 refine Yw (d:=95) (u:=.ref h'.length) (L:=us) (λi Z g=>∃y3,Z=[x0,sR D,sR p,y3,x4,x5]/\Dw (h'++[.lst us]) D ((sp.ts.take i).foldl fkT ks) (λk=>c k+((sp.ts.take i).map (cT k)).sum) g) e1 (λi Z g z=>?_) ⟨x3,rfl,by simpa using s1⟩ (λi x hx Z g y=>?_) λρ2 h2 y=>?_
 ·obtain⟨_,_,z⟩:=z;exact QL (z.st _ _ nl at0)
 ·obtain⟨y3,rfl,z⟩:=y;obtain⟨t,ht,dt⟩:=Q8 pr hx
  have dg:=Qax _ _ _ _ (Kp.tk kp1 |>.trans (z.tk w1.it)) dt
  have lf:=Yy (f:=fkT) (λv v=>Qhz) (l:=sp.ts.take i) (ks:=ks);rw[X7]at lf
  obtain⟨h5,e5,z5⟩:=Qp0 (s:=s) (cf:=Qa (tb s) (n+1)) (x0:=x0) (x2:=sR p) (x4:=x4) (x5:=x5) z dg (by lia)
  refine⟨_,_,h5,rfl,e5,_,rfl,?_⟩;rw[Wl,ht];show Dw _ D ((sp.ts.take i++[t]).foldl fkT ks) (λk=>c k+((sp.ts.take i++[t]).map (cT k)).sum) h5;rw[Y3];simp only[Wn,W4,X1,V1,Uc,List.sum_nil,Td,<-Nat.add_assoc];exact z5
 ·obtain⟨y3,rfl,z⟩:=y
  rw[X9 (by lia)]at z
  have z':=back z;obtain⟨h3,ws,e3,k3,p3⟩:=QeB (n:=n) (d:=92) (h:=h2) (i:=2) (Z:=[x0,sR D,sR p,y3,x4,x5]) tl.es rfl (z'.base K lt _ _ hp);have p3':=Qi (λv v d=>QbW _ (h3++[.lst ws]) _ _ (Kp.tk kp1) d) p3;have lw:=Qk p3;have b5:=gd.le;have w3:=z'.kp (k3.trans (kp1 (o:=.lst ws)))
  have nl3:h3.length≠D:=by
   have:=k3.len;have:=(Xa.mp z.it).1;lia
  have lf0:=Yy (f:=fkT) (λv v=>Qhz) (l:=sp.ts) (ks:=ks);have s3:Dw (h3++[.lst ws]) D (sp.ts.foldl fkT ks) (λk=>c k+cS k sp) (h3++[.lst ws]):=⟨λv v v a=>a,w3.it,w3.z,w3.l⟩
  refine Yw (d:=94) (u:=.ref h3.length) (L:=ws) (λi Z g=>∃y4 y5,Z=[x0,sR D,sR p,y3,y4,y5]/\Dw (h3++[.lst ws]) D ((sp.es.take i).foldl fkE (sp.ts.foldl fkT ks)) (λk=>c k+cS k sp) g) e3 (λi Z g z=>?_) ⟨x4,x5,rfl,by simpa using s3⟩ (λi x hx Z g y=>?_) λρ2 h4 y=>?_
  ·obtain⟨_,_,_,z⟩:=z;exact QL (z.st _ _ nl3 at0)
  ·obtain⟨y4,y5,rfl,z⟩:=y;obtain⟨w,hw,q,rfl,dq⟩:=Q8 p3' hx;have dg:=z.tk w3.it _ _ dq;have lf:=Yy (f:=fkE) (λv v=>Qgj) (l:=sp.es.take i) (ks:=sp.ts.foldl fkT ks);rw[X7]at lf
   obtain⟨h5,e5,z5⟩:=QpZ (s:=s) (cf:=Qa (tb s) (n+1)) (x0:=x0) (x2:=sR p) (x3:=y3) (w:=w) z (by lia)
   refine⟨_,_,h5,by simp only[tgt,dg];rfl,e5,_,_,rfl,?_⟩
   rw[Wl,hw];show Dw _ D ((sp.es.take i++[w]).foldl fkE _) _ h5;rw[Y3];exact z5
  ·obtain⟨y4,y5,rfl,z⟩:=y
   rw[X9 (by lia)]at z
   exact Z2 ⟨rfl,_,_,_,rfl,⟨λp o n a=>z.st p o n (w3.st p o n a),z.it,z.z,z.l⟩⟩
theorem Qfz:∀{sps:List Sp} {ks:List (List Nat)},(∀sp∈sps,Gd sp)->(sps.foldl fkS ks).length<=ks.length+9*sps.length
 |[],ks,_=>by simp
 |sp::r,ks,h=>by
  have g:=h sp Xm;have a:=g.lt;have b:=g.le;have c:=Yy (f:=fkT) (λz z=>Qhz) (l:=sp.ts) (ks:=ks);have e:=Yy (f:=fkE) (λz z=>Qgj) (l:=sp.es) (ks:=sp.ts.foldl fkT ks);have i:=Qfz (sps:=r) (ks:=fkS ks sp) λx m=>h x (Xi _ m)
  have:(fkS ks sp).length<=ks.length+9:=by unfold fkS;lia
  simp only[T0,Wj]at i ⊢;lia
def Qq1{sps:List Sp}(hr:h[r]?=some (.lst us))(p:Paired (SO s h) us sps)(l:sps.length<=1000):∃h1,Qa (tb s) (n+2) 55 [.ref r] h=some (.ref h.length,h1)/\Kp h h1/\h1[h.length]?=some (.dic (dS (fk sps) λk=>iU (cR k sps:Nat)))/\∀k,k∉fk sps->cR k sps=0:=by
 have lu:=Qk p;have GD:=Qg9 p;have hD:(h++[O.dic []])[h.length]?=some (.dic []):=at0
 have g0:Dw (h++[O.dic []]) h.length [] (λj=>0) (h++[O.dic []]):=⟨λj j j a=>a,hD,λj j=>rfl,by simp⟩
 suffices x:Cc (tb s) (n+2) 55 [.ref r] h λv h1=>v=.ref h.length/\Dw (h++[O.dic []]) h.length (fk sps) (λk=>cR k sps) h1 by
  obtain⟨_,h1,a,rfl,w⟩:=x;exact⟨h1,a,w.base kp1 (Xh _),w.it,w.z⟩
 refine Qbu (Qe fnL[55] rfl rfl) (Jc (QD (d:=98) QbB) (Yw (d:=97) (u:=.ref r) (L:=us) (body:=QoC) (λi Z g=>∃y2 y3 y4 y5,Z=[sR r,sR h.length,y2,y3,y4,y5]/\Dw (h++[O.dic []]) h.length ((sps.take i).foldl fkS []) (λk=>cR k (sps.take i)) g) (Qb rfl) (λi Z g z=>?_) ⟨none,none,none,none,rfl,by simpa[cR]using g0⟩ (λi x hx Z g y=>?_) λρ2 h2 y=>?_))
 ·obtain⟨_,_,_,_,_,z⟩:=z;exact QL (z.base kp1 (Xh _) _ _ hr)
 ·obtain⟨y2,y3,y4,y5,rfl,z⟩:=y;obtain⟨sp,ht,q,o,rfl,ho,tl,gd⟩:=Q8 p hx;have lf:=Qfz (sps:=sps.take i) (ks:=[]) λt m=>GD t (W9 m);rw[X7]at lf
  obtain⟨z3,z4,z5,h5,e5,w5⟩:=t55 (n:=n) (x0:=sR r) (x3:=y3) (x4:=y4) (x5:=y5) tl gd kp1 (Xh _) ⟨_,hD⟩ ho z (by simp at lf;lia)
  refine⟨_,_,h5,rfl,e5,_,_,_,_,rfl,?_⟩;rw[Wl,ht];show Dw _ _ ((sps.take i++[sp]).foldl fkS []) (λk=>cR k (sps.take i++[sp])) h5;rw[Y3];simp only[cR,Wn,W4,X1,V1,Uc,List.sum_nil,Td];exact w5
 ·obtain⟨y2,y3,y4,y5,rfl,z⟩:=y
  rw[X9 (by lia)]at z
  exact Yd (Jo (Qb rfl) ⟨rfl,z⟩)
end
def QJ{l:List α}{x:α}(h:l[i]?=some x):l.take (i+1)=l.take i++[x]:=by rw[Wl,h];rfl
noncomputable def Jw:Ti->Bool
 |.nw ..=>true
 |_=>false
noncomputable def nwS(sp:Sp):Nat:=(sp.ts.filter Jw).length
noncomputable def nws(sps:List Sp):Nat:=(sps.map nwS).sum
noncomputable def YA:List Nat:=[114,111,117,110,100]
noncomputable def nF(R K F L G:Nat):List (Nat×U):=[(2,.str YA),(6,.bl true),(9,.ref R),(10,.ref K),(11,.ref F),(7,.ref L),(8,.ref G)]
structure Kl(h:Hs)(K:Nat)(kl:List Nat->Nat):Prop where
 it:∃ks kv,h[K]?=some (.dic (dS ks kv))/\(∀k∈ks,∃p xs,kv k=.ref p/\h[p]?=some (.lst xs)/\xs.length=kl k)/\∀k,k∉ks->kl k=0
def Kl.kp(k:Kp h h1){K:Nat}(z:Kl h K kl):Kl h1 K kl:=⟨let ⟨ks,kv,a,b,c⟩:=z.it;⟨ks,kv,k _ _ a,λx m=>by obtain⟨p,xs,d,e,f⟩:=b x m;exact⟨p,xs,d,k _ _ e,f⟩,c⟩⟩
section
variable {K L G:Nat}{k:List Nat}
def Qpp{m:Nat}(l:m<=900):Pc (tb s) (n+1) 53 [u,iU m] h λv h1=>∃p xs,v=.ref p/\h1[p]?=some (.lst xs)/\xs.length=m:=by
 obtain⟨vs,h2,e,k,pr⟩:=Qeh (T:=tb s) (cf:=Qa (tb s) n) (d:=97) (lo:=0) (n:=m) (src:=.rng Vb) (Z:=[some u,some (iU m)]) (h0:=h) (hs:=h) (D:=λy y (_:Unit)=>True) (xs:=List.replicate m ()) (el:=.tup [Va,Vc])
  (λy y y y y z=>z) (QjJ (by lia) (Qb rfl)) (by simp) (by lia) λi t hi h1 k1=>⟨_,_,YB (d:=96) (Qb rfl) (Qb rfl),kp1,trivial⟩
 have:=Qk pr
 exact⟨_,_,by rw[Qe fnL[53] rfl rfl];exact QaZ (d:=98) e,k.trans kp1,_,vs,rfl,at0,by simpa using this⟩
def Qk6(hq:h[q]?=some (.lst xs)):biU T .list [.ref q] h=some (.ref h.length,h++[.lst xs]):=by unfold biU;simp only[ZJ,hq]
def Ql7(ha:h[a]?=some (.ins 10 (nF R K F L G)))(hq:h[q]?=some (.lst xs)):Qa (tb s) (n+1) 50 [.ref a,.ref q] h=some (.ref h.length,h++[.lst xs]):=by
 rw[Qe fnL[50] rfl rfl];refine QaZ (d:=98) (QeA (d:=97) (c:=true) (Qoc rfl (Zk (d:=94) rfl ha rfl)) ?_);rw[if_pos rfl];exact QgE (d:=96) (Qb rfl) (Qk6 hq)
def Qpq(ha:h[a]?=some (.ins 10 (nF R K F L G)))(z:Kl h K kl):Pc (tb s) (n+1) 46 [.ref a,.str k] h λv h1=>∃p xs,v=.ref p/\h1[p]?=some (.lst xs)/\xs.length=kl k:=by
 obtain⟨ks,kv,e,b,c⟩:=z.it;have g:bmU (tb s) .get (.ref K) [.str k,.ref h.length] (h++[.lst []])=_:=Qil (kp1 _ _ e)
 have ev':ev (tb s) (Qa (tb s) n) 98 (.bm .get (.fld Va 10) [Vb,.lst []]) [sR a,sS k] h=_:=QeC (d:=97) (Zk (d:=95) rfl ha rfl) e (e_2 (Qb rfl) (by rw[Qw];rfl)) g
 refine⟨_,_,by rw[Qe fnL[46] rfl rfl];exact QaZ (d:=98) ev',kp1,?_⟩
 by_cases m:k∈ks
 ·rw[if_pos m];obtain⟨p,xs,d,e1,f⟩:=b k m;exact⟨p,xs,d,kp1 _ _ e1,f⟩
 ·rw[if_neg m];exact⟨_,[],rfl,at0,(c k m).symm⟩
end
def QbS{sps:List Sp}{sp:Sp}:nws (sps++[sp])=nws sps+nwS sp:=by simp[nws]
noncomputable def QqE:E:=.comp (.seq (.meth 0 Vc [])) false (some (.cmp .Eq (.ix Vd Wa) (.c (.str Jd)))) Vd
section
variable {sp:Sp}
def Qod(z:SO s h u sp):∃g vs,ev (tb s) (Qa (tb s) (n+1)) (d+6) QqE [x0,x1,some u] h=some (.ref g.length,g++[.lst vs])/\Kp h g/\vs.length=nwS sp:=by
 obtain⟨p,o,rfl,ho,tl,gd⟩:=z;obtain⟨h',us,e1,k1,pr⟩:=QeB (n:=n) (d:=d+3) (h:=h) (i:=2) (Z:=[x0,x1,sR p]) tl.ts rfl ho;have lu:=Qk pr;have l8:=gd.lt
 have itm_:∀j,itm (tb s) (.seqL (.ref h'.length)) j (h'++[.lst us])=some ((us[j]?).map .one):=λj=>by simp only[itm,QU,at0,Ub]
 obtain⟨vs,h2,e2,rfl,l2⟩:=QaM (T:=tb s) (f:=ev (tb s) (Qa (tb s) (n+1)) (d+5)) (ft:=Qaf (evT (tb s) (Qa (tb s) (n+1)) (d+5)) (some (.cmp .Eq (.ix Vd Wa) (.c (.str Jd))))) (w:=.seqL (.ref h'.length)) (el:=Vd) (Z:=[x0,x1,sR p])
  (λi acc g=>g=h'++[.lst us]/\acc.length=((sp.ts.take i).filter Jw).length) (n:=us.length)
  (λi hi acc g z=>by
   obtain⟨rfl,la⟩:=z
   have hx:sp.ts[i]?=some sp.ts[i]:=Xk (by lia)
   obtain⟨x,hu,dt⟩:=Qdr pr hx
   have lb:acc.length<1000000:=by
    have:=Tv Jw (sp.ts.take i);simp only[X7]at this;lia
   have dt':=Qax _ _ _ _ (Kp.tk (kp1 (o:=.lst us))) dt
   have tst:evT (tb s) (Qa (tb s) (n+1)) (d+5) (.cmp .Eq (.ix Vd Wa) (.c (.str Jd))) [x0,x1,sR p,some x] (h'++[.lst us])=some (Jw sp.ts[i],h'++[.lst us]):=by
    revert dt'
    cases sp.ts[i]with
    |nw ps s l=>rintro⟨p,q,rfl,f1,f2⟩;exact QQ (d:=d+3) (ZH (Qb rfl) (ZI (j:=0) f1 rfl)) y_c rfl
    |sm=>rintro⟨p,rfl,f1⟩;exact QQ (d:=d+3) (ZH (Qb rfl) (ZI (j:=0) f1 rfl)) y_c rfl
    |fr w=>rintro⟨p,rfl,f1⟩;exact QQ (d:=d+3) (ZH (Qb rfl) (ZI (j:=0) f1 rfl)) y_c rfl
   refine⟨lb,x,Jw sp.ts[i],_,by rw[itm_,hu];rfl,tst,λb=>⟨x,_,Qb rfl,rfl,?_⟩,λb=>⟨rfl,?_⟩⟩
   ·rw[QJ hx,Th,Xn,Xn,la];simp[b]
   ·rw[QJ hx,Th,Xn,la]
    simp[b])
  (λacc g z=>by
   obtain⟨rfl,la⟩:=z;rw[itm_]
   simp) us.length 0 (us.length+1) [] _ (by lia) (by lia) ⟨rfl,rfl⟩
 refine⟨h'++[.lst us],vs,?_,k1.trans kp1,by rw[l2,lu,Uh];rfl⟩
 have sr:Zl (tb s) (ev (tb s) (Qa (tb s) (n+1)) (d+5)) [x0,x1,sR p] (.seq (.meth 0 Vc [])) h=some (.seqL (.ref h'.length),h'++[.lst us]):=by simp only[Zl,e1,Qm,wkS,QU,at0,Ub]
 have tn:Zn (tb s) (.seqL (.ref h'.length)) (h'++[.lst us])=us.length+1:=by simp only[Zn,QU,at0,Vy]
 exact Qah sr (by rw[tn];exact e2)
def Qq2{sps:List Sp}(hr:h[r]?=some (.lst us))(p:Paired (SO s h) us sps):Pc (tb s) (n+2) 54 [.ref r] h λv w=>v=iU (nws sps:Nat):=by
 have lu:=Qk p;refine Qbu (Qe fnL[54] rfl rfl) (Jc (QD (d:=98) y_c) (Yw (d:=97) (u:=.ref r) (L:=us) (λi Z g=>∃y2,Z=[sR r,some (iU (nws (sps.take i):Nat)),y2]/\Kp h g) (Qb rfl) (λi Z g z=>?_) ⟨none,rfl,Kp.refl _⟩ (λi x hx Z g y=>?_) λρ2 h2 y=>?_))
 ·obtain⟨_,_,k⟩:=z;exact QL (k _ _ hr)
 ·obtain⟨y2,rfl,k⟩:=y;obtain⟨sp,ht,z⟩:=Q8 p hx;obtain⟨g2,vs,e,k2,lv⟩:=Qod (n:=n) (d:=88) (x0:=sR r) (x1:=some (iU (nws (sps.take i):Nat))) (z.kp k);refine⟨_,_,_,rfl,QB (d:=95) (QgA (d:=95) rfl (Z9 (d:=94) e at0)),some x,?_,(k.trans k2).trans kp1⟩
  ·rw[Wl,ht,lv];show _=[_,some (iU ((nws (sps.take i++[sp]):Nat):Int)),_];rw[QbS];simp
 ·obtain⟨y2,rfl,k⟩:=y
  rw[X9 (by lia)]
  exact Yd (Jo (Qb rfl) ⟨k,rfl⟩)
end
theorem QdW:∀l:List Int,Ji (l.map iU)=some l
 |[]=>rfl
 |x::l=>by rw[X1];simp only[Ji,QdW l];rfl
def Qm2{l:List Int}(hp:h[p]?=some (.lst (l.map iU))):biU T .sum [.ref p] h=some (iU l.sum,h):=by
 show biL T .sum [.ref p] h=_;simp only[biL,QU,hp,Option.bind,QdW,Option.map]
def Qnt{g:α->U}{L:List α}(h:Paired (λu a=>u=g a) us L):us=L.map g:=Qf2 h
theorem QfP:∀{sps:List Sp},(sps.map λsp=>((sp.tk:Nat):Int)).sum=((tkS sps:Nat):Int)
 |[]=>rfl
 |sp::r=>by
  have:=QfP (sps:=r);simp only[X1,Uc,tkS]at this ⊢;lia
section

def YO{m:Nat}{fs:List (Nat×U)}(hi:Z[i]?=some (sR q))(hq:h[q]?=some (.ins c fs))(hC:T.cls[c]?=some C)(hf:C.meths.lookup m=some f)(ha:evs (ev T cf (d+1)) Z es h=some (us,h2))(hz:Qcp T f (us.length+1)=[]):ev T cf (d+2) (.meth m (.var i) es) Z h=cf f (.ref q::us) h2:=by
 have e:Yg T m (.ref q) h=some f:=by
  unfold Yg;simp only[hq,hC,hf]
 rw[Qmj,Qb hi,Qm];simp only[e,ha,Qm,hz,Vu]
def QpH{a b:E}(ea:ev T cf d a Z h=some (.int x 0,h1))(eb:ev T cf d b Z h1=some (.int y 0,h2)):evT T cf (d+2) (.cmp .Lt a b) Z h=some (decide (x<y),h2):=QQ ea eb rfl
def QoQ{a b:E}(ea:ev T cf d a Z h=some (.int x 0,h1))(eb:ev T cf d b Z h1=some (.int y 0,h2)):evT T cf (d+2) (.cmp .NotEq a b) Z h=some (!decide (x=y),h2):=QQ ea eb rfl
def Qak{a b:E}(ea:evT T cf d a Z h=some (false,h1)):evT T cf (d+1) (.and a b) Z h=some (false,h1):=by rw[Qu,ea,Qm];rfl
def QbF{a b:E}{c:Bool}(ea:evT T cf d a Z h=some (true,h1))(eb:evT T cf d b Z h1=some (c,h2)):evT T cf (d+1) (.and a b) Z h=some (c,h2):=by rw[Qu,ea,Qm];exact eb
end
noncomputable def kprs:List (List Nat):=[[119],[120],[121],[122]]
section
variable {K L G tq:Nat}{rs ls ts:List U}{sps:List Sp}{c:List Nat->Nat}
def tks(hr:h[r]?=some (.lst us))(p:Paired (SO s h) us sps)(l:sps.length<=1000)(lρ:Z.length=8)(h1:Z[1]?=some (sR r)):∃h2 q,ev (tb s) (Qa (tb s) (n+1)) 95 (.comp (.seq Vb) false none (.meth 2 Vi [])) Z h=some (.ref q,h2)/\Kp h h2/\h2[q]?=some (.lst ((sps.map λsp=>((sp.tk:Nat):Int)).map iU)):=by
 have lu:=Qk p
 obtain⟨vs,h2,e,k,pr⟩:=J1 (T:=tb s) (cf:=Qa (tb s) (n+1)) (d:=94) (Z:=Z) (h:=h) (h1:=h) (u:=.ref r) (L:=us) (e:=Vb) (el:=.meth 2 Vi []) (λx v y=>∀sp,SO s h x sp->v=iU (sp.tk:Nat)) (λy y y y y z=>z) (Qb h1) (.inl (QL hr)) (by lia)
  (λx mx hs k=>by
   obtain⟨sp,_,q,o,rfl,ho,tl,_⟩:=Jp p mx
   have hi:(Z++[sR q])[8]?=some (sR q):=by rw[X5 (by lia),lρ];rfl
   refine⟨_,_,QiY (n:=n) (d:=92) tl.tk hi (k _ _ ho),Kp.refl _,λsp' z=>?_⟩;obtain⟨q',o',eq,ho',tl',_⟩:=z;cases eq;rw[ho]at ho';cases ho';have:=(QiY (n:=n) (d:=92) tl.tk hi (k _ _ ho)).symm.trans (QiY (n:=n) (d:=92) tl'.tk hi (k _ _ ho))
   exact congrArg Prod.fst (X4 this))
 refine⟨_,_,e,k.trans kp1,?_⟩;have:=Qnt (Qap (D:=λv (x:U)=>v=x) (f:=λsp:Sp=>iU (sp.tk:Nat)) pr p);rw[at0,this,List.map_id',U0];rfl
def Qq6(ha:h[a]?=some (.ins 10 (nF R K F L G)))(hR:h[R]?=some (.lst rs))(hL:h[L]?=some (.lst ls))(kK:Kl h K kl)(hr:h[r]?=some (.lst us))(p:Paired (SO s h) us sps)(l:sps.length<=1000)(hD:h[D]?=some (.dic (dS ks λk=>iU (c k:Nat))))(fit:tkS sps=ls.length)(fk:∀k∈kprs,k∈ks->c k=kl k):
  Pc (tb s) (n+2) 47 [.ref a,.ref r,.bl false,.ref D] h λz z=>True:=by
 have e4:ev (tb s) (Qa (tb s) (n+1)) 98 (.bi .len [.fld Va 9]) [sR a,sR r,sF,sR D,none,none,none,none] h=some (iU (rs.length:Nat),h):=Z9 (d:=97) (Zk (d:=95) rfl ha rfl) hR;have e5:ev (tb s) (Qa (tb s) (n+1)) 97 (.bi .len [.fld Va 7]) [sR a,sR r,sF,sR D,sN rs.length,none,none,none] h=some (iU (ls.length:Nat),h):=Z9 (d:=96) (Zk (d:=94) rfl ha rfl) hL;obtain⟨h2,q,e6,k6,hq⟩:=tks (n:=n) hr p l (Z:=[sR a,sR r,sF,sR D,sN rs.length,sN ls.length,none,none]) rfl rfl;have e7:=QgE (b:=.sum) e6 (Qm2 hq);rw[QfP,fit]at e7
 have e8:evT (tb s) (Qa (tb s) (n+1)) 95 (.or (.cmp .Gt Vg Vf) (.and (.cmp .Lt Vg Vf) (.not Vc))) [sR a,sR r,sF,sR D,sN rs.length,sN ls.length,sN ls.length,none] h2=some (false,h2):=by
  refine QfQ (c:=false) (h1:=h2) ((QmT (d:=92) (h1:=h2) (h2:=h2) (Qb rfl) (Qb rfl)).trans (by simp)) ?_
  rw[if_neg Xs]
  exact Qak (d:=93) ((QpH (d:=91) (h1:=h2) (h2:=h2) (Qb rfl) (Qb rfl)).trans (by simp))
 refine Qbu (Qe fnL[47] rfl rfl) (Jc ((QD (d:=98) e4).trans ((QD (d:=97) e5).trans ((QD (d:=96) e7).trans (Qcs (d:=94) e8 rfl)))) (YV (d:=94) (w:=.seqT (.con 0)) (L:=kprs) (im:=λk=>.one (.str k)) (λi Z g=>∃y5 y7,Z=[sR a,sR r,sF,sR D,sN rs.length,y5,sN ls.length,y7]/\Kp h g) rfl (by show 4<5;decide) (λi Z g z=>?_) ⟨_,_,rfl,k6⟩ (λi x hx Z g y=>?_) λρ2 h2 y=>?_))
 ·show some ((([.str [119],.str [120],.str [121],.str [122]]:List U)[i]?).map Im.one)=_;rw[show([.str [119],.str [120],.str [121],.str [122]]:List U)=kprs.map U.str from rfl,W6];cases kprs[i]?<;>rfl
 ·obtain⟨y5,y7,rfl,k⟩:=y;have mx:=Xp hx;obtain⟨_,h3,a9,k3,p9,xs,rfl,h9,l9⟩:=Qpq (s:=s) (n:=n) (k:=x) (k _ _ ha) (kK.kp k);have e9:ev (tb s) (Qa (tb s) (n+1)) 91 (.meth 9 Va [Vh]) [sR a,sR r,sF,sR D,sN rs.length,y5,sN ls.length,sS x] g=some (.ref p9,h3):=(YO (d:=89) rfl (k _ _ ha) rfl rfl (e_1 (Qb rfl)) rfl).trans a9
  have et:evT (tb s) (Qa (tb s) (n+1)) 91 (.and (.cmp .In Vh Vd) (.cmp .NotEq (.ix Vd Vh) Vf)) [sR a,sR r,sF,sR D,sN rs.length,sN (kl x),sN ls.length,sS x] h3=some (false,h3):=by
   have hD3:=k3 _ _ (k _ _ hD);have i1:evT (tb s) (Qa (tb s) (n+1)) 90 (.cmp .In Vh Vd) [sR a,sR r,sF,sR D,sN rs.length,sN (kl x),sN ls.length,sS x] h3=some (decide (x∈ks),h3):=QQ (d:=88) (Qb rfl) (Qb rfl) (Qqq hD3);by_cases m:x∈ks
   ·rw[Wt m]at i1;refine QbF i1 ((QoQ (d:=88) (YQ (d:=87) (Qb rfl) (Qb rfl) (QeM hD3 m)) (Qb rfl)).trans ?_);rw[fk x mx m];simp
   ·rw[X6 m]at i1;exact Qak i1
  refine⟨_,_,h3,rfl,(QD (d:=92) (Z9 (d:=91) e9 h9)).trans ?_,sN (kl x),sS x,rfl,k.trans k3⟩;rw[l9];exact QB (d:=91) (Qew (d:=90) et rfl)
 ·obtain⟨y5,y7,rfl,k⟩:=y;exact Z2 ⟨k,trivial⟩
def QiR{tq:Nat}{ts:List U}{i:Int}(hq:h[tq]?=some (.lst ts))(h0:0<=i)(h1:i<(ts.length:Nat)):∃u,QX (tb s) (.ref tq) (iU i) h=some u:=by
 obtain⟨j,rfl⟩:=Int.eq_ofNat_of_zero_le h0
 have:j<ts.length:=by lia
 exact⟨_,QjI hq (Xk this)⟩
def Qq4{ps:List Int}(ha:h[a]?=some (.ins 10 (nF R K F L G)))(hp:h[p]?=some (.tup [.str Jd,.ref q,.int x 0,.int y 0]))(hq:h[q]?=some (.tup (ps.map iU)))(ht:h[tq]?=some (.lst ts))(ok:∀i∈ps,0<=i/\i<(ts.length:Nat))(l:ps.length<=1000):
  Pc (tb s) (n+2) 49 [.ref a,.ref p,.ref tq] h λw w=>True:=by
 obtain⟨vs,h2,e,k,pr⟩:=J1 (T:=tb s) (cf:=Qa (tb s) (n+1)) (d:=96) (Z:=[sR a,sR p,sR tq,none,none]) (h:=h) (h1:=h) (u:=.ref q) (L:=ps.map iU) (e:=.ix Vb Wb) (el:=.ix Vc Vf) (λw w w=>True) (λw w w w w z=>z) (ZH (d:=94) (Qb rfl) (ZI (j:=1) hp rfl)) (.inr (Yb hq)) (by rw[Xz];lia)
  (λx mx hs k=>by
   obtain⟨i,mi,rfl⟩:=Wr.mp mx;obtain⟨h0,h1⟩:=ok i mi;obtain⟨u,eu⟩:=QiR (s:=s) (k _ _ ht) h0 h1
   exact⟨u,hs,YQ (d:=95) (Qb rfl) (Qb rfl) eu,Kp.refl _,trivial⟩)
 have K:Kp h (h2++[.lst vs]):=k.trans kp1;have a5:=Ql7 (s:=s) (n:=n) (K _ _ ha) (show(h2++[.lst vs])[h2.length]?=some (.lst vs)from at0);have e3:ev (tb s) (Qa (tb s) (n+1)) 98 (.meth 13 Va [.comp (.seq (.ix Vb Wb)) false none (.ix Vc Vf)]) [sR a,sR p,sR tq,none,none] h=some (.ref (h2++[O.lst vs]).length,h2++[O.lst vs]++[O.lst vs]):=(YO (d:=96) rfl ha rfl rfl (e_1 e) rfl).trans a5;have K2:Kp h (h2++[O.lst vs]++[O.lst vs]):=K.trans kp1
 have e4:ev (tb s) (Qa (tb s) (n+1)) 97 (.ife (.fld Va 6) Wb (.neg Wb)) [sR a,sR p,sR tq,some (.ref (h2++[O.lst vs]).length),none] (h2++[O.lst vs]++[O.lst vs])=some (.int 1 0,h2++[O.lst vs]++[O.lst vs]):=QeA (d:=96) (c:=true) (Qoc rfl (Zk (d:=93) rfl (K2 _ _ ha) rfl)) (by rw[if_pos rfl];exact y_c)
 have e5:ev (tb s) (Qa (tb s) (n+1)) 95 (.bi .tuple [Vd]) [sR a,sR p,sR tq,some (.ref (h2++[O.lst vs]).length),sI 1] (h2++[O.lst vs]++[O.lst vs])=_:=QgE (d:=94) (Qb rfl) (QmQ at0);have K3:Kp h (h2++[O.lst vs]++[O.lst vs]++[.tup vs]):=K2.trans kp1
 have m1:∀{z:Int} {g:Hs},opU .Mult (.int 1 0) (.int z 0) g=some (.int (1*z) 0,g):=λ{z g}=>by
  have:Qq 1=true:=by decide
  simp only[opU,Qk0,this,Bool.true_or,Wo];rfl
 have e6:ev (tb s) (Qa (tb s) (n+1)) 96 (.tup [.bi .tuple [Vd],.op .Mult Ve (.ix Vb Wc),.op .Mult Ve (.ix Vb Wd)]) [sR a,sR p,sR tq,some (.ref (h2++[O.lst vs]).length),sI 1] (h2++[O.lst vs]++[O.lst vs])=_:=YN (d:=95) e5 (Zu (d:=94) (Qb rfl) (ZH (d:=92) (Qb rfl) (ZI (j:=2) (K3 _ _ hp) rfl)) m1) (Zu (d:=94) (Qb rfl) (ZH (d:=92) (Qb rfl) (ZI (j:=3) (K3 _ _ hp) rfl)) m1);exact⟨_,_,(Qe fnL[49] rfl rfl).trans ((congrArg fin ((QD (d:=98) e3).trans (QD (d:=97) e4))).trans (QaZ (d:=96) e6)),K3.trans kp1,trivial⟩
end
inductive Ro where
 |lf|rt|of|lo|sp (k:List Nat)|pt (k:List Nat)
 deriving DecidableEq
def Us(ks:List (List Nat)):Ro->Prop
 |.sp k=>k∈ks
 |.pt k=>k∈ks
 |_=>True
noncomputable def upR(len:Ro->Nat)(r:Ro)(n:Nat):Ro->Nat:=λr'=>if r'=r then n else len r'
structure Rs(ks:List (List Nat))(pl:Ro->Nat)(P:Vp)(len:Ro->Nat)(h:Hs):Prop where
 inj:∀r r',Us ks r->Us ks r'->pl r=pl r'->r=r'
 st:∀i o,P i o->h[i]?=some o
 np:∀i o,P i o->∀r,Us ks r->i≠pl r
 ls:∀r,Us ks r->∃xs,h[pl r]?=some (.lst xs)/\xs.length=len r
noncomputable def nwP(P:Vp)(h h1:Hs):Vp:=λi o=>P i o\/(h.length<=i/\h1[i]?=some o)
def le_nw{P:Vp}:Le P (nwP P h h1):=λz z a=>.inl a
section
variable {pl:Ro->Nat}{P:Vp}{len len':Ro->Nat}{r:Ro}{o:E}
def Rs.lt(z:Rs ks pl P len h)(u:Us ks r):pl r<h.length:=by obtain⟨_,a,_⟩:=z.ls r u;exact (Xa.mp a).1
def Rs.kp(z:Rs ks pl P len h)(k:Kp h h1):Rs ks pl (nwP P h h1) len h1:=⟨z.inj,λi o a=>a.elim (λa=>k _ _ (z.st i o a)) λa=>a.2,λi o a r u=>a.elim (λa=>z.np i o a r u) λa=>by have:=z.lt u;lia,λr u=>by obtain⟨xs,a,b⟩:=z.ls r u;exact⟨xs,k _ _ a,b⟩⟩
theorem Rs.set(z:Rs ks pl P len h)(u:Us ks r):Rs ks pl P (upR len r xs.length) (h.set (pl r) (.lst xs)):=by
 refine⟨z.inj,λi o a=>by rw[Xe (X8 (z.np i o a r u))];exact z.st i o a,z.np,λr' u'=>?_⟩
 by_cases e:r'=r
 ·subst e;exact⟨xs,Xr (z.lt u),(if_pos rfl).symm⟩
 ·obtain⟨ys,a,b⟩:=z.ls r' u'
  exact⟨ys,by rw[Xe λq=>e (z.inj _ _ u u' q).symm];exact a,by rw[b];exact(if_neg e).symm⟩
def Rs.cg(z:Rs ks pl P len h)(e:∀r,Us ks r->len r=len' r):Rs ks pl P len' h:=⟨z.inj,z.st,z.np,λr u=>by obtain⟨xs,a,b⟩:=z.ls r u;exact⟨xs,a,b.trans (e r u)⟩⟩
def QbK(z:Rs ks pl P len h)(us:Us ks r)(vo:ev T cf d o Z h=some (.ref (pl r),h))(ve:ev T cf d e Z h=some (u,h1))(k:Kp h h1)(l:len r<900000):∃h2,ex T cf (d+2) (.expr (.bm .append o [e])) Z h=some (.next,Z,h2)/\Rs ks pl (nwP P h h1) (upR len r (len r+1)) h2/\TK h h2:=by
 obtain⟨xs,a,b⟩:=z.ls r us
 refine⟨_,Qcd vo a ve (k _ _ a) (by lia),?_,k.tk.trans (TK.set (k _ _ a) λy=>by simp)⟩
 have:=(z.kp k).set (xs:=xs++[u]) us;rw[Xn,b]at this;exact this
def QoZ(hp:h[p]?=some (.lst xs)):Qa8 .pop (.ref p) h=true:=by simp only[Qa8,hp];rfl
def Qj4(z:Rs ks pl P len h)(us:Us ks r)(vo:ev T cf d o Z h=some (.ref (pl r),h))(l:0<len r):∃u h2,ev T cf (d+1) (.bm .pop o []) Z h=some (u,h2)/\Rs ks pl P (upR len r (len r-1)) h2/\TK h h2:=by
 obtain⟨xs,a,b⟩:=z.ls r us
 have e:xs[xs.length-1]?=some (xs[xs.length-1]'(by lia)):=Xk _
 refine⟨xs[xs.length-1]'(by lia),h.set (pl r) (.lst xs.dropLast),by rw[ZC,vo,Qm,if_pos (QoZ a)];simp only[evs,Qm,bmU,a,bmL,e],?_,TK.set a λy=>by simp⟩
 have:=z.set (xs:=xs.dropLast) us;rw[List.length_dropLast,b]at this;exact this
def Qhj(z:Rs ks pl P len h)(us:Us ks r)(vo:ev T cf (d+1) o Z h=some (.ref (pl r),h))(l:0<len r):∃u h2,ev T cf (d+2) (.bm .pop o [Wa]) Z h=some (u,h2)/\Rs ks pl P (upR len r (len r-1)) h2/\TK h h2:=by
 obtain⟨xs,a,b⟩:=z.ls r us
 have e:xs[0]?=some (xs[0]'(by lia)):=Xk _
 refine⟨xs[0]'(by lia),h.set (pl r) (.lst (xs.eraseIdx 0)),by rw[ZC,vo,Qm,if_pos (QoZ a)];simp only[evs,y_c,Qm,bmU,a,bmL,e,Wo],?_,TK.set a λy=>by simp⟩
 have:=z.set (xs:=xs.eraseIdx 0) us
 rw[List.length_eraseIdx,if_pos (by lia),b]at this
 exact this
def Qnd{r':Ro}{o':E}(z:Rs ks pl P len h)(us:Us ks r)(us':Us ks r')(ne:r'≠r)(vo':ev T cf (d+2) o' Z h=some (.ref (pl r'),h))(vo:ev T cf (d+1) o Z h=some (.ref (pl r),h))(l:0<len r)(l':len r'<900000):∃h2,ex T cf (d+4) (.expr (.bm .append o' [.bm .pop o [Wa]])) Z h=some (.next,Z,h2)/\Rs ks pl P (upR (upR len r (len r-1)) r' (len r'+1)) h2/\TK h h2:=by
 obtain⟨u,h2,e,z2,tk⟩:=Qhj z us vo l;obtain⟨xs,a,b⟩:=z.ls r' us';obtain⟨ys,a2,b2⟩:=z2.ls r' us';have e0:(upR len r (len r-1)) r'=len r':=if_neg ne
 refine⟨h2.set (pl r') (.lst (ys++[u])),by rw[Qo,ZC,vo',Qm,if_pos (Qj8 a)];simp only[evs,e,Qm,Qmf a2 (show ys.length<1000000 by lia)],?_,tk.trans (TK.set a2 λy=>by simp)⟩
 have:=z2.set (xs:=ys++[u]) us';rw[Xn,b2,e0]at this;exact this
end
structure Cs(ks:List (List Nat))(pl:Ro->Nat)(P:Vp)(a co R K nm sd pd:Nat)(ns:List U):Prop where
 a:P a (.ins 10 (nF R K (pl .of) (pl .lf) (pl .rt)))
 co:P co (.ins 11 [(12,.ref nm),(13,.ref sd),(14,.ref (pl .lo)),(15,.ref pd)])
 nm:P nm (.lst ns)
 sd:P sd (.dic (dS ks λk=>.ref (pl (.sp k))))
 pd:P pd (.dic (dS ks λk=>.ref (pl (.pt k))))
def Cs.le{pl:Ro->Nat}{P P1:Vp}{K sd:Nat}(z:Cs ks pl P a co R K nm sd pd ns)(l:Le P P1):Cs ks pl P1 a co R K nm sd pd ns:=⟨l _ _ z.a,l _ _ z.co,l _ _ z.nm,l _ _ z.sd,l _ _ z.pd⟩
noncomputable def lT(len:Ro->Nat)(l:List Ti):Ro->Nat
 |.rt=>len .rt+l.length
 |.lo=>len .lo+(l.filter Jw).length
 |.sp k=>len (.sp k) - (l.map (cT k)).sum
 |r=>len r
noncomputable def lE(len:Ro->Nat)(l:List (List Nat)):Ro->Nat
 |.of=>len .of+l.count Zt
 |.pt k=>len (.pt k)+l.count k
 |r=>len r
section
variable {len:Ro->Nat}{l:List Ti}{r:Ro}
def QnQ:upR (lT len l) .rt (lT len l .rt+1) r=lT len (l++[.sm]) r:=by
 cases r<;>simp[upR,lT,Jw,cT]<;>lia
def QnR{ps:List Int}:upR (upR (lT len l) .rt (lT len l .rt+1)) .lo (upR (lT len l) .rt (lT len l .rt+1) .lo+1) r=lT len (l++[.nw ps x y]) r:=by
 have f1:([Ti.nw ps x y].filter Jw).length=1:=rfl;cases r<;>simp[upR,lT,cT,f1]<;>lia
def QnS{k:List Nat}:upR (upR (lT len l) (.sp k) (lT len l (.sp k) - 1)) .rt (lT len l .rt+1) r=lT len (l++[.fr k]) r:=by
 cases r with
 |sp j=>
  simp only[upR,lT,Wn,W4,X1,V1,Uc,List.sum_nil,cT];by_cases e:j=k
  ·subst e;simp;lia
  ·rw[if_neg (by simp),if_neg (by simp[e]),if_neg (X8 e)];simp
 |_=>simp[upR,lT,Jw]<;>lia
def QnU{es:List (List Nat)}(n:Zt∉ks)(u:Us ks r):upR (lE len es) .of (lE len es .of+1) r=lE len (es++[Zt]) r:=by
 cases r with
 |pt j=>
  have:j≠Zt:=λe=>n (e▸u);simp[upR,lE,V4,U9,X8 this]
 |_=>simp[upR,lE,V4]<;>lia
def QnT{es:List (List Nat)}{w:List Nat}(e:w≠Zt):upR (lE len es) (.pt w) (lE len es (.pt w)+1) r=lE len (es++[w]) r:=by
 cases r with
 |pt j=>
  by_cases q:j=w
  ·subst q;simp[upR,lE,V4];lia
  ·simp[upR,lE,V4,U9,q,X8 q]
 |of=>simp[upR,lE,V4,U9,e]
 |_=>simp[upR,lE]
end
def Ql3{lo:Int}(I:Nat->List U->Hs->Prop)(sr:Zl T (ev T cf d) Z src h0=some (.rng lo n,hs))
  (st:∀i,i<n->∀acc h,I i acc h->acc.length<1000000/\∃v h2,ev T cf d el (Z++[sI (lo+i)]) h=some (v,h2)/\I (i+1) (acc++[v]) h2) (z0:I 0 [] hs):
  ∃vs h2,ev T cf (d+1) (.comp src false none el) Z h0=some (.ref h2.length,h2++[.lst vs])/\I n vs h2:=by
 obtain⟨vs,h2,e2,i2⟩:=QaM (T:=T) (f:=ev T cf d) (ft:=Qaf (evT T cf d) none) (w:=.rng lo n) (el:=el) (Z:=Z) I (n:=n)
  (λi hi acc h z=>by
   obtain⟨la,v,h2,e,z2⟩:=st i hi acc h z
   exact⟨la,.int (lo+i) 0,true,h,by simp[itm,hi],rfl,λy=>⟨v,h2,e,z2⟩,λq=>by cases q⟩)
  (λacc h z=>by simp[itm]) n 0 (n+1) [] hs (by lia) (by lia) z0
 exact⟨vs,h2,Qah sr e2,i2⟩
noncomputable def Qp3:List S:=[.expr (.bm .append (.fld Va 8) [.ix Vd (.ix Ve Wb)])]
noncomputable def Qp2:List S:=[.expr (.bm .append (.fld Va 8) [.bm .pop (.ix (.fld Vc 13) (.ix Ve Wb)) [Wa]])]
noncomputable def Qp1:List S:=[.expr (.bm .append (.fld Va 8) [.ix (.fld Vc 12) (.bi .len [.fld Vc 14])]),.expr (.bm .append (.fld Vc 14) [.meth 12 Va [Ve,Vd]])]
noncomputable def t48:List S:=[.ite (.cmp .Eq (.ix Ve Wa) (.c (.str Qce))) Qp3 [.ite (.cmp .Eq (.ix Ve Wa) (.c (.str YM))) Qp2 Qp1]]
section
variable {K sd tq:Nat}{pl:Ro->Nat}{P:Vp}{len:Ro->Nat}{ts:List U}{x6:Option U}{l:List Ti}{t:Ti}{x:U}
def Qjt(z:Rs ks pl P (lT len l) h)(c:Cs ks pl P a co R K nm sd pd ns)(pt:P tq (.lst ts))(dt:DTi h x t)(ok:OkT ts.length t)(fr:∀k,t=.fr k->k∈ks/\(l.map (cT k)).sum<len (.sp k))(nl:Jw t=true->len .lo+(l.filter Jw).length<ns.length)(b:len .rt+l.length<800000)(b2:len .lo+l.length<800000):
  ∃h1 P1,exs (tb s) (Qa (tb s) (n+2)) 97 t48 [sR a,x1,sR co,sR tq,some x,x5,x6,x7] h=some (.next,[sR a,x1,sR co,sR tq,some x,x5,x6,x7],h1)/\Le P P1/\Rs ks pl P1 (lT len (l++[t])) h1/\TK h h1:=by
 have ha:=z.st _ _ c.a;have hco:=z.st _ _ c.co;have ht:=z.st _ _ pt;have is:∀{p:Nat} {y w:List Nat} {r:List U} {g:Hs} {d:Nat},g[p]?=some (.tup (.str y::r))->evT (tb s) (Qa (tb s) (n+2)) (d+4) (.cmp .Eq (.ix Ve Wa) (.c (.str w))) [sR a,x1,sR co,sR tq,sR p,x5,x6,x7] g=some (decide (y=w),g):=λ{p y w r g d} e=>QQ (ZH (Qb rfl) (ZI (j:=0) e rfl)) y_c rfl
 cases t with
 |sm=>
  obtain⟨p,rfl,e⟩:=dt
  obtain⟨u,eu⟩:=QiR (s:=s) (i:=0) ht (Int.le_refl _) (by have:0<ts.length:=ok;lia)
  obtain⟨h2,ex2,z2,tk⟩:=QbK (T:=tb s) (cf:=Qa (tb s) (n+2)) (d:=92) (r:=.rt) (Z:=[sR a,x1,sR co,sR tq,sR p,x5,x6,x7]) (o:=.fld Va 8) (e:=.ix Vd (.ix Ve Wb)) z trivial (Zk (d:=90) rfl ha rfl) (YQ (d:=91) (Qb rfl) (ZH (d:=89) (Qb rfl) (ZI (j:=1) e rfl)) eu) (Kp.refl _) (by show len .rt+l.length<_;lia)
  exact⟨h2,_,QB (d:=95) (QcU (d:=95) (is e) rfl (QB (d:=93) ex2)),le_nw,z2.cg λr v=>QnQ,tk⟩
 |fr k=>
  obtain⟨p,rfl,e⟩:=dt;obtain⟨mk,lk⟩:=fr k rfl
  obtain⟨h2,ex2,z2,tk⟩:=Qnd (T:=tb s) (cf:=Qa (tb s) (n+2)) (d:=88) (r:=.sp k) (r':=.rt) (Z:=[sR a,x1,sR co,sR tq,sR p,x5,x6,x7]) (o':=.fld Va 8) (o:=.ix (.fld Vc 13) (.ix Ve Wb)) z mk trivial (by simp) (Zk (d:=88) rfl ha rfl) (YQ (d:=88) (Zk (d:=86) rfl hco rfl) (ZH (d:=86) (Qb rfl) (ZI (j:=1) e rfl)) (QeM (z.st _ _ c.sd) mk)) (by show 0<len (.sp k) - (l.map (cT k)).sum;lia) (by show len .rt+l.length<_;lia)
  exact⟨h2,_,QB (d:=95) (Qjd (d:=95) (p:=YM=Qce) (is e) (by decide) (QB (d:=93) (QcU (d:=93) (is e) rfl (QB (d:=91) ex2)))),Le.refl,z2.cg λr v=>QnS,tk⟩
 |nw ps sd' lf'=>
  obtain⟨p,q,rfl,e,eq⟩:=dt;have nl:=nl rfl;have hlo:∃ls,h[pl .lo]?=some (.lst ls)/\ls.length=lT len l .lo:=z.ls .lo trivial;obtain⟨ls,hl,ll⟩:=hlo;have hnm:=z.st _ _ c.nm;have en:ns[lT len l .lo]?=some (ns[lT len l .lo]'(nl)):=Xk _
  obtain⟨h2,ex2,z2,tk⟩:=QbK (T:=tb s) (cf:=Qa (tb s) (n+2)) (d:=90) (r:=.rt) (Z:=[sR a,x1,sR co,sR tq,sR p,x5,x6,x7]) (o:=.fld Va 8) (e:=.ix (.fld Vc 12) (.bi .len [.fld Vc 14])) z trivial (Zk (d:=88) rfl ha rfl) (YQ (d:=89) (Zk (d:=87) rfl hco rfl) (Z9 (d:=88) (Zk (d:=86) rfl hco rfl) hl) (by rw[ll];exact QjI hnm en)) (Kp.refl _) (by show len .rt+l.length<_;lia)
  have zst2:=z2.st
  obtain⟨_,h3,a3,k3,_⟩:=Qq4 (s:=s) (n:=n) (zst2 _ _ (.inl c.a)) (tk _ _ e) (tk _ _ eq) (zst2 _ _ (.inl pt)) ok.2 (by have:=ok.1;lia)
  have lf:=Tv Jw l
  obtain⟨h4,ex4,z4,tk4⟩:=QbK (T:=tb s) (cf:=Qa (tb s) (n+2)) (d:=89) (r:=.lo) (Z:=[sR a,x1,sR co,sR tq,sR p,x5,x6,x7]) (o:=.fld Vc 14) (e:=.meth 12 Va [Ve,Vd]) z2 trivial (Zk (d:=87) rfl (zst2 _ _ (.inl c.co)) rfl) ((YO (d:=87) rfl (zst2 _ _ (.inl c.a)) rfl rfl (e_2 (Qb rfl) (Qb rfl)) rfl).trans a3) k3 (by show len .lo+(l.filter Jw).length<_;lia)
  exact⟨h4,_,QB (d:=95) (Qjd (d:=95) (p:=Jd=Qce) (is e) (by decide) (QB (d:=93) (Qjd (d:=93) (p:=Jd=YM) (is e) (by decide) ((Zi (d:=92) ex2).trans (QB (d:=90) ex4))))),le_nw.trans le_nw,z4.cg λr v=>QnR,tk.trans tk4⟩
end
noncomputable def lS(len:Ro->Nat)(sp:Sp):Ro->Nat:=lE (lT (upR len .lf (len .lf-sp.tk)) sp.ts) sp.es
noncomputable def e48:List S:=[.set 7 (.ife (.cmp .Eq Vg (.c (.str Zt))) (.fld Va 11) (.ix (.fld Vc 15) Vg)),.expr (.bm .append Vh [.ix Vd Vf])]
structure Can(ks:List (List Nat))(len:Ro->Nat)(ns:List U)(sp:Sp):Prop where
 tk:sp.tk<=len .lf
 fr:∀k,.fr k∈sp.ts->k∈ks
 su:∀k∈ks,cS k sp<=len (.sp k)
 en:∀w∈sp.es,w≠Zt->w∈ks
 lo:len .lo+nwS sp<=ns.length
 b:len .rt<=700000/\len .lo<=700000/\len .of<=700000/\∀k∈ks,len (.pt k)<=700000
section
variable {K sd:Nat}{pl:Ro->Nat}{P:Vp}{len:Ro->Nat}{sp:Sp}
def QjH{k:List Nat}{ts:List Ti}(e:ts[i]?=some (.fr k)):((ts.take i).map (cT k)).sum<(ts.map (cT k)).sum:=by
 have h2:ts.map (cT k)=(ts.take (i+1)).map (cT k)++(ts.drop (i+1)).map (cT k):=by rw[<-Wn,Tw]
 rw[h2,W4,QJ e,Wn,W4];simp[cT];lia
def QlH{t:Ti}{ts:List Ti}(e:ts[i]?=some t)(w:Jw t=true):((ts.take i).filter Jw).length<(ts.filter Jw).length:=by
 have h2:(ts.filter Jw).length=((ts.take (i+1)).filter Jw).length+((ts.drop (i+1)).filter Jw).length:=by rw[<-Xn,<-Th,Tw]
 rw[h2,QJ e,Th,Xn];simp[w];lia
def Qq5(z:Rs ks pl P len h)(c:Cs ks pl P a co R K nm sd pd ns)(po:P p o)(tl:Tl (tb s) o sp)(gd:Gd sp)(cn:Can ks len ns sp)(no:Zt∉ks):
  ∃h1 P1,Qa (tb s) (n+3) 48 [.ref a,.ref p,.ref co] h=some (.non,h1)/\Le P P1/\Rs ks pl P1 (lS len sp) h1:=by
 have b4:=gd.lt;have b5:=gd.le;have b8:=gd.tk
 obtain⟨ts,h2,e3,lt,z2⟩:=Ql3 (T:=tb s) (cf:=Qa (tb s) (n+2)) (d:=97) (lo:=0) (n:=sp.tk) (src:=.rng (.meth 2 Vb [])) (el:=.bm .pop (.fld Va 7) []) (Z:=[sR a,sR p,sR co,none,none,none,none,none]) (h0:=h) (hs:=h) (λi acc g=>acc.length=i/\Rs ks pl P (upR len .lf (len .lf-i)) g)
  (QjJ (by lia) (QiY (n:=n+1) (d:=95) tl.tk rfl (z.st _ _ po)))
  (λi hi acc g y=>by
   obtain⟨la,zg⟩:=y;have tk:=cn.tk
   obtain⟨u,g2,e,zz,_⟩:=Qj4 (T:=tb s) (cf:=Qa (tb s) (n+2)) (d:=96) (Z:=[sR a,sR p,sR co,none,none,none,none,none,sI (0+i)]) (o:=.fld Va 7) zg (r:=.lf) trivial (Zk (d:=94) rfl (zg.st _ _ c.a) rfl) (by simp[upR];lia)
   refine⟨by lia,u,g2,e,by simp[la],zz.cg λr m=>?_⟩
   by_cases q:r=.lf
   ·subst q;simp[upR];lia
   ·simp[upR,q])
  ⟨rfl,z.cg λr m=>by by_cases q:r=.lf<;>simp[upR,q]⟩
 obtain⟨len0,hlen0⟩:∃len0,len0=upR len .lf (len .lf-sp.tk):=⟨_,rfl⟩;rw[<-hlen0]at z2
 have f0:len0 .rt=len .rt/\len0 .lo=len .lo/\len0 .of=len .of/\(∀k,len0 (.sp k)=len (.sp k))/\∀k,len0 (.pt k)=len (.pt k):=by subst hlen0;simp[upR]
 obtain⟨f1,f2,f3,f4,f5⟩:=f0;obtain⟨c1,c2,c3,c4⟩:=cn.b;have z3:=z2.kp (kp1 (o:=O.lst ts));have pt:nwP P h2 (h2++[O.lst ts]) h2.length (.lst ts):=.inr ⟨Xh _,at0⟩;obtain⟨h',us,e4,k4,pr⟩:=QeB (n:=n+1) (d:=95) (h:=h2++[O.lst ts]) (i:=1) (Z:=[sR a,sR p,sR co,sR h2.length,none,none,none,none]) tl.ts rfl (z3.st _ _ (.inl po));have lu:=Qk pr;have z4:=z3.kp (k4.trans (kp1 (o:=O.lst us)));have pu:nwP (nwP P h2 (h2++[O.lst ts])) (h2++[O.lst ts]) (h'++[.lst us]) h'.length (.lst us):=.inr ⟨k4.len,at0⟩
 suffices x:Cc (tb s) (n+3) 48 [.ref a,.ref p,.ref co] h λv h1=>v=.non/\∃P1,Le P P1/\Rs ks pl P1 (lS len sp) h1 by
  obtain⟨_,h1,e,rfl,P1,l,z⟩:=x;exact⟨h1,P1,e,l,z⟩
 refine Qbu (Qe fnL[48] rfl rfl) (Jc (QD (d:=98) e3) (Yw (d:=97) (u:=.ref h'.length) (L:=us) (body:=t48) (λi Z g=>∃y4 P1,Z=[sR a,sR p,sR co,sR h2.length,y4,none,none,none]/\Le (nwP (nwP P h2 (h2++[O.lst ts])) (h2++[O.lst ts]) (h'++[.lst us])) P1/\Rs ks pl P1 (lT len0 (sp.ts.take i)) g/\TK (h'++[.lst us]) g) e4 (λi Z g y=>?_) ⟨none,_,rfl,Le.refl,z4.cg λr m=>by cases r<;>simp[lT],TK.refl⟩ (λi x hx Z g y=>?_) λρ2 h5 y=>?_))
 ·obtain⟨_,_,_,l,zg,_⟩:=y;exact QL (zg.st _ _ (l _ _ pu))
 ·obtain⟨y4,P1,rfl,l,zg,tk⟩:=y;obtain⟨t,ht,dt⟩:=Q8 pr hx;have lL:=(le_nw.trans le_nw).trans l
  have lt':(sp.ts.take i).length<=8:=by rw[X7];lia
  have mt:=Xp ht
  obtain⟨h1,P2,e5,l2,z5,tk2⟩:=Qjt (s:=s) (n:=n) (x1:=sR p) (x5:=none) (x6:=none) (x7:=none) (tq:=h2.length) (ts:=ts) (l:=sp.ts.take i) zg (c.le lL) (l _ _ (.inl pt)) (Qax _ _ _ _ (Kp.tk kp1 |>.trans tk) dt) (by rw[lt];exact gd.ok t mt)
   (λk e=>by
    subst e;refine⟨cn.fr k mt,?_⟩;have:=cn.su k (cn.fr k mt);have:=QjH ht;rw[f4];unfold cS at *
    lia)
   (λe=>by
    have:=QlH ht e;have:=cn.lo;rw[f2];unfold nwS at *
    lia) (by rw[f1];lia) (by rw[f2];lia)
  refine⟨_,_,h1,rfl,e5,some x,P2,rfl,l.trans l2,?_,tk.trans tk2⟩;rw[QJ ht];exact z5
 ·obtain⟨y4,P1,rfl,l,zg,tk⟩:=y
  rw[X9 (by lia)]at zg
  have lL:=(le_nw.trans le_nw).trans l;obtain⟨h3,ws,e6,k6,p6⟩:=QeB (n:=n+1) (d:=94) (h:=h5) (i:=1) (Z:=[sR a,sR p,sR co,sR h2.length,y4,none,none,none]) tl.es rfl (zg.st _ _ (lL _ _ po));have lw:=Qk p6;have z6:=zg.kp (k6.trans (kp1 (o:=O.lst ws)));have pw:nwP P1 h5 (h3++[.lst ws]) h3.length (.lst ws):=.inr ⟨k6.len,at0⟩
  refine Yw (d:=96) (u:=.ref h3.length) (L:=ws) (body:=e48) (λi Z g=>∃y5 y6 y7 P2,Z=[sR a,sR p,sR co,sR h2.length,y4,y5,y6,y7]/\Le (nwP P1 h5 (h3++[.lst ws])) P2/\Rs ks pl P2 (lE (lT len0 sp.ts) (sp.es.take i)) g/\TK (h3++[.lst ws]) g) e6 (λi Z g y=>?_) ⟨none,none,none,_,rfl,Le.refl,z6.cg λr m=>by cases r<;>simp[lE],TK.refl⟩ (λi x hx Z g y=>?_) λρ2 h7 y=>?_
  ·obtain⟨_,_,_,_,_,l,zg,_⟩:=y;exact QL (zg.st _ _ (l _ _ pw))
  ·obtain⟨y5,y6,y7,P2,rfl,l7,z7,tk7⟩:=y;obtain⟨w,hw,q,rfl,dq⟩:=Q8 p6 hx;have mw:=Xp hw;have lL7:=(lL.trans le_nw).trans l7;have dg:=tk7 _ _ (kp1 _ _ dq);have cc:=c.le lL7;obtain⟨ew,_⟩:=gd.en w mw;have ht:=z7.st _ _ (l7 _ _ (le_nw _ _ (l _ _ (.inl pt))))
   obtain⟨u,eu⟩:=QiR (s:=s) (i:=0) ht (Int.le_refl _) (by rw[lt];lia)
   have key:∃r,Us ks r/\lE (lT len0 sp.ts) (sp.es.take i) r<900000/\(∀r',Us ks r'->upR (lE (lT len0 sp.ts) (sp.es.take i)) r (lE (lT len0 sp.ts) (sp.es.take i) r+1) r'=lE (lT len0 sp.ts) (sp.es.take i++[w]) r')/\ev (tb s) (Qa (tb s) (n+2)) 94 (.ife (.cmp .Eq Vg (.c (.str Zt))) (.fld Va 11) (.ix (.fld Vc 15) Vg)) [sR a,sR p,sR co,sR h2.length,y4,sI 0,sS w,y7] g=some (.ref (pl r),g):=by
    have et:evT (tb s) (Qa (tb s) (n+2)) 93 (.cmp .Eq Vg (.c (.str Zt))) [sR a,sR p,sR co,sR h2.length,y4,sI 0,sS w,y7] g=some (decide (w=Zt),g):=QQ (d:=91) (Qb rfl) y_c rfl
    have cl:(sp.es.take i).count w<=1/\(sp.es.take i).count Zt<=1:=by
     have a1:=Ue (a:=w) (l:=sp.es.take i);have a2:=Ue (a:=Zt) (l:=sp.es.take i);rw[X7]at a1 a2;lia
    by_cases e:w=Zt
    ·subst e
     refine⟨.of,trivial,by show len0 .of+_<_;rw[f3];lia,λr' u'=>QnU no u',QeA (d:=93) et ?_⟩
     rw[if_pos (by simp)]
     exact Zk (d:=91) rfl (z7.st _ _ cc.a) rfl
    ·have mk:=cn.en w mw e;have:=c4 w mk
     refine⟨.pt w,mk,by show len0 (.pt w)+_<_;rw[f5];lia,λr' m=>QnT e,QeA (d:=93) et ?_⟩
     rw[if_neg (by simp[e])]
     exact YQ (d:=92) (Zk (d:=90) rfl (z7.st _ _ cc.co) rfl) (Qb rfl) (QeM (z7.st _ _ cc.pd) mk)
   obtain⟨r,ur,lr,fr,er⟩:=key;obtain⟨h8,e8,z8,tk8⟩:=QbK (T:=tb s) (cf:=Qa (tb s) (n+2)) (d:=92) (r:=r) (Z:=[sR a,sR p,sR co,sR h2.length,y4,sI 0,sS w,some (.ref (pl r))]) (o:=Vh) (e:=.ix Vd Vf) z7 ur (Qb rfl) (YQ (d:=91) (Qb rfl) (Qb rfl) eu) (Kp.refl _) lr
   refine⟨_,_,h8,by simp only[tgt,dg];rfl,(QD (d:=94) er).trans (QB (d:=93) e8),sI 0,sS w,some (.ref (pl r)),nwP P2 g g,rfl,l7.trans le_nw,?_,tk7.trans tk8⟩
   rw[QJ hw];exact z8.cg fr
  ·obtain⟨y5,y6,y7,P2,rfl,l7,z7,tk7⟩:=y
   rw[X9 (by lia)]at z7
   exact Z2 ⟨rfl,P2,(lL.trans le_nw).trans l7,by rw[lS,<-hlen0];exact z7⟩
end
def QmI{v:List Nat->U}{a:E}(I:Nat->List U->Hs->Prop)(ha:∀d,ev T cf (d+2) a Z h=some (.ref D,h))(hD:h[D]?=some (.dic (dS ks v)))(fz:∀i acc g,I i acc g->g[D]?=some (.fzd (dS ks v)))
  (st:∀i k,ks[i]?=some k->∀acc g,I i acc g->acc.length<1000000/\∃u g2,ev T cf (d+2) el (Z++[sS k]) g=some (u,g2)/\I (i+1) (acc++[u]) g2) (z0:I 0 [] (h.set D (.fzd (dS ks v)))):
  ∃us g,ev T cf (d+4) (.thw a (.comp (.key a) false none el)) Z h=some (.ref g.length,(g++[.lst us]).set D (.dic (dS ks v)))/\I ks.length us g:=by
 have lp:=(Xa.mp hD).1;have hf:(h.set D (.fzd (dS ks v)))[D]?=some (.fzd (dS ks v)):=Xr lp
 obtain⟨us,g,c,e⟩:=QaM (T:=T) (f:=ev T cf (d+2)) (ft:=Qaf (evT T cf (d+2)) none) (w:=.keyD D) (el:=el) (Z:=Z) I (n:=ks.length)
  (λi hi acc g z=>by
   have hk:ks[i]?=some ks[i]:=Xk hi;obtain⟨la,u,g2,e,z2⟩:=st i _ hk acc g z
   exact⟨la,.str ks[i],true,g,by simp only[itm,fz i acc g z];unfold dS;rw[W6,hk];rfl,rfl,λy=>⟨u,g2,e,z2⟩,λq=>by cases q⟩)
  (λacc g z=>by simp only[itm,fz _ acc g z];unfold dS;simp) ks.length 0 (ks.length+1) [] _ (W5 _).symm (Vn _) z0
 have ec:ev T cf (d+3) (.comp (.key a) false none el) Z h=some (.ref g.length,g++[.lst us]):=by
  have sr:Zl T (ev T cf (d+2)) Z (.key a) h=some (.keyD D,h.set D (.fzd (dS ks v))):=by simp only[Zl,ha,Qm,QcH,hD];rfl
  have tn:Zn T (.keyD D) (h.set D (.fzd (dS ks v)))=ks.length+1:=by simp only[Zn,hf,Qgp]
  exact Qah sr (by rw[tn];exact c)
 refine⟨us,g,?_,e⟩;rw[ev,ha];simp only[hD,ec];have hf2:(g++[.lst us])[D]?=some (.fzd (dS ks v)):=Q4 (fz _ _ _ e);simp only[hf2]
def Qnr{f:List Nat->Nat}(p:Paired (λu k=>∃t,u=.ref t/\h[t]?=some (.tup [.str k,.ref (f k)])) us ks):Qi0 h us=some (dS ks λk=>.ref (f k)):=by
 induction p with
 |nil=>rfl
 |cons a _ ih=>
  obtain⟨t,rfl,e⟩:=a;simp only[Qi0,e,QaY,Wo,ih];rfl
theorem QdN{w:List Nat->U}:∀{b a:List (List Nat)},(a++b).Nodup->Js (dS a w) (dS b w)=dS (a++b) w
 |[],a,_=>by rw[Vu];rfl
 |k::b,a,n=>by
  have na:k∉a:=λm=>by
   rw[Uw]at n;exact n.2.2 k m k Xm rfl
  show Js (Qes (dS a w) (.str k) (w k)) (dS b w)=_
  have e:Qes (dS a w) (.str k) (w k)=dS (a++[k]) w:=by
   rw[Qki,Qf5 na];refine Qb7 λj z=>?_;unfold up;split
   ·rename_i q;rw[q]
   ·rfl
  rw[e,QdN (by rw[Wv];exact n),Wv]
  rfl
def Qns{P Q:α->β->Prop}{l:List α}{r:List β}(h:Paired P l r)(f:∀a b,b∈r->P a b->Q a b):Paired Q l r:=by
 induction h with
 |nil=>exact .nil
 |cons x _ ih=>exact .cons (f _ _ Xm x) (ih λa b m=>f a b (Xi _ m))
def Ql5{v:List Nat->U}{a:E}(n:List Nat->Nat)(ha:∀d,ev T cf (d+2) a Z h=some (.ref D,h))(hD:h[D]?=some (.dic (dS ks v)))(nd:ks.Nodup)(l:ks.length<=900000)
  (st:∀k∈ks,∀g,(∀(p:Nat) o,p≠D->h[p]?=some o->g[p]?=some o)->∃g2 t q xs,ev T cf (d+2) el (Z++[sS k]) g=some (.ref t,g2)/\Kp g g2/\g2[t]?=some (.tup [.str k,.ref q])/\g2[q]?=some (.lst xs)/\xs.length=n k/\g.length<=q):
  ∃(f:List Nat->Nat) (g:Hs),ev T cf (d+5) (.bi .dictS [.thw a (.comp (.key a) false none el)]) Z h=some (.ref g.length,g++[.dic (dS ks λk=>.ref (f k))])/\Kp h g/\(∀k∈ks,∃xs,g[f k]?=some (.lst xs)/\xs.length=n k/\h.length<=f k)/\∀k∈ks,∀j∈ks,f k=f j->k=j:=by
 have lp:=(Xa.mp hD).1
 obtain⟨us,g,e,fz,sy,hl,f,f1,f2,pr⟩:=QmI (T:=T) (cf:=cf) (d:=d) (el:=el) (λi acc g=>g[D]?=some (.fzd (dS ks v))/\(∀(p:Nat) o,p≠D->h[p]?=some o->g[p]?=some o)/\h.length<=g.length/\∃f:List Nat->Nat,(∀k∈ks.take i,∃xs,g[f k]?=some (.lst xs)/\xs.length=n k/\h.length<=f k)/\(∀k∈ks.take i,∀j∈ks.take i,f k=f j->k=j)/\Paired (λu k=>∃t,u=.ref t/\g[t]?=some (.tup [.str k,.ref (f k)])) acc (ks.take i)) ha hD (λi acc g z=>z.1)
  (λi k hk acc g z=>by
   obtain⟨fz,sy,hl,f,f1,f2,pr⟩:=z;have mk:=Xp hk;obtain⟨g2,t,q,xs,e,kp,ht,hq,lx,lq⟩:=st k mk g sy;have la:=Qk pr;rw[X7]at la
   have nk:k∉ks.take i:=λm=>by
    have h2:(ks.take (i+1)).Nodup:=nd.sublist (List.take_sublist _ _);rw[QJ hk,Uw]at h2;exact h2.2.2 k m k Xm rfl
   have lt:∀j∈ks.take i,f j<g.length:=λj m=>(by obtain⟨_,a,_⟩:=f1 j m;exact (Xa.mp a).1);have fo:∀j∈ks.take i,(if j=k then q else f j)=f j:=λj m=>if_neg λ(z:j=k)=>nk (z▸m)
   refine⟨by lia,_,g2,e,kp _ _ fz,λp o n a=>kp _ _ (sy p o n a),X3 hl kp.len,λj=>if j=k then q else f j,λj m=>?_,λj m j' m' z=>?_,?_⟩
   ·rw[QJ hk,Wp,Wh]at m
    rcases m with m|rfl
    ·simp only[fo j m];obtain⟨ys,a,b,c⟩:=f1 j m;exact⟨ys,kp _ _ a,b,c⟩
    ·simp only[Wo]
     exact⟨xs,hq,lx,by lia⟩
   ·rw[QJ hk,Wp,Wh]at m m'
    rcases m with m|rfl<;>rcases m' with m'|rfl
    ·simp only[fo j m,fo j' m']at z;exact f2 j m j' m' z
    ·simp only[fo j m,Wo]at z;have:=lt j m;lia
    ·simp only[fo j' m',Wo]at z;have:=lt j' m';lia
    ·rfl
   ·rw[QJ hk]
    refine Ye ⟨t,rfl,by simp only[Wo];exact ht⟩ (Qns pr λu j m z=>?_)
    obtain⟨t',a,b⟩:=z
    exact⟨t',a,by simp only[fo j m];exact kp _ _ b⟩)
  ⟨Xr lp,λp o n a=>by rw[Xe (X8 n)];exact a,by simp,λy=>0,by simp,by simp,by simp;exact .nil⟩
 rw[Uh]at f1 f2 pr
 have nD:∀{p:Nat} {o:O},g[p]?=some o->(∀kvs,o≠.fzd kvs)->((g++[O.lst us]).set D (.dic (dS ks v)))[p]?=some o:=λ{p o} a ne=>by
  have:p≠D:=λq=>by rw[q,fz]at a;cases a;exact ne _ rfl
  rw[Xe (X8 this)];exact Q4 a
 have ll:((g++[O.lst us]).set D (.dic (dS ks v)))[g.length]?=some (.lst us):=by
  have:D<g.length:=(Xa.mp fz).1
  rw[Xe (by lia)]
  exact at0
 have pp:=Qnr (h:=(g++[O.lst us]).set D (.dic (dS ks v))) (f:=f) (Qi (λu k z=>by obtain⟨t,a,b⟩:=z;exact⟨t,a,nD b λy=>by simp⟩) pr)
 have eb:biU T .dictS [.ref g.length] ((g++[O.lst us]).set D (.dic (dS ks v)))=some (.ref ((g++[O.lst us]).set D (.dic (dS ks v))).length,(g++[O.lst us]).set D (.dic (dS ks v))++[.dic (dS ks λk=>.ref (f k))]):=by
  show biL T .dictS [.ref g.length] ((g++[O.lst us]).set D (.dic (dS ks v)))=_;simp only[biL,Qfm,ll,Option.bind,pp,Option.map];have:=QdN (a:=[]) (b:=ks) (w:=λk=>.ref (f k)) nd;rw[show Js [] (dS ks λk=>.ref (f k))=_ from this];rfl
 refine⟨f,_,QgE (d:=d+4) e eb,λp o a=>?_,λk m=>?_,f2⟩
 ·by_cases q:p=D
  ·subst q;rw[hD]at a;cases a
   exact Xr (by simp;have:=(Xa.mp fz).1;lia)
  ·rw[Xe (X8 q)];exact Q4 (sy p o q a)
 ·obtain⟨xs,a,b⟩:=f1 k m
  exact⟨xs,nD a λy=>by simp,b⟩
def Qa0{o:E}{cl:Nat}{fs:List (Nat×U)}(ve:ev T cf d e Z h=some (u,h1))(vo:ev T cf d o Z h1=some (.ref q,h2))(hq:h2[q]?=some (.ins cl fs))(lf:fs.length<500):ex T cf (d+1) (.fld o f e) Z h=some (.next,Z,h2.set q (.ins cl (JO f u fs))):=by
 rw[ex,ve,Qm,vo,Qm];simp only[hq];rw[if_pos lf]
noncomputable def cF(nm sd lo pd:Nat):List (Nat×U):=[(12,.ref nm),(13,.ref sd),(14,.ref lo),(15,.ref pd)]
section
variable {sd:Nat}{v:List Nat->U}
def Qot(hS:hs[sd]?=some (.dic (dS ks v)))(nd:ks.Nodup)(l:ks.length<=900000):∃(f:List Nat->Nat) (g:Hs) (pd:Nat),ZM (tb s) (Qa (tb s) (n+1)) 11 [.ref nm,.ref sd] hs=some (.ref hs.length,g)/\Kp hs g/\g[hs.length]?=some (.ins 11 (cF nm sd (hs.length+1) pd))/\g[hs.length+1]?=some (.lst [])/\g[pd]?=some (.dic (dS ks λk=>.ref (f k)))/\(∀k∈ks,g[f k]?=some (.lst [])/\hs.length+1<f k)/\(∀k∈ks,∀j∈ks,f k=f j->k=j)/\hs.length<pd:=by
 have e1:ex (tb s) (Qa (tb s) n) 99 (.fld Va 12 Vb) [sR hs.length,sR nm,sR sd] (hs++[.ins 11 []])=some (.next,[sR hs.length,sR nm,sR sd],hs++[.ins 11 [(12,.ref nm)]]):=(Qa0 (d:=98) (Qb rfl) (Qb rfl) at0 (by simp)).trans (by rw[QeX];rfl)
 have e2:ex (tb s) (Qa (tb s) n) 98 (.fld Va 13 Vc) [sR hs.length,sR nm,sR sd] (hs++[.ins 11 [(12,.ref nm)]])=some (.next,[sR hs.length,sR nm,sR sd],hs++[.ins 11 [(12,.ref nm),(13,.ref sd)]]):=(Qa0 (d:=97) (Qb rfl) (Qb rfl) at0 (by simp)).trans (by rw[QeX];rfl)
 have l0:(hs++[O.ins 11 [(12,.ref nm),(13,.ref sd)]]).length=hs.length+1:=by simp
 have e3:ex (tb s) (Qa (tb s) n) 97 (.fld Va 14 (.lst [])) [sR hs.length,sR nm,sR sd] (hs++[.ins 11 [(12,.ref nm),(13,.ref sd)]])=some (.next,[sR hs.length,sR nm,sR sd],hs++.ins 11 [(12,.ref nm),(13,.ref sd),(14,.ref (hs.length+1))]::[.lst []]):=by
  refine(Qa0 (d:=96) (u:=.ref (hs.length+1)) (h1:=hs++.ins 11 [(12,.ref nm),(13,.ref sd)]::[.lst []]) (by rw[Qw,<-l0];simp[evs,Qm]) (Qb rfl) at0 (by simp)).trans ?_
  rw[QeX];rfl
 obtain⟨H,hH⟩:∃H,H=hs++.ins 11 [(12,.ref nm),(13,.ref sd),(14,.ref (hs.length+1))]::[O.lst []]:=⟨_,rfl⟩;have kH:Kp hs H:=hH▸Kp.app _ _;have aH:H[hs.length]?=some (.ins 11 [(12,.ref nm),(13,.ref sd),(14,.ref (hs.length+1))]):=hH▸at0
 have bH:H[hs.length+1]?=some (.lst []):=by subst hH;simp
 have lH:H.length=hs.length+2:=by subst hH;simp
 obtain⟨f,g,e4,k4,f1,f2⟩:=Ql5 (T:=tb s) (cf:=Qa (tb s) n) (d:=90) (Z:=[sR hs.length,sR nm,sR sd]) (h:=H) (a:=Vc) (el:=.tup [Vd,.lst []]) (λz=>0) (λd=>Qb rfl) (kH _ _ hS) nd l
  (λk mk g sy=>⟨g++[.lst []]++[.tup [.str k,.ref g.length]],_,g.length,[],YB (d:=91) (Qb rfl) (by rw[Qw];simp only[evs,Qm]),(Kp.app _ _).trans (Kp.app _ _),at0,Q4 at0,rfl,Xh _⟩)
 have aG:=Q4 (r:=[O.dic (dS ks λk=>.ref (f k))]) (k4 _ _ aH)
 have e5:ex (tb s) (Qa (tb s) n) 96 (.fld Va 15 (.bi .dictS [.thw Vc (.comp (.key Vc) false none (.tup [Vd,.lst []]))])) [sR hs.length,sR nm,sR sd] H=some (.next,[sR hs.length,sR nm,sR sd],(g++[O.dic (dS ks λk=>.ref (f k))]).set hs.length (.ins 11 (cF nm sd (hs.length+1) g.length))):=Qa0 (d:=95) e4 (Qb rfl) aG (by simp)
 have lg:hs.length+2<=g.length:=by rw[<-lH];exact k4.len
 have ne:∀{p:Nat} {o:O},(g++[O.dic (dS ks λk=>.ref (f k))])[p]?=some o->p≠hs.length->((g++[O.dic (dS ks λk=>.ref (f k))]).set hs.length (.ins 11 (cF nm sd (hs.length+1) g.length)))[p]?=some o:=λ{p o} a q=>by rw[Xe (X8 q)];exact a
 refine⟨f,_,g.length,?_,λp o a=>ne (Q4 (k4 _ _ (kH _ _ a))) (by have:=(Xa.mp a).1;lia),Xr (by simp;lia),ne (Q4 (k4 _ _ bH)) (by lia),ne at0 (by lia),λk m=>?_,f2,by lia⟩
 ·show(match Qa (tb s) (n+1) 52 (.ref hs.length::[.ref nm,.ref sd]) (hs++[.ins 11 []])with|some (.non,h2)=>some (U.ref hs.length,h2)|_=>none)=_
  rw[Qe fnL[52] rfl rfl]
  have:fin (exs (tb s) (Qa (tb s) n) 100 b52 [sR hs.length,sR nm,sR sd] (hs++[.ins 11 []]))=some (.non,(g++[O.dic (dS ks λk=>.ref (f k))]).set hs.length (.ins 11 (cF nm sd (hs.length+1) g.length))):=by
   rw[hH]at e5;exact(congrArg fin ((Zi (d:=99) e1).trans ((Zi (d:=98) e2).trans ((Zi (d:=97) e3).trans (QB (d:=95) e5))))).trans rfl
  show(match fin (exs (tb s) (Qa (tb s) n) 100 b52 [sR hs.length,sR nm,sR sd] (hs++[.ins 11 []]))with|some (.non,h2)=>some (U.ref hs.length,h2)|_=>none)=_
  rw[this]
 ·obtain⟨xs,a,b,c⟩:=f1 k m
  cases xs with
  |nil=>exact⟨ne (Q4 a) (by lia),by lia⟩
  |cons x r=>cases b
end
noncomputable def eR(k:List Nat)(sps:List Sp):Nat:=(sps.map λsp=>sp.es.count k).sum
noncomputable def fR(len:Ro->Nat)(sps:List Sp):Ro->Nat
 |.lf=>len .lf-tkS sps
 |.rt=>len .rt+gvS sps
 |.of=>len .of+eR Zt sps
 |.lo=>len .lo+nws sps
 |.sp k=>len (.sp k) - cR k sps
 |.pt k=>len (.pt k)+eR k sps
def QiF{k:List Nat}{sps:List Sp}{sp:Sp}:cR k (sps++[sp])=cR k sps+cS k sp:=by simp[cR]
def Qiy{k:List Nat}{sps:List Sp}{sp:Sp}:eR k (sps++[sp])=eR k sps+sp.es.count k:=by simp[eR]
def Qiu{len:Ro->Nat}{sps:List Sp}{sp:Sp}{r:Ro}:lS (fR len sps) sp r=fR len (sps++[sp]) r:=by
 cases r<;>simp[lS,lE,lT,upR,fR,JJ,JT,QbS,QiF,Qiy,nwS,cS]<;>lia
def Qbh{f:Sp->Nat}{sps:List Sp}{sp:Sp}(e:sps[i]?=some sp):((sps.take i).map f).sum+f sp<=(sps.map f).sum:=by
 have h2:sps.map f=(sps.take (i+1)).map f++(sps.drop (i+1)).map f:=by rw[<-Wn,Tw]
 rw[h2,W4,QJ e,Wn,W4];simp
structure Fit(ks:List (List Nat))(len:Ro->Nat)(ns:List U)(sps:List Sp):Prop where
 tk:tkS sps<=len .lf
 fr:∀sp∈sps,∀k,.fr k∈sp.ts->k∈ks
 su:∀k∈ks,cR k sps<=len (.sp k)
 en:∀sp∈sps,∀w∈sp.es,w≠Zt->w∈ks
 lo:len .lo+nws sps<=ns.length
 b:len .rt<=600000/\len .lo<=600000/\len .of<=600000/\∀k∈ks,len (.pt k)<=600000
 no:Zt∉ks
 l:sps.length<=1000
theorem Qfv:∀{sps:List Sp},(∀sp∈sps,Gd sp)->gvS sps<=8*sps.length/\nws sps<=8*sps.length/\∀k,eR k sps<=sps.length
 |[],_=>⟨Xh _,Xh _,λz=>Xh _⟩
 |sp::r,h=>by
  have g:=h sp Xm;obtain⟨a,b,c⟩:=Qfv (sps:=r) λx m=>h x (Xi _ m);have d:=Tv Jw sp.ts;have e:=g.lt;have f:=g.le;simp only[gvS,nws,eR,X1,Uc,Wj]at a b c ⊢
  refine⟨by lia,by unfold nwS at *;lia,λk=>?_⟩
  have:=Ue (a:=k) (l:=sp.es);have:=c k;lia
def SP(s:List U)(P:Vp)(u:U)(sp:Sp):Prop:=∃p o,u=.ref p/\P p o/\Tl (tb s) o sp/\Gd sp
section
variable {K sd:Nat}{pl:Ro->Nat}{P:Vp}{len:Ro->Nat}{sps:List Sp}
def Qg8(p:Paired (SP s P) us sps):∀sp∈sps,Gd sp:=λsp m=>by
 obtain⟨i,hi⟩:=Wx m;obtain⟨u,_,z⟩:=Qdr p hi;obtain⟨_,_,_,_,_,g⟩:=z;exact g
def Qnn{rest:List S}(z:Rs ks pl P len h)(c:Cs ks pl P a co R K nm sd pd ns)(pr:P r (.lst us))(p:Paired (SP s P) us sps)(ft:Fit ks len ns sps)
  (k:∀h2 P2 y7,Le P P2->Rs ks pl P2 (fR len sps) h2->Xx (tb s) (Qa (tb s) (n+4)) 94 rest [sR a,sR r,x2,x3,x4,x5,sR co,y7,x8] h2 Q):
  Xx (tb s) (Qa (tb s) (n+4)) 95 (.loop (.name 7) (.seq Vb) [.expr (.meth 11 Va [Vh,Vg])]::rest) [sR a,sR r,x2,x3,x4,x5,sR co,x7,x8] h Q:=by
 have lu:=Qk p;have GD:=Qg8 p;have l:=ft.l
 refine Yw (d:=93) (u:=.ref r) (L:=us) (λi Z g=>∃y7 P2,Z=[sR a,sR r,x2,x3,x4,x5,sR co,y7,x8]/\Le P P2/\Rs ks pl P2 (fR len (sps.take i)) g) (Qb rfl) (λi Z g y=>?_) ⟨x7,P,rfl,Le.refl,z.cg λr w=>by cases r<;>simp[fR,tkS,gvS,eR,nws,cR]⟩ (λi x hx Z g y=>?_) λρ2 h2 y=>?_
 ·obtain⟨_,_,_,l,zg⟩:=y;exact QL (zg.st _ _ (l _ _ pr))
 ·obtain⟨y7,P2,rfl,lP,zg⟩:=y;obtain⟨sp,ht,q,o,rfl,po,tl,gd⟩:=Q8 p hx;have mem:=Xp ht;obtain⟨b1,b2,b3,b4⟩:=ft.b;obtain⟨g1,g2,g3⟩:=Qfv (sps:=sps.take i) λt m=>GD t (W9 m)
  have lt:(sps.take i).length<=1000:=by rw[X7];lia
  have cn:Can ks (fR len (sps.take i)) ns sp:=⟨by
   have:=Qbh (f:=Sp.tk) ht;have:=ft.tk;show sp.tk<=len .lf-tkS (sps.take i);unfold tkS at *
   lia,ft.fr sp mem,λk mk=>by
   have:=Qbh (f:=cS k) ht;have:=ft.su k mk;show cS k sp<=len (.sp k) - cR k (sps.take i);unfold cR at *
   lia,ft.en sp mem,by
   have:=Qbh (f:=nwS) ht;have:=ft.lo;show len .lo+nws (sps.take i)+nwS sp<=ns.length;unfold nws at *
   lia,by show len .rt+gvS _<=_;lia,by show len .lo+nws _<=_;lia,by show len .of+eR _ _<=_;have:=g3 Zt;lia,λk mk=>by show len (.pt k)+eR _ _<=_;have:=g3 k;have:=b4 k mk;lia⟩
  obtain⟨h1,P3,e,l3,z3⟩:=Qq5 (n:=n+1) zg (c.le lP) (lP _ _ po) tl gd cn ft.no;refine⟨_,_,h1,rfl,?_,sR q,P3,rfl,lP.trans l3,?_⟩
  ·have em:ev (tb s) (Qa (tb s) (n+4)) 91 (.meth 11 Va [Vh,Vg]) [sR a,sR r,x2,x3,x4,x5,sR co,sR q,x8] g=some (.non,h1):=(YO (d:=89) rfl (zg.st _ _ (lP _ _ c.a)) rfl rfl (e_2 (Qb rfl) (Qb rfl)) rfl).trans e
   have ee:ex (tb s) (Qa (tb s) (n+4)) 92 (.expr (.meth 11 Va [Vh,Vg])) [sR a,sR r,x2,x3,x4,x5,sR co,sR q,x8] g=some (.next,[sR a,sR r,x2,x3,x4,x5,sR co,sR q,x8],h1):=by rw[Qo,em,Qm]
   exact QB (d:=91) ee
  ·rw[QJ ht];exact z3.cg λr w=>Qiu
 ·obtain⟨y7,P2,rfl,lP,zg⟩:=y
  rw[X9 (by lia)]at zg
  exact k h2 P2 y7 lP zg
end
theorem Qgi{i:Nat}{body:Ex}{ks:List (List Nat)}(I:Nat->Rho->Hs->Prop)(st:∀(j:Nat) k,ks[j]?=some k->∀Z g,I j Z g->∃ρ2 g2,body (Z.set i (sS k)) g=some (.next,ρ2,g2)/\I (j+1) ρ2 g2):∀(l pre:List (List Nat)),pre++l=ks->∀Z g,I pre.length Z g->∃ρ2 g2,Qev i body (l.map U.str) Z g=some (.next,ρ2,g2)/\I ks.length ρ2 g2
 |[],pre,e,Z,g,z=>by
  rw[Vu]at e;subst e;exact⟨Z,g,rfl,z⟩
 |k::l,pre,e,Z,g,z=>by
  have hk:ks[pre.length]?=some k:=by rw[<-e,X5 (Xh _),Uz];rfl
  obtain⟨ρ1,g1,a,z1⟩:=st _ k hk Z g z
  obtain⟨ρ2,g2,b,z2⟩:=Qgi I st l (pre++[k]) (by rw[Wv];exact e) ρ1 g1 (by rw[Xn];exact z1)
  exact⟨ρ2,g2,by rw[X1];simp only[Qev,a,b],z2⟩
def QpB{v:List Nat->U}(he:ev T cf d e Z h=some (.ref D,h))(hD:h[D]?=some (.dic (dS ks v)))(I:Nat->Rho->Hs->Prop)(fz:∀j Z g,I j Z g->g[D]?=some (.fzd (dS ks v)))
  (st:∀(j:Nat) k,ks[j]?=some k->∀Z g,I j Z g->∃ρ2 g2,exs T cf d body (Z.set i (sS k)) g=some (.next,ρ2,g2)/\I (j+1) ρ2 g2) (z0:I 0 Z (h.set D (.fzd (dS ks v)))):
  ∃ρ2 g,ex T cf (d+1) (.loopK i e body) Z h=some (.next,ρ2,g.set D (.dic (dS ks v)))/\I ks.length ρ2 g:=by
 obtain⟨ρ2,g,a,z⟩:=Qgi (i:=i) (body:=exs T cf d body) I st ks [] rfl Z _ z0
 have em:(dS ks v).map (·.1)=ks.map U.str:=by simp[dS]
 refine⟨ρ2,g,?_,z⟩;rw[ex,he,Qm];simp only[QcH,hD,em,a,QgK,fz _ _ _ z]
section
variable {K L G:Nat}
def Qq3(ha:h[a]?=some (.ins 10 (nF R K F L G)))(hG:h[G]?=some (.lst xs)):∃h',Qa (tb s) (n+1) 51 [.ref a] h=some (.non,h')/\h'[a]?=some (.ins 10 (nF R K F h.length (h.length+1)))/\h'[h.length]?=some (.lst xs.reverse)/\h'[h.length+1]?=some (.lst [])/\(∀(p:Nat) o,p≠a->h[p]?=some o->h'[p]?=some o)/\h'.length=h.length+2:=by
 have la:=(Xa.mp ha).1;have et:evT (tb s) (Qa (tb s) n) 98 (.cmp .Eq (.fld Va 2) (.c (.str YA))) [sR a,none] h=some (true,h):=QQ (d:=96) (Zk (d:=94) rfl ha rfl) y_c rfl
 have e1:ex (tb s) (Qa (tb s) n) 97 (.fld Va 7 (.rev (.fld Va 8))) [sR a,none] h=some (.next,[sR a,none],(h++[O.lst xs.reverse]).set a (.ins 10 (nF R K F h.length G))):=Qa0 (d:=96) (u:=.ref h.length) (h1:=h++[O.lst xs.reverse]) (by rw[Qi8,Zk (d:=93) rfl ha rfl,Qm];simp only[QU,hG]) (Qb rfl) (kp1 _ _ ha) (by simp[nF])
 have a1:((h++[O.lst xs.reverse]).set a (.ins 10 (nF R K F h.length G)))[a]?=some (.ins 10 (nF R K F h.length G)):=Xr (by simp;lia)
 have l1:((h++[O.lst xs.reverse]).set a (.ins 10 (nF R K F h.length G))).length=h.length+1:=by simp
 have e2:ex (tb s) (Qa (tb s) n) 96 (.fld Va 8 (.lst [])) [sR a,none] ((h++[O.lst xs.reverse]).set a (.ins 10 (nF R K F h.length G)))=some (.next,[sR a,none],((h++[O.lst xs.reverse]).set a (.ins 10 (nF R K F h.length G))++[O.lst []]).set a (.ins 10 (nF R K F h.length (h.length+1)))):=Qa0 (d:=95) (u:=.ref (h.length+1)) (h1:=(h++[O.lst xs.reverse]).set a (.ins 10 (nF R K F h.length G))++[O.lst []]) (by rw[Qw,<-l1];simp only[evs,Qm]) (Qb rfl) (kp1 _ _ a1) (by simp[nF])
 have ex':exs (tb s) (Qa (tb s) n) 98 [.fld Va 7 (.rev (.fld Va 8)),.fld Va 8 (.lst [])] [sR a,none] h=_:=(Zi (d:=97) e1).trans (QB (d:=95) e2)
 refine⟨((h++[O.lst xs.reverse]).set a (.ins 10 (nF R K F h.length G))++[O.lst []]).set a (.ins 10 (nF R K F h.length (h.length+1))),?_,Xr (by simp;lia),?_,?_,λp o ne hp=>?_,by simp⟩
 ·rw[Qe fnL[51] rfl rfl];have:=Qjg (d:=98) (a:=[.fld Va 7 (.rev (.fld Va 8)),.fld Va 8 (.lst [])]) (b:=[.set 1 (.fld Va 7),.fld Va 7 (.fld Va 8),.fld Va 8 Vb,.fld Va 6 (.not (.fld Va 6))]) et (if_pos rfl);exact(congrArg fin (QB (d:=98) (this.trans ex'))).trans rfl
 ·rw[Xe (by lia)]
  apply Q4
  rw[Xe (by lia)]
  exact at0
 ·rw[Xe (by lia),<-l1]
  exact at0
 ·rw[Xe (X8 ne)];apply Q4;rw[Xe (X8 ne)];exact Q4 hp
end
def Kp1(k:List Nat):Prop:=∃b∈[119,120,121,122],k=[b]
theorem QW{α β:Type}{f:β->α->β}{I:β->Prop}:∀{l:List α} {b:β},(∀a∈l,∀b,I b->I (f b a))->I b->I (l.foldl f b)
 |[],_,_,h=>h
 |a::l,b,st,h=>QW (l:=l) (λx m=>st x (Xi _ m)) (st a Xm b h)
theorem Ym{α β:Type}{f:β->α->β}{I:β->Prop}{a:α}:∀{l:List α} {b:β},(∀x b,I b->I (f b x))->(∀b,I (f b a))->a∈l->I (l.foldl f b)
 |x::l,b,st,h,m=>by
  show I (l.foldl f (f b x))
  rcases Xd.mp m with e|m
  ·subst e;exact QW (l:=l) (b:=f b a) (λx z b=>st x b) (h b)
  ·exact Ym (l:=l) (b:=f b x) st h m
def Qpu{k:List Nat}(t:Ti)(m:k∈ks):k∈fkT ks t:=by
 cases t with
 |fr w=>exact pk_mem.mpr (.inl m)
 |_=>exact m
def QoJ{k:List Nat}(w:List Nat)(m:k∈ks):k∈fkE ks w:=by
 unfold fkE;split
 ·exact m
 ·exact pk_mem.mpr (.inl m)
def Qpv{k:List Nat}(sp:Sp)(m:k∈ks):k∈fkS ks sp:=QW (I:=λb=>k∈b) (λw z z=>QoJ w) (QW (I:=λb=>k∈b) (λt z z=>Qpu t) m)
section
variable {sps:List Sp}{sp:Sp}{k w:List Nat}
def QlJ(m:sp∈sps)(h:.fr k∈sp.ts):k∈fk sps:=Ym (I:=λb=>k∈b) (λx z=>Qpv x) (λb=>QW (I:=λb=>k∈b) (λw z z=>QoJ w) (Ym (I:=λb=>k∈b) (λt z=>Qpu t) (λb=>pk_mem.mpr (.inr rfl)) h)) m
def QlK(m:sp∈sps)(h:w∈sp.es)(n:w≠Zt):w∈fk sps:=Ym (I:=λb=>w∈b) (λx z=>Qpv x) (λb=>Ym (I:=λb=>w∈b) (λt z=>QoJ t) (λb=>by unfold fkE;rw[if_neg n];exact pk_mem.mpr (.inr rfl)) h) m
def Qis:(fk sps).Nodup:=QW (I:=List.Nodup) (λsp z b h=>QW (I:=List.Nodup) (λw z b h=>by unfold fkE;split;exact h;exact Qkr h) (QW (I:=List.Nodup) (λt z b h=>by cases t<;>first|exact Qkr h|exact h) h)) .nil
def QfA(g:∀sp∈sps,Gd sp):∀k∈fk sps,Kp1 k:=QW (I:=λb=>∀k∈b,Kp1 k) (λsp m b h=>QW (I:=λb=>∀k∈b,Kp1 k) (λw mw b h=>by
  unfold fkE;split
  ·exact h
  ·rename_i n;intro k mk
   rcases pk_mem.mp mk with mk|rfl
   ·exact h k mk
   ·exact((g sp m).en k mw).2.resolve_left n) (QW (I:=λb=>∀k∈b,Kp1 k) (λt mt b h=>by
  cases t with
  |fr w=>
   intro k mk
   rcases pk_mem.mp mk with mk|rfl
   ·exact h k mk
   ·exact(g sp m).ok _ mt
  |_=>exact h) h)) λz m=>nomatch m
def Qld(h:Kp1 k):k≠Zt:=λe=>by
 obtain⟨b,_,rfl⟩:=h;simp[Zt]at e
end
structure Nd(P:Vp)(h:Hs)(x a b lf:Nat)(kl:List Nat->Nat):Prop where
 ex:∃R K F L G rs fs ls ks kv,h[a]?=some (.ins 10 (nF R K F L G))/\h[R]?=some (.lst rs)/\h[K]?=some (.dic (dS ks kv))/\h[F]?=some (.lst fs)/\h[L]?=some (.lst ls)/\h[G]?=some (.lst [])/\(R≠F/\R≠L/\R≠G/\F≠L/\F≠G/\L≠G)/\(ls.length=lf/\rs.length<=b/\fs.length<=b/\ks.length<=b)/\(∀k∈ks,∃p xs,kv k=.ref p/\P p (.lst xs)/\xs.length=kl k/\p≠x)/\(∀k,k∉ks->kl k=0)/\∀i o,P i o->i≠a/\i≠R/\i≠K/\i≠F/\i≠L/\i≠G
 st:∀i o,P i o->h[i]?=some o
noncomputable def plR(L G F lo:Nat)(f g:List Nat->Nat):Ro->Nat
 |.lf=>L
 |.rt=>G
 |.of=>F
 |.lo=>lo
 |.sp k=>f k
 |.pt k=>g k
noncomputable def ln0(lf fs:Nat)(kl:List Nat->Nat):Ro->Nat
 |.lf=>lf
 |.of=>fs
 |.sp k=>kl k
 |_=>0
def Zh{j:Nat}{x:O}(a:h[i]?=some o)(b:h[j]?=some x)(n:o≠x):i≠j:=λe=>by
 subst e;rw[a]at b;cases b;exact n rfl
section
variable {x lf:Nat}{P:Vp}{sps:List Sp}
def SP.so{sp:Sp}(st:∀i o,P i o->h[i]?=some o)(z:SP s P u sp):SO s h u sp:=by obtain⟨p,o,e,po,x⟩:=z;exact⟨p,o,e,st _ _ po,x⟩
structure Bg(P:Vp)(h0 h:Hs)(ks:List (List Nat))(pl:Ro->Nat)(P0:Vp)(a R K D co nm sd pd:Nat)(ns rs:List U)(kv:List Nat->U)(kk:List (List Nat))(c:List Nat->Nat):Prop where
 cs:Cs ks pl P0 a co R K nm sd pd ns
 le:Le P P0
 pR:P0 R (.lst rs)
 pK:P0 K (.dic (dS kk kv))
 pD:P0 D (.dic (dS ks λk=>iU (c k:Nat)))
 lD:h0.length<=D
 lo:h0.length<=pl .lo
 kp:Kp h0 h
 lP:D<pd
def Qov(z:Nd P h x a b lf kl)(pr:P r (.lst us))(p:Paired (SP s P) us sps)(l:sps.length<=100)(fit:tkS sps=lf)(ff:∀k∈fk sps,cR k sps=kl k):
  ∃R K F L G rs fs kk kv co nm sd pd ns h1 f g D P0,Rs (fk sps) (plR L G F (co+1) f g) P0 (ln0 lf fs kl) h1/\Bg P h h1 (fk sps) (plR L G F (co+1) f g) P0 a R K D co nm sd pd ns rs kv kk (λk=>cR k sps)/\ns.length=nws sps/\(R≠F/\R≠L/\R≠G/\F≠L/\F≠G/\L≠G)/\(rs.length<=b/\fs<=b/\kk.length<=b)/\(∀k∈kk,∃p xs,kv k=.ref p/\P p (.lst xs)/\xs.length=kl k/\p≠x)/\(∀k,k∉kk->kl k=0)/\(∀i o,P i o->i≠a/\i≠R/\i≠K/\i≠F/\i≠L/\i≠G)/\(a<h.length/\R<h.length/\K<h.length/\F<h.length/\L<h.length/\G<h.length) /\
   exs (tb s) (Qa (tb s) (n+4)) 100 b45 [sR a,sR r,sF,none,none,none,none,none,none] h=exs (tb s) (Qa (tb s) (n+4)) 95 (b45.drop 5) [sR a,sR r,sF,sR D,sR nm,sR sd,sR co,none,none] h1:=by
 obtain⟨R,K,F,L,G,rs,fs,ls,kk,kv,ha,hR,hK,hF,hL,hG,dis,⟨l1,l2,l3,l4⟩,kp,kz,np⟩:=z.ex;have GD:=Qg8 p;have hr:=z.st _ _ pr;have so:=Qi (λv v q=>SP.so (s:=s) z.st q) p;obtain⟨gv,nv,_⟩:=Qfv GD;have fl:=Qfz (sps:=sps) (ks:=[]) GD
 have fl:(fk sps).length<=9*sps.length:=by simpa[fk]using fl
 obtain⟨h1,e55,k1,hD,cz⟩:=Qq1 (s:=s) (n:=n+2) hr so (by lia)
 have kK:Kl h K kl:=⟨kk,kv,hK,λk m=>by obtain⟨p,xs,e1,y,w⟩:=kp k m;exact⟨p,xs,e1,z.st _ _ y,w.1⟩,kz⟩
 obtain⟨v47,h2,e47,k2,_⟩:=Qq6 (s:=s) (n:=n+2) (k1 _ _ ha) (k1 _ _ hR) (k1 _ _ hL) (kK.kp k1) (k1 _ _ hr) (Qi (λv v q=>SO.kp k1 q) so) (by lia) hD (by rw[fit,l1]) (λk v m=>ff k m)
 have K2:=k1.trans k2
 obtain⟨v54,h3,e54,k3,rfl⟩:=Qq2 (s:=s) (n:=n+2) (K2 _ _ hr) (Qi (λv v q=>SO.kp K2 q) so);have K3:=K2.trans k3
 obtain⟨v53,h4,e53,k4,q4,ns,rfl,h4q,lns⟩:=Qpp (s:=s) (n:=n+3) (h:=h3) (u:=iU (rs.length:Nat)) (m:=nws sps) (by lia)
 have K4:=K3.trans k4;have e50:=Ql7 (s:=s) (n:=n+3) (K4 _ _ ha) h4q;have K5:Kp h (h4++[O.lst ns]):=K4.trans kp1;have hD5:=(((k2.trans k3).trans k4).trans (kp1 (o:=O.lst ns))) _ _ hD
 have ltD:∀{p:Nat} {o:O},h[p]?=some o->p≠h.length:=λ{p o} q=>by have:=(Xa.mp q).1;lia
 obtain⟨f,g6,e6,k6,f1,f2⟩:=Ql5 (T:=tb s) (cf:=Qa (tb s) (n+4)) (d:=90) (D:=h.length) (Z:=[sR a,sR r,sF,sR h.length,sR h4.length,none,none,none,none]) (h:=h4++[O.lst ns]) (a:=Vd) (el:=.tup [Vj,.meth 13 Va [.meth 9 Va [Vj]]]) kl (λd=>Qb rfl) hD5 Qis (by lia)
  (λk mk g sy=>by
   have kg:Kp h g:=λp o q=>sy p o (ltD q) (K5 _ _ q);obtain⟨_,g1,a1,kg1,p1,xs,rfl,hx,lx⟩:=Qpq (s:=s) (n:=n+3) (k:=k) (kg _ _ ha) (kK.kp kg);have a2:=Ql7 (s:=s) (n:=n+3) ((kg.trans kg1) _ _ ha) hx;have em:ev (tb s) (Qa (tb s) (n+4)) 91 (.meth 13 Va [.meth 9 Va [Vj]]) [sR a,sR r,sF,sR h.length,sR h4.length,none,none,none,none,sS k] g=some (.ref g1.length,g1++[O.lst xs]):=(YO (d:=89) rfl (kg _ _ ha) rfl rfl (e_1 ((YO (d:=88) rfl (kg _ _ ha) rfl rfl (e_1 (Qb rfl)) rfl).trans a1)) rfl).trans a2
   exact⟨g1++[O.lst xs]++[O.tup [.str k,.ref g1.length]],_,g1.length,xs,YB (d:=91) (Qb rfl) em,(kg1.trans kp1).trans kp1,at0,Q4 at0,lx,kg1.len⟩)
 have hS:(g6++[O.dic (dS (fk sps) λk=>.ref (f k))])[g6.length]?=some (.dic (dS (fk sps) λk=>.ref (f k))):=at0;have K6:Kp h (g6++[O.dic (dS (fk sps) λk=>.ref (f k))]):=(K5.trans k6).trans kp1
 obtain⟨g,h7,pd,e7,k7,hco,hlo,hpd,g1,g2,lpd⟩:=Qot (s:=s) (n:=n+3) (nm:=h4.length) hS Qis (by lia)
 have K7:=K6.trans k7;have hnm:h7[h4.length]?=some (.lst ns):=k7 _ _ (kp1 _ _ (k6 _ _ at0));have hD7:=k7 _ _ (kp1 _ _ (k6 _ _ hD5));have hsd:=k7 _ _ hS;have f7:∀k∈fk sps,∃xs,h7[f k]?=some (.lst xs)/\xs.length=kl k/\(h4++[O.lst ns]).length<=f k:=λk m=>(by obtain⟨xs,x,y,w⟩:=f1 k m;exact⟨xs,k7 _ _ (kp1 _ _ x),y,w⟩);have fu:∀k∈fk sps,f k<g6.length:=λk m=>(by obtain⟨xs,x,_⟩:=f1 k m;exact (Xa.mp x).1);have lts:∀{p:Nat} {o:O},h[p]?=some o->p<h.length:=λq=>(Xa.mp q).1;have la:=lts ha;have lR:=lts hR;have lK:=lts hK;have lF:=lts hF;have lL:=lts hL;have lG:=lts hG;have h45:h.length<=h4.length:=K4.len
 have h56:h4.length+1<=g6.length:=by have:=k6.len;simpa using this
 have lco:(g6++[O.dic (dS (fk sps) λk=>.ref (f k))]).length=g6.length+1:=by simp
 rw[lco]at e7 hco hlo g1 lpd;obtain⟨d1,d2,d3,d4,d5,d6⟩:=dis;obtain⟨P0,hP0⟩:∃P0:Vp,P0=λi o=>P i o\/(i=a/\o=.ins 10 (nF R K F L G))\/(i=R/\o=.lst rs)\/(i=K/\o=.dic (dS kk kv))\/(i=h.length/\o=.dic (dS (fk sps) λk=>iU (cR k sps:Nat)))\/(i=g6.length+1/\o=.ins 11 (cF h4.length g6.length (g6.length+1+1) pd))\/(i=h4.length/\o=.lst ns)\/(i=g6.length/\o=.dic (dS (fk sps) λk=>.ref (f k)))\/(i=pd/\o=.dic (dS (fk sps) λk=>.ref (g k))):=⟨_,rfl⟩
 have rl:∀r,Us (fk sps) r->∃xs,h7[plR L G F (g6.length+1+1) f g r]?=some (.lst xs)/\xs.length=ln0 lf fs.length kl r:=λr u=>by
  cases r with
  |lf=>exact⟨ls,K7 _ _ hL,l1⟩
  |rt=>exact⟨[],K7 _ _ hG,rfl⟩
  |of=>exact⟨fs,K7 _ _ hF,rfl⟩
  |lo=>exact⟨[],hlo,rfl⟩
  |sp k=>obtain⟨xs,x,y,_⟩:=f7 k u;exact⟨xs,x,y⟩
  |pt k=>exact⟨[],(g1 k u).1,rfl⟩
 have zr:Rs (fk sps) (plR L G F (g6.length+1+1) f g) P0 (ln0 lf fs.length kl) h7:=by
  refine⟨λr r' u u' e=>?_,λi o q=>?_,λi o q r u=>?_,rl⟩
  ·have fa:∀k∈fk sps,h4.length+1<=f k/\f k<g6.length:=λk m=>⟨by obtain⟨_,_,_,w⟩:=f7 k m;simpa using w,fu k m⟩
   have ga:∀k∈fk sps,g6.length+1+1<g k:=λk m=>(g1 k m).2
   cases r<;>cases r'<;>simp only[plR]at e<;>first
    |rfl
    | (exfalso;lia)
    | (have:=fa _ u;have:=fa _ u';rw[f2 _ u _ u' e])
    | (have:=ga _ u;have:=ga _ u';rw[g2 _ u _ u' e])
    | (exfalso;have:=fa _ u;have:=ga _ u';lia)
    | (exfalso;have:=ga _ u;have:=fa _ u';lia)
    | (exfalso;have:=fa _ u;lia)
    | (exfalso;have:=fa _ u';lia)
    | (exfalso;have:=ga _ u;lia)
    | (exfalso;have:=ga _ u';lia)
  ·subst hP0
   rcases q with q|⟨rfl,rfl⟩|⟨rfl,rfl⟩|⟨rfl,rfl⟩|⟨rfl,rfl⟩|⟨rfl,rfl⟩|⟨rfl,rfl⟩|⟨rfl,rfl⟩|⟨rfl,rfl⟩
   ·exact K7 _ _ (z.st _ _ q)
   ·exact K7 _ _ ha
   ·exact K7 _ _ hR
   ·exact K7 _ _ hK
   ·exact hD7
   ·exact hco
   ·exact hnm
   ·exact hsd
   ·exact hpd
  ·have fa:∀k∈fk sps,h4.length+1<=f k/\f k<g6.length:=λk m=>⟨by obtain⟨_,_,_,w⟩:=f7 k m;simpa using w,fu k m⟩
   have ga:∀k∈fk sps,g6.length+1+1<g k:=λk m=>(g1 k m).2;obtain⟨xs,hx,_⟩:=rl r u
   have num:∀{j:Nat},j<h.length->j≠F->j≠L->j≠G->j≠plR L G F (g6.length+1+1) f g r:=λ{j} lj n1 n2 n3=>by
    cases r<;>simp only[plR]<;>first|assumption|lia|(have:=fa _ u;lia)|(have:=ga _ u;lia)
   subst hP0
   rcases q with q|⟨rfl,rfl⟩|⟨rfl,rfl⟩|⟨rfl,rfl⟩|⟨rfl,rfl⟩|⟨rfl,rfl⟩|⟨rfl,rfl⟩|⟨rfl,rfl⟩|⟨rfl,rfl⟩
   ·obtain⟨_,_,_,n1,n2,n3⟩:=np _ _ q;exact num (lts (z.st _ _ q)) n1 n2 n3
   ·exact Zh (K7 _ _ ha) hx (by simp)
   ·exact num lR d1 d2 d3
   ·exact Zh (K7 _ _ hK) hx (by simp)
   ·exact Zh hD7 hx (by simp)
   ·exact Zh hco hx (by simp)
   ·cases r<;>simp only[plR]<;>first|lia|(have:=fa _ u;lia)|(have:=ga _ u;lia)
   ·exact Zh hsd hx (by simp)
   ·exact Zh hpd hx (by simp)
 refine⟨R,K,F,L,G,rs,fs.length,kk,kv,g6.length+1,h4.length,g6.length,pd,ns,h7,f,g,h.length,P0,zr,?_,lns,⟨d1,d2,d3,d4,d5,d6⟩,⟨l2,l3,l4⟩,kp,kz,np,⟨la,lR,lK,lF,lL,lG⟩,?_⟩
 ·subst hP0
  exact⟨⟨.inr (.inl ⟨rfl,rfl⟩),.inr (.inr (.inr (.inr (.inr (.inl ⟨rfl,rfl⟩))))),.inr (.inr (.inr (.inr (.inr (.inr (.inl ⟨rfl,rfl⟩)))))),.inr (.inr (.inr (.inr (.inr (.inr (.inr (.inl ⟨rfl,rfl⟩))))))),.inr (.inr (.inr (.inr (.inr (.inr (.inr (.inr ⟨rfl,rfl⟩)))))))⟩,λv v q=>.inl q,.inr (.inr (.inl ⟨rfl,rfl⟩)),.inr (.inr (.inr (.inl ⟨rfl,rfl⟩))),.inr (.inr (.inr (.inr (.inl ⟨rfl,rfl⟩)))),Xh _,by show h.length<=g6.length+1+1;lia,K7,by lia⟩
 ·have x1:ev (tb s) (Qa (tb s) (n+4)) 98 (.call 55 [Vb]) [sR a,sR r,sF,none,none,none,none,none,none] h=some (.ref h.length,h1):=ZA (d:=97) (e_1 (Qb rfl)) e55;have x2:ev (tb s) (Qa (tb s) (n+4)) 97 (.meth 10 Va [Vb,Vc,Vd]) [sR a,sR r,sF,sR h.length,none,none,none,none,none] h1=some (v47,h2):=(YO (d:=95) rfl (k1 _ _ ha) rfl rfl (e_3 (Qb rfl) (Qb rfl) (Qb rfl)) rfl).trans e47
  have x2':ex (tb s) (Qa (tb s) (n+4)) 98 (.expr (.meth 10 Va [Vb,Vc,Vd])) [sR a,sR r,sF,sR h.length,none,none,none,none,none] h1=some (.next,[sR a,sR r,sF,sR h.length,none,none,none,none,none],h2):=by rw[Qo,x2,Qm]
  have x3:ev (tb s) (Qa (tb s) (n+4)) 96 (.meth 13 Va [.call 53 [.bi .len [.fld Va 9],.call 54 [Vb]]]) [sR a,sR r,sF,sR h.length,none,none,none,none,none] h2=some (.ref h4.length,h4++[O.lst ns]):=(YO (d:=94) rfl (K2 _ _ ha) rfl rfl (e_1 (ZA (d:=94) (e_2 (Z9 (d:=93) (Zk (d:=91) rfl (K2 _ _ ha) rfl) (K2 _ _ hR)) (ZA (d:=93) (e_1 (Qb rfl)) e54)) e53)) rfl).trans e50
  have x5:ev (tb s) (Qa (tb s) (n+4)) 94 (.make 11 [Ve,Vf]) [sR a,sR r,sF,sR h.length,sR h4.length,sR g6.length,none,none,none] (g6++[O.dic (dS (fk sps) λk=>.ref (f k))])=some (.ref (g6.length+1),h7):=by
   rw[QcT,e_2 (Qb rfl) (Qb rfl),Qm];exact e7
  exact(QD (d:=98) x1).trans ((Zi (d:=98) x2').trans ((QD (d:=96) x3).trans ((QD (d:=95) e6).trans (QD (d:=94) x5))))
end
def SP.le{P P1:Vp}(l:Le P P1){sp:Sp}(z:SP s P u sp):SP s P1 u sp:=by obtain⟨p,o,e,po,x⟩:=z;exact⟨p,o,e,l _ _ po,x⟩
section
variable {x lf:Nat}{P:Vp}{sps:List Sp}
def Qq7(lx:x<h.length)(z:Nd P h x a b lf kl)(pr:P r (.lst us))(p:Paired (SP s P) us sps)(l:sps.length<=100)(lb:b<=400000)(fit:tkS sps=lf)(ff:∀k∈fk sps,cR k sps=kl k):
  ∃h1 P1,Qa (tb s) (n+5) 45 [.ref a,.ref r,.bl false] h=some (iU (gvS sps:Nat),h1)/\Le P P1/\Nd P1 h1 x a (b+10000) (gvS sps) (λk=>if k∈fk sps then eR k sps else kl k):=by
 obtain⟨R,K,F,L,G,rs,fs,kk,kv,co,nm,sd,pd,ns,h1,f,g,D,P0,zr,bg,lns,⟨d1,d2,d3,d4,d5,d6⟩,⟨b1,b2,b3⟩,kp,kz,np,⟨la,lR,lK,lF,lL,lG⟩,e⟩:=Qov (n:=n) z pr p l fit ff;have GD:=Qg8 p;obtain⟨gv,nv,ev_⟩:=Qfv GD;have fl:=Qfz (sps:=sps) (ks:=[]) GD
 have fl:(fk sps).length<=9*sps.length:=by simpa[fk]using fl
 have ft:Fit (fk sps) (ln0 lf fs kl) ns sps:=⟨Ta fit,λsp m k h=>QlJ m h,λk m=>Ta (ff k m),λsp m w h n=>QlK m h n,by show 0+nws sps<=_;lia,⟨by show 0<=_;lia,by show 0<=_;lia,by show fs<=_;lia,λk t=>by show 0<=_;lia⟩,λm=>Qld (QfA GD _ m) rfl,by lia⟩
 suffices x:Cc (tb s) (n+5) 45 [.ref a,.ref r,.bl false] h λv h1=>v=iU (gvS sps:Nat)/\∃P1,Le P P1/\Nd P1 h1 x a (b+10000) (gvS sps) (λk=>if k∈fk sps then eR k sps else kl k) by
  obtain⟨_,h1,e,rfl,P1,q⟩:=x;exact⟨h1,P1,e,q⟩
 refine Qbu (Qe fnL[45] rfl rfl) (Jc e (Qnn zr bg.cs (bg.le _ _ pr) (Qi (λt t q=>SP.le bg.le q) p) ft λh7 P7 y7 l7 z7=>?_));have ha7:h7[a]?=some (.ins 10 (nF R K F L G)):=z7.st _ _ (l7 _ _ bg.cs.a);have hco7:=z7.st _ _ (l7 _ _ bg.cs.co);have hR7:=z7.st _ _ (l7 _ _ bg.pR);have hK7:=z7.st _ _ (l7 _ _ bg.pK);have hD7:=z7.st _ _ (l7 _ _ bg.pD);have hpd7:=z7.st _ _ (l7 _ _ bg.cs.pd);obtain⟨lo,hlo,_⟩:=z7.ls .lo trivial;obtain⟨rt,hrt,lrt⟩:=z7.ls .rt trivial;obtain⟨off,hof,lof⟩:=z7.ls .of trivial
 have lrt:rt.length=gvS sps:=by rw[lrt];exact W5 _
 have lof:off.length<=b+1000:=by rw[lof];show fs+eR Zt sps<=_;have:=ev_ Zt;lia
 have l17:h.length<=h7.length:=by
  have:=(Xa.mp hD7).1;have:=bg.lD;lia
 have e50:=Ql7 (s:=s) (n:=n+3) ha7 hlo;have e7:ev (tb s) (Qa (tb s) (n+4)) 91 (.meth 13 Va [.fld Vg 14]) [sR a,sR r,sF,sR D,sR nm,sR sd,sR co,y7,none] h7=some (.ref h7.length,h7++[O.lst lo]):=(YO (d:=89) rfl ha7 rfl rfl (e_1 (Zk (d:=88) rfl hco7 rfl)) rfl).trans e50
 have ex7:=Qcd (T:=tb s) (cf:=Qa (tb s) (n+4)) (d:=91) (Z:=[sR a,sR r,sF,sR D,sR nm,sR sd,sR co,y7,none]) (o:=.fld Va 9) (Zk (d:=89) rfl ha7 rfl) hR7 e7 (kp1 _ _ hR7) (by lia)
 obtain⟨h9,eh9⟩:∃h9,h9=(h7++[O.lst lo]).set R (.lst (rs++[.ref h7.length])):=⟨_,rfl⟩;rw[<-eh9]at ex7
 have l9:h9.length=h7.length+1:=by rw[eh9];simp
 have zst9:∀(p:Nat) o,p≠R->h7[p]?=some o->h9[p]?=some o:=λp o n q=>by rw[eh9,Xe (X8 n)];exact Q4 q
 have hR9:h9[R]?=some (.lst (rs++[.ref h7.length])):=by rw[eh9];exact Xr (by simp;lia)
 have nn:∀{i:Nat} {o:O},h7[i]?=some o->(∀xs,o≠.lst xs)->i≠R:=λq n e=>by rw[e,hR7]at q;cases q;exact n _ rfl
 have ha9:=zst9 _ _ (nn ha7 λt=>by simp) ha7
 have hco9:=zst9 _ _ (nn hco7 λt=>by simp) hco7
 have hK9:=zst9 _ _ (nn hK7 λt=>by simp) hK7
 have hD9:=zst9 _ _ (nn hD7 λt=>by simp) hD7
 have hpd9:=zst9 _ _ (nn hpd7 λt=>by simp) hpd7
 have lDK:D≠K:=by have:=bg.lD;lia
 have lKD:K≠D:=X8 lDK
 have aK:a≠K:=Zh ha9 hK9 (by simp)
 have aD:a≠D:=by have:=bg.lD;lia
 have coK:co≠K:=Zh hco9 hK9 (by simp)
 have coD:co≠D:=Zh hco9 hD9 (by simp)
 have kpt:∀k∈fk sps,∃xs,h9[g k]?=some (.lst xs)/\xs.length=eR k sps:=λk m=>by
  obtain⟨xs,x,y⟩:=z7.ls (.pt k) m
  exact⟨xs,zst9 _ _ (λq=>z7.np _ _ (l7 _ _ bg.pR) (.pt k) m q.symm) x,by rw[y];exact W5 _⟩
 have pdD:pd≠D:=by have:=bg.lP;lia
 have pdK:pd≠K:=by have:=bg.lP;have:=bg.lD;lia
 have lKp:∀{k:List Nat} {j:Nat},(fk sps)[j]?=some k->k∉(fk sps).take j:=λ{k j} hk m=>by
  have h2:((fk sps).take (j+1)).Nodup:=(Qis (sps:=sps)).sublist (List.take_sublist _ _);rw[QJ hk,Uw]at h2;exact h2.2.2 k m k Xm rfl
 obtain⟨ρ8,gg,ex8,y8,rfl,fz,sy,lg,ks',kv',hK',lk',kin,kout⟩:=QpB (T:=tb s) (cf:=Qa (tb s) (n+4)) (d:=91) (i:=8) (D:=D) (e:=Vd) (body:=[.put (.fld Va 10) Vi (.meth 13 Va [.ix (.fld Vg 15) Vi])]) (Z:=[sR a,sR r,sF,sR D,sR nm,sR sd,sR co,y7,none]) (h:=h9) (Qb rfl) hD9
  (λj Z gg=>∃y8,Z=[sR a,sR r,sF,sR D,sR nm,sR sd,sR co,y7,y8]/\gg[D]?=some (.fzd (dS (fk sps) λk=>iU (cR k sps:Nat)))/\(∀(p:Nat) o,p≠D->p≠K->h9[p]?=some o->gg[p]?=some o)/\h9.length<=gg.length/\∃ks' kv',gg[K]?=some (.dic (dS ks' kv'))/\ks'.length<=kk.length+j/\(∀k∈ks',(k∈(fk sps).take j/\∃q xs,kv' k=.ref q/\gg[q]?=some (.lst xs)/\xs.length=eR k sps/\h9.length<=q)\/(k∉(fk sps).take j/\k∈kk/\kv' k=kv k))/\∀k,k∉ks'->k∉(fk sps).take j/\k∉kk)
  (λj Z gg w=>by obtain⟨_,_,fz,_⟩:=w;exact fz)
  (λj k hk Z gg w=>by
   obtain⟨y8,rfl,fz,sy,lg,ks',kv',hK',lk',kin,kout⟩:=w;have mk:=Xp hk;have hja:j<(fk sps).length:=(Xa.mp hk).1;obtain⟨xs,hx,lx⟩:=kpt k mk;have hga:=sy _ _ aD aK ha9
   have hgx:=sy _ _ (Zh hx hD9 (by simp)) (Zh hx hK9 (by simp)) hx
   have e13:=Ql7 (s:=s) (n:=n+3) hga hgx;have ee:ev (tb s) (Qa (tb s) (n+4)) 89 (.meth 13 Va [.ix (.fld Vg 15) Vi]) [sR a,sR r,sF,sR D,sR nm,sR sd,sR co,y7,sS k] gg=some (.ref gg.length,gg++[O.lst xs]):=(YO (d:=87) rfl hga rfl rfl (e_1 (YQ (d:=87) (Zk (d:=85) rfl (sy _ _ coD coK hco9) rfl) (Qb rfl) (QeM (sy _ _ pdD pdK hpd9) mk))) rfl).trans e13;have hK1:=kp1 (o:=O.lst xs) _ _ hK'
   have ep:=Qgx (T:=tb s) (cf:=Qa (tb s) (n+4)) (d:=89) ee (Zk (i:=0) (f:=10) (d:=87) rfl (kp1 (o:=O.lst xs) _ _ hga) rfl) (Qb (i:=8) rfl) (QbO hK1 (u:=.ref gg.length) (k:=k) (by lia))
   have lKg:K<gg.length:=(Xa.mp hK').1
   have sK:∀{i:Nat} {o:O},gg[i]?=some o->i≠K->((gg++[O.lst xs]).set K (.dic (dS (pk ks' k) (up kv' k (.ref gg.length)))))[i]?=some o:=λq n=>by rw[Xe (X8 n)];exact Q4 q
   have tj:(fk sps).take (j+1)=(fk sps).take j++[k]:=QJ hk
   refine⟨_,_,QB (d:=89) ep,sS k,rfl,sK fz lDK,λp o n1 n2 q=>sK (sy p o n1 n2 q) n2,by simp;lia,pk ks' k,up kv' k (.ref gg.length),Xr (by simp;lia),by have:=Qaq (ks:=ks') (k:=k);lia,λk' m'=>?_,λk' m'=>?_⟩
   ·rw[tj];by_cases q:k'=k
    ·subst q
     refine .inl ⟨by simp,gg.length,xs,QpC,?_,lx,lg⟩
     rw[Xe (by lia)]
     exact at0
    ·have m2:k'∈ks':=(pk_mem.mp m').resolve_right q
     rcases kin k' m2 with⟨m3,q',xs',x1,x2,x3,x4⟩|⟨m3,m4,x1⟩
     ·refine .inl ⟨by simp[m3],q',xs',by rw[Qml q];exact x1,sK x2 (Zh x2 hK' (by simp)),x3,x4⟩
     ·exact .inr ⟨by simp[m3,q],m4,by rw[Qml q];exact x1⟩
   ·have n1:k'∉ks':=λz=>m' (pk_mem.mpr (.inl z));have n2:k'≠k:=λz=>m' (pk_mem.mpr (.inr z));obtain⟨x1,x2⟩:=kout k' n1
    exact⟨by rw[tj];simp[x1,n2],x2⟩)
  ⟨none,rfl,Xr (Xa.mp hD9).1,λp o n t q=>by rw[Xe (X8 n)];exact q,by simp,kk,kv,by rw[Xe lDK];exact hK9,Nat.le_add_right ..,λk m=>.inr ⟨by simp,m,rfl⟩,λk m=>⟨by simp,m⟩⟩
 rw[Uh]at kin kout;obtain⟨h10,eh10⟩:∃h10,h10=gg.set D (.dic (dS (fk sps) λk=>iU (cR k sps:Nat))):=⟨_,rfl⟩;rw[<-eh10]at ex8;have lDg:D<gg.length:=(Xa.mp fz).1
 have l10:h10.length=gg.length:=by rw[eh10];simp
 have zst10:∀(p:Nat) o,p≠K->h9[p]?=some o->h10[p]?=some o:=λp o n q=>by
  rw[eh10];by_cases e:p=D
  ·subst e;rw[hD9]at q;cases q;exact Xr lDg
  ·rw[Xe (X8 e)];exact sy p o e n q
 have sg:∀{p:Nat} {o:O},gg[p]?=some o->p≠D->h10[p]?=some o:=λq n=>by rw[eh10,Xe (X8 n)];exact q
 have ha10:=zst10 _ _ aK ha9
 have hG10:=zst10 _ _ (Zh (zst9 _ _ (X8 d3) hrt) hK9 (by simp)) (zst9 _ _ (X8 d3) hrt)
 obtain⟨h11,e51,ha11,hL11,hG11,zst11,l11⟩:=Qq3 (s:=s) (n:=n+3) ha10 hG10;have e9:ev (tb s) (Qa (tb s) (n+4)) 90 (.meth 14 Va []) [sR a,sR r,sF,sR D,sR nm,sR sd,sR co,y7,y8] h10=some (.non,h11):=(YO (d:=88) rfl ha10 rfl rfl rfl rfl).trans e51
 have ex9:ex (tb s) (Qa (tb s) (n+4)) 91 (.expr (.meth 14 Va [])) [sR a,sR r,sF,sR D,sR nm,sR sd,sR co,y7,y8] h10=some (.next,[sR a,sR r,sF,sR D,sR nm,sR sd,sR co,y7,y8],h11):=by rw[Qo,e9,Qm]
 have er:ev (tb s) (Qa (tb s) (n+4)) 89 (.op .Add (.bi .len [.fld Va 7]) (.bi .len [.fld Va 8])) [sR a,sR r,sF,sR D,sR nm,sR sd,sR co,y7,y8] h11=some (iU (gvS sps:Nat),h11):=by
  have:=Zu (TT:=tb s) (cf:=Qa (tb s) (n+4)) (Z:=[sR a,sR r,sF,sR D,sR nm,sR sd,sR co,y7,y8]) (d:=88) (o:=.Add) (Z9 (d:=87) (Zk (i:=0) (f:=7) (d:=85) rfl ha11 rfl) hL11) (Z9 (d:=87) (Zk (i:=0) (f:=8) (d:=85) rfl ha11 rfl) hG11) Z4;rw[this,U5,lrt];simp
 refine Qe2 ex7 (Qe2 ex8 (Qe2 ex9 (Yd (Jo er ⟨rfl,λi o=>P i o\/(h.length<=i/\h11[i]?=some o/\i≠h10.length/\i≠h10.length+1),λt t q=>.inl q,?_⟩))))
 have stP:∀i o,P i o->h11[i]?=some o:=λi o q=>by
  obtain⟨n1,n2,n3,_⟩:=np i o q;exact zst11 _ _ n1 (zst10 _ _ n3 (zst9 _ _ n2 (z7.st _ _ (l7 _ _ (bg.le _ _ q)))))
 have l9h:h.length<=h9.length:=by lia
 have hF7:h7[F]?=some (.lst off):=hof
 have nFK:F≠K:=Zh (zst9 _ _ (X8 d1) hF7) hK9 (by simp)
 have nRK:R≠K:=Zh hR9 hK9 (by simp)
 have nFa:F≠a:=Zh (zst10 _ _ nFK (zst9 _ _ (X8 d1) hF7)) ha10 (by simp)
 have nRa:R≠a:=Zh (zst10 _ _ nRK hR9) ha10 (by simp)
 have hK10:h10[K]?=some (.dic (dS ks' kv')):=sg hK' lKD;have nKa:K≠a:=X8 aK
 refine⟨⟨R,K,F,h10.length,h10.length+1,_,off,_,ks',kv',ha11,zst11 _ _ nRa (zst10 _ _ nRK hR9),zst11 _ _ nKa hK10,zst11 _ _ nFa (zst10 _ _ nFK (zst9 _ _ (X8 d1) hF7)),hL11,hG11,⟨d1,by lia,by lia,by lia,by lia,by lia⟩,⟨by rw[U5];exact lrt,by simp;lia,by lia,by lia⟩,λk m=>?_,λk m=>?_,λi o q=>?_⟩,λi o q=>q.elim (stP i o) λq=>q.2.1⟩
 ·rcases kin k m with⟨m3,q',xs',x1,x2,x3,x4⟩|⟨m3,m4,x1⟩
  ·have:=(Xa.mp x2).1
   refine⟨q',xs',x1,.inr ⟨by lia,zst11 _ _ (by lia) (sg x2 (Zh x2 fz (by simp))),by lia,by lia⟩,?_⟩
   rw[if_pos m3]
   exact⟨x3,by lia⟩
  ·obtain⟨p',xs',x2,x3,x4⟩:=kp k m4;refine⟨p',xs',x1.trans x2,.inl x3,?_⟩;rw[if_neg m3];exact x4
 ·obtain⟨x1,x2⟩:=kout k m;show(if k∈fk sps then _ else _)=0;rw[if_neg x1];exact kz k x2
 ·rcases q with q|⟨q1,q2,q3,q4⟩
  ·obtain⟨n1,n2,n3,n4,_⟩:=np i o q;have:i<h.length:=(Xa.mp (z.st _ _ q)).1
   exact⟨n1,n2,n3,n4,by lia,by lia⟩
  ·exact⟨by lia,by lia,by lia,by lia,q3,q4⟩
end
section
variable {H H1:Hs}{fs:List (Nat×U)}
def Qir(h0:Z[0]?=some (sR a))(ve:ev T cf d e Z H=some (u,H1))(k:Kp H H1)(hd:d=d'+1)(ha:H[a]?=some (.ins 10 fs))(lf:fs.length<500):∃H2,ex T cf (d+1) (.fld Va f e) Z H=some (.next,Z,H2)/\H2[a]?=some (.ins 10 (JO f u fs))/\(∀(p:Nat) o,p≠a->H1[p]?=some o->H2[p]?=some o)/\H2.length=H1.length:=by
 subst hd
 refine⟨_,Qa0 ve (Qb h0) (k _ _ ha) lf,Xr (Xa.mp (k _ _ ha)).1,λp o n q=>by rw[Xe (X8 n)];exact q,List.length_set ..⟩
end
section
variable {m x:Nat}{P:Vp}
def QgU(hq:h[q]?=some (.lst [u])):QX T (.ref q) (.int (-1) 0) h=some u:=by
 simp only[QX,hq];rfl
def Qos(hm:m<=100)(st:∀i o,P i o->hs[i]?=some o):∃h1,ZM (tb s) (Qa (tb s) (n+2)) 10 [.str YA,iU (m:Nat)] hs=some (.ref hs.length,h1)/\Kp hs h1/\∀x,Nd P h1 x hs.length 1 m (λy=>0):=by
 have a0:(hs++[O.ins 10 []])[hs.length]?=some (.ins 10 []):=at0;obtain⟨Z,eρ⟩:∃Z:Rho,Z=[sR hs.length,sS YA,sN m,some .non,some .non]:=⟨_,rfl⟩
 have r0:Z[0]?=some (sR hs.length):=by rw[eρ];rfl
 obtain⟨H1,e1,a1,s1,l1⟩:=Qir (T:=tb s) (cf:=Qa (tb s) (n+1)) (d:=98) (e:=Vb) (f:=2) r0 (Qb (by rw[eρ];rfl)) (Kp.refl _) rfl a0 (by simp)
 obtain⟨H2,e2,a2,s2,l2⟩:=Qir (T:=tb s) (cf:=Qa (tb s) (n+1)) (d:=97) (e:=.c (.bl true)) (f:=6) r0 y_c (Kp.refl _) rfl a1 (by simp[JO])
 obtain⟨vs,g3,ec,k3,pr⟩:=Qeh (T:=tb s) (cf:=Qa (tb s) (n+1)) (d:=92) (lo:=0) (n:=m) (src:=.rng Vc) (Z:=Z) (h0:=H2) (hs:=H2) (D:=λy y (_:Unit)=>True) (xs:=List.replicate m ()) (el:=.tup [.tup [],Wa,Wa])
  (λy y y y y z=>z) (QjJ (by lia) (Qb (by rw[eρ];rfl))) (by simp) (by lia) λi t hi h1 k1=>⟨_,_,YN (d:=91) (u:=.ref h1.length) (h1:=h1++[O.tup []]) (by rw[Qx];simp only[evs,Qm]) y_c y_c,(Kp.app _ _).trans kp1,trivial⟩
 have lvs:vs.length=m:=by have:=Qk pr;simpa using this
 have el3:ev (tb s) (Qa (tb s) (n+1)) 94 (.lst [.comp (.rng Vc) false none (.tup [.tup [],Wa,Wa])]) Z H2=_:=QcZ (d:=93) ec;have K3:Kp H2 (g3++[O.lst vs]++[O.lst [.ref g3.length]]):=(k3.trans kp1).trans kp1
 obtain⟨H3,e3,a3,s3,l3⟩:=Qir (f:=9) r0 el3 K3 rfl a2 (by simp[JO])
 have l3':H3.length=g3.length+2:=by rw[l3];simp
 obtain⟨H4,e4,a4,s4,l4⟩:=Qir (T:=tb s) (cf:=Qa (tb s) (n+1)) (d:=93) (e:=.dnew) (f:=10) r0 QbB kp1 rfl a3 (by simp[JO])
 have l4':H4.length=g3.length+3:=by rw[l4];simp[l3']
 have en5:ev (tb s) (Qa (tb s) (n+1)) 92 (.lst []) Z H4=some (.ref H4.length,H4++[O.lst []]):=by rw[Qw];simp only[evs,Qm]
 obtain⟨H5,e5,a5,s5,l5⟩:=Qir (f:=11) r0 en5 kp1 rfl a4 (by simp[JO])
 have l5':H5.length=g3.length+4:=by rw[l5];simp[l4']
 have lA:hs.length<g3.length:=by
  have:=(Xa.mp (k3 _ _ a2)).1;lia
 have p5:∀{p:Nat} {o:O},H3[p]?=some o->p≠hs.length->H5[p]?=some o:=λ{p o} q n=>s5 _ _ n (kp1 _ _ (s4 _ _ n (kp1 _ _ q)))
 have hq5:H5[g3.length]?=some (.lst vs):=p5 (s3 _ _ (by lia) (Q4 at0)) (by lia)
 have hR5:H5[(g3++[O.lst vs]).length]?=some (.lst [.ref g3.length]):=p5 (s3 _ _ (by simp;lia) at0) (by simp;lia)
 have hK5:H5[H3.length]?=some (.dic []):=s5 _ _ (by lia) (kp1 _ _ (s4 _ _ (by lia) at0))
 have hF5:H5[H4.length]?=some (.lst []):=s5 _ _ (by lia) at0
 have a5':H5[hs.length]?=some (.ins 10 [(2,.str YA),(6,.bl true),(9,.ref (g3++[O.lst vs]).length),(10,.ref H3.length),(11,.ref H4.length)]):=a5
 have e9:∀d,ev (tb s) (Qa (tb s) (n+1)) (d+2) (.fld Va 9) Z H5=some (.ref (g3++[O.lst vs]).length,H5):=λd=>Zk r0 a5' rfl
 obtain⟨_,g6,c53,k6,q6,xs,rfl,h6,lx6⟩:=Qpp (s:=s) (n:=n) (h:=H5) (u:=iU (((1:Nat):Int) - 1)) (m:=m) (by lia)
 have e53:ev (tb s) (Qa (tb s) (n+1)) 94 (.call 53 [.op .Sub (.bi .len [.fld Va 9]) Wb,.bi .len [.ix (.fld Va 9) (.neg Wb)]]) Z H5=some (.ref q6,g6):=ZA (d:=93) (e_2 (Zu (d:=92) (Z9 (d:=91) (e9 89) hR5) y_c QhW) (Z9 (d:=92) (YQ (d:=91) (e9 89) (by rw[QO,y_c,Qm]) (QgU hR5)) (by exact hq5))) (by rw[lvs];exact c53)
 have e7r:ev (tb s) (Qa (tb s) (n+1)) 95 (.rev (.call 53 [.op .Sub (.bi .len [.fld Va 9]) Wb,.bi .len [.ix (.fld Va 9) (.neg Wb)]])) Z H5=some (.ref g6.length,g6++[O.lst xs.reverse]):=by
  rw[Qi8,e53,Qm];simp only[QU,h6]
 obtain⟨H6,e6,a6,s6,l6⟩:=Qir (f:=7) r0 e7r (k6.trans kp1) rfl a5' (by simp)
 have l6':H6.length=g6.length+1:=by rw[l6];simp
 have l56:H5.length<=g6.length:=k6.len
 have en7:ev (tb s) (Qa (tb s) (n+1)) 94 (.lst []) Z H6=some (.ref H6.length,H6++[O.lst []]):=by rw[Qw];simp only[evs,Qm]
 obtain⟨H7,e7,a7,s7,l7⟩:=Qir (f:=8) r0 en7 kp1 rfl a6 (by simp[JO])
 have p7:∀{p:Nat} {o:O},H5[p]?=some o->p≠hs.length->H7[p]?=some o:=λ{p o} q n=>s7 _ _ n (kp1 _ _ (s6 _ _ n (kp1 _ _ (k6 _ _ q))))
 have hL7:H7[g6.length]?=some (.lst xs.reverse):=s7 _ _ (by lia) (kp1 _ _ (s6 _ _ (by lia) at0))
 have hG7:H7[H6.length]?=some (.lst []):=s7 _ _ (by lia) at0
 have lr:(g3++[O.lst vs]).length=g3.length+1:=by simp
 rw[lr]at a5' hR5
 have a7':H7[hs.length]?=some (.ins 10 (nF (g3.length+1) H3.length H4.length g6.length H6.length)):=by
  rw[a7,lr];rfl
 have K7:Kp hs H7:=λp o q=>by
  have lp:p≠hs.length:=by have:=(Xa.mp q).1;lia
  exact p7 (p5 (s3 _ _ lp (K3 _ _ (s2 _ _ lp (s1 _ _ lp (Q4 q))))) lp) lp
 refine⟨H7,?_,K7,λx=>⟨⟨g3.length+1,H3.length,H4.length,g6.length,H6.length,[.ref g3.length],[],xs.reverse,[],λy=>.non,a7',p7 hR5 (by lia),p7 hK5 (by lia),p7 hF5 (by lia),hL7,hG7,⟨by lia,by lia,by lia,by lia,by lia,by lia⟩,⟨by rw[U5];exact lx6,by simp,by simp,by simp⟩,(λk m=>nomatch m),λy y=>rfl,λi o q=>?_⟩,λi o q=>K7 _ _ (st i o q)⟩⟩
 ·have ei:exs (tb s) (Qa (tb s) (n+1)) 96 [.fld Va 9 (.lst [.comp (.rng Vc) false none (.tup [.tup [],Wa,Wa])]),.fld Va 10 .dnew,.fld Va 11 (.lst [])] Z H2=some (.next,Z,H5):=(Zi (d:=95) e3).trans ((Zi (d:=94) e4).trans (QB (d:=92) e5))
  have et:evT (tb s) (Qa (tb s) (n+1)) 96 (.cmp .Is Vd (.c .non)) Z H2=some (true,H2):=QQ (d:=94) (Qb (by rw[eρ];rfl)) y_c rfl
  have whole:fin (exs (tb s) (Qa (tb s) (n+1)) 100 b44 Z (hs++[O.ins 10 []]))=some (.non,H7):=(congrArg fin ((Zi (d:=99) e1).trans ((Zi (d:=98) e2).trans ((Zi (d:=97) (Qjg (d:=96) et (by rw[if_pos rfl];exact ei))).trans ((Zi (d:=96) e6).trans (QB (d:=94) e7)))))).trans rfl
  show(match Qa (tb s) (n+2) 44 (.ref hs.length::([.str YA,iU (m:Nat)]++[.non,.non])) (hs++[.ins 10 []])with|some (.non,h2)=>some (U.ref hs.length,h2)|_=>none)=_
  rw[Qe fnL[44] rfl rfl]
  show(match fin (exs (tb s) (Qa (tb s) (n+1)) 100 b44 [sR hs.length,sS YA,sN m,some .non,some .non] (hs++[O.ins 10 []]))with|some (.non,h2)=>some (U.ref hs.length,h2)|_=>none)=_
  rw[<-eρ,whole]
 ·have:=(Xa.mp (st i o q)).1
  exact⟨by lia,by lia,by lia,by lia,by lia,by lia⟩
end
noncomputable def tpP(P:Vp)(g:Hs):Vp:=λi o=>P i o\/∃us,o=.tup us/\g[i]?=some o
noncomputable def mvP(P:Vp)(l:Nat)(y:O):Vp:=λi o=>(i≠l/\P i o)\/(i=l/\o=y)
section
variable {P:Vp}{g1:Hs}{x lf:Nat}
theorem Nd.kp(z:Nd P g x a b lf kl)(k:Kp g g1):Nd (nwP P g g1) g1 x a b lf kl:=by
 obtain⟨R,K,F,L,G,rs,fs,ls,ks,kv,h1,h2,h3,h4,h5,h6,d,lb,kp,kz,np⟩:=z.ex;have lt:∀{p:Nat} {o:O},g[p]?=some o->p<g.length:=λq=>(Xa.mp q).1
 exact⟨⟨R,K,F,L,G,rs,fs,ls,ks,kv,k _ _ h1,k _ _ h2,k _ _ h3,k _ _ h4,k _ _ h5,k _ _ h6,d,lb,λk m=>by obtain⟨p,xs,e1,e2,e3⟩:=kp k m;exact⟨p,xs,e1,.inl e2,e3⟩,kz,λi o q=>q.elim (np i o) λq=>by
  have:=lt h1;have:=lt h2;have:=lt h3;have:=lt h4;have:=lt h5;have:=lt h6;have:=q.1
  lia⟩,λi o q=>q.elim (λq=>k _ _ (z.st _ _ q)) λq=>q.2⟩
def Nd.tp(z:Nd P g x a b lf kl):Nd (tpP P g) g x a b lf kl:=by
 obtain⟨R,K,F,L,G,rs,fs,ls,ks,kv,h1,h2,h3,h4,h5,h6,d,lb,kp,kz,np⟩:=z.ex
 exact⟨⟨R,K,F,L,G,rs,fs,ls,ks,kv,h1,h2,h3,h4,h5,h6,d,lb,λk m=>by obtain⟨p,xs,e1,e2,e3⟩:=kp k m;exact⟨p,xs,e1,.inl e2,e3⟩,kz,λi o q=>q.elim (np i o) λy=>by
  obtain⟨us,e,q⟩:=y
  subst e
  exact⟨Zh q h1 (by simp),Zh q h2 (by simp),Zh q h3 (by simp),Zh q h4 (by simp),Zh q h5 (by simp),Zh q h6 (by simp)⟩⟩,λi o q=>q.elim (z.st _ _) λw=>by obtain⟨_,_,q⟩:=w;exact q⟩
def Nd.mv{y:O}(z:Nd P g x a b lf kl)(pl:P x o):Nd (mvP P x y) (g.set x y) x a b lf kl:=by
 obtain⟨R,K,F,L,G,rs,fs,ls,ks,kv,h1,h2,h3,h4,h5,h6,d,lb,kp,kz,np⟩:=z.ex;obtain⟨n1,n2,n3,n4,n5,n6⟩:=np _ _ pl;have lx:=(Xa.mp (z.st _ _ pl)).1
 exact⟨⟨R,K,F,L,G,rs,fs,ls,ks,kv,by rw[Xe n1];exact h1,by rw[Xe n2];exact h2,by rw[Xe n3];exact h3,by rw[Xe n4];exact h4,by rw[Xe n5];exact h5,by rw[Xe n6];exact h6,d,lb,λk m=>by obtain⟨p,xs,e1,e2,e3,e4⟩:=kp k m;exact⟨p,xs,e1,.inl ⟨e4,e2⟩,e3,e4⟩,kz,λi o q=>q.elim (λq=>np i o q.2) λq=>by rw[q.1];exact⟨n1,n2,n3,n4,n5,n6⟩⟩,λi o q=>q.elim (λq=>by rw[Xe (X8 q.1)];exact z.st _ _ q.2) λq=>by rw[q.1,q.2];exact Xr lx⟩
end
def Ch:Nat->(List Nat->Nat)->List (List Sp)->Prop
 |_,_,[]=>True
 |lf,kl,sps::r=>sps.length<=100/\tkS sps=lf/\(∀k∈fk sps,cR k sps=kl k)/\Ch (gvS sps) (λk=>if k∈fk sps then eR k sps else kl k) r
def RS(s:List U)(h:Hs)(u:U)(sps:List Sp):Prop:=∃p vs,u=.ref p/\h[p]?=some (.lst vs)/\Paired (SO s h) vs sps
noncomputable def mvS(m:Int)(rows:List (List Sp)):List (List U):=[.str QcW,iU m]::(rows.map Z1).flatten
theorem QdK{m:Int}:∀{rows:List (List Sp)},(∀r∈rows,r.length<=100/\∀sp∈r,Gd sp)->((rows.map Z1).flatten).length<=8001*rows.length
 |[],_=>by simp
 |r::rows,h=>by
  obtain⟨a,b⟩:=h r Xm;have c:=QdK (m:=m) (rows:=rows) λx m=>h x (Xi _ m);have d:=YT (ne:=0) (fa:=0) b;simp only[X1,Vs,Xn,Wj,Z1,V0]at c ⊢;lia
def DMp(P:Vp)(u:U)(mv:List U):Prop:=∃p,u=.ref p/\P p (.tup mv)
section
variable {m rp:Nat}{rows:List (List Sp)}
def QmM{h:Hs}{m:Nat}{fs:List (Nat×U)}{us zs:List U}(hi:Z[i]?=some (sR q))(hq:h[q]?=some (.ins c fs))(hC:T.cls[c]?=some C)(hf:C.meths.lookup m=some f)(ha:evs (ev T cf (d+1)) Z es h=some (us,h2))(hz:Qcp T f (us.length+1)=zs):ev T cf (d+2) (.meth m (.var i) es) Z h=cf f (.ref q::(us++zs)) h2:=by
 have e:Yg T m (.ref q) h=some f:=by
  unfold Yg;simp only[hq,hC,hf]
 rw[Qmj,Qb hi,Qm];simp only[e,ha,Qm,hz]
def Qpo(hr:h[rp]?=some (.lst us))(pr:Paired (RS s h) us rows)(ch:Ch m (λw=>0) rows)(hm:m<=100)(lr:rows.length<=20):Pc (tb s) (n+6) 56 [iU (m:Nat),.ref rp] h λv h1=>LM (mvS m rows) v h1/\∃p,v=.ref p/\h.length<=p:=by
 have lu:=Qk pr;obtain⟨h1,e1,k1,zz⟩:=Qos (s:=s) (n:=n+3) (m:=m) (P:=λi o=>h[i]?=some o) hm λi o q=>q;have z1:=zz (h1.length+1);have l1:=k1.len
 have GD:∀r∈rows,∀sp∈r,Gd sp:=λr m=>by
  obtain⟨i,hi⟩:=Wx m;obtain⟨u,_,_,_,_,_,q⟩:=Qdr pr hi;exact Qg9 q
 have CL:∀{lf:Nat} {kl:List Nat->Nat} {rows:List (List Sp)},Ch lf kl rows->∀r∈rows,r.length<=100:=λ{lf kl rows}=>by
  induction rows generalizing lf kl with
  |nil=>intro _ r m;cases m
  |cons x r ih=>
   intro c y m
   rcases Xd.mp m with rfl|m
   ·exact c.1
   ·exact ih c.2.2.2 y m
 have good:∀r∈rows,r.length<=100/\∀sp∈r,Gd sp:=λr m=>⟨CL ch r m,GD r m⟩;obtain⟨h2,eh2⟩:∃h2,h2=h1++[O.tup [.str QcW,iU (m:Nat)]]++[O.lst [.ref h1.length]]:=⟨_,rfl⟩
 have k2:Kp h1 h2:=by rw[eh2];exact kp1.trans kp1
 have hl2:h2[h1.length+1]?=some (.lst [.ref h1.length]):=by rw[eh2];simp
 have ht2:h2[h1.length]?=some (.tup [.str QcW,iU (m:Nat)]):=by rw[eh2];exact Q4 at0
 have z2:=z1.kp k2
 have em:ev (tb s) (Qa (tb s) (n+5)) 98 (.make 10 [.c (.str YA),Va]) [sN m,sR rp,none,none,none] h=some (.ref h.length,h1):=by
  rw[QcT,e_2 y_c (Qb rfl),Qm];exact e1
 have ec:ev (tb s) (Qa (tb s) (n+5)) 97 (.lst [.tup [.c (.str QcW),Va]]) [sN m,sR rp,sR h.length,none,none] h1=some (.ref (h1.length+1),h2):=by
  rw[eh2]
  exact(QcZ (d:=96) (YB (d:=95) y_c (Qb rfl))).trans (by simp)
 refine Qbu (Qe fnL[56] rfl rfl) (Jc ((QD (d:=98) em).trans (QD (d:=97) ec)) (Yw (d:=96) (u:=.ref rp) (L:=us) (λi Z g=>∃y4 Pi b lf kl ms,Z=[sN m,sR rp,sR h.length,some (.ref (h1.length+1)),y4]/\Nd Pi g (h1.length+1) h.length b lf kl/\h1.length+1<g.length/\(∀i o,h[i]?=some o->Pi i o)/\Pi (h1.length+1) (.lst ms)/\Paired (DMp Pi) ms (mvS m (rows.take i))/\b<=1+10000*i/\Ch lf kl (rows.drop i)) (Qb rfl) (λi Z g y=>?_) ⟨none,nwP (λi o=>h[i]?=some o) h1 h2,1,m,λw=>0,[.ref h1.length],rfl,z2,(Xa.mp hl2).1,λi o q=>.inl q,.inr ⟨by lia,hl2⟩,.cons ⟨_,rfl,.inr ⟨Xh _,ht2⟩⟩ .nil,by lia,ch⟩ (λi x hx Z g y=>?_) λρ2 g y=>?_))
 ·obtain⟨_,Pi,_,_,_,_,_,z,_,st,_⟩:=y;exact QL (z.st _ _ (st _ _ hr))
 ·obtain⟨y4,Pi,b,lf,kl,ms,rfl,z,lg,st,pl,pm,lb,chi⟩:=y;obtain⟨sps,ht,p,vs,rfl,hp,so⟩:=Q8 pr hx;have li:=(Xa.mp ht).1
  have hdr:rows.drop i=sps::rows.drop (i+1):=by
   rw[List.drop_eq_getElem_cons li]
   congr 1
   exact(Xa.mp ht).2
  rw[hdr]at chi;obtain⟨c1,c2,c3,c4⟩:=chi;have sP:Paired (SP s Pi) vs sps:=Qi (λw w q=>by obtain⟨p,o,a,b,c⟩:=q;exact⟨p,o,a,st _ _ b,c⟩) so
  obtain⟨g1,P1,e45,lP,w1⟩:=Qq7 (s:=s) (n:=n) lg z (st _ _ hp) sP c1 (by lia) c2 c3
  have zst1:∀i o,h[i]?=some o->g1[i]?=some o:=λi o q=>w1.st _ _ (lP _ _ (st _ _ q))
  obtain⟨_,g2,e57,k57,q,ws,rfl,hq,pw⟩:=Qq0 (s:=s) (n:=n+2) (zst1 _ _ hp) (Qi (λw w q=>q.kp zst1) so) (by lia)
  obtain⟨R,K,F,L,G,rs,fs,ls,ks,kv,ha,_⟩:=z.ex;have x1:ev (tb s) (Qa (tb s) (n+5)) 94 (.meth 7 Vc [Ve]) [sN m,sR rp,sR h.length,some (.ref (h1.length+1)),sR p] g=some (iU (gvS sps:Nat),g1):=(QmM (d:=92) (zs:=[.bl false]) rfl ha rfl rfl (e_1 (Qb rfl)) rfl).trans e45
  have x1':ex (tb s) (Qa (tb s) (n+5)) 95 (.expr (.meth 7 Vc [Ve])) [sN m,sR rp,sR h.length,some (.ref (h1.length+1)),sR p] g=some (.next,[sN m,sR rp,sR h.length,some (.ref (h1.length+1)),sR p],g1):=by rw[Qo,x1,Qm]
  have hl1:=w1.st _ _ (lP _ _ pl);have lms:=Qk pm;have lws:=Qk pw;have bm:=QdK (m:=m) (rows:=rows.take i) λr m=>good r (W9 m);have bw:=YT (ne:=0) (fa:=0) (GD sps (Xp ht));have lms':ms.length=((rows.take i).map Z1).flatten.length+1:=lms
  have lws':ws.length=(Qad 0 0 sps).length+1:=by rw[lws,Z1,Xn];rfl
  rw[X7]at bm
  have x2:=Qgz (T:=tb s) (cf:=Qa (tb s) (n+5)) (d:=91) (i:=3) (Z:=[sN m,sR rp,sR h.length,some (.ref (h1.length+1)),sR p]) (e:=.call 57 [Ve]) rfl hl1 (ZA (d:=91) (e_1 (Qb rfl)) e57) (k57 _ _ hl1) hq (by lia)
  have w2:=(w1.kp k57).tp;have pl2:tpP (nwP P1 g1 g2) g2 (h1.length+1) (.lst ms):=.inl (.inl (lP _ _ pl));have w3:=w2.mv (y:=.lst (ms++ws)) pl2
  have nl:∀{p:Nat} {mv:List U},tpP (nwP P1 g1 g2) g2 p (.tup mv)->p≠h1.length+1:=λ{p mv} q=>Zh (w2.st _ _ q) (w2.st _ _ pl2) (by simp)
  refine⟨_,_,_,rfl,(Zi (d:=95) x1').trans (QB (d:=93) x2),sR p,mvP (tpP (nwP P1 g1 g2) g2) (h1.length+1) (.lst (ms++ws)),b+10000,gvS sps,_,ms++ws,rfl,w3,?_,λi o q=>.inl ⟨?_,.inl (.inl (lP _ _ (st _ _ q)))⟩,.inr ⟨rfl,rfl⟩,?_,by lia,c4⟩
  ·rw[List.length_set];exact(Xa.mp (k57 _ _ hl1)).1
  ·have:=(Xa.mp q).1;lia
  ·rw[QJ ht];show Paired _ _ (_::((rows.take i++[sps]).map Z1).flatten);rw[Wn,List.flatten_append,X1,V1,Vs,List.flatten_nil,Vu,<-List.cons_append];refine Z3 (Qi (λu mv q=>?_) pm) (Qi (λu mv q=>?_) pw)
   ·obtain⟨p,e,q⟩:=q;have:tpP (nwP P1 g1 g2) g2 p (.tup mv):=.inl (.inl (lP _ _ q));exact⟨p,e,.inl ⟨nl this,this⟩⟩
   ·obtain⟨p,e,q⟩:=q;have:tpP (nwP P1 g1 g2) g2 p (.tup mv):=.inr ⟨mv,rfl,q⟩;exact⟨p,e,.inl ⟨nl this,this⟩⟩
 ·obtain⟨y4,Pi,b,lf,kl,ms,rfl,z,lg,st,pl,pm,lb,chi⟩:=y
  rw[X9 (by lia)]at pm
  exact Yd (Jo (Qb rfl) ⟨λi o q=>z.st _ _ (st _ _ q),⟨_,ms,rfl,z.st _ _ pl,Qi (λu mv q=>by obtain⟨p,e,q⟩:=q;exact⟨p,e,z.st _ _ q⟩) pm⟩,_,rfl,by lia⟩)
end
def Sc(u:U):Prop:=(∃i,u=iU i)\/∃y:List Nat,u=.str y/\(y.all λc=>decide (c<128))=true
def Gm(mv:List U):Prop:=mv≠[]/\mv.length<=100/\∀u∈mv,Sc u
section
variable {mv:List U}
def QnH(e:ZY T u h=some xs):okW T (n+1) u h=xs.all λx=>okW T n x h:=by simp only[okW,Qai e,e]
def Qof(e:ZY T u h=some xs)(e':ZY T w h=some ys):eqW T (n+1) u w h=((xs.length==ys.length)&&(xs.zip ys).all λp=>eqW T n p.1 p.2 h):=by simp only[eqW,Qai e,e,Qai e',e']
def QkV(z:Sc u):okW T 19 u h=true/\eqW T 19 u u h=true:=by
 rcases z with⟨i,rfl⟩|⟨y,rfl,a⟩
 ·exact⟨rfl,by show(i==i)=true;simp⟩
 ·exact⟨a,by show(y==y)=true;simp⟩
def Qoe(g:Gm mv)(a:DM h u mv)(b:DM h w mv):Q0 T .NotEq u w h=some false:=by
 obtain⟨p,rfl,ea⟩:=a;obtain⟨q,rfl,eb⟩:=b;have o1:∀{r:Nat},h[r]?=some (.tup mv)->okW T 20 (.ref r) h=true:=λe=>(QnH (n:=19) (Yb e)).trans (Xv.mpr λx m=>(QkV (g.2.2 x m)).1)
 have o3:eqW T 20 (.ref p) (.ref q) h=true:=(Qof (n:=19) (Yb ea) (Yb eb)).trans (by
  rw[Ui,U3,Xv];intro x m
  have:∀{l:List U} {x:U×U},x∈l.zip l->x.1=x.2/\x.1∈l:=λ{l x} m=>by
   induction l with
   |nil=>cases m
   |cons y r ih=>
    rcases Xd.mp (show x∈(y,y)::r.zip r from m)with rfl|m
    ·exact⟨rfl,Xm⟩
    ·exact⟨(ih m).1,Xi _ (ih m).2⟩
  obtain⟨e,m⟩:=this m;rw[<-e]
  exact(QkV (g.2.2 _ m)).2)
 have o4:Jg T (.ref p) (.ref q) h=false:=by simp only[Jg,QU,ea]
 have o5:Qa5 T (.ref p) (.ref q) h=false:=by simp only[Qa5,QU,ea]
 show(eqA T (.ref p) (.ref q) h).map (!·)=_
 have:eqA T (.ref p) (.ref q) h=some true:=by
  simp only[eqA,QfC,o4,o5,o1 ea,o1 eb,o3,T8,Wo,W8,V7]
 rw[this];rfl
def Qhb(hi:Z[i]?=some (sR p))(hp:h[p]?=some (.tup mv))(n:mv≠[]):ev T cf (d+2) (.sl (.var i) (some Wb) none) Z h=some (.ref h.length,h++[.tup (mv.drop 1)]):=by
 rw[QmD,Qb hi,Qm];have l:0<mv.length:=List.length_pos_iff.mpr n
 have e1:ZN mv.length 0 (some 1)=1:=by simp only[ZN];rw[if_neg (by lia)];simp;lia
 have e2:ZN mv.length mv.length (none:Option Int)=mv.length:=rfl
 have e3:Y7 mv (some 1) none=mv.drop 1:=by
  unfold Y7;rw[e1,e2,X9];simp
 simp only[evO,y_c,Qm,slU,hp,e1,e2,e3]
 rw[if_neg (by lia)]
end
noncomputable def l76:List S:=[.ite (.or (.isi Ve .bool) (.not (.isiS 4))) [.ret (.c (.bl false))] []]
noncomputable def t76:List S:=[.ite (.or (.not (.isi Vc .tuple)) (.cmp .NotEq Vc Vd)) [.ret (.c (.bl false))] [],.loop (.name 4) (.seq (.sl Vc (some Wb) none)) l76]
def JV{t:Ty}{b:Bool}(hi:Z[i]?=some (some u))(k:Qeu T t u h=some b):evT T cf (d+3) (.isi (.var i) t) Z h=some (b,h):=by
 rw[QA,Q1,Qb hi,Qm,k];rfl
section

def Qpn(gM:∀mv∈mvs,Gm mv)(l:mvs.length<=900000)(a:LM mvs u h)(b:LM mvs w h):Pc (tb s) (n+1) 76 [u,w] h λv t=>v=.bl true:=by
 obtain⟨p,us,rfl,hp,pu⟩:=a;obtain⟨q,ws,rfl,hq,pw⟩:=b;have lu:=Qk pu;have lw:=Qk pw
 have i1:Qeu (tb s) .list (.ref p) h=some true:=by simp only[Qeu,Qcy,hp];rfl
 have et:evT (tb s) (Qa (tb s) n) 98 (.or (.not (.isi Va .list)) (.cmp .NotEq (.bi .len [Va]) (.bi .len [Vb]))) [sR p,sR q,none,none,none] h=some (false,h):=by
  refine QfQ (d:=97) (c:=false) (h1:=h) (QeL (d:=96) (JV (d:=93) rfl i1)) ?_;rw[if_neg Xs,QoQ (d:=95) (Z9 (d:=94) (Qb rfl) hp) (Z9 (d:=94) (Qb rfl) hq),lu,lw];simp
 have sa:QU (tb s) (.ref p) h=some us:=QL hp;have sb:QU (tb s) (.ref q) h=some ws:=QL hq;have v0:ev (tb s) (Qa (tb s) n) 97 Va [sR p,sR q,none,none,none] h=some (.ref p,h):=Qb rfl;have v1:ev (tb s) (Qa (tb s) n) 97 Vb [sR p,sR q,none,none,none] h=some (.ref q,h):=Qb rfl
 have sr:Zl (tb s) (ev (tb s) (Qa (tb s) n) 97) [sR p,sR q,none,none,none] (.zip Va Vb) h=some (.zipB (QU (tb s) (.ref p) h).isSome (QU (tb s) (.ref q) h).isSome (.ref p) (.ref q),h):=by
  simp only[Zl,v0,v1,Qm,Qjh sa sb];rfl
 refine Qbu (Qe fnL[76] rfl rfl) (Jc (Qcs (d:=97) et rfl) (YV (d:=97) (w:=.zipB (QU (tb s) (.ref p) h).isSome (QU (tb s) (.ref q) h).isSome (.ref p) (.ref q)) (L:=us.zip ws) (im:=λp:U×U=>.two p.1 p.2) (body:=t76) (λi Z g=>∃y2 y3 y4,Z=[sR p,sR q,y2,y3,y4]/\Kp h g) sr (by simp only[Zn,(Qay sa).1,Vy,List.length_zip];lia) (λi Z g z=>?_) ⟨none,none,none,rfl,Kp.refl _⟩ (λi x hx Z g y=>?_) λρ2 h2 y=>?_))
 ·obtain⟨_,_,_,_,k⟩:=z;exact Qi6 sa sb i g k
 ·obtain⟨y2,y3,y4,rfl,k⟩:=y
  have hxi:∃a b,us[i]?=some a/\ws[i]?=some b/\x=(a,b):=by
   rw[show us.zip ws=List.zipWith Prod.mk us ws from rfl,List.getElem?_zipWith]at hx
   cases e1:us[i]? with
   |none=>rw[e1]at hx;cases hx
   |some a=>
    cases e2:ws[i]? with
    |none=>rw[e1,e2]at hx;cases hx
    |some b=>rw[e1,e2]at hx;cases hx;exact⟨a,b,rfl,rfl,rfl⟩
  obtain⟨a,b,ha,hb,rfl⟩:=hxi;obtain⟨mv,hm,da⟩:=Q8 pu ha;obtain⟨mv',hm',db⟩:=Q8 pw hb;rw[hm]at hm';cases hm';have gm:=gM mv (Xp hm);have da:=da.mono k;have db:=db.mono k;obtain⟨pa,rfl,ea⟩:=da
  have i2:Qeu (tb s) .tuple (.ref pa) g=some true:=by simp only[Qeu,Qcy,ea];rfl
  have e2:evT (tb s) (Qa (tb s) n) 95 (.or (.not (.isi Vc .tuple)) (.cmp .NotEq Vc Vd)) [sR p,sR q,sR pa,some b,y4] g=some (false,g):=by
   refine QfQ (d:=94) (c:=false) (h1:=g) (QeL (d:=93) (JV (d:=90) rfl i2)) ?_;rw[if_neg Xs];exact QQ (d:=92) (Qb rfl) (Qb rfl) (Qoe gm ⟨pa,rfl,ea⟩ db)
  suffices z:Xx (tb s) (Qa (tb s) n) 97 t76 [sR p,sR q,sR pa,some b,y4] g λf ρ1 h1=>f=.next/\∃y4,ρ1=[sR p,sR q,sR pa,some b,y4]/\Kp h h1 by
   obtain⟨ρ2,h2,e,y,rfl,kk⟩:=Ys z;exact⟨_,_,h2,rfl,e,_,_,_,rfl,kk⟩
  refine Jc (Qcs (d:=94) e2 rfl) (YV (d:=94) (w:=.seqT (.ref g.length)) (h1:=g++[O.tup (mv.drop 1)]) (L:=mv.drop 1) (im:=Im.one) (body:=l76) (λi Z g'=>∃y4,Z=[sR p,sR q,sR pa,some b,y4]/\g'=g++[O.tup (mv.drop 1)]) (by simp only[Zl,Qhb (T:=tb s) (cf:=Qa (tb s) n) (d:=92) (Z:=[sR p,sR q,sR pa,some b,y4]) (i:=2) rfl ea gm.1,Qm,wkS,Qai (Yb (T:=tb s) (show(g++[O.tup (mv.drop 1)])[g.length]?=some (.tup (mv.drop 1))from at0)),Yb (T:=tb s) (show(g++[O.tup (mv.drop 1)])[g.length]?=some (.tup (mv.drop 1))from at0)];rfl) (by simp only[Zn,Yb (T:=tb s) (show(g++[O.tup (mv.drop 1)])[g.length]?=some (.tup (mv.drop 1))from at0),Vy];lia) (λi Z g' z=>?_) ⟨y4,rfl,rfl⟩ (λi x hx Z g' y=>?_) λρ2 h2 y=>?_)
  ·obtain⟨_,_,rfl⟩:=z;simp only[itm,Yb (T:=tb s) (show(g++[O.tup (mv.drop 1)])[g.length]?=some (.tup (mv.drop 1))from at0),Option.map]
  ·obtain⟨y4,rfl,rfl⟩:=y;have sx:=gm.2.2 x (List.mem_of_mem_drop (Xp hx))
   have e3:evT (tb s) (Qa (tb s) n) 92 (.or (.isi Ve .bool) (.not (.isiS 4))) [sR p,sR q,sR pa,some b,some x] (g++[O.tup (mv.drop 1)])=some (false,g++[O.tup (mv.drop 1)]):=by
    rcases sx with⟨j,rfl⟩|⟨y,rfl,_⟩
    ·exact QfQ (d:=91) (c:=false) (JV (d:=88) rfl rfl) rfl
    ·exact QfQ (d:=91) (c:=false) (JV (d:=88) rfl rfl) rfl
   exact⟨_,_,_,rfl,QB (d:=92) (Qew (d:=91) e3 rfl),some x,rfl,rfl⟩
  ·obtain⟨y4,rfl,rfl⟩:=y;exact Z2 ⟨rfl,_,rfl,k.trans kp1⟩
 ·obtain⟨y2,y3,y4,rfl,k⟩:=y;exact Yd (Jo y_c ⟨k,rfl⟩)
end
def QlI{sps:List Sp}:∀k∈fk sps,(∃sp∈sps,.fr k∈sp.ts)\/(∃sp∈sps,k∈sp.es):=
 QW (I:=λb=>∀k∈b,(∃sp∈sps,.fr k∈sp.ts)\/(∃sp∈sps,k∈sp.es)) (λsp m b h=>QW (I:=λb=>∀k∈b,(∃sp∈sps,.fr k∈sp.ts)\/(∃sp∈sps,k∈sp.es)) (λw mw b h=>by
  unfold fkE;split
  ·exact h
  ·intro k mk
   rcases pk_mem.mp mk with q|q
   ·exact h k q
   ·exact .inr ⟨sp,m,q▸mw⟩) (QW (I:=λb=>∀k∈b,(∃sp∈sps,.fr k∈sp.ts)\/(∃sp∈sps,k∈sp.es)) (λt mt b h=>by
  cases t with
  |fr w=>
   intro k mk
   rcases pk_mem.mp mk with q|q
   ·exact h k q
   ·exact .inl ⟨sp,m,q▸mt⟩
  |_=>exact h) h)) (λz m=>by cases m)
section

def Qjv(h:Mk m)(hb:b∈[119,120,121,122]):cS [b] (spm m)=(if m=[102,b]then 1 else 0)/\(spm m).es.count [b]=(if m=[104,b]then 1 else 0)/\((.fr [b]∈(spm m).ts)↔m=[102,b])/\([b]∈(spm m).es↔m=[104,b]):=by
 have nz:∀l:List Ti,(∀t∈l,∃a s x,t=Ti.nw a s x)->(l.map (cT [b])).sum=0/\Ti.fr [b]∉l:=λl g=>⟨by
  induction l with
  |nil=>rfl
  |cons t l ih=>
   obtain⟨a,s,x,rfl⟩:=g t Xm;rw[X1,Uc,ih λt m=>g t (Xi _ m)]
   rfl,λq=>by obtain⟨_,_,_,e⟩:=g _ q;exact nomatch e⟩
 cases h with
 |bare h=>
  simp only[Xd,Xf,Xy]at h hb
  rcases h with rfl|rfl|rfl|rfl|rfl<;>rcases hb with rfl|rfl|rfl|rfl<;>refine⟨rfl,rfl,?_,?_⟩<;>simp[spm,Zt]
 |lean h h2 h3=>
  have e:b≠120\/True:=.inr trivial;simp only[Xd,Xf,Xy]at h2;rename_i a b' c
  have e:spm [a,b',c]=⟨b'-48,[.nw (lnP (b'-48) c) (sd a) 0],[]⟩:=if_neg (by lia)
  rw[e];simp[cS,cT]
 |grow h h2=>
  rename_i a b';have e:spm [a,120,b']=⟨1,grT (b'-48) (sd a),[]⟩:=rfl;rw[e]
  obtain⟨n1,n2⟩:=nz (grT (b'-48) (sd a)) λt m=>by
   obtain⟨i,_,rfl⟩:=Wr.mp m;exact⟨_,_,_,rfl⟩
  refine⟨by rw[cS,n1];simp,by simp,⟨λq=>absurd q n2,λq=>by simp at q⟩,by simp⟩
 |cross h h2 h3 h4=>
  rename_i a b' c e';have e:spm [a,b',c,e']=⟨(b'-48)+(e'-48),crA (b'-48) (e'-48) (sd a) (lf c)++crB (b'-48) (sd a) (lf c),[]⟩:=rfl;rw[e]
  obtain⟨n1,n2⟩:=nz (crA (b'-48) (e'-48) (sd a) (lf c)++crB (b'-48) (sd a) (lf c)) λt m=>by
   rcases Wp.mp m with m|m<;>(obtain⟨i,_,rfl⟩:=Wr.mp m;exact⟨_,_,_,rfl⟩)
  refine⟨by rw[cS,n1];simp,by simp,⟨λq=>absurd q n2,λq=>by simp at q⟩,by simp⟩
 |keep h h2=>
  rename_i a b';simp only[Xd,Xf,Xy]at h
  rcases h with rfl|rfl
  ·have e:spm [104,b']=⟨1,[],[[b']]⟩:=rfl;rw[e];by_cases q:b'=b
   ·subst q;simp[cS,cT]
   ·have q':b≠b':=λz=>q z.symm;simp[cS,cT,q,q']
  ·have e:spm [102,b']=⟨0,[.fr [b']],[]⟩:=rfl;rw[e];by_cases q:b'=b
   ·subst q;simp[cS,cT]
   ·have q':b≠b':=λz=>q z.symm;simp[cS,cT,q,q']
end
section

theorem Qoy(hb:b∈[119,120,121,122]):∀{row:List (List Nat)},(∀m∈row,Mk m)->cR [b] (row.map spm)=row.count [102,b]/\eR [b] (row.map spm)=row.count [104,b]
 |[],_=>⟨rfl,rfl⟩
 |m::r,h=>by
  obtain⟨i1,i2⟩:=Qoy hb (row:=r) λx q=>h x (Xi _ q);obtain⟨a1,a2,_⟩:=Qjv (h m Xm) hb;simp only[cR,eR,X1,Uc,U9,Ww]at i1 i2 ⊢;rw[i1,i2,a1,a2];lia
def Qpg(h:∀m∈row,Mk m)(hb:b∈[119,120,121,122]):[b]∈fk (row.map spm)↔[102,b]∈row\/[104,b]∈row:=by
 constructor
 ·intro q
  rcases QlI _ q with⟨sp,m,w⟩|⟨sp,m,w⟩
  ·obtain⟨x,mx,rfl⟩:=Wr.mp m;exact .inl (((Qjv (h x mx) hb).2.2.1.mp w)▸mx)
  ·obtain⟨x,mx,rfl⟩:=Wr.mp m;exact .inr (((Qjv (h x mx) hb).2.2.2.mp w)▸mx)
 ·rintro(q|q)
  ·exact QlJ (List.mem_map_of_mem q) ((Qjv (h _ q) hb).2.2.1.mpr rfl)
  ·exact QlK (List.mem_map_of_mem q) ((Qjv (h _ q) hb).2.2.2.mpr rfl) (by
    simp only[Xd,Xf,Xy]at hb
    rcases hb with rfl|rfl|rfl|rfl<;>decide)
end
def Qgc{m:Nat}:mvS (m:Int) (rows.map λr=>r.map spm)=Qav (m:Int) rows:=by
 simp[mvS,Qav,Jl,Function.comp_def]
noncomputable def klS(row:List (List Nat))(kl:List Nat->Nat)(k:List Nat):Nat:=if 102::k∈row\/104::k∈row then row.count (104::k)else kl k
structure Fi(lf:Nat)(kl:List Nat->Nat)(row:List (List Nat)):Prop where
 am:∀m∈row,Mk m
 ln:row.length<=100
 tk:tkS (row.map spm)=lf
 ft:∀k,102::k∈row\/104::k∈row->row.count (102::k)=kl k
def FiS:Nat->(List Nat->Nat)->List (List (List Nat))->Prop
 |_,_,[]=>True
 |lf,kl,row::r=>Fi lf kl row/\FiS (gvS (row.map spm)) (klS row kl) r
section
variable {k:List Nat}
def Qk3(ha:a=102\/a=104)(h:Mk (a::k)):Kp1 k:=by
 cases h with
 |bare h=>
  simp only[Xd,Xf,Xy]at h;lia
 |lean h=>
  simp only[Xd,Xf,Xy]at h;lia
 |grow h=>
  simp only[Xd,Xf,Xy]at h;lia
 |cross h=>
  simp only[Xd,Xf,Xy]at h;lia
 |keep _ hb=>exact⟨_,hb,rfl⟩
def QbL(h:∀m∈row,Mk m):∀sp∈row.map spm,Gd sp:=λsp m=>by
 obtain⟨x,hx,rfl⟩:=Wr.mp m;exact Qim (h x hx)
def QfW(h:∀m∈row,Mk m)(q:102::k∈row\/104::k∈row):Kp1 k:=q.elim (λq=>Qk3 (.inl rfl) (h _ q)) λq=>Qk3 (.inr rfl) (h _ q)
def Qit(h:∀m∈row,Mk m):k∈fk (row.map spm)↔102::k∈row\/104::k∈row:=by
 constructor
 ·intro q;obtain⟨b,hb,rfl⟩:=QfA (QbL h) k q;exact(Qpg h hb).mp q
 ·intro q;obtain⟨b,hb,rfl⟩:=QfW h q;exact(Qpg h hb).mpr q
theorem Qoq:∀{rows:List (List (List Nat))} {lf:Nat} {kl:List Nat->Nat},FiS lf kl rows->Ch lf kl (rows.map λr=>r.map spm)
 |[],_,_,_=>trivial
 |row::r,lf,kl,⟨f,g⟩=>by
  refine⟨by rw[Xz];exact f.ln,f.tk,λk q=>?_,?_⟩
  ·obtain⟨b,hb,rfl⟩:=QfA (QbL f.am) k q;rw[(Qoy hb f.am).1];exact f.ft _ ((Qit f.am).mp q)
  ·have e:(λk=>if k∈fk (row.map spm)then eR k (row.map spm)else kl k)=klS row kl:=by
    funext k
    unfold klS;by_cases q:k∈fk (row.map spm)
    ·obtain⟨b,hb,rfl⟩:=QfA (QbL f.am) k q;rw[if_pos q,if_pos ((Qit f.am).mp q),(Qoy hb f.am).2]
    ·rw[if_neg q,if_neg λz=>q ((Qit f.am).mpr z)]
   show Ch _ (λk=>if k∈fk (row.map spm)then eR k (row.map spm)else kl k) _;rw[e];exact Qoq g
end
structure Rb(lies:Nat)(kl:List Nat->Nat)(row:List (List Nat))(left given:Nat):Prop where
 am:∀m∈row,Mk m
 tk:tkS (row.map spm)+left=lies
 gv:gvS (row.map spm)=given
 le:given+left<=12
 ft:∀k,102::k∈row\/104::k∈row->row.count (102::k)=kl k
section

def Rb.nil(h:lies<=12):Rb lies kl [] lies 0:=⟨λz m=>(by cases m),by simp[tkS],rfl,by lia,λk q=>by simp at q⟩
def Rb.plain(z:Rb lies kl row left given)(l:row.length+left<=100):Fi lies kl (row++List.replicate left [107]):=by
 refine⟨λm q=>?_,by rw[Xn,Vm];exact l,?_,λk q=>?_⟩
 ·rcases Wp.mp q with q|q
  ·exact z.am m q
  ·rw[Vq q]
   exact .bare (by simp)
 ·have:=z.tk;simp only[tkS,Wn,W4,U0,Ua]at this ⊢;rw[Ut];have e:(Sp.tk (spm [107]))=1:=rfl;rw[e];lia
 ·have n:∀a,a=102\/a=104->(a::k)∉List.replicate left [107]:=λa ha q=>by
   have:=Vq q;simp at this;lia
  rw[V4,V6 (n 102 (.inl rfl)),Td];refine z.ft k (q.imp (λq=>?_) λq=>?_)
  ·exact(Wp.mp q).resolve_right (n 102 (.inl rfl))
  ·exact(Wp.mp q).resolve_right (n 104 (.inr rfl))
def Rb.gvk(z:Rb lies kl row left given):gvS ((row++List.replicate left [107]).map spm)=given+left:=by
 have:=z.gv;simp only[gvS,Wn,W4,U0,Ua]at this ⊢;rw[Ut];have e:(spm [107]).ts.length=1:=rfl;rw[e];lia
def Rb.step(z:Rb lies kl row left given)(hm:Mk m)(ht:(spm m).tk<=left)(hg:given+n*(spm m).ts.length+(left-(spm m).tk)<=12)(n1:n=1\/(spm m).tk=0)(f:∀k,m=102::k->m∉row/\n=kl k)(g:∀k,m=104::k->kl k=0\/102::k∈row):Rb lies kl (row++List.replicate n m) (left-(spm m).tk) (given+n*(spm m).ts.length):=by
 refine⟨λx q=>?_,?_,?_,by lia,λk q=>?_⟩
 ·rcases Wp.mp q with q|q
  ·exact z.am x q
  ·rw[Vq q];exact hm
 ·have:=z.tk;simp only[tkS,Wn,W4,U0,Ua]at this ⊢;rw[Ut]
  rcases n1 with rfl|e
  ·simp only[Nat.one_mul];lia
  ·rw[e];lia
 ·have:=z.gv;simp only[gvS,Wn,W4,U0,Ua]at this ⊢;rw[Ut];lia
 ·rw[V4];by_cases e:m=102::k
  ·obtain⟨a,b⟩:=f k e;rw[<-e,V6 a,List.count_replicate_self,W5];exact b
  ·rw[V6 (a:=102::k) (l:=List.replicate n m) λq=>e (Vq q).symm,Td]
   rcases q with q|q
   ·rcases Wp.mp q with q|q
    ·exact z.ft k (.inl q)
    ·exact absurd (Vq q).symm e
   ·rcases Wp.mp q with q|q
    ·exact z.ft k (.inr q)
    ·rcases g k (Vq q).symm with g|g
     ·by_cases i:102::k∈row
      ·exact z.ft k (.inl i)
      ·rw[V6 i,g]
     ·exact z.ft k (.inl g)
end
def KD(P:Vp)(p:Nat)(kl:List Nat->Nat):Prop:=∃ks v,P p (.dic (dS ks v))/\ks.length<=4/\(∀k∈ks,∃q vs,v k=.ref q/\P q (.lst vs)/\vs.length=kl k)/\∀k,k∉ks->kl k=0
noncomputable abbrev inH(h:Hs):Vp:=λi o=>h[i]?=some o
section
variable {k:List Nat}{o a:E}{P P':Vp}
def KD.mono(z:KD P p kl)(k:∀i o,P i o->P' i o):KD P' p kl :=
 let ⟨ks,v,a,b,c,e⟩:=z
 ⟨ks,v,k _ _ a,b,λx m=>by obtain⟨q,vs,c1,c2,c3⟩:=c x m;exact⟨q,vs,c1,k _ _ c2,c3⟩,e⟩
def KD.nil(e:P p (.dic [])):KD P p λz=>0:=⟨[],λz=>.non,e,by simp,λz m=>(by cases m),λz z=>rfl⟩
def Qmk:ev T cf (d+1) (.lst []) Z h=some (.ref h.length,h++[.lst []]):=by rw[Qw];rfl
def QdS(z:KD P p kl)(hP:∀i o,P i o->h[i]?=some o)(vo:ev T cf (d+1) o Z h=some (.ref p,h))(va:ev T cf (d+1) a Z h=some (.str k,h)):∃q vs,ev T cf (d+2) (.bm .get o [a,.lst []]) Z h=some (.ref q,h++[.lst []])/\(h++[O.lst []])[q]?=some (.lst vs)/\vs.length=kl k/\(P q (.lst vs)\/h.length<=q):=by
 obtain⟨ks,v,e,l,f,g⟩:=z;have ee:(h++[O.lst []])[p]?=some (.dic (dS ks v)):=kp1 _ _ (hP _ _ e);have x:=QeC vo (hP _ _ e) (e_2 va Qmk) (Qil (k:=k) (u:=.ref h.length) ee);by_cases m:k∈ks
 ·obtain⟨q,vs,c1,c2,c3⟩:=f k m;rw[if_pos m,c1]at x;exact⟨q,vs,x,kp1 _ _ (hP _ _ c2),c3,.inl c2⟩
 ·rw[if_neg m]at x;exact⟨h.length,[],x,at0,(g k m).symm,.inr (Xh _)⟩
def Qlk(z:KD (inH h) p kl)(vo:ev T cf (d+1) o Z h=some (.ref p,h))(va:ev T cf (d+1) a Z h=some (.str k,h)):ev T cf (d+3) (.bi .len [.bm .get o [a,.lst []]]) Z h=some (iU (kl k:Nat),h++[.lst []]):=by
 obtain⟨q,vs,e,f,g,_⟩:=QdS z (λy y x=>x) vo va;rw[Z9 e f,g]
def QnX(z:KD (inH h) p kl)(vo:ev T cf (d+1) o Z h=some (.ref p,h))(va:ev T cf (d+1) a Z h=some (.str k,h)):∃h1,evT T cf (d+4) (.cmp .NotEq (.bm .get o [a,.lst []]) (.lst [])) Z h=some (decide (kl k≠0),h1)/\Kp h h1:=by
 obtain⟨q,vs,e,f,g,_⟩:=QdS z (λy y x=>x) vo va;refine⟨_,QQ (d:=d+2) e Qmk ?_,kp1.trans kp1⟩;have x:=Qix (T:=T) (kp1 (o:=.lst []) _ _ f) (at0 (hs:=h++[.lst []]) (r:=[]));simp only[Q0,x,Option.map];rw[<-g];cases vs<;>simp
end
section

def Qlo:inU (.str m) (row.map U.str)=some (decide (m∈row)):=by
 have a:(Y4 (.str m)&&(row.map U.str).all Y4)=true:=by
  simp[Y4]
 unfold inU;rw[if_pos a]
 congr 1
 induction row with
 |nil=>rfl
 |cons x r ih=>
  have:=ih (by simp[Y4])
  simp only[X1,V5,this,Xd];by_cases e:m=x
  ·simp[eqF,e]
  ·have e':x≠m:=λz=>e z.symm;simp[eqF,e,e']
def QdX(hp:h[p]?=some (.lst (row.map U.str))):Q0 T .In (.str m) (.ref p) h=some (decide (m∈row))/\Q0 T .NotIn (.str m) (.ref p) h=some (!decide (m∈row)):=by
 have e:ZJ T (.ref p) h=some (row.map U.str):=by simp only[ZJ,hp]
 refine⟨?_,?_⟩
 ·simp only[Q0,e,Qlo]
 ·simp only[Q0,e,Qlo];rfl
def Qoo:(row.map U.str).countP (λx=>eqW T 20 x (.str m) h)=row.count m:=by
 have q:∀x:List Nat,eqW T 20 (.str x) (.str m) h=decide (x=m):=λx=>by rw[show(20:Nat)=19+1 from rfl];simp[eqW,QU,ZY,eqB];by_cases e:x=m<;>simp[e]
 induction row with
 |nil=>rfl
 |cons x r ih=>
  rw[X1,List.countP_cons,ih,q,U9];simp
def QiE(hp:h[p]?=some (.lst (row.map U.str)))(hr:∀x∈row,∀c∈x,c<128)(hm:∀c∈m,c<128):bmU T .count (.ref p) [.str m] h=some (iU (row.count m:Nat),h):=by
 have o:∀x:List Nat,(∀c∈x,c<128)->okW T 20 (.str x) h=true:=λx z=>by rw[show(20:Nat)=19+1 from rfl];simpa[okW,QU,ZY]using z
 have a:((row.map U.str).all λx=>okW T 20 x h)=true:=Xv.mpr λu m=>by
  obtain⟨x,hx,rfl⟩:=Wr.mp m;exact o x (hr x hx)
 simp only[bmU,hp,bmL]
 rw[if_pos (by rw[a,o m hm];rfl),Qoo]
def Qho(ha:h[a]?=some (.lst [u]))(l:n<=1000):opU .Mult (.ref a) (iU (n:Nat)) h=some (.ref h.length,h++[.lst (List.replicate n u)]):=by
 have e:(List.replicate n [u]).flatten=List.replicate n u:=by simp
 simp only[opU,Qnf,ha,iU]
 rw[if_pos ⟨by lia,by lia,by simp;lia⟩,Int.toNat_natCast,e]
end
def Qk4(h:Mk m):∀c∈m,c<128:=by
 cases h<;>simp only[Xd,Xf,Xy]at *<;>intro c hc<;>lia
structure Kw(G:Vp)(hb:Hs)(l:Nat)(ks:List (List Nat))(f:List Nat->Nat)(hs:Hs):Prop where
 st:∀(p:Nat) o,p≠l->hb[p]?=some o->hs[p]?=some o
 it:∃v,hs[l]?=some (.dic (dS ks v))/\∀k∈ks,∃q vs,v k=.ref q/\hs[q]?=some (.lst vs)/\vs.length=f k/\G q (.lst vs)
section
variable {G P:Vp}{f:List Nat->Nat}{k:List Nat}
def Kw.kp(z:Kw G hb l ks f hs)(k:Kp hs h1):Kw G hb l ks f h1 :=
 let ⟨v,a,b⟩:=z.it
 ⟨λp o n e=>k _ _ (z.st p o n e),v,k _ _ a,λx m=>by obtain⟨q,vs,c1,c2,c3⟩:=b x m;exact⟨q,vs,c1,k _ _ c2,c3⟩⟩
def Kw.put(z:Kw G hb l ks f hs)(hq:hs[q]?=some (.lst vs))(hl:vs.length=n)(gq:G q (.lst vs))(b:ks.length<=100):∃h2,QfZ (.ref l) (.str k) (.ref q) hs=some h2/\Kw G hb l (pk ks k) (λx=>if x=k then n else f x) h2:=by
 obtain⟨v,a,c⟩:=z.it
 refine⟨_,QbO a (by lia),λp o n e=>by rw[Xe (X8 n)];exact z.st p o n e,up v k (.ref q),Xr (Xa.mp a).1,λx m=>?_⟩
 have nl:∀{p:Nat} {us:List U},hs[p]?=some (.lst us)->l≠p:=λe i=>by
  rw[i,e]at a;cases a
 by_cases e:x=k
 ·subst e
  exact⟨q,vs,by simp[up],by rw[Xe (nl hq)];exact hq,by rw[if_pos rfl];exact hl,gq⟩
 ·obtain⟨q',us,c1,c2,c3,c4⟩:=c x ((pk_mem.mp m).resolve_right e)
  exact⟨q',us,by rw[Qml e];exact c1,by rw[Xe (nl c2)];exact c2,by rw[if_neg e];exact c3,c4⟩
def Kw.kd(z:Kw G hb l ks f hs)(b:ks.length<=4)(g:∀k,k∉ks->f k=0)(e:∀{o},hs[l]?=some o->P l o)(e':∀{q o},G q o->hs[q]?=some o->P q o):KD P l f :=
 let ⟨v,a,c⟩:=z.it
 ⟨ks,v,e a,b,λk m=>by obtain⟨q,vs,c1,c2,c3,c4⟩:=c k m;exact⟨q,vs,c1,e' c4 c2,c3⟩,g⟩
end
noncomputable def kps:List (List Nat):=[[119],[120],[121],[122]]
noncomputable def Qpt:List S:=[.put Vc Vd (.bm .get Vb [Vd,.lst []]),.ite (.or (.cmp .In (.op .Add (.c (.str [104])) Vd) Va) (.cmp .In (.op .Add (.c (.str [102])) Vd) Va)) [.put Vc Vd (.op .Mult (.lst [.op .Add (.c (.str [104])) Vd]) (.bm .count Va [.op .Add (.c (.str [104])) Vd]))] []]
def Qlc:∀{i a:Nat},[119,120,121,122][i]?=some a->a∈[119,120,121,122]/\pk (kps.take i) [a]=kps.take (i+1)/\i<4
 |0,_,rfl=>by decide
 |1,_,rfl=>by decide
 |2,_,rfl=>by decide
 |3,_,rfl=>by decide
 |i+4,_,h=>by simp at h
section
variable {G:Vp}{f g:List Nat->Nat}{o:E}
def Kw.cg(z:Kw G hb l ks f hs)(e:∀k∈ks,f k=g k):Kw G hb l ks g hs :=
 let ⟨v,a,b⟩:=z.it
 ⟨z.st,v,a,λk m=>by obtain⟨q,vs,c1,c2,c3,c4⟩:=b k m;exact⟨q,vs,c1,c2,c3.trans (e k m),c4⟩⟩
def QjC{j:Nat}{x k:List Nat}(hi:Z[i]?=some (sR p))(hj:Z[j]?=some (sS k))(hp:h[p]?=some (.lst (row.map U.str)))(lx:x.length<=10)(lk:k.length<=10):evT T cf (d+4) (.cmp .In (.op .Add (.c (.str x)) (.var j)) (.var i)) Z h=some (decide (x++k∈row),h):=
 QQ (d:=d+2) (Zu (d:=d+1) y_c (Qb hj) (ZE (by lia))) (Qb hi) (QdX hp).1
def QmO(vo:ev T cf d o Z h=some (.ref p,h))(hp:h[p]?=some (.lst (row.map U.str)))(ve:ev T cf d e Z h=some (.str m,h))(hr:∀x∈row,∀c∈x,c<128)(hm:∀c∈m,c<128):ev T cf (d+1) (.bm .count o [e]) Z h=some (iU (row.count m:Nat),h):=by
 have rc:Qa8 .count (.ref p) h=true:=by simp only[Qa8,hp];rfl
 rw[ZC,vo,Qm,if_pos rc];simp only[evs,ve,Qm,QiE hp hr hm]
end
section
variable {P:Vp}
def Qle(am:∀m∈row,Mk m)(zz:∀k,k∉kps->kl k=0):∀k,k∉kps->klS row kl k=0:=λk hk=>by
 have n1:¬(102::k∈row\/104::k∈row):=λc=>by
  obtain⟨b,hb,rfl⟩:=QfW am c;simp only[Xd,Xf,Xy]at hb
  rcases hb with rfl|rfl|rfl|rfl<;>exact hk (by decide)
 rw[klS,if_neg n1];exact zz k hk
def QqS(hr:h[p]?=some (.lst (row.map U.str)))(z:KD P q kl)(hP:∀i o,P i o->h[i]?=some o)(zz:∀k,k∉kps->kl k=0)(am:∀m∈row,Mk m)(ln:row.length<=1000):Pc (tb s) (n+1) 72 [.ref p,.ref q] h λv h1=>v=.ref h.length/\KD (nwP P h h1) h.length (klS row kl):=by
 have g0:Kw (λq o=>P q o\/h.length<=q) (h++[O.dic []]) h.length [] (klS row kl) (h++[O.dic []]):=⟨λu u u a=>a,λu=>.non,at0,λu m=>by cases m⟩
 have base:∀{ks f g},Kw (λq o=>P q o\/h.length<=q) (h++[O.dic []]) h.length ks f g->Kp h g:=λz p o a=>z.st p o (by have:=(Xa.mp a).1;lia) (kp1 _ _ a)
 refine Qbu (Qe fnL[72] rfl rfl) (Jc (QD (d:=98) QbB) (YV (d:=97) (w:=.strW [119,120,121,122]) (L:=[119,120,121,122]) (im:=λc=>.one (.str [c])) (body:=Qpt) (λi Z g=>∃y3,Z=[sR p,sR q,sR h.length,y3]/\Kw (λq o=>P q o\/h.length<=q) (h++[O.dic []]) h.length (kps.take i) (klS row kl) g) (by simp only[Zl,y_c,Qm,wkS];rfl) (by simp[Zn]) (λi Z hs z=>rfl) ⟨none,rfl,g0⟩ (λi a ha Z g y=>?_) λρ2 h2 y=>?_))
 ·obtain⟨y3,rfl,w⟩:=y;obtain⟨hb,ep,li⟩:=Qlc ha;have K0:=base w
  have lk:(kps.take i).length<=4:=by rw[X7];simp[kps];lia
  suffices x:Xx (tb s) (Qa (tb s) n) 97 Qpt [sR p,sR q,sR h.length,some (.str [a])] g λf ρ1 h1=>f=.next/\∃y3,ρ1=[sR p,sR q,sR h.length,y3]/\Kw (λq o=>P q o\/h.length<=q) (h++[O.dic []]) h.length (kps.take (i+1)) (klS row kl) h1 by
   obtain⟨ρ2,h2,e,y⟩:=Ys x;exact⟨_,ρ2,h2,rfl,e,y⟩
  obtain⟨j,vs,e1,f1,l1,gj⟩:=QdS (T:=tb s) (cf:=Qa (tb s) n) (d:=93) (o:=Vb) (a:=Vd) (Z:=[sR p,sR q,sR h.length,some (.str [a])]) z (λi o x=>K0 _ _ (hP i o x)) (Qb rfl) (Qb rfl)
  obtain⟨h2,e2,w2⟩:=(w.kp kp1).put (k:=[a]) f1 l1 (gj.imp id λx=>X3 K0.len x) (by lia)
  refine Qkc (d:=95) e1 (Qb rfl) (Qb rfl) e2 ?_;have K2:=base w2
  have hr2:h2[p]?=some (.lst (row.map U.str)):=by
   refine w2.st _ _ ?_ (kp1 _ _ hr);have:=(Xa.mp hr).1;lia
  have t1:evT (tb s) (Qa (tb s) n) 94 (.or (.cmp .In (.op .Add (.c (.str [104])) Vd) Va) (.cmp .In (.op .Add (.c (.str [102])) Vd) Va)) [sR p,sR q,sR h.length,some (.str [a])] h2=some (decide (104::[a]∈row\/102::[a]∈row),h2):=by
   refine QfQ (d:=93) (QjC (d:=89) (x:=[104]) (k:=[a]) rfl rfl hr2 (by simp) (by simp)) ?_
   by_cases c:104::[a]∈row
   ·simp[c]
   ·have c':[104]++[a]∉row:=c
    rw[if_neg (by simpa using c),QjC (d:=89) (x:=[102]) (k:=[a]) rfl rfl hr2 (by simp) (by simp)]
    simp[c]
  refine Qke (d:=94) t1 ?_;by_cases c:104::[a]∈row\/102::[a]∈row
  ·rw[if_pos (Wt c)];have ch:=λx mx=>Qk4 (am x mx)
   have c1:ev (tb s) (Qa (tb s) n) 90 (.op .Add (.c (.str [104])) Vd) [sR p,sR q,sR h.length,some (.str [a])] h2=some (.str ([104]++[a]),h2):=Zu (d:=89) y_c (Qb rfl) (ZE (x:=[104]) (y:=[a]) (by simp))
   have bc:row.count [104,a]<=1000:=X3 Ue ln
   have c2:ev (tb s) (Qa (tb s) n) 92 (.op .Mult (.lst [.op .Add (.c (.str [104])) Vd]) (.bm .count Va [.op .Add (.c (.str [104])) Vd])) [sR p,sR q,sR h.length,some (.str [a])] h2=some (.ref (h2++[O.lst [.str [104,a]]]).length,h2++[O.lst [.str [104,a]]]++[.lst (List.replicate (row.count [104,a]) (.str [104,a]))]):=
    Zu (d:=91) (QcZ (d:=90) c1) (QmO (d:=90) (m:=[104,a]) (Qb rfl) (kp1 _ _ hr2) (Zu (d:=89) y_c (Qb rfl) (ZE (x:=[104]) (y:=[a]) (by simp))) ch (by
     simp only[Xd,Xf,Xy]at hb ⊢;intro c hc
     lia)) (Qho at0 bc)
   obtain⟨h3,e3,w3⟩:=((w2.kp kp1).kp kp1).put (k:=[a]) (q:=(h2++[O.lst [.str [104,a]]]).length) (n:=row.count [104,a]) at0 (Vm ..) (.inr (by
    have:=K2.len;rw[Xn]
    lia)) (by
    have:=Qaq (ks:=kps.take i) (k:=[a])
    lia)
   refine Qkc (d:=92) c2 (Qb rfl) (Qb rfl) e3 (Z2 ?_);refine Z2 ⟨rfl,_,rfl,?_⟩;rw[<-ep];have em:pk (pk (kps.take i) [a]) [a]=pk (kps.take i) [a]:=Qf4 (pk_mem.mpr (.inr rfl));rw[em]at w3;refine w3.cg λk u=>?_;by_cases e:k=[a]
   ·subst e;rw[if_pos rfl,klS,if_pos c.symm]
   ·rw[if_neg e,if_neg e]
  ·rw[if_neg (by simpa using c)]
   refine Z2 (Z2 ⟨rfl,_,rfl,?_⟩);rw[<-ep];refine w2.cg λk u=>?_;by_cases e:k=[a]
   ·subst e;rw[if_pos rfl,klS,if_neg λq=>c q.symm]
   ·rw[if_neg e]
 ·obtain⟨y3,rfl,w⟩:=y
  exact Yd (Jo (Qb rfl) ⟨base w,rfl,w.kd (by simp[kps]) (Qle am zz) (λe=>.inr ⟨Xh _,e⟩) λg e=>g.imp id λl=>⟨l,e⟩⟩)
end
def Nc(f:Fl):Prop:=f=.next\/f=.cont
theorem Qpf{T:Tbl}{w:Wk}{t:Tg}{body:Ex}(I:Nat->Rho->Hs->Prop){n:Nat}
  (st:∀i,i<n->∀Z hs,I i Z hs->∃x ρ' f ρ2 h2,itm T w i hs=some (some x)/\tgt t x Z hs=some ρ'/\body ρ' hs=some (f,ρ2,h2)/\Nc f/\I (i+1) ρ2 h2)
  (en:∀Z hs,I n Z hs->itm T w n hs=some none):
  ∀(m i k:Nat) (Z:Rho) (hs:Hs),n=i+m->m<k->I i Z hs->∃ρ2 h2,QaH T w t body k i Z hs=some (.next,ρ2,h2)/\I n ρ2 h2
 |m,i,0,Z,hs,e,l,h=>by lia
 |0,i,k+1,Z,hs,e,l,h=>by
  have e':n=i:=by lia
  subst e'
  exact⟨Z,hs,by simp only[QaH,en Z hs h],h⟩
 |m+1,i,k+1,Z,hs,e,l,h=>by
  obtain⟨x,ρ',f,ρ1,h1,a,b,c,nf,d⟩:=st i (by lia) Z hs h
  obtain⟨ρ2,h2,g1,g2⟩:=Qpf I st en m (i+1) k ρ1 h1 (by lia) (by lia) d
  rcases nf with rfl|rfl
  ·exact⟨ρ2,h2,by simp only[QaH,a,b,c,g1],g2⟩
  ·exact⟨ρ2,h2,by simp only[QaH,a,b,c,g1],g2⟩
section
variable {r:List S}{t:Tg}
def Qkd(I:Nat->Rho->Hs->Prop)(v:ev T cf d e Z h=some (u,h1))(hl:∀i Z hs,I i Z hs->QU T u hs=some L)(h0:I 0 Z h1)
  (st:∀i x,L[i]?=some x->∀Z hs,I i Z hs->∃ρ',tgt t (.one x) Z hs=some ρ'/\Xx T cf d body ρ' hs λf ρ2 h2=>Nc f/\I (i+1) ρ2 h2) (k:∀ρ2 h2,I L.length ρ2 h2->Xx T cf (d+1) r ρ2 h2 Q):Xx T cf (d+2) (.loop t (.seq e) body::r) Z h Q:=by
 have s:=hl _ _ _ h0
 obtain⟨ρ2,h2,a,b⟩:=Qpf (T:=T) (w:=.seqL u) (t:=t) (body:=exs T cf d body) I (n:=L.length) (λi hi Z hs z=>by
  obtain⟨ρ',b,f,ρ2,h2,c,x,y⟩:=st i _ (Xk hi) Z hs z
  exact⟨_,ρ',f,ρ2,h2,by simp only[itm,hl _ _ _ z,Option.map,Xk hi],b,c,x,y⟩) (λZ hs z=>by simp only[itm,hl _ _ _ z,Option.map,W3 (Xh _)]) L.length 0 (Zn T (.seqL u) h1) Z h1 (W5 _).symm (by simp only[Zn,s,Vy];lia) h0
 exact QfY (by simp only[Zl,v,Qm,wkS,s];rfl) ⟨ρ2,h2,a,k ρ2 h2 b⟩
def Qkf(q:Q .cont Z h):Xx T cf (d+2) (.cont::r) Z h Q:=⟨_,_,_,by rw[Qj];rfl,q⟩
def Qdl{t:E}{c:Bool}(e:evT T cf (d+2) t Z h=some (c,h1))(k:c=true->Q .cont Z h1)(q:c=false->Xx T cf (d+3) r Z h1 Q):Xx T cf (d+4) (.ite t [.cont] []::r) Z h Q:=by
 cases c with
 |true=>exact Qke e (Qkf (k rfl))
 |false=>exact Qke e (Z2 (d:=d+1) (q rfl))
def QnM(h:Mk m):∃a r,m=a::r/\(a=102\/a=104->∃b,b∈[119,120,121,122]/\r=[b]):=by
 cases h with
 |keep h hb=>exact⟨_,_,rfl,λz=>⟨_,hb,rfl⟩⟩
 |bare h=>exact⟨_,_,rfl,λq=>by simp only[Xd,Xf,Xy]at h;lia⟩
 |lean h=>exact⟨_,_,rfl,λq=>by simp only[Xd,Xf,Xy]at h;lia⟩
 |grow h=>exact⟨_,_,rfl,λq=>by simp only[Xd,Xf,Xy]at h;lia⟩
 |cross h=>exact⟨_,_,rfl,λq=>by simp only[Xd,Xf,Xy]at h;lia⟩
def QjD{x:Nat}(l:m.length<=10)(hi:Z[7]?=some (some (.str (a::m)))):evT T cf (d+4) (.cmp .Eq (.ix Vh Wa) (.c (.str [x]))) Z h=some (decide (a=x),h):=by
 have e:QX T (.str (a::m)) (.int 0 0) h=some (.str [a]):=by
  have e1:atU (a::m) 0=some a:=QmA (i:=0) rfl;simp only[QX,e1,Option.map]
  rw[if_pos (by simp;lia)]
 rw[QQ (d:=d+2) (Qjn hi e) y_c (c:=decide (a=x)) (by simp[Q0,eq_str])]
def QmH(hi:Z[7]?=some (some (.str [a,b]))):ev T cf (d+2) (.ix Vh Wb) Z h=some (.str [b],h):=Qjn hi rfl
def Qp7(h:n<=8):Qq (n:Int)=true:=by
 simp only[Qq,Xl,Xw];lia
def Qga(l:n<=8):opU .Mult (.int x 0) (iU (n:Int)) h=some (iU (x*n),h):=by
 have:=Qp7 l;generalize (n:Int)=j at this ⊢;simp only[opU,Qk0,this,Bool.or_true,Bool.true_or,Wo,Option.map]
end
noncomputable def s71:List S:=[.expr (.bm .extend Vd [.op .Mult (.lst [Vh]) Vi]),.set 5 (.op .Add Vf (.op .Mult Vi (.call 70 [Vh]))),.set 4 (.op .Sub Ve (.call 69 [Vh]))]
noncomputable def tA:E:=.or (.cmp .Gt (.call 69 [Vh]) Ve) (.cmp .Gt (.op .Sub (.op .Add (.op .Add Vf (.op .Mult Vi (.call 70 [Vh]))) Ve) (.call 69 [Vh])) (.c (.int 12 0)))
noncomputable def tB:E:=.and (.cmp .Eq (.ix Vh Wa) (.c (.str [104]))) (.and (.cmp .NotEq (.bm .get Vc [.ix Vh Wb,.lst []]) (.lst [])) (.cmp .NotIn (.op .Add (.c (.str [102])) (.ix Vh Wb)) Vd))
noncomputable def tD:E:=.and (.cmp .Eq (.ix Vh Wa) (.c (.str [102]))) (.or (.cmp .Eq Vi Wa) (.cmp .In Vh Vd))
noncomputable def Qrh:List S:=.set 7 (.call 68 [Vg])::.set 8 Wb::.ite (.cmp .Eq (.ix Vh Wa) (.c (.str [102]))) [.set 8 (.bi .len [.bm .get Vc [.ix Vh Wb,.lst []]])] []::.ite tA [.cont] []::.ite tB [.cont] []::.ite tD [.cont] []::s71
section
variable {many:Nat}{y6:Option U}
noncomputable abbrev QcR(c q l lies left given:Nat)(y6 y7 y8:Option U):Rho:=[sR c,sN lies,sR q,sR l,sN left,sN given,y6,y7,y8]
def t_A(hm:Mk m):evT (tb s) (Qa (tb s) (n+1)) 90 tA (QcR c q l lies left given y6 (sS m) (sN many)) h=some (decide (left<(spm m).tk\/12+(spm m).tk<given+many*(spm m).ts.length+left),h):=by
 obtain⟨c1,c2⟩:=Qmx (s:=s) (n:=n) (hs:=h) hm;have b:=(Qim hm).lt;refine QfQ (d:=89) (QmT (d:=87) (YC (d:=85) rfl c1) (Qb rfl)) ?_;by_cases k:left<(spm m).tk
 ·simp[k]
 ·rw[if_neg (by simpa using k),QmT (d:=87) (Zu (d:=86) (Zu (d:=85) (Zu (d:=84) (Qb rfl) (Zu (d:=83) (Qb rfl) (YC (d:=81) rfl c2) (Qga b)) Z4) (Qb rfl) Z4) (YC (d:=84) rfl c1) QhW) y_c]
  congr 2
  rw[decide_eq_decide,<-Ur];lia
def t_B{r:List Nat}(em:m=a::r)(k:a=102\/a=104->∃b,b∈[119,120,121,122]/\r=[b])(lr:r.length<=10)(z:KD (inH h) q kl)(hl:h[l]?=some (.lst (row.map U.str))):∃h1,evT (tb s) (Qa (tb s) (n+1)) 89 tB (QcR c q l lies left given y6 (sS m) (sN many)) h=some (decide (a=104/\kl r≠0/\102::r∉row),h1)/\Kp h h1:=by
 subst em;by_cases e:a=104
 ·subst e;obtain⟨b,_,rfl⟩:=k (.inr rfl);obtain⟨h1,e1,k1⟩:=QnX (T:=tb s) (cf:=Qa (tb s) (n+1)) (d:=83) (o:=Vc) (a:=.ix Vh Wb) (Z:=QcR c q l lies left given y6 (some (.str [104,b])) (sN many)) (k:=[b]) z (Qb rfl) (QmH (d:=82) rfl)
  refine⟨h1,QbF (d:=88) (h1:=h) ((QjD (d:=84) (a:=104) (x:=104) (m:=[b]) (by simp) rfl).trans (by simp)) ?_,k1⟩
  by_cases e2:kl [b]=0
  ·rw[Qak (d:=87) (h1:=h1) (e1.trans (by simp[e2]))]
   simp[e2]
  ·rw[QbF (d:=87) (h1:=h1) (e1.trans (by simp[e2])) (QQ (d:=85) (Zu (d:=84) y_c (QmH (d:=82) rfl) (ZE (x:=[102]) (y:=[b]) (by simp))) (Qb rfl) (QdX (k1 _ _ hl)).2)]
   simp[e2]
 ·exact⟨h,(Qak (d:=88) (h1:=h) ((QjD (d:=84) (x:=104) lr rfl).trans (by simp[e]))).trans (by simp[e]),Kp.refl _⟩
def t_C{r:List Nat}(em:m=a::r)(lr:r.length<=10)(hl:h[l]?=some (.lst (row.map U.str))):evT (tb s) (Qa (tb s) (n+1)) 88 tD (QcR c q l lies left given y6 (sS m) (sN many)) h=some (decide (a=102/\(many=0\/m∈row)),h):=by
 by_cases e:a=102
 ·refine QbF (d:=87) (h1:=h) ((QjD (d:=83) (x:=102) lr (by rw[em];rfl)).trans (by simp[e])) (QfQ (d:=86) (QpI (d:=84) (Qb rfl) y_c) ?_)
  by_cases e2:many=0
  ·simp[e,e2]
  ·have e3:¬(many:Int)=0:=by lia
   rw[if_neg (by simpa using e3),QQ (d:=84) (Qb rfl) (Qb rfl) (QdX hl).1]
   simp[e,e2]
 ·exact(Qak (d:=87) (h1:=h) ((QjD (d:=83) (x:=102) lr (by rw[em];rfl)).trans (by simp[e]))).trans (by simp[e])
def QmG(hm:Mk m)(hl:h[l]?=some (.lst (row.map U.str)))(lm:many<=100)(lw:row.length<=1000)(lt:(spm m).tk<=left):∃h1,exs (tb s) (Qa (tb s) (n+1)) 89 s71 (QcR c q l lies left given y6 (sS m) (sN many)) h=some (.next,QcR c q l lies (left-(spm m).tk) (given+many*(spm m).ts.length) y6 (sS m) (sN many),h1)/\(∀p o,p≠l->h[p]?=some o->h1[p]?=some o)/\h1[l]?=some (.lst ((row++List.replicate many m).map U.str)):=by
 have b:=(Qim hm).lt;have ll:=(Xa.mp hl).1
 have e1:=Qgz (T:=tb s) (cf:=Qa (tb s) (n+1)) (d:=85) (i:=3) (Z:=QcR c q l lies left given y6 (sS m) (sN many)) (e:=.op .Mult (.lst [Vh]) Vi) rfl hl (Zu (d:=85) (QcZ (d:=84) (Qb rfl)) (Qb rfl) (Qho at0 (by lia))) (kp1 _ _ (kp1 _ _ hl)) at0 (by rw[Xz,Vm];lia)
 rw[<-Ua,<-Wn]at e1
 refine⟨List.set (h++[O.lst [U.str m]]++[O.lst (List.map U.str (List.replicate many m))]) l (O.lst (List.map U.str (row++List.replicate many m))),(Zi (d:=88) e1).trans ?_,λp o np e=>by rw[Xe (X8 np)];exact kp1 _ _ (kp1 _ _ e),Xr (by simp;lia)⟩
 generalize List.set _ _ _=h1;obtain⟨c1,c2⟩:=Qmx (s:=s) (n:=n) (hs:=h1) hm;refine(QD (d:=86) (Zu (d:=85) (Qb rfl) (Zu (d:=84) (Qb rfl) (YC (d:=82) rfl c2) (Qga b)) Z4)).trans ((QD (d:=85) (Zu (d:=84) (Qb rfl) (YC (d:=82) rfl c1) QhW)).trans ?_)
 have i1:((left:Int) - (spm m).tk)=((left-(spm m).tk:Nat):Int):=by lia
 have i2:(given:Int)+(many:Int)*((spm m).ts.length:Int)=((given+many*(spm m).ts.length:Nat):Int):=by rw[Int.natCast_add,Ur]
 rw[i1,i2];rfl
end
section
variable {xs:List Int}
noncomputable def mny(kl:List Nat->Nat)(a:Nat)(r:List Nat):Nat:=if a=102 then kl r else 1
def Qje{r:List Nat}{y7 y8:Option U}{R:List S}(e68:Qa (tb s) (n+1) 68 [.int x 0] h=some (.str (a::r),h))(k:a=102\/a=104->∃b,b∈[119,120,121,122]/\r=[b])(lr:r.length<=10)(z:KD (inH h) q kl)
  (g:∀h1,Kp h h1->Xx (tb s) (Qa (tb s) (n+1)) 92 R (QcR c q l lies left given (sI x) (some (.str (a::r))) (sN (mny kl a r))) h1 Q):
  Xx (tb s) (Qa (tb s) (n+1)) 95 (.set 7 (.call 68 [Vg])::.set 8 Wb::.ite (.cmp .Eq (.ix Vh Wa) (.c (.str [102]))) [.set 8 (.bi .len [.bm .get Vc [.ix Vh Wb,.lst []]])] []::R) (QcR c q l lies left given (sI x) y7 y8) h Q:=by
 refine Jc ((QD (d:=93) (YC (d:=91) rfl e68)).trans (QD (d:=92) y_c)) (Qke (d:=91) (QjD (d:=87) (x:=102) lr rfl) ?_);by_cases e:a=102
 ·subst e;obtain⟨b,_,rfl⟩:=k (.inl rfl)
  rw[if_pos (by simp)]
  refine Jc (QD (d:=89) (Qlk (d:=86) (k:=[b]) z (Qb rfl) (QmH (d:=85) rfl))) (Z2 ?_);have:=g _ (kp1 (h:=h) (o:=.lst []));unfold mny at this;rw[if_pos rfl]at this;exact this
 ·rw[if_neg (by simpa using e)]
  have:=g _ (Kp.refl h);unfold mny at this;rw[if_neg e]at this;exact Z2 this
def QqT(hc:h[c]?=some (.lst (xs.map λx=>.int x 0)))(lx:xs.length<=5)(z:KD (inH h) q kl)(kb:∀k,kl k<=100)(ll:lies<=12):Pc (tb s) (n+2) 71 [.ref c,iU (lies:Nat),.ref q] h λv h1=>∃j row,v=.ref j/\h.length<=j/\h1[j]?=some (.lst (row.map U.str))/\Fi lies kl row/\gvS (row.map spm)<=12:=by
 have ne:c≠h.length:=by
  have:=(Xa.mp hc).1;lia
 refine Qbu (Qe fnL[71] rfl rfl) (Jc ((QD (d:=98) Qmk).trans ((QD (d:=97) (Qb rfl)).trans (QD (d:=96) y_c))) (Qkd (d:=95) (u:=.ref c) (L:=xs.map λx=>.int x 0) (body:=Qrh) (λi Z g=>∃row left given y6 y7 y8,Z=QcR c q h.length lies left given y6 y7 y8/\Rb lies kl row left given/\row.length<=12*i/\(∀p o,p≠h.length->(h++[O.lst []])[p]?=some o->g[p]?=some o)/\g[h.length]?=some (.lst (row.map U.str))) (Qb rfl) (λi Z g y=>?_) ⟨[],lies,0,none,none,none,rfl,.nil ll,by simp,λw w w a=>a,at0⟩ (λi x hx Z g y=>?_) λρ2 g y=>?_))
 ·obtain⟨_,_,_,_,_,_,_,_,_,st,_⟩:=y;exact QL (st _ _ ne (kp1 _ _ hc))
 ·obtain⟨row,left,given,y6,y7,y8,rfl,b,lw,st,hl⟩:=y
  have li:i<5:=by
   have:=(Xa.mp hx).1;rw[Xz]at this;lia
  rw[W6]at hx;obtain⟨j,_,rfl⟩:=Xb.mp hx;obtain⟨m,hm,e68⟩:=QqU (s:=s) (n:=n) (x:=j) (hs:=g);obtain⟨a,r,rfl,k⟩:=QnM hm
  have lr:r.length<=10:=by
   have:=hm.len.2;simp at this;lia
  have zg:KD (inH g) q kl:=z.mono λp o e=>st _ _ (by have:=(Xa.mp e).1;lia) (kp1 _ _ e)
  have bm:mny kl a r<=100:=by
   unfold mny;split
   ·exact kb r
   ·lia
  refine⟨_,rfl,Qje e68 k lr zg λh1 k1=>?_⟩
  have keep:∀{h2:Hs},Kp g h2->Nc .cont/\∃row left' given' y6 y7 y8,QcR c q h.length lies left given (sI j) (some (.str (a::r))) (sN (mny kl a r))=QcR c q h.length lies left' given' y6 y7 y8/\Rb lies kl row left' given'/\row.length<=12*(i+1)/\(∀p o,p≠h.length->(h++[O.lst []])[p]?=some o->h2[p]?=some o)/\h2[h.length]?=some (.lst (row.map U.str)):=λk2=>⟨.inr rfl,row,left,given,_,_,_,rfl,b,by lia,λp o np e=>k2 _ _ (st p o np e),k2 _ _ hl⟩
  refine Qdl (d:=88) (t_A hm) (λw=>keep k1) λca=>?_;obtain⟨h2,eB,k2⟩:=t_B (s:=s) (n:=n) (c:=c) (l:=h.length) (lies:=lies) (left:=left) (given:=given) (many:=mny kl a r) (y6:=sI j) rfl k lr (zg.mono k1) (k1 _ _ hl);refine Qdl (d:=87) eB (λw=>keep (k1.trans k2)) λcb=>?_;have K2:=k1.trans k2;refine Qdl (d:=86) (t_C rfl lr (K2 _ _ hl)) (λw=>keep K2) λcc=>?_;have ca:=T6 ca;have cb:=T6 cb;have cc:=T6 cc
  have lw':row.length<=60:=by lia
  obtain⟨h3,e3,zst3,hl3⟩:=QmG (s:=s) (n:=n) (c:=c) (q:=q) (lies:=lies) (left:=left) (given:=given) (y6:=sI j) hm (K2 _ _ hl) bm (by lia) (by lia)
  have g1:102=a->(spm (a::r)).ts.length=1/\(spm (a::r)).tk=0:=λe=>by
   subst e;obtain⟨b,_,rfl⟩:=k (.inl rfl);exact⟨rfl,rfl⟩
  refine⟨_,_,h3,e3,.inl rfl,row++List.replicate (mny kl a r) (a::r),_,_,_,_,_,rfl,b.step hm (by lia) (by lia) ?_ (λk e=>?_) (λk e=>?_),?_,λp o np e=>zst3 _ _ np (K2 _ _ (st p o np e)),hl3⟩
  ·by_cases e:a=102
   ·exact .inr (g1 e.symm).2
   ·exact .inl (if_neg e)
  ·obtain⟨rfl,rfl⟩:=List.cons.inj e;exact⟨λq=>cc ⟨rfl,.inr q⟩,if_pos rfl⟩
  ·obtain⟨rfl,rfl⟩:=List.cons.inj e;by_cases e1:kl r=0
   ·exact .inl e1
   ·exact .inr (Decidable.byContradiction λe2=>cb ⟨rfl,e1,e2⟩)
  ·rw[Xn,Vm]
   have:mny kl a r<=12:=by
    by_cases e:a=102
    ·have:=(g1 e.symm).1;have:=(g1 e.symm).2;rw[‹(spm (a::r)).ts.length=1›]at ca;lia
    ·unfold mny;rw[if_neg e];lia
   lia
 ·obtain⟨row,left,given,y6,y7,y8,rfl,b,lw,st,hl⟩:=y;rw[Xz]at lw;have hle:=b.le
  have lw':row.length<=60:=by lia
  have K:Kp h g:=λp o e=>st _ _ (by have:=(Xa.mp e).1;lia) (kp1 _ _ e)
  refine Yd (d:=94) (Jo (Zu (d:=93) (Qb rfl) (Zu (d:=92) (QcZ (d:=91) y_c) (Qb rfl) (Qho at0 (by lia))) (QcQ (kp1 _ _ (kp1 _ _ hl)) at0 (by rw[Xz,Vm];lia))) ⟨(K.trans kp1).trans (kp1.trans kp1),_,row++List.replicate left [107],rfl,?_,?_,b.plain (by lia),?_⟩)
  ·have:=K.len;simp only[Xn];lia
  ·rw[Wn,Ua];exact at0
  ·rw[b.gvk];lia
end
def RMp(P:Vp)(u:U)(ms:List (List Nat)):Prop:=∃p,u=.ref p/\P p (.lst (ms.map U.str))/\∀m∈ms,Mk m
def QqM{xs:List α}{a:Int}(h:0<=a):(Y7 xs (some a) (some (a+5))).length<=5:=by
 have e1:ZN xs.length 0 (some a)=min a.toNat xs.length:=by simp only[ZN];rw[if_neg (by lia)]
 have e2:ZN xs.length xs.length (some (a+5))=min (a+5).toNat xs.length:=by simp only[ZN];rw[if_neg (by lia)]
 unfold Y7
 rw[e1,e2,X7,show(a+5).toNat=a.toNat+5 by lia]
 generalize a.toNat=m;refine X3 (Nat.min_le_left _ _) ?_
 rcases Nat.le_total m xs.length with l|l
 ·rw[Nat.min_eq_left l];exact Nat.sub_le_of_le_add (X3 (Nat.min_le_left _ _) (Ta (T1 ..)))
 ·rw[Nat.min_eq_right l];exact X3 (Ta (Nat.sub_eq_zero_of_le (Nat.min_le_right _ _))) (Vw _)
def Qqd{i:Int}(h0:0<=i)(h:i<=60):((Qq (0*16)&&Qq (i*16)&&decide ((0:Int) < 5)&&decide ((5:Int) < 1073741824))=true)/\Qdk 0 i 5<=12:=by
 refine⟨?_,?_⟩
 ·have:Qq (i*16)=true:=by
   simp only[Qq,Xl,Xw];lia
  rw[this];decide
 ·unfold Qdk;split
  ·lia
  ·lia
section
variable {m:Nat}{xs:List Int}
def QmL{a:Int}(h1:Z[1]?=some (sR c))(h5:Z[5]?=some (some (iU a)))(hc:g[c]?=some (.lst (xs.map iU))):ev T cf (d+3) (.sl Vb (some Vf) (some (.op .Add Vf Wf))) Z g=some (.ref g.length,g++[.lst ((Y7 xs (some a) (some (a+5))).map iU)]):=by
 have e:ev T cf (d+2) (.op .Add Vf Wf) Z g=some (iU (a+5),g):=Zu (Qb h5) y_c Z4;rw[QmD,Qb h1,Qm];simp only[evO,Qb h5,e,Qm,Qp8 hc,Qeb]
theorem Qgh:∀{row:List (List Nat)},(row.map λm=>((spm m).ts.length:Int)).sum=((gvS (row.map spm):Nat):Int)
 |[]=>rfl
 |m::r=>by
  rw[X1,Uc,Qgh (row:=r)];simp[gvS]
def QmJ(hi:Z[i]?=some (sR q))(lρ:Z.length=7)(hq:h[q]?=some (.lst (row.map U.str)))(am:∀m∈row,Mk m)(ln:row.length<=1000):∃h1,ev (tb s) (Qa (tb s) (n+1)) (d+5) (.bi .sum [.comp (.seq (.var i)) false none (.call 70 [Vh])]) Z h=some (iU (gvS (row.map spm):Nat),h1)/\Kp h h1:=by
 obtain⟨us,h1,e,k,pr⟩:=J1 (T:=tb s) (cf:=Qa (tb s) (n+1)) (d:=d+3) (e:=.var i) (Z:=Z) (h:=h) (u:=.ref q) (L:=row.map U.str) (el:=.call 70 [Vh]) (λx u z=>∀m,x=.str m->u=iU ((spm m).ts.length:Nat)) (λz z z z z f=>f) (Qb hi) (.inl (QL hq)) (by rw[Xz];lia) (λx mx hs k=>by
  obtain⟨m,mm,rfl⟩:=Wr.mp mx
  refine⟨_,hs,YC (d:=d+1) (i:=7) (by rw[X5 (by lia),lρ];rfl) (Qmx (s:=s) (n:=n) (hs:=hs) (am m mm)).2,Kp.refl _,λm' e=>?_⟩
  cases e
  rfl)
 have eu:us=(row.map λm=>((spm m).ts.length:Int)).map iU:=by
  clear e hq am ln;generalize eL:row.map U.str=L at pr
  induction pr generalizing row with
  |nil=>cases row with
   |nil=>rfl
   |cons m r=>cases eL
  |cons a _ ih=>cases row with
   |nil=>cases eL
   |cons m r=>
    cases eL;rw[a m rfl,ih rfl];rfl
 refine⟨_,QgE (d:=d+4) e (?_:_=some (_,h1++[.lst us])),k.trans kp1⟩;have:QU (tb s) (.ref h1.length) (h1++[O.lst us])=some us:=QL at0;show((QU (tb s) (.ref h1.length) (h1++[O.lst us])).bind λxs=>(Ji xs).map λns=>(U.int ns.sum 0,h1++[O.lst us]))=_;rw[this,eu];simp only[Option.bind,QdW,Option.map,Qgh]
end
noncomputable def Qps:List S:=[.set 6 (.call 71 [.sl Vb (some Vf) (some (.op .Add Vf Wf)),Vd,Ve]),.set 4 (.call 72 [Vg,Ve]),.set 3 (.bi .sum [.comp (.seq Vg) false none (.call 70 [Vh])]),.expr (.bm .append Vc [Vg])]
section
variable {m:Nat}{xs:List Int}
def QqR(hc:h[c]?=some (.lst (xs.map iU)))(lx:xs.length<=60)(lm:m<=12):Pc (tb s) (n+3) 73 [iU (m:Nat),.ref c] h λv h1=>∃j us rows,v=.ref j/\h1[j]?=some (.lst us)/\Paired (RM h1) us rows/\FiS m (λt=>0) rows/\rows.length<=12/\h.length<=j:=by
 have lc:=(Xa.mp hc).1
 obtain⟨c1,c2⟩:=Qqd (i:=(xs.length:Int)) (by lia) (by lia)
 generalize eN:Qdk 0 (xs.length:Int) 5=N at c2;have hh0:(h++[O.lst []])[c]?=some (.lst (xs.map iU)):=kp1 _ _ hc;have hh1:(h++[O.lst []]++[O.dic []])[c]?=some (.lst (xs.map iU)):=kp1 _ _ hh0;refine Qbu (Qe fnL[73] rfl rfl) (Jc ((QD (d:=98) Qmk).trans ((QD (d:=97) (Qb rfl)).trans (QD (d:=96) QbB))) (YV (d:=95) (w:=.rngC 0 5 N) (h1:=h++[O.lst []]++[O.dic []]) (L:=List.range N) (im:=λk=>.one (iU (0+(k:Int)*5))) (body:=Qps) (λi Z g=>∃rows lies kl y5 y6 K P us,Z=[sN m,sR c,sR h.length,sN lies,sR K,y5,y6]/\(∀i o,P i o->g[i]?=some o/\i≠h.length)/\(∀i o,h[i]?=some o->P i o)/\KD P K kl/\Paired (RMp P) us rows/\g[h.length]?=some (.lst us)/\lies<=12/\(∀k,kl k<=100)/\(∀k,k∉kps->kl k=0)/\rows.length=i/\∀rest,FiS lies kl rest->FiS m (λt=>0) (rows++rest)) ?_ ?_ (λi Z hs z=>?_) ?_ (λi k hk Z g y=>?_) λρ2 g y=>?_))
 ·rw[Qi7 (i:=0) (j:=(xs.length:Int)) (c:=5) (h1:=h++[O.lst []]++[O.dic []]) (e_3 y_c ((Z9 (d:=94) (Qb rfl) hh1).trans (by rw[Xz])) y_c) c1,eN]
 ·simp[Zn]
 ·simp only[itm];by_cases hi:i<N
  ·rw[if_pos hi,Xk (by rw[Ux];exact hi)]
   simp
  ·rw[if_neg hi,W3 (by rw[Ux];lia)]
   rfl
 ·refine⟨[],m,λt=>0,none,none,h.length+1,λi o=>(i≠h.length)/\(h++[O.lst []]++[O.dic []])[i]?=some o,[],by rw[show(h.length+1)=(h++[O.lst []]).length from by simp];rfl,λi o x=>⟨x.2,x.1⟩,λi o x=>⟨by have:=(Xa.mp x).1;lia,kp1 _ _ (kp1 _ _ x)⟩,KD.nil ⟨by lia,by simp⟩,.nil,kp1 _ _ at0,lm,λt=>Vw _,λt t=>rfl,rfl,λt x=>x⟩
 ·obtain⟨rows,lies,kl,y5,y6,K,P,us,rfl,pg,hp,kd,pr,hl,ll,kb,zz,lr,clo⟩:=y
  have hi:i<N/\k=i:=by
   have:=(Xa.mp hk);obtain⟨a,b⟩:=this;rw[Ux]at a;rw[List.getElem_range]at b;exact⟨a,b.symm⟩
  have hcg:=(pg _ _ (hp _ _ hc)).1
  suffices x:Xx (tb s) (Qa (tb s) (n+2)) 95 Qps [sN m,sR c,sR h.length,sN lies,sR K,some (iU (0+(k:Int)*5)),y6] g λf ρ1 h1=>f=.next/\∃rows lies kl y5 y6 K P us,ρ1=[sN m,sR c,sR h.length,sN lies,sR K,y5,y6]/\(∀i o,P i o->h1[i]?=some o/\i≠h.length)/\(∀i o,h[i]?=some o->P i o)/\KD P K kl/\Paired (RMp P) us rows/\h1[h.length]?=some (.lst us)/\lies<=12/\(∀k,kl k<=100)/\(∀k,k∉kps->kl k=0)/\rows.length=i+1/\∀rest,FiS lies kl rest->FiS m (λt=>0) (rows++rest) by
   obtain⟨ρ2,h2,e,y⟩:=Ys x;exact⟨_,ρ2,h2,rfl,e,y⟩
  have es:=QmL (T:=tb s) (cf:=Qa (tb s) (n+2)) (d:=89) (a:=0+(k:Int)*5) (Z:=[sN m,sR c,sR h.length,sN lies,sR K,some (iU (0+(k:Int)*5)),y6]) rfl rfl hcg;generalize ecu:Y7 xs (some (0+(k:Int)*5)) (some (0+(k:Int)*5+5))=cu at es
  have lcu:cu.length<=5:=by rw[<-ecu];exact QqM (by lia)
  obtain⟨_,h1,e71,k1,j,row,rfl,lj,hj,fi,gl⟩:=QqT (s:=s) (n:=n) (c:=g.length) (q:=K) (h:=g++[O.lst (cu.map iU)]) at0 lcu (kd.mono λi o x=>kp1 _ _ (pg i o x).1) kb ll;have K1:Kp g h1:=kp1.trans k1;rw[Xn]at lj
  obtain⟨_,h2,e72,k2,rfl,kd2⟩:=QqS (s:=s) (n:=n+1) (P:=nwP P g h1) hj (kd.mono le_nw) (λi o x=>x.elim (λx=>K1 _ _ (pg i o x).1) λx=>x.2) zz fi.am (X3 fi.ln (by lia))
  obtain⟨h3,e3,k3⟩:=QmJ (s:=s) (n:=n+1) (d:=86) (i:=6) (Z:=[sN m,sR c,sR h.length,sN lies,sR h1.length,some (iU (0+(k:Int)*5)),sR j]) rfl rfl (k2 _ _ hj) fi.am (X3 fi.ln (by lia))
  have K3:Kp g h3:=(K1.trans k2).trans k3;have lg:=(Xa.mp hl).1;have lu:=Qk pr
  have e4:=Qcd (T:=tb s) (cf:=Qa (tb s) (n+2)) (d:=89) (Z:=[sN m,sR c,sR h.length,some (iU (gvS (row.map spm):Nat)),sR h1.length,some (iU (0+(k:Int)*5)),sR j]) (o:=Vc) (e:=Vg) (u:=.ref j) (h1:=h3) (Qb rfl) (K3 _ _ hl) (Qb rfl) (K3 _ _ hl) (by lia)
  refine Jc ((QD (d:=93) (ZA (d:=92) (e_3 es (Qb rfl) (Qb rfl)) e71)).trans ((QD (d:=92) (ZA (d:=91) (e_2 (Qb rfl) (Qb rfl)) e72)).trans (QD (d:=91) e3)) ) ?_;refine Qe2 (d:=91) e4 (Z2 ?_);have leP:∀i o,nwP P g h1 i o->nwP P g h3 i o:=λi o x=>x.imp id λx=>⟨x.1,k3 _ _ (k2 _ _ x.2)⟩;have leQ:∀i o,nwP (nwP P g h1) h1 h2 i o->nwP P g h3 i o:=λi o x=>x.elim (leP i o) λx=>.inr ⟨X3 K1.len x.1,k3 _ _ x.2⟩
  refine⟨rfl,rows++[row],_,klS row kl,_,_,_,nwP P g h3,us++[.ref j],rfl,λi o x=>?_,λi o x=>.inl (hp i o x),kd2.mono leQ,Ye ⟨j,rfl,.inr ⟨by lia,k3 _ _ (k2 _ _ hj)⟩,fi.am⟩ (Qi (λu r l=>by obtain⟨p,a,b,c⟩:=l;exact⟨p,a,.inl b,c⟩) pr),Xr (by have:=K3.len;lia),gl,λk=>?_,Qle fi.am zz,by simp[lr],λrest fr=>?_⟩
  ·have ni:i≠h.length:=x.elim (λx=>(pg i o x).2) λx=>by lia
   exact⟨by rw[Xe (X8 ni)];exact x.elim (λx=>K3 _ _ (pg i o x).1) λx=>x.2,ni⟩
  ·unfold klS;split
   ·exact X3 Ue fi.ln
   ·exact kb k
  ·rw[Wv];exact clo _ ⟨fi,fr⟩
 ·obtain⟨rows,lies,kl,y5,y6,K,P,us,rfl,pg,hp,kd,pr,hl,ll,kb,zz,lr,clo⟩:=y;rw[Ux]at lr;have:=clo [] trivial;rw[Vu]at this
  exact Yd (d:=94) (Jo (Qb rfl) ⟨λi o x=>(pg _ _ (hp i o x)).1,_,us,rows,rfl,hl,Qi (λu r Y=>by obtain⟨p,a,b,c⟩:=Y;exact⟨p,a,(pg _ _ b).1,c⟩) pr,this,by lia,Xh _⟩)
end
section
variable {c:Int}{tk:Nat}{t:Ti}{sp:Sp}{mv:List U}
def Qdg{i:Int}:Sc (iU i):=.inl ⟨i,rfl⟩
def QoU(h:b∈[119,120,121,122]):Sc (.str [b]):=.inr ⟨_,rfl,by
 simp only[Xd,Xf,Xy]at h
 rcases h with rfl|rfl|rfl|rfl<;>decide⟩
def Qmv{x:List Nat}(a:(x.all λc=>decide (c<128))=true)(b:Sc v):Gm [.str x,v]:=⟨by simp,by simp,λu m=>by
 simp only[Xd,Xf,Xy]at m
 rcases m with rfl|rfl
 ·exact .inr ⟨_,rfl,a⟩
 ·exact b⟩
def Qmu{x:List Nat}(a:(x.all λc=>decide (c<128))=true)(b:Sc v)(c:Sc w):Gm [.str x,v,w]:=⟨by simp,by simp,λu m=>by
 simp only[Xd,Xf,Xy]at m
 rcases m with rfl|rfl|rfl
 ·exact .inr ⟨_,rfl,a⟩
 ·exact b
 ·exact c⟩
def QlB(o:OkT tk t)(m:mv∈Yt ne fa t):Gm mv:=by
 cases t with
 |sm=>
  rw[Wh.mp m]
  exact Qmu (by decide) Qdg Qdg
 |fr w=>
  obtain⟨b,hb,rfl⟩:=o;rw[Wh.mp m]
  exact Qmu (by decide) (QoU hb) Qdg
 |nw ps s l=>
  simp only[Yt]at m;split at m
  ·rw[Wh.mp m]
   exact Qmv (by decide) Qdg
  ·rcases Wp.mp m with m|m
   ·obtain⟨p,_,rfl⟩:=Wr.mp m
    exact Qmu (by decide) Qdg Qdg
   ·rw[Wh.mp m]
    refine⟨by simp,by simp,λu m=>?_⟩
    simp only[Xd,Xf,Xy]at m
    rcases m with rfl|rfl|rfl|rfl
    ·exact .inr ⟨_,rfl,by decide⟩
    all_goals exact Qdg
theorem Qd1:∀{ts:List Ti} {fa:Int},(∀t∈ts,OkT tk t)->mv∈Zb ne fa ts->Gm mv
 |[],_,_,m=>by cases m
 |t::r,fa,o,m=>(Wp.mp m).elim (λm=>QlB (o t Xm) m) λm=>Qd1 (λx q=>o x (Xi _ q)) m
def Qn9(g:Gd sp)(m:mv∈QfS sp ne fa):Gm mv:=by
 rcases Wp.mp m with m|m
 ·exact Qd1 g.ok m
 ·obtain⟨w,hw,rfl⟩:=Wr.mp m;unfold Yn
  rcases (g.en w hw).2 with rfl|⟨b,hb,rfl⟩
  ·rw[if_pos rfl]
   exact Qmv (by decide) Qdg
  ·split
   ·exact Qmv (by decide) Qdg
   ·exact Qmu (by decide) Qdg (QoU hb)
theorem QlC:∀{sps:List Sp} {ne fa:Int},(∀sp∈sps,Gd sp)->mv∈Qad ne fa sps->Gm mv
 |[],_,_,_,m=>by cases m
 |sp::r,ne,fa,g,m=>(Wp.mp m).elim (λm=>Qn9 (g sp Xm) m) λm=>QlC (λx q=>g x (Xi _ q)) m
def QlD(g:∀r∈rows,∀m∈r,Mk m)(m:mv∈Qav c rows):Gm mv:=by
 rcases Xd.mp m with rfl|m
 ·exact Qmv (by decide) Qdg
 ·obtain⟨l,hl,m⟩:=List.mem_flatten.mp m;obtain⟨r,hr,rfl⟩:=Wr.mp hl
  rcases Wp.mp m with m|m
  ·exact QlC (QbL (g r hr)) m
  ·rw[Wh.mp m]
   refine⟨by simp,by simp,λu m=>?_⟩
   rw[Wh.mp m]
   exact .inr ⟨_,rfl,by decide⟩
end
def RL(h:Hs)(u:U)(ms:List (List Nat)):Prop:=∃p,u=.ref p/\h[p]?=some (.lst (ms.map U.str))
section
variable {ws:List U}
def QkW(e:QU T u h=some xs):okW T (n+1) u h=xs.all λx=>okW T n x h:=by simp only[okW,e]
def QlN(e:QU T u h=some xs)(e':QU T w h=some ys):eqW T (n+1) u w h=((xs.length==ys.length)&&(xs.zip ys).all λp=>eqW T n p.1 p.2 h):=by simp only[eqW,e,e']
def Qql{r:List (List Nat)}(a:RL h u r)(am:∀m∈r,∀c∈m,c<128):okW T (n+2) u h=true:=by
 obtain⟨p,rfl,e⟩:=a;refine(QkW (n:=n+1) (QL e)).trans (Xv.mpr λx m=>?_);obtain⟨y,hy,rfl⟩:=Wr.mp m;exact Xv.mpr λc hc=>Wt (am y hy c hc)
def QqD{r:List (List Nat)}(a:RL h u r)(b:RL h w r):eqW T (n+2) u w h=true:=by
 obtain⟨p,rfl,ea⟩:=a;obtain⟨q,rfl,eb⟩:=b;refine(QlN (n:=n+1) (QL ea) (QL eb)).trans ?_;rw[Ui,U3,Xv];intro x m
 have:∀{l:List U} {x:U×U},x∈l.zip l->x.1=x.2/\x.1∈l:=λ{l x} m=>by
  induction l with
  |nil=>cases m
  |cons y r ih=>
   rcases Xd.mp (show x∈(y,y)::r.zip r from m)with rfl|m
   ·exact⟨rfl,Xm⟩
   ·exact⟨(ih m).1,Xi _ (ih m).2⟩
 obtain⟨e,m⟩:=this m;rw[<-e];obtain⟨y,_,ey⟩:=Wr.mp m;rw[<-ey];show(y==y)=true;simp
def Qiw(ea:h[p]?=some (.lst us))(eb:h[q]?=some (.lst ws))(a:Paired (RL h) us rows)(b:Paired (RL h) ws rows)(am:∀r∈rows,∀m∈r,∀c∈m,c<128):Q0 T .NotEq (.ref p) (.ref q) h=some false:=by
 have o1:∀{z:Nat} {us:List U},h[z]?=some (.lst us)->Paired (RL h) us rows->okW T 20 (.ref z) h=true:=λe a=>(QkW (n:=19) (QL e)).trans (Xv.mpr λx m=>by
  obtain⟨r,hr,z⟩:=Jp a m
  exact Qql z (am r hr))
 have o3:eqW T 20 (.ref p) (.ref q) h=true:=(QlN (n:=19) (QL ea) (QL eb)).trans (by
  rw[Qk a,<-Qk b,Ui,U3];clear ea eb o1
  induction a generalizing ws with
  |nil=>rfl
  |cons x _ ih=>
   cases b with
   |cons y b=>
    show(eqW T 19 _ _ h&&_)=true;rw[QqD x y,U3]
    exact ih b (λr m=>am r (Xi _ m)))
 have o4:Jg T (.ref p) (.ref q) h=false:=by
  have:us.length=ws.length:=(Qk a).trans (Qk b).symm;simp only[Jg,QU,ea,eb,this];simp
 show(eqA T (.ref p) (.ref q) h).map (!·)=_
 have:eqA T (.ref p) (.ref q) h=some true:=by
  simp only[eqA,QfC,o4,o1 ea a,o1 eb b,o3,T8,Wo,W8,V7];split<;>rfl
 rw[this];rfl
end
def SM(s:List U)(h:Hs)(u:U)(m:List Nat):Prop:=∃p o,u=.ref p/\h[p]?=some o/\Sm s o m
def HR(s:List U)(h:Hs)(u:U)(ms:List (List Nat)):Prop:=∃p vs,u=.ref p/\h[p]?=some (.lst vs)/\Paired (SM s h) vs ms
def SM.kp(k:Kp h h1)(z:SM s h u m):SM s h1 u m:=by obtain⟨p,o,a,b,c⟩:=z;exact⟨p,o,a,k _ _ b,c⟩
theorem HR.kp(k:Kp h h1)(z:HR s h u ms):HR s h1 u ms:=by obtain⟨p,vs,a,b,c⟩:=z;exact⟨p,vs,a,k _ _ b,Qi (λy y=>SM.kp k) c⟩
def RL.kp(k:Kp h h1)(z:RL h u ms):RL h1 u ms:=by obtain⟨p,a,b⟩:=z;exact⟨p,a,k _ _ b⟩
def LM.kp(k:Kp h h1)(z:LM mvs u h):LM mvs u h1:=by obtain⟨p,us,a,b,c⟩:=z;exact⟨p,us,a,k _ _ b,Qi (λy y=>DM.mono k) c⟩
theorem Qd4:∀{rows:List (List (List Nat))} {lf:Nat} {kl:List Nat->Nat},FiS lf kl rows->∀r∈rows,r.length<=100/\∀m∈r,Mk m
 |[],_,_,_,_,m=>by cases m
 |row::r,lf,kl,⟨f,g⟩,x,m=>by
  rcases Xd.mp m with rfl|m
  ·exact⟨f.ln,f.am⟩
  ·exact Qd4 g x m
def Qbc{γ:Type}{P:α->β->Prop}{Q:α->γ->Prop}{f:β->γ}(l:List α){r:List β}(p:Paired P l r)(k:∀a b,b∈r->P a b->Q a (f b)):Paired Q l (r.map f):=by
 induction p with
 |nil=>exact .nil
 |cons x _ ih=>exact .cons (k _ _ Xm x) (ih λa b m=>k a b (Xi _ m))
section

def QmK(lρ:Z.length=7)(z:RM h1 u ms)(k:Kp h1 h)(l:ms.length<=1000)(hi:Z[6]?=some (some u)):∃v h2,ev (tb s) (Qa (tb s) (n+4)) (d+4) (.comp (.seq Vg) false none (.call 61 [Vh])) Z h=some (v,h2)/\Kp h h2/\HR s h2 v ms:=by
 obtain⟨p,rfl,hp,mk⟩:=z
 obtain⟨vs,h2,e,k2,pr⟩:=J1 (T:=tb s) (cf:=Qa (tb s) (n+4)) (d:=d+3) (e:=Vg) (Z:=Z) (h:=h) (u:=.ref p) (L:=ms.map U.str) (el:=.call 61 [Vh]) (λx v g=>∀m,x=.str m->SM s g v m) (λy y y y k f m e=>(f m e).kp k) (Qb hi) (.inl (QL (k _ _ hp))) (by rw[Xz];lia) (λx mx hs k=>by
  obtain⟨m,mm,rfl⟩:=Wr.mp mx;obtain⟨o,sm,e⟩:=Qca (s:=s) (n:=n) (hs:=hs) (mk m mm)
  refine⟨_,_,YC (d:=d+1) (i:=7) (by rw[X5 (by lia),lρ];rfl) e,kp1,λm' e=>?_⟩
  cases e
  exact⟨_,o,rfl,at0,sm⟩)
 refine⟨_,_,e,k2.trans kp1,_,_,rfl,at0,Qi (λy y=>SM.kp kp1) (?_:Paired (SM s h2) vs ms)⟩;clear e hp mk l;generalize eL:ms.map U.str=L at pr
 induction pr generalizing ms with
 |nil=>cases ms with
  |nil=>exact .nil
  |cons m r=>cases eL
 |cons a _ ih=>cases ms with
  |nil=>cases eL
  |cons m r=>
   cases eL;exact .cons (a m rfl) (ih rfl)
def Qjl(lρ:Z.length=6)(hr:h[p]?=some (.lst us))(pr:Paired (RM h) us rows)(l:∀r∈rows,r.length<=1000)(lr:rows.length<=1000)(hi:Z[2]?=some (sR p)):∃us1 h2,ev (tb s) (Qa (tb s) (n+4)) (d+5) (.comp (.seq Vc) false none (.comp (.seq Vg) false none (.call 61 [Vh]))) Z h=some (.ref h2.length,h2++[.lst us1])/\Kp h h2/\Paired (HR s h2) us1 rows:=by
 obtain⟨us1,h2,e,k2,p2⟩:=J1 (T:=tb s) (cf:=Qa (tb s) (n+4)) (d:=d+4) (e:=Vc) (Z:=Z) (h:=h) (u:=.ref p) (L:=us) (el:=.comp (.seq Vg) false none (.call 61 [Vh])) (λx v g=>∀ms,RM h x ms/\ms∈rows->HR s g v ms) (λy y y y k f m e=>(f m e).kp k) (Qb hi) (.inl (QL hr)) (by rw[Qk pr];lia) (λx mx hs k=>by
  obtain⟨ms,mm,z⟩:=Jp pr mx
  obtain⟨v,h3,e3,k3,hr⟩:=QmK (s:=s) (n:=n) (d:=d) (Z:=Z++[some x]) (by rw[Xn,lρ];rfl) z k (l ms mm) (by rw[X5 (by lia),lρ];rfl)
  refine⟨v,h3,e3,k3,λms' z'=>?_⟩
  have:ms'=ms:=by
   obtain⟨p,e,a,_⟩:=z;obtain⟨p',e',a',_⟩:=z'.1;rw[e]at e';cases e';rw[a]at a';have i:=(O.lst.inj (X4 a'));exact(List.map_inj_right λy y=>U.str.inj).mp i.symm
  rw[this]
  exact hr)
 have pr':Paired (λu ms=>RM h u ms/\ms∈rows) us rows:=by
  have:=Qbc (f:=id) us pr (Q:=λu ms=>RM h u ms/\ms∈rows) λa b m z=>⟨z,m⟩;rwa [List.map_id]at this
 have:=Qap (f:=id) p2 pr';rw[List.map_id]at this;exact⟨us1,h2,e,k2,this⟩
def QmN(lρ:Z.length=7)(z:HR s h1 u ms)(k:Kp h1 h)(l:ms.length<=1000)(hi:Z[6]?=some (some u)):∃v h2,ev (tb s) (Qa (tb s) (n+1)) (d+4) (.comp (.seq Vg) false none (.meth 4 Vh [])) Z h=some (v,h2)/\Kp h h2/\RL h2 v ms:=by
 obtain⟨p,vs,rfl,hp,pr⟩:=z
 obtain⟨ws,h2,e,k2,p2⟩:=J1 (T:=tb s) (cf:=Qa (tb s) (n+1)) (d:=d+3) (e:=Vg) (Z:=Z) (h:=h) (u:=.ref p) (L:=vs) (el:=.meth 4 Vh []) (λx v g=>∃m,v=.str m/\∀m',SM s h1 x m'->m'=m) (λw w w w w f=>f) (Qb hi) (.inl (QL (k _ _ hp))) (by rw[Qk pr];lia) (λx mx hs k3=>by
  obtain⟨m,mm,q,o,rfl,hq,⟨c,fs,ec,f,lf,me,H⟩,_⟩:=Jp pr mx;have hq':=k3 _ _ (k _ _ hq);refine⟨.str m,hs,?_,Kp.refl _,m,rfl,λm' z=>?_⟩
  ·rw[Qmj,Qb (i:=7) (u:=.ref q) (by rw[X5 (by lia),lρ];rfl),Qm]
   simp only[me q hs hq',evs,Qm,V0,W5,QnA lf,Vu];exact H n q hs hq'
  ·obtain⟨q',o',e1,e2,⟨c',fs',ec',f',lf',me',H'⟩,_⟩:=z;cases e1;have e3:=k3 _ _ (k _ _ e2);have i1:=me' q hs e3;rw[me q hs hq']at i1;cases i1;have i2:=H' n q hs e3;rw[H n q hs hq']at i2;cases i2
   rfl)
 have ew:ws=ms.map U.str:=by
  have p3:=Qap (D:=λv y=>v=U.str y) (f:=id) (Qi (λv x t m' z=>by obtain⟨m,a,b⟩:=t;exact a.trans (congrArg U.str (b m' z).symm)) p2) pr;rw[List.map_id]at p3;exact Qf2 p3
 subst ew;exact⟨_,_,e,k2.trans kp1,_,rfl,at0⟩
def Qjm(lρ:Z.length=6)(hr:h[p]?=some (.lst us))(pr:Paired (HR s h) us rows)(l:∀r∈rows,r.length<=1000)(lr:rows.length<=1000)(hi:Z[4]?=some (sR p)):∃us1 h2,ev (tb s) (Qa (tb s) (n+1)) (d+5) (.comp (.seq Ve) false none (.comp (.seq Vg) false none (.meth 4 Vh []))) Z h=some (.ref h2.length,h2++[.lst us1])/\Kp h h2/\Paired (RL h2) us1 rows:=by
 obtain⟨us1,h2,e,k2,p2⟩:=J1 (T:=tb s) (cf:=Qa (tb s) (n+1)) (d:=d+4) (e:=Ve) (Z:=Z) (h:=h) (u:=.ref p) (L:=us) (el:=.comp (.seq Vg) false none (.meth 4 Vh [])) (λx v g=>∃ms,(∀ms',HR s h x ms'->ms'=ms)/\RL g v ms) (λw w w w k t=>by obtain⟨ms,a,b⟩:=t;exact⟨ms,a,b.kp k⟩) (Qb hi) (.inl (QL hr)) (by rw[Qk pr];lia) (λx mx hs k=>by
  obtain⟨ms,mm,z⟩:=Jp pr mx
  obtain⟨v,h3,e3,k3,rl⟩:=QmN (s:=s) (n:=n) (d:=d) (Z:=Z++[some x]) (by rw[Xn,lρ];rfl) z k (l ms mm) (by rw[X5 (by lia),lρ];rfl)
  refine⟨v,h3,e3,k3,ms,λms' z'=>?_,rl⟩;obtain⟨q,vs,e,a,b⟩:=z;obtain⟨q',vs',e',a',b'⟩:=z';rw[e]at e';cases e';rw[a]at a';cases a';clear a e e3 rl mm
  induction b generalizing ms' with
  |nil=>cases b';rfl
  |cons x _ ih=>
   cases b' with
   |cons y r=>
    rw[ih _ r]
    congr 1
    obtain⟨q1,o1,e1,e2,⟨c,fs,ec,f,lf,me,H⟩,_⟩:=x;obtain⟨q',o',e1',e2',⟨c',fs',ec',f',lf',me',H'⟩,_⟩:=y;rw[e1]at e1';cases e1';have i1:=me' q1 h e2';rw[me q1 h e2]at i1;cases i1;have i2:=H' n q1 h e2';rw[H n q1 h e2]at i2;cases i2
    rfl)
 have:=Qap (D:=RL h2) (f:=id) (Qi (λv x o m' z=>by obtain⟨ms,a,b⟩:=o;rw[show m'=ms from a m' z];exact b) p2) pr
 rw[List.map_id]at this;exact⟨us1,h2,e,k2,this⟩
end
section
variable {ns:List Int}
def Ql6:∃x:Int,Qa (tb (ns.map iU)) (n+1) 67 [.scr,iU 0] h=some (iU x,h):=by
 have vl:∀{d:Nat},ev (tb (ns.map iU)) (Qa (tb (ns.map iU)) n) (d+2) (.bi .len [Va]) [some .scr,some (iU 0)] h=some (.int ((ns.map iU).length:Int) 0,h):=λ{d}=>QgE (Qb rfl) (by unfold biU;rfl)
 cases ns with
 |nil=>
  refine⟨0,?_⟩;rw[Qe fnL[67] rfl rfl];exact(congrArg fin (Qcs (d:=97) (c:=false) (QQ (d:=96) (Qb rfl) vl rfl) rfl)).trans (QaZ y_c)
 |cons x s=>
  refine⟨x,?_⟩;rw[Qe fnL[67] rfl rfl]
  refine QcV (d:=96) (c:=decide ((0:Int) < ((x::s).map iU).length)) (QQ (d:=96) (Qb rfl) vl rfl) (Wt (by simp)) (YQ (u:=.scr) (w:=iU 0) (Qb rfl) (Qb rfl) ?_)
  show atU (iU x::s.map iU) ((0:Nat):Int)=_;exact QmA rfl
def Qom:(Y7 ns (some 1) (some 61)).length<=60:=by
 have e1:ZN ns.length 0 (some 1)=min 1 ns.length:=by simp only[ZN];rw[if_neg (by lia)];rfl
 have e2:ZN ns.length ns.length (some 61)=min 61 ns.length:=by simp only[ZN];rw[if_neg (by lia)];rfl
 unfold Y7;rw[e1,e2,X7];lia
def QnP:∃h1,Qa (tb (ns.map iU)) (n+7) 77 [.scr] h=some (.bl true,h1):=by
 obtain⟨s,es⟩:∃s,s=ns.map iU:=⟨_,rfl⟩;obtain⟨x,e67⟩:=Ql6 (ns:=ns) (n:=n+5) (h:=h)
 have esl:ev (tb (ns.map iU)) (Qa (tb (ns.map iU)) (n+6)) 96 (.sl Va (some Wb) (some (.c (.int 61 0)))) [some .scr,some (iU (x % 7)),none,none,none,none] h=some (.ref h.length,h++[.lst ((Y7 ns (some 1) (some 61)).map iU)]):=by
  rw[QmD,Qb rfl,Qm];simp only[evO,y_c,Qm];show some (U.ref h.length,h++[O.lst (Y7 (ns.map iU) (some 1) (some 61))])=_;rw[Qeb]
 have lcu:=Qom (ns:=ns);generalize Y7 ns (some 1) (some 61)=cu at esl lcu;rw[<-es]at e67 esl ⊢
 have ex7:x % 7=((x % 7).toNat:Int):=by lia
 have lm:(x % 7).toNat<=6:=by lia
 have em:ev (tb s) (Qa (tb s) (n+6)) 98 (.op .Mod (.call 67 [Va,Wa]) (.c (.int 7 0))) [some .scr,none,none,none,none,none] h=some (iU (x % 7),h):=Qcg (d:=96) (ZA (d:=96) (e_2 (Qb rfl) y_c) e67) (by decide)
 rw[ex7]at em esl;generalize (x % 7).toNat=m at em esl lm
 obtain⟨_,h1,e73,k1,p2,us2,rows,rfl,hr,pr,fis,lr,_⟩:=QqR (s:=s) (n:=n+3) (c:=h.length) (h:=h++[O.lst (cu.map iU)]) at0 lcu (m:=m) (by lia)
 have fm:=Qd4 fis
 obtain⟨v3,h2,e75,k2,L3⟩:=QqQ (s:=s) (n:=n+1) (c:=(m:Int)) hr pr (by lia) λr q=>by
  have:=(fm r q).1;lia
 have K02:=k2
 obtain⟨us4,h3,e4,k3,p4⟩:=Qjl (s:=s) (n:=n+2) (d:=90) (Z:=[some .scr,sN m,sR p2,some v3,none,none]) rfl (k2 _ _ hr) (Qi (λw w=>RM.kp k2) pr) (λr q=>by
  have:=(fm r q).1
  lia) (by lia) rfl
 have rs:∀{g:Hs},Kp h3 g->Paired (RS s g) us4 (rows.map λr=>r.map spm):=λ{g} k=>Qbc us4 p4 λa r mr z=>by
  obtain⟨p,vs,e,hp,pv⟩:=z;exact⟨p,vs,e,k _ _ hp,Qbc vs pv λb m mm z=>by obtain⟨q,o,e,hq,_,tl⟩:=z;exact⟨q,o,e,k _ _ hq,tl,Qim ((fm r mr).2 m mm)⟩⟩
 have gm:∀mv∈Qav (m:Int) rows,Gm mv:=λmv q=>QlD (λr q=>(fm r q).2) q
 have lmv:(Qav (m:Int) rows).length<=900000:=by
  have:=Qbw (rows:=rows) λr q=>⟨by
   have:=(fm r q).1
   lia,(fm r q).2⟩
  rw[Qav,Wj];lia
 have K3:Kp h2 (h3++[O.lst us4]):=k3.trans kp1
 obtain⟨_,h5,e56,k5,L5,p5,rfl,l5⟩:=Qpo (s:=s) (n:=n) (rp:=h3.length) (m:=m) (h:=h3++[O.lst us4]) at0 (rs kp1) (Qoq fis) (by lia) (by rw[Xz];lia)
 rw[Qgc]at L5;obtain⟨_,h6,e76,k6,rfl⟩:=Qpn (s:=s) (n:=n+5) gm lmv L5 (L3.kp (K3.trans k5));have K36:Kp h3 h6:=(kp1.trans k5).trans k6
 obtain⟨us7,h7,e7,k7,p7⟩:=Qjm (s:=s) (n:=n+5) (d:=85) (Z:=[some .scr,sN m,sR p2,some v3,sR h3.length,sR p5]) (h:=h6) rfl (k6 _ _ (k5 _ _ at0)) (Qi (λw w=>HR.kp K36) p4) (λr q=>by
  have:=(fm r q).1
  lia) (by lia) rfl
 have K37:Kp h3 (h7++[O.lst us7]):=(K36.trans k7).trans kp1;have eqr:=Qiw (T:=tb s) (h:=h7++[O.lst us7]) (p:=h7.length) (q:=p2) at0 (K37 _ _ (k3 _ _ (k2 _ _ hr))) (Qi (λw w=>RL.kp kp1) p7) (Qi (λw w z=>by obtain⟨p,a,b,_⟩:=z;exact⟨p,a,K37 _ _ (k3 _ _ (k2 _ _ b))⟩) pr) λr q y z=>Qk4 ((fm r q).2 y z);obtain⟨q5,us5,e5,hq5,pq5⟩:=L5;cases e5;have K57:Kp h5 (h7++[O.lst us7]):=(k6.trans k7).trans kp1
 have l5':us5.length<1000000:=by
  have:=Qk pq5;lia
 have ea:=Qcd (T:=tb s) (cf:=Qa (tb s) (n+6)) (d:=90) (Z:=[some .scr,sN m,sR p2,some v3,sR h3.length,sR p5]) (o:=Vf) (e:=.tup [.c (.str [101,110,100])]) (u:=.ref (h7++[O.lst us7]).length) (h1:=h7++[O.lst us7]++[.tup [.str [101,110,100]]]) (Qb rfl) (K57 _ _ hq5) (by rw[Qx];simp only[evs,y_c,Qm]) (kp1 _ _ (K57 _ _ hq5)) l5'
 have K8:Kp (h3++[O.lst us4]) ((h7++[O.lst us7]++[O.tup [.str [101,110,100]]]).set p5 (.lst (us5++[.ref (h7++[O.lst us7]).length]))):=((k5.trans K57).trans kp1).put l5;generalize (h7++[O.lst us7]++[O.tup [.str [101,110,100]]]).set p5 (.lst (us5++[.ref (h7++[O.lst us7]).length]))=h8 at ea K8
 obtain⟨v9,h9,e56',k9,L9,_⟩:=Qpo (s:=s) (n:=n) (rp:=h3.length) (m:=m) (h:=h8) (K8 _ _ at0) (rs (kp1.trans K8)) (Qoq fis) (by lia) (by rw[Xz];lia)
 rw[Qgc]at L9;obtain⟨_,h10,e76',k10,rfl⟩:=Qpn (s:=s) (n:=n+5) gm lmv L9 (L3.kp ((K3.trans K8).trans k9))
 suffices c:Cc (tb s) (n+7) 77 [.scr] h λu w=>u=.bl true by
  obtain⟨u,g,a,rfl⟩:=c;exact⟨g,a⟩
 refine Qbu (Qe fnL[77] rfl rfl) (Jc ((QD (d:=98) em).trans ((QD (d:=97) (ZA (d:=96) (e_2 (Qb rfl) esl) e73)).trans ((QD (d:=96) (ZA (d:=95) (e_2 (Qb rfl) (Qb rfl)) e75)).trans ((QD (d:=95) e4).trans ((QD (d:=94) (ZA (d:=93) (e_2 (Qb rfl) (Qb rfl)) e56)).trans ((Qcs (d:=92) (QeL (d:=92) (Qoc (d:=91) rfl (ZA (d:=90) (e_2 (Qb rfl) (Qb rfl)) e76))) rfl).trans (Qcs (d:=91) (QQ (d:=90) e7 (Qb rfl) eqr) rfl))))))) (Qe2 (d:=92) ea (Yd (d:=90) (Jo (ZA (d:=89) (e_2 (ZA (d:=88) (e_2 (Qb rfl) (Qb rfl)) e56') (Qb rfl)) e76') rfl))))
theorem Qf3:∀ns:List Int,Paired (λ(u:U) (i:Int)=>∃r m,u=.int r m/\∃q:Int,i=r+m*q) (ns.map λi=>U.int i 0) ns
 |[]=>.nil
 |i::ns=>.cons ⟨i,0,rfl,0,by simp⟩ (Qf3 ns)
end
def comp(ns:List Int)(_hl:ns.length<=63):∃s hs',Paired (λ(u:U) (i:Int)=>∃r m,u=.int r m/\∃q:Int,i=r+m*q) s ns/\Qa (tb s) 7 77 [.scr] []=some (.bl true,hs'):=by
 obtain⟨h,e⟩:=QnP (ns:=ns) (n:=0) (h:=[]);exact⟨_,h,Qf3 ns,e⟩
noncomputable def hfL:List Addr:=[82,89,110,117,124,131,138,171,178,185,192,225,232,239,246,279,286,293,300,307,340,347,354,359,366,399,406,413,418,425,458,465,472,479,512,519,526,533,540,573,580,587,594,601,633,639,651,656,661,666,673,680,699,711,716,723,730,737,742,747,754,767,774,781,788,795,802,809,816,823,830,837,844,849,854,861,868,873]
noncomputable def hcL:List Addr:=[92,155,209,263,324,383,442,496,557,618,683,702]
noncomputable def hkL:List Addr:=[66,67,68,755,756,757,758,759,760]
noncomputable def adr(a:Addr):Adr:=⟨λi=>hfL.getD i 0,λi=>hcL.getD i 0,λi=>hkL.getD i 0,a⟩
def Ql8(s:List U):Qcb (tb s) glo Qoz:=Qei (by repeat (first|exact .nil|refine .cons (by kernel_rfl) ?_))
section
variable (w:World)(s:List U)(a:Addr)
def QlT{Kf:W.Frag}{fd0:FuncData}(hd:fd0.defaults=.ref 628)(ho:Kf.lookup 628=some (tu #[(.none),(.none)] 0)):∀n,Binds Kf (fnT fnL[44] fd0) ["self","way","cast","web","names"] (List.drop n [(.none),(.none)])
 |0=>Yq (m:=3) rfl λs v X=>W.binds_K X hd ho rfl rfl rfl
 |1=>Yq (m:=4) rfl λs v X=>W.binds_K X hd ho rfl rfl rfl
 |n+2=>by
  rw[List.drop_eq_nil_of_le (by simp)]
  exact Yq (m:=5) rfl λs v X=>W.binds_K X hd ho rfl rfl rfl
def QlS{Kf:W.Frag}{fd0:FuncData}(hd:fd0.defaults=.ref 634)(ho:Kf.lookup 634=some (tu #[(.bool false)] 0)):∀n,Binds Kf (fnT fnL[45] fd0) ["self","stitches","turn"] (List.drop n [(.bool false)])
 |0=>Yq (m:=2) rfl λs v X=>W.binds_K X hd ho rfl rfl rfl
 |n+1=>by
  rw[List.drop_eq_nil_of_le (by simp)]
  exact Yq (m:=3) rfl λs v X=>W.binds_K X hd ho rfl rfl rfl
def Qqx:AllI (FnA (K w.params) (adr a)) 0 (tb s).fns:=by((iterate 44 refine .cons ⟨by kernel_rfl,by kernel_rfl,.inl λv=>by kernel_rfl⟩ ?_);refine .cons ⟨by kernel_rfl,by kernel_rfl,.inr (QfJ (fd':=fnT fnL[44] (QaJ (K w.params) ((adr a).f 44))) (by kernel_rfl) (QlT (by kernel_rfl) (by kernel_rfl) 2))⟩ ?_;refine .cons ⟨by kernel_rfl,by kernel_rfl,.inr (QfJ (fd':=fnT fnL[45] (QaJ (K w.params) ((adr a).f 45))) (by kernel_rfl) (QlS (by kernel_rfl) (by kernel_rfl) 1))⟩ ?_;repeat (first|exact .nil|refine .cons ⟨by kernel_rfl,by kernel_rfl,.inl λv=>by kernel_rfl⟩ ?_))
def QqJ:AllI (λz (p:Nat×Df)=>∃fd x q st,FunD (K w.params) x q st ((adr a).f p.1) fd/\Qi5 (adr a) (K w.params) fd p.2/\∀F,(tb s).fns[p.1]?=some F->F.ps=p.2.ps/\F.np=p.2.np) 0 (tb s).dfl:=(.cons ⟨_,_,_,_,(JU (F:=fnL[44]) (by kernel_rfl) (by kernel_rfl)).1,⟨[(.none),(.none)],[.non,.non],(.cons rfl (.cons rfl .nil)),(.cons rfl (.cons rfl .nil)),λn=>(QfJ (fd':=fnT fnL[44] (QaJ (K w.params) ((adr a).f 44))) (by kernel_rfl) (QlT (by kernel_rfl) (by kernel_rfl) n))⟩,λF e=>by cases e;exact⟨rfl,rfl⟩⟩ (.cons ⟨_,_,_,_,(JU (F:=fnL[45]) (by kernel_rfl) (by kernel_rfl)).1,⟨[(.bool false)],[.bl false],(.cons rfl .nil),(.cons rfl .nil),λn=>(QfJ (fd':=fnT fnL[45] (QaJ (K w.params) ((adr a).f 45))) (by kernel_rfl) (QlS (by kernel_rfl) (by kernel_rfl) n))⟩,λF e=>by cases e;exact⟨rfl,rfl⟩⟩ .nil))
def Qpk:Qi4 (λk c=>coB (K w.params) (adr a) ((adr a).k k) c) 0 (tb s).cons=true:=by kernel_rfl
def Qqu:AllI (λk z=>QoH (K w.params) w ((adr a).k k)) 0 (tb s).cons:=by repeat (first|exact .nil|refine .cons (by kernel_rfl) ?_)
def QpD:QmR (K w.params) (tb s) (adr a) glo Qoz=true:=by kernel_rfl
end
def all_at{l:W.OpenLaw}(w:World){mg:Str->Option Value}{fa:Addr}{h:Heap}(X:(K w.params).In h)(G:h.Ns mainGlobals mg)(hfa:mg "law"=some (.ref fa)):
  ∃fd:FuncData,(∀(s:Shared) (v:Value),BindsTo s fd ⟨[v],[]⟩ [("_law_script",v)])/\∀base:Heap,(K w.params).In base->base.Ns mainGlobals mg->FnOk l.prog w (K w.params) mg base CX0 (0+2*7) fa fd ["_law_script"] (QeT (K w.params)):= by
 have tp:∀(s:List U) (a:Addr),Top (tb s) (adr a) (K w.params) mg glo Qoz:=λs a=>Qjx X G (Qqx w s a) (Qpk w s a) (QpD w s a) (QqJ w s a) .nil;have tab:∀(s:List U) (a:Addr),QaW l.prog w (tb s) (adr a) (K w.params):=λs a=>QjB (Qpk w s a) (Qqu w s a)
 cases hfa.symm.trans ((tp [] 0).gfn "law" 77 (by kernel_rfl))
 have hX:∀(base:Heap) (s:List U) (a:Addr),XOk l.prog w (K w.params) mg base (tb s) (adr a) 0:=λbase s a=>Qqm (tp s a) rfl
 exact⟨QaJ (K w.params) ((adr 0).f 77),λs v=>.of_eq (by kernel_rfl),λbase z z=>Qk9 (tb:=tb) (adr:=adr) (L:=77) (F:=⟨"law","law",top 55,["_law_script"],["_law_script","_law_cast","_law_rows_here","_law_due","_law_handed","_law_found"],1,6,true,b77⟩) (λz=>rfl) (λz=>rfl) rfl rfl (λz=>rfl) (λz=>rfl) tp tab Ql8 (hX base) (JU (F:=⟨"law","law",top 55,["_law_script"],["_law_script","_law_cast","_law_rows_here","_law_due","_law_handed","_law_found"],1,6,true,b77⟩) (by kernel_rfl) (by kernel_rfl)).1 comp⟩
def walk{l:W.OpenLaw}{q:Program}{loose:List Str}{XP:(Str->Option Value)->Heap->Prop}{YP:World->Heap->Prop}{d:DefRec}{K:Params->W.Frag}(hn:l.most=some 63)(hdf:d.params.defaults=[])
  (hY:∀(w:World) (h:Heap),YP w h->(K w.params).In h)
  (F:∀(w:World) (mg:Str->Option Value) (fa:Addr) (h:Heap),(K w.params).In h->h.Ns mainGlobals mg->mg d.name=some (.ref fa) ->
   ∃fd:FuncData,(∀(s:Shared) (u:Value),BindsTo s fd ⟨[u],[]⟩ [("_law_script",u)])/\∀base:Heap,(K w.params).In base->base.Ns mainGlobals mg->FnOk l.prog w (K w.params) mg base CX0 (0+2*7) fa fd ["_law_script"] (QeT (K w.params))):
  W.WalkO q loose XP YP l.row.toRowW d [] (λf vs=>PySem.call f vs):=
 L2.walk_of (n:=63) (k:=(0+2*7)) (x:="_law_script") (CX:=λy=>CX0) (sp:=λw=>QeT (K w.params)) hn (by decide) hdf ⟨rfl,by decide,by decide⟩ hY F (λy y a ns hl hO hS=>⟨a,ns,rfl,hS,hO,hl,λy=>rfl⟩) λy y y y y z=>z
end K60
open PySem PySem.W PyProof.Rows
set_option maxRecDepth 100000 in
set_option maxHeartbeats 0 in
theorem PySem.Challenge.cw_stitchroom_k60_rows_to_moves_holds : PySem.Challenge.rw_stitchroom_k60_rows_to_moves.Holds := by
 w_on;refine W.holds_law (by kernel_rfl) λsaid=>?_
 refine holds_open (q:=K60.hq) (loose:=K60.hlo) (Xt:=K60.hXt) (XP:=XL K60.hq []) (Yf:=K60.hYf) (Ya:=K60.hYa) (YP:=Hook.says (kHook K60.K K60.KA K60.hKA)) (N:=13218) K60.hleft (Hook.of (kHook K60.K K60.KA K60.hKA)) (Hook.keeps (kHook K60.K K60.KA K60.hKA)) (λs e=>xl_of s (Bool.and_eq_true_iff.mp e).1) XL.keeps (by rfl) (by rfl) (by rfl) (λs e=>recFacts_of (Bool.and_eq_true_iff.mp e).2) (by rfl) (by first|assumption|decide +kernel) (by decide +kernel) ⟨rfl,rfl,rfl,rfl,rfl,by decide +kernel⟩ ?hw ?hc
 (case hw=>w_witness2)
 refine K60.walk (l:=PySem.Challenge.rw_stitchroom_k60_rows_to_moves) rfl rfl (λw h Yyy=>W.kIn_of Yyy) ?F
 case F=>
  intro w mg fa h KX G hmg;exact K60.all_at w KX G hmg
