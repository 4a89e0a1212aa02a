import PyProof.Rows.All
import Wide.All
import OpenK.AllK
import Wide.FinOn
import PyProof.EqAt
import PyProof.EqKinds
import PyProof.TupleCall
import PySem.Challenge.RW_stitchroom_k44_whole_fewest_words
set_option Elab.async false
set_option linter.all false
set_option maxRecDepth 100000
set_option maxHeartbeats 4000000
namespace L2
open PySem PySem.Spec PyProof.Rows
abbrev Key:=Sum Int Str
def keyIs:Key -> Value -> Bool
 | .inl k,v => Value.isInt k v
 | .inr x,v => Value.isStrOf x v
def keyH (w:World):Key -> Int
 | .inl k => hashInt k
 | .inr x => hashStr w x
theorem keyIs_shape:∀ {k:Key} {v:Value},keyIs k v = true -> (∃ i t,k = Sum.inl i /\ v = Value.int i t) \/ (∃ x t,k = Sum.inr x /\ v = Value.str x t)
 | .inl i,v,h => by
  obtain ⟨t,e⟩:=Value.isInt_shape (k:=i) (v:=v) h
  exact .inl ⟨i,t,rfl,e⟩
 | .inr x,v,h => by
  obtain ⟨t,e⟩:=Value.isStrOf_shape (x:=x) (v:=v) h
  exact .inr ⟨x,t,rfl,e⟩
theorem keyIs_int (i:Int) (t:Tok):keyIs (.inl i) (.int i t) = true:=by simp [keyIs,Value.isInt]
theorem keyIs_str (x:Str) (t:Tok):keyIs (.inr x) (.str x t) = true:=by simp [keyIs,Value.isStrOf]
theorem key_ll (a b:Int):decide ((Sum.inl a:Key) = Sum.inl b) = (a == b):=by
 by_cases e:a = b
 ·subst e; simp
 ·have h:¬ (Sum.inl a:Key) = Sum.inl b:=fun q => e (Sum.inl.inj q)
  rw [decide_eq_false h]
  exact (beq_eq_false_iff_ne.mpr e).symm
theorem key_rr (a b:Str):decide ((Sum.inr a:Key) = Sum.inr b) = decide (a = b):=by
 by_cases e:a = b
 ·subst e; simp
 ·have h:¬ (Sum.inr a:Key) = Sum.inr b:=fun q => e (Sum.inr.inj q)
  rw [decide_eq_false h,decide_eq_false e]
theorem key_lr (a:Int) (b:Str):decide ((Sum.inl a:Key) = Sum.inr b) = false:=decide_eq_false (fun q => nomatch q)
theorem key_rl (a:Str) (b:Int):decide ((Sum.inr a:Key) = Sum.inl b) = false:=decide_eq_false (fun q => nomatch q)
def mixKind (prog:Program) (w:World):PySem.KeyKind prog w Key where
 is:=keyIs
 hash:=keyH w
 inj:=fun v a b ha hb => by
  rcases keyIs_shape ha with ⟨i,t,rfl,rfl⟩ | ⟨x,t,rfl,rfl⟩
  ·rcases keyIs_shape hb with ⟨j,u,rfl,e⟩ | ⟨y,u,rfl,e⟩
   ·injection e with e1 _; rw [e1]
   ·exact nomatch e
  ·rcases keyIs_shape hb with ⟨j,u,rfl,e⟩ | ⟨y,u,rfl,e⟩
   ·exact nomatch e
   ·injection e with e1 _; rw [e1]
 byValue:=fun k v h => by
  rcases keyIs_shape h with ⟨i,t,rfl,rfl⟩ | ⟨x,t,rfl,rfl⟩ <;> rfl
 pyHash:=fun hv h => by
  rcases keyIs_shape hv with ⟨i,t,rfl,rfl⟩ | ⟨x,t,rfl,rfl⟩
  ·exact wpAny_pyHash_int h
  ·exact wpAny_pyHash_str h
 eqBool:=fun hu hv h => by
  rcases keyIs_shape hu with ⟨i,t,rfl,rfl⟩ | ⟨x,t,rfl,rfl⟩
  ·rcases keyIs_shape hv with ⟨j,u,rfl,rfl⟩ | ⟨y,u,rfl,rfl⟩
   ·rw [key_ll] at h; exact wpAny_eqBool_int h
   ·rw [key_lr] at h; exact SeqAt.EqAt.int_str i t y u _ _ _ _ h
  ·rcases keyIs_shape hv with ⟨j,u,rfl,rfl⟩ | ⟨y,u,rfl,rfl⟩
   ·rw [key_rl] at h; exact SeqAt.EqAt.str_int x t j u _ _ _ _ h
   ·rw [key_rr] at h; exact wpAny_eqBool_str h
 «strs»:=fun k x t v h => by
  rcases keyIs_shape h with ⟨i,u,rfl,e⟩ | ⟨y,u,rfl,e⟩
  ·exact nomatch e
  ·injection e with e1 _
   subst e1
   cases v <;> rfl
theorem mixKind_int (prog:Program) (w:World) (i:Int) (t:Tok):(mixKind prog w).is (.inl i) (.int i t) = true:=keyIs_int i t
theorem mixKind_str (prog:Program) (w:World) (x:Str) (t:Tok):(mixKind prog w).is (.inr x) (.str x t) = true:=keyIs_str x t
end L2
namespace L2
open PySem PySem.Spec PyProof.Rows
inductive V where
 | non | bl (b:Bool) | int (i:Int) | str (x:Str) | byt (b:Array UInt8) | flt (b:UInt64) | ref (a:Addr) | ty (n:String)
 deriving DecidableEq
def RelV:V -> Value -> Prop
 | .non,u => u = Value.none
 | .bl b,u => u = Value.bool b
 | .int i,u => ∃ t,u = Value.int i t
 | .str x,u => ∃ t,u = Value.str x t
 | .byt b,u => ∃ t,u = Value.bytes b t
 | .flt b,u => ∃ t,u = Value.float b t
 | .ref a,u => u = Value.ref a
 | .ty n,u => u = Value.type n
abbrev Vals:List V -> List Value -> Prop:=Paired RelV
theorem Vals.length {xs:List V} {us:List Value} (r:Vals xs us):xs.length = us.length:=Paired.length r
theorem Vals.get:∀ {xs:List V} {us:List Value} {i:Nat} {x:V},Vals xs us -> xs[i]? = some x -> ∃ u,us[i]? = some u /\ RelV x u
 | _,_,_,_,.nil,e => by simp at e
 | _,_,0,_,.cons r _,e => by simp at e; subst e; exact ⟨_,rfl,r⟩
 | _,_,i + 1,x,.cons _ t,e => by
  obtain ⟨u,h1,h2⟩:=Vals.get (i:=i) (x:=x) t (by simpa using e)
  exact ⟨u,by simpa using h1,h2⟩
theorem Vals.append:∀ {xs ys:List V} {us ws:List Value},Vals xs us -> Vals ys ws -> Vals (xs ++ ys) (us ++ ws)
 | _,_,_,_,.nil,s => s
 | _,_,_,_,.cons r t,s => .cons r (Vals.append t s)
theorem Vals.take:∀ {xs:List V} {us:List Value} (n:Nat),Vals xs us -> Vals (xs.take n) (us.take n)
 | _,_,0,_ => .nil
 | _,_,_ + 1,.nil => .nil
 | _,_,n + 1,.cons r t => .cons r (Vals.take n t)
theorem Vals.drop:∀ {xs:List V} {us:List Value} (n:Nat),Vals xs us -> Vals (xs.drop n) (us.drop n)
 | _,_,0,r => r
 | _,_,_ + 1,.nil => .nil
 | _,_,n + 1,.cons _ t => Vals.drop n t
def RelO:Option V -> Option Value -> Prop
 | some v,some u => RelV v u
 | none,none => True
 | _,_ => False
def KV {κ:Type}:List (κ × V) -> List (κ × Value) -> Prop:=Paired fun (p:κ × V) (q:κ × Value) => p.1 = q.1 /\ RelV p.2 q.2
def kV:Key -> V
 | .inl i => .int i
 | .inr x => .str x
inductive HO where
 /-- a list -/
 | lst (xs:List V)
 /-- a tuple (never changes) -/
 | tup (xs:List V)
 /-- a dict whose keys are ints and texts; one whose keys are tuples of ints and texts (the empty one is both) -/
 | dK (kvs:List (Key × V)) | dT (kvs:List (List Key × V))
 /-- a set of ints: its members,its size -/
 | set (S:Int -> Bool) (n:Nat)
 /-- an instance of the class at C,its dict at dx,its attributes -/
 | ins (C dx:Addr) (fs:List (Str × V))
 /-- the dict of the instance at x -/
 | own (x:Addr)
 /-- the dict of an exception -/
 | xd (fs:List (Str × V))
 /-- a bound method,f of x -/
 | met (f x:Addr)
 /-- a range object lo,lo + 1,.. below hi -/
 | rng (lo hi:Int)
 /-- a thing that is known to the object (the script; a dict while a loop walks it): read,never written while it is so -/
 | frz (o:Obj) (u:HO)
 /-- a code object's table -/
 | tbl (ps:Array Value)
 /-- any other thing,by what is true of its one object (a def of one's own: SetO a S n:=HO.ext fun h => ..) -/
 | ext (φ:Heap -> Prop)
abbrev Hp:=Addr -> Option HO
def upd (H:Hp) (a:Addr) (o:HO):Hp:=fun b => if b = a then some o else H b
theorem upd_same {H:Hp} {a:Addr} {o:HO}:upd H a o a = some o:=by unfold upd; rw [if_pos rfl]
theorem upd_ne {H:Hp} {a b:Addr} {o:HO} (h:b ≠ a):upd H a o b = H b:=by unfold upd; rw [if_neg h]
theorem ne_of_none {H:Hp} {a b:Addr} {o:HO} (h:H a = some o) (h':H b = none):a ≠ b:=by
 intro e; subst e; rw [h] at h'; cases h'
section
variable (P:Program) (w:World)
def ObjOk (H:Hp) (h:Heap) (a:Addr):HO -> Prop
 | .lst xs => xs.length <= sizeLine /\ ∃ (its : List Value) (n : Nat), Vals xs its /\ h.get? a = some { cls := .type "list", data := .seq its.toArray n }
 | .tup xs => xs.length <= sizeLine /\ ∃ its:List Value,Vals xs its /\ IsTup h a its.toArray
 | .dK kvs => kvs.length <= sizeLine /\ (a == sysModules) = false /\ ∃ vs,KV kvs vs /\ h.DictOf (mixKind P w) a vs
 | .dT kvs => kvs.length <= sizeLine /\ (a == sysModules) = false /\ ∃ xs:List (List Key × Addr × Value),
   Paired (fun (p:List Key × V) (q:List Key × Addr × Value) => p.1 = q.1 /\ H q.2.1 = some (.tup (p.1.map kV)) /\ RelV p.2 q.2.2) kvs xs /\
   ∃ o es ep,h.get? a = some o /\ o.ExactDict /\ o.data = .dict es ep /\ es.toList = xs.map (entryOfKey (tupleKind (mixKind P w))) /\ (xs.map (·.1)).Nodup
 | .set S n => h.SetOf (intKind P w) a S n
 | .ins C dx fs => H dx = some (.own a) /\ fs.length <= 1000 /\ dx ≠ a /\ h.get? a = some (PySem.W.instObj C dx) /\
   ∃ mA,h.Ns1 dx mA /\ (∀ f,RelO (fs.lookup f) (mA f)) /\ PySem.Within mA (fs.map (·.1))
 | .own _ => ∃ o,h.get? a = some o
 | .xd fs => ∃ mA,h.Ns1 a mA /\ ∀ f,RelO (fs.lookup f) (mA f)
 | .rng lo hi => ∃ t u v,h.get? a = some { cls:=.type "range",data:=.fields #[.int lo t,.int hi u,.int 1 v] }
 | .frz o u => h.get? a = some o /\ ObjOk H h a u
 | .tbl ps => h.get? a = some { cls:=.none,data:=.fields ps }
 | .met f x => h.get? a = some (PySem.W.methodObj (.ref f) (.ref x))
 | .ext φ => φ h /\ (∃ o,h.get? a = some o) /\ ∀ h1 h2:Heap,φ h1 -> (∀ o,h1.get? a = some o -> h2.get? a = some o) -> φ h2
def HOk (H:Hp) (h:Heap):Prop:=∀ a o,H a = some o -> ObjOk P w H h a o
end
section
variable {P:Program} {w:World} {H H':Hp} {h h':Heap} {a:Addr} {o:HO}
theorem ObjOk.lt (x:ObjOk P w H h a o):a < h.objs.size:=by
 cases o with
 | lst xs => obtain ⟨_,_,_,_,e⟩:=x; exact Heap.lt_size e
 | tup xs => obtain ⟨_,_,_,p⟩:=x; exact p.lt
 | dK kvs => obtain ⟨_,_,_,_,o,_,_,e,_⟩:=x; exact Heap.lt_size e
 | dT kvs => obtain ⟨_,_,_,_,o,_,_,e,_⟩:=x; exact Heap.lt_size e
 | set S n => obtain ⟨o,_,_,_,e,_⟩:=x; exact Heap.lt_size e
 | ins C dx fs => obtain ⟨_,_,_,e,_⟩:=x; exact Heap.lt_size e
 | own y => obtain ⟨_,e⟩:=x; exact Heap.lt_size e
 | xd fs => obtain ⟨_,⟨_,_,_,e,_⟩,_⟩:=x; exact Heap.lt_size e
 | rng lo hi => obtain ⟨_,_,_,e⟩:=x; exact Heap.lt_size e
 | frz ob u => obtain ⟨e,_⟩:=x; exact Heap.lt_size e
 | tbl ps => exact Heap.lt_size (show h.get? a = some _ from x)
 | met f y => exact Heap.lt_size (show h.get? a = some _ from x)
 | ext φ => obtain ⟨_,⟨_,e⟩,_⟩:=x; exact Heap.lt_size e
theorem Paired.mapP {α β:Type} {F G:α -> β -> Prop}:∀ {l₁:List α} {l₂:List β},Paired F l₁ l₂ -> (∀ a b,F a b -> G a b) -> Paired G l₁ l₂
 | _,_,.nil,_ => .nil
 | _,_,.cons r t,f => .cons (f _ _ r) (Paired.mapP t f)
theorem ObjOk.stay (x:ObjOk P w H h a o) (k:∀ b u,(b = a \/ H b = some (.own a)) -> h.get? b = some u -> h'.get? b = some u)
  (ho:∀ b,H b = some (.own a) -> H' b = some (.own a)) (ht:∀ b xs,H b = some (.tup xs) -> H' b = some (.tup xs)):ObjOk P w H' h' a o:=by
 induction o with
 | lst xs => obtain ⟨z,its,n,r,e⟩:=x; exact ⟨z,its,n,r,k _ _ (.inl rfl) e⟩
 | tup xs => obtain ⟨z,its,r,ob,e,c⟩:=x; exact ⟨z,its,r,ob,k _ _ (.inl rfl) e,c⟩
 | dK kvs => obtain ⟨z,y,vs,r,ob,es,ep,e,c⟩:=x; exact ⟨z,y,vs,r,ob,es,ep,k _ _ (.inl rfl) e,c⟩
 | dT kvs =>
  obtain ⟨z,y,xs,r,ob,es,ep,e,c⟩:=x
  exact ⟨z,y,xs,Paired.mapP r fun p q z => ⟨z.1,ht _ _ z.2.1,z.2.2⟩,ob,es,ep,k _ _ (.inl rfl) e,c⟩
 | set S n => obtain ⟨ob,es,ep,t,e,c⟩:=x; exact ⟨ob,es,ep,t,k _ _ (.inl rfl) e,c⟩
 | ins C dx fs =>
  obtain ⟨d,z,ne,e,mA,⟨od,es,ep,e2,c⟩,r⟩:=x
  exact ⟨ho _ d,z,ne,k _ _ (.inl rfl) e,mA,⟨od,es,ep,k _ _ (.inr d) e2,c⟩,r⟩
 | own y => obtain ⟨ob,e⟩:=x; exact ⟨ob,k _ _ (.inl rfl) e⟩
 | xd fs => obtain ⟨mA,⟨od,es,ep,e,c⟩,r⟩:=x; exact ⟨mA,⟨od,es,ep,k _ _ (.inl rfl) e,c⟩,r⟩
 | rng lo hi => obtain ⟨t,u,v,e⟩:=x; exact ⟨t,u,v,k _ _ (.inl rfl) e⟩
 | frz ob u ih => obtain ⟨e,q⟩:=x; exact ⟨k _ _ (.inl rfl) e,ih q⟩
 | tbl ps =>
  have e:h.get? a = some { cls:=.none,data:=.fields ps }:=x
  show h'.get? a = some { cls:=.none,data:=.fields ps }
  exact k a _ (.inl rfl) e
 | met f y =>
  have e:h.get? a = some (PySem.W.methodObj (.ref f) (.ref y)):=x
  show h'.get? a = some (PySem.W.methodObj (.ref f) (.ref y))
  exact k a _ (.inl rfl) e
 | ext φ => obtain ⟨p,⟨o,e⟩,st⟩:=x; exact ⟨st _ _ p fun o q => k _ _ (.inl rfl) q,⟨o,k _ _ (.inl rfl) e⟩,st⟩
theorem HOk.lt (x:HOk P w H h) (e:H a = some o):a < h.objs.size:=(x a o e).lt
theorem HOk.fresh (x:HOk P w H h) (e:h.objs.size <= a):H a = none:=by
 cases q:H a with
 | none => rfl
 | some u => exact absurd (Nat.lt_of_lt_of_le (x.lt q) e) (Nat.lt_irrefl _)
theorem HOk.kept (x:HOk P w H h) (k:∀ b u,h.get? b = some u -> h'.get? b = some u):HOk P w H h':=fun a o e =>
 (x a o e).stay (fun b u _ q => k b u q) (fun _ q => q) fun _ _ q => q
theorem HOk.laid (x:HOk P w H h) (k:∀ b u,h.get? b = some u -> h'.get? b = some u) (hp:h.objs.size <= a) (new:ObjOk P w (upd H a o) h' a o):HOk P w (upd H a o) h':=fun b u e => by
 have hn:=x.fresh hp
 by_cases hb:b = a
 ·subst hb; rw [upd_same] at e; cases e; exact new
 ·rw [upd_ne hb] at e
  exact (x b u e).stay (fun c v _ q => k c v q) (fun c q => by rw [upd_ne (ne_of_none q hn)]; exact q) fun c xs q => by rw [upd_ne (ne_of_none q hn)]; exact q
end
def Rd (H:Hp) (a:Addr) (u:HO):Prop:=H a = some u \/ ∃ o,H a = some (.frz o u)
theorem Rd.ok {P:Program} {w:World} {H:Hp} {h:Heap} {a:Addr} {u:HO} (r:Rd H a u) (x:HOk P w H h):ObjOk P w H h a u:=by
 rcases r with r | ⟨o,r⟩
 ·exact x a u r
 ·obtain ⟨_,q⟩:=x a _ r
  exact q
def Mut:Option HO -> Prop
 | some (.lst _) => True
 | some (.dK _) => True
 | some (.dT _) => True
 | some (.set _ _) => True
 | some (.ins _ _ _) => True
 | some (.ext _) => True
 | _ => False
section
variable {P:Program} {w:World} {H:Hp} {h h':Heap} {x e:Addr} {o':HO}
theorem HOk.write (ok:HOk P w H h) (mu:Mut (H x)) (he:e = x \/ H e = some (.own x)) (k:∀ b u,b ≠ e -> h.get? b = some u -> h'.get? b = some u) (heo:∃ u,h'.get? e = some u)
  (new:ObjOk P w (upd H x o') h' x o'):HOk P w (upd H x o') h':=fun b u q => by
 have nown:∀ c y,H c = some (.own y) -> c ≠ x:=fun c y r z => by subst z; rw [r] at mu; exact mu
 have ntup:∀ c xs,H c = some (.tup xs) -> c ≠ x:=fun c xs r z => by subst z; rw [r] at mu; exact mu
 by_cases hb:b = x
 ·subst hb; rw [upd_same] at q; cases q; exact new
 ·rw [upd_ne hb] at q
  by_cases hbe:b = e
  ·have q':H b = some (.own x):=by
    rcases he with z | z
    ·exact absurd (hbe.trans z) hb
    ·rw [hbe]; exact z
   rw [q] at q'; cases q'
   obtain ⟨v,hv⟩:=heo
   exact ⟨v,by rw [hbe]; exact hv⟩
  ·refine (ok b u q).stay (fun c v hc r => k c v ?_ r) (fun c r => by rw [upd_ne (nown c b r)]; exact r) fun c xs r => by rw [upd_ne (ntup c xs r)]; exact r
   rcases hc with rfl | hc
   ·exact hbe
   ·rintro rfl
    rcases he with z | z
    ·exact nown c b hc z
    ·rw [hc] at z; cases z; exact hb rfl
end
structure Un (fs ex:List Addr) (H H':Hp) (h h':Heap):Prop where
 keep:∀ b o,h.get? b = some o -> H b = none -> b ∉ fs -> b ∉ ex -> h'.get? b = some o
 slot:∀ b o,h.get? b = some o -> H b = none -> b ∈ fs -> b ∉ ex -> ∃ sl,h'.get? b = some { o with slots:=sl }
 free:∀ b o,h.get? b = some o -> H b = none -> b ∉ ex -> H' b = none
 there:∀ b o,h.get? b = some o -> b ∉ ex -> ∃ o',h'.get? b = some o'
 tups:∀ b xs,H b = some (.tup xs) -> H' b = some (.tup xs)
 frzs:∀ b o u,H b = some (.frz o u) -> H' b = some (.frz o u)
 tbls:∀ b ps,H b = some (.tbl ps) -> ∃ more,H' b = some (.tbl (ps ++ more))
section
variable {fs fs' ex ex':List Addr} {H H1 H2:Hp} {h h1 h2 h':Heap} {a x e:Addr} {o:HO}
theorem Un.any (u:Un fs ex H H1 h h1) {b:Addr} {ob:Obj} (q:h.get? b = some ob) (n:H b = none) (hx:b ∉ ex):∃ sl,h1.get? b = some { ob with slots:=sl }:=by
 by_cases hb:b ∈ fs
 ·exact u.slot b ob q n hb hx
 ·exact ⟨ob.slots,u.keep b ob q n hb hx⟩
theorem Un.kept (k:∀ b u,h.get? b = some u -> h'.get? b = some u):Un fs ex H H h h' :=
 ⟨fun b ob q _ _ _ => k b ob q,fun b ob q _ _ _ => ⟨ob.slots,k b ob q⟩,fun _ _ _ n _ => n,fun b ob q _ => ⟨ob,k b ob q⟩,fun _ _ q => q,fun _ _ _ q => q,fun _ ps q => ⟨#[],by rw [q]; simp⟩⟩
theorem Un.refl:Un fs ex H H h h:=Un.kept fun _ _ q => q
theorem Un.laid (k:∀ b u,h.get? b = some u -> h'.get? b = some u) (hp:h.objs.size <= a) (hn:H a = none):Un fs ex H (upd H a o) h h' where
 keep:=fun b u q _ _ _ => k b u q
 slot:=fun b u q _ _ _ => ⟨u.slots,k b u q⟩
 free:=fun b u q n _ => by rw [upd_ne (Nat.ne_of_lt (Nat.lt_of_lt_of_le (Heap.lt_size q) hp))]; exact n
 there:=fun b u q _ => ⟨u,k b u q⟩
 tups:=fun b xs q => by rw [upd_ne (ne_of_none q hn)]; exact q
 frzs:=fun b u xs q => by rw [upd_ne (ne_of_none q hn)]; exact q
 tbls:=fun b ps q => ⟨#[],by rw [upd_ne (ne_of_none q hn),q]; simp⟩
theorem Un.write (mu:Mut (H x)) (he:e = x \/ H e = some (.own x)) (k:∀ b u,b ≠ e -> h.get? b = some u -> h'.get? b = some u) (heo:∃ u,h'.get? e = some u):Un fs ex H (upd H x o) h h':=by
 have hx:∀ b,H b = none -> b ≠ x:=fun b n z => by subst z; rw [n] at mu; exact mu
 have hb:∀ b,H b = none -> b ≠ e:=fun b n z => by
  subst z
  rcases he with r | r
  ·exact hx b n r
  ·rw [n] at r; cases r
 have hm:∀ b u,H b = some u -> ¬ Mut (some u) -> b ≠ x:=fun b u q nm z => by subst z; rw [q] at mu; exact nm mu
 refine ⟨fun b u q n _ _ => k b u (hb b n) q,fun b u q n _ _ => ⟨u.slots,k b u (hb b n) q⟩,fun b u q n _ => by rw [upd_ne (hx b n)]; exact n,fun b u q _ => ?_,
  fun b xs q => by rw [upd_ne (hm b _ q fun z => z)]; exact q,fun b u xs q => by rw [upd_ne (hm b _ q fun z => z)]; exact q,fun b ps q => ⟨#[],by rw [upd_ne (hm b _ q fun z => z),q]; simp⟩⟩
 by_cases hbe:b = e
 ·subst hbe; exact heo
 ·exact ⟨u,k b u hbe q⟩
end
def trk (h:Heap) (H:Hp):List Addr:=(List.range h.objs.size).filter fun a => (H a).isSome
def hidT (h:Heap) (H:Hp):Heap:=PySem.W.hideAll h (trk h H)
theorem hidT_size (h:Heap) (H:Hp):(hidT h H).objs.size = h.objs.size:=PySem.W.hideAll_size _ _
theorem hidT_get {h:Heap} {H:Hp} {b:Addr} {o:Obj} (e:h.get? b = some o) (n:H b = none):(hidT h H).get? b = some o :=
 PySem.W.hideAll_get _ e fun hm => by
  have q:(H b).isSome = true:=(List.mem_filter.mp hm).2
  rw [n] at q; simp at q
theorem of_hidT {h:Heap} {H:Hp} {b:Addr} {o:Obj} (e:(hidT h H).get? b = some o):h.get? b = some o /\ H b = none:=by
 have e':h.get? b = some o:=PySem.W.of_hideAll (trk h H) e
 refine ⟨e',?_⟩
 cases q:H b with
 | none => rfl
 | some x =>
  have hm:b ∈ trk h H:=List.mem_filter.mpr ⟨List.mem_range.mpr (Heap.lt_size e'),by simp [q]⟩
  have z:(hidT h H).get? b = none:=PySem.W.hideAll_none (trk h H) hm
  rw [z] at e; cases e
end L2
namespace L2
open PySem PySem.Spec PyProof.Rows
structure Mod (K:PySem.W.Frag) (mg:Str -> Option Value) (base:Heap):Prop where
 kin:K.In base
 glob:base.Ns mainGlobals mg
 blt : ∃ mb, base.Ns builtinsNs mb /\ ∀ x : Str, x ≠ "__name__" -> mb x = bootBuiltins x
 nolimit:base.NoLimit
structure Cx where
 prog:Program
 w:World
 K:PySem.W.Frag
 mg:Str -> Option Value
 base:Heap
 A:Around
 N:List Str
 s₀:Shared
 H₀:Hp
 env:Env
 outer:List Env
 stack:List Env
 ex:List Addr
 fn:Str -> Bool
 calm:Bool
 pn:List (Addr × Obj)
 xe:Value -> Shared -> Prop
def frs (l:List Env):List Addr:=l.filterMap (·.frame)
abbrev Cx.fs (X:Cx):List Addr:=frs X.outer
def Vis (sc:Scope) (x:Str):Prop:=sc.names.lookup x = some .local \/ sc.names.lookup x = some .cell \/ sc.names.lookup x = some .free
def Loc (sc:Scope) (x:Str):Prop:=sc.names.lookup x = some .local \/ sc.names.lookup x = some .cell
def Look (env:Env) (h:Heap) (m:Str -> Option Value) (x:Str) (u:Value):Prop :=
 (env.kindOf x = some .local /\ m x = some u) \/ ((env.kindOf x = some .cell \/ env.kindOf x = some .free) /\ ∃ c,env.cells.lookup x = some c /\ h.IsCell c (some u))
structure Cx.Ok (X:Cx):Prop where
 mod:Mod X.K X.mg X.base
 kind:X.env.scope.kind = .function
 glob:X.env.globals = mainGlobals
 blt:X.env.builtins = builtinsNs
 above:X.s₀.heap.objs.size <= X.env.locals
 inj:∀ x y c,X.env.cells.lookup x = some c -> X.env.cells.lookup y = some c -> x = y
 has:∀ x,(X.env.kindOf x = some .cell \/ X.env.kindOf x = some .free) -> ∃ c,X.env.cells.lookup x = some c
 cab:∀ x c,X.fn x = true -> X.env.cells.lookup x = some c -> X.s₀.heap.objs.size <= c
 hd:X.calm = true -> X.A.handled = none
 frames:X.A.frames = some X.stack
 stk:X.stack = X.outer \/ (X.stack = X.env :: X.outer /\ X.env.frame = some X.env.locals)
 exf:∀ b ∈ X.ex,b ≠ X.env.locals /\ ∀ x c,X.env.cells.lookup x = some c -> c ≠ b
 bs:∀ b o,X.base.get? b = some o -> X.s₀.heap.get? b = some o /\ X.H₀ b = none
 bsz:X.base.objs.size <= X.s₀.heap.objs.size
 noex:∀ b o,X.base.get? b = some o -> b ∉ X.ex
 exfs:∀ b ∈ X.ex,b ∉ X.fs
 funs:X.s₀.heap.FunFrames X.base X.outer
 frf:∀ b ∈ X.fs,X.H₀ b = none
structure Inv (X:Cx) (pins:List (Addr × Obj)) (σ:List (Option V)) (H:Hp) (s:Shared):Prop where
 ok:X.Ok
 os:s.os = X.s₀.os
 bare:AllBare s.gens
 base:Un X.fs X.ex X.H₀ H X.s₀.heap s.heap
 loc:∃ m,s.heap.Ns X.env.locals m /\ ∀ (i:Nat) (x:Str) (v:V),X.N[i]? = some x -> σ[i]? = some (some v) -> Vis X.env.scope x -> ∃ u,RelV v u /\ Look X.env s.heap m x u
 cell:∀ x c,X.env.cells.lookup x = some c -> ∃ v,s.heap.IsCell c v
 free:H X.env.locals = none
 freeC:∀ x c,X.env.cells.lookup x = some c -> H c = none
 pin:∀ p ∈ X.pn ++ pins,s.heap.get? p.1 = some p.2 /\ H p.1 = none /\ p.1 ≠ X.env.locals /\ p.1 ∉ X.fs /\ ∀ v,p.2.data ≠ .cell v
 hok:HOk X.prog X.w H s.heap
 len:σ.length = X.N.length
section
variable {X:Cx} {pins:List (Addr × Obj)} {σ:List (Option V)} {H H':Hp} {s:Shared} {h':Heap}
theorem Cx.Ok.nofr (ok:X.Ok) {b:Addr} {o:Obj} (e:X.base.get? b = some o):b ∉ X.fs:=fun hb => by
 have:=(ok.funs.mem hb).1
 rw [e] at this; cases this
theorem Inv.bs (I:Inv X pins σ H s):∀ b o,X.base.get? b = some o -> s.heap.get? b = some o /\ H b = none:=fun b o e =>
 ⟨I.base.keep b o (I.ok.bs b o e).1 (I.ok.bs b o e).2 (I.ok.nofr e) (I.ok.noex b o e),I.base.free b o (I.ok.bs b o e).1 (I.ok.bs b o e).2 (I.ok.noex b o e)⟩
theorem Inv.bk (I:Inv X pins σ H s):∀ b o,X.base.get? b = some o -> s.heap.get? b = some o:=fun b o e => (I.bs b o e).1
theorem Inv.mod (I:Inv X pins σ H s):Mod X.K X.mg X.base:=I.ok.mod
theorem Inv.kIn (I:Inv X pins σ H s):X.K.In s.heap:=I.ok.mod.kin.keeps I.bk
theorem Inv.lt (I:Inv X pins σ H s):X.env.locals < s.heap.objs.size:=let ⟨_,hn,_⟩:=I.loc; hn.lt
theorem Inv.sz (I:Inv X pins σ H s):X.s₀.heap.objs.size <= s.heap.objs.size:=Nat.le_trans I.ok.above (Nat.le_of_lt I.lt)
theorem Inv.nofs (I:Inv X pins σ H s) {a:Addr} (h:s.heap.objs.size <= a):a ∉ X.fs:=fun hb => by
 obtain ⟨_,o,ho,_⟩:=I.ok.funs.mem hb
 exact absurd (Nat.lt_of_lt_of_le (Heap.lt_size ho) (Nat.le_trans I.sz h)) (Nat.lt_irrefl _)
theorem Inv.cne (I:Inv X pins σ H s):∀ x c,X.env.cells.lookup x = some c -> c ≠ X.env.locals:=fun x c e z => by
 obtain ⟨v,o,ho,hd⟩:=I.cell x c e
 obtain ⟨m,⟨o',es,ep,ho',hd',_⟩,_⟩:=I.loc
 rw [z,ho'] at ho; cases ho; rw [hd'] at hd; cases hd
theorem Inv.funs (I:Inv X pins σ H s):s.heap.FunFrames X.base X.outer:=by
 have all:∀ (l:List Env),(∀ b ∈ frs l,b ∈ X.fs) -> X.s₀.heap.FunFrames X.base l -> s.heap.FunFrames X.base l:=by
  intro l
  induction l with
  | nil => intro _ _; trivial
  | cons env r ih =>
   intro hs hl
   obtain ⟨hk,⟨L,o,hf,hn,ho,hd⟩,hr⟩:=hl
   have hL:L ∈ X.fs:=hs L (by unfold frs; rw [List.filterMap_cons,hf]; exact List.mem_cons_self)
   obtain ⟨sl,e⟩:=I.base.slot L o ho (I.ok.frf L hL) hL fun z => I.ok.exfs L z hL
   exact ⟨hk,⟨L,_,hf,hn,e,hd⟩,ih (fun b hb => hs b (by unfold frs; rw [List.filterMap_cons,hf]; exact List.mem_cons_of_mem _ hb)) hr⟩
 exact all X.outer (fun _ hb => hb) I.ok.funs
theorem Inv.stack (I:Inv X pins σ H s):s.heap.FunFrames X.base X.stack:=by
 rcases I.ok.stk with e | ⟨e,hf⟩
 ·rw [e]; exact I.funs
 ·rw [e]
  obtain ⟨m,hn,_⟩:=I.loc
  refine .cons (by rw [I.ok.kind]; decide) hf hn ?_ I.funs
  exact Heap.get?_none_of_le (Nat.le_trans I.ok.bsz I.ok.above)
theorem Inv.stkSub (I:Inv X pins σ H s):∀ b ∈ frs X.stack,b ∈ X.env.locals :: X.fs:=fun b hb => by
 rcases I.ok.stk with e | ⟨e,hf⟩
 ·rw [e] at hb; exact List.mem_cons_of_mem _ hb
 ·rw [e] at hb
  unfold frs at hb
  rw [List.filterMap_cons,hf] at hb
  exact hb
theorem Inv.stkFree (I:Inv X pins σ H s):∀ b ∈ frs X.stack,H b = none:=fun b hb => by
 rcases List.mem_cons.mp (I.stkSub b hb) with e | hb
 ·rw [e]; exact I.free
 ·obtain ⟨_,o,ho,_⟩:=I.ok.funs.mem hb
  exact I.base.free b o ho (I.ok.frf b hb) fun z => I.ok.exfs b z hb
theorem Inv.step {g':Array GenState} {t':Nat} {d':Drawn} {ch:List Addr} (I:Inv X pins σ H s)
  (hch:∀ b ∈ ch,(b ∈ X.ex \/ X.s₀.heap.objs.size <= b) /\ b ≠ X.env.locals /\ (∀ x c,X.env.cells.lookup x = some c -> c ≠ b) /\ ∀ p ∈ X.pn ++ pins,p.1 ≠ b)
  (keep:∀ b o,b ≠ X.env.locals -> b ∉ X.fs -> b ∉ ch -> s.heap.get? b = some o -> H b = none -> h'.get? b = some o)
  (slot:∀ b o,b ≠ X.env.locals -> b ∈ X.fs -> b ∉ ch -> s.heap.get? b = some o -> H b = none -> ∃ sl,h'.get? b = some { o with slots:=sl }) (free:∀ b o,b ∉ ch -> s.heap.get? b = some o -> H b = none -> H' b = none)
  (there:∀ b o,b ∉ ch -> s.heap.get? b = some o -> ∃ o',h'.get? b = some o')
  (tups:∀ b xs,H b = some (.tup xs) -> H' b = some (.tup xs)) (frzs:∀ b o u,H b = some (.frz o u) -> H' b = some (.frz o u)) (tbls:∀ b ps,H b = some (.tbl ps) -> ∃ more,H' b = some (.tbl (ps ++ more)))
  (ns:∀ m,s.heap.Ns X.env.locals m -> h'.Ns X.env.locals m) (hok:HOk X.prog X.w H' h') (hg:AllBare g') :
  Inv X pins σ H' { s with heap:=h',gens:=g',drawn:=d',toks:=t' }:=by
 have neL:∀ b o,X.s₀.heap.get? b = some o -> b ≠ X.env.locals:=fun b o e => Nat.ne_of_lt (Nat.lt_of_lt_of_le (Heap.lt_size e) I.ok.above)
 have neC:∀ b o,X.s₀.heap.get? b = some o -> b ∉ X.ex -> b ∉ ch:=fun b o e hx hb => by
  rcases (hch b hb).1 with z | z
  ·exact hx z
  ·exact absurd (Nat.lt_of_lt_of_le (Heap.lt_size e) z) (Nat.lt_irrefl _)
 have cellK:∀ x c,X.env.cells.lookup x = some c -> ∀ v,s.heap.IsCell c v -> h'.IsCell c v:=fun x c e v ⟨o,ho,hd⟩ => by
  have nch:c ∉ ch:=fun z => (hch c z).2.2.1 x c e rfl
  by_cases hc:c ∈ X.fs
  ·obtain ⟨sl,q⟩:=slot c o (I.cne x c e) hc nch ho (I.freeC x c e)
   exact ⟨_,q,hd⟩
  ·exact ⟨o,keep c o (I.cne x c e) hc nch ho (I.freeC x c e),hd⟩
 refine ⟨I.ok,I.os,hg,⟨fun b o e n hb hx => ?_,fun b o e n hb hx => ?_,fun b o e n hx => ?_,fun b o e hx => ?_,fun b xs e => tups b xs (I.base.tups b xs e),fun b o xs e => frzs b o xs (I.base.frzs b o xs e),fun b ps e => ?_⟩,?_,fun x c e => ?_,?_,fun x c e => ?_,fun p hp => ?_,hok,I.len⟩
 ·exact keep b o (neL b o e) hb (neC b o e hx) (I.base.keep b o e n hb hx) (I.base.free b o e n hx)
 ·obtain ⟨sl,e1⟩:=I.base.slot b o e n hb hx
  obtain ⟨sl',e2⟩:=slot b _ (neL b o e) hb (neC b o e hx) e1 (I.base.free b o e n hx)
  exact ⟨sl',e2⟩
 ·obtain ⟨o',e1⟩:=I.base.there b o e hx
  exact free b o' (neC b o e hx) e1 (I.base.free b o e n hx)
 ·obtain ⟨o',e1⟩:=I.base.there b o e hx
  exact there b o' (neC b o e hx) e1
 ·obtain ⟨m1,e1⟩:=I.base.tbls b ps e
  obtain ⟨m2,e2⟩:=tbls b _ e1
  exact ⟨m1 ++ m2,by rw [e2,Array.append_assoc]⟩
 ·obtain ⟨m,hn,hl⟩:=I.loc
  refine ⟨m,ns m hn,fun i x v e1 e2 e3 => ?_⟩
  obtain ⟨u,r,l⟩:=hl i x v e1 e2 e3
  refine ⟨u,r,?_⟩
  rcases l with l | ⟨k,c,e,z⟩
  ·exact .inl l
  ·exact .inr ⟨k,c,e,cellK x c e _ z⟩
 ·obtain ⟨v,z⟩:=I.cell x c e
  exact ⟨v,cellK x c e v z⟩
 ·obtain ⟨m,⟨o,_,_,ho,_⟩,_⟩:=I.loc
  exact free _ o (fun z => (hch _ z).2.1 rfl) ho I.free
 ·obtain ⟨v,o,ho,hd⟩:=I.cell x c e
  exact free c o (fun z => (hch c z).2.2.1 x c e rfl) ho (I.freeC x c e)
 ·obtain ⟨e,n,ne,nf,d⟩:=I.pin p hp
  have nch:p.1 ∉ ch:=fun z => (hch p.1 z).2.2.2 p hp rfl
  exact ⟨keep p.1 p.2 ne nf nch e n,free p.1 p.2 nch e n,ne,nf,d⟩
theorem Inv.un {t':Nat} (I:Inv X pins σ H s) (u:Un X.fs [] H H' s.heap h') (hok:HOk X.prog X.w H' h'):Inv X pins σ H' { s with heap:=h',toks:=t' }:=by
 obtain ⟨m,⟨o,es,ep,ho,r⟩,_⟩:=id I.loc
 obtain ⟨sl,hL⟩:=u.any ho I.free (by simp)
 exact I.step (g':=s.gens) (d':=s.drawn) (ch:=[]) (fun _ z => nomatch z) (fun b o _ hb _ e n => u.keep b o e n hb (by simp)) (fun b o _ hb _ e n => u.slot b o e n hb (by simp)) (fun b o _ e n => u.free b o e n (by simp)) (fun b o _ e => u.there b o e (by simp)) u.tups u.frzs u.tbls (fun m' hm => by
  obtain ⟨o',es',ep',ho',r'⟩:=hm
  rw [ho] at ho'; cases ho'
  exact ⟨_,es',ep',hL,r'⟩) hok I.bare
theorem Inv.call {g':Array GenState} {t':Nat} {d':Drawn} {ch:List Addr} (I:Inv X pins σ H s) (u:Un (frs X.stack) ch H H' s.heap h') (hok:HOk X.prog X.w H' h') (hg:AllBare g')
  (hch:∀ b ∈ ch,(b ∈ X.ex \/ X.s₀.heap.objs.size <= b) /\ b ≠ X.env.locals /\ (∀ x c,X.env.cells.lookup x = some c -> c ≠ b) /\ ∀ p ∈ X.pn ++ pins,p.1 ≠ b) :
  Inv X pins σ H' { s with heap:=h',gens:=g',drawn:=d',toks:=t' }:=by
 obtain ⟨m,⟨o,es,ep,ho,r⟩,_⟩:=id I.loc
 obtain ⟨sl,hL⟩:=u.any ho I.free fun z => (hch _ z).2.1 rfl
 exact I.step (ch:=ch) hch (fun b o hL hb hc e n => u.keep b o e n (fun z => (List.mem_cons.mp (I.stkSub b z)).elim hL hb) hc) (fun b o _ _ hc e n => u.any e n hc) (fun b o hc e n => u.free b o e n hc) (fun b o hc e => u.there b o e hc) u.tups u.frzs u.tbls (fun m' hm => by
  obtain ⟨o',es',ep',ho',r'⟩:=hm
  rw [ho] at ho'; cases ho'
  exact ⟨_,es',ep',hL,r'⟩) hok hg
theorem Inv.turned {t':Nat} {it:Addr} (I:Inv X pins σ H s) (k:∀ b o,b ≠ it -> s.heap.get? b = some o -> h'.get? b = some o) (hn:H it = none) (hL:it ≠ X.env.locals)
  (h1:it ∈ X.ex \/ X.s₀.heap.objs.size <= it) (h2:∀ x c,X.env.cells.lookup x = some c -> c ≠ it) (h3:∀ p ∈ X.pn ++ pins,p.1 ≠ it):Inv X pins σ H { s with heap:=h',toks:=t' }:=by
 have nit:∀ b u,H b = some u -> b ≠ it:=fun b u e z => by rw [z,hn] at e; cases e
 refine I.step (g':=s.gens) (d':=s.drawn) (ch:=[it]) (fun b hb => ?_) (fun b o _ _ hc e _ => k b o (fun z => hc (by simp [z])) e) (fun b o _ _ hc e _ => ⟨o.slots,k b o (fun z => hc (by simp [z])) e⟩) (fun _ _ _ _ n => n)
  (fun b o hc e => ⟨o,k b o (fun z => hc (by simp [z])) e⟩) (fun _ _ e => e) (fun _ _ _ e => e) (fun b ps e => ⟨#[],by rw [e]; simp⟩) (fun m hm => ?_) (fun b u e => ?_) I.bare
 ·have e:b = it:=by simpa using hb
  subst e
  exact ⟨h1,hL,h2,h3⟩
 ·obtain ⟨o,es,ep,ho,r⟩:=hm
  exact ⟨o,es,ep,k _ o (Ne.symm hL) ho,r⟩
 ·refine (I.hok b u e).stay (fun c v hc q => k c v ?_ q) (fun _ q => q) fun _ _ q => q
  rcases hc with z | z
  ·rw [z]; exact nit b u e
  ·exact nit c _ z
theorem Inv.tok (I:Inv X pins σ H s) (t:Nat):Inv X pins σ H { s with toks:=t }:=I.un (h':=s.heap) (t':=t) Un.refl I.hok
theorem Inv.kept {t':Nat} (I:Inv X pins σ H s) (k:∀ b u,s.heap.get? b = some u -> h'.get? b = some u):Inv X pins σ H { s with heap:=h',toks:=t' }:=I.un (Un.kept k) (I.hok.kept k)
theorem Inv.laid {a:Addr} {o:HO} {t':Nat} (I:Inv X pins σ H s) (k:∀ b u,s.heap.get? b = some u -> h'.get? b = some u) (hp:s.heap.objs.size <= a) (new:ObjOk X.prog X.w (upd H a o) h' a o) :
  Inv X pins σ (upd H a o) { s with heap:=h',toks:=t' }:=I.un (Un.laid k hp (I.hok.fresh hp)) (I.hok.laid k hp new)
theorem Inv.write {x e:Addr} {o:HO} {t':Nat} (I:Inv X pins σ H s) (mu:Mut (H x)) (he:e = x \/ H e = some (.own x)) (k:∀ b u,b ≠ e -> s.heap.get? b = some u -> h'.get? b = some u) (heo:∃ u,h'.get? e = some u)
  (new:ObjOk X.prog X.w (upd H x o) h' x o):Inv X pins σ (upd H x o) { s with heap:=h',toks:=t' }:=I.un (Un.write mu he k heo) (I.hok.write mu he k heo new)
theorem Inv.pins_of {pins':List (Addr × Obj)} (I:Inv X pins σ H s) (h:∀ p ∈ pins',s.heap.get? p.1 = some p.2 /\ H p.1 = none /\ p.1 ≠ X.env.locals /\ p.1 ∉ X.fs /\ ∀ v,p.2.data ≠ .cell v):Inv X pins' σ H s :=
 ⟨I.ok,I.os,I.bare,I.base,I.loc,I.cell,I.free,I.freeC,fun p hp => (List.mem_append.mp hp).elim (fun z => I.pin p (List.mem_append_left _ z)) (h p),I.hok,I.len⟩
theorem nodup_ix {N:List Str} (hN:N.Nodup) {i j:Nat} {x:Str} (a:N[i]? = some x) (b:N[j]? = some x):i = j:=by
 obtain ⟨h1,e1⟩:=List.getElem?_eq_some_iff.mp a
 obtain ⟨h2,e2⟩:=List.getElem?_eq_some_iff.mp b
 exact (List.getElem_inj hN).mp (e1.trans e2.symm)
theorem store_ok2 {M:Model} {A:Around} {E:Value -> Shared -> Prop} {i:Nat} {x:Str} {v:V} {u:Value} {Q:Unit -> Shared -> Prop} (I:Inv X pins σ H s) (hN:X.N.Nodup) (hi:X.N[i]? = some x) (hx:Loc X.env.scope x) (r:RelV v u)
  (h:∀ s',Inv X pins (σ.set i (some v)) H s' -> (∃ a,Heap.SameBut a s.heap s'.heap /\ (a = X.env.locals \/ X.env.cells.lookup x = some a)) -> Q () s') (hf:X.fn x = true \/ X.env.scope.names.lookup x = some .local:=by first | exact .inl rfl | exact .inr rfl | assumption):wpAny M A (storeName X.env x u) Q E s:=by
 obtain ⟨m,hn,hl⟩:=id I.loc
 have hcls:(X.env.scope.kind == .class || (X.env.scope.kind == .module && X.env.locals != X.env.globals)) = false:=by rw [I.ok.kind]; rfl
 have hiσ:i < σ.length:=by rw [I.len]; exact (List.getElem?_eq_some_iff.mp hi).1
 have cne:=I.cne
 have tracked:∀ {a:Addr} {h':Heap},(∃ o,s.heap.get? a = some o /\ H a = none) -> Heap.SameBut a s.heap h' -> HOk X.prog X.w H h':=fun {a h'} ha hs b ob e => by
  obtain ⟨_,_,hfree⟩:=ha
  refine (I.hok b ob e).stay (fun c w' hc q => (hs.2 c ?_).trans q) (fun _ q => q) fun _ _ q => q
  rintro rfl
  rcases hc with rfl | hc
  ·rw [hfree] at e; cases e
  ·rw [hfree] at hc; cases hc
 rcases hx with hk | hk
 ·refine wpAny_storeName_local hk hn (fun h' hn' hs => ?_) hcls
  obtain ⟨oL,_,_,hoL,_⟩:=id hn
  refine h _ ⟨I.ok,I.os,I.bare,⟨fun b o e n hb hx => ?_,fun b o e n hb hx => ?_,I.base.free,fun b o e hx => ?_,I.base.tups,I.base.frzs,I.base.tbls⟩,⟨_,hn',fun j y v' e1 e2 e3 => ?_⟩,fun y c e => ?_,I.free,I.freeC,fun p hp => ?_,tracked ⟨oL,hoL,I.free⟩ hs,by simpa using I.len⟩ ⟨_,hs,.inl rfl⟩
  ·exact (hs.2 b (Nat.ne_of_lt (Nat.lt_of_lt_of_le (Heap.lt_size e) I.ok.above))).trans (I.base.keep b o e n hb hx)
  ·obtain ⟨sl,e1⟩:=I.base.slot b o e n hb hx
   exact ⟨sl,(hs.2 b (Nat.ne_of_lt (Nat.lt_of_lt_of_le (Heap.lt_size e) I.ok.above))).trans e1⟩
  ·obtain ⟨o',e1⟩:=I.base.there b o e hx
   exact ⟨o',(hs.2 b (Nat.ne_of_lt (Nat.lt_of_lt_of_le (Heap.lt_size e) I.ok.above))).trans e1⟩
  ·by_cases hj:j = i
   ·subst hj
    rw [hi] at e1; cases e1
    rw [List.getElem?_set_self hiσ] at e2
    cases e2
    exact ⟨u,r,.inl ⟨hk,by simp⟩⟩
   ·rw [List.getElem?_set_ne (Ne.symm hj)] at e2
    obtain ⟨u',r',q⟩:=hl j y v' e1 e2 e3
    refine ⟨u',r',?_⟩
    rcases q with ⟨k,e⟩ | ⟨k,c,e,z⟩
    ·refine .inl ⟨k,?_⟩
     have:y ≠ x:=fun e => hj (nodup_ix hN e1 (e ▸ hi))
     simp [this,e]
    ·exact .inr ⟨k,c,e,z.sameBut hs (cne y c e)⟩
  ·obtain ⟨w',z⟩:=I.cell y c e
   exact ⟨w',z.sameBut hs (cne y c e)⟩
  ·obtain ⟨e,n,ne,nf,d⟩:=I.pin p hp
   exact ⟨(hs.2 p.1 ne).trans e,n,ne,nf,d⟩
 ·have hfn:X.fn x = true:=by
   rcases hf with z | z
   ·exact z
   ·rw [z] at hk; cases hk
  obtain ⟨c,hc⟩:=I.ok.has x (.inl hk)
  obtain ⟨w',z⟩:=I.cell x c hc
  refine wpAny_storeName_cell I.ok.kind hk hc z (fun h' hc' hs => ?_)
  obtain ⟨oc,hoc,hocd⟩:=id z
  refine h { s with heap:=h' } ⟨I.ok,I.os,I.bare,⟨fun b o e n hb hx => ?_,fun b o e n hb hx => ?_,I.base.free,fun b o e hx => ?_,I.base.tups,I.base.frzs,I.base.tbls⟩,⟨m,hn.sameBut hs (Ne.symm (cne x c hc)),fun j y v' e1 e2 e3 => ?_⟩,fun y c' e => ?_,I.free,I.freeC,fun p hp => ?_,tracked ⟨oc,hoc,I.freeC x c hc⟩ hs,by simpa using I.len⟩ ⟨c,hs,.inr hc⟩
  ·exact (hs.2 b (Nat.ne_of_lt (Nat.lt_of_lt_of_le (Heap.lt_size e) (I.ok.cab x c hfn hc)))).trans (I.base.keep b o e n hb hx)
  ·obtain ⟨sl,e1⟩:=I.base.slot b o e n hb hx
   exact ⟨sl,(hs.2 b (Nat.ne_of_lt (Nat.lt_of_lt_of_le (Heap.lt_size e) (I.ok.cab x c hfn hc)))).trans e1⟩
  ·obtain ⟨o',e1⟩:=I.base.there b o e hx
   exact ⟨o',(hs.2 b (Nat.ne_of_lt (Nat.lt_of_lt_of_le (Heap.lt_size e) (I.ok.cab x c hfn hc)))).trans e1⟩
  ·by_cases hj:j = i
   ·subst hj
    rw [hi] at e1; cases e1
    rw [List.getElem?_set_self hiσ] at e2
    cases e2
    exact ⟨u,r,.inr ⟨.inl hk,c,hc,hc'⟩⟩
   ·rw [List.getElem?_set_ne (Ne.symm hj)] at e2
    obtain ⟨u',r',q⟩:=hl j y v' e1 e2 e3
    refine ⟨u',r',?_⟩
    rcases q with q | ⟨k,c',e,z'⟩
    ·exact .inl q
    ·refine .inr ⟨k,c',e,z'.sameBut hs ?_⟩
     rintro rfl
     exact hj (nodup_ix hN e1 (I.ok.inj _ _ _ e hc ▸ hi))
  ·by_cases hcc:c' = c
   ·subst hcc; exact ⟨_,hc'⟩
   ·obtain ⟨w2,z2⟩:=I.cell y c' e
    exact ⟨w2,z2.sameBut hs hcc⟩
  ·obtain ⟨e,n,ne,nf,d⟩:=I.pin p hp
   refine ⟨(hs.2 p.1 ?_).trans e,n,ne,nf,d⟩
   intro q
   rw [q,hoc] at e
   have q':oc = p.2:=Option.some.inj e
   exact d w' (by rw [<- q']; exact hocd)
theorem store_ok {M:Model} {A:Around} {E:Value -> Shared -> Prop} {i:Nat} {x:Str} {v:V} {u:Value} {Q:Unit -> Shared -> Prop} (I:Inv X pins σ H s) (hN:X.N.Nodup) (hi:X.N[i]? = some x) (hx:Loc X.env.scope x) (r:RelV v u)
  (h:∀ s',Inv X pins (σ.set i (some v)) H s' -> Q () s') (hf:X.fn x = true \/ X.env.scope.names.lookup x = some .local:=by first | exact .inl rfl | exact .inr rfl | assumption):wpAny M A (storeName X.env x u) Q E s :=
 store_ok2 I hN hi hx r (fun s' I' _ => h s' I') hf
theorem Inv.call' {s':Shared} {ch:List Addr} (I:Inv X pins σ H s) (ho:s'.os = s.os) (u:Un (frs X.stack) ch H H' s.heap s'.heap) (hok:HOk X.prog X.w H' s'.heap) (hg:AllBare s'.gens)
  (hch:∀ b ∈ ch,(b ∈ X.ex \/ X.s₀.heap.objs.size <= b) /\ b ≠ X.env.locals /\ (∀ x c,X.env.cells.lookup x = some c -> c ≠ b) /\ ∀ p ∈ X.pn ++ pins,p.1 ≠ b):Inv X pins σ H' s':=by
 obtain ⟨h',g',d',t',o'⟩:=s'
 have e:o' = s.os:=ho
 subst e
 exact I.call (g':=g') (t':=t') (d':=d') u hok hg hch
end
abbrev XK:=Value -> Option Addr -> Hp -> Prop
abbrev St:=List (Option V)
abbrev VK:=V -> Hp -> Prop
abbrev TE:=St -> Hp -> VK -> Prop
abbrev TT:=St -> Hp -> (Bool -> Hp -> Prop) -> Prop
abbrev TA:=St -> Hp -> (List V -> Hp -> Prop) -> Prop
structure Ends where
 nx:St -> Hp -> Prop
 rt:VK
 bk:St -> Hp -> Prop:=fun _ _ => False
 ct:St -> Hp -> Prop:=fun _ _ => False
abbrev TS:=Ends -> St -> Hp -> Prop
def EP (X:Cx) (pins:List (Addr × Obj)) (σ:St) (Q:VK) (u:Value) (s':Shared):Prop:=∃ v H',Inv X pins σ H' s' /\ RelV v u /\ Q v H'
def TP (X:Cx) (pins:List (Addr × Obj)) (σ:St) (Q:Bool -> Hp -> Prop) (b:Bool) (s':Shared):Prop:=∃ H',Inv X pins σ H' s' /\ Q b H'
def AP (X:Cx) (pins:List (Addr × Obj)) (σ:St) (Q:List V -> Hp -> Prop) (us:List Value) (s':Shared):Prop:=∃ vs H',Inv X pins σ H' s' /\ Vals vs us /\ Q vs H'
def SP (X:Cx) (pins:List (Addr × Obj)) (D:Ends) (f:Flow) (s':Shared):Prop :=
 match f with
 | .next => ∃ σ' H',Inv X pins σ' H' s' /\ D.nx σ' H'
 | .brk => ∃ σ' H',Inv X pins σ' H' s' /\ D.bk σ' H'
 | .cont => ∃ σ' H',Inv X pins σ' H' s' /\ D.ct σ' H'
 | .ret u => ∃ v σ' H',Inv X pins σ' H' s' /\ RelV v u /\ D.rt v H'
def PE (X:Cx) (e:Expr) (t:TE):Prop :=
 ∀ (pins:List (Addr × Obj)) (s:Shared) (σ:St) (H:Hp) (Q:VK),Inv X pins σ H s -> t σ H Q -> wpAny (model X.prog X.w) X.A (eval e X.env) (EP X pins σ Q) X.xe s
def PT (X:Cx) (e:Expr) (t:TT):Prop :=
 ∀ (pins:List (Addr × Obj)) (s:Shared) (σ:St) (H:Hp) (Q:Bool -> Hp -> Prop),Inv X pins σ H s -> t σ H Q -> wpAny (model X.prog X.w) X.A (isTrue e X.env (eval e X.env)) (TP X pins σ Q) X.xe s
def PW (X:Cx) (e:Expr) (t:TT):Prop :=
 ∀ (whole:Sem Value) (pins:List (Addr × Obj)) (s:Shared) (σ:St) (H:Hp) (Q:Bool -> Hp -> Prop),Inv X pins σ H s -> t σ H Q -> wpAny (model X.prog X.w) X.A (isTrue e X.env whole) (TP X pins σ Q) X.xe s
theorem PW.pt {X:Cx} {e:Expr} {t:TT} (h:PW X e t):PT X e t:=h _
def PA (X:Cx) (es:List Expr) (t:TA):Prop :=
 ∀ (pos:Pos) (pins:List (Addr × Obj)) (s:Shared) (σ:St) (H:Hp) (Q:List V -> Hp -> Prop),Inv X pins σ H s -> t σ H Q -> wpAny (model X.prog X.w) X.A (spliced (backTo pos (starEach es X.env))) (AP X pins σ Q) X.xe s
def PS (X:Cx) (st:Stmt) (t:TS):Prop :=
 ∀ (pins:List (Addr × Obj)) (s:Shared) (σ:St) (H:Hp) (D:Ends),Inv X pins σ H s -> t D σ H -> wpAny (model X.prog X.w) X.A (exec st X.env) (SP X pins D) X.xe s
def PSs (X:Cx) (st:List Stmt) (t:TS):Prop :=
 ∀ (pins:List (Addr × Obj)) (s:Shared) (σ:St) (H:Hp) (D:Ends),Inv X pins σ H s -> t D σ H -> wpAny (model X.prog X.w) X.A (execs st X.env) (SP X pins D) X.xe s
theorem thn {α:Type} {t:Sem α} {Q Q':α -> Shared -> Prop} {M:Model} {A:Around} {E:Value -> Shared -> Prop} {s:Shared} (h:wpAny M A t Q E s) (hQ:∀ a s,Q a s -> Q' a s):wpAny M A t Q' E s:=wpAny_mono h hQ fun _ _ x => x
end L2
namespace L2
open PySem PySem.Spec PyProof.Rows
section
variable {X:Cx}
def tVar (i:Nat):TE:=fun σ H Q => ∃ v,σ[i]? = some (some v) /\ Q v H
def tC (v:V):TE:=fun _ H Q => Q v H
theorem pe_var {i:Nat} {x:Str} {pos:Pos} (hN:X.N[i]? = some x) (hv:Vis X.env.scope x) (hd:(x == ("__debug__":Str)) = false:=by decide) (hcd:(x == ("__classdict__":Str)) = false:=by decide):PE X (.Name x pos) (tVar i):=by
 intro pins s σ H Q I h
 obtain ⟨v,e,h⟩:=h
 obtain ⟨m,hn,hl⟩:=I.loc
 obtain ⟨u,r,l⟩:=hl i x v hN e hv
 have fin:EP X pins σ Q u s:=⟨v,H,I,r,h⟩
 rcases l with ⟨hk,hm⟩ | ⟨hk,c,hc,hcell⟩
 ·exact wpAny_Name (wpAny_loadName_local I.ok.kind hk hn hm fin) hd
 ·rcases hk with hk | hk
  ·exact wpAny_Name (wpAny_loadName_cell I.ok.kind hk hc hcell fin) hd
  ·exact wpAny_Name (wpAny_loadName_free I.ok.kind hk hc hcell fin hcd) hd
theorem pe_int {i j pos}:PE X (.Constant (.int i) j pos) (tC (.int i)):=fun _ _ _ H _ I h => wpAny_Constant_int ⟨.int i,H,I.tok _,⟨_,rfl⟩,h⟩
theorem pe_bl {b j pos}:PE X (.Constant (.bool b) j pos) (tC (.bl b)):=fun _ _ _ H _ I h => Constant_bool ⟨.bl b,H,I,rfl,h⟩
theorem pe_non {j pos}:PE X (.Constant .none j pos) (tC .non):=fun _ _ _ H _ I h => Constant_none ⟨.non,H,I,rfl,h⟩
theorem pe_str {x j pos}:PE X (.Constant (.str x) j pos) (tC (.str x)):=fun _ _ _ H _ I h => Calls.Constant_str ⟨.str x,H,I.tok _,⟨_,rfl⟩,h⟩
def Gl (X:Cx) (x:Str):Prop:=X.env.kindOf x = some .globalImplicit
theorem ld_glob {E:Value -> Shared -> Prop} {pins:List (Addr × Obj)} {s:Shared} {σ:St} {H:Hp} {x:Str} {u:Value} {pos:Pos} {Q:Value -> Shared -> Prop} (I:Inv X pins σ H s) (hg:Gl X x) (hm:X.mg x = some u) (h:Q u s)
  (hd:(x == ("__debug__":Str)) = false:=by decide):wpAny (model X.prog X.w) X.A (eval (.Name x pos) X.env) Q E s :=
 Calls.Name_function_global I.ok.kind hg (Calls.loadGlobal_global (by rw [I.ok.glob]; exact I.mod.glob.keeps I.bk) hm h) hd
theorem ld_blt {E:Value -> Shared -> Prop} {pins:List (Addr × Obj)} {s:Shared} {σ:St} {H:Hp} {x:Str} {u:Value} {pos:Pos} {Q:Value -> Shared -> Prop} (I:Inv X pins σ H s) (hg:Gl X x) (hm:X.mg x = none) (hv:bootBuiltins x = some u) (h:Q u s)
  (hn:x ≠ "__name__":=by decide) (hd:(x == ("__debug__":Str)) = false:=by decide):wpAny (model X.prog X.w) X.A (eval (.Name x pos) X.env) Q E s:=by
 obtain ⟨mb,h1,h2⟩:=I.mod.blt
 exact Calls.Name_function_global I.ok.kind hg (Calls.loadGlobal_builtin (by rw [I.ok.glob]; exact I.mod.glob.keeps I.bk) hm (by rw [I.ok.blt]; exact h1.keeps I.bk) ((h2 x hn).trans hv) h) hd
theorem pe_glob {x:Str} {v:V} {u:Value} {pos:Pos} (hg:Gl X x) (hm:X.mg x = some u) (r:RelV v u) (hd:(x == ("__debug__":Str)) = false:=by decide):PE X (.Name x pos) (tC v) :=
 fun _ _ _ H _ I h => ld_glob I hg hm ⟨v,H,I,r,h⟩ hd
theorem pe_bltn {x:Str} {v:V} {u:Value} {pos:Pos} (hg:Gl X x) (hm:X.mg x = none) (hv:bootBuiltins x = some u) (r:RelV v u) (hn:x ≠ "__name__":=by decide) (hd:(x == ("__debug__":Str)) = false:=by decide):PE X (.Name x pos) (tC v) :=
 fun _ _ _ H _ I h => ld_blt I hg hm hv ⟨v,H,I,r,h⟩ hn hd
variable {a b:Expr} {ta tb:TE} {pos:Pos}
variable {tA tB':TT} {rest:List Expr}
def tAnd (t u:TT):TT:=fun σ H Q => t σ H fun c H1 => if c = true then u σ H1 Q else Q false H1
def tOr (t u:TT):TT:=fun σ H Q => t σ H fun c H1 => if c = true then Q true H1 else u σ H1 Q
def tNot (t:TT):TT:=fun σ H Q => t σ H fun c H1 => Q (!c) H1
theorem pw_and1 (ha:PT X a tA):PW X (.BoolOp .And [a] pos) tA:=by
 intro wh pins s σ H Q I h
 refine isTrue_and (thn (ha pins s σ H Q I h) fun c s1 e => ?_)
 cases c with
 | true => exact isTrue_and_nil e
 | false => exact e
theorem pw_or1 (ha:PT X a tA):PW X (.BoolOp .Or [a] pos) tA:=by
 intro wh pins s σ H Q I h
 refine isTrue_or (thn (ha pins s σ H Q I h) fun c s1 e => ?_)
 cases c with
 | false => exact isTrue_or_nil e
 | true => exact e
theorem pw_and (ha:PT X a tA) (hb:PW X (.BoolOp .And (b :: rest) pos) tB'):PW X (.BoolOp .And (a :: b :: rest) pos) (tAnd tA tB'):=by
 intro wh pins s σ H Q I h
 refine isTrue_and (thn (ha pins s σ H _ I h) fun c s1 ⟨H1,I1,q1⟩ => ?_)
 cases c with
 | true => exact hb wh pins s1 σ H1 Q I1 q1
 | false => exact ⟨H1,I1,q1⟩
theorem pw_or (ha:PT X a tA) (hb:PW X (.BoolOp .Or (b :: rest) pos) tB'):PW X (.BoolOp .Or (a :: b :: rest) pos) (tOr tA tB'):=by
 intro wh pins s σ H Q I h
 refine isTrue_or (thn (ha pins s σ H _ I h) fun c s1 ⟨H1,I1,q1⟩ => ?_)
 cases c with
 | true => exact ⟨H1,I1,q1⟩
 | false => exact hb wh pins s1 σ H1 Q I1 q1
theorem pt_not (ha:PT X a tA):PT X (.UnaryOp .Not a pos) (tNot tA):=by
 intro pins s σ H Q I h
 exact isTrue_not (ha pins s σ H (fun c H1 => Q (!c) H1) I h)
def tAndV (ta tb:TE):TE:=fun σ H Q => ta σ H fun x H1 => ∃ c,x = .bl c /\ if c = true then tb σ H1 Q else Q (.bl false) H1
def tOrV (ta tb:TE):TE:=fun σ H Q => ta σ H fun x H1 => ∃ c,x = .bl c /\ if c = true then Q (.bl true) H1 else tb σ H1 Q
theorem pe_one {op} {t:TE} (h:PE X a t):PE X (.BoolOp op [a] pos) t:=fun pins s σ H Q I hw => BoolOp_one (h pins s σ H Q I hw)
theorem pe_and (ha:PE X a ta) (hb:PE X (.BoolOp .And (b :: rest) pos) tb):PE X (.BoolOp .And (a :: b :: rest) pos) (tAndV ta tb):=by
 intro pins s σ H Q I h
 refine BoolOp_and (thn (ha pins s σ H _ I h) fun v s1 ⟨x,H1,I1,r1,q1⟩ => ?_)
 obtain ⟨c,rfl,q1⟩:=q1
 cases r1
 refine wpAny_truthy_bool ?_
 cases c with
 | true => exact hb pins s1 σ H1 Q I1 q1
 | false => exact ⟨.bl false,H1,I1,rfl,q1⟩
theorem pe_or (ha:PE X a ta) (hb:PE X (.BoolOp .Or (b :: rest) pos) tb):PE X (.BoolOp .Or (a :: b :: rest) pos) (tOrV ta tb):=by
 intro pins s σ H Q I h
 refine BoolOp_or (thn (ha pins s σ H _ I h) fun v s1 ⟨x,H1,I1,r1,q1⟩ => ?_)
 obtain ⟨c,rfl,q1⟩:=q1
 cases r1
 refine wpAny_truthy_bool ?_
 cases c with
 | false => exact hb pins s1 σ H1 Q I1 q1
 | true => exact ⟨.bl true,H1,I1,rfl,q1⟩
def tIf (t:TT) (ta tb:TE):TE:=fun σ H Q => t σ H fun c H1 => if c = true then ta σ H1 Q else tb σ H1 Q
theorem pe_ifExp {c:Expr} (hc:PT X c tA) (ha:PE X a ta) (hb:PE X b tb):PE X (.IfExp c a b pos) (tIf tA ta tb):=by
 intro pins s σ H Q I h
 refine wpAny_IfExp (thn (hc pins s σ H _ I h) fun d s1 ⟨H1,I1,q1⟩ => ?_)
 cases d with
 | true => exact ha pins s1 σ H1 Q I1 q1
 | false => exact hb pins s1 σ H1 Q I1 q1
end
end L2
namespace L2
open PySem PySem.Spec PyProof.Rows
def SqL (K:PySem.W.Frag) (H:Hp) (a:Addr) (xs:List V):Prop :=
 Rd H a (.lst xs) \/
  ∃ (o : Obj) (its : Array Value) (n : Nat), K.lookup a = some o /\ o.cls = .type "list" /\ o.dict = none /\ o.data = .seq its n /\ its.size <= sizeLine /\ Vals xs its.toList
def SqT (K:PySem.W.Frag) (H:Hp) (a:Addr) (xs:List V):Prop :=
 Rd H a (.tup xs) \/
  ∃ (o : Obj) (its : Array Value) (n : Nat), K.lookup a = some o /\ o.cls = .type "tuple" /\ o.data = .seq its n /\ its.size <= sizeLine /\ Vals xs its.toList
def absV:Value -> Option V
 | .none => some .non
 | .bool b => some (.bl b)
 | .int i _ => some (.int i)
 | .str x _ => some (.str x)
 | .bytes b _ => some (.byt b)
 | .float b _ => some (.flt b)
 | .ref a => some (.ref a)
 | .type n => some (.ty n)
 | _ => none
theorem RelV.abs {x:V} {u:Value} (r:RelV x u):absV u = some x:=by
 cases x with
 | non => cases r; rfl
 | bl _ => cases r; rfl
 | int _ => obtain ⟨t,rfl⟩:=r; rfl
 | str _ => obtain ⟨t,rfl⟩:=r; rfl
 | byt _ => obtain ⟨t,rfl⟩:=r; rfl
 | flt _ => obtain ⟨t,rfl⟩:=r; rfl
 | ref _ => cases r; rfl
 | ty _ => cases r; rfl
theorem RelV.inj {x y:V} {u:Value} (r:RelV x u) (q:RelV y u):x = y:=Option.some.inj (r.abs.symm.trans q.abs)
theorem Vals.inj:∀ {xs ys:List V} {us:List Value},Vals xs us -> Vals ys us -> xs = ys
 | _,_,_,.nil,.nil => rfl
 | _,_,_,.cons r t,.cons r' t' => by rw [r.inj r',Vals.inj t t']
section
variable {X:Cx} {pins:List (Addr × Obj)} {σ:St} {H:Hp} {s:Shared} {a:Addr} {xs ys:List V}
theorem SqL.of {K:PySem.W.Frag} (h:H a = some (.lst xs)):SqL K H a xs:=.inl (.inl h)
theorem SqT.of {K:PySem.W.Frag} (h:H a = some (.tup xs)):SqT K H a xs:=.inl (.inl h)
theorem Inv.list (I:Inv X pins σ H s) (h:SqL X.K H a xs):∃ its:List Value,Vals xs its /\ PlainL s.heap a its.toArray /\ xs.length <= sizeLine:=by
 rcases h with h | ⟨o,its,n,hk,hc,hd,hs,hz,r⟩
 ·obtain ⟨z,its,n,r,e⟩:=h.ok I.hok
  exact ⟨its,r,⟨_,n,e,rfl,rfl,rfl⟩,z⟩
 ·refine ⟨its.toList,r,⟨o,n,I.kIn a o hk,hc,hd,by simpa using hs⟩,?_⟩
  have e:=r.length
  simp only [Array.length_toList] at e
  omega
theorem Inv.tuple (I:Inv X pins σ H s) (h:SqT X.K H a xs):∃ its:List Value,Vals xs its /\ IsTup s.heap a its.toArray /\ xs.length <= sizeLine:=by
 rcases h with h | ⟨o,its,n,hk,hc,hs,hz,r⟩
 ·obtain ⟨z,its,r,p⟩:=h.ok I.hok
  exact ⟨its,r,p,z⟩
 ·refine ⟨its.toList,r,⟨o,I.kIn a o hk,hc,n,by simpa using hs⟩,?_⟩
  have e:=r.length
  simp only [Array.length_toList] at e
  omega
theorem Inv.list_inj (I:Inv X pins σ H s) (h:SqL X.K H a xs) (h':SqL X.K H a ys):xs = ys:=by
 obtain ⟨its,r,⟨o,n,e,_,_,d⟩,_⟩:=I.list h
 obtain ⟨its',r',⟨o',n',e',_,_,d'⟩,_⟩:=I.list h'
 rw [e] at e'; cases e'
 rw [d] at d'
 injection d' with d1 _
 have:its = its':=by simpa using congrArg Array.toList d1
 subst this
 exact r.inj r'
theorem Inv.tuple_inj (I:Inv X pins σ H s) (h:SqT X.K H a xs) (h':SqT X.K H a ys):xs = ys:=by
 obtain ⟨its,r,⟨o,e,_,n,d⟩,_⟩:=I.tuple h
 obtain ⟨its',r',⟨o',e',_,n',d'⟩,_⟩:=I.tuple h'
 rw [e] at e'; cases e'
 rw [d] at d'
 injection d' with d1 _
 have:its = its':=by simpa using congrArg Array.toList d1
 subst this
 exact r.inj r'
end
abbrev Cx.wish (X:Cx) (E:Value -> Shared -> Prop):Cx:={ X with xe:=E }
abbrev Cx.nox (X:Cx):Cx:=X.wish fun _ _ => False
theorem Cx.Ok.wish {X:Cx} (ok:X.Ok) (E:Value -> Shared -> Prop):(X.wish E).Ok :=
 ⟨ok.mod,ok.kind,ok.glob,ok.blt,ok.above,ok.inj,ok.has,ok.cab,ok.hd,ok.frames,ok.stk,ok.exf,ok.bs,ok.bsz,ok.noex,ok.exfs,ok.funs,ok.frf⟩
theorem Cx.Ok.unwish {X:Cx} {E:Value -> Shared -> Prop} (ok:(X.wish E).Ok):X.Ok :=
 ⟨ok.mod,ok.kind,ok.glob,ok.blt,ok.above,ok.inj,ok.has,ok.cab,ok.hd,ok.frames,ok.stk,ok.exf,ok.bs,ok.bsz,ok.noex,ok.exfs,ok.funs,ok.frf⟩
section
variable {X:Cx} {pins:List (Addr × Obj)} {σ:St} {H:Hp} {s:Shared} {E:Value -> Shared -> Prop}
theorem Inv.wish (I:Inv X pins σ H s) (E:Value -> Shared -> Prop):Inv (X.wish E) pins σ H s:=⟨I.ok.wish E,I.os,I.bare,I.base,I.loc,I.cell,I.free,I.freeC,I.pin,I.hok,I.len⟩
theorem Inv.unwish (I:Inv (X.wish E) pins σ H s):Inv X pins σ H s:=⟨I.ok.unwish,I.os,I.bare,I.base,I.loc,I.cell,I.free,I.freeC,I.pin,I.hok,I.len⟩
theorem SP.unwish {D:Ends} {f:Flow} {s':Shared} (h:SP (X.wish E) pins D f s'):SP X pins D f s':=by
 cases f with
 | next => obtain ⟨σ',H',I,q⟩:=h; exact ⟨σ',H',I.unwish,q⟩
 | brk => obtain ⟨σ',H',I,q⟩:=h; exact ⟨σ',H',I.unwish,q⟩
 | cont => obtain ⟨σ',H',I,q⟩:=h; exact ⟨σ',H',I.unwish,q⟩
 | ret u => obtain ⟨v,σ',H',I,r,q⟩:=h; exact ⟨v,σ',H',I.unwish,r,q⟩
theorem PSs.nox {st:List Stmt} {t:TS} (h:PSs X.nox st t):PSs X st t:=fun pins s σ H D I hw =>
 wpAny_mono (h pins s σ H D (I.wish _) hw) (fun _ _ q => q.unwish) fun _ _ z => False.elim z
end
section
variable {X:Cx} {st:Stmt} {rest:List Stmt} {t u:TS} {e:Expr} {te:TE} {pos:Pos}
def tNext:TS:=fun D σ H => D.nx σ H
def tSeq (t u:TS):TS:=fun D σ H => t { D with nx:=u D } σ H
theorem pss_nil:PSs X [] tNext:=fun _ _ σ H _ I h => wpAny_execs_nil ⟨σ,H,I,h⟩
theorem pss_cons (h1:PS X st t) (h2:PSs X rest u):PSs X (st :: rest) (tSeq t u):=by
 intro pins s σ H D I h
 refine wpAny_execs_cons (thn (h1 pins s σ H { D with nx:=u D } I h) fun f s1 q => ?_)
 cases f with
 | next =>
  obtain ⟨σ',H',I',q⟩:=q
  exact h2 pins s1 σ' H' D I' q
 | ret v => exact q
 | brk => exact q
 | cont => exact q
def tBreak:TS:=fun D σ H => D.bk σ H
def tCont:TS:=fun D σ H => D.ct σ H
theorem ps_pass:PS X (.Pass pos) tNext:=fun _ _ σ H _ I h => wpAny_Pass ⟨σ,H,I,h⟩
theorem ps_break:PS X (.Break pos) tBreak:=fun _ _ σ H _ I h => wpAny_Break ⟨σ,H,I,h⟩
theorem ps_continue:PS X (.Continue pos) tCont:=fun _ _ σ H _ I h => wpAny_Continue ⟨σ,H,I,h⟩
theorem Inv.quiet {pins:List (Addr × Obj)} {σ:St} {H:Hp} {s:Shared} (I:Inv X pins σ H s):interactive X.env = false:=by simp [interactive,I.ok.kind]
theorem ps_doc {x j pos pos'}:PS X (.Expr (.Constant (.str x) j pos) pos') tNext:=fun _ s σ H _ I h => wpAny_Expr (Calls.Constant_str (show SP X _ _ .next { s with toks:=s.toks + 1 } from ⟨σ,H,I.tok _,h⟩)) I.quiet
def tDrop (te:TE):TS:=fun D σ H => te σ H fun _ H1 => D.nx σ H1
theorem ps_expr (he:PE X e te) (hs:swapsWith e none pos.line X.env = pure false:=by rfl):PS X (.Expr e pos) (tDrop te):=by
 intro pins s σ H D I h
 exact wpAny_Expr_any (thn (he pins s σ H _ I h) fun v s1 ⟨x,H1,I1,r1,q1⟩ => ⟨σ,H1,I1,q1⟩) I.quiet hs
def tRet (te:TE):TS:=fun D σ H => te σ H D.rt
theorem ps_ret (he:PE X e te):PS X (.Return (some e) pos) (tRet te):=by
 intro pins s σ H D I h
 exact wpAny_Return_some (thn (he pins s σ H _ I h) fun v s1 ⟨x,H1,I1,r1,q1⟩ => ⟨x,σ,H1,I1,r1,q1⟩)
def tRetN:TS:=fun D _ H => D.rt .non H
theorem ps_retN:PS X (.Return none pos) tRetN:=fun _ _ σ H _ I h => wpAny_Return_none ⟨.non,σ,H,I,rfl,h⟩
def tIfS (c:TT) (t u:TS):TS:=fun D σ H => c σ H fun b H1 => if b = true then t D σ H1 else u D σ H1
theorem ps_if {c:Expr} {a b:List Stmt} {tc:TT} (hc:PT X c tc) (ha:PSs X a t) (hb:PSs X b u):PS X (.If c a b pos) (tIfS tc t u):=by
 intro pins s σ H D I h
 refine wpAny_If (thn (hc pins s σ H _ I h) fun d s1 ⟨H1,I1,q1⟩ => ?_)
 cases d with
 | true => exact ha pins s1 σ H1 D I1 q1
 | false => exact hb pins s1 σ H1 D I1 q1
end
abbrev TG:=V -> St -> Hp -> (St -> Hp -> Prop) -> Prop
abbrev TGs:=List V -> St -> Hp -> (St -> Hp -> Prop) -> Prop
def PG (X:Cx) (target:Expr) (t:TG):Prop :=
 ∀ (pins:List (Addr × Obj)) (s:Shared) (σ:St) (H:Hp) (v:V) (u:Value) (Q:St -> Hp -> Prop),Inv X pins σ H s -> RelV v u -> t v σ H Q ->
  wpAny (model X.prog X.w) X.A (assign target X.env u) (fun _ s' => ∃ σ' H',Inv X pins σ' H' s' /\ Q σ' H') X.xe s
def PGs (X:Cx) (ts:List Expr) (t:TGs):Prop :=
 ∀ (pins:List (Addr × Obj)) (s:Shared) (σ:St) (H:Hp) (vs:List V) (us:List Value) (Q:St -> Hp -> Prop),Inv X pins σ H s -> Vals vs us -> t vs σ H Q ->
  wpAny (model X.prog X.w) X.A (assignInOrder ((assignEach ts X.env).map (·.2)) us) (fun _ s' => ∃ σ' H',Inv X pins σ' H' s' /\ Q σ' H') X.xe s
abbrev TSet:=V -> V -> V -> Hp -> (Hp -> Prop) -> Prop
abbrev TIp:=V -> V -> Hp -> VK -> Prop
section
variable {X:Cx} {pos:Pos}
def gName (i:Nat):TG:=fun v σ H Q => Q (σ.set i (some v)) H
theorem pg_name {i:Nat} {x:Str} (hN:X.N.Nodup) (hi:X.N[i]? = some x) (hx:Loc X.env.scope x) (hf:X.fn x = true \/ X.env.scope.names.lookup x = some .local:=by first | exact .inl rfl | exact .inr rfl | assumption):PG X (.Name x pos) (gName i):=by
 intro pins s σ H v u Q I r h
 exact wpAny_assign_Name (store_ok I hN hi hx r (fun s' I' => ⟨_,H,I',h⟩) hf)
def gNil:TGs:=fun vs σ H Q => vs = [] /\ Q σ H
def gCons (t:TG) (u:TGs):TGs:=fun vs σ H Q => ∃ v r,vs = v :: r /\ t v σ H fun σ' H' => u r σ' H' Q
theorem pgs_nil:PGs X [] gNil:=by
 intro pins s σ H vs us Q I r h
 obtain ⟨e,h⟩:=h
 subst e
 cases r
 exact assignInOrder_nil ⟨σ,H,I,h⟩
theorem pgs_cons {e:Expr} {es:List Expr} {t:TG} {u:TGs} (h1:PG X e t) (h2:PGs X es u)
  (hs:(assignEach (e :: es) X.env).map (·.2) = assign e X.env :: (assignEach es X.env).map (·.2):=by rfl):PGs X (e :: es) (gCons t u):=by
 intro pins s σ H vs us Q I r h
 obtain ⟨v,vr,e1,h⟩:=h
 subst e1
 cases r with
 | cons r rr =>
  rw [hs]
  refine assignInOrder_cons (thn (h1 pins s σ H _ _ _ I r h) fun _ s1 ⟨σ1,H1,I1,q1⟩ => ?_)
  exact h2 pins s1 σ1 H1 _ _ Q I1 rr q1
def gTup (K:PySem.W.Frag) (n:Nat) (t:TGs):TG:=fun v σ H Q => ∃ a xs,v = .ref a /\ SqT K H a xs /\ xs.length = n /\ t xs σ H Q
theorem pg_tup {es:List Expr} {k:Nat} {t:TGs} {n:Nat} (hc:X.calm = true) (h:PGs X es t)
  (hn:(assignEach es X.env).length = n:=by rfl) (hst:(assignEach es X.env).findIdx? (·.1) = none:=by rfl):PG X (.Tuple es k pos) (gTup X.K n t):=by
 intro pins s σ H v u Q I r hw
 obtain ⟨a,xs,e1,hq,hl,hw⟩:=hw
 subst e1
 cases r
 obtain ⟨its,rv,ht,hz⟩:=I.tuple hq
 refine assign_Tuple_tuple (I.ok.hd hc) ht (by simp [hn,<- hl,rv.length]) hst fun h' hx => ?_
 have I1:Inv X pins σ H { s with heap:=h' }:=I.kept (t':=s.toks) fun b o e => hx b o (Nat.ne_of_lt (Heap.lt_size e)) e
 exact h pins _ σ H xs _ Q I1 (by simpa using rv) hw
def tAsg (te:TE) (g:TG):TS:=fun D σ H => te σ H fun x H1 => g x σ H1 D.nx
theorem ps_asg {tg e:Expr} {te:TE} {g:TG} (he:PE X e te) (hg:PG X tg g) (hs:swapsWithSole [tg] e pos.line X.env = pure false:=by rfl) (hw:swappedStores [tg] e X.env = pure none:=by rfl)
  (h1:(assignEach [tg] X.env).map (·.2) = [assign tg X.env]:=by rfl):PS X (.Assign [tg] e pos) (tAsg te g):=by
 intro pins s σ H D I h
 refine wpAny_Assign_stores (thn (he pins s σ H _ I h) fun v s1 ⟨x,H1,I1,r1,q1⟩ => ?_) hs hw
 rw [h1]
 exact thn (hg pins s1 σ H1 x v _ I1 r1 q1) fun _ s2 q => q
theorem ps_set {i:Nat} {x:Str} {e:Expr} {te:TE} {pos':Pos} (hN:X.N.Nodup) (hi:X.N[i]? = some x) (hx:Loc X.env.scope x) (he:PE X e te) (hs:swapsWith e (some (.Name x pos')) pos.line X.env = pure false:=by rfl) (hf:X.fn x = true \/ X.env.scope.names.lookup x = some .local:=by first | exact .inl rfl | exact .inr rfl | assumption) :
  PS X (.Assign [.Name x pos'] e pos) (tAsg te (gName i)):=by
 intro pins s σ H D I h
 refine wpAny_Assign_Name (thn (he pins s σ H _ I h) fun v s1 ⟨y,H1,I1,r1,q1⟩ => ?_) hs
 exact store_ok I1 hN hi hx r1 (fun s2 I2 => ⟨_,H1,I2,q1⟩) hf
end
section
variable {X:Cx} {pos:Pos}
def tWhile (c:TT) (tb:TS):TS:=fun D σ H => ∃ W:Nat -> St -> Hp -> Prop,(∃ m,W m σ H) /\ ∀ m σ H,W m σ H ->
 c σ H fun b H1 => if b = true then ∃ N:St -> Hp -> Prop,(∀ σ' H',N σ' H' -> ∃ m',m' < m /\ W m' σ' H') /\ tb { D with nx:=N,ct:=N,bk:=D.nx } σ H1 else D.nx σ H1
theorem ps_while {c:Expr} {body:List Stmt} {tc:TT} {tb:TS} (hp:PassesOwn (model X.prog X.w) X.A X.env X.xe) (hc:PT X c tc) (hb:PSs X body tb):PS X (.While c body [] pos) (tWhile tc tb):=by
 intro pins s σ H D I h
 obtain ⟨W,⟨m0,w0⟩,turn⟩:=h
 refine wpAny_While (codeAny_whileLoop (fun n s' => ∃ σ' H',Inv X pins σ' H' s' /\ W n σ' H') ?_ m0 ⟨σ,H,I,w0⟩)
 rintro n s1 ⟨σ1,H1,I1,w1⟩
 refine wpAny_passesOwn hp (thn (hc pins s1 σ1 H1 _ I1 (turn n σ1 H1 w1)) fun b s2 ⟨H2,I2,q2⟩ => ?_)
 cases b with
 | true =>
  obtain ⟨N,hN,q2⟩:=q2
  rw [if_pos rfl]
  refine wpAny_passesOwn hp (thn (hb pins s2 σ1 H2 _ I2 q2) fun f s3 q3 => ?_)
  cases f with
  | next =>
   obtain ⟨σ3,H3,I3,n3⟩:=q3
   obtain ⟨m',hm,w3⟩:=hN σ3 H3 n3
   exact ⟨m',hm,σ3,H3,I3,w3⟩
  | cont =>
   obtain ⟨σ3,H3,I3,n3⟩:=q3
   obtain ⟨m',hm,w3⟩:=hN σ3 H3 n3
   exact ⟨m',hm,σ3,H3,I3,w3⟩
  | brk => exact q3
  | ret v => exact q3
 | false =>
  rw [if_neg Bool.false_ne_true]
  exact wpAny_execs_nil ⟨σ1,H2,I2,q2⟩
end
structure It where
 go:Nat -> Hp -> Prop
 yld:Nat -> Hp -> V -> Hp -> Prop
 stop:Nat -> Hp -> Prop
def FpOk (X:Cx) (pins:List (Addr × Obj)) (H:Hp) (b:Addr):Prop :=
 H b = none /\ b ≠ X.env.locals /\ b ∉ X.fs /\ (b ∈ X.ex \/ X.s₀.heap.objs.size <= b) /\ (∀ x c,X.env.cells.lookup x = some c -> c ≠ b) /\ ∀ p ∈ X.pn ++ pins,p.1 ≠ b
theorem Inv.fpOk {X:Cx} {pins:List (Addr × Obj)} {σ:St} {H H':Hp} {s:Shared} {b:Addr} (I:Inv X pins σ H s) (hb:s.heap.objs.size <= b) (hn:H' b = none):FpOk X pins H' b:=by
 refine ⟨hn,Nat.ne_of_gt (Nat.lt_of_lt_of_le I.lt hb),I.nofs hb,.inr (Nat.le_trans I.sz hb),fun x c e z => ?_,fun p hp z => ?_⟩
 ·obtain ⟨v,q⟩:=I.cell x c e
  exact absurd (Nat.lt_of_lt_of_le q.lt (by rw [z]; exact hb)) (Nat.lt_irrefl _)
 ·exact absurd (Nat.lt_of_lt_of_le (Heap.lt_size (I.pin p hp).1) (by rw [z]; exact hb)) (Nat.lt_irrefl _)
structure Turn (P:Program) (w:World) (K:PySem.W.Frag) (tg:Expr) (J:It) (fp:List Addr) (it:Addr) (tn:Nat -> Heap -> Prop):Prop where
 mem:it ∈ fp
 obj:∀ i h,tn i h -> ∀ b ∈ fp,∃ o,h.get? b = some o /\ ∀ v,o.data ≠ .cell v
 keep:∀ i h h',tn i h -> (∀ b ∈ fp,∀ o,h.get? b = some o -> h'.get? b = some o) -> tn i h'
 item:∀ (X:Cx),X.prog = P -> X.w = w -> X.K = K -> X.calm = true -> ∀ (i:Nat) (pins:List (Addr × Obj)) (s:Shared) (σ:St) (H:Hp) (E:Value -> Shared -> Prop),Inv X pins σ H s -> (∀ b ∈ fp,FpOk X pins H b) -> tn i s.heap -> J.go i H ->
  wpAny (model P w) X.A (pyNext (.ref it)) (fun r s1 => ∃ u,r = some u /\
   wpAny (model P w) X.A (letOwnedTupleGo tg (.ref it) u) (fun _ s2 => ∃ x H',Inv X pins σ H' s2 /\ RelV x u /\ J.yld i H x H' /\ tn (i + 1) s2.heap /\ ∀ b ∈ fp,H' b = none) E s1) E s
 done:∀ (X:Cx),X.prog = P -> X.w = w -> X.K = K -> X.calm = true -> ∀ (i:Nat) (pins:List (Addr × Obj)) (s:Shared) (σ:St) (H:Hp) (E:Value -> Shared -> Prop),Inv X pins σ H s -> (∀ b ∈ fp,FpOk X pins H b) -> tn i s.heap -> J.stop i H ->
  wpAny (model P w) X.A (pyNext (.ref it)) (fun r s1 => r = none /\ Inv X pins σ H s1) E s
 self:∀ (A:Around) (i:Nat) (s:Shared) (Q:Value -> Shared -> Prop) (E:Value -> Shared -> Prop),tn i s.heap -> Q (.ref it) s -> wpAny (model P w) A (pyIter (.ref it)) Q E s
abbrev TI:=St -> Hp -> (It -> Hp -> Prop) -> Prop
def PIE (X:Cx) (pins:List (Addr × Obj)) (σ:St) (tg:Expr) (R:It -> Hp -> Prop) (itv:Value) (s2:Shared):Prop :=
 ∃ (it:Addr) (fp:List Addr) (tn:Nat -> Heap -> Prop) (J:It) (H':Hp),itv = .ref it /\ Inv X pins σ H' s2 /\ Turn X.prog X.w X.K tg J fp it tn /\ tn 0 s2.heap /\ (∀ b ∈ fp,FpOk X pins H' b) /\ R J H'
def PI (X:Cx) (tg iter:Expr) (wi:TI):Prop :=
 ∀ (pins:List (Addr × Obj)) (s:Shared) (σ:St) (H:Hp) (R:It -> Hp -> Prop),Inv X pins σ H s -> wi σ H R ->
  wpAny (model X.prog X.w) X.A (eval iter X.env) (fun v s1 => wpAny (model X.prog X.w) X.A (pyIter v) (PIE X pins σ tg R) X.xe s1) X.xe s
theorem go_of {M:Model} {A:Around} {E:Value -> Shared -> Prop} {s:Shared} {tg:Expr} {it:Addr} {u:Value} {o:Obj} {n:String} {vs:Array Value} {Q:Unit -> Shared -> Prop} (ho:s.heap.get? it = some o) (hc:o.cls = .type n) (hd:o.data = .fields vs)
  (hn:["enumerate","zip","dict_itemiterator","dict_reverseitemiterator","odict_iterator","itertools.zip_longest","itertools.pairwise"].contains n = false) (hQ:Q () s):wpAny M A (letOwnedTupleGo tg (.ref it) u) Q E s:=by
 unfold letOwnedTupleGo
 cases tg <;> first
  | exact wpAny_pure hQ
  | (cases u <;> first
    | exact wpAny_pure hQ
    | (refine wpAny_bind (wpAny_load ho ?_)
       rw [hc,hd]
       show wpAny M A (if (["enumerate","zip","dict_itemiterator","dict_reverseitemiterator","odict_iterator","itertools.zip_longest","itertools.pairwise"].contains n && vs[0]? == some (rawInt _)) = true then _ else _) Q E s
       rw [if_neg (by intro h; rw [hn,Bool.false_and] at h; cases h)]
       exact wpAny_pure hQ))
def Itl (K:PySem.W.Frag) (a:Addr):It :=
 ⟨fun i H => ∃ xs x,SqL K H a xs /\ xs[i]? = some x,fun i H x H' => H' = H /\ ∀ xs,SqL K H a xs -> xs[i]? = some x,fun i H => ∃ xs,SqL K H a xs /\ xs.length <= i⟩
def Itt (K:PySem.W.Frag) (a:Addr):It :=
 ⟨fun i H => ∃ xs x,SqT K H a xs /\ xs[i]? = some x,fun i H x H' => H' = H /\ ∀ xs,SqT K H a xs -> xs[i]? = some x,fun i H => ∃ xs,SqT K H a xs /\ xs.length <= i⟩
def Itr (lo:Int) (n:Nat):It:=⟨fun i _ => i < n,fun i H x H' => H' = H /\ x = .int (lo + i),fun i _ => n <= i⟩
theorem turn_list {P:Program} {w:World} {K:PySem.W.Frag} {tg:Expr} (a it:Addr):Turn P w K tg (Itl K a) [it] it (fun i h => h.IsListIter it a i) where
 mem:=by simp
 obj:=fun i h st b hb => by
  have e:b = it:=by simpa using hb
  subst e
  obtain ⟨o,e,c,d⟩:=st
  exact ⟨o,e,fun v z => by rw [d] at z; cases z⟩
 keep:=fun i h h' st k => st.at fun o e => k it (by simp) o e
 item:=by
  intro X hP hw hK hc i pins s σ H E I hf st hg
  subst hP hw hK
  obtain ⟨xs,x,hq,hx⟩:=hg
  obtain ⟨its,rv,p,hz⟩:=I.list hq
  obtain ⟨u,hu,ru⟩:=rv.get hx
  obtain ⟨f0,f1,f2,f3,f4,f5⟩:=hf it (by simp)
  refine wpAny_pyNext_list_item st p.isList (x:=u) (by simpa using hu) fun h' st' sb => ?_
  have I1:Inv X pins σ H { s with heap:=h' }:=I.turned (t':=s.toks) (fun b o hb e => (sb.2 b hb).trans e) f0 f1 f3 f4 f5
  obtain ⟨o,e,c,d⟩:=id st'
  exact ⟨u,rfl,go_of (s:={ s with heap:=h' }) e c d (by decide) ⟨x,H,I1,ru,⟨rfl,fun ys hy => by rw [I.list_inj hy hq]; exact hx⟩,st',fun b hb => (hf b hb).1⟩⟩
 done:=by
  intro X hP hw hK hc i pins s σ H E I hf st hg
  subst hP hw hK
  obtain ⟨xs,hq,hx⟩:=hg
  obtain ⟨its,rv,p,hz⟩:=I.list hq
  obtain ⟨f0,f1,f2,f3,f4,f5⟩:=hf it (by simp)
  have hl:=rv.length
  exact wpAny_pyNext_list_end (I.ok.hd hc) st p.isList (by simp; omega) fun h' eb => ⟨rfl,I.turned (t':=s.toks) (fun b o hb e => eb b o hb e) f0 f1 f3 f4 f5⟩
 self:=fun _ _ _ _ _ st h => wpAny_pyIter_listiter st h
theorem turn_tuple {P:Program} {w:World} {K:PySem.W.Frag} {tg:Expr} (a it:Addr):Turn P w K tg (Itt K a) [it] it (fun i h => h.IsTupleIter it a i) where
 mem:=by simp
 obj:=fun i h st b hb => by
  have e:b = it:=by simpa using hb
  subst e
  obtain ⟨o,e,c,d⟩:=st
  exact ⟨o,e,fun v z => by rw [d] at z; cases z⟩
 keep:=fun i h h' st k => st.at fun o e => k it (by simp) o e
 item:=by
  intro X hP hw hK hc i pins s σ H E I hf st hg
  subst hP hw hK
  obtain ⟨xs,x,hq,hx⟩:=hg
  obtain ⟨its,rv,p,hz⟩:=I.tuple hq
  obtain ⟨u,hu,ru⟩:=rv.get hx
  obtain ⟨f0,f1,f2,f3,f4,f5⟩:=hf it (by simp)
  refine wpAny_pyNext_tuple_item st (show s.heap.IsTuple a its.toArray from p) (x:=u) (by simpa using hu) fun h' st' sb => ?_
  have I1:Inv X pins σ H { s with heap:=h' }:=I.turned (t':=s.toks) (fun b o hb e => (sb.2 b hb).trans e) f0 f1 f3 f4 f5
  obtain ⟨o,e,c,d⟩:=id st'
  exact ⟨u,rfl,go_of (s:={ s with heap:=h' }) e c d (by decide) ⟨x,H,I1,ru,⟨rfl,fun ys hy => by rw [I.tuple_inj hy hq]; exact hx⟩,st',fun b hb => (hf b hb).1⟩⟩
 done:=by
  intro X hP hw hK hc i pins s σ H E I hf st hg
  subst hP hw hK
  obtain ⟨xs,hq,hx⟩:=hg
  obtain ⟨its,rv,p,hz⟩:=I.tuple hq
  obtain ⟨f0,f1,f2,f3,f4,f5⟩:=hf it (by simp)
  have hl:=rv.length
  exact wpAny_pyNext_tuple_end (I.ok.hd hc) st (show s.heap.IsTuple a its.toArray from p) (by simp; omega) fun h' eb => ⟨rfl,I.turned (t':=s.toks) (fun b o hb e => eb b o hb e) f0 f1 f3 f4 f5⟩
 self:=fun _ _ _ _ _ st h => wpAny_pyIter_tupleiter st h
theorem turn_range {P:Program} {w:World} {K:PySem.W.Frag} {tg:Expr} (it:Addr) (lo:Int) (n:Nat):Turn P w K tg (Itr lo n) [it] it (fun i h => IsRangeIter h it (lo + (i:Nat) * 1) ((n:Int) - (i:Nat)) 1) where
 mem:=by simp
 obj:=fun i h st b hb => by
  have e:b = it:=by simpa using hb
  subst e
  exact ⟨_,st,fun v z => by
   have z':Data.fields _ = Data.cell v:=z
   cases z'⟩
 keep:=fun i h h' st k => k it (by simp) _ st
 item:=by
  intro X hP hw hK hc i pins s σ H E I hf st hg
  subst hP hw hK
  obtain ⟨f0,f1,f2,f3,f4,f5⟩:=hf it (by simp)
  have W:=Walks.range (prog:=X.prog) (w:=X.w) (I.ok.hd hc) it lo 1 n
  refine W.item i s _ _ hg st fun v h' tk hv st' kk => ?_
  obtain ⟨t,rfl⟩:=hv
  have I1:Inv X pins σ H { s with heap:=h',toks:=tk }:=I.turned (fun b o hb e => kk b o (by simpa using hb) e) f0 f1 f3 f4 f5
  refine ⟨_,rfl,go_of (s:={ s with heap:=h',toks:=tk }) (n:="range_iterator") st' rfl rfl (by decide) ⟨.int (lo + i),H,I1,⟨t,?_⟩,⟨rfl,rfl⟩,st',fun b hb => (hf b hb).1⟩⟩
  rw [Int.mul_one]
 done:=by
  intro X hP hw hK hc i pins s σ H E I hf st hg
  subst hP hw hK
  obtain ⟨f0,f1,f2,f3,f4,f5⟩:=hf it (by simp)
  exact wpAny_pyNext_range_end (I.ok.hd hc) st (by have:n <= i:=hg; omega) fun h' eb => ⟨rfl,I.turned (t':=s.toks) (fun b o hb e => eb b o hb e) f0 f1 f3 f4 f5⟩
 self:=fun _ _ _ _ _ st h => wpAny_pyIter_rangeiter st h
end L2
namespace L2
open PySem PySem.Spec PyProof.Rows
section
variable {X:Cx} {tg:Expr}
def iList (K:PySem.W.Frag) (tl:TE):TI:=fun σ H R => tl σ H fun x H1 => ∃ a,x = .ref a /\ (∃ xs,SqL K H1 a xs) /\ R (Itl K a) H1
def iTup (K:PySem.W.Frag) (tl:TE):TI:=fun σ H R => tl σ H fun x H1 => ∃ a,x = .ref a /\ (∃ xs,SqT K H1 a xs) /\ R (Itt K a) H1
theorem pi_list {l:Expr} {tl:TE} (hl:PE X l tl):PI X tg l (iList X.K tl):=by
 intro pins s σ H R I h
 refine thn (hl pins s σ H _ I h) fun v s1 ⟨x,H1,I1,r1,q1⟩ => ?_
 obtain ⟨a,e,⟨xs,hq⟩,q⟩:=q1
 subst e
 cases r1
 obtain ⟨its,rv,p,hz⟩:=I1.list hq
 refine wpAny_pyIter_list p.isList ?_
 refine ⟨s1.heap.objs.size,[s1.heap.objs.size],_,_,H1,rfl,I1.kept (t':=s1.toks) fun b o e => Heap.get?_push_of_some _ e,turn_list a _,⟨_,Heap.get?_push_size _ rfl,rfl,rfl⟩,fun b hb => ?_,q⟩
 have e:b = s1.heap.objs.size:=by simpa using hb
 subst e
 exact I1.fpOk (Nat.le_refl _) (I1.hok.fresh (Nat.le_refl _))
theorem pi_tup {l:Expr} {tl:TE} (hl:PE X l tl):PI X tg l (iTup X.K tl):=by
 intro pins s σ H R I h
 refine thn (hl pins s σ H _ I h) fun v s1 ⟨x,H1,I1,r1,q1⟩ => ?_
 obtain ⟨a,e,⟨xs,hq⟩,q⟩:=q1
 subst e
 cases r1
 obtain ⟨its,rv,p,hz⟩:=I1.tuple hq
 refine wpAny_pyIter_tuple (show s1.heap.IsTuple a its.toArray from p) ?_
 refine ⟨s1.heap.objs.size,[s1.heap.objs.size],_,_,H1,rfl,I1.kept (t':=s1.toks) fun b o e => Heap.get?_push_of_some _ e,turn_tuple a _,⟨_,Heap.get?_push_size _ rfl,rfl,rfl⟩,fun b hb => ?_,q⟩
 have e:b = s1.heap.objs.size:=by simpa using hb
 subst e
 exact I1.fpOk (Nat.le_refl _) (I1.hok.fresh (Nat.le_refl _))
theorem range_it {pins:List (Addr × Obj)} {σ:St} {H:Hp} {s:Shared} {R:It -> Hp -> Prop} {E:Value -> Shared -> Prop} {lo hi:Int} {t u v:Tok} {tk:Nat} (I:Inv X pins σ H s) (h1:-(2 ^ 62) <= lo) (h2:lo < 2 ^ 62) (h3:-(2 ^ 62) <= hi) (h4:hi < 2 ^ 62)
  (q:R (Itr lo (hi - lo).toNat) H):wpAny (model X.prog X.w) X.A (pyIter (.ref s.heap.objs.size)) (PIE X pins σ tg R) E { s with heap:=s.heap.push { cls:=.type "range",data:=.fields #[.int lo t,.int hi u,.int 1 v] },toks:=tk }:=by
 refine wpAny_pyIter_range (IsRange.new ..) (small_one h1 h2 h3 h4) ?_
 have I1:Inv X pins σ H { s with heap:=s.heap.push { cls:=.type "range",data:=.fields #[.int lo t,.int hi u,.int 1 v] },toks:=tk }:=I.kept fun b o e => Heap.get?_push_of_some _ e
 refine ⟨(s.heap.push { cls:=.type "range",data:=.fields #[.int lo t,.int hi u,.int 1 v] }).objs.size,[(s.heap.push { cls:=.type "range",data:=.fields #[.int lo t,.int hi u,.int 1 v] }).objs.size],_,_,H,rfl,
  I1.kept (t':=tk) fun b o e => Heap.get?_push_of_some _ e,turn_range _ lo (hi - lo).toNat,?_,fun b hb => ?_,q⟩
 ·have e1:lo + ((0:Nat):Int) * 1 = lo:=by simp
  have e2:(((hi - lo).toNat:Nat):Int) - ((0:Nat):Int) = Builtin.Range.rangeSize lo hi 1:=by rw [rangeSize_one]; split <;> omega
  show IsRangeIter _ _ (lo + ((0:Nat):Int) * 1) ((((hi - lo).toNat:Nat):Int) - ((0:Nat):Int)) 1
  rw [e1,e2]
  exact Heap.get?_push_size _ rfl
 ·have e:b = (s.heap.push { cls:=.type "range",data:=.fields #[.int lo t,.int hi u,.int 1 v] }).objs.size:=by simpa using hb
  subst e
  exact I1.fpOk (Nat.le_refl _) (I1.hok.fresh (Nat.le_refl _))
def iRng1 (ta:TA):TI:=fun σ H R => ta σ H fun vs H1 => ∃ j:Int,vs = [.int j] /\ -(2 ^ 62) <= j /\ j < 2 ^ 62 /\ R (Itr 0 j.toNat) H1
def iRng2 (ta:TA):TI:=fun σ H R => ta σ H fun vs H1 => ∃ i j:Int,vs = [.int i,.int j] /\ (-(2 ^ 62) <= i /\ i < 2 ^ 62 /\ -(2 ^ 62) <= j /\ j < 2 ^ 62) /\ R (Itr i (j - i).toNat) H1
theorem pi_range1 {a:Expr} {ta:TA} {p pos:Pos} (hg:Gl X "range") (hm:X.mg "range" = none) (ha:PA X [a] ta) (hs:starEach [a] X.env = [(false,eval a X.env)]:=by rfl):PI X tg (.Call (.Name "range" p) [a] [] pos) (iRng1 ta):=by
 intro pins s σ H R I h
 refine Call_ (ld_blt I hg hm boot_range (PyProof.Rows.callWith_type1 (thn (ha pos pins s σ H _ I h) fun us s1 ⟨vs,H1,I1,r1,q1⟩ => ?_) hs rfl))
 obtain ⟨j,e,q1,q2,q⟩:=q1
 subst e
 cases r1 with
 | cons r rr =>
  cases rr
  obtain ⟨t,rfl⟩:=r
  exact call_range_1 (range_it I1 (by omega) (by omega) q1 q2 (by simpa using q))
theorem pi_range2 {a b:Expr} {ta:TA} {p pos:Pos} (hg:Gl X "range") (hm:X.mg "range" = none) (ha:PA X [a,b] ta) (hs:starEach [a,b] X.env = [(false,eval a X.env),(false,eval b X.env)]:=by rfl) (hs2:starEach [b] X.env = [(false,eval b X.env)]:=by rfl) :
  PI X tg (.Call (.Name "range" p) [a,b] [] pos) (iRng2 ta):=by
 intro pins s σ H R I h
 refine Call_ (ld_blt I hg hm boot_range (PyProof.Rows.callWith_type1 (thn (ha pos pins s σ H _ I h) fun us s1 ⟨vs,H1,I1,r1,q1⟩ => ?_) (by rw [hs,hs2]) (by rw [hs2]; rfl)))
 obtain ⟨i,j,e,⟨q1,q2,q3,q4⟩,q⟩:=q1
 subst e
 cases r1 with
 | cons r rr =>
  cases rr with
  | cons r' rr =>
   cases rr
   obtain ⟨t,rfl⟩:=r
   obtain ⟨t',rfl⟩:=r'
   exact call_range_2 (range_it I1 q1 q2 q3 q4 q)
def tFor (wi:TI) (g:TG) (tb:TS):TS:=fun D σ H => wi σ H fun J H1 => ∃ W:Nat -> Nat -> St -> Hp -> Prop,(∃ m,W 0 m σ H1) /\ ∀ i m σ H,W i m σ H ->
 (J.stop i H /\ D.nx σ H) \/ (J.go i H /\ ∃ N:St -> Hp -> Prop,(∀ σ' H',N σ' H' -> ∃ m',m' < m /\ W (i + 1) m' σ' H') /\ ∀ x H',J.yld i H x H' -> g x σ H' fun σ2 H2 => tb { D with nx:=N,ct:=N,bk:=D.nx } σ2 H2)
def pinsAt (fp:List Addr) (h:Heap):List (Addr × Obj):=fp.filterMap fun b => (h.get? b).map fun o => (b,o)
theorem mem_pinsAt {fp:List Addr} {h:Heap} {b:Addr} {o:Obj} (hb:b ∈ fp) (e:h.get? b = some o):(b,o) ∈ pinsAt fp h:=List.mem_filterMap.mpr ⟨b,hb,by rw [e]; rfl⟩
theorem of_pinsAt {fp:List Addr} {h:Heap} {p:Addr × Obj} (hp:p ∈ pinsAt fp h):p.1 ∈ fp /\ h.get? p.1 = some p.2:=by
 obtain ⟨b,hb,e⟩:=List.mem_filterMap.mp hp
 cases q:h.get? b with
 | none => rw [q] at e; cases e
 | some o =>
  rw [q] at e
  have e':(b,o) = p:=Option.some.inj e
  subst e'
  exact ⟨hb,q⟩
theorem Inv.pinned {pins:List (Addr × Obj)} {σ:St} {H:Hp} {s:Shared} {fp:List Addr} (I:Inv X pins σ H s) (hf:∀ b ∈ fp,FpOk X pins H b) (ho:∀ b ∈ fp,∃ o,s.heap.get? b = some o /\ ∀ v,o.data ≠ .cell v):Inv X (pins ++ pinsAt fp s.heap) σ H s :=
 I.pins_of fun p hp => (List.mem_append.mp hp).elim (fun z => I.pin p (List.mem_append_right _ z)) fun z => by
  obtain ⟨hb,e⟩:=of_pinsAt z
  obtain ⟨f0,f1,f2,_⟩:=hf p.1 hb
  obtain ⟨o,e',d⟩:=ho p.1 hb
  rw [e] at e'; cases e'
  exact ⟨e,f0,f1,f2,d⟩
theorem Inv.unpinned {pins pl:List (Addr × Obj)} {σ:St} {H:Hp} {s:Shared} (I:Inv X (pins ++ pl) σ H s):Inv X pins σ H s:=I.pins_of fun p hp => I.pin p (List.mem_append_right _ (List.mem_append_left _ hp))
theorem ps_for {iter:Expr} {body:List Stmt} {wi:TI} {g:TG} {tb:TS} {pos:Pos} (hp:PassesOwn (model X.prog X.w) X.A X.env X.xe) (hc:X.calm = true) (hi:PI X tg iter wi) (hg:PG X tg g) (hb:PSs X body tb)
  (hs:∀ x,foldedSetIterable iter X.env x = pure x:=by intro _; rfl):PS X (.For tg iter body [] pos) (tFor wi g tb):=by
 intro pins s σ H D I h
 refine wpAny_For (thn (hi pins s σ H _ I h) fun v s1 h1 => thn h1 fun itv s2 h2 => ?_) hs
 obtain ⟨it,fp,tn,J,H2,e,I2,T,st2,f2,W,⟨m0,w0⟩,turn⟩:=h2
 subst e
 -- what stays true of the iterator's objects through the loop
 have stat:∀ {H':Hp},(∀ b ∈ fp,H' b = none) -> ∀ b ∈ fp,FpOk X pins H' b:=fun hn b hb => ⟨hn b hb,(f2 b hb).2⟩
 refine codeAny_forLoop_any (fun n s' => ∃ i σ' H',Inv X pins σ' H' s' /\ tn i s'.heap /\ (∀ b ∈ fp,H' b = none) /\ W i n σ' H') ?_ m0 ⟨0,σ,H2,I2,st2,fun b hb => (f2 b hb).1,w0⟩
 rintro n s3 ⟨i,σ3,H3,I3,st3,fr3,w3⟩
 rcases turn i n σ3 H3 w3 with ⟨stop,qn⟩ | ⟨go,N,hN,step⟩
 ·refine wpAny_passesOwn hp (thn (T.done X rfl rfl rfl hc i pins s3 σ3 H3 X.xe I3 (stat fr3) st3 stop) fun r s4 ⟨hr,I4⟩ => ?_)
  subst hr
  exact wpAny_execs_nil ⟨σ3,H3,I4,qn⟩
 ·refine wpAny_passesOwn hp (thn (T.item X rfl rfl rfl hc i pins s3 σ3 H3 X.xe I3 (stat fr3) st3 go) fun r s4 ⟨u,hr,h4⟩ => ?_)
  subst hr
  refine wpAny_passesOwn hp (thn h4 fun _ s5 ⟨x,H5,I5,r5,y5,st5,fr5⟩ => ?_)
  have I5':=I5.pinned (stat fr5) (T.obj _ _ st5)
  refine wpAny_passesOwn hp (thn (hg _ s5 σ3 H5 x u _ I5' r5 (step x H5 y5)) fun _ s6 ⟨σ6,H6,I6,q6⟩ => ?_)
  refine wpAny_passesOwn hp (thn (hb _ s6 σ6 H6 _ I6 q6) fun f s7 q7 => ?_)
  have again:∀ {σ7:St} {H7:Hp},Inv X (pins ++ pinsAt fp s5.heap) σ7 H7 s7 -> N σ7 H7 -> ∃ m,m < n /\ ∃ i σ' H',Inv X pins σ' H' s7 /\ tn i s7.heap /\ (∀ b ∈ fp,H' b = none) /\ W i m σ' H':=fun {σ7 H7} I7 n7 => by
   obtain ⟨m',hm,w7⟩:=hN σ7 H7 n7
   refine ⟨m',hm,i + 1,σ7,H7,I7.unpinned,T.keep _ _ _ st5 fun b hb o e => (I7.pin (b,o) (List.mem_append_right _ (List.mem_append_right _ (mem_pinsAt hb e)))).1,fun b hb => ?_,w7⟩
   obtain ⟨o,e,d⟩:=T.obj _ _ st5 b hb
   exact (I7.pin (b,o) (List.mem_append_right _ (List.mem_append_right _ (mem_pinsAt hb e)))).2.1
  cases f with
  | next => obtain ⟨σ7,H7,I7,n7⟩:=q7; exact again I7 n7
  | cont => obtain ⟨σ7,H7,I7,n7⟩:=q7; exact again I7 n7
  | brk => obtain ⟨σ7,H7,I7,q7⟩:=q7; exact ⟨σ7,H7,I7.unpinned,q7⟩
  | ret v => obtain ⟨x7,σ7,H7,I7,r7,q7⟩:=q7; exact ⟨x7,σ7,H7,I7.unpinned,r7,q7⟩
end
end L2
namespace L2
open PySem PySem.Spec PyProof.Rows
abbrev R2:=V -> V -> Hp -> VK -> Prop
def OpR (X:Cx) (f:Value -> Value -> Sem Value) (r:R2):Prop :=
 ∀ (pins:List (Addr × Obj)) (s:Shared) (σ:St) (H:Hp) (x y:V) (v u:Value) (Q:VK),Inv X pins σ H s -> RelV x v -> RelV y u -> r x y H Q ->
  wpAny (model X.prog X.w) X.A (f v u) (EP X pins σ Q) X.xe s
def UnR (X:Cx) (f:Value -> Sem Value) (r:V -> Hp -> VK -> Prop):Prop :=
 ∀ (pins:List (Addr × Obj)) (s:Shared) (σ:St) (H:Hp) (x:V) (v:Value) (Q:VK),Inv X pins σ H s -> RelV x v -> r x H Q ->
  wpAny (model X.prog X.w) X.A (f v) (EP X pins σ Q) X.xe s
def CallR (X:Cx) (f:Value) (r:List V -> Hp -> VK -> Prop):Prop :=
 ∀ (pins:List (Addr × Obj)) (s:Shared) (σ:St) (H:Hp) (xs:List V) (us:List Value) (Q:VK),Inv X pins σ H s -> Vals xs us -> r xs H Q ->
  wpAny (model X.prog X.w) X.A (call f us) (EP X pins σ Q) X.xe s
def TruR (X:Cx) (r:V -> Hp -> (Bool -> Hp -> Prop) -> Prop):Prop :=
 ∀ (pins:List (Addr × Obj)) (s:Shared) (σ:St) (H:Hp) (x:V) (v:Value) (Q:Bool -> Hp -> Prop),Inv X pins σ H s -> RelV x v -> r x H Q ->
  wpAny (model X.prog X.w) X.A (truthy v) (TP X pins σ Q) X.xe s
def tOp (r:R2) (ta tb:TE):TE:=fun σ H Q => ta σ H fun x H1 => tb σ H1 fun y H2 => r x y H2 Q
def tUn (r:V -> Hp -> VK -> Prop) (ta:TE):TE:=fun σ H Q => ta σ H fun x H1 => r x H1 Q
def rI (C:Int -> Int -> Prop) (g:Int -> Int -> V):R2:=fun x y H Q => ∃ i j,x = .int i /\ y = .int j /\ C i j /\ Q (g i j) H
def rI0 (g:Int -> Int -> V):R2:=fun x y H Q => ∃ i j,x = .int i /\ y = .int j /\ Q (g i j) H
def rU (g:Int -> V):V -> Hp -> VK -> Prop:=fun x H Q => ∃ i,x = .int i /\ Q (g i) H
section
variable {X:Cx} {a b c:Expr} {ta tb tc:TE} {pos:Pos}
theorem binT (ha:PE X a ta) (hb:PE X b tb) {pins:List (Addr × Obj)} {s:Shared} {σ:St} {H:Hp} {R:V -> V -> Hp -> Prop} (I:Inv X pins σ H s)
  (h:ta σ H fun x H1 => tb σ H1 fun y H2 => R x y H2) {Q:Value -> Shared -> Prop} {f:Value -> Value -> Sem Value}
  (hf:∀ v u s2 x y H2,Inv X pins σ H2 s2 -> RelV x v -> RelV y u -> R x y H2 -> wpAny (model X.prog X.w) X.A (f v u) Q X.xe s2) :
  wpAny (model X.prog X.w) X.A (eval a X.env) (fun v s₁ => wpAny (model X.prog X.w) X.A (eval b X.env) (fun u s₂ => wpAny (model X.prog X.w) X.A (f v u) Q X.xe s₂) X.xe s₁) X.xe s:=by
 refine thn (ha pins s σ H _ I h) fun v s1 ⟨x,H1,I1,r1,q1⟩ => ?_
 refine thn (hb pins s1 σ H1 _ I1 q1) fun u s2 ⟨y,H2,I2,r2,q2⟩ => ?_
 exact hf v u s2 x y H2 I2 r1 r2 q2
theorem pe_op {op:Operator} {r:R2} (ho:OpR X (binaryOp op) r) (ha:PE X a ta) (hb:PE X b tb):PE X (.BinOp a op b pos) (tOp r ta tb):=by
 intro pins s σ H Q I h
 exact wpAny_BinOp (binT ha hb I h fun v u s2 x y H2 I2 rx ry q => ho pins s2 σ H2 x y v u Q I2 rx ry q)
theorem pe_un {op:UnaryOp} {r:V -> Hp -> VK -> Prop} (ho:UnR X (unaryOp op) r) (ha:PE X a ta):PE X (.UnaryOp op a pos) (tUn r ta):=by
 intro pins s σ H Q I h
 exact UnaryOp_ (thn (ha pins s σ H _ I h) fun v s1 ⟨x,H1,I1,r1,q1⟩ => ho pins s1 σ H1 x v Q I1 r1 q1)
theorem opI {f:Value -> Value -> Sem Value} {C:Int -> Int -> Prop} {g:Int -> Int -> Int}
  (rule:∀ (i j:Int) (t u:Tok) (s:Shared) (Q:Value -> Shared -> Prop) (E:Value -> Shared -> Prop),C i j -> Q (.int (g i j) s.toks) { s with toks:=s.toks + 1 } -> wpAny (model X.prog X.w) X.A (f (.int i t) (.int j u)) Q E s) :
  OpR X f (rI C fun i j => .int (g i j)):=by
 intro pins s σ H x y v u Q I rx ry h
 obtain ⟨i,j,rfl,rfl,hc,q⟩:=h
 obtain ⟨t,rfl⟩:=rx
 obtain ⟨t',rfl⟩:=ry
 exact rule i j t t' s _ _ hc ⟨.int (g i j),H,I.tok _,⟨_,rfl⟩,q⟩
theorem opI0 {f:Value -> Value -> Sem Value} {g:Int -> Int -> Int}
  (rule:∀ (i j:Int) (t u:Tok) (s:Shared) (Q:Value -> Shared -> Prop) (E:Value -> Shared -> Prop),Q (.int (g i j) s.toks) { s with toks:=s.toks + 1 } -> wpAny (model X.prog X.w) X.A (f (.int i t) (.int j u)) Q E s) :
  OpR X f (rI0 fun i j => .int (g i j)):=by
 intro pins s σ H x y v u Q I rx ry h
 obtain ⟨i,j,rfl,rfl,q⟩:=h
 obtain ⟨t,rfl⟩:=rx
 obtain ⟨t',rfl⟩:=ry
 exact rule i j t t' s _ _ ⟨.int (g i j),H,I.tok _,⟨_,rfl⟩,q⟩
theorem opB0 {f:Value -> Value -> Sem Value} {g:Int -> Int -> Bool}
  (rule:∀ (i j:Int) (t u:Tok) (s:Shared) (Q:Value -> Shared -> Prop) (E:Value -> Shared -> Prop),Q (.bool (g i j)) s -> wpAny (model X.prog X.w) X.A (f (.int i t) (.int j u)) Q E s) :
  OpR X f (rI0 fun i j => .bl (g i j)):=by
 intro pins s σ H x y v u Q I rx ry h
 obtain ⟨i,j,rfl,rfl,q⟩:=h
 obtain ⟨t,rfl⟩:=rx
 obtain ⟨t',rfl⟩:=ry
 exact rule i j t t' s _ _ ⟨.bl (g i j),H,I,rfl,q⟩
def CPow (i j:Int):Prop:=0 <= j /\ j <= 1000000 /\ i.natAbs < 2 ^ 64
def CMul (i j:Int):Prop:=(-(2 ^ 64) < i /\ i < 2 ^ 64) \/ (-(2 ^ 64) < j /\ j < 2 ^ 64)
theorem CMul.ok {i j:Int} (h:CMul i j):IntMulOk i j:=by
 rcases h with ⟨h1,h2⟩ | ⟨h1,h2⟩
 ·exact .of_left (intBits_le_64 h1 h2)
 ·exact .of_right (intBits_le_64 h1 h2)
theorem op_add:OpR X (binaryOp .Add) (rI0 fun i j => .int (i + j)):=opI0 fun _ _ _ _ _ _ _ q => add_int q
theorem op_sub:OpR X (binaryOp .Sub) (rI0 fun i j => .int (i - j)):=opI0 fun _ _ _ _ _ _ _ q => sub_int q
theorem op_mod:OpR X (binaryOp .Mod) (rI (fun _ j => 0 < j) fun i j => .int (i % j)):=opI fun i j _ _ _ _ _ hc q => by
 have h1:(0:Int) < j:=hc
 exact mod_int' (by omega) (by rw [Int.fmod_eq_emod_of_nonneg i (by omega)]; exact q)
theorem op_pow:OpR X (binaryOp .Pow) (rI CPow fun i j => .int (i ^ j.toNat)):=opI fun _ _ _ _ _ _ _ hc q => pow_int_small hc.1 hc.2.1 hc.2.2 q
theorem unI {f:Value -> Sem Value} {g:Int -> Int}
  (rule:∀ (i:Int) (t:Tok) (s:Shared) (Q:Value -> Shared -> Prop) (E:Value -> Shared -> Prop),Q (.int (g i) s.toks) { s with toks:=s.toks + 1 } -> wpAny (model X.prog X.w) X.A (f (.int i t)) Q E s) :
  UnR X f (rU fun i => .int (g i)):=by
 intro pins s σ H x v Q I rx h
 obtain ⟨i,rfl,q⟩:=h
 obtain ⟨t,rfl⟩:=rx
 exact rule i t s _ _ ⟨.int (g i),H,I.tok _,⟨_,rfl⟩,q⟩
theorem un_neg:UnR X (unaryOp .USub) (rU fun i => .int (-i)):=unI fun _ _ _ _ _ q => neg_int q
end
def scal:V -> V -> Bool
 | .non,.non => true | .non,.int _ => true | .int _,.non => true | .non,.bl _ => true | .bl _,.non => true | .non,.str _ => true | .str _,.non => true
 | .int _,.int _ => true | .bl _,.bl _ => true | .str _,.str _ => true | .byt _,.byt _ => true
 | .int _,.str _ => true | .str _,.int _ => true | .bl _,.str _ => true | .str _,.bl _ => true
 | _,_ => false
def rEq:R2:=fun x y H Q => scal x y = true /\ Q (.bl (decide (x = y))) H
def rNe:R2:=fun x y H Q => scal x y = true /\ Q (.bl (!decide (x = y))) H
theorem dec_int {i j:Int}:decide (V.int i = V.int j) = (i == j):=by
 rw [Bool.eq_iff_iff]
 simp
theorem dec_bl {i j:Bool}:decide (V.bl i = V.bl j) = (i == j):=by
 rw [Bool.eq_iff_iff]
 simp
theorem dec_str {i j:Str}:decide (V.str i = V.str j) = (i == j):=by
 rw [Bool.eq_iff_iff]
 simp
theorem dec_byt {i j:Array UInt8}:decide (V.byt i = V.byt j) = (i.toList == j.toList):=by
 rw [Bool.eq_iff_iff]
 cases i
 cases j
 simp
section
variable {X:Cx} {a b c:Expr} {ta tb tc:TE} {pos:Pos}
theorem fin_bl {pins:List (Addr × Obj)} {σ:St} {H:Hp} {s:Shared} {Q:VK} {k k':Bool} (I:Inv X pins σ H s) (q:Q (.bl k) H) (e:k = k'):EP X pins σ Q (.bool k') s:=by
 subst e
 exact ⟨.bl k,H,I,rfl,q⟩
theorem op_eq:OpR X (compareOp .Eq) rEq:=by
 intro pins s σ H x y v u Q I rx ry h
 obtain ⟨hs,q⟩:=h
 cases x with
 | non =>
  cases rx
  cases y with
  | non => cases ry; exact PySem.EqNone.eq_none_none (fin_bl I q (by simp))
  | bl j => cases ry; exact PySem.EqNone.eq_none_bool (fin_bl I q (by simp))
  | int j => obtain ⟨t',rfl⟩:=ry; exact PySem.EqNone.eq_none_int (fin_bl I q (by simp))
  | str j => obtain ⟨t',rfl⟩:=ry; exact PySem.EqNone.eq_none_str (fin_bl I q (by simp))
  | _ => exact absurd (show false = true from hs) Bool.false_ne_true
 | bl i =>
  cases rx
  cases y with
  | non => cases ry; exact PySem.EqNone.eq_bool_none (fin_bl I q (by simp))
  | bl j => cases ry; exact eq_bool (fin_bl I q dec_bl)
  | str j => obtain ⟨t',rfl⟩:=ry; exact PySem.EqMixed.eq_bool_str (fin_bl I q (by simp))
  | _ => exact absurd (show false = true from hs) Bool.false_ne_true
 | int i =>
  obtain ⟨t,rfl⟩:=rx
  cases y with
  | non => cases ry; exact PySem.EqNone.eq_int_none (fin_bl I q (by simp))
  | int j => obtain ⟨t',rfl⟩:=ry; exact eq_int (fin_bl I q dec_int)
  | str j => obtain ⟨t',rfl⟩:=ry; exact PySem.EqMixed.eq_int_str (fin_bl I q (by simp))
  | _ => exact absurd (show false = true from hs) Bool.false_ne_true
 | str i =>
  obtain ⟨t,rfl⟩:=rx
  cases y with
  | non => cases ry; exact PySem.EqNone.eq_str_none (fin_bl I q (by simp))
  | bl j => cases ry; exact PySem.EqMixed.eq_str_bool (fin_bl I q (by simp))
  | int j => obtain ⟨t',rfl⟩:=ry; exact PySem.EqMixed.eq_str_int (fin_bl I q (by simp))
  | str j => obtain ⟨t',rfl⟩:=ry; exact eq_str (fin_bl I q dec_str)
  | _ => exact absurd (show false = true from hs) Bool.false_ne_true
 | byt i =>
  obtain ⟨t,rfl⟩:=rx
  cases y with
  | byt j => obtain ⟨t',rfl⟩:=ry; exact PySem.W.eq_bytes (fin_bl I q dec_byt)
  | _ => exact absurd (show false = true from hs) Bool.false_ne_true
 | _ => cases y <;> exact absurd (show false = true from hs) Bool.false_ne_true
theorem op_ne:OpR X (compareOp .NotEq) rNe:=by
 intro pins s σ H x y v u Q I rx ry h
 obtain ⟨hs,q⟩:=h
 cases x with
 | non =>
  cases rx
  cases y with
  | non => cases ry; exact PySem.EqNone.ne_none_none (fin_bl I q (by simp))
  | bl j => cases ry; exact PySem.EqNone.ne_none_bool (fin_bl I q (by simp))
  | int j => obtain ⟨t',rfl⟩:=ry; exact PySem.EqNone.ne_none_int (fin_bl I q (by simp))
  | str j => obtain ⟨t',rfl⟩:=ry; exact PySem.EqNone.ne_none_str (fin_bl I q (by simp))
  | _ => exact absurd (show false = true from hs) Bool.false_ne_true
 | bl i =>
  cases rx
  cases y with
  | non => cases ry; exact PySem.EqNone.ne_bool_none (fin_bl I q (by simp))
  | bl j => cases ry; exact ne_bool (fin_bl I q (congrArg not dec_bl))
  | str j => obtain ⟨t',rfl⟩:=ry; exact PySem.EqMixed.ne_bool_str (fin_bl I q (by simp))
  | _ => exact absurd (show false = true from hs) Bool.false_ne_true
 | int i =>
  obtain ⟨t,rfl⟩:=rx
  cases y with
  | non => cases ry; exact PySem.EqNone.ne_int_none (fin_bl I q (by simp))
  | int j => obtain ⟨t',rfl⟩:=ry; exact ne_int (fin_bl I q (congrArg not dec_int))
  | str j => obtain ⟨t',rfl⟩:=ry; exact PySem.EqMixed.ne_int_str (fin_bl I q (by simp))
  | _ => exact absurd (show false = true from hs) Bool.false_ne_true
 | str i =>
  obtain ⟨t,rfl⟩:=rx
  cases y with
  | non => cases ry; exact PySem.EqNone.ne_str_none (fin_bl I q (by simp))
  | bl j => cases ry; exact PySem.EqMixed.ne_str_bool (fin_bl I q (by simp))
  | int j => obtain ⟨t',rfl⟩:=ry; exact PySem.EqMixed.ne_str_int (fin_bl I q (by simp))
  | str j => obtain ⟨t',rfl⟩:=ry; exact ne_str (fin_bl I q (congrArg not dec_str))
  | _ => exact absurd (show false = true from hs) Bool.false_ne_true
 | byt i =>
  obtain ⟨t,rfl⟩:=rx
  cases y with
  | byt j => obtain ⟨t',rfl⟩:=ry; exact PySem.W.ne_bytes (fin_bl I q (congrArg not dec_byt))
  | _ => exact absurd (show false = true from hs) Bool.false_ne_true
 | _ => cases y <;> exact absurd (show false = true from hs) Bool.false_ne_true
theorem op_lt:OpR X (compareOp .Lt) (rI0 fun i j => .bl (decide (i < j))):=opB0 fun _ _ _ _ _ _ _ q => lt_int q
theorem op_le:OpR X (compareOp .LtE) (rI0 fun i j => .bl (decide (i <= j))):=opB0 fun _ _ _ _ _ _ _ q => le_int q
theorem op_gt:OpR X (compareOp .Gt) (rI0 fun i j => .bl (decide (j < i))):=opB0 fun _ _ _ _ _ _ _ q => gt_int q
theorem op_ge:OpR X (compareOp .GtE) (rI0 fun i j => .bl (decide (j <= i))):=opB0 fun _ _ _ _ _ _ _ q => ge_int q
theorem op_in_str:OpR X (compareOp .In) (fun x y H Q => ∃ i j,x = .str i /\ y = .str j /\ Q (.bl (!(Builtin.Str.occurrences j i 0 j.length 1).isEmpty)) H):=by
 intro pins s σ H x y v u Q I rx ry h
 obtain ⟨i,j,rfl,rfl,q⟩:=h
 obtain ⟨t,rfl⟩:=rx
 obtain ⟨t',rfl⟩:=ry
 exact in_str (fin_bl I q rfl)
theorem op_isN:OpR X (compareOp .Is) (fun x y H Q => y = .non /\ Q (.bl (decide (x = .non))) H):=by
 intro pins s σ H x y v u Q I rx ry h
 obtain ⟨rfl,q⟩:=h
 cases ry
 refine is_none_gen (fin_bl I q ?_)
 cases x <;> first
  | (cases rx; rfl)
  | (obtain ⟨t,rfl⟩:=rx; rfl)
theorem op_notN:OpR X (compareOp .IsNot) (fun x y H Q => y = .non /\ Q (.bl (!decide (x = .non))) H):=by
 intro pins s σ H x y v u Q I rx ry h
 obtain ⟨rfl,q⟩:=h
 cases ry
 refine isnot_none_gen (fin_bl I q ?_)
 cases x <;> first
  | (cases rx; rfl)
  | (obtain ⟨t,rfl⟩:=rx; rfl)
theorem op_notin_str:OpR X (compareOp .NotIn) (fun x y H Q => ∃ i j,x = .str i /\ y = .str j /\ Q (.bl (!(!(Builtin.Str.occurrences j i 0 j.length 1).isEmpty))) H):=by
 intro pins s σ H x y v u Q I rx ry h
 obtain ⟨i,j,rfl,rfl,q⟩:=h
 obtain ⟨t,rfl⟩:=rx
 obtain ⟨t',rfl⟩:=ry
 exact notIn_str (fin_bl I q rfl)
theorem OpR.or {f:Value -> Value -> Sem Value} {r r':R2} (h:OpR X f r) (h':OpR X f r'):OpR X f (fun x y H Q => r x y H Q \/ r' x y H Q):=by
 intro pins s σ H x y v u Q I rx ry q
 rcases q with q | q
 ·exact h pins s σ H x y v u Q I rx ry q
 ·exact h' pins s σ H x y v u Q I rx ry q
theorem pe_cmpR {op:CmpOp} {r:R2} (ho:OpR X (compareOp op) r) (ha:PE X a ta) (hb:PE X b tb) (hm:behindInMarks op b = false):PE X (.Compare a [op] [b] pos) (tOp r ta tb):=by
 intro pins s σ H Q I h
 exact wpAny_Compare1 (binT ha hb I h fun v u s2 x y H2 I2 rx ry q => ho pins s2 σ H2 x y v u Q I2 rx ry q) hm
def tTest (t:TE):TT:=fun σ H Q => t σ H fun x H' => ∃ k,x = .bl k /\ Q k H'
theorem pt_cmpR {op:CmpOp} {r:R2} (ho:OpR X (compareOp op) r) (ha:PE X a ta) (hb:PE X b tb) (hm:behindInMarks op b = false):PT X (.Compare a [op] [b] pos) (tTest (tOp r ta tb)):=by
 intro pins s σ H Q I h
 refine wpAny_isTrue_Compare1 (thn (ha pins s σ H _ I h) fun v s1 ⟨x,H1,I1,r1,q1⟩ => thn (hb pins s1 σ H1 _ I1 q1) fun u s2 ⟨y,H2,I2,r2,q2⟩ =>
  thn (ho pins s2 σ H2 x y v u _ I2 r1 r2 q2) fun c s3 ⟨z,H3,I3,r3,k,e,q3⟩ => ?_) hm
 subst e
 cases r3
 exact wpAny_truthy_bool ⟨H3,I3,q3⟩
def TruV (K:PySem.W.Frag) (x:V) (H:Hp) (k:Bool):Prop :=
 match x with
 | .non => k = false
 | .bl b => k = b
 | .int i => k = (i != 0)
 | .str y => y.length <= sizeLine /\ k = ((y.length:Int) != 0)
 | .byt y => y.size <= sizeLine /\ k = ((y.size:Int) != 0)
 | .ref p => (∃ xs,SqL K H p xs /\ k = !xs.isEmpty) \/ (∃ xs,SqT K H p xs /\ k = !xs.isEmpty) \/ ∃ kvs,H p = some (.dK kvs) /\ k = !kvs.isEmpty
 | _ => False
theorem isEmpty_kv {κ:Type} {kvs:List (κ × V)} {vs:List (κ × Value)} (r:KV kvs vs):(!vs.isEmpty) = !kvs.isEmpty:=by
 cases r <;> rfl
theorem isEmpty_of {xs:List V} {its:List Value} (r:Vals xs its):(!its.toArray.isEmpty) = !xs.isEmpty:=by
 cases r <;> simp
theorem line63:(sizeLine:Nat) < 2 ^ 63:=by rw [sizeLine_eq]; decide
theorem tru_ok:TruR X (fun x H Q => ∃ k,TruV X.K x H k /\ Q k H):=by
 intro pins s σ H x v Q I rx h
 obtain ⟨k,e,q⟩:=h
 have hl:=line63
 have hs:sizeLine = 16777216:=sizeLine_eq
 cases x with
 | non =>
  cases rx
  have e':k = false:=e
  subst e'
  exact truthy_none ⟨H,I,q⟩
 | bl b =>
  cases rx
  have e':k = b:=e
  subst e'
  exact wpAny_truthy_bool ⟨H,I,q⟩
 | int i =>
  obtain ⟨t,rfl⟩:=rx
  have e':k = (i != 0):=e
  subst e'
  exact PySem.P.truthy_int ⟨H,I,q⟩
 | str y =>
  obtain ⟨t,rfl⟩:=rx
  obtain ⟨hy,e'⟩:y.length <= sizeLine /\ k = ((y.length:Int) != 0):=e
  subst e'
  exact PySem.P.truthy_str (by omega) ⟨H,I.tok _,q⟩
 | byt y =>
  obtain ⟨t,rfl⟩:=rx
  obtain ⟨hy,e'⟩:y.size <= sizeLine /\ k = ((y.size:Int) != 0):=e
  subst e'
  exact PySem.W.truthy_bytes (by omega) ⟨H,I.tok _,q⟩
 | ref p =>
  cases rx
  have e':(∃ xs,SqL X.K H p xs /\ k = !xs.isEmpty) \/ (∃ xs,SqT X.K H p xs /\ k = !xs.isEmpty) \/ ∃ kvs,H p = some (.dK kvs) /\ k = !kvs.isEmpty:=e
  rcases e' with ⟨xs,hx,e'⟩ | ⟨xs,hx,e'⟩ | ⟨kvs,hx,e'⟩
  ·subst e'
   obtain ⟨its,r,pl,hz⟩:=I.list hx
   have hlen:=r.length
   exact wpAny_truthy_list pl.isList (by simp only [List.size_toArray]; omega) ⟨H,I.tok _,by rw [isEmpty_of r]; exact q⟩
  ·subst e'
   obtain ⟨its,r,pl,hz⟩:=I.tuple hx
   have hlen:=r.length
   exact truthy_tuple pl (by simp only [List.size_toArray]; omega) ⟨H,I.tok _,by rw [isEmpty_of r]; exact q⟩
  ·subst e'
   obtain ⟨hz,hS,vs,r,m⟩:kvs.length <= sizeLine /\ (p == sysModules) = false /\ ∃ vs,KV kvs vs /\ s.heap.DictOf (mixKind X.prog X.w) p vs:=I.hok p _ hx
   have hlen:kvs.length = vs.length:=Paired.length r
   exact wpAny_truthy_dict hS m (by omega) ⟨H,I.tok _,by rw [isEmpty_kv r]; exact q⟩
 | _ => exact (show False from e).elim
theorem pt_truth (ha:PE X a ta) (he:∀ whole,isTrue a X.env whole = (do let v <- whole; standAt a.pos; holding [v] (truthy v))) :
  PT X a (fun σ H Q => ta σ H fun x H' => ∃ k,TruV X.K x H' k /\ Q k H'):=by
 intro pins s σ H Q I h
 exact isTrue_plain (thn (ha pins s σ H _ I h) fun v s1 ⟨x,H1,I1,r1,q1⟩ => tru_ok pins s1 σ H1 x v Q I1 r1 q1) (he _)
theorem op_add_str:OpR X (binaryOp .Add) (fun x y H Q => ∃ i j,x = .str i /\ y = .str j /\ i.length + j.length <= sizeLine /\ Q (.str (i ++ j)) H):=by
 intro pins s σ H x y v u Q I rx ry h
 obtain ⟨i,j,rfl,rfl,hz,q⟩:=h
 obtain ⟨t,rfl⟩:=rx
 obtain ⟨t',rfl⟩:=ry
 exact add_str (fun t' tk => ⟨.str (i ++ j),H,I.tok _,⟨_,rfl⟩,q⟩) hz
theorem vals1 {x:V} {us:List Value} (r:Vals [x] us):∃ u,us = [u] /\ RelV x u:=by
 cases r with
 | cons r1 r2 => cases r2; exact ⟨_,rfl,r1⟩
theorem vals2 {x y:V} {us:List Value} (r:Vals [x,y] us):∃ u w',us = [u,w'] /\ RelV x u /\ RelV y w':=by
 cases r with
 | cons r1 r2 =>
  cases r2 with
  | cons r3 r4 => cases r4; exact ⟨_,_,rfl,r1,r3⟩
theorem call_abs : CallR X (.builtin "abs") (fun xs H Q => ∃ i, xs = [.int i] /\ Q (.int (if i < 0 then -i else i)) H) := by
 intro pins s σ H xs us Q I r h
 obtain ⟨i,rfl,q⟩:=h
 obtain ⟨u,rfl,t,rfl⟩:=vals1 r
 exact call_abs_int fun u tk => ⟨.int (if i < 0 then -i else i),H,I.tok _,⟨_,rfl⟩,q⟩
theorem call_max2 (hc : X.calm = true) : CallR X (.builtin "max") (fun xs H Q => ∃ i j, xs = [.int i, .int j] /\ Q (.int (if j > i then j else i)) H) := by
 intro pins s σ H xs us Q I r h
 obtain ⟨i,j,rfl,q⟩:=h
 obtain ⟨u,w',rfl,⟨t,rfl⟩,⟨t',rfl⟩⟩:=vals2 r
 refine max_two_ints (I.ok.hd hc) fun h' tk k => ⟨_,H,I.kept k,?_,q⟩
 by_cases hj:j > i
 ·rw [if_pos hj,if_pos hj]; exact ⟨_,rfl⟩
 ·rw [if_neg hj,if_neg hj]; exact ⟨_,rfl⟩
theorem call_min2 (hc : X.calm = true) : CallR X (.builtin "min") (fun xs H Q => ∃ i j, xs = [.int i, .int j] /\ Q (.int (if j < i then j else i)) H) := by
 intro pins s σ H xs us Q I r h
 obtain ⟨i,j,rfl,q⟩:=h
 obtain ⟨u,w',rfl,⟨t,rfl⟩,⟨t',rfl⟩⟩:=vals2 r
 refine min_two_ints (I.ok.hd hc) fun h' tk k => ⟨_,H,I.kept k,?_,q⟩
 by_cases hj:j < i
 ·rw [if_pos hj,if_pos hj]; exact ⟨_,rfl⟩
 ·rw [if_neg hj,if_neg hj]; exact ⟨_,rfl⟩
theorem call_str_int : CallR X (.type "str") (fun xs H Q => ∃ i, xs = [.int i] /\ i.natAbs.log2 < 1920 /\ Q (.str (toString i)) H) := by
 intro pins s σ H xs us Q I r h
 obtain ⟨i,rfl,hz,q⟩:=h
 obtain ⟨u,rfl,t,rfl⟩:=vals1 r
 exact PySem.P.str_of_int hz ⟨.str _,H,I.tok _,⟨_,rfl⟩,q⟩
end
end L2
namespace L2
open PySem PySem.Spec PyProof.Rows
structure ObjM (h:Heap) (x dx C:Addr) (mA:Str -> Option Value):Prop where
 obj:h.get? x = some (PySem.W.instObj C dx)
 ns:h.Ns1 dx mA
 ne:dx ≠ x
theorem lookIn_ns {h:Heap} {dx:Addr} {mA:Str -> Option Value} (n:h.Ns1 dx mA):∃ od,h.get? dx = some od /\ ∀ name,PySem.W.lookIn name od = some (mA name):=by
 obtain ⟨o,es,ep,ho,hd,hk,_,hm⟩:=n
 refine ⟨o,ho,fun name => ?_⟩
 have e:=hm name
 unfold nsFind findBy at e
 rw [<- Array.find?_toList] at e
 unfold PySem.W.lookIn
 rw [hd]
 dsimp only
 split
 ·rename_i y q
  rw [q] at e
  exact congrArg some e
 ·rename_i q
  rw [q] at e
  have a:es.toList.any (·.refKey) = false:=by
   rw [List.any_eq_false]
   intro y hy
   obtain ⟨z,t,hkey⟩:=hk y (Array.mem_toList_iff.mp hy)
   simp [DictEntry.refKey,hkey]
  have a':¬ es.toList.any (·.refKey) = true:=by rw [a]; exact Bool.false_ne_true
  rw [if_neg a']
  exact congrArg some e
theorem ObjM.look {h:Heap} {x dx C:Addr} {mA:Str -> Option Value} (I:ObjM h x dx C mA):∃ od,PySem.W.InstAt h x (PySem.W.instObj C dx) C (some od) /\ ∀ name,PySem.W.lookIn name od = some (mA name) :=
 let ⟨od,ho,hl⟩:=lookIn_ns I.ns
 ⟨od,⟨I.obj,rfl,rfl,ho⟩,hl⟩
section
variable {prog:Program} {w:World} {A:Around} {E:Value -> Shared -> Prop} {s:Shared} {K:PySem.W.Frag} {x dx C f:Addr} {mA:Str -> Option Value} {name:Str} {v:Value}
theorem get_map {expr:Bool} {Q:Value -> Shared -> Prop} (X:K.In s.heap) (I:ObjM s.heap x dx C mA) (hg:PySem.W.plainGet K C name = true) (hh:PySem.W.hasDictIn K C = true)
  (ha:PySem.W.findIn K (.ref C) name = some none) (hv:mA name = some v) (hv':PySem.W.handedIn v = true) (h:Q v { s with toks:=s.toks + 1 }) :
  wpAny (model prog w) A (getAttr (.ref x) name expr) Q E s:=by
 obtain ⟨od,J,hl⟩:=I.look
 exact PySem.W.get_value X J (PySem.W.plainGet_of hg).1 (PySem.W.findObj_own hh ha rfl (by rw [hl,hv])) hv' h
theorem get_meth {pl:Sem Bool} {Q:Value × List Value -> Shared -> Prop} (X:K.In s.heap) (I:ObjM s.heap x dx C mA) (hg:PySem.W.plainGet K C name = true)
  (hf:PySem.W.findIn K (.ref C) name = some (some (.ref f))) (ht:PySem.W.isFn K (.ref f) = true) (hv:mA name = none) (h:Q (.ref f,[.ref x]) s) :
  wpAny (model prog w) A (getMethod (.ref x) name pl) Q E s:=by
 obtain ⟨od,J,hl⟩:=I.look
 exact PySem.W.method_fn X J (PySem.W.plainGet_of hg).1 (PySem.W.plainGet_of hg).2 hf (beq_iff_eq.mp ht) (by show (PySem.W.lookIn name od).map (·.isSome) = some false; rw [hl,hv]; rfl) h
theorem set_map {ns:List Str} {Q:Unit -> Shared -> Prop} (X:K.In s.heap) (I:ObjM s.heap x dx C mA)
  (hs:PySem.W.findIn K (.ref C) "__setattr__" = some (some (.builtin "object.__setattr__"))) (hp:PySem.W.plainOver K C = true) (ht:PySem.W.takerIn K C name = some none) (hh:PySem.W.hasDictIn K C = true)
  (hw:PySem.Within mA ns) (hsz:ns.length <= sizeLine)
  (h:∀ h',ObjM h' x dx C (fun y => if y = name then some v else mA y) -> Heap.SameBut dx s.heap h' -> Q () { s with heap:=h',toks:=s.toks + 2 }) :
  wpAny (model prog w) A (setAttr (.ref x) name v) Q E s:=by
 obtain ⟨od,J,hl⟩:=I.look
 refine PySem.W.set_plain X J hs (PySem.W.osa_open (s:={ s with toks:=s.toks + 1 }) (r:=none) X J hp ht fun b => ?_)
 obtain ⟨cd,hc,hd'⟩:=PySem.W.any_some hh
 have hx:s.heap.get? x = some ⟨.ref C,some dx,.plain,#[]⟩:=I.obj
 refine wpAny_bind (wpAny_pure (wpAny_bind (wpAny_bind (wpAny_loadPart hx (wpAny_bind (PySem.W.Looks.here (s:={ s with toks:=s.toks + 1 }) (PySem.W.looks_clsIn X hc) ?_))))))
 rw [hd']
 refine wpAny_pure (a:=some dx) (wpAny_bind (wpAny_pure (wpAny_bind ?_)))
 refine wpAny_nsSet1 (s:={ s with toks:=s.toks + 1 }) I.ns fun h' hn2 hs2 => ?_
 obtain ⟨oD,esD,epD,hoD,hdD,hcD⟩:=hn2.count (PySem.Within.cons name v hw)
 refine wpAny_bind (wpAny_lookBehind hoD (by rw [hdD]; exact pastItsLine_dict (Nat.le_trans hcD (by rw [List.length_cons]; omega))) ?_)
 exact wpAny_pure (h _ ⟨(hs2.2 _ (Ne.symm I.ne)).trans I.obj,hn2,I.ne⟩ hs2)
theorem make_map {R:Result -> Shared -> Prop} {vs:List Value} {kw:List (Str × Value)} (X:K.In s.heap) (hm:PySem.W.makesIn K C = true)
  (hi:PySem.W.findIn K (.ref C) "__init__" = some (some (.ref f))) (hf:PySem.W.typeIn K (.ref f) = some (.type "function"))
  (h:codeAny (model prog w) (A.under (.builtin "type.__call__" ⟨.ref C :: vs,kw⟩)) (.call (.ref f) ⟨.ref (s.heap.objs.size + 1) :: vs,kw⟩) (PySem.W.InitBack (s.heap.objs.size + 1) R)
   { s with heap:=(s.heap.push PySem.W.emptyDict).push (PySem.W.instObj C s.heap.objs.size) }) :
  codeAny (model prog w) A (.call (.ref C) ⟨vs,kw⟩) R s:=by
 obtain ⟨hh,g,d,t,os⟩:=s
 exact PySem.W.make_core (PySem.W.makes_of X hm) (PySem.W.looks_findIn X hi) (fun self => PySem.W.bind_fn X self hf) (.inl rfl) h
theorem make_map0 {R:Result -> Shared -> Prop} (X:K.In s.heap) (hm:PySem.W.makesIn K C = true)
  (hi:PySem.W.findIn K (.ref C) "__init__" = some (some (.builtin "object.__init__")))
  (hb:∀ self,PySem.W.Looks (model prog w) s.heap (bindSpecial (.builtin "object.__init__") self) (.builtin "object.__init__",[self]))
  (h:codeAny (model prog w) (A.under (.builtin "type.__call__" ⟨[.ref C],[]⟩)) (.call (.builtin "object.__init__") ⟨[.ref (s.heap.objs.size + 1)],[]⟩) (PySem.W.InitBack (s.heap.objs.size + 1) R)
   { s with heap:=(s.heap.push PySem.W.emptyDict).push (PySem.W.instObj C s.heap.objs.size) }) :
  codeAny (model prog w) A (.call (.ref C) ⟨[],[]⟩) R s:=by
 obtain ⟨hh,g,d,t,os⟩:=s
 exact PySem.W.make_core (PySem.W.makes_of X hm) (PySem.W.looks_findIn X hi) hb (.inr ⟨rfl,rfl⟩) h
end
def putF (f:Str) (v:V):List (Str × V) -> List (Str × V)
 | [] => [(f,v)]
 | (g,x) :: r => if g = f then (g,v) :: r else (g,x) :: putF f v r
theorem lookup_putF (f g:Str) (v:V):∀ fs:List (Str × V),(putF f v fs).lookup g = if g = f then some v else fs.lookup g
 | [] => by
  show List.lookup g [(f,v)] = _
  by_cases h:g = f
  ·have hb:(g == f) = true:=beq_iff_eq.mpr h
   simp only [List.lookup,hb,if_pos h]
  ·have hb:(g == f) = false:=beq_eq_false_iff_ne.mpr h
   simp only [List.lookup,hb,if_neg h]
 | (k,x) :: r => by
  have ih:=lookup_putF f g v r
  rw [show putF f v ((k,x) :: r) = (if k = f then (k,v) :: r else (k,x) :: putF f v r) from rfl]
  by_cases hk:k = f
  ·rw [if_pos hk]
   by_cases h:g = k
   ·have hb:(g == k) = true:=beq_iff_eq.mpr h
    simp only [List.lookup,hb,if_pos (h.trans hk)]
   ·have hb:(g == k) = false:=beq_eq_false_iff_ne.mpr h
    simp only [List.lookup,hb,if_neg (fun e:g = f => h (e.trans hk.symm))]
  ·rw [if_neg hk]
   by_cases h:g = k
   ·have hb:(g == k) = true:=beq_iff_eq.mpr h
    simp only [List.lookup,hb,if_neg (fun e:g = f => hk (h.symm.trans e))]
   ·have hb:(g == k) = false:=beq_eq_false_iff_ne.mpr h
    simp only [List.lookup,hb]
    exact ih
theorem keys_putF (f:Str) (v:V):∀ fs:List (Str × V),f ∈ (putF f v fs).map (·.1) /\ ∀ g,g ∈ fs.map (·.1) -> g ∈ (putF f v fs).map (·.1)
 | [] => ⟨by simp [putF],fun g h => by simp at h⟩
 | (k,x) :: r => by
  obtain ⟨i1,i2⟩:=keys_putF f v r
  rw [show putF f v ((k,x) :: r) = (if k = f then (k,v) :: r else (k,x) :: putF f v r) from rfl]
  by_cases hk:k = f
  ·rw [if_pos hk]
   subst hk
   exact ⟨by simp,fun g h => by simpa using h⟩
  ·rw [if_neg hk]
   refine ⟨?_,fun g h => ?_⟩
   ·rw [List.map_cons]
    exact List.mem_cons_of_mem _ i1
   ·rw [List.map_cons] at h ⊢
    rcases List.mem_cons.mp h with e | e
    ·exact List.mem_cons.mpr (.inl e)
    ·exact List.mem_cons_of_mem _ (i2 g e)
theorem length_putF (f:Str) (v:V):∀ fs:List (Str × V),(putF f v fs).length <= fs.length + 1
 | [] => by simp [putF]
 | (k,x) :: r => by
  have ih:=length_putF f v r
  rw [show putF f v ((k,x) :: r) = (if k = f then (k,v) :: r else (k,x) :: putF f v r) from rfl]
  by_cases hk:k = f
  ·rw [if_pos hk,List.length_cons,List.length_cons]; omega
  ·rw [if_neg hk,List.length_cons,List.length_cons]; omega
theorem RelO.some_of {v:V} {o:Option Value} (r:RelO (some v) o):∃ u,o = some u /\ RelV v u:=by
 cases o with
 | none => exact (show False from r).elim
 | some u => exact ⟨u,rfl,r⟩
theorem RelO.none_of {o:Option Value} (r:RelO none o):o = none:=by
 cases o with
 | none => rfl
 | some u => exact (show False from r).elim
theorem handed_of {v:V} {u:Value} (r:RelV v u):PySem.W.handedIn u = true:=by
 cases v with
 | non => cases (show u = Value.none from r); rfl
 | bl b => cases (show u = Value.bool b from r); rfl
 | int i => obtain ⟨t,e⟩:=(show ∃ t,u = Value.int i t from r); cases e; rfl
 | str x => obtain ⟨t,e⟩:=(show ∃ t,u = Value.str x t from r); cases e; rfl
 | byt b => obtain ⟨t,e⟩:=(show ∃ t,u = Value.bytes b t from r); cases e; rfl
 | flt b => obtain ⟨t,e⟩:=(show ∃ t,u = Value.float b t from r); cases e; rfl
 | ref a => cases (show u = Value.ref a from r); rfl
 | ty n => cases (show u = Value.type n from r); rfl
section
variable {P:Program} {w:World} {H H':Hp} {h h':Heap} {a C dx:Addr} {fs fs':List (Str × V)}
theorem ins_get (hok:HOk P w H h) (e:H a = some (.ins C dx fs)):∃ mA,ObjM h a dx C mA /\ (∀ f,RelO (fs.lookup f) (mA f)) /\ PySem.Within mA (fs.map (·.1)) /\ fs.length <= 1000 /\ H dx = some (.own a):=by
 obtain ⟨d,z,ne,ob,mA,n,r,q⟩:=(show ObjOk P w H h a (.ins C dx fs) from hok a _ e)
 exact ⟨mA,⟨ob,n,ne⟩,r,q,z,d⟩
end
structure Cls (K:PySem.W.Frag) (C:Addr):Prop where
 pg:PySem.W.plainGet K C Str.empty = true
 hd:PySem.W.hasDictIn K C = true
 po:PySem.W.plainOver K C = true
 sa:PySem.W.findIn K (.ref C) "__setattr__" = some (some (.builtin "object.__setattr__"))
theorem Cls.get {K:PySem.W.Frag} {C:Addr} (c:Cls K C) (f:Str):PySem.W.plainGet K C f = true:=c.pg
def NoAttr (K:PySem.W.Frag) (C:Addr) (f:Str):Prop:=PySem.W.findIn K (.ref C) f = some none
theorem NoAttr.taker {K:PySem.W.Frag} {C:Addr} {f:Str} (n:NoAttr K C f):PySem.W.takerIn K C f = some none:=by
 unfold PySem.W.takerIn
 rw [show PySem.W.findIn K (.ref C) f = some none from n]
 rfl
structure Meth (K:PySem.W.Frag) (C:Addr) (m:Str) (f:Addr):Prop where
 at_:PySem.W.findIn K (.ref C) m = some (some (.ref f))
 fn:PySem.W.isFn K (.ref f) = true
 kp:PySem.W.keepIn K (.ref f) = true
section
variable {X:Cx} {pins:List (Addr × Obj)} {σ:St} {H:Hp} {s:Shared} {a C dx:Addr} {fs:List (Str × V)} {f:Str} {v:V} {A:Around} {E:Value -> Shared -> Prop}
theorem getattr_ok {b:Bool} {Q:Value -> Shared -> Prop} (I:Inv X pins σ H s) (e:H a = some (.ins C dx fs)) (c:Cls X.K C) (n:NoAttr X.K C f) (l:fs.lookup f = some v)
  (h:∀ u s',Inv X pins σ H s' -> RelV v u -> Q u s'):wpAny (model X.prog X.w) A (getAttr (.ref a) f b) Q E s:=by
 obtain ⟨mA,O,r,_,_,_⟩:=ins_get I.hok e
 obtain ⟨u,hu,ru⟩:=RelO.some_of (v:=v) (o:=mA f) (by rw [<- l]; exact r f)
 exact get_map I.kIn O (c.get f) c.hd n hu (handed_of ru) (h u _ (I.tok _) ru)
theorem getmeth_ok {m:Str} {g:Addr} {pl:Sem Bool} {Q:Value × List Value -> Shared -> Prop} (I:Inv X pins σ H s) (e:H a = some (.ins C dx fs)) (c:Cls X.K C) (k:Meth X.K C m g) (l:fs.lookup m = none)
  (h:Q (.ref g,[.ref a]) s):wpAny (model X.prog X.w) A (getMethod (.ref a) m pl) Q E s:=by
 obtain ⟨mA,O,r,_,_,_⟩:=ins_get I.hok e
 have hn:mA m = none:=RelO.none_of (by rw [<- l]; exact r m)
 exact get_meth I.kIn O (c.get m) k.at_ k.fn hn h
theorem setattr_ok {y:V} {u:Value} {Q:Unit -> Shared -> Prop} (I:Inv X pins σ H s) (e:H a = some (.ins C dx fs)) (c:Cls X.K C) (n:NoAttr X.K C f) (hl:fs.length < 1000) (ry:RelV y u)
  (h:∀ s',Inv X pins σ (upd H a (.ins C dx (putF f y fs))) s' -> Q () s'):wpAny (model X.prog X.w) A (setAttr (.ref a) f u) Q E s:=by
 obtain ⟨mA,O,r,wi,_,ho⟩:=ins_get I.hok e
 have hz:(fs.map (·.1)).length <= sizeLine:=by rw [List.length_map,sizeLine_eq]; omega
 refine set_map I.kIn O c.sa c.po n.taker c.hd wi hz fun h' O' sb => h _ ?_
 have hd:∃ o,h'.get? dx = some o:=let ⟨o,_,_,e',_⟩:=O'.ns; ⟨o,e'⟩
 refine I.write (x:=a) (e:=dx) (by rw [e]; exact True.intro) (.inr ho) (fun b q hb z => (sb.2 b hb).trans z) hd ?_
 refine ⟨by rw [upd_ne O.ne]; exact ho,?_,O.ne,O'.obj,_,O'.ns,fun g => ?_,fun g hg => ?_⟩
 ·have:=length_putF f y fs; omega
 ·show RelO ((putF f y fs).lookup g) (if g = f then some u else mA g)
  rw [lookup_putF]
  by_cases q:g = f
  ·rw [if_pos q,if_pos q]; exact ry
  ·rw [if_neg q,if_neg q]; exact r g
 ·by_cases q:g = f
  ·rw [q]; exact (keys_putF f y fs).1
  ·refine (keys_putF f y fs).2 g (wi g fun z => hg ?_)
   show (if g = f then some u else mA g) = none
   rw [if_neg q]; exact z
theorem Inv.made (I:Inv X pins σ H s):Inv X pins σ (upd (upd H s.heap.objs.size (.own (s.heap.objs.size + 1))) (s.heap.objs.size + 1) (.ins C s.heap.objs.size []))
  { s with heap:=(s.heap.push PySem.W.emptyDict).push (PySem.W.instObj C s.heap.objs.size) }:=by
 have e1:(s.heap.push PySem.W.emptyDict).get? s.heap.objs.size = some PySem.W.emptyDict:=Heap.get?_push_size s.heap rfl
 have e2:((s.heap.push PySem.W.emptyDict).push (PySem.W.instObj C s.heap.objs.size)).get? (s.heap.objs.size + 1) = some (PySem.W.instObj C s.heap.objs.size):=by
  have:=Heap.get?_push_size (s.heap.push PySem.W.emptyDict) (o:=PySem.W.instObj C s.heap.objs.size) rfl
  rwa [Heap.size_push] at this
 have e3:(s.heap.push PySem.W.emptyDict).Ns s.heap.objs.size (fun _ => none):=⟨PySem.W.emptyDict,#[],_,e1,rfl,(fun e he => absurd he (by simp)),fun _ => rfl⟩
 have I1:=I.laid (a:=s.heap.objs.size) (o:=.own (s.heap.objs.size + 1)) (h':=s.heap.push PySem.W.emptyDict) (t':=s.toks) (fun b u q => Heap.get?_push_of_some _ q) (Nat.le_refl _) ⟨_,e1⟩
 refine I1.laid (a:=s.heap.objs.size + 1) (o:=.ins C s.heap.objs.size []) (t':=s.toks) (fun b u q => Heap.get?_push_of_some _ q) (Nat.le_of_eq (Heap.size_push _ _)) ?_
 have ne:s.heap.objs.size ≠ s.heap.objs.size + 1:=Nat.ne_of_lt (Nat.lt_succ_self _)
 refine ⟨by rw [upd_ne ne,upd_same],Nat.zero_le _,ne,e2,fun _ => none,(Heap.Ns1.of_empty e3).at fun o q => Heap.get?_push_of_some _ q,fun _ => True.intro,fun y hy => absurd rfl hy⟩
theorem attr_of {prog:Program} {w:World} {env:Env} {e:Expr} {f:Str} {pos:Pos} {s:Shared} {Q:Value -> Shared -> Prop} (hb:attributeBase e f env (eval e env) = eval e env)
  (h:wpAny (model prog w) A (eval e env) (fun o s₁ => wpAny (model prog w) A (getAttr o f true) Q E s₁) E s):wpAny (model prog w) A (eval (.Attribute e f pos) env) Q E s :=
 Attribute_any_ h (by rw [arm_eval_Attribute,hb])
end
def tFld (K:PySem.W.Frag) (ta:TE) (f:Str):TE:=fun σ H Q => ta σ H fun x H1 => ∃ a C dx fs v,x = .ref a /\ H1 a = some (.ins C dx fs) /\ Cls K C /\ NoAttr K C f /\ fs.lookup f = some v /\ Q v H1
def sFld (K:PySem.W.Frag) (ta tv:TE) (f:Str):TS:=fun D σ H => tv σ H fun y H1 => ta σ H1 fun x H2 => ∃ a C dx fs,x = .ref a /\ H2 a = some (.ins C dx fs) /\ Cls K C /\ NoAttr K C f /\ fs.length < 1000 /\
 D.nx σ (upd H2 a (.ins C dx (putF f y fs)))
section
variable {X:Cx} {o e value:Expr} {f:Str} {pos pos' tpos:Pos} {ta tv:TE}
theorem pe_fld (he:PE X e ta) (hb:attributeBase e f X.env (eval e X.env) = eval e X.env):PE X (.Attribute e f pos) (tFld X.K ta f):=by
 intro pins s σ H Q I h
 refine attr_of hb (thn (he pins s σ H _ I h) fun u s1 ⟨x,H1,I1,rx,a,C,dx,fs,v,ex,ea,c,n,l,q⟩ => ?_)
 subst ex
 obtain rfl:u = Value.ref a:=rx
 exact getattr_ok I1 ea c n l fun u' s2 I2 ru => ⟨v,H1,I2,ru,q⟩
theorem ps_fld (ha:PE X o ta) (hv:PE X value tv) (hs:swapsWith value (some (.Attribute o f pos')) pos.line X.env = pure false):PS X (.Assign [.Attribute o f pos'] value pos) (sFld X.K ta tv f):=by
 intro pins s σ H D I h
 refine plainObj_wpAny_Assign_Attribute (thn (hv pins s σ H _ I h) fun u s1 ⟨y,H1,I1,ry,q⟩ => thn (ha pins s1 σ H1 _ I1 q) fun ov s2 ⟨x,H2,I2,rx,a,C,dx,fs,ex,ea,c,n,l,q2⟩ => ?_) hs
 subst ex
 obtain rfl:ov = Value.ref a:=rx
 exact setattr_ok I2 ea c n l ry fun s3 I3 => ⟨σ,_,I3,q2⟩
end
section
variable {X:Cx} {pins:List (Addr × Obj)} {σ:St} {H:Hp} {s:Shared} {A:Around} {E:Value -> Shared -> Prop} {Q:Value -> Shared -> Prop} {c:Value} {b:Bool}
inductive TyOf (K:PySem.W.Frag) (H:Hp):V -> Value -> Prop where
 | non:TyOf K H .non (.type "NoneType")
 | bl (x:Bool):TyOf K H (.bl x) (.type "bool")
 | int (i:Int):TyOf K H (.int i) (.type "int")
 | str (x:Str):TyOf K H (.str x) (.type "str")
 | flt (x:UInt64):TyOf K H (.flt x) (.type "float")
 | lst {a:Addr} {xs:List V} (e:H a = some (.lst xs)):TyOf K H (.ref a) (.type "list")
 | frz {a:Addr} {o:Obj} {xs:List V} (e:H a = some (.frz o (.lst xs))):TyOf K H (.ref a) (.type "list")
 | tup {a:Addr} {xs:List V} (e:H a = some (.tup xs)):TyOf K H (.ref a) (.type "tuple")
 | dK {a:Addr} {kvs:List (Key × V)} (e:H a = some (.dK kvs)):TyOf K H (.ref a) (.type "dict")
 | dT {a:Addr} {kvs:List (List Key × V)} (e:H a = some (.dT kvs)):TyOf K H (.ref a) (.type "dict")
 | ins {a C dx:Addr} {fs:List (Str × V)} (e:H a = some (.ins C dx fs)) (cl:Cls K C) (ha:PySem.W.findIn K (.ref C) "__class__" = some (some (.builtin "object.__class__")))
   (hn:PySem.W.specialIn K (.builtin "object.__class__") "__get__" = some (some (.builtin "getset_descriptor.__get__"))) (htk:PySem.W.takesIn K (.builtin "object.__class__") = some true)
   (hm:PySem.W.mroIn K C (.type "object") = some true):TyOf K H (.ref a) (.ref C)
theorem isinst_ok {x:V} {u t:Value} (I:Inv X pins σ H s) (rx:RelV x u) (ty:TyOf X.K H x t) (e:PySem.W.kitOne X.K t c = some b) (h:∀ tk,Q (.bool b) { s with toks:=tk }) :
  wpAny (model X.prog X.w) A (call (.builtin "isinstance") [u,c]) Q E s:=by
 cases ty with
 | non => cases (show u = Value.none from rx); exact PySem.W.kia_one PySem.W.kitx_none I.kIn True.intro e (fun z => nomatch z) h
 | bl y => cases (show u = Value.bool y from rx); exact PySem.W.kia_one PySem.W.kitx_bool I.kIn True.intro e (fun z => nomatch z) h
 | int i => obtain ⟨t,q⟩:=(show ∃ t,u = Value.int i t from rx); cases q; exact PySem.W.kia_one PySem.W.kitx_int I.kIn True.intro e (fun z => nomatch z) h
 | str y => obtain ⟨t,q⟩:=(show ∃ t,u = Value.str y t from rx); cases q; exact PySem.W.kia_one PySem.W.kitx_str I.kIn True.intro e (fun z => nomatch z) h
 | flt y => obtain ⟨t,q⟩:=(show ∃ t,u = Value.float y t from rx); cases q; exact PySem.W.kia_one PySem.W.kitx_float I.kIn True.intro e (fun z => nomatch z) h
 | @lst a xs ea =>
  cases (show u = Value.ref a from rx)
  obtain ⟨_,_,n,_,h1⟩:=(show ObjOk X.prog X.w H s.heap a (.lst xs) from I.hok a _ ea)
  exact PySem.W.kia_one PySem.W.kitx_list I.kIn ⟨_,h1,rfl⟩ e (fun z => nomatch z) h
 | @frz a ob xs ea =>
  cases (show u = Value.ref a from rx)
  obtain ⟨_,_,_,n,_,h1⟩:=(show ObjOk X.prog X.w H s.heap a (.frz ob (.lst xs)) from I.hok a _ ea)
  exact PySem.W.kia_one PySem.W.kitx_list I.kIn ⟨_,h1,rfl⟩ e (fun z => nomatch z) h
 | @tup a xs ea =>
  cases (show u = Value.ref a from rx)
  obtain ⟨_,_,_,p⟩:=(show ObjOk X.prog X.w H s.heap a (.tup xs) from I.hok a _ ea)
  obtain ⟨o,h1,h2,_⟩:=p
  exact PySem.W.kia_one PySem.W.kitx_tuple I.kIn ⟨o,h1,h2⟩ e (fun z => nomatch z) h
 | @dK a kvs ea =>
  cases (show u = Value.ref a from rx)
  obtain ⟨_,_,vs,_,p⟩:=(show ObjOk X.prog X.w H s.heap a (.dK kvs) from I.hok a _ ea)
  obtain ⟨o,es,ep,h1,h2,_⟩:=p
  exact PySem.W.kia_one PySem.W.kitx_dict I.kIn ⟨o,h1,h2.1⟩ e (fun z => nomatch z) h
 | @dT a kvs ea =>
  cases (show u = Value.ref a from rx)
  obtain ⟨_,_,xs,_,o,es,ep,h1,h2,_⟩:=(show ObjOk X.prog X.w H s.heap a (.dT kvs) from I.hok a _ ea)
  exact PySem.W.kia_one PySem.W.kitx_dict I.kIn ⟨o,h1,h2.1⟩ e (fun z => nomatch z) h
 | @ins a C dx fs ea cl ha hn htk hm =>
  cases (show u = Value.ref a from rx)
  obtain ⟨mA,O,_⟩:=ins_get I.hok ea
  obtain ⟨od,J,_⟩:=O.look
  exact PySem.W.kia_one (PySem.W.kitx_own (cl.get _) cl.hd ha hn htk hm) I.kIn J e (fun z => nomatch z) h
end
end L2
namespace L2
open PySem PySem.Spec PyProof.Rows
structure Room (k:Nat) (A:Around):Prop where
 hd:A.handled = none
 dp:A.depth + 3 * k + 5 < recursionLimit
 un:A.units + 16 * k + 200 < cLine
theorem Room.mono {j k:Nat} {A:Around} (r:Room k A) (h:j <= k):Room j A:=⟨r.hd,by have:=r.dp; omega,by have:=r.un; omega⟩
theorem Room.deeper {k:Nat} {A:Around} (r:Room (k + 1) A) (env:Env):Room k (A.deeper env) :=
 ⟨r.hd,by have:=r.dp; show A.depth + 1 + 3 * k + 5 < _; omega,by have:=r.un; show A.units + 3 + 16 * k + 200 < _; omega⟩
theorem make_depth {A:Around} {C:Addr} {us:List Value} {kw:List (Str × Value)}:(A.under (.builtin "type.__call__" ⟨.ref C :: us,kw⟩)).depth = A.depth + 1:=by
 first | rfl | simp [Around.under,Code.weight,Code.isCreation,Code.isGuard,Code.isCaller,Code.frames,Code.isFrame,guardIds]
theorem make_units {A:Around} {C:Addr} {us:List Value} {kw:List (Str × Value)}:(A.under (.builtin "type.__call__" ⟨.ref C :: us,kw⟩)).units = A.units + 1:=by
 first | rfl | simp [Around.under,Code.cUnits,Code.frames,Code.isFrame]
theorem Room.make {k:Nat} {A:Around} (r:Room (k + 1) A) (C:Addr) (us:List Value) (kw:List (Str × Value)):Room k (A.under (.builtin "type.__call__" ⟨.ref C :: us,kw⟩)) :=
 ⟨r.hd,by have:=r.dp; rw [make_depth]; omega,by have:=r.un; rw [make_units]; omega⟩
theorem Room.depth {k:Nat} {A:Around} (r:Room k A):A.depth < recursionLimit:=by have:=r.dp; omega
theorem Room.units {k:Nat} {A:Around} (r:Room k A):A.units + 64 < cLine:=by have:=r.un; omega
def tNil:TA:=fun _ H Q => Q [] H
def tCons (ta:TE) (tr:TA):TA:=fun σ H Q => ta σ H fun x H1 => tr σ H1 fun xs H2 => Q (x :: xs) H2
section
variable {X:Cx} {e:Expr} {es:List Expr} {te:TE} {t:TA} {pos:Pos}
theorem pa_nil:PA X [] tNil:=fun _ _ _ _ H Q I h => Calls.spliced_nil ⟨[],H,I,.nil,h⟩
theorem pa_cons (ha:PE X e te) (hr:PA X es t) (hs:starEach (e :: es) X.env = (false,eval e X.env) :: starEach es X.env:=by rfl):PA X (e :: es) (tCons te t):=by
 intro pos pins s σ H Q I h
 rw [hs]
 show wpAny _ _ (spliced ((false,eval e X.env) :: backTo pos (starEach es X.env))) _ _ s
 refine Calls.spliced_cons (thn (ha pins s σ H _ I h) fun u s1 ⟨x,H1,I1,r1,q1⟩ => ?_)
 exact thn (hr pos pins s1 σ H1 _ I1 q1) fun us s2 ⟨xs,H2,I2,r2,q2⟩ => ⟨x :: xs,H2,I2,.cons r1 r2,q2⟩
def tTup (t:TA):TE:=fun σ H Q => t σ H fun xs H1 => xs.length <= sizeLine /\ ∀ p,H1 p = none -> Q (.ref p) (upd H1 p (.tup xs))
def tLst (t:TA):TE:=fun σ H Q => t σ H fun xs H1 => xs.length <= sizeLine /\ ∀ p,H1 p = none -> Q (.ref p) (upd H1 p (.lst xs))
theorem pe_tup {x1} (h:PA X es t):PE X (.Tuple es x1 pos) (tTup t):=by
 intro pins s σ H Q I hq
 refine wpAny_Tuple_spliced (thn (h pos pins s σ H _ I hq) fun us s1 ⟨xs,H1,I1,r,z,q⟩ => ⟨by rw [<- r.length]; exact z,?_⟩)
 have hf:H1 s1.heap.objs.size = none:=I1.hok.fresh (Nat.le_refl _)
 refine ⟨.ref s1.heap.objs.size,upd H1 s1.heap.objs.size (.tup xs),I1.laid (t':=s1.toks) (fun b u e => Heap.get?_push_of_some _ e) (Nat.le_refl _) ?_,rfl,q _ hf⟩
 exact ⟨z,us,r,⟨_,Heap.get?_push_size _ rfl,rfl,_,rfl⟩⟩
theorem pe_lst (h:PA X es t):PE X (.List es pos) (tLst t):=by
 intro pins s σ H Q I hq
 refine wpAny_List_spliced (thn (h pos pins s σ H _ I hq) fun us s1 ⟨xs,H1,I1,r,z,q⟩ => ⟨by rw [<- r.length]; exact z,?_⟩)
 have hf:H1 s1.heap.objs.size = none:=I1.hok.fresh (Nat.le_refl _)
 refine ⟨.ref s1.heap.objs.size,upd H1 s1.heap.objs.size (.lst xs),I1.laid (t':=s1.toks) (fun b u e => Heap.get?_push_of_some _ e) (Nat.le_refl _) ?_,rfl,q _ hf⟩
 exact ⟨z,us,0,r,Heap.get?_push_size _ rfl⟩
end
abbrev Sp:=List V -> Hp -> VK -> XK -> Prop
abbrev CXT:=List Env -> Hp -> Shared -> XK -> Value -> Shared -> Prop
structure Env0 (P:Program) (w:World) (K:PySem.W.Frag) (mg:Str -> Option Value) (base:Heap) (A:Around) (outer:List Env) (s:Shared) (H:Hp):Prop where
 frames:A.frames = some outer
 mod:Mod K mg base
 bs:∀ b o,base.get? b = some o -> s.heap.get? b = some o /\ H b = none
 bsz:base.objs.size <= s.heap.objs.size
 funs:s.heap.FunFrames base outer
 frf:∀ b ∈ frs outer,H b = none
 hok:HOk P w H s.heap
 bare:AllBare s.gens
def CE (outer:List Env) (P:Program) (w:World) (H:Hp) (s:Shared) (Q:VK) (u:Value) (s':Shared):Prop :=
 ∃ v H',s'.os = s.os /\ AllBare s'.gens /\ Un (frs outer) [] H H' s.heap s'.heap /\ HOk P w H' s'.heap /\ RelV v u /\ Q v H'
def CR (CX:CXT) (outer:List Env) (P:Program) (w:World) (H:Hp) (s:Shared) (Q:VK) (E:XK) (r:Result) (s':Shared):Prop :=
 match r with
 | .ok (.ret u) => CE outer P w H s Q u s'
 | .ok _ => False
 | .error e => CX outer H s E e s'
structure FnOk (P:Program) (w:World) (K:PySem.W.Frag) (mg:Str -> Option Value) (base:Heap) (CX:CXT) (k:Nat) (f:Addr) (fd:FuncData) (ps:List Str) (sp:Sp):Prop where
 len:∀ vs H Q E,sp vs H Q E -> vs.length = ps.length
 run:∀ (A:Around) (outer:List Env) (s:Shared) (H:Hp) (args:Args) (us:List Value) (vs:List V) (Q:VK) (E:XK),Room k A -> Env0 P w K mg base A outer s H -> BindsTo s fd args (ps.zip us) -> Vals vs us -> sp vs H Q E ->
  codeAny (model P w) A (.call (.ref f) args) (CR CX outer P w H s Q E) s
theorem Env0.make {P:Program} {w:World} {K:PySem.W.Frag} {mg:Str -> Option Value} {base:Heap} {A:Around} {outer:List Env} {s:Shared} {H:Hp} (e:Env0 P w K mg base A outer s H) (C:Addr) (us:List Value) (kw:List (Str × Value)) :
  Env0 P w K mg base (A.under (.builtin "type.__call__" ⟨.ref C :: us,kw⟩)) outer s H:=⟨by first | exact e.frames | (simpa [Around.under,Code.envs,Code.isFrame,pushEnvs] using e.frames),e.mod,e.bs,e.bsz,e.funs,e.frf,e.hok,e.bare⟩
section
variable {X:Cx} {pins:List (Addr × Obj)} {σ:St} {H:Hp} {s s':Shared}
theorem Inv.env0 (I:Inv X pins σ H s):Env0 X.prog X.w X.K X.mg X.base X.A X.stack s H :=
 ⟨I.ok.frames,I.ok.mod,I.bs,Nat.le_trans I.ok.bsz I.sz,I.stack,I.stkFree,I.hok,I.bare⟩
theorem Inv.after {Q:VK} {u:Value} (I:Inv X pins σ H s) (h:CE X.stack X.prog X.w H s Q u s'):EP X pins σ Q u s':=by
 obtain ⟨v,H',os,bare,un,hok,r,q⟩:=h
 obtain ⟨hh,g,d,t,os'⟩:=s'
 obtain rfl:os' = s.os:=os
 exact ⟨v,H',I.call (h':=hh) (g':=g) (d':=d) (t':=t) (ch:=[]) un hok bare (fun b z => absurd z (by simp)),r,q⟩
end
def tCall (sp:Sp) (dvs:List V) (E:XK) (t:TA):TE:=fun σ H Q => t σ H fun vs H1 => sp (vs ++ dvs) H1 Q E
def tMake (C:Addr) (sp:Sp) (dvs:List V) (E:XK) (t:TA):TE:=fun σ H Q => t σ H fun vs H1 => ∀ x dx,H1 x = none -> H1 dx = none -> dx ≠ x ->
 sp (.ref x :: (vs ++ dvs)) (upd (upd H1 dx (.own x)) x (.ins C dx [])) (fun v H2 => v = .non /\ Q (.ref x) H2) E
def Binds (K:PySem.W.Frag) (fd:FuncData) (ps:List Str) (ds:List Value):Prop :=
 ∀ (s:Shared) (us:List Value),K.In s.heap -> (us ++ ds).length = ps.length -> BindsTo s fd ⟨us,[]⟩ (ps.zip (us ++ ds))
theorem Binds.all {K:PySem.W.Frag} {fd:FuncData} {ps:List Str} (h:∀ us:List Value,us.length = ps.length -> bindArgs fd ⟨us,[]⟩ = pure (ps.zip us)):Binds K fd ps []:=fun s us _ hl => by
 rw [List.append_nil] at hl ⊢
 exact .of_eq (h us hl)
def Passes (CX:CXT) (X:Cx) (E:XK):Prop:=∀ (pins:List (Addr × Obj)) (σ:St) (H:Hp) (s:Shared) (e:Value) (s':Shared),Inv X pins σ H s -> CX X.stack H s E e s' -> X.xe e s'
section
variable {X:Cx} {CX:CXT} {k:Nat} {f C:Addr} {fd:FuncData} {ps:List Str} {sp:Sp} {dvs:List V} {ds:List Value} {E:XK} {x m:Str} {p pos apos:Pos} {e o:Expr} {es:List Expr} {ta:TE} {t:TA}
theorem run_fn {pins:List (Addr × Obj)} {σ:St} {H:Hp} {s:Shared} {Q:VK} {us:List Value} {vs:List V} (F:FnOk X.prog X.w X.K X.mg X.base CX k f fd ps sp) (hr:Room k X.A) (hb:Binds X.K fd ps ds) (hd:Vals dvs ds) (hx:Passes CX X E)
  (I:Inv X pins σ H s) (r:Vals vs us) (h:sp (vs ++ dvs) H Q E):wpAny (model X.prog X.w) X.A (call (.ref f) us) (EP X pins σ Q) X.xe s:=by
 have r2:Vals (vs ++ dvs) (us ++ ds):=r.append hd
 have hl:(us ++ ds).length = ps.length:=by rw [<- r2.length]; exact F.len _ _ _ _ h
 refine wpAny_call (codeAny_mono (F.run X.A X.stack s H ⟨us,[]⟩ (us ++ ds) (vs ++ dvs) Q E hr I.env0 (hb s us I.kIn hl) r2 h) fun r s' hq => ?_)
 cases r with
 | error e => exact hx pins σ H s e s' I hq
 | ok fl =>
  cases fl with
  | ret u => exact I.after hq
  | next => exact False.elim hq
  | brk => exact False.elim hq
  | cont => exact False.elim hq
theorem pe_call (F:FnOk X.prog X.w X.K X.mg X.base CX k f fd ps sp) (hr:Room k X.A) (hg:Gl X x) (hm:X.mg x = some (.ref f)) (hk:PySem.W.keepIn X.K (.ref f) = true) (hb:Binds X.K fd ps ds) (hd:Vals dvs ds) (hx:Passes CX X E)
  (ha:PA X (e :: es) t) (hdb:(x == ("__debug__":Str)) = false:=by decide) (he:starEach (e :: es) X.env = (false,eval e X.env) :: starEach es X.env:=by rfl) (hpl:(backTo pos (starEach es X.env)).any (·.1) = false:=by rfl) :
  PE X (.Call (.Name x p) (e :: es) [] pos) (tCall sp dvs E t):=by
 intro pins s σ H Q I h
 refine wpAny_Call_Name_kw (ld_glob I hg hm ?_ hdb)
 refine PySem.W.callWith_K (h₀:=X.base) I.ok.mod.kin hk (thn (ha pos pins s σ H _ I h) fun us s1 ⟨vs,H1,I1,r,q⟩ => ⟨I1.kIn,?_⟩) he hpl
 exact run_fn F hr hb hd hx I1 r q
theorem pe_call0 (F:FnOk X.prog X.w X.K X.mg X.base CX k f fd ps sp) (hr:Room k X.A) (hg:Gl X x) (hm:X.mg x = some (.ref f)) (hk:PySem.W.keepIn X.K (.ref f) = true) (hb:Binds X.K fd ps ds) (hd:Vals dvs ds) (hx:Passes CX X E)
  (hdb:(x == ("__debug__":Str)) = false:=by decide):PE X (.Call (.Name x p) [] [] pos) (tCall sp dvs E tNil):=by
 intro pins s σ H Q I h
 refine wpAny_Call_Name_kw (ld_glob I hg hm ?_ hdb)
 exact PySem.W.callWith_K0 I.kIn hk (run_fn (us:=[]) F hr hb hd hx I .nil h)
structure Mk (K:PySem.W.Frag) (C f:Addr):Prop where
 makes:PySem.W.makesIn K C = true
 init:PySem.W.findIn K (.ref C) "__init__" = some (some (.ref f))
 fn:PySem.W.isFn K (.ref f) = true
 kp:PySem.W.keepIn K (.ref C) = true
theorem run_make {pins:List (Addr × Obj)} {σ:St} {H:Hp} {s:Shared} {Q:VK} {us:List Value} {vs:List V} (M:Mk X.K C f) (F:FnOk X.prog X.w X.K X.mg X.base CX k f fd ps sp) (hr:Room (k + 1) X.A) (hb:Binds X.K fd ps ds) (hd:Vals dvs ds)
  (hx:Passes CX X E) (I:Inv X pins σ H s) (r:Vals vs us)
  (h:∀ x dx,H x = none -> H dx = none -> dx ≠ x -> sp (.ref x :: (vs ++ dvs)) (upd (upd H dx (.own x)) x (.ins C dx [])) (fun v H2 => v = .non /\ Q (.ref x) H2) E) :
  wpAny (model X.prog X.w) X.A (call (.ref C) us) (EP X pins σ Q) X.xe s:=by
 have hq:=h (s.heap.objs.size + 1) s.heap.objs.size (I.hok.fresh (Nat.le_succ _)) (I.hok.fresh (Nat.le_refl _)) (Nat.ne_of_lt (Nat.lt_succ_self _))
 have I2:=Inv.made (C:=C) I
 have r2:Vals (V.ref (s.heap.objs.size + 1) :: (vs ++ dvs)) (Value.ref (s.heap.objs.size + 1) :: (us ++ ds)):=.cons rfl (r.append hd)
 have hl:(Value.ref (s.heap.objs.size + 1) :: us ++ ds).length = ps.length:=by
  have e:=r2.length
  rw [F.len _ _ _ _ hq] at e
  exact e.symm
 refine wpAny_call (make_map (f:=f) I.kIn M.makes M.init (beq_iff_eq.mp M.fn) (codeAny_mono (F.run _ X.stack _ _ ⟨Value.ref (s.heap.objs.size + 1) :: us,[]⟩ (Value.ref (s.heap.objs.size + 1) :: (us ++ ds)) _ _ E (hr.make C us [])
  (I2.env0.make C us []) (hb _ (Value.ref (s.heap.objs.size + 1) :: us) I2.kIn hl) r2 hq) fun r s' hq' => ?_))
 cases r with
 | error e => exact hx pins σ _ _ e s' I2 hq'
 | ok fl =>
  cases fl with
  | ret u =>
   obtain ⟨v,H',I3,rv,ev,q3⟩:=I2.after hq'
   subst ev
   exact ⟨rv,⟨V.ref (s.heap.objs.size + 1),H',I3,rfl,q3⟩⟩
  | next => exact False.elim hq'
  | brk => exact False.elim hq'
  | cont => exact False.elim hq'
theorem pe_make (M:Mk X.K C f) (F:FnOk X.prog X.w X.K X.mg X.base CX k f fd ps sp) (hr:Room (k + 1) X.A) (hg:Gl X x) (hm:X.mg x = some (.ref C)) (hb:Binds X.K fd ps ds) (hd:Vals dvs ds) (hx:Passes CX X E)
  (ha:PA X (e :: es) t) (hdb:(x == ("__debug__":Str)) = false:=by decide) (he:starEach (e :: es) X.env = (false,eval e X.env) :: starEach es X.env:=by rfl) (hpl:(backTo pos (starEach es X.env)).any (·.1) = false:=by rfl) :
  PE X (.Call (.Name x p) (e :: es) [] pos) (tMake C sp dvs E t):=by
 intro pins s σ H Q I h
 refine wpAny_Call_Name_kw (ld_glob I hg hm ?_ hdb)
 refine PySem.W.callWith_K (h₀:=X.base) I.ok.mod.kin M.kp (thn (ha pos pins s σ H _ I h) fun us s1 ⟨vs,H1,I1,r,q⟩ => ⟨I1.kIn,?_⟩) he hpl
 exact run_make M F hr hb hd hx I1 r q
theorem pe_make0 (M:Mk X.K C f) (F:FnOk X.prog X.w X.K X.mg X.base CX k f fd ps sp) (hr:Room (k + 1) X.A) (hg:Gl X x) (hm:X.mg x = some (.ref C)) (hb:Binds X.K fd ps ds) (hd:Vals dvs ds) (hx:Passes CX X E)
  (hdb:(x == ("__debug__":Str)) = false:=by decide):PE X (.Call (.Name x p) [] [] pos) (tMake C sp dvs E tNil):=by
 intro pins s σ H Q I h
 refine wpAny_Call_Name_kw (ld_glob I hg hm ?_ hdb)
 exact PySem.W.callWith_K0 I.kIn M.kp (run_make (us:=[]) M F hr hb hd hx I .nil h)
end
def PK (X:Cx) (kws:List Keyword) (t:TA):Prop :=
 ∀ (pos:Pos) (pins:List (Addr × Obj)) (s:Shared) (σ:St) (H:Hp) (Q:List V -> Hp -> Prop),Inv X pins σ H s -> t σ H Q -> wpAny (model X.prog X.w) X.A (evalAll ((backToKw pos (keywordEach kws X.env)).map (·.2))) (AP X pins σ Q) X.xe s
section
variable {X:Cx} {CX:CXT} {k:Nat} {f C:Addr} {fd:FuncData} {ps ks:List Str} {sp:Sp} {E:XK} {x m:Str} {p pos apos kpos:Pos} {e o:Expr} {es:List Expr} {kws:List Keyword} {te ta:TE} {t tk:TA} {nm:Option Str}
theorem pk_nil:PK X [] tNil:=fun _ _ _ _ H Q I h => wpAny_evalAll_nil ⟨[],H,I,.nil,h⟩
theorem pk_cons (ha:PE X e te) (hr:PK X kws t):PK X (⟨nm,e,kpos⟩ :: kws) (tCons te t):=by
 intro pos pins s σ H Q I h
 show wpAny _ _ (evalAll ((do let v <- eval e X.env; standAt pos; pure v) :: (backToKw pos (keywordEach kws X.env)).map (·.2))) _ _ s
 refine wpAny_evalAll_cons (wpAny_bind (thn (ha pins s σ H _ I h) fun u s1 ⟨x,H1,I1,r1,q1⟩ => wpAny_bind (wpAny_standAt (wpAny_pure ?_))))
 exact thn (hr pos pins s1 σ H1 _ I1 q1) fun us s2 ⟨xs,H2,I2,r2,q2⟩ => ⟨x :: xs,H2,I2,.cons r1 r2,q2⟩
structure KBinds (K:PySem.W.Frag) (fd:FuncData) (ps ks:List Str) (g:List Value -> List Value -> List Value) (gV:List V -> List V -> List V):Prop where
 to:∀ (s:Shared) (us ws:List Value),K.In s.heap -> (g us ws).length = ps.length -> BindsTo s fd ⟨us,ks.zip ws⟩ (ps.zip (g us ws))
 rel:∀ {vs:List V} {us:List Value} {zs:List V} {ws:List Value},Vals vs us -> Vals zs ws -> Vals (gV vs zs) (g us ws)
def tCallK (sp:Sp) (gV:List V -> List V -> List V) (E:XK) (t tk:TA):TE:=fun σ H Q => t σ H fun vs H1 => tk σ H1 fun zs H2 => sp (gV vs zs) H2 Q E
variable {g:List Value -> List Value -> List Value} {gV:List V -> List V -> List V}
theorem run_fnk {pins:List (Addr × Obj)} {σ:St} {H:Hp} {s:Shared} {Q:VK} {us ws:List Value} {vs zs:List V} (F:FnOk X.prog X.w X.K X.mg X.base CX k f fd ps sp) (hr:Room k X.A) (hb:KBinds X.K fd ps ks g gV) (hx:Passes CX X E)
  (I:Inv X pins σ H s) (r:Vals vs us) (rz:Vals zs ws) (h:sp (gV vs zs) H Q E):wpAny (model X.prog X.w) X.A (call (.ref f) us (ks.zip ws)) (EP X pins σ Q) X.xe s:=by
 have r2:=hb.rel r rz
 have hl:(g us ws).length = ps.length:=by rw [<- r2.length]; exact F.len _ _ _ _ h
 refine wpAny_call (codeAny_mono (F.run X.A X.stack s H ⟨us,ks.zip ws⟩ (g us ws) (gV vs zs) Q E hr I.env0 (hb.to s us ws I.kIn hl) r2 h) fun r s' hq => ?_)
 cases r with
 | error e => exact hx pins σ H s e s' I hq
 | ok fl =>
  cases fl with
  | ret u => exact I.after hq
  | next => exact False.elim hq
  | brk => exact False.elim hq
  | cont => exact False.elim hq
theorem pe_callK (F:FnOk X.prog X.w X.K X.mg X.base CX k f fd ps sp) (hr:Room k X.A) (hg:Gl X x) (hm:X.mg x = some (.ref f)) (hk:PySem.W.keepIn X.K (.ref f) = true) (hb:KBinds X.K fd ps ks g gV) (hx:Passes CX X E)
  (ha:PA X (e :: es) t) (hkw:PK X kws tk) (hall:(backToKw pos (keywordEach kws X.env)).all (·.1.isSome) = true:=by rfl) (hks:(backToKw pos (keywordEach kws X.env)).filterMap (·.1) = ks:=by rfl)
  (hdb:(x == ("__debug__":Str)) = false:=by decide) (he:starEach (e :: es) X.env = (false,eval e X.env) :: starEach es X.env:=by rfl)
  (hpl:((backTo pos (starEach (e :: es) X.env)).any (·.1) || (backToKw pos (keywordEach kws X.env)).any (·.1.isNone)) = false:=by rfl) :
  PE X (.Call (.Name x p) (e :: es) kws pos) (tCallK sp gV E t tk):=by
 intro pins s σ H Q I h
 refine wpAny_Call_Name_kw (ld_glob I hg hm ?_ hdb)
 refine PySem.W.callWith_KW (h₀:=X.base) I.ok.mod.kin hk hall (thn (ha pos pins s σ H _ I h) fun us s1 ⟨vs,H1,I1,r,q⟩ => ?_) hpl he
 refine thn (hkw pos pins s1 σ H1 _ I1 q) fun ws s2 ⟨zs,H2,I2,rz,q2⟩ => ⟨I2.kIn,?_⟩
 rw [hks]
 exact run_fnk F hr hb hx I2 r rz q2
end
structure FnScope (N P:List Str) (sc:Scope):Prop where
 kind:sc.kind = .function
 co:sc.isCoroutine = false
 gen:sc.isGenerator = false
 nd:N.Nodup
 pre:N.take P.length = P
 par:∀ x ∈ P,sc.names.lookup x = some .local \/ sc.names.lookup x = some .cell
 nofree:∀ y ∈ sc.names,y.2 ≠ .free
theorem bindL_out {kindOf:Str -> Option NameKind} {x:Str}:∀ {binds:List (Str × Value)} {m:Str -> Option Value},(∀ v,(x,v) ∉ binds) -> bindL kindOf binds m x = m x
 | [],_,_ => rfl
 | (n,v) :: r,m,h => by
  unfold bindL
  rw [bindL_out fun w hw => h w (List.mem_cons_of_mem _ hw)]
  split
  ·have:x ≠ n:=by rintro rfl; exact h v List.mem_cons_self
   simp [this]
  ·rfl
theorem bindC_out {kindOf:Str -> Option NameKind} {x:Str}:∀ {binds:List (Str × Value)} {m:Str -> Option Value},(∀ v,(x,v) ∉ binds) -> bindC kindOf binds m x = m x
 | [],_,_ => rfl
 | (n,v) :: r,m,h => by
  unfold bindC
  rw [bindC_out fun w hw => h w (List.mem_cons_of_mem _ hw)]
  split
  ·rfl
  ·have:x ≠ n:=by rintro rfl; exact h v List.mem_cons_self
   simp [this]
theorem bindL_get {kindOf:Str -> Option NameKind} {x:Str} {v:Value}:∀ {P:List Str} {vs:List Value} {i:Nat} {m:Str -> Option Value},P.Nodup -> P[i]? = some x -> vs[i]? = some v -> kindOf x = some .local ->
  bindL kindOf (P.zip vs) m x = some v
 | [],_,_,_,_,h,_,_ => by simp at h
 | _ :: _,[],_,_,_,_,h,_ => by simp at h
 | p :: P,w :: vs,0,m,nd,h1,h2,hk => by
  simp at h1 h2; subst h1; subst h2
  show bindL kindOf ((p,w) :: P.zip vs) m p = _
  unfold bindL
  rw [bindL_out fun v hv => (List.nodup_cons.mp nd).1 (List.of_mem_zip hv).1,if_pos hk]
  simp
 | p :: P,w :: vs,i + 1,m,nd,h1,h2,hk => by
  show bindL kindOf ((p,w) :: P.zip vs) m x = _
  unfold bindL
  exact bindL_get (i:=i) (List.nodup_cons.mp nd).2 (by simpa using h1) (by simpa using h2) hk
theorem bindC_get {kindOf:Str -> Option NameKind} {x:Str} {v:Value}:∀ {P:List Str} {vs:List Value} {i:Nat} {m:Str -> Option Value},P.Nodup -> P[i]? = some x -> vs[i]? = some v -> kindOf x ≠ some .local ->
  bindC kindOf (P.zip vs) m x = some v
 | [],_,_,_,_,h,_,_ => by simp at h
 | _ :: _,[],_,_,_,_,h,_ => by simp at h
 | p :: P,w :: vs,0,m,nd,h1,h2,hk => by
  simp at h1 h2; subst h1; subst h2
  show bindC kindOf ((p,w) :: P.zip vs) m p = _
  unfold bindC
  rw [bindC_out fun v hv => (List.nodup_cons.mp nd).1 (List.of_mem_zip hv).1,if_neg hk]
  simp
 | p :: P,w :: vs,i + 1,m,nd,h1,h2,hk => by
  show bindC kindOf ((p,w) :: P.zip vs) m x = _
  unfold bindC
  exact bindC_get (i:=i) (List.nodup_cons.mp nd).2 (by simpa using h1) (by simpa using h2) hk
def start (N:List Str) (vs:List V):St:=vs.map some ++ List.replicate (N.length - vs.length) none
def cxOf (CX:CXT) (P:Program) (w:World) (K:PySem.W.Frag) (mg:Str -> Option Value) (base:Heap) (N:List Str) (qual:Str) (scope:Scope) (f:Addr) (cd:Value) (A:Around) (outer:List Env) (s:Shared) (H:Hp) (E:XK):Cx where
 prog:=P
 w:=w
 K:=K
 mg:=mg
 base:=base
 A:=A.deeper (envOfC qual scope s.heap.objs.size f cd)
 N:=N
 s₀:=s
 H₀:=H
 env:=envOfC qual scope s.heap.objs.size f cd
 outer:=outer
 stack:=envOfC qual scope s.heap.objs.size f cd :: outer
 ex:=[]
 calm:=true
 fn:=fun _ => true
 pn:=[]
 xe:=fun e s' => wpAny (model P w) (A.deeper (envOfC qual scope s.heap.objs.size f cd)) (leaving (envOfC qual scope s.heap.objs.size f cd) e) (fun _ s'' => CX outer H s E e s'') (fun e' s'' => CX outer H s E e' s'') s'
theorem cell_has {sc:Scope} {n:Nat} {x:Str} (h:sc.names.lookup x = some .cell):∃ c,(cellsFrom n sc.names []).lookup x = some c:=by
 have q:=PySem.W.cellsFrom_some sc.names n [] (.inl h)
 exact Option.isSome_iff_exists.mp q
theorem inv_start {CX:CXT} {P:Program} {w:World} {K:PySem.W.Frag} {mg:Str -> Option Value} {base:Heap} {N ps:List Str} {qual:Str} {scope:Scope} {f:Addr} {cd:Value} {A:Around} {outer:List Env} {s s1:Shared} {H:Hp} {E:XK} {us:List Value} {vs:List V}
  (S:FnScope N ps scope) (hd:A.handled = none) (e0:Env0 P w K mg base A outer s H) (hl:vs.length = ps.length) (r:Vals vs us)
  (x:InCallC s s.heap.objs.size (bindL (envOfC qual scope s.heap.objs.size f cd).kindOf (ps.zip us) fun _ => none) (cellsFrom (s.heap.objs.size + 1) scope.names []) (bindC (envOfC qual scope s.heap.objs.size f cd).kindOf (ps.zip us) fun _ => none) s1) :
  Inv (cxOf CX P w K mg base N qual scope f cd A outer s H E) [] (start N vs) H s1:=by
 have hpl:ps.length <= N.length:=by have:=congrArg List.length S.pre; rw [List.length_take] at this; omega
 obtain ⟨h1,tk,rfl,hk⟩:=x.done
 have noA:∀ b:Addr,b ∉ (cxOf CX P w K mg base N qual scope f cd A outer s H E).ex:=fun b z => absurd (show b ∈ ([]:List Addr) from z) (by simp)
 refine ⟨⟨e0.mod,S.kind,rfl,rfl,Nat.le_refl _,fun y z c h1 h2 => ?_,fun y hy => ?_,fun y c _ h => ?_,fun _ => hd,Around.frames_deeper e0.frames,.inr ⟨rfl,rfl⟩,fun b z => absurd z (noA b),e0.bs,e0.bsz,fun b _ _ => noA b,fun b z => absurd z (noA b),e0.funs,e0.frf⟩,
  rfl,e0.bare,Un.kept hk,⟨_,x.toInCall.ns,fun i y v h1 h2 h3 => ?_⟩,fun y c h => ⟨_,x.cell y c h⟩,e0.hok.fresh (Nat.le_refl _),fun y c h => ?_,fun p hp => absurd (show p ∈ ([]:List (Addr × Obj)) from hp) (by simp),e0.hok.kept hk,?_⟩
 ·exact name_of_addr x.apart (PySem.mem_of_lookup h1) (PySem.mem_of_lookup h2)
 ·have hy:scope.names.lookup y = some .cell \/ scope.names.lookup y = some .free:=hy
  rcases hy with hy | hy
  ·exact cell_has hy
  ·exact absurd rfl (S.nofree _ (PySem.mem_of_lookup hy))
 ·exact Nat.le_of_lt (x.above y c (PySem.mem_of_lookup h))
 ·have hi:i < vs.length:=by
   unfold start at h2
   by_cases hi:i < vs.length
   ·exact hi
   ·rw [List.getElem?_append_right (by simpa using hi)] at h2
    rw [List.getElem?_replicate] at h2
    split at h2 <;> cases h2
  have ha:vs[i]? = some v:=by
   unfold start at h2
   rw [List.getElem?_append_left (by simpa using hi),List.getElem?_map] at h2
   cases e:vs[i]? with
   | none => rw [e] at h2; cases h2
   | some a => rw [e] at h2; cases h2; rfl
  obtain ⟨u,hu,rv⟩:=r.get ha
  have hp:ps[i]? = some y:=by
   rw [<- S.pre,List.getElem?_take_of_lt (by omega)]; exact h1
  have ndP:ps.Nodup:=by rw [<- S.pre]; exact S.nd.sublist (List.take_sublist _ _)
  refine ⟨u,rv,?_⟩
  rcases S.par y (List.mem_of_getElem? hp) with k | k
  ·exact .inl ⟨k,bindL_get ndP hp hu k⟩
  ·obtain ⟨c,e⟩:=cell_has (n:=s.heap.objs.size + 1) k
   refine .inr ⟨.inl k,c,e,?_⟩
   have q:=x.cell y c e
   rw [bindC_get ndP hp hu (by show scope.names.lookup y ≠ _; rw [k]; decide)] at q
   exact q
 ·exact e0.hok.fresh (Nat.le_of_lt (x.above y c (PySem.mem_of_lookup h)))
 ·unfold start
  show _ = N.length
  rw [List.length_append,List.length_map,List.length_replicate]
  omega
theorem fn_of {CX:CXT} {P:Program} {w:World} {K:PySem.W.Frag} {mg:Str -> Option Value} {base:Heap} {k:Nat} {f:Addr} {name qual:Str} {params:Arguments} {body:List Stmt} {scope:Scope} {dV kV doc pm cdv ct oc:Value} {an od:Option Addr}
  {osl:Array (Option Value)} {N ps:List Str} {sp:Sp} (lk:K.lookup f = some ⟨oc,od,.func (PySem.W.fnOf name qual params body scope dV kV doc pm an cdv ct),osl⟩) (hcd:PySem.W.codeIn K cdv qual = true) (S:FnScope N ps scope)
  (len:∀ vs H Q E,sp vs H Q E -> vs.length = ps.length)
  (hbody:∀ (A:Around) (outer:List Env) (s:Shared) (H:Hp) (vs:List V) (Q:VK) (E:XK),Room k (A.deeper (envOfC qual scope s.heap.objs.size f cdv)) -> sp vs H Q E ->
   ∃ t,PSs (cxOf CX P w K mg base N qual scope f cdv A outer s H E) body t /\ t { nx:=fun _ H' => Q .non H',rt:=Q } (start N vs) H) :
  FnOk P w K mg base CX (k + 1) f (PySem.W.fnOf name qual params body scope dV kV doc pm an cdv ct) ps sp:=by
 refine ⟨len,fun A outer s H args us vs Q E hr e0 hb r hsp => ?_⟩
 have hl:=len _ _ _ _ hsp
 have KX:K.In s.heap:=e0.mod.kin.keeps fun b o e => (e0.bs b o e).1
 have lim:s.heap.NoLimit:=e0.mod.nolimit.keeps fun b o e => (e0.bs b o e).1
 have hkind:∀ y ∈ ps.zip us,scope.names.lookup y.1 = some .local \/ (scope.names.lookup y.1 = some .cell /\ ((cellsFrom (s.heap.objs.size + 1) scope.names []).lookup y.1).isSome = true):=fun ⟨n,v⟩ hy => by
  rcases S.par n (List.of_mem_zip hy).1 with q | q
  ·exact .inl q
  ·exact .inr ⟨q,PySem.W.cellsFrom_some _ _ _ (.inl q)⟩
 refine codeAny_call_function hr.depth (KX _ _ lk) rfl S.co S.gen rfl (PySem.W.codeRec_of KX hcd) (hb _ _ _ _ ?_)
 refine wpAny_newFunctionEnv_cells S.kind hkind fun env he s1 x => ?_
 subst he
 refine ⟨lim.keeps x.toInCall.keep,codeAny_func ?_⟩
 obtain ⟨t,ht,hq⟩:=hbody A outer s H vs Q E (hr.deeper _) hsp
 have I:Inv (cxOf CX P w K mg base N qual scope f cdv A outer s H E) [] (start N vs) H s1:=inv_start S hr.hd e0 hl r x
 refine wpAny_mono (ht [] s1 (start N vs) H _ I hq) (fun fl s' hs => ?_) fun e s' hs => hs
 have fin:∀ {σ':St} {H':Hp} {v:V} {u:Value},Inv (cxOf CX P w K mg base N qual scope f cdv A outer s H E) [] σ' H' s' -> RelV v u -> Q v H' -> CE outer P w H s Q u s' :=
  fun {σ' H' v u} J rv q => ⟨v,H',J.os,J.bare,J.base,J.hok,rv,q⟩
 cases fl with
 | ret u =>
  obtain ⟨v,σ',H',J,rv,q⟩:=hs
  exact fin J rv q
 | next =>
  obtain ⟨σ',H',J,q⟩:=hs
  exact fin (v:=V.non) (u:=Value.none) J rfl q
 | brk =>
  obtain ⟨_,_,_,q⟩:=hs
  exact False.elim q
 | cont =>
  obtain ⟨_,_,_,q⟩:=hs
  exact False.elim q
end L2
namespace L2
open PySem PySem.Spec PyProof.Rows
section
variable {X:Cx} {x:Str} {p pos:Pos} {e:Expr} {es:List Expr} {t:TA} {id T:String} {r:List V -> Hp -> VK -> Prop}
def tCB (r:List V -> Hp -> VK -> Prop) (t:TA):TE:=fun σ H Q => t σ H fun vs H1 => r vs H1 Q
theorem pe_callB (hc:CallR X (.builtin id) r) (hg:Gl X x) (hm:X.mg x = none) (hv:bootBuiltins x = some (.builtin id)) (ha:PA X (e :: es) t) (hn:x ≠ "__name__":=by decide) (hdb:(x == ("__debug__":Str)) = false:=by decide)
  (he:starEach (e :: es) X.env = (false,eval e X.env) :: starEach es X.env:=by rfl) (hpl:(backTo pos (starEach es X.env)).any (·.1) = false:=by rfl):PE X (.Call (.Name x p) (e :: es) [] pos) (tCB r t):=by
 intro pins s σ H Q I h
 refine wpAny_Call_Name_kw (ld_blt I hg hm hv ?_ hn hdb)
 exact PyProof.Rows.callWith_builtin1 (thn (ha pos pins s σ H _ I h) fun us s1 ⟨vs,H1,I1,r1,q1⟩ => hc pins s1 σ H1 vs us Q I1 r1 q1) he hpl
theorem pe_callTy (hc:CallR X (.type T) r) (hg:Gl X x) (hm:X.mg x = none) (hv:bootBuiltins x = some (.type T)) (ha:PA X (e :: es) t) (hn:x ≠ "__name__":=by decide) (hdb:(x == ("__debug__":Str)) = false:=by decide)
  (he:starEach (e :: es) X.env = (false,eval e X.env) :: starEach es X.env:=by rfl) (hpl:(backTo pos (starEach es X.env)).any (·.1) = false:=by rfl):PE X (.Call (.Name x p) (e :: es) [] pos) (tCB r t):=by
 intro pins s σ H Q I h
 refine wpAny_Call_Name_kw (ld_blt I hg hm hv ?_ hn hdb)
 exact PyProof.Rows.callWith_type1 (thn (ha pos pins s σ H _ I h) fun us s1 ⟨vs,H1,I1,r1,q1⟩ => hc pins s1 σ H1 vs us Q I1 r1 q1) he hpl
end
end L2
namespace HT
open PySem PyProof.Rows
section
open PySem.SeqAt
open PySem.AutoSeq1 (wpAny_loadPart')
open PySem.MeetsSeq PySem.MeetsSeq2 PySem.MeetsSeq3
end
section
variable {prog:Program} {w:World} {A:Around} {E:Value -> Shared -> Prop} {s:Shared}
theorem cat_tup {t b:Addr} {vs ws:List Value} {Q:Value -> Shared -> Prop} (ht:IsTup s.heap t vs.toArray) (hb:IsTup s.heap b ws.toArray) (hv:vs ≠ [])
  (h1:ws = [] -> Q (.ref t) s) (h2:ws ≠ [] -> Q (.ref s.heap.objs.size) { s with heap:=s.heap.push { cls:=.type "tuple",data:=.seq (vs ++ ws).toArray } })
  (hsz:vs.length + ws.length <= sizeLine):wpAny (model prog w) A (binaryOp .Add (.ref t) (.ref b)) Q E s:=by
 obtain ⟨⟨cls,dd,data,sl⟩,ho,hc,n,hd⟩:=id ht
 obtain ⟨⟨cls2,dd2,data2,sl2⟩,ho2,hc2,n2,hd2⟩:=id hb
 simp only at hc hd hc2 hd2
 subst hc hd hc2 hd2
 have e:vs.toArray ++ ws.toArray = (vs ++ ws).toArray:=by simp
 by_cases hw:ws = []
 ·exact concat_meets ⟨_,ho,rfl⟩ ⟨_,ho2,rfl⟩ noFill_tuple_add seq_tuple_add PySem.F.slot_tuple_add PySem.F.entry_tuple_add (PySem.F.args_tuple_add_2 _ _)
   (tuple_addW1 t b vs.toArray ws.toArray n n2 dd dd2 sl sl2 (by simpa using hv) (by simp [hw])) ⟨ho,ho2,h1 hw⟩
 ·refine concat_meets ⟨_,ho,rfl⟩ ⟨_,ho2,rfl⟩ noFill_tuple_add seq_tuple_add PySem.F.slot_tuple_add PySem.F.entry_tuple_add (PySem.F.args_tuple_add_2 _ _)
   (tuple_addW2 t b vs.toArray ws.toArray n n2 dd dd2 sl sl2 (by simpa using hv) (by simpa using hw) (by rw [List.size_toArray,List.size_toArray]; exact hsz)) ⟨ho,ho2,?_⟩
  rw [e]
  exact h2 hw
def sIx (n d:Nat):Option Int -> Nat
 | none => d
 | some v => if v < 0 then (v + (n:Int)).toNat else min v.toNat n
theorem sIx_le (n d:Nat) (hd:d <= n) (o:Option Int):sIx n d o <= n:=by
 cases o with
 | none => exact hd
 | some v =>
  show (if v < 0 then (v + (n:Int)).toNat else min v.toNat n) <= n
  by_cases hv:v < 0
  ·rw [if_pos hv]; omega
  ·rw [if_neg hv]; exact Nat.min_le_right _ _
theorem clip_eq (v:Int) (n d:Nat):(if v < 0 then max (v + (n:Int)) 0 else min v (n:Int)) = ((sIx n d (some v):Nat):Int):=by
 show (if v < 0 then max (v + (n:Int)) 0 else min v (n:Int)) = (((if v < 0 then (v + (n:Int)).toNat else min v.toNat n):Nat):Int)
 by_cases hv:v < 0
 ·simp only [if_pos hv]; omega
 ·simp only [if_neg hv]; omega
theorem adjust_gen (lo hi:Option Int) (n:Nat):Builtin.Slice.sliceAdjust lo hi 1 (n:Int) = (((sIx n 0 lo:Nat):Int),((sIx n n hi:Nat):Int)):=by
 have h1:¬ ((1:Int) < 0):=by omega
 unfold Builtin.Slice.sliceAdjust
 simp only [h1,if_false]
 refine Prod.ext ?_ ?_
 ·cases lo with
  | none => rfl
  | some v => exact clip_eq v n 0
 ·cases hi with
  | none => rfl
  | some v => exact clip_eq v n n
theorem places_gen (i j:Nat):Builtin.Slice.slicePlaces (i:Int) (j:Int) 1 = j - i:=by
 unfold Builtin.Slice.slicePlaces
 have h1:(1:Int) > 0:=by omega
 simp only [h1,if_true,Int.ediv_one]
 split <;> omega
theorem slicePart_ {v:Value} {o:Option Int} {Q:Option Int -> Shared -> Prop} (p:IsPart v o) (h:Q o s):wpAny (model prog w) A (Builtin.Slice.slicePartIndex v) Q E s:=by
 cases p with
 | none => exact slicePart_none h
 | int i t => exact slicePart_int h
theorem sliceApplied_gen {sl:Addr} {vl vu:Value} {lo hi:Option Int} {n:Nat} {Q:Int × Int × Nat -> Shared -> Prop} (hs:s.heap.IsSliceOf sl vl vu .none) (pl:IsPart vl lo) (pu:IsPart vu hi)
  (h:Q (((sIx n 0 lo:Nat):Int),1,sIx n n hi - sIx n 0 lo) s):wpAny (model prog w) A (Builtin.Slice.sliceApplied (.ref sl) (pure (n:Int))) Q E s:=by
 obtain ⟨os,hos,hcs,hds⟩:=id hs
 unfold Builtin.Slice.sliceApplied Builtin.Slice.sliceFields
 refine wpAny_bind (wpAny_bind (wpAny_field hos hds (x:=vl) rfl (wpAny_bind (wpAny_field hos hds (x:=vu) rfl (wpAny_bind (wpAny_field hos hds (x:=.none) rfl (wpAny_pure ?_)))))))
 refine wpAny_bind (slicePart_none ?_)
 show wpAny _ _ (if ((1:Int) == 0) = true then _ else _) _ _ s
 rw [if_neg (by decide)]
 refine wpAny_bind (slicePart_ pl (wpAny_bind (slicePart_ pu (wpAny_bind (wpAny_pure ?_)))))
 show wpAny _ _ (match Builtin.Slice.sliceAdjust lo hi 1 (n:Int) with | (lo,hi) => pure (lo,(1:Int),Builtin.Slice.slicePlaces lo hi 1)) _ _ s
 rw [adjust_gen lo hi n]
 show wpAny _ _ (pure (((sIx n 0 lo:Nat):Int),(1:Int),Builtin.Slice.slicePlaces ((sIx n 0 lo:Nat):Int) ((sIx n n hi:Nat):Int) 1)) _ _ s
 rw [places_gen]
 exact wpAny_pure h
theorem pick_gen (xs:Array Value) (i k:Nat):((List.range k).filterMap fun (m:Nat) => xs[((i:Int) + (m:Int) * 1).toNat]?).toArray = ((xs.toList.drop i).take k).toArray:=by
 have e:(fun (m:Nat) => xs[((i:Int) + (m:Int) * 1).toNat]?) = fun m => xs[i + m]?:=by
  funext m
  have:((i:Int) + (m:Int) * 1).toNat = i + m:=by omega
  rw [this]
 rw [e]
 have:=pick_run xs i k
 rw [List.filterMap_map] at this
 have e2:((fun x => xs[x]?) ∘ fun x => i + x) = fun m => xs[i + m]?:=rfl
 rw [e2] at this
 rw [this]
theorem getItem_tuple_cut {t sl:Addr} {items:Array Value} {vl vu:Value} {lo hi:Option Int} {Q:Value -> Shared -> Prop} (ht:IsTup s.heap t items) (hs:s.heap.IsSliceOf sl vl vu .none) (pl:IsPart vl lo) (pu:IsPart vu hi)
  (hw:¬ (sIx items.size 0 lo = 0 /\ sIx items.size items.size hi = items.size))
  (h:Q (.ref s.heap.objs.size) { s with heap:=s.heap.push { cls:=.type "tuple",data:=.seq ((items.toList.drop (sIx items.size 0 lo)).take (sIx items.size items.size hi - sIx items.size 0 lo)).toArray } })
  (hsz:items.size <= sizeLine):wpAny (model prog w) A (getItem (.ref t) (.ref sl)) Q E s:=by
 have htake:sizeOk (.seq ((items.toList.drop (sIx items.size 0 lo)).take (sIx items.size items.size hi - sIx items.size 0 lo)).toArray):=by
  show ((items.toList.drop (sIx items.size 0 lo)).take (sIx items.size items.size hi - sIx items.size 0 lo)).toArray.size <= sizeLine
  rw [List.size_toArray,List.length_take,List.length_drop,Array.length_toList]
  omega
 have hj:sIx items.size items.size hi <= items.size:=sIx_le _ _ (Nat.le_refl _) hi
 obtain ⟨os,hos,hcs,hds⟩:=id hs
 have hTs:s.TypeIs (.ref sl) "slice":=⟨os,hos,hcs⟩
 unfold getItem
 try with_reducible refine wpAny_holding ?_
 first | refine wpAny_bind (wpAny_pure ?_) | skip
 refine wpAny_bind (wpAny_sequenceKey ht.typeIs (by decide) ?_)
 refine wpAny_bind (wpAny_callSpecial?_slot (name:=Str.ofString "__getitem__") ht.typeIs PyProof.Rows.slot_tuple_getitem
  (wpAny_call_entry PyProof.Rows.slot_tuple_getitem ht.typeIs entry_tuple_getitem ?_ (args_tuple_getitem _ _)))
 show wpAny _ _ (Builtin.Tuple.tupleItemsOf (.ref t) >>= _) _ _ s
 refine wpAny_bind (tupleItemsOf_ ht ?_)
 refine wpAny_bind (wpAny_typeOf hTs ?_)
 rw [if_pos (by decide)]
 refine wpAny_bind (sliceApplied_gen hs pl pu ?_)
 have hno:¬ ((((sIx items.size 0 lo:Nat):Int) == 0 && (1:Int) == 1 && (sIx items.size items.size hi - sIx items.size 0 lo) == items.size) = true):=by
  intro q
  rw [Bool.and_eq_true,Bool.and_eq_true] at q
  have q1:((sIx items.size 0 lo:Nat):Int) = 0:=eq_of_beq q.1.1
  have q2:sIx items.size items.size hi - sIx items.size 0 lo = items.size:=eq_of_beq q.2
  exact hw ⟨by omega,by omega⟩
 show wpAny _ _ (if (((sIx items.size 0 lo:Nat):Int) == 0 && (1:Int) == 1 && (sIx items.size items.size hi - sIx items.size 0 lo) == items.size) = true then _ else _) _ _ s
 rw [if_neg hno,pick_gen]
 first
  | exact wpAny_bind (m:=Builtin.Tuple.tupleExact _) (wpAny_newObj_type (wpAny_pure ⟨_,rfl,wpAny_pure h⟩) htake)
  | exact wpAny_bind (m:=Builtin.Tuple.tupleExact _) (wpAny_newObj_type (wpAny_bind (wpAny_pure (wpAny_pure ⟨_,rfl,wpAny_pure h⟩))) htake)
  | exact wpAny_bind (wpAny_bind (m:=Builtin.Tuple.tupleExact _) (wpAny_newObj_type (wpAny_pure (wpAny_pure ⟨_,rfl,wpAny_pure h⟩)) htake))
  | exact wpAny_bind (wpAny_bind (m:=Builtin.Tuple.tupleExact _) (wpAny_newObj_type (wpAny_pure ⟨_,rfl,wpAny_pure h⟩) htake))
end
end HT
namespace L2
open PySem PySem.Spec PyProof.Rows
abbrev TO:=St -> Hp -> (Option Int -> Hp -> Prop) -> Prop
def PO (X:Cx) (e:Option Expr) (t:TO):Prop :=
 ∀ (pins:List (Addr × Obj)) (s:Shared) (σ:St) (H:Hp) (Q:Option Int -> Hp -> Prop),Inv X pins σ H s -> t σ H Q ->
  wpAny (model X.prog X.w) X.A (evalPart e X.env) (fun u s' => ∃ o H',Inv X pins σ H' s' /\ IsPart u o /\ Q o H') X.xe s
def tNoPart:TO:=fun _ H Q => Q none H
def tPart (t:TE):TO:=fun σ H Q => t σ H fun x H1 => ∃ i,x = .int i /\ Q (some i) H1
theorem intsAre_of {ns:List Int}:∀ {us:List Value},Vals (ns.map V.int) us -> IntsAre us ns:=by
 induction ns with
 | nil => intro us r; rw [List.map_nil] at r; cases r; exact .nil
 | cons n ns ih =>
  intro us r
  rw [List.map_cons] at r
  cases r with
  | cons r1 r2 =>
   obtain ⟨t,e⟩:=r1
   subst e
   exact .cons n t (ih r2)
section
variable {X:Cx} {e:Expr} {te:TE} {lo hi:Option Expr} {tl th:TO} {pos p2:Pos}
theorem po_none:PO X none tNoPart:=by
 intro pins s σ H Q I h
 rw [evalPart_none]
 exact wpAny_pure ⟨none,H,I,.none,h⟩
theorem po_some (h:PE X e te):PO X (some e) (tPart te):=by
 intro pins s σ H Q I hw
 rw [evalPart_some]
 refine thn (h pins s σ H _ I hw) fun u s1 ⟨x,H1,I1,r1,q1⟩ => ?_
 obtain ⟨i,rfl,q⟩:=q1
 obtain ⟨t,rfl⟩:=r1
 exact ⟨some i,H1,I1,.int i t,q⟩
def SlR (X:Cx) (r:V -> Option Int -> Option Int -> Hp -> VK -> Prop):Prop :=
 ∀ (pins:List (Addr × Obj)) (s:Shared) (σ:St) (H:Hp) (x:V) (v vl vu:Value) (lo hi:Option Int) (sl:Addr) (Q:VK),Inv X pins σ H s -> RelV x v -> s.heap.IsSliceOf sl vl vu .none -> IsPart vl lo -> IsPart vu hi -> r x lo hi H Q ->
  ∃ T id, typeLookup (.type T) "__getitem__" = pure (some (.builtin id)) /\ s.TypeIs v T /\ wpAny (model X.prog X.w) X.A (getItem v (.ref sl)) (EP X pins σ Q) X.xe s
theorem SlR.or {r r':V -> Option Int -> Option Int -> Hp -> VK -> Prop} (h:SlR X r) (h':SlR X r'):SlR X (fun x lo hi H Q => r x lo hi H Q \/ r' x lo hi H Q):=by
 intro pins s σ H x v vl vu lo hi sl Q I rx hs pl pu q
 rcases q with q | q
 ·exact h pins s σ H x v vl vu lo hi sl Q I rx hs pl pu q
 ·exact h' pins s σ H x v vl vu lo hi sl Q I rx hs pl pu q
def tSl (r:V -> Option Int -> Option Int -> Hp -> VK -> Prop) (te:TE) (tl th:TO):TE:=fun σ H Q => te σ H fun x H1 => tl σ H1 fun l H2 => th σ H2 fun u H3 => r x l u H3 Q
theorem pe_slice {r:V -> Option Int -> Option Int -> Hp -> VK -> Prop} (hr:SlR X r) (he:PE X e te) (hl:PO X lo tl) (hu:PO X hi th):PE X (.Subscript e (.Slice lo hi none p2) pos) (tSl r te tl th):=by
 intro pins s σ H Q I h
 refine Subscript_ (thn (he pins s σ H _ I h) fun v s1 ⟨x,H1,I1,r1,q1⟩ => ?_)
 refine wpAny_Slice (thn (hl pins s1 σ H1 _ I1 q1) fun vl s2 ⟨l,H2,I2,pl,q2⟩ => thn (hu pins s2 σ H2 _ I2 q2) fun vu s3 ⟨u,H3,I3,pu,q3⟩ => ?_)
 rw [evalPart_none]
 refine wpAny_pure ?_
 have I4:Inv X pins σ H3 { s3 with heap:=s3.heap.push { cls:=.type "slice",data:=.fields #[vl,vu,.none] } }:=I3.kept (t':=s3.toks) fun b ob q => Heap.get?_push_of_some _ q
 obtain ⟨T,id,hT,ht,hg⟩:=hr pins { s3 with heap:=s3.heap.push { cls:=.type "slice",data:=.fields #[vl,vu,.none] } } σ H3 x v vl vu l u s3.heap.objs.size Q I4 r1 (Heap.IsSliceOf.new ..) pl pu q3
 show wpAny (model X.prog X.w) X.A (subscriptTail e (.Slice lo hi none p2) v (.ref s3.heap.objs.size)) (EP X pins σ Q) X.xe { s3 with heap:=s3.heap.push { cls:=.type "slice",data:=.fields #[vl,vu,.none] } }
 exact tail_any (ops:=[.ref s3.heap.objs.size,v]) ht hT hg (by with_unfolding_all rfl)
def cutV (xs:List V) (lo hi:Option Int):List V:=(xs.drop (HT.sIx xs.length 0 lo)).take (HT.sIx xs.length xs.length hi - HT.sIx xs.length 0 lo)
theorem cutV_length (xs:List V) (lo hi:Option Int):(cutV xs lo hi).length <= xs.length:=by
 unfold cutV
 rw [List.length_take,List.length_drop]
 omega
def rSlT (K:PySem.W.Frag):V -> Option Int -> Option Int -> Hp -> VK -> Prop:=fun x lo hi H Q => ∃ a xs,x = .ref a /\ SqT K H a xs /\
 ¬ (HT.sIx xs.length 0 lo = 0 /\ HT.sIx xs.length xs.length hi = xs.length) /\ ∀ p,H p = none -> Q (.ref p) (upd H p (.tup (cutV xs lo hi)))
theorem sl_tup:SlR X (rSlT X.K):=by
 intro pins s σ H x v vl vu lo hi sl Q I rx hs pl pu h
 obtain ⟨a,xs,rfl,hx,hw,q⟩:=h
 cases rx
 obtain ⟨its,r,ht,hz⟩:=I.tuple hx
 have hlen:its.toArray.size = xs.length:=by rw [List.size_toArray]; exact r.length.symm
 refine ⟨"tuple",_,PyProof.Rows.slot_tuple_getitem.lookup,ht.typeIs,?_⟩
 refine HT.getItem_tuple_cut ht hs pl pu (by rw [hlen]; exact hw) ?_ (by rw [hlen]; exact hz)
 rw [hlen]
 refine ⟨.ref s.heap.objs.size,_,I.laid (t':=s.toks) (o:=.tup (cutV xs lo hi)) (fun b ob q => Heap.get?_push_of_some _ q) (Nat.le_refl _) ?_,rfl,q _ (I.hok.fresh (Nat.le_refl _))⟩
 exact ⟨Nat.le_trans (cutV_length xs lo hi) hz,_,(r.drop (HT.sIx xs.length 0 lo)).take (HT.sIx xs.length xs.length hi - HT.sIx xs.length 0 lo),IsTup.new _ _⟩
def rCatT (K:PySem.W.Frag):R2:=fun x y H Q => ∃ a b xs ys,x = .ref a /\ y = .ref b /\ SqT K H a xs /\ SqT K H b ys /\ xs ≠ [] /\ xs.length + ys.length <= sizeLine /\
 (ys = [] -> Q (.ref a) H) /\ (ys ≠ [] -> ∀ p,H p = none -> Q (.ref p) (upd H p (.tup (xs ++ ys))))
theorem Vals.nil_iff {xs:List V} {us:List Value} (r:Vals xs us):us = [] ↔ xs = []:=by
 cases r with
 | nil => simp
 | cons _ _ => simp
theorem op_catT:OpR X (binaryOp .Add) (rCatT X.K):=by
 intro pins s σ H x y v u Q I rx ry h
 obtain ⟨a,b,xs,ys,rfl,rfl,ha,hb,hx,hz,q1,q2⟩:=h
 cases rx
 cases ry
 obtain ⟨its,r1,p1,_⟩:=I.tuple ha
 obtain ⟨its2,r2,p2,_⟩:=I.tuple hb
 refine HT.cat_tup p1 p2 (fun z => hx (r1.nil_iff.mp z)) (fun z => ⟨.ref a,H,I,rfl,q1 (r2.nil_iff.mp z)⟩) (fun z => ?_) (by rw [<- r1.length,<- r2.length]; exact hz)
 refine ⟨.ref s.heap.objs.size,_,I.laid (t':=s.toks) (o:=.tup (xs ++ ys)) (fun b ob q => Heap.get?_push_of_some _ q) (Nat.le_refl _) ?_,rfl,q2 (fun w => z (r2.nil_iff.mpr w)) _ (I.hok.fresh (Nat.le_refl _))⟩
 exact ⟨by rw [List.length_append]; exact hz,_,r1.append r2,IsTup.new _ _⟩
end
end L2
namespace L2
open PySem PySem.Spec PyProof.Rows
def ixN (n:Nat) (i:Int):Option Nat:=if 0 <= i then (if i < n then some i.toNat else none) else if -(n:Int) <= i then some (i + n).toNat else none
def atI {α:Type} (xs:List α) (i:Int):Option α:=(ixN xs.length i).bind fun j => xs[j]?
theorem ixN_seq {n:Nat} {i:Int} {j:Nat} (h:ixN n i = some j):seqIndex? i n = some j /\ j < n /\ -(n:Int) <= i /\ i < n:=by
 unfold ixN at h
 by_cases h0:0 <= i
 ·rw [if_pos h0] at h
  by_cases h1:i < n
  ·rw [if_pos h1] at h
   have e:i.toNat = j:=Option.some.inj h
   exact ⟨by rw [seqIndex_of h0 h1,e],by omega,by omega,h1⟩
  ·rw [if_neg h1] at h; cases h
 ·rw [if_neg h0] at h
  by_cases h1:-(n:Int) <= i
  ·rw [if_pos h1] at h
   have e:(i + n).toNat = j:=Option.some.inj h
   exact ⟨by rw [seqIndex_neg (by omega) h1,e],by omega,h1,by omega⟩
  ·rw [if_neg h1] at h; cases h
theorem atI_get {α:Type} {xs:List α} {i:Int} {v:α} (h:atI xs i = some v):∃ j,seqIndex? i xs.length = some j /\ xs[j]? = some v /\ j < xs.length /\ -(xs.length:Int) <= i /\ i < xs.length:=by
 unfold atI at h
 cases e:ixN xs.length i with
 | none => rw [e] at h; cases h
 | some j =>
  rw [e] at h
  obtain ⟨h1,h2,h3,h4⟩:=ixN_seq e
  exact ⟨j,h1,h,h2,h3,h4⟩
def PlainIx (b:Expr):Prop:=∀ o i,subscripted b false o i = operate [o,i] (getItem o i)
def IxR (X:Cx) (r:R2):Prop :=
 ∀ (value slice:Expr) (pins:List (Addr × Obj)) (s:Shared) (σ:St) (H:Hp) (x y:V) (v u:Value) (Q:VK),Inv X pins σ H s -> RelV x v -> RelV y u -> r x y H Q ->
  subscripted slice false v u = operate [v,u] (getItem v u) -> wpAny (model X.prog X.w) X.A (subscriptTail value slice v u) (EP X pins σ Q) X.xe s
def MtR (X:Cx) (id:String) (r:V -> List V -> Hp -> VK -> Prop):Prop :=
 ∀ (pins:List (Addr × Obj)) (s:Shared) (σ:St) (H:Hp) (x:V) (xs:List V) (v:Value) (us:List Value) (Q:VK),Inv X pins σ H s -> RelV x v -> Vals xs us -> r x xs H Q ->
  wpAny (model X.prog X.w) X.A (call (.builtin id) (v :: us)) (EP X pins σ Q) X.xe s
section
variable {X:Cx} {a b:Expr} {ta tb:TE} {pos:Pos}
theorem IxR.or {r r':R2} (h:IxR X r) (h':IxR X r'):IxR X (fun x y H Q => r x y H Q \/ r' x y H Q):=by
 intro value slice pins s σ H x y v u Q I rx ry q hs
 rcases q with q | q
 ·exact h value slice pins s σ H x y v u Q I rx ry q hs
 ·exact h' value slice pins s σ H x y v u Q I rx ry q hs
theorem pe_ix {r:R2} (hr:IxR X r) (ha:PE X a ta) (hb:PE X b tb) (hs:PlainIx b):PE X (.Subscript a b pos) (tOp r ta tb):=by
 intro pins s σ H Q I h
 exact Subscript_ (binT ha hb I h fun v u s2 x y H2 I2 rx ry q => hr a b pins s2 σ H2 x y v u Q I2 rx ry q (hs _ _))
def rIxL (K:PySem.W.Frag):R2:=fun x y H Q => ∃ p xs i v,x = .ref p /\ y = .int i /\ SqL K H p xs /\ atI xs i = some v /\ Q v H
def rIxT (K:PySem.W.Frag):R2:=fun x y H Q => ∃ p xs i v,x = .ref p /\ y = .int i /\ SqT K H p xs /\ atI xs i = some v /\ Q v H
def rIxS:R2:=fun x y H Q => ∃ z i c,x = .str z /\ y = .int i /\ z.length <= sizeLine /\ atI z.cps.toList i = some c /\ Q (.str ⟨#[c]⟩) H
theorem ix_list:IxR X (rIxL X.K):=by
 intro value slice pins s σ H x y v u Q I rx ry h hs
 obtain ⟨p,xs,i,z,rfl,rfl,hq,he,q⟩:=h
 cases rx
 obtain ⟨t,rfl⟩:=ry
 obtain ⟨its,r,pl,hz⟩:=I.list hq
 obtain ⟨j,h1,h2,h3,h4,h5⟩:=atI_get he
 obtain ⟨w,ew,rw'⟩:=r.get h2
 have hl:=r.length
 have hn:=line63
 have fin:EP X pins σ Q w s:=⟨z,H,I,rw',q⟩
 by_cases h0:0 <= i
 ·have hj:i.toNat = j:=by
   rw [seqIndex_of h0 h5] at h1
   exact Option.some.inj h1
  exact item_listR pl.isList h0 (by omega) (by rw [hj]; simpa using ew) fin hs
 ·have hj:(i + (its.toArray.size:Int)).toNat = j:=by
   rw [seqIndex_neg (by omega) h4] at h1
   rw [List.size_toArray,<- hl]
   exact Option.some.inj h1
  exact subscriptTail_builtinR (x:=w) pl.isList.typeIs slot_list_getitem.lookup
   (wpAny_getItem_list_neg (Q:=fun r s' => r = w /\ EP X pins σ Q r s') pl.isList (by omega) (by rw [List.size_toArray] <;> omega) (by omega) (by rw [hj]; simpa using ew) ⟨rfl,fin⟩) hs
theorem ix_tup:IxR X (rIxT X.K):=by
 intro value slice pins s σ H x y v u Q I rx ry h hs
 obtain ⟨p,xs,i,z,rfl,rfl,hq,he,q⟩:=h
 cases rx
 obtain ⟨t,rfl⟩:=ry
 obtain ⟨its,r,pl,hz⟩:=I.tuple hq
 obtain ⟨j,h1,h2,h3,h4,h5⟩:=atI_get he
 obtain ⟨w,ew,rw'⟩:=r.get h2
 have hl:=r.length
 have hn:=line63
 have fin:EP X pins σ Q w s:=⟨z,H,I,rw',q⟩
 exact subscriptTail_builtinR (x:=w) pl.typeIs slot_tuple_getitem.lookup
  (getItem_tuple (j:=j) (Q:=fun r s' => r = w /\ EP X pins σ Q r s') pl (by omega) (by omega) (by rw [List.size_toArray,<- hl]; exact h1) (by simpa using ew) ⟨rfl,fin⟩) hs
theorem ix_str:IxR X rIxS:=by
 intro value slice pins s σ H x y v u Q I rx ry h hs
 obtain ⟨z,i,c,rfl,rfl,hz,he,q⟩:=h
 obtain ⟨t,rfl⟩:=rx
 obtain ⟨t',rfl⟩:=ry
 obtain ⟨j,h1,h2,h3,h4,h5⟩:=atI_get he
 have hl:z.cps.toList.length = z.length:=by simp [Str.length]
 rw [hl] at h1 h4 h5
 have hn:=line63
 exact tail_any (typeIs_str s z t) slot_str_getitem.lookup (getItem_str (c:=c) (by
  have e1:decide (i < -(2 ^ 63:Int)) = false:=decide_eq_false (by omega)
  have e2:decide (i ≥ 2 ^ 63) = false:=decide_eq_false (by omega)
  rw [e1,e2,Bool.or_false]) (by rw [h1]; simpa using h2) ⟨.str ⟨#[c]⟩,H,I.tok _,⟨_,rfl⟩,q⟩) hs
def rIx (K:PySem.W.Frag):R2:=fun x y H Q => rIxL K x y H Q \/ rIxT K x y H Q \/ rIxS x y H Q
theorem ix_seq:IxR X (rIx X.K):=ix_list.or (ix_tup.or ix_str)
theorem slice_bounds (lo hi:Option Int) (n:Nat):(sliceBounds lo hi none n).1 = ((HT.sIx n 0 lo:Nat):Int) /\ (sliceBounds lo hi none n).2.1 = ((HT.sIx n n hi:Nat):Int) /\ (sliceBounds lo hi none n).2.2 = 1:=by
 refine ⟨?_,?_,rfl⟩
 ·cases lo with
  | none => simp [sliceBounds,HT.sIx]
  | some i =>
   simp only [sliceBounds,HT.sIx,Option.getD_none,show (1:Int) > 0 by decide,if_true]
   by_cases h:i < 0
   ·simp only [h,if_true] <;> omega
   ·simp only [h,if_false] <;> omega
 ·cases hi with
  | none => simp [sliceBounds,HT.sIx]
  | some i =>
   simp only [sliceBounds,HT.sIx,Option.getD_none,show (1:Int) > 0 by decide,if_true]
   by_cases h:i < 0
   ·simp only [h,if_true] <;> omega
   ·simp only [h,if_false] <;> omega
theorem slicePick_cut (its:List Value) (lo hi:Option Int):slicePick its.toArray lo hi none = ((its.drop (HT.sIx its.length 0 lo)).take (HT.sIx its.length its.length hi - HT.sIx its.length 0 lo)).toArray:=by
 obtain ⟨h1,h2,h3⟩:=slice_bounds lo hi its.toArray.size
 unfold slicePick
 rw [h1,h2,h3]
 simp only [sliceRange_one,pick_run,List.size_toArray] <;> rfl
def rSlL (K:PySem.W.Frag):V -> Option Int -> Option Int -> Hp -> VK -> Prop:=fun x lo hi H Q => ∃ a xs,x = .ref a /\ SqL K H a xs /\ ∀ p,H p = none -> Q (.ref p) (upd H p (.lst (cutV xs lo hi)))
theorem sl_list:SlR X (rSlL X.K):=by
 intro pins s σ H x v vl vu lo hi sl Q I rx hs pl pu h
 obtain ⟨a,xs,rfl,hx,q⟩:=h
 cases rx
 obtain ⟨its,r,ht,hz⟩:=I.list hx
 have hlen:=r.length
 refine ⟨"list",_,slot_list_getitem.lookup,ht.isList.typeIs,?_⟩
 refine wpAny_getItem_list_slice ht.isList hs pl pu .none (by simp) ?_ (by rw [List.size_toArray] <;> omega)
 rw [slicePick_cut,<- hlen]
 refine ⟨.ref s.heap.objs.size,_,I.laid (t':=s.toks) (o:=.lst (cutV xs lo hi)) (fun b ob q => Heap.get?_push_of_some _ q) (Nat.le_refl _) ?_,rfl,q _ (I.hok.fresh (Nat.le_refl _))⟩
 exact ⟨Nat.le_trans (cutV_length xs lo hi) hz,_,0,(r.drop (HT.sIx xs.length 0 lo)).take (HT.sIx xs.length xs.length hi - HT.sIx xs.length 0 lo),Heap.get?_push_size _ rfl⟩
def flatV:V -> Bool
 | .non => true
 | .bl _ => true
 | .int _ => true
 | .str _ => true
 | _ => false
def eqV:V -> V -> Bool
 | .non,.non => true
 | .bl a,.bl b => a == b
 | .bl a,.int b => (if a then 1 else 0) == b
 | .int a,.bl b => a == (if b then 1 else 0)
 | .int a,.int b => a == b
 | .str a,.str b => a == b
 | _,_ => false
theorem eqAt_V {A:Around} {s:Shared} {y x:V} {u v:Value} (ry:RelV y u) (rx:RelV x v) (fy:flatV y = true) (fx:flatV x = true):SeqAt.EqAt A s u v (eqV y x):=by
 cases y with
 | non =>
  cases ry
  cases x with
  | non => cases rx; exact SeqAt.EqAt.same _
  | bl b => cases rx; exact SeqAt.EqAt.none_bool b
  | int b => obtain ⟨t,rfl⟩:=rx; exact SeqAt.EqAt.none_int b t
  | str b => obtain ⟨t,rfl⟩:=rx; exact SeqAt.EqAt.none_str b t
  | _ => exact absurd (show false = true from fx) Bool.false_ne_true
 | bl a =>
  cases ry
  cases x with
  | non => cases rx; exact SeqAt.EqAt.bool_none a
  | bl b => cases rx; exact SeqAt.EqAt.bool_bool a b
  | int b => obtain ⟨t,rfl⟩:=rx; exact SeqAt.EqAt.bool_int a b t
  | str b => obtain ⟨t,rfl⟩:=rx; exact SeqAt.EqAt.bool_str a b t
  | _ => exact absurd (show false = true from fx) Bool.false_ne_true
 | int a =>
  obtain ⟨t',rfl⟩:=ry
  cases x with
  | non => cases rx; exact SeqAt.EqAt.int_none a t'
  | bl b => cases rx; exact SeqAt.EqAt.int_bool a t' b
  | int b => obtain ⟨t,rfl⟩:=rx; exact SeqAt.EqAt.int_int a t' b t
  | str b => obtain ⟨t,rfl⟩:=rx; exact SeqAt.EqAt.int_str a t' b t
  | _ => exact absurd (show false = true from fx) Bool.false_ne_true
 | str a =>
  obtain ⟨t',rfl⟩:=ry
  cases x with
  | non => cases rx; exact SeqAt.EqAt.str_none a t'
  | bl b => cases rx; exact SeqAt.EqAt.str_bool a t' b
  | int b => obtain ⟨t,rfl⟩:=rx; exact SeqAt.EqAt.str_int a t' b t
  | str b => obtain ⟨t,rfl⟩:=rx; exact SeqAt.EqAt.str_str a t' b t
  | _ => exact absurd (show false = true from fx) Bool.false_ne_true
 | _ => exact absurd (show false = true from fy) Bool.false_ne_true
def eqU (x:V) (u:Value):Bool:=match u with
 | .none => eqV .non x
 | .bool b => eqV (.bl b) x
 | .int i _ => eqV (.int i) x
 | .str z _ => eqV (.str z) x
 | _ => false
theorem eqU_of {x y:V} {u:Value} (r:RelV y u) (f:flatV y = true):eqU x u = eqV y x:=by
 cases y with
 | non => cases r; rfl
 | bl b => cases r; rfl
 | int i => obtain ⟨t,rfl⟩:=r; rfl
 | str z => obtain ⟨t,rfl⟩:=r; rfl
 | _ => exact absurd (show false = true from f) Bool.false_ne_true
theorem any_eqU {x:V}:∀ {xs:List V} {us:List Value},Vals xs us -> xs.all flatV = true -> us.any (eqU x) = xs.any fun y => eqV y x
 | _,_,.nil,_ => rfl
 | y :: xs,u :: us,.cons r t,f => by
  rw [List.all_cons,Bool.and_eq_true] at f
  rw [List.any_cons,List.any_cons,eqU_of r f.1,any_eqU t f.2]
theorem mem_eqAt {A:Around} {s:Shared} {x:V} {v:Value} (rx:RelV x v) (fx:flatV x = true):∀ {xs:List V} {us:List Value},Vals xs us -> xs.all flatV = true -> ∀ u ∈ us,SeqAt.EqAt A s u v (eqU x u)
 | _,_,.nil,_ => fun u hu => by cases hu
 | y :: xs,u :: us,.cons r t,f => fun u' hu => by
  rw [List.all_cons,Bool.and_eq_true] at f
  rcases List.mem_cons.mp hu with rfl | hu
  ·rw [eqU_of r f.1]; exact eqAt_V r rx f.1 fx
  ·exact mem_eqAt rx fx t f.2 u' hu
def inV (x:V) (xs:List V):Bool:=xs.any fun y => eqV y x
def rIn (K:PySem.W.Frag) (neg:Bool):R2:=fun x y H Q => ∃ p xs,y = .ref p /\ (SqL K H p xs \/ SqT K H p xs) /\ flatV x = true /\ xs.all flatV = true /\ Q (.bl (if neg then !inV x xs else inV x xs)) H
theorem op_in_seq:OpR X (compareOp .In) (rIn X.K false):=by
 intro pins s σ H x y v u Q I rx ry h
 obtain ⟨p,xs,rfl,hq,fx,fs,q⟩:=h
 cases ry
 rcases hq with hq | hq
 ·obtain ⟨its,r,pl,hz⟩:=I.list hq
  refine SeqAt.in_listAt (eqU x) pl.isList (fun w hw => mem_eqAt rx fx r fs w (by simpa using hw)) ⟨.bl _,H,I,rfl,?_⟩
  rw [show its.toArray.any (eqU x) = its.any (eqU x) by simp,any_eqU r fs]
  exact q
 ·obtain ⟨its,r,pl,hz⟩:=I.tuple hq
  refine SeqAt.in_tupleAt (eqU x) pl (fun w hw => mem_eqAt rx fx r fs w (by simpa using hw)) ⟨.bl _,H,I,rfl,?_⟩
  rw [show its.toArray.any (eqU x) = its.any (eqU x) by simp,any_eqU r fs]
  exact q
theorem op_notIn_seq:OpR X (compareOp .NotIn) (rIn X.K true):=by
 intro pins s σ H x y v u Q I rx ry h
 obtain ⟨p,xs,rfl,hq,fx,fs,q⟩:=h
 cases ry
 rcases hq with hq | hq
 ·obtain ⟨its,r,pl,hz⟩:=I.list hq
  refine SeqAt.notIn_listAt (eqU x) pl.isList (fun w hw => mem_eqAt rx fx r fs w (by simpa using hw)) ⟨.bl _,H,I,rfl,?_⟩
  rw [show its.toArray.any (eqU x) = its.any (eqU x) by simp,any_eqU r fs]
  exact q
 ·obtain ⟨its,r,pl,hz⟩:=I.tuple hq
  refine SeqAt.notIn_tupleAt (eqU x) pl (fun w hw => mem_eqAt rx fx r fs w (by simpa using hw)) ⟨.bl _,H,I,rfl,?_⟩
  rw [show its.toArray.any (eqU x) = its.any (eqU x) by simp,any_eqU r fs]
  exact q
theorem call_len_seq : CallR X (.builtin "len") (fun xs H Q => ∃ p ys, xs = [.ref p] /\ (SqL X.K H p ys \/ SqT X.K H p ys) /\ Q (.int ys.length) H) := by
 intro pins s σ H xs us Q I r h
 obtain ⟨p,ys,rfl,hq,q⟩:=h
 obtain ⟨u,rfl,rx⟩:=vals1 r
 cases rx
 have hn:=line63
 rcases hq with hq | hq
 ·obtain ⟨its,r',pl,hz⟩:=I.list hq
  have hlen:=r'.length
  exact Calls.call_len_list pl.isList (by simp only [List.size_toArray] <;> omega) ⟨.int ys.length,H,I.tok _,⟨s.toks + 1,by rw [List.size_toArray,hlen]⟩,q⟩
 ·obtain ⟨its,r',pl,hz⟩:=I.tuple hq
  have hlen:=r'.length
  exact len_tuple pl (by simp only [List.size_toArray] <;> omega) ⟨.int ys.length,H,I.tok _,⟨s.toks + 1,by rw [List.size_toArray,hlen]⟩,q⟩
theorem call_len_str : CallR X (.builtin "len") (fun xs H Q => ∃ z, xs = [.str z] /\ z.length <= sizeLine /\ Q (.int z.length) H) := by
 intro pins s σ H xs us Q I r h
 obtain ⟨z,rfl,hz,q⟩:=h
 obtain ⟨u,rfl,t,rfl⟩:=vals1 r
 have hn:=line63
 exact len_str (by omega) ⟨.int z.length,H,I.tok _,⟨_,rfl⟩,q⟩
theorem CallR.or {f:Value} {r r':List V -> Hp -> VK -> Prop} (h:CallR X f r) (h':CallR X f r'):CallR X f (fun xs H Q => r xs H Q \/ r' xs H Q):=by
 intro pins s σ H xs us Q I rs q
 rcases q with q | q
 ·exact h pins s σ H xs us Q I rs q
 ·exact h' pins s σ H xs us Q I rs q
def tyV (K:PySem.W.Frag) (T:String) (x:V) (H:Hp):Prop:=match x with
 | .str _ => T = "str"
 | .int _ => T = "int"
 | .ref p => (T = "list" /\ ∃ xs, SqL K H p xs) \/ (T = "tuple" /\ ∃ o, K.lookup p = some o /\ o.cls = .type "tuple" /\ o.dict = none) \/
   (T = "dict" /\ ((∃ kvs, H p = some (.dK kvs)) \/ ∃ kvs, H p = some (.dT kvs))) \/ (T = "set" /\ ∃ S n, H p = some (.set S n))
 | _ => False
theorem tyV_is {pins:List (Addr × Obj)} {σ:St} {H:Hp} {s:Shared} {T:String} {x:V} {v:Value} (I:Inv X pins σ H s) (r:RelV x v) (ty:tyV X.K T x H) :
  s.TypeIs v T /\ ∀ a,v = .ref a -> ∃ ob,s.heap.get? a = some ob /\ ob.dict = none:=by
 cases x with
 | str z =>
  obtain ⟨t,rfl⟩:=r
  cases (show T = "str" from ty)
  exact ⟨typeIs_str s z t,fun _ e => nomatch e⟩
 | int i =>
  obtain ⟨t,rfl⟩:=r
  cases (show T = "int" from ty)
  exact ⟨typeIs_int s i t,fun _ e => nomatch e⟩
 | ref p =>
  cases r
  rcases ty with ⟨rfl,xs,hq⟩ | ⟨rfl,o,hk,hc,hd⟩ | ⟨rfl,hk⟩ | ⟨rfl,S,n,hk⟩
  ·obtain ⟨its,_,pl,_⟩:=I.list hq
   refine ⟨pl.isList.typeIs,fun a e => ?_⟩
   cases e
   obtain ⟨o,n,e,c,hd,_⟩:=pl
   exact ⟨o,e,hd⟩
  ·refine ⟨⟨o,I.kIn p o hk,hc⟩,fun a e => ?_⟩
   cases e
   exact ⟨o,I.kIn _ o hk,hd⟩
  ·have z:∃ o,s.heap.get? p = some o /\ o.ExactDict:=by
    rcases hk with ⟨kvs,hk⟩ | ⟨kvs,hk⟩
    ·obtain ⟨_,_,_,_,o,_,_,e,ex,_⟩:=I.hok p _ hk
     exact ⟨o,e,ex⟩
    ·obtain ⟨_,_,_,_,o,_,_,e,ex,_⟩:=I.hok p _ hk
     exact ⟨o,e,ex⟩
   obtain ⟨o,e,ex⟩:=z
   refine ⟨⟨o,e,ex.1⟩,fun a e2 => ?_⟩
   cases e2
   exact ⟨o,e,ex.2.1⟩
  ·obtain ⟨o,_,_,_,e,ex,_⟩:=I.hok p _ hk
   refine ⟨⟨o,e,ex.1⟩,fun a e2 => ?_⟩
   cases e2
   exact ⟨o,e,ex.2.1⟩
 | _ => exact False.elim ty
def tBM0 (K:PySem.W.Frag) (T:String) (r:V -> List V -> Hp -> VK -> Prop) (to:TE):TE:=fun σ H Q => to σ H fun x H1 => tyV K T x H1 /\ r x [] H1 Q
def tBM (K:PySem.W.Frag) (T:String) (r:V -> List V -> Hp -> VK -> Prop) (to:TE) (t:TA):TE:=fun σ H Q => to σ H fun x H1 => tyV K T x H1 /\ t σ H1 fun xs H2 => r x xs H2 Q
variable {o e:Expr} {es:List Expr} {to:TE} {t:TA} {name:Str} {apos cpos:Pos} {T id:String} {r:V -> List V -> Hp -> VK -> Prop}
theorem pe_bm0 (pa:PlainAttrs T) (slot:Slot T name id) (hty:typeOf (.builtin id) = pure (.type "method_descriptor")) (hm:MtR X id r) (ho:PE X o to)
  (hbase:attributeBase o name X.env (eval o X.env) = eval o X.env:=by rfl) (hline:(apos.endLine == cpos.line) = true:=by rfl):PE X (.Call (.Attribute o name apos) [] [] cpos) (tBM0 X.K T r to):=by
 intro pins s σ H Q I h
 refine wpAny_Call_method0_late hbase hline (thn (ho pins s σ H _ I h) fun v s1 ⟨x,H1,I1,r1,ty,q1⟩ => ?_)
 obtain ⟨h1,h2⟩:=tyV_is I1 r1 ty
 exact ⟨T,id,pa,slot,hty,h1,h2,Calls.callWith_builtin rfl (PySem.evalArgs_none (hm pins s1 σ H1 x [] v [] Q I1 r1 .nil q1))⟩
theorem pe_bm (pa:PlainAttrs T) (slot:Slot T name id) (hty:typeOf (.builtin id) = pure (.type "method_descriptor")) (hm:MtR X id r) (ho:PE X o to) (ha:PA X (e :: es) t)
  (hbase:attributeBase o name X.env (eval o X.env) = eval o X.env:=by rfl)
  (hfew:((backTo cpos (starEach (e :: es) X.env)).all (fun x => !x.1) && (backToKw cpos (keywordEach [] X.env)).all (fun x => x.1.isSome)
   && decide ((e :: es).length + ([]:List Keyword).length + (if ([]:List Keyword).isEmpty then 0 else 1) < 30)) = true:=by rfl)
  (hline:(apos.endLine == cpos.line) = true:=by rfl) (hs:starEach (e :: es) X.env = (false,eval e X.env) :: starEach es X.env:=by rfl) (hplain:(backTo cpos (starEach es X.env)).any (·.1) = false:=by rfl) :
  PE X (.Call (.Attribute o name apos) (e :: es) [] cpos) (tBM X.K T r to t):=by
 intro pins s σ H Q I h
 refine wpAny_Call_method_late hbase hfew hline rfl (thn (ho pins s σ H _ I h) fun v s1 ⟨x,H1,I1,r1,ty,q1⟩ => ?_)
 obtain ⟨h1,h2⟩:=tyV_is I1 r1 ty
 refine ⟨T,id,pa,slot,hty,h1,h2,?_⟩
 have hA:=ha cpos pins s1 σ H1 _ I1 q1
 rw [hs] at hA ⊢
 refine Calls.callWith_builtin (by show (false || (backTo cpos (starEach es X.env)).any (·.1)) = false; rw [hplain] <;> rfl) (Calls.evalArgs_plain ?_)
 exact thn hA fun us s2 ⟨vs,H2,I2,r2,q2⟩ => hm pins s2 σ H2 x vs v us Q I2 r1 r2 q2
end
end L2
namespace L2
open PySem PySem.Spec PyProof.Rows
def MtM (X:Cx) (id:String) (r:V -> List V -> Hp -> VK -> Prop):Prop :=
 ∀ (pins:List (Addr × Obj)) (s:Shared) (σ:St) (H:Hp) (x:V) (xs:List V) (v:Value) (us:List Value) (Q:VK),Inv X pins σ H s -> RelV x v -> Vals xs us -> r x xs H Q ->
  wpAny (model X.prog X.w) X.A (call (.builtin id) (v :: us)) (EP X pins σ Q) X.xe s
theorem Vals.one:∀ {x:V} {us:List Value},Vals [x] us -> ∃ u,us = [u] /\ RelV x u
 | _,_,.cons r .nil => ⟨_,rfl,r⟩
theorem Vals.reverse {xs:List V} {us:List Value} (h:Vals xs us):Vals xs.reverse us.reverse:=by
 induction h with
 | nil => exact .nil
 | cons r t ih => rw [List.reverse_cons,List.reverse_cons]; exact Vals.append ih (.cons r .nil)
theorem Vals.rep {xs:List V} {us:List Value} (h:Vals xs us):∀ k:Nat,Vals (List.replicate k xs).flatten (List.replicate k us).flatten
 | 0 => .nil
 | k + 1 => by
  rw [List.replicate_succ,List.replicate_succ,List.flatten_cons,List.flatten_cons]
  exact Vals.append h (Vals.rep h k)
theorem foldl_rep (its:List Value):∀ (k:Nat) (acc:List Value),
  List.foldl (fun x1 x2 => x1 ++ x2) acc.toArray (List.replicate k its.toArray) = (acc ++ (List.replicate k its).flatten).toArray
 | 0,acc => by simp
 | k + 1,acc => by
  have e:acc.toArray ++ its.toArray = (acc ++ its).toArray:=by simp
  have e2:(acc ++ its) ++ (List.replicate k its).flatten = acc ++ (List.replicate (k + 1) its).flatten:=by
   rw [List.replicate_succ,List.flatten_cons,List.append_assoc]
  rw [<- e2,<- foldl_rep its k (acc ++ its),<- e,List.replicate_succ,List.foldl_cons]
section
variable {X:Cx} {pins:List (Addr × Obj)} {σ:St} {H:Hp} {s:Shared} {l b:Addr} {xs ys zs:List V}
theorem Inv.lset {its its':List Value} {n:Nat} {f:Array Value -> Array Value} {t':Nat} (I:Inv X pins σ H s) (hH:H l = some (.lst xs))
  (e:s.heap.get? l = some { cls:=.type "list",data:=.seq its.toArray n }) (hf:f its.toArray = its'.toArray) (hv:Vals ys its') (hz:ys.length <= sizeLine) :
  Inv X pins σ (upd H l (.lst ys)) { s with heap:=s.heap.update l (Obj.mapSeq f),toks:=t' }:=by
 have q:=PySem.IsL.update e f
 rw [hf] at q
 refine I.write (x:=l) (e:=l) (by rw [hH]; exact trivial) (.inl rfl) (fun b' u hb hu => (Heap.get?_update_other s.heap (Obj.mapSeq f) (Ne.symm hb)).trans hu) ⟨_,q⟩ ?_
 exact ⟨hz,its',_,hv,q⟩
theorem Inv.lnew {its:List Value} {t':Nat} (I:Inv X pins σ H s) (hv:Vals ys its) (hz:ys.length <= sizeLine) :
  Inv X pins σ (upd H s.heap.objs.size (.lst ys)) { s with heap:=s.heap.push { cls:=.type "list",data:=.seq its.toArray },toks:=t' } :=
 I.laid (fun _ _ q => Heap.get?_push_of_some _ q) (Nat.le_refl _) ⟨hz,its,0,hv,Heap.get?_push_size _ rfl⟩
theorem Inv.fresh (I:Inv X pins σ H s):H s.heap.objs.size = none:=I.hok.fresh (Nat.le_refl _)
theorem Inv.lstM (I : Inv X pins σ H s) (hH : H l = some (.lst xs)) : xs.length <= sizeLine /\ ∃ (its : List Value) (n : Nat), Vals xs its /\ xs.length = its.length /\ s.heap.get? l = some { cls := .type "list", data := .seq its.toArray n } := by
 obtain ⟨z,its,n,r,e⟩:=I.hok l _ hH
 exact ⟨z,its,n,r,r.length,e⟩
theorem notLongL {n:Nat} (h:n <= sizeLine):Builtin.List.listTooLong n = false:=by
 unfold Builtin.List.listTooLong
 exact decide_eq_false (by omega)
end
section
variable {X:Cx}
def rAppend:V -> List V -> Hp -> VK -> Prop:=fun x vs H Q => ∃ l xs y,x = .ref l /\ vs = [y] /\ H l = some (.lst xs) /\ xs.length < sizeLine /\ Q .non (upd H l (.lst (xs ++ [y])))
theorem mt_append:MtM X "list.append" rAppend:=by
 intro pins s σ H x vs v us Q I rx rv h
 obtain ⟨l,xs,y,rfl,rfl,hH,hz,q⟩:=h
 cases rx
 obtain ⟨u,rfl,ru⟩:=rv.one
 obtain ⟨z,its,n,r,hl,e⟩:=I.lstM hH
 refine call_meets F.slot_list_append ⟨_,e,rfl⟩ F.entry_list_append (F.args_list_append_2 _ _) (PySem.list_append l its.toArray n u (by rw [List.size_toArray]; omega)) ⟨e,?_⟩
 refine ⟨.non,_,I.lset (its':=its ++ [u]) hH e (by simp) (r.append (.cons ru .nil)) ?_,rfl,q⟩
 rw [List.length_append,List.length_singleton]
 omega
def rCat:R2:=fun x y H Q => ∃ l b xs zs,x = .ref l /\ y = .ref b /\ H l = some (.lst xs) /\ H b = some (.lst zs) /\ xs.length + zs.length <= sizeLine /\ ∀ p,H p = none -> Q (.ref p) (upd H p (.lst (xs ++ zs)))
theorem op_cat:OpR X (binaryOp .Add) rCat:=by
 intro pins s σ H x y v u Q I rx ry h
 obtain ⟨l,b,xs,zs,rfl,rfl,hH,hB,hz,q⟩:=h
 cases rx
 cases ry
 obtain ⟨z,its,n,r,hl,e⟩:=I.lstM hH
 obtain ⟨z2,its2,n2,r2,hl2,e2⟩:=I.lstM hB
 refine PySem.P.add_list e e2 ?_ (by rw [List.size_toArray,List.size_toArray]; omega)
 have ea:its.toArray ++ its2.toArray = (its ++ its2).toArray:=by simp
 rw [ea]
 exact ⟨.ref _,_,I.lnew (t':=s.toks) (r.append r2) (by rw [List.length_append]; omega),rfl,q _ I.fresh⟩
def rRep:R2:=fun x y H Q => ∃ l k xs,x = .ref l /\ y = .int k /\ H l = some (.lst xs) /\ -(2 ^ 63) <= k /\ k < 2 ^ 63 /\ xs.length * k.toNat <= sizeLine /\
 ∀ p,H p = none -> Q (.ref p) (upd H p (.lst (List.replicate k.toNat xs).flatten))
theorem len_rep {α:Type} (xs:List α) (k:Nat):(List.replicate k xs).flatten.length = k * xs.length:=by
 induction k with
 | zero => simp
 | succ k ih => rw [List.replicate_succ,List.flatten_cons,List.length_append,ih,Nat.succ_mul,Nat.add_comm]
theorem op_rep:OpR X (binaryOp .Mult) rRep:=by
 intro pins s σ H x y v u Q I rx ry h
 obtain ⟨l,k,xs,rfl,rfl,hH,h1,h2,hz,q⟩:=h
 cases rx
 obtain ⟨t,rfl⟩:=ry
 obtain ⟨z,its,n,r,hl,e⟩:=I.lstM hH
 have hlen:its.toArray.size * k.toNat <= sizeLine:=by rw [List.size_toArray,<- hl]; exact hz
 have hcap:¬ its.toArray.size * k.toNat > (2 ^ 63 - 1) / 8:=by
  have:(sizeLine:Nat) <= (2 ^ 63 - 1) / 8:=by decide
  omega
 have hfit:¬ (!Builtin.List.listFitsIndex k) = true:=by
  rw [fitsIndex_both h1 h2]
  exact Bool.false_ne_true
 have hlong:¬ Builtin.List.listTooLong (its.toArray.size * k.toNat) = true:=by
  rw [notLongL hlen]
  exact Bool.false_ne_true
 have hnew:List.foldl (fun x1 x2 => x1 ++ x2) #[] (List.replicate (if its.toArray.isEmpty = true then 0 else k.toNat) its.toArray) = (List.replicate k.toNat its).flatten.toArray:=by
  have f0:∀ m:Nat,List.foldl (fun x1 x2 => x1 ++ x2) #[] (List.replicate m its.toArray) = (List.replicate m its).flatten.toArray:=fun m => by
   have:=foldl_rep its m []
   rw [List.nil_append] at this
   exact this
  rw [f0]
  cases its with
  | nil => simp
  | cons a r' => rw [if_neg (by simp)]
 refine wpAny_binaryOp_repeat_ref (T:="list") (U:="int") (by decide) ⟨_,e,rfl⟩ (fun s' => typeIs_int s' k t) noFill_list_mul F.fills_int_mul F.slot_int_rmul repeat_list F.slot_int_index.lookup
  (call_meets F.slot_int_rmul (typeIs_int s k t) F.entry_int_rmul (F.args_int_rmul_2 _ _) (int___rmul___int_list k t l its.toArray n)
   ⟨e,rfl,⟨_,e,rfl⟩,call_meets F.slot_list_mul ⟨_,e,rfl⟩ F.entry_list_mul (F.args_list_mul_2 _ _) (AutoListH.list___mul___list_int_3 l its.toArray n k t hfit hcap hlong) ⟨e,?_⟩⟩)
 rw [hnew]
 exact ⟨.ref _,_,I.lnew (t':=s.toks) (r.rep k.toNat) (by rw [len_rep,Nat.mul_comm]; exact hz),rfl,q _ I.fresh⟩
end
section
variable {prog:Program} {w:World} {A:Around} {E:Value -> Shared -> Prop} {s:Shared}
set_option maxRecDepth 100000 in
end
section
variable {X:Cx}
end
end L2
namespace L2
open PySem PySem.Spec PyProof.Rows
section
variable {κ:Type} [DecidableEq κ]
end
theorem kV_is {P:Program} {w:World} {k:Key} {u:Value} (r:RelV (kV k) u):(mixKind P w).is k u = true:=by
 cases k with
 | inl i => obtain ⟨t,e⟩:=(show ∃ t,u = Value.int i t from r); subst e; exact mixKind_int P w i t
 | inr x => obtain ⟨t,e⟩:=(show ∃ t,u = Value.str x t from r); subst e; exact mixKind_str P w x t
abbrev KT (H:Hp):List (List Key × V) -> List (List Key × Addr × Value) -> Prop:=Paired fun p q => p.1 = q.1 /\ H q.2.1 = some (.tup (p.1.map kV)) /\ RelV p.2 q.2.2
section
variable {P:Program} {w:World} {H:Hp} {h:Heap} {a:Addr}
end
section
variable {X:Cx} {pins:List (Addr × Obj)} {σ:St} {H:Hp} {s:Shared} {a:Addr} {y v:V} {u r:Value} {o:Option V} {A:Around} {E:Value -> Shared -> Prop}
theorem Inv.big (I:Inv X pins σ H s):sysModules < s.heap.objs.size:=by
 have h:mainGlobals < s.heap.objs.size:=(I.mod.glob.keeps I.bk).lt
 exact Nat.lt_trans (by decide) h
end
section
variable {X:Cx} {pins:List (Addr × Obj)} {σ:St} {H:Hp} {s:Shared} {a:Addr} {kvs:List (Key × V)} {k:Key} {u:Value} {A:Around} {E:Value -> Shared -> Prop}
end
def NoSl (i:Expr):Prop:=∀ ov iv,subscripted i false ov iv = operate [ov,iv] (getItem ov iv)
theorem subD_of {prog:Program} {w:World} {A:Around} {E:Value -> Shared -> Prop} {s:Shared} {env:Env} {value slice:Expr} {pos:Pos} {T id:String} {Q:Value -> Shared -> Prop}
  (hl:typeLookup (.type T) "__getitem__" = pure (some (.builtin id))) (hs:NoSl slice)
  (h:wpAny (model prog w) A (eval value env) (fun o s₁ => wpAny (model prog w) A (eval slice env) (fun i s₂ => s₂.TypeIs o T /\ wpAny (model prog w) A (getItem o i) Q E s₂) E s₁) E s) :
  wpAny (model prog w) A (eval (.Subscript value slice pos) env) Q E s:=by
 refine Subscript_ (wpAny_mono h (fun o s₁ h₁ => wpAny_mono h₁ (fun i s₂ h₂ => ?_) fun _ _ x => x) fun _ _ x => x)
 obtain ⟨hT,h₂⟩:=h₂
 unfold subscriptTail
 refine wpAny_bind ?_
 rw [getitemInPython_of_ne hT.not_modules]
 refine wpAny_bind (wpAny_specialOf hT hl ?_)
 have fin:wpAny (model prog w) A (subscripted slice false o i) (fun r s₃ => wpAny (model prog w) A (letTemporaryGo value o r >>= fun _ => pure r) Q E s₃) E s₂:=by
  rw [hs o i]
  exact wpAny_operating (wpAny_mono h₂ (fun r s₃ h₃ => wpAny_bind (wpAny_letTemporaryGo (wpAny_pure h₃))) fun _ _ x => x)
 first
  | exact wpAny_pure (wpAny_bind fin)
  | exact wpAny_bind (wpAny_pure (wpAny_bind fin))
  | exact wpAny_bind fin
section
variable {X:Cx} {o i e value:Expr} {pos pos' tpos:Pos} {td ty tv:TE}
end
theorem dk_empty {P:Program} {w:World} {H:Hp} (h:Heap) (hb:sysModules < h.objs.size):ObjOk P w H (h.push { cls:=.type "dict",data:=.dict #[] }) h.objs.size (.dK []) :=
 ⟨Nat.zero_le _,beq_eq_false_iff_ne.mpr (Ne.symm (Nat.ne_of_lt hb)),[],.nil,Heap.DictOf.new h⟩
def tDNewK:TE:=fun _ H Q => ∀ p,H p = none -> Q (.ref p) (upd H p (.dK []))
section
variable {X:Cx} {pos:Pos}
theorem pe_dnewK:PE X (.Dict [] [] pos) tDNewK:=fun pins s σ H Q I h =>
 wpAny_Dict_empty ⟨.ref s.heap.objs.size,_,I.laid (a:=s.heap.objs.size) (o:=.dK []) (t':=s.toks) (fun _ _ q => Heap.get?_push_of_some _ q) (Nat.le_refl _) (dk_empty s.heap I.big),rfl,h _ (I.hok.fresh (Nat.le_refl _))⟩
end
abbrev VV:List (V × V) -> List (Value × Value) -> Prop:=Paired fun p q => RelV p.1 q.1 /\ RelV p.2 q.2
section
variable {X:Cx} {pins:List (Addr × Obj)} {σ:St} {H:Hp} {s:Shared} {a:Addr} {y d:V} {u r:Value} {o:Option V} {A:Around} {E:Value -> Shared -> Prop}
end
section
variable {X:Cx} {o e f:Expr} {apos cpos:Pos} {td ty tx:TE}
end
section
variable {X:Cx} {pins:List (Addr × Obj)} {σ:St} {H:Hp} {s:Shared} {a:Addr} {kvs:List (Key × V)} {A:Around} {E:Value -> Shared -> Prop}
end
section
variable {X:Cx} {pins:List (Addr × Obj)} {σ:St} {H:Hp} {s:Shared} {a:Addr} {y:V} {u:Value} {A:Around} {E:Value -> Shared -> Prop}
end
end L2
namespace Att
open PySem PySem.W PySem.Calls PyProof.Rows
theorem ints_of_wellAll {P:Params} {h:Heap}:∀ (ns:List Int) (vs:List Value),WellAll P h vs (ns.map WData.int) -> IntsAre vs ns:=by
 intro ns
 induction ns with
 | nil =>
  intro vs w
  rw [List.map_nil] at w
  cases w
  exact .nil
 | cons n ns ih =>
  intro vs w
  rw [List.map_cons] at w
  cases w with
  | cons a b =>
   cases a
   exact .cons _ _ (ih _ b)
theorem script_of {l:OpenLaw} {n:Nat} (hn:l.most = some n) {P:Params} {h:Heap} {args:List WData} {vals:List Value}
  (hpre:l.row.toRowW.claim.pre args = true) (hwl:WellAll P h vals args) :
  ∃ a vs ns, vals = [Value.ref a] /\ args = [WData.list (ns.map WData.int)] /\ h.get? a = some { cls := .type "list", data := .seq vs.toArray } /\ IntsAre vs ns /\ ns.length <= n := by
 have hsh:WShape.hasAll [] args [.list .int] = true:=(pre_splitW hpre).1
 have hc:l.pre.holds [] { args:=args } = true:=(pre_splitW hpre).2
 obtain ⟨d,r,rfl,h1,h2⟩:=hasAllW_cons hsh
 obtain rfl:=hasAllW_nil h2
 obtain ⟨xs,rfl,h3⟩:=hasW_list h1
 obtain ⟨ns,rfl⟩:=items_int h3
 have hlen:ns.length <= n:=by
  unfold OpenLaw.pre at hc
  have h4:(WTm.not (.lt (.lit (.int (n:Int))) (.len (.arg 0)))).holds [] { args:=[.list (ns.map .int)] } = true:=by
   have h4:=(holds_andW hc).1
   rw [hn] at h4
   exact h4
  have h5:=condW_of h4 (w_not (w_lt w_lit (w_len_list (w_arg rfl))))
  rw [List.length_map] at h5
  refine Nat.le_of_not_lt fun q => ?_
  have q':(n:Int) < ((ns.length:Nat):Int):=by omega
  first
   | (rw [decide_eq_true q'] at h5; exact absurd h5 (by decide))
   | (simp at h5; omega)
 cases hwl with
 | cons w1 w2 =>
  cases w2
  cases w1 with
  | list ho hall => exact ⟨_,_,ns,rfl,rfl,ho,ints_of_wellAll ns _ hall,hlen⟩
theorem post_true (l:OpenLaw) (args:List WData):l.row.toRowW.claim.post args (.bool true) args = true :=
 postW_of (r:=l.row.toRowW) (X:=(true == true))
  (show WShape.has [] (.bool true) .bool = true by first | rfl | decide | simp [WShape.has,WShape.arms,WShape.armsAll])
  (show (WTm.eq .res (.lit (.bool true))).value [] { args:=args,res:=some (.bool true),after:=args } = some (.bool (true == true)) from w_eq_bool (w_res rfl) w_lit) rfl
theorem attach_call {l:OpenLaw} {n:Nat} {q:Program} {loose:List Str} {XP:(Str -> Option Value) -> Heap -> Prop} {YP:World -> Heap -> Prop} {d:DefRec}
  (hn:l.most = some n) (hdf:d.params.defaults = [])
  (call:∀ (w:World) (s₀ s₁:Shared) (mg mb:Str -> Option Value) (fa:Addr) (o:Obj) (pm cd doc:Value) (a:Addr) (vs:List Value) (ns:List Int),
   Ground q loose [] XP w s₀ mg mb s₁.heap -> YP w s₁.heap ->
   s₁.heap.get? fa = some o -> o.data = .func (docDef d.name d.params d.body d.scope pm cd doc) -> s₁.heap.CodeRec cd d.name -> mg d.name = some (.ref fa) ->
   s₁.heap.get? a = some { cls:=.type "list",data:=.seq vs.toArray } -> IntsAre vs ns -> ns.length <= n -> s₁.gens = #[] ->
   codeAny (model l.prog w) callerA (.call (.ref fa) ⟨[.ref a],[]⟩) (fun r s' => r = .ok (.ret (.bool true)) /\ OldK s₁.heap s'.heap /\ s'.os = s₁.os /\ AllBare s'.gens) s₁) :
  WalkO q loose XP YP l.row.toRowW d [] (fun f vs => PySem.call f vs):=by
 intro w s₀ s₁ mg mb G Y fa o pm cd doc dV kV ho hd hcd hD hmg hg args vals as hpre hlay hrd hwl hlo
 obtain rfl:dV = .none:=Dflts.none hD hdf
 obtain rfl:kV = .none:=Dflts.noKw hD
 obtain ⟨a,vs,ns,rfl,rfl,hobj,hints,hlen⟩:=script_of hn hpre hwl
 refine enter_call (codeAny_mono (call w s₀ s₁ mg mb fa o pm cd doc a vs ns G Y ho (fd_plain hd) hcd hmg hobj hints hlen hg) fun r s' hq => ?_)
 obtain ⟨rfl,h2,h3,h4⟩:=hq
 exact ⟨.inl ⟨.bool true,.bool true,[],rfl,fun _ => rfl,.bool true,post_true l _,fun _ => ⟨List.Pairwise.nil,fun _ hm => (nomatch hm)⟩⟩,h2,h3,h4⟩
section
variable {prog:Program} {w:World} {A:Around} {E:Value -> Shared -> Prop} {s:Shared} {K:Frag}
end
end Att
namespace L2
open PySem PySem.Spec PyProof.Rows
theorem vals_ints:∀ {vs:List Value} {ns:List Int},IntsAre vs ns -> Vals (ns.map V.int) vs
 | _,_,.nil => .nil
 | _,_,.cons n t h => .cons ⟨t,rfl⟩ (vals_ints h)
def Only (H:Hp):Prop:=∀ b,H b = none \/ ∃ o xs,H b = some (.frz o (.lst xs))
theorem law_call {P:Program} {w:World} {K:PySem.W.Frag} {mg mb:Str -> Option Value} {CX:CXT} {k:Nat} {fa a:Addr} {fd:FuncData} {x:Str} {sp:Sp} {s₁:Shared} {vs:List Value} {ns:List Int}
  (KX:K.In s₁.heap) (hns:s₁.heap.Ns mainGlobals mg) (hb:s₁.heap.Ns builtinsNs mb) (hbb:∀ x:Str,x ≠ "__name__" -> mb x = bootBuiltins x) (hlim:s₁.heap.NoLimit) (hg:s₁.gens = #[])
  (ha:s₁.heap.get? a = some { cls:=.type "list",data:=.seq vs.toArray }) (hi:IntsAre vs ns) (hl:ns.length <= sizeLine) (hr:Room k callerA)
  (F:∀ base:Heap,K.In base -> base.Ns mainGlobals mg -> FnOk P w K mg base CX k fa fd [x] sp) (hbind:∀ (s:Shared) (u:Value),BindsTo s fd ⟨[u],[]⟩ [(x,u)])
  (hsp:∀ H:Hp,Only H -> SqL K H a (ns.map V.int) -> sp [.ref a] H (fun v _ => v = .bl true) fun _ _ _ => False)
  (hCX:∀ H e s',CX [] H s₁ (fun _ _ _ => False) e s' -> False) :
  codeAny (model P w) callerA (.call (.ref fa) ⟨[.ref a],[]⟩) (fun r s' => r = .ok (.ret (.bool true)) /\ OldK s₁.heap s'.heap /\ s'.os = s₁.os /\ AllBare s'.gens) s₁:=by
 have rv:=vals_ints hi
 have lenV:=hi.length
 -- from an abstract heap in which nothing but the script may be tracked
 have core:∀ H:Hp,Only H -> SqL K H a (ns.map V.int) -> HOk P w H s₁.heap -> (∀ b,H b ≠ none -> b = a) -> (H a ≠ none -> K.lookup a = none) ->
   codeAny (model P w) callerA (.call (.ref fa) ⟨[.ref a],[]⟩) (fun r s' => r = .ok (.ret (.bool true)) /\ OldK s₁.heap s'.heap /\ s'.os = s₁.os /\ AllBare s'.gens) s₁:=by
  intro H hO hS hok hA hK
  have base_of:∀ {b:Addr} {o:Obj},s₁.heap.get? b = some o -> H b = none -> (hidT s₁.heap H).get? b = some o:=fun e n => hidT_get e n
  have noA:∀ {b:Addr} {o:Obj} {es:Array DictEntry} {ep:Nat},s₁.heap.get? b = some o -> o.data = .dict es ep -> H b = none:=fun {b o es ep} e d => by
   cases q:H b with
   | none => rfl
   | some u =>
    have e':b = a:=hA b (by rw [q]; simp)
    subst e'
    rw [ha] at e; cases e
    have d':Data.seq vs.toArray _ = Data.dict es ep:=d
    cases d'
  have nsK:∀ {b:Addr} {m:Str -> Option Value},s₁.heap.Ns b m -> (hidT s₁.heap H).Ns b m:=fun {b m} ⟨o,es,ep,e,d,r⟩ => ⟨o,es,ep,base_of e (noA e d),d,r⟩
  have hKb:K.In (hidT s₁.heap H):=fun b o e => base_of (KX b o e) (by
   cases q:H b with
   | none => rfl
   | some u =>
    have e':b = a:=hA b (by rw [q]; simp)
    subst e'
    rw [hK (by rw [q]; simp)] at e; cases e)
  have hM:Mod K mg (hidT s₁.heap H):=⟨hKb,nsK hns,⟨mb,nsK hb,hbb⟩,let ⟨mc,h1,h2⟩:=hlim; ⟨mc,nsK h1,h2⟩⟩
  have e0:Env0 P w K mg (hidT s₁.heap H) callerA [] s₁ H:=⟨rfl,hM,fun b o e => of_hidT e,Nat.le_of_eq (hidT_size _ _),trivial,fun b hb => absurd (show b ∈ ([]:List Addr) from hb) (by simp),hok,.of_eq hg⟩
  refine codeAny_mono ((F _ hKb (nsK hns)).run callerA [] s₁ H ⟨[.ref a],[]⟩ [.ref a] [.ref a] _ _ hr e0 (hbind s₁ (.ref a)) (.cons rfl .nil) (hsp H hO hS)) fun r s' h => ?_
  cases r with
  | error e => exact (hCX H e s' h).elim
  | ok fl =>
   cases fl with
   | next => exact False.elim h
   | brk => exact False.elim h
   | cont => exact False.elim h
   | ret u =>
    obtain ⟨v,H',os,bare,un,hok',r',q⟩:=h
    have q':v = .bl true:=q
    subst q'
    obtain rfl:u = Value.bool true:=r'
    refine ⟨rfl,OldK.of_keep fun b o e => ?_,os,bare⟩
    cases q:H b with
    | none => exact un.keep b o e q (by intro z; exact absurd (show b ∈ ([]:List Addr) from z) (by simp)) (by simp)
    | some u =>
     rcases hO b with z | ⟨ob,xs,z⟩
     ·rw [q] at z; cases z
     ·have z2:=un.frzs b ob _ z
      obtain ⟨e1,_⟩:=hok b _ z
      obtain ⟨e2,_⟩:=hok' b _ z2
      rw [e] at e1; cases e1
      exact e2
 cases hk:K.lookup a with
 | some o =>
  -- the script is one of the module's own objects
  have e:=KX a o hk
  rw [ha] at e
  cases e
  refine core (fun _ => none) (fun _ => .inl rfl) (.inr ⟨_,vs.toArray,_,hk,rfl,rfl,rfl,by rw [List.size_toArray,lenV]; exact hl,by simpa using rv⟩) (fun b u z => by have z':(none:Option HO) = some u:=z; cases z') (fun b z => absurd rfl z) fun z => absurd rfl z
 | none =>
  refine core (fun b => if b = a then some (.frz { cls:=.type "list",data:=.seq vs.toArray } (.lst (ns.map V.int))) else none) (fun b => ?_) (.inl (.inr ⟨{ cls:=.type "list",data:=.seq vs.toArray },if_pos rfl⟩)) (fun b u z => ?_) (fun b z => ?_) fun _ => hk
  ·by_cases hb:b = a
   ·exact .inr ⟨_,_,if_pos hb⟩
   ·exact .inl (if_neg hb)
  ·by_cases hb:b = a
   ·have z':=(if_pos hb).symm.trans z
    cases z'
    subst hb
    exact ⟨ha,by rw [List.length_map]; exact hl,vs,_,rv,ha⟩
   ·have z':=(if_neg hb).symm.trans z
    cases z'
  ·by_cases hb:b = a
   ·exact hb
   ·exact absurd (if_neg hb) z
end L2
namespace L2
open PySem PySem.Spec PyProof.Rows
abbrev KOf {K:PySem.W.Frag} {h:Heap} (_:K.In h):PySem.W.Frag:=K
theorem walk_of {l:PySem.W.OpenLaw} {n k:Nat} {q:Program} {loose:List Str} {XP:(Str -> Option Value) -> Heap -> Prop} {YP:World -> Heap -> Prop} {d:DefRec} {K:Params -> PySem.W.Frag} {CX:World -> CXT} {sp:World -> Sp} {x:Str}
  (hn:l.most = some n) (hn2:n <= sizeLine) (hdf:d.params.defaults = []) (hr:Room k callerA)
  (hY:∀ (w:World) (h:Heap),YP w h -> (K w.params).In h)
  (F:∀ (w:World) (mg:Str -> Option Value) (fa:Addr) (h:Heap),(K w.params).In h -> h.Ns mainGlobals mg -> mg d.name = some (.ref fa) ->
   ∃ fd:FuncData,(∀ (s:Shared) (u:Value),BindsTo s fd ⟨[u],[]⟩ [(x,u)]) /\
    ∀ base:Heap,(K w.params).In base -> base.Ns mainGlobals mg -> FnOk l.prog w (K w.params) mg base (CX w) k fa fd [x] (sp w))
  (hsp:∀ (w:World) (H:Hp) (a:Addr) (ns:List Int),ns.length <= n -> Only H -> SqL (K w.params) H a (ns.map V.int) -> sp w [.ref a] H (fun v _ => v = .bl true) fun _ _ _ => False)
  (hCX:∀ (w:World) (H:Hp) (s:Shared) (e:Value) (s':Shared),CX w [] H s (fun _ _ _ => False) e s' -> False) :
  PySem.W.WalkO q loose XP YP l.row.toRowW d [] (fun f vs => PySem.call f vs):=by
 refine Att.attach_call hn hdf fun w s₀ s₁ mg mb fa o pm cd doc a vs ns G Y ho hd hcd hmg hobj hints hlen hg => ?_
 have KX:=hY w _ Y
 obtain ⟨fd,hb,hF⟩:=F w mg fa _ KX G.T.g hmg
 exact law_call KX G.T.g G.T.b G.T.builtins G.T.nolimit hg hobj hints (Nat.le_trans hlen hn2) hr hF hb (fun H hO hS => hsp w H a ns hlen hO hS) fun H e s' => hCX w H s₁ e s'
end L2
namespace L2
open PySem PySem.Spec PyProof.Rows
def inClass (s:Stmt) (j:Nat):Stmt:=match s with
 | .ClassDef _ _ _ body _ _ _ _ _ _ _ => body.getD j (.Pass ⟨0,0,0,0⟩)
 | _ => .Pass ⟨0,0,0,0⟩
def defArgs (s:Stmt):Arguments:=match s with
 | .FunctionDef _ a _ _ _ _ _ _ _ _ => a
 | _ => { posonlyargs:=[],args:=[],vararg:=none,kwonlyargs:=[],kw_defaults:=[],kwarg:=none,defaults:=[] }
def defBody (s:Stmt):List Stmt:=match s with
 | .FunctionDef _ _ b _ _ _ _ _ _ _ => b
 | _ => []
def defScope (s:Stmt):Scope:=match s with
 | .FunctionDef _ _ _ _ _ _ sc _ _ _ => sc
 | _ => { kind:=.function,names:=[],isGenerator:=false,isCoroutine:=false }
abbrev CX0:CXT:=fun _ _ _ _ _ _ => False
abbrev E0:XK:=fun _ _ _ => False
theorem pass0 {X:Cx}:Passes CX0 X E0:=fun _ _ _ _ _ _ _ h => h.elim
section
variable {P:Program} {w:World} {K:PySem.W.Frag} {mg:Str -> Option Value} {base:Heap}
end
theorem hu_of {A:Around} {k:Nat} (hr:Room k A):A.units + 1 < cLine:=Nat.lt_of_le_of_lt (Nat.add_le_add_left (by decide:1 <= 64) _) hr.units
section
variable {X:Cx}
end
section
variable {κ:Type} [DecidableEq κ]
end
end L2
namespace Iv
open PySem
def joinU (sep:List Nat):List (List Nat) -> List Nat
 | [] => []
 | [x] => x
 | x :: y :: r => x ++ sep ++ joinU sep (y :: r)
def splitU (c:Nat):List Nat -> List (List Nat)
 | [] => [[]]
 | a :: r => if a = c then [] :: splitU c r else match splitU c r with
  | [] => [[a]]
  | p :: ps => (a :: p) :: ps
theorem pickL {β:Type} (l:List β) (a:Nat):∀ k:Nat,(List.range k).filterMap (fun m => l[a + m]?) = (l.drop a).take k
 | 0 => rfl
 | k + 1 => by
  rw [List.range_succ,List.filterMap_append,pickL l a k,List.take_add_one,List.getElem?_drop]
  cases e:l[a + k]? <;> simp [e]
end Iv
namespace L2
open PySem PySem.Spec PyProof.Rows Builtin Builtin.Str
section
variable {X:Cx}
theorem slice_idx (lo hi:Option Int) (n:Nat):strSliceIndices lo hi 1 n = (List.range (HT.sIx n n hi - HT.sIx n 0 lo)).map (HT.sIx n 0 lo + ·):=by
 have cl:∀ (v:Option Int) (d:Nat),(match v with | none => ((d:Nat):Int) | some i => max 0 (min (if i < 0 then i + (n:Int) else i) (n:Int))) = ((HT.sIx n d v:Nat):Int):=fun v d => by
  cases v with
  | none => rfl
  | some i =>
   rw [<- HT.clip_eq i n d]
   simp only
   split <;> omega
 have e1:(match lo with | none => (0:Int) | some i => max 0 (min (if i < 0 then i + (n:Int) else i) (n:Int))) = ((HT.sIx n 0 lo:Nat):Int):=by
  rw [<- cl lo 0]; cases lo <;> rfl
 have c2:=cl hi n
 have key:∀ L U:Int,L = ((HT.sIx n 0 lo:Nat):Int) -> U = ((HT.sIx n n hi:Nat):Int) -> sliceRange L U 1 = (List.range (HT.sIx n n hi - HT.sIx n 0 lo)).map (HT.sIx n 0 lo + ·):=by
  rintro L U rfl rfl
  unfold sliceRange
  have e2:(if (1:Int) > 0 then (if ((HT.sIx n 0 lo:Nat):Int) < ((HT.sIx n n hi:Nat):Int) then (((HT.sIx n n hi:Nat):Int) - ((HT.sIx n 0 lo:Nat):Int) + 1 - 1) / 1 else 0) else (if ((HT.sIx n 0 lo:Nat):Int) > ((HT.sIx n n hi:Nat):Int) then (((HT.sIx n 0 lo:Nat):Int) - ((HT.sIx n n hi:Nat):Int) - 1 - 1) / (-1) else 0)).toNat = HT.sIx n n hi - HT.sIx n 0 lo:=by
   rw [if_pos (by decide)]
   split <;> omega
  simp only [e2]
  refine List.map_congr_left fun k _ => ?_
  omega
 exact key _ _ e1 c2
theorem slice_cut (x:Str) (lo hi:Option Int):(Txt.slice x lo hi).cps.toList = (x.cps.toList.drop (HT.sIx x.length 0 lo)).take (HT.sIx x.length x.length hi - HT.sIx x.length 0 lo):=by
 have hl:x.cps.toList.length = x.length:=by simp [Str.length]
 unfold Txt.slice
 split
 ·rename_i h
  rw [Bool.and_eq_true] at h
  have h:=eq_of_beq h.2
  rw [slice_idx,List.length_map,List.length_range] at h
  have a:=HT.sIx_le (n:=x.length) (d:=x.length) (Nat.le_refl _) hi
  have e1:HT.sIx x.length 0 lo = 0:=by
   by_cases hx:x.length = 0
   ·have:=HT.sIx_le (n:=x.length) (d:=0) (Nat.zero_le _) lo
    omega
   ·omega
  rw [e1,List.drop_zero,List.take_of_length_le (by omega)]
 ·rw [slice_idx,List.filterMap_map]
  show (List.filterMap (fun m => x.cps[HT.sIx x.length 0 lo + m]?) _) = _
  have e:(fun m => x.cps[HT.sIx x.length 0 lo + m]?) = fun m => x.cps.toList[HT.sIx x.length 0 lo + m]?:=by
   funext m
   exact Array.getElem?_toList.symm
  rw [e]
  exact Iv.pickL _ _ _
def rSlS:V -> Option Int -> Option Int -> Hp -> VK -> Prop:=fun x lo hi H Q => ∃ y,x = .str y /\ y.length <= sizeLine /\ Q (.str (Txt.slice y lo hi)) H
theorem sl_str:SlR X rSlS:=by
 intro pins s σ H x v vl vu lo hi sl Q I rx hs pl pu h
 obtain ⟨y,rfl,hz,q⟩:=h
 obtain ⟨t,rfl⟩:=rx
 refine ⟨"str",_,F.slot_str_getitem.lookup,typeIs_str _ _ _,?_⟩
 have fin:∀ (l u:Option (Int × Tok)),l.map (·.1) = lo -> u.map (·.1) = hi -> s.heap.IsSlice sl l u none -> wpAny (model X.prog X.w) X.A (getItem (.str y t) (.ref sl)) (EP X pins σ Q) X.xe s:=by
  rintro l u rfl rfl his
  refine wpAny_getItem_str_slice (l:=l) (u:=u) (st:=none) his rfl ?_
  exact post_val_or_str ⟨Nat.le_trans (Txt.slice_le y _ _) hz,fun t' k => ⟨.str _,H,I.kept (t':=k) fun _ _ e => e,⟨_,rfl⟩,q⟩⟩
 cases pl with
 | none => cases pu with
  | none => exact fin none none rfl rfl hs
  | int j tj => exact fin none (some (j,tj)) rfl rfl hs
 | int i ti => cases pu with
  | none => exact fin (some (i,ti)) none rfl rfl hs
  | int j tj => exact fin (some (i,ti)) (some (j,tj)) rfl rfl hs
end
end L2
namespace L2
open PySem PySem.Spec PyProof.Rows
section
variable {X:Cx}
theorem ints_get:∀ {ns:List Int} {us:List Value},Vals (ns.map V.int) us -> ∀ (i:Nat) v,us[i]? = some v -> ∃ t,v = .int (ns.getD i 0) t
 | [],us,r,i,v,e => by rw [List.map_nil] at r; cases r; simp at e
 | n :: ns,us,r,i,v,e => by
  rw [List.map_cons] at r
  cases r with
  | cons h t =>
   obtain ⟨k,rfl⟩:=h
   cases i with
   | zero => simp at e; exact ⟨k,e.symm⟩
   | succ i => simpa using ints_get t i v (by simpa using e)
theorem preSum_list:∀ (ns:List Int),preSum (fun i => ns.getD i 0) ns.length = ns.sum:=by
 have go:∀ (k:Nat) (ns:List Int),preSum (fun i => ns.getD i 0) k = (ns.take k).sum:=by
  intro k
  induction k with
  | zero => intro ns; simp [preSum]
  | succ k ih =>
   intro ns
   rw [show preSum (fun i => ns.getD i 0) (k + 1) = preSum (fun i => ns.getD i 0) k + ns.getD k 0 from rfl,ih,List.take_add_one,List.sum_append]
   cases e:ns[k]? with
   | none => simp [List.getD,e]
   | some v => simp [List.getD,e]
 intro ns
 rw [go,List.take_of_length_le (Nat.le_refl _)]
theorem call_sumL (hc : X.calm = true) : CallR X (.builtin "sum") (fun xs H Q => ∃ (a : Addr) (ns : List Int), xs = [.ref a] /\ SqL X.K H a (ns.map V.int) /\ Q (.int ns.sum) H) := by
 intro pins s σ H xs us Q I r h
 obtain ⟨a,ns,rfl,hq,q⟩:=h
 obtain ⟨u,rfl,rx⟩:=vals1 r
 cases rx
 obtain ⟨its,rr,pl,hz⟩:=I.list hq
 have hl:=pl.isList
 have hlt:a < s.heap.objs.size:=by obtain ⟨_,e,_⟩:=hl; exact Heap.lt_size e
 have hlen:=rr.length
 rw [List.length_map] at hlen
 refine call_sum_walkG (wpAny_pyIter_list hl ?_)
 refine ⟨s.heap.objs.size,[s.heap.objs.size,a],[s.heap.objs.size],its.toArray.size,_,_,fun i => ns.getD i 0,rfl,Walks.list (A:=X.A.in1) (I.ok.hd hc) _ a (Nat.ne_of_lt hlt) its.toArray,
  ⟨⟨_,Heap.get?_push_size _ rfl,rfl,rfl⟩,hl.push _⟩,fun b hb => ?_,fun i v hP => ints_get rr i v (by simpa using hP),fun h' tk t' hk => ?_⟩
 ·have sz:(s.heap.push { cls:=.type "list_iterator",data:=.fields #[.ref a,.int 0 0] }).objs.size = s.heap.objs.size + 1:=Heap.size_push ..
  rcases List.mem_cons.mp hb with rfl | hb
  ·show _ < (s.heap.push _).objs.size
   rw [Heap.size_push]; exact Nat.lt_succ_self _
  ·obtain rfl:=List.mem_singleton.mp hb
   show _ < (s.heap.push _).objs.size
   rw [Heap.size_push]; exact Nat.lt_succ_of_lt hlt
 ·have e:preSum (fun i => ns.getD i 0) its.toArray.size = ns.sum:=by
   rw [List.size_toArray,<- hlen]; exact preSum_list ns
  rw [e]
  exact ⟨.int _,H,I.kept (t':=tk) (LSm.kept_iter hk),⟨_,rfl⟩,q⟩
theorem call_maxL (hc : X.calm = true) : CallR X (.builtin "max") (fun xs H Q => ∃ (a : Addr) (ns : List Int), xs = [.ref a] /\ SqL X.K H a (ns.map V.int) /\ 0 < ns.length /\ ∀ m, m ∈ ns -> (∀ b ∈ ns, b <= m) -> Q (.int m) H) := by
 intro pins s σ H xs us Q I r h
 obtain ⟨a,ns,rfl,hq,hz0,q⟩:=h
 obtain ⟨u,rfl,rx⟩:=vals1 r
 cases rx
 obtain ⟨its,rr,pl,hz⟩:=I.list hq
 have hl:=pl.isList
 have hi:=intsAre_of rr
 obtain ⟨xs,e⟩:=hi.allInts.items
 have hns:ns = xs.toList.map (·.1):=by
  rw [<- hi.numsOf,<- nums_intItems,<- e]
 have hsz:0 < xs.size:=by
  have h3:=hz0; rw [hns,List.length_map,Array.length_toList] at h3; exact h3
 rw [e] at hl
 refine max_intList (I.ok.hd hc) hl hsz fun v h' tk hv hk => ?_
 obtain ⟨t,rfl⟩:=intItems_at hv
 obtain ⟨h1,h2⟩:=argBest_gt (numAt xs) (xs.size - 1)
 refine ⟨.int _,H,I.kept hk,⟨_,rfl⟩,q _ ?_ fun b hb => ?_⟩
 ·rw [hns,numAt_eq]; exact getD_mem (by rw [List.length_map,Array.length_toList]; omega)
 ·rw [hns] at hb
  obtain ⟨j,hj,rfl⟩:=mem_getD hb
  rw [List.length_map,Array.length_toList] at hj
  rw [<- numAt_eq]; exact h2 j (by omega)
theorem call_minL (hc : X.calm = true) : CallR X (.builtin "min") (fun xs H Q => ∃ (a : Addr) (ns : List Int), xs = [.ref a] /\ SqL X.K H a (ns.map V.int) /\ 0 < ns.length /\ ∀ m, m ∈ ns -> (∀ b ∈ ns, m <= b) -> Q (.int m) H) := by
 intro pins s σ H xs us Q I r h
 obtain ⟨a,ns,rfl,hq,hz0,q⟩:=h
 obtain ⟨u,rfl,rx⟩:=vals1 r
 cases rx
 obtain ⟨its,rr,pl,hz⟩:=I.list hq
 have hl:=pl.isList
 have hi:=intsAre_of rr
 obtain ⟨xs,e⟩:=hi.allInts.items
 have hns:ns = xs.toList.map (·.1):=by
  rw [<- hi.numsOf,<- nums_intItems,<- e]
 have hsz:0 < xs.size:=by
  have h3:=hz0; rw [hns,List.length_map,Array.length_toList] at h3; exact h3
 rw [e] at hl
 refine min_intList (I.ok.hd hc) hl hsz fun v h' tk hv hk => ?_
 obtain ⟨t,rfl⟩:=intItems_at hv
 obtain ⟨h1,h2⟩:=argBest_lt (numAt xs) (xs.size - 1)
 refine ⟨.int _,H,I.kept hk,⟨_,rfl⟩,q _ ?_ fun b hb => ?_⟩
 ·rw [hns,numAt_eq]; exact getD_mem (by rw [List.length_map,Array.length_toList]; omega)
 ·rw [hns] at hb
  obtain ⟨j,hj,rfl⟩:=mem_getD hb
  rw [List.length_map,Array.length_toList] at hj
  rw [<- numAt_eq]; exact h2 j (by omega)
end
end L2
namespace L2
open PySem
def clOf (cells:List (Str × Addr)):List (Str × NameKind) -> List (Str × Addr) -> List (Str × Addr)
 | [],cs => cs
 | (n,k) :: r,cs => clOf cells r (if (k == .free) = true then (match cells.lookup n with | some c => (n,c) :: cs | none => cs) else cs)
theorem closure_is {scope:Scope} {env:Env} (h:∀ y ∈ scope.names,y.2 = .free -> ∃ c,env.cells.lookup y.1 = some c):closureFor scope env = pure (clOf env.cells scope.names []):=by
 have all:∀ (l:List (Str × NameKind)) (cs:List (Str × Addr)),(∀ y ∈ l,y.2 = .free -> ∃ c,env.cells.lookup y.1 = some c) ->
   (forIn l cs fun (x:Str × NameKind) (r:List (Str × Addr)) => match x with | (name,kind) => if (kind == NameKind.free) = true then (do let y <- cellOf env name; pure (ForInStep.yield ((name,y) :: r))) else (pure (ForInStep.yield r):Sem _)) = (pure (clOf env.cells l cs):Sem _):=by
  intro l
  induction l with
  | nil => intro cs _; simp only [List.forIn_nil]; rfl
  | cons p r ih =>
   obtain ⟨n,k⟩:=p
   intro cs hy
   rw [List.forIn_cons]
   by_cases hk:(k == NameKind.free) = true
   ·obtain ⟨c,hc⟩:=hy (n,k) List.mem_cons_self (by simpa using hk)
    have hc:env.cells.lookup n = some c:=hc
    have e:cellOf env n = pure c:=by unfold cellOf; rw [hc]
    simp only [hk,if_true,e,pure_bind]
    rw [ih _ fun y m => hy y (List.mem_cons_of_mem _ m)]
    simp only [clOf,hk,if_true,hc]
   ·simp only [hk,Bool.false_eq_true,if_false,pure_bind]
    rw [ih _ fun y m => hy y (List.mem_cons_of_mem _ m)]
    simp only [clOf,hk,Bool.false_eq_true,if_false]
 have:=all scope.names [] h
 unfold closureFor
 simp only [bind_pure_comp] at this ⊢
 rw [this]
 rfl
theorem clOf_look {cells:List (Str × Addr)} {x:Str} {c:Addr}:∀ {l:List (Str × NameKind)} {cs:List (Str × Addr)},(clOf cells l cs).lookup x = some c -> cs.lookup x = some c \/ cells.lookup x = some c
 | [],_,h => .inl h
 | (n,k) :: r,cs,h => by
  have h:(clOf cells r (if (k == NameKind.free) = true then (match cells.lookup n with | some c => (n,c) :: cs | none => cs) else cs)).lookup x = some c:=h
  rcases clOf_look h with h1 | h1
  ·clear h
   by_cases hk:(k == NameKind.free) = true
   ·rw [if_pos hk] at h1
    cases hc:cells.lookup n with
    | none => rw [hc] at h1; exact .inl h1
    | some c' =>
     rw [hc] at h1
     have h2:List.lookup x ((n,c') :: cs) = some c:=h1
     clear h1
     rw [List.lookup_cons] at h2
     cases hx:x == n with
     | true =>
      rw [hx] at h2
      have e:=eq_of_beq hx
      subst e
      exact .inr (hc.trans h2)
     | false => rw [hx] at h2; exact .inl h2
   ·rw [if_neg hk] at h1
    exact .inl h1
  ·exact .inr h1
theorem clOf_has {cells:List (Str × Addr)} {x:Str} {c:Addr} (hc:cells.lookup x = some c):∀ {l:List (Str × NameKind)} {cs:List (Str × Addr)},((x,NameKind.free) ∈ l \/ cs.lookup x = some c) -> (clOf cells l cs).lookup x = some c
 | [],_,h => by
  rcases h with h | h
  ·cases h
  ·exact h
 | (n,k) :: r,cs,h => by
  show (clOf cells r (if (k == NameKind.free) = true then (match cells.lookup n with | some c => (n,c) :: cs | none => cs) else cs)).lookup x = some c
  refine clOf_has (l:=r) hc ?_
  rcases h with h | h
  ·rcases List.mem_cons.mp h with e | h
   ·cases e
    refine .inr ?_
    rw [if_pos (by decide),hc]
    simp [List.lookup_cons]
   ·exact .inl h
  ·refine .inr ?_
   split
   ·split
    ·rename_i c' h'
     rw [List.lookup_cons]
     split
     ·rename_i e
      have e:=eq_of_beq e
      subst e
      exact h'.symm.trans hc
     ·exact h
    ·exact h
   ·exact h
def mang (x:Str):Str:=⟨x.cps.push 33⟩
def hideN (xs N:List Str):List Str:=N.map fun y => if xs.contains y then mang y else y
theorem hide_len {xs N:List Str}:(hideN xs N).length = N.length:=by unfold hideN; rw [List.length_map]
theorem hide_get {xs N:List Str} {i:Nat} {y:Str} (h:(hideN xs N)[i]? = some y):∃ z,N[i]? = some z /\ ((z ∈ xs /\ y = mang z) \/ (z ∉ xs /\ y = z)):=by
 unfold hideN at h
 rw [List.getElem?_map,Option.map_eq_some_iff] at h
 obtain ⟨z,h1,h2⟩:=h
 refine ⟨z,h1,?_⟩
 by_cases c:xs.contains z = true
 ·rw [if_pos c] at h2
  exact .inl ⟨List.contains_iff_mem.mp c,h2.symm⟩
 ·rw [if_neg c] at h2
  exact .inr ⟨fun m => c (List.contains_iff_mem.mpr m),h2.symm⟩
def relN (outer:List (Str × NameKind)) (names:List (Str × NameKind)):List (Str × NameKind):=names.map fun (n,k) => if (k == .free && outer.lookup n == some .cell) = true then (n,.cell) else (n,k)
theorem relabel_names {scope:Scope} {env:Env} (h:env.scope.kind = .function):(relabel scope env).names = relN env.scope.names scope.names:=by
 unfold relabel relN
 refine List.map_congr_left fun p _ => ?_
 obtain ⟨n,k⟩:=p
 simp only [h,beq_self_eq_true,Bool.and_true]
 rfl
theorem relN_look {outer:List (Str × NameKind)} {x:Str}:∀ {l:List (Str × NameKind)},(relN outer l).lookup x = (l.lookup x).map fun k => if (k == .free && outer.lookup x == some .cell) = true then .cell else k
 | [] => rfl
 | (n,k) :: r => by
  have ih:=@relN_look outer x r
  show List.lookup x ((if (k == NameKind.free && outer.lookup n == some .cell) = true then (n,NameKind.cell) else (n,k)) :: relN outer r) = _
  rw [List.lookup_cons (as:=r)]
  cases hx:x == n with
  | true =>
   have e:=eq_of_beq hx
   subst e
   simp only [List.lookup_cons_self,Option.map_some]
   by_cases z:(k == NameKind.free && outer.lookup x == some .cell) = true
   ·rw [if_pos z,if_pos z,List.lookup_cons_self]
   ·rw [if_neg z,if_neg z,List.lookup_cons_self]
  | false =>
   split
   ·simp [List.lookup_cons,hx,ih]
   ·simp [List.lookup_cons,hx,ih]
theorem lookup_mem {κ β:Type} [BEq κ] [LawfulBEq κ] {l:List (κ × β)} {k:κ} {b:β} (h:l.lookup k = some b):(k,b) ∈ l:=by
 induction l with
 | nil => simp at h
 | cons p r ih =>
  obtain ⟨a,c⟩:=p
  rw [List.lookup_cons] at h
  split at h
  ·rename_i e
   have e:=eq_of_beq e
   subst e
   cases h
   exact List.mem_cons_self
  ·exact List.mem_cons_of_mem _ (ih h)
section
variable {prog:Program} {w:World} {A:Around} {R:Result -> Shared -> Prop} {s:Shared}
theorem wp_tests {E:Value -> Shared -> Prop} {env:Env} {tl:Option Expr} {Q:Bool -> Shared -> Prop} (h:match tl with | none => Q true s | some c => wpAny (model prog w) A (isTrue c env (eval c env)) Q E s) :
  wpAny (model prog w) A (forIn tl.toList true fun c r => if r = true then do let ok <- isTrue c env (eval c env); pure (ForInStep.yield ok) else pure (ForInStep.yield r)) Q E s:=by
 cases tl with
 | none => exact wpAny_tests_nil h
 | some c => exact wpAny_tests_one h
theorem compLoop_go {elt target iter:Expr} {tl:Option Expr} {scope:Scope} {pos:Pos} {it acc:Value} {env:Env} (I:Nat -> Shared -> Prop)
  (turn:∀ n s,I n s -> wpAny (model prog w) A (pyNext it) (fun r s₁ => match r with
   | none => R (.ok .next) s₁
   | some v => wpAny (model prog w) A (letOwnedTupleGo target it v) (fun _ s₁' => wpAny (model prog w) A (assign target env v) (fun _ s₂ =>
     wpAny (model prog w) A (forIn tl.toList true fun c r => if r = true then do let ok <- isTrue c env (eval c env); pure (ForInStep.yield ok) else pure (ForInStep.yield r)) (fun ok s₃ => if ok = true then
      wpAny (model prog w) A (eval elt env) (fun x s₄ =>
       wpAny (model prog w) A (call (.builtin "list.append") [acc, x]) (fun _ s₅ => ∃ m, m < n /\ I m s₅) (notedBy (model prog w) A env fun e s' => R (.error e) s') s₄) (notedBy (model prog w) A env fun e s' => R (.error e) s') s₃
      else ∃ m,m < n /\ I m s₃) (notedBy (model prog w) A env fun e s' => R (.error e) s') s₂)
        (notedBy (model prog w) A env fun e s' => R (.error e) s') s₁') (notedBy (model prog w) A env fun e s' => R (.error e) s') s₁) (notedBy (model prog w) A env fun e s' => R (.error e) s') s)
  (n:Nat) (h:I n s):codeAny (model prog w) A (.compLoop (.ListComp elt [⟨target,iter,tl.toList,0⟩] scope pos) 0 it acc env) R s:=by
 refine codeAny_loop rfl I (fun n s hI => ?_) n h
 show wpAny _ A ((compTurn (.ListComp elt [⟨target,iter,tl.toList,0⟩] scope pos) 0 it acc env).onRaise (fun x => do noteFrame x env; theTreesLotGoes x)) _ _ s
 refine wpAny_noted ?_
 rw [compTurn_list]
 refine wpAny_bind (wpAny_standAt (wpAny_bind (wpAny_mono (turn n s hI) (fun r s₁ h₁ => ?_) fun _ _ h' => h')))
 cases r with
 | none => exact wpAny_pure h₁
 | some v =>
  refine wpAny_bind (wpAny_mono h₁ (fun _ s₁' h₁' => ?_) fun _ _ h' => h')
  refine wpAny_bind (wpAny_mono h₁' (fun _ s₂ h₂ => wpAny_bind (wpAny_mono h₂ (fun ok s₃ h₃ => ?_) fun _ _ h' => h')) fun _ _ h' => h')
  cases ok with
  | true =>
   rw [if_pos rfl] at h₃
   exact wpAny_bind (wpAny_bind (wpAny_mono h₃ (fun x s₄ h₄ => wpAny_bind (wpAny_mono h₄ (fun _ s₅ h₅ => wpAny_pure (wpAny_pure ⟨rfl,h₅⟩)) fun _ _ h' => h')) fun _ _ h' => h'))
  | false =>
   rw [if_neg Bool.false_ne_true] at h₃
   exact wpAny_bind (wpAny_pure (wpAny_pure ⟨rfl,h₃⟩))
end
end L2
namespace Iv
open PySem
inductive U where
 | non | bl (b:Bool) | int (i:Int) (m:Nat) | str (x:List Nat) | ref (n:Nat) | con (k:Nat) | scr
 deriving DecidableEq,Repr,Inhabited
inductive O where
 | lst (xs:List U) | tup (xs:List U) | ins (C:Nat) (fs:List (Nat × U)) | dic (kvs:List (U × U))
 deriving Repr,Inhabited
abbrev Hs:=List O
abbrev Rho:=List (Option U)
inductive Bi where
 | len | int | str | tuple | list | sum | any | all | max | min | abs
 deriving DecidableEq,Repr,Inhabited
inductive Bm where
 | append | pop | clear | reverse | extend | setdef | join | split | find | insert | index
 deriving DecidableEq,Repr,Inhabited
inductive Ty where
 | non | bool | int | str | list | tuple | dict | cls (c:Nat)
 deriving DecidableEq,Repr,Inhabited
mutual
inductive E where
 | c (u:U) | var (i:Nat) | con (k:Nat)
 | op (o:Operator) (a b:E) | neg (a:E) | cmp (o:CmpOp) (a b:E)
 | and (a b:E) | or (a b:E) | not (a:E) | ife (t a b:E)
 | tup (es:List E) | lst (es:List E) | dis (kvs:List (U × U)) (b:E)
 | ix (a b:E) | tab (k:Nat) (b:E) | sl (a:E) (lo hi:Option E) | rev (a:E) | tupR (es:List E)
 | fld (a:E) (f:Nat)
 | call (f:Nat) (es:List E) | meth (m:Nat) (o:E) (es:List E) | make (k:Nat) (es:List E)
 | bi (b:Bi) (es:List E) | isi (a:E) (t:Ty) | bm (b:Bm) (o:E) (es:List E)
 | comp (s:Src) (b:Bool) (t:Option E) (el:E) | dnew | chain (o o':CmpOp) (a b c:E)
inductive Src where
 | seq (e:E) | rng (a:E) | rng2 (a b:E) | rngA (es:List E) | zip (a b:E) | revd (e:E) | enm (e:E)
inductive Tg where
 | name (i:Nat) | pair (i j:Nat)
end
inductive S where
 | pass | expr (e:E) | set (i:Nat) (e:E) | fld (o:E) (f:Nat) (e:E) | ret (e:E) | retN
 | ite (t:E) (a b:List S) | loop (t:Tg) (s:Src) (body:List S) | loopC (i:Nat) (e:E) (body:List S) | while (t:E) (body:List S)
 | brk | cont
 | aug (i:Nat) (o:Operator) (e:E) | bad
 | put (o i e:E) | unp (i j:Nat) (e:E) | par (i j:Nat) (a b:E)
inductive Fl where
 | next | brk | cont | ret (u:U)
structure Fn where
 name:Str
 qual:Str
 st:Stmt
 ps:List Str
 N:List Str
 np:Nat
 nN:Nat
 lc:Bool
 body:List S
structure Cl where
 name:Str
 init:Option Nat
 meths:List (Nat × Nat)
 subs:List Nat
inductive Co where
 | tup (xs:List U) | lst (xs:List U) | tab (kvs:List (U × U))
 deriving Repr,Inhabited
structure Df where
 ps:List Str
 np:Nat
 last:Str
 ds:List U
structure Tbl where
 fns:List Fn
 cls:List Cl
 cons:List Co
 fns':List Str
 mns:List Str
 scr:List U
 isi:List ((Ty × Ty) × Bool)
 dfl:List (Nat × Df)
def bd {α β:Type} (o:Option (α × Hs)) (f:α -> Hs -> Option β):Option β:=match o with
 | none => none
 | some (a,h) => f a h
theorem bd_some {α β:Type} {o:Option (α × Hs)} {f:α -> Hs -> Option β} {r:β} (h:bd o f = some r):∃ a h',o = some (a,h') /\ f a h' = some r:=by
 unfold bd at h
 cases o with
 | none => cases h
 | some p => exact ⟨p.1,p.2,rfl,h⟩
def gz:Nat -> Nat -> Nat
 | 0,n => n
 | m + 1,n => Nat.gcd (m + 1) n
def small64 (i:Int):Bool:=decide (-(2 ^ 64) < i) && decide (i < 2 ^ 64)
def bigOk (i:Int):Bool:=decide (i.natAbs < 2 ^ 4096)
def subI:U -> U -> Option U
 | .int i m,.int j n => some (.int (i - j) (gz m n))
 | _,_ => none
def mulI:U -> U -> Option U
 | .int i 0,.int j 0 => if small64 i || small64 j || (bigOk i && bigOk j) then some (.int (i * j) 0) else none
 | .int i (m + 1),.int j 0 => if small64 j then some (.int (i * j) ((m + 1) * j.natAbs)) else none
 | _,_ => none
def divI:U -> U -> Option U
 | .int i 0,.int j 0 => if 0 < j && decide (j < 1606938044258990275541962092341162602522202993782792835301376) then some (.int (i / j) 0) else none
 | .int i (m + 1),.int j 0 => if 0 < j && decide (j < 1606938044258990275541962092341162602522202993782792835301376) && decide ((m + 1) % j.toNat = 0) then some (.int (i / j) ((m + 1) / j.toNat)) else none
 | _,_ => none
def modI:U -> U -> Option U
 | .int i 0,.int j 0 => if 0 < j then some (.int (i % j) 0) else none
 | .int i (m + 1),.int j 0 => if 0 < j && decide ((m + 1) % j.toNat = 0) then some (.int (i % j) 0) else none
 | _,_ => none
def powI:U -> U -> Option U
 | .int i 0,.int j 0 => if 0 <= j && decide (j <= 1000) && small64 i then some (.int (i ^ j.toNat) 0) else none
 | _,_ => none
def catO (a b:Nat) (x y:O) (hs:Hs):Option (U × Hs):=match x,y with
 | .lst xs,.lst ys => if xs.length + ys.length <= 1000000 then some (.ref hs.length,hs ++ [.lst (xs ++ ys)]) else none
 | .tup xs,.tup ys => if xs.isEmpty then some (.ref b,hs) else if xs.length + ys.length <= 1000000 then (if ys.isEmpty then some (.ref a,hs) else some (.ref hs.length,hs ++ [.tup (xs ++ ys)])) else none
 | _,_ => none
def addI (u w:U) (hs:Hs):Option (U × Hs):=match u,w with
 | .int i m,.int j n => some (.int (i + j) (gz m n),hs)
 | .str x,.str y => if x.length + y.length <= 1000000 then some (.str (x ++ y),hs) else none
 | .ref a,.ref b => match hs[a]?,hs[b]? with
  | some x,some y => catO a b x y hs
  | _,_ => none
 | _,_ => none
def repI (a:Nat) (w:U) (hs:Hs):Option (U × Hs):=match hs[a]?,w with
 | some (.lst xs),.int k 0 => if -9223372036854775808 <= k /\ k < 9223372036854775808 /\ xs.length * k.toNat <= 1000000 then some (.ref hs.length,hs ++ [.lst (List.replicate k.toNat xs).flatten]) else none
 | _,_ => none
def opU (o:Operator) (u w:U) (hs:Hs):Option (U × Hs):=match o with
 | .Add => addI u w hs
 | .Sub => (subI u w).map fun r => (r,hs)
 | .Mult => (match u with
  | .ref a => repI a w hs
  | u => (mulI u w).map fun r => (r,hs))
 | .FloorDiv => (divI u w).map fun r => (r,hs)
 | .Mod => (modI u w).map fun r => (r,hs)
 | .Pow => (powI u w).map fun r => (r,hs)
 | _ => none
def eqS:U -> U -> Option Bool
 | .int i 0,.int j 0 => some (decide (i = j))
 | .str x,.str y => some (decide (x = y))
 | .bl a,.bl b => some (decide (a = b))
 | .non,.non => some true
 | .non,.int _ _ => some false | .int _ _,.non => some false | .non,.bl _ => some false | .bl _,.non => some false | .non,.str _ => some false | .str _,.non => some false
 | .int _ _,.str _ => some false | .str _,.int _ _ => some false | .bl _,.str _ => some false | .str _,.bl _ => some false
 | _,_ => none
def seqU (T:Tbl) (u:U) (hs:Hs):Option (List U):=match u with
 | .ref n => match hs[n]? with
  | some (.lst xs) => some xs
  | some (.tup xs) => some xs
  | _ => none
 | .con k => match T.cons[k]? with
  | some (.lst xs) => some xs
  | some (.tup xs) => some xs
  | _ => none
 | .scr => some T.scr
 | _ => none
def flatU:U -> Bool
 | .int _ 0 => true
 | .str _ => true
 | .non => true
 | _ => false
def eqF:U -> U -> Bool
 | .int i _,.int j _ => decide (i = j)
 | .str x,.str y => decide (x = y)
 | .non,.non => true
 | _,_ => false
def inU (x:U) (ys:List U):Option Bool:=if flatU x && ys.all flatU then some (ys.any fun y => eqF y x) else none
def lstU (T:Tbl) (u:U) (hs:Hs):Option (List U):=match u with
 | .ref n => match hs[n]? with
  | some (.lst xs) => some xs
  | _ => none
 | .con k => match T.cons[k]? with
  | some (.lst xs) => some xs
  | _ => none
 | .scr => some T.scr
 | _ => none
def tupU (T:Tbl) (u:U) (hs:Hs):Option (List U):=match u with
 | .ref n => match hs[n]? with
  | some (.tup xs) => some xs
  | _ => none
 | .con k => match T.cons[k]? with
  | some (.tup xs) => some xs
  | _ => none
 | _ => none
def okW (T:Tbl):Nat -> U -> Hs -> Bool
 | 0,_,_ => false
 | n + 1,u,hs => match lstU T u hs with
  | some xs => xs.all fun x => okW T n x hs
  | none => match tupU T u hs with
   | some xs => xs.all fun x => okW T n x hs
   | none => match u with
    | .non => true
    | .bl _ => true
    | .int _ m => m == 0
    | .str x => x.all fun c => decide (c < 128)
    | _ => false
def eqB:U -> U -> Bool
 | .non,.non => true
 | .bl a,.bl b => a == b
 | .bl a,.int j _ => (if a then 1 else 0) == j
 | .int i _,.bl b => i == (if b then 1 else 0)
 | .int i _,.int j _ => i == j
 | .str x,.str y => x == y
 | _,_ => false
def eqW (T:Tbl):Nat -> U -> U -> Hs -> Bool
 | 0,_,_,_ => false
 | n + 1,u,w,hs => match lstU T u hs with
  | some xs => (match lstU T w hs with
   | some ys => (xs.length == ys.length) && (xs.zip ys).all fun p => eqW T n p.1 p.2 hs
   | none => false)
  | none => match tupU T u hs with
   | some xs => (match lstU T w hs with
    | some _ => false
    | none => match tupU T w hs with
     | some ys => (xs.length == ys.length) && (xs.zip ys).all fun p => eqW T n p.1 p.2 hs
     | none => false)
   | none => (match lstU T w hs with
    | some _ => false
    | none => match tupU T w hs with
     | some _ => false
     | none => eqB u w)
def lenNe (T:Tbl) (u w:U) (hs:Hs):Bool:=match lstU T u hs,lstU T w hs with
 | some xs,some ys => decide (xs.length ≠ ys.length)
 | _,_ => false
def sameR (T:Tbl) (u w:U) (hs:Hs):Bool:=match lstU T u hs,lstU T w hs with
 | some xs,some ys => decide (xs = ys) && xs.all fun x => match x with | .ref _ => true | _ => false
 | _,_ => false
def eqA (T:Tbl) (u w:U) (hs:Hs):Option Bool:=match eqS u w with
 | some b => some b
 | none => if lenNe T u w hs = true then some false else if sameR T u w hs = true then some true else if okW T 20 u hs && okW T 20 w hs then some (eqW T 20 u w hs) else none
def lookU (kvs:List (U × U)) (k:U):Option U:=match kvs with
 | [] => none
 | (x,v) :: r => if x = k then some v else lookU r k
def keyU:U -> Bool
 | .int _ 0 => true
 | .str _ => true
 | _ => false
def inS (x y:List Nat):Bool:=!(Builtin.Str.occurrences ⟨y.toArray⟩ ⟨x.toArray⟩ 0 (Str.length ⟨y.toArray⟩) 1).isEmpty
def tbIn (T:Tbl) (w u:U):Option Bool:=match w with
 | .con k => (match T.cons[k]? with
  | some (.tab kvs) => if keyU u = true then some (lookU kvs u).isSome else none
  | _ => none)
 | .str y => (match u with
  | .str x => some (inS x y)
  | _ => none)
 | _ => none
def cmpU (T:Tbl) (o:CmpOp) (u w:U) (hs:Hs):Option Bool:=match o with
 | .Eq => eqA T u w hs
 | .NotEq => (eqA T u w hs).map (!·)
 | .Lt => match u,w with | .int i 0,.int j 0 => some (decide (i < j)) | _,_ => none
 | .LtE => match u,w with | .int i 0,.int j 0 => some (decide (i <= j)) | _,_ => none
 | .Gt => match u,w with | .int i 0,.int j 0 => some (decide (j < i)) | _,_ => none
 | .GtE => match u,w with | .int i 0,.int j 0 => some (decide (j <= i)) | _,_ => none
 | .In => match seqU T w hs with | some xs => inU u xs | none => tbIn T w u
 | .NotIn => match seqU T w hs with | some xs => (inU u xs).map (!·) | none => (tbIn T w u).map (!·)
 | .Is => match w with | .non => some (decide (u = .non)) | _ => none
 | .IsNot => match w with | .non => some (!decide (u = .non)) | _ => none
def truU (T:Tbl) (u:U) (hs:Hs):Option Bool:=match u with
 | .non => some false
 | .bl b => some b
 | .int i 0 => some (decide (i ≠ 0))
 | .str x => if x.length <= 1000000 then some (!x.isEmpty) else none
 | u => (seqU T u hs).map fun xs => !xs.isEmpty
def ixU (n:Nat) (i:Int):Option Nat:=if 0 <= i then (if i < n then some i.toNat else none) else if -(n:Int) <= i then some (i + n).toNat else none
def atU {α:Type} (xs:List α) (i:Int):Option α:=match ixU xs.length i with
 | some j => xs[j]?
 | none => none
def subU (T:Tbl) (u w:U) (hs:Hs):Option U:=match u,w with
 | .str x,.int i 0 => if x.length <= 1000000 then (atU x i).map fun c => .str [c] else none
 | .ref n,w => match hs[n]?,w with
  | some (.lst xs),.int i 0 => atU xs i
  | some (.tup xs),.int i 0 => atU xs i
  | _,_ => none
 | u,.int i 0 => match seqU T u hs with
  | some xs => atU xs i
  | none => none
 | _,_ => none
def tabU (T:Tbl) (k:Nat) (w:U):Option U:=match T.cons[k]? with
 | some (.tab kvs) => if keyU w then lookU kvs w else none
 | _ => none
def cutIx (n d:Nat):Option Int -> Nat
 | none => d
 | some v => if v < 0 then (v + (n:Int)).toNat else min v.toNat n
def cutU {α:Type} (xs:List α) (lo hi:Option Int):List α:=(xs.drop (cutIx xs.length 0 lo)).take (cutIx xs.length xs.length hi - cutIx xs.length 0 lo)
def slU (T:Tbl) (u:U) (lo hi:Option Int) (hs:Hs):Option (U × Hs):=match u with
 | .scr => some (.ref hs.length,hs ++ [.lst (cutU T.scr lo hi)])
 | .ref n => match hs[n]? with
  | some (.lst xs) => some (.ref hs.length,hs ++ [.lst (cutU xs lo hi)])
  | some (.tup xs) => if cutIx xs.length 0 lo = 0 /\ cutIx xs.length xs.length hi = xs.length then none else some (.ref hs.length,hs ++ [.tup (cutU xs lo hi)])
  | _ => none
 | .str x => if x.length <= 1000000 then some (.str (cutU x lo hi),hs) else none
 | _ => none
def digs (n:Nat):List Nat:=(Nat.toDigits 10 n).map Char.toNat
def dgOk (x:List Nat):Bool:=x.all (fun c => decide (48 <= c) && decide (c <= 57)) && !x.isEmpty && decide (x.length <= 640)
def dgVal (x:List Nat):Nat:=x.foldl (fun acc c => acc * 10 + (c - 48)) 0
def intsU:List U -> Option (List Int)
 | [] => some []
 | .int i 0 :: r => (intsU r).map (i :: ·)
 | _ => none
def boolsU:List U -> Option (List Bool)
 | [] => some []
 | .bl b :: r => (boolsU r).map (b :: ·)
 | _ => none
def maxI:List Int -> Int -> Int
 | [],z => z
 | a :: r,z => maxI r (if a > z then a else z)
def maxU:List Int -> Option Int
 | [] => none
 | z :: r => some (maxI r z)
theorem maxI_ge:∀ (r:List Int) (z:Int),z <= maxI r z /\ ∀ a ∈ r,a <= maxI r z
 | [],z => ⟨Int.le_refl _,fun a h => by cases h⟩
 | a :: r,z => by
  have ih:=maxI_ge r (if a > z then a else z)
  unfold maxI
  refine ⟨?_,fun b hb => ?_⟩
  ·have:=ih.1
   split at this <;> rename_i c <;> simp only [c,if_true,if_false] <;> omega
  ·rcases List.mem_cons.mp hb with rfl | hb
   ·have:=ih.1
    split at this <;> rename_i c <;> simp only [c,if_true,if_false] <;> omega
   ·exact ih.2 b hb
theorem maxI_mem:∀ (r:List Int) (z:Int),maxI r z = z \/ maxI r z ∈ r
 | [],z => .inl rfl
 | a :: r,z => by
  have ih:=maxI_mem r (if a > z then a else z)
  unfold maxI
  rcases ih with e | m
  ·rw [e]
   split
   ·exact .inr List.mem_cons_self
   ·exact .inl rfl
  ·exact .inr (List.mem_cons_of_mem _ m)
theorem maxU_is {ns:List Int} {m M:Int} (h:maxU ns = some m) (h1:M ∈ ns) (h2:∀ a ∈ ns,a <= M):M = m:=by
 cases ns with
 | nil => cases h
 | cons z r =>
  simp only [maxU,Option.some.injEq] at h
  subst h
  have g:=maxI_ge r z
  have a:M <= maxI r z:=by
   rcases List.mem_cons.mp h1 with rfl | hb
   ·exact g.1
   ·exact g.2 M hb
  have b:maxI r z <= M:=by
   rcases maxI_mem r z with e | e
   ·rw [e]; exact h2 z List.mem_cons_self
   ·exact h2 _ (List.mem_cons_of_mem _ e)
  omega
def minI:List Int -> Int -> Int
 | [],z => z
 | a :: r,z => minI r (if a < z then a else z)
def minU:List Int -> Option Int
 | [] => none
 | z :: r => some (minI r z)
theorem minI_le:∀ (r:List Int) (z:Int),minI r z <= z /\ ∀ a ∈ r,minI r z <= a
 | [],z => ⟨Int.le_refl _,fun a h => by cases h⟩
 | a :: r,z => by
  have ih:=minI_le r (if a < z then a else z)
  unfold minI
  refine ⟨?_,fun b hb => ?_⟩
  ·have:=ih.1
   split at this <;> rename_i c <;> simp only [c,if_true,if_false] <;> omega
  ·rcases List.mem_cons.mp hb with rfl | hb
   ·have:=ih.1
    split at this <;> rename_i c <;> simp only [c,if_true,if_false] <;> omega
   ·exact ih.2 b hb
theorem minI_mem:∀ (r:List Int) (z:Int),minI r z = z \/ minI r z ∈ r
 | [],z => .inl rfl
 | a :: r,z => by
  have ih:=minI_mem r (if a < z then a else z)
  unfold minI
  rcases ih with e | m
  ·rw [e]
   split
   ·exact .inr List.mem_cons_self
   ·exact .inl rfl
  ·exact .inr (List.mem_cons_of_mem _ m)
theorem minU_is {ns:List Int} {m M:Int} (h:minU ns = some m) (h1:M ∈ ns) (h2:∀ a ∈ ns,M <= a):M = m:=by
 cases ns with
 | nil => cases h
 | cons z r =>
  simp only [minU,Option.some.injEq] at h
  subst h
  have g:=minI_le r z
  have a:minI r z <= M:=by
   rcases List.mem_cons.mp h1 with rfl | hb
   ·exact g.1
   ·exact g.2 M hb
  have b:M <= minI r z:=by
   rcases minI_mem r z with e | e
   ·rw [e]; exact h2 z List.mem_cons_self
   ·exact h2 _ (List.mem_cons_of_mem _ e)
  omega
def biL (T:Tbl) (b:Bi) (us:List U) (hs:Hs):Option (U × Hs):=match b,us with
 | .sum,[u] => (lstU T u hs).bind fun xs => (intsU xs).map fun ns => (.int ns.sum 0,hs)
 | .any,[u] => (lstU T u hs).bind fun xs => (boolsU xs).map fun bs => (.bl (bs.any id),hs)
 | .all,[u] => (lstU T u hs).bind fun xs => (boolsU xs).map fun bs => (.bl (bs.all id),hs)
 | .max,[u] => (lstU T u hs).bind fun xs => (intsU xs).bind fun ns => (maxU ns).map fun m => (.int m 0,hs)
 | .max,[.int i 0,.int j 0] => some (.int (if j > i then j else i) 0,hs)
 | .min,[u] => (lstU T u hs).bind fun xs => (intsU xs).bind fun ns => (minU ns).map fun m => (.int m 0,hs)
 | .min,[.int i 0,.int j 0] => some (.int (if j < i then j else i) 0,hs)
 | .abs,[.int i 0] => some (.int (if i < 0 then -i else i) 0,hs)
 | _,_ => none
def biU (T:Tbl) (b:Bi) (us:List U) (hs:Hs):Option (U × Hs):=match b,us with
 | .len,[.str x] => if x.length <= 1000000 then some (.int x.length 0,hs) else none
 | .len,[u] => (seqU T u hs).map fun xs => (.int xs.length 0,hs)
 | .int,[.int i m] => some (.int i m,hs)
 | .int,[.bl b] => some (.int (if b then 1 else 0) 0,hs)
 | .int,[.str x] => if dgOk x then some (.int (dgVal x:Nat) 0,hs) else none
 | .str,[.int i 0] => if 0 <= i && decide (i.natAbs.log2 < 1920) then some (.str (digs i.toNat),hs) else none
 | .tuple,[.ref n] => match hs[n]? with
  | some (.lst xs) => some (.ref hs.length,hs ++ [.tup xs])
  | some (.tup _) => some (.ref n,hs)
  | _ => none
 | .list,[u] => (seqU T u hs).map fun xs => (.ref hs.length,hs ++ [.lst xs])
 | .len,_ => none
 | .int,_ => none
 | .str,_ => none
 | .tuple,_ => none
 | .list,_ => none
 | b,us => biL T b us hs
def kindU (u:U) (hs:Hs):Option Ty:=match u with
 | .non => some .non
 | .bl _ => some .bool
 | .int _ _ => some .int
 | .str _ => some .str
 | .ref n => match hs[n]? with
  | some (.lst _) => some .list
  | some (.tup _) => some .tuple
  | some (.dic _) => none
  | some (.ins c _) => some (.cls c)
  | none => none
 | _ => none
def isiB (k t:Ty):Option Bool:=match k,t with
 | .cls _,_ => none
 | _,.cls _ => none
 | .bool,.int => some true
 | k,t => some (decide (k = t))
def isiU (T:Tbl) (t:Ty) (u:U) (hs:Hs):Option Bool:=match kindU u hs with
 | none => none
 | some k => match isiB k t with
  | some b => some b
  | none => T.isi.lookup (k,t)
def strsU:List U -> Option (List (List Nat))
 | [] => some []
 | .str x :: r => (strsU r).map (x :: ·)
 | _ => none
def findU (x y:List Nat):Int:=match Builtin.Str.occurrences ⟨x.toArray⟩ ⟨y.toArray⟩ 0 x.length 1 with
 | i :: _ => (i:Int)
 | [] => -1
def bmL (b:Bm) (n:Nat) (xs:List U) (us:List U) (hs:Hs):Option (U × Hs):=match b,us with
 | .append,[u] => if xs.length < 1000000 then some (.non,hs.set n (.lst (xs ++ [u]))) else none
 | .pop,[] => match xs[xs.length - 1]? with
  | some y => some (y,hs.set n (.lst xs.dropLast))
  | none => none
 | .clear,[] => some (.non,hs.set n (.lst []))
 | .reverse,[] => some (.non,hs.set n (.lst xs.reverse))
 | .extend,[.ref m] => (match hs[m]? with
  | some (.lst ys) => if xs.length + ys.length <= 1000000 then some (.non,hs.set n (.lst (xs ++ ys))) else none
  | _ => none)
 | .insert,[.int i 0,u] => if i = 0 /\ xs.length < 1000000 then some (.non,hs.set n (.lst (u :: xs))) else none
 | _,_ => none
def bmS (T:Tbl) (b:Bm) (x:List Nat) (us:List U) (hs:Hs):Option (U × Hs):=match b,us with
 | .join,[w] => match lstU T w hs with
  | some ys => match strsU ys with
   | some ts => if ts.length * x.length + (ts.map List.length).sum <= 1000000 then some (.str (joinU x ts),hs) else none
   | none => none
  | none => none
 | .split,[.str [c]] => if x.length <= 1000000 then some (.ref hs.length,hs ++ [.lst ((splitU c x).map .str)]) else none
 | .find,[.str y] => some (.int (findU x y) 0,hs)
 | .index,[.str y] => (match Builtin.Str.occurrences ⟨x.toArray⟩ ⟨y.toArray⟩ 0 (Str.length ⟨x.toArray⟩) 1 with
  | i :: _ => some (.int (i:Int) 0,hs)
  | [] => none)
 | _,_ => none
def bmD (b:Bm) (n:Nat) (kvs:List (U × U)) (us:List U) (hs:Hs):Option (U × Hs):=match b,us with
 | .setdef,[k,v] => if keyU k = true /\ kvs.length < 1000000 then (match lookU kvs k with
  | some x => some (x,hs)
  | none => some (v,hs.set n (.dic (kvs ++ [(k,v)])))) else none
 | _,_ => none
def bmU (T:Tbl) (b:Bm) (o:U) (us:List U) (hs:Hs):Option (U × Hs):=match o with
 | .ref n => match hs[n]? with
  | some (.lst xs) => bmL b n xs us hs
  | some (.dic kvs) => bmD b n kvs us hs
  | _ => none
 | .str x => bmS T b x us hs
 | _ => none
def bL:Bm -> Bool
 | .setdef => false | .join => false | .split => false | .find => false | .index => false | _ => true
def bS:Bm -> Bool
 | .join => true | .split => true | .find => true | .index => true | _ => false
def bD:Bm -> Bool
 | .setdef => true | _ => false
def rcvU (b:Bm) (u:U) (hs:Hs):Bool:=match u with
 | .ref n => match hs[n]? with
  | some (.lst _) => bL b
  | some (.dic _) => bD b
  | _ => false
 | .str _ => bS b
 | _ => false
def putU (f:Nat) (u:U):List (Nat × U) -> List (Nat × U)
 | [] => [(f,u)]
 | (g,x) :: r => if g = f then (g,u) :: r else (g,x) :: putU f u r
inductive Wk where
 | seqL (u:U) | seqT (u:U) | rng (lo:Int) (n:Nat) | zipB (b c:Bool) (x y:U) | revL (u:U) (n:Nat) | rngC (lo c:Int) (n:Nat) | enmL (u:U)
inductive Im where
 | one (u:U) | two (u w:U)
def sqU (T:Tbl) (b:Bool) (u:U) (hs:Hs):Option (List U):=if b then lstU T u hs else tupU T u hs
def two (xs ys:List U) (i:Nat):Option Im:=match xs[i]?,ys[i]? with
 | some x,some y => some (.two x y)
 | _,_ => none
def itm (T:Tbl) (k:Wk) (i:Nat) (hs:Hs):Option (Option Im):=match k with
 | .seqL u => (lstU T u hs).map fun xs => (xs[i]?).map .one
 | .seqT u => (tupU T u hs).map fun xs => (xs[i]?).map .one
 | .rng lo n => some (if i < n then some (.one (.int (lo + i) 0)) else none)
 | .zipB b c x y => match sqU T b x hs,sqU T c y hs with
  | some xs,some ys => some (two xs ys i)
  | _,_ => none
 | .revL u n => match lstU T u hs with
  | some xs => if i < n then (match xs[n - 1 - i]? with | some x => some (some (.one x)) | none => none) else if i = n then some none else none
  | none => none
 | .rngC lo c n => some (if i < n then some (.one (.int (lo + i * c) 0)) else none)
 | .enmL u => (lstU T u hs).map fun xs => (xs[i]?).map fun x => .two (.int i 0) x
def rngCU (a b c:Int):Nat:=if a < b then ((b - a - 1) / c + 1).toNat else 0
def turns (T:Tbl) (k:Wk) (hs:Hs):Nat:=match k with
 | .seqL u => ((lstU T u hs).getD []).length + 1
 | .seqT u => ((tupU T u hs).getD []).length + 1
 | .rng _ n => n + 1
 | .zipB b _ x _ => ((sqU T b x hs).getD []).length + 1
 | .revL _ n => n + 1
 | .rngC _ _ n => n + 1
 | .enmL u => ((lstU T u hs).getD []).length + 1
def tgt (t:Tg) (x:Im) (ρ:Rho) (hs:Hs):Option Rho:=match t,x with
 | .name i,.one u => some (ρ.set i (some u))
 | .pair i j,.two u w => some ((ρ.set i (some u)).set j (some w))
 | .pair i j,.one (.ref n) => match hs[n]? with
  | some (.tup [u,w]) => some ((ρ.set i (some u)).set j (some w))
  | _ => none
 | _,_ => none
abbrev Cf:=Nat -> List U -> Hs -> Option (U × Hs)
abbrev Ev:=E -> Rho -> Hs -> Option (U × Hs)
def evs (f:Ev) (ρ:Rho):List E -> Hs -> Option (List U × Hs)
 | [],hs => some ([],hs)
 | e :: es,hs => bd (f e ρ hs) fun u h1 => bd (evs f ρ es h1) fun us h2 => some (u :: us,h2)
def evO (f:Ev) (ρ:Rho):Option E -> Hs -> Option (Option Int × Hs)
 | none,hs => some (none,hs)
 | some e,hs => bd (f e ρ hs) fun u h1 => match u with | .int i 0 => some (some i,h1) | _ => none
def wkS (T:Tbl) (u:U) (hs:Hs):Option Wk:=match lstU T u hs with
 | some _ => some (.seqL u)
 | none => match tupU T u hs with
  | some _ => some (.seqT u)
  | none => none
def wkZ (T:Tbl) (u w:U) (hs:Hs):Option Wk :=
 let b:=(lstU T u hs).isSome
 let c:=(lstU T w hs).isSome
 if (sqU T b u hs).isSome && (sqU T c w hs).isSome then some (.zipB b c u w) else none
def srcU (T:Tbl) (f:Ev) (ρ:Rho):Src -> Hs -> Option (Wk × Hs)
 | .seq e,hs => bd (f e ρ hs) fun u h1 => (wkS T u h1).map fun k => (k,h1)
 | .rng a,hs => bd (f a ρ hs) fun u h1 => match u with | .int i 0 => if small64 (i * 4) then some (.rng 0 i.toNat,h1) else none | _ => none
 | .rng2 a b,hs => bd (f a ρ hs) fun u h1 => bd (f b ρ h1) fun w h2 => match u,w with | .int i 0,.int j 0 => if small64 (i * 4) && small64 (j * 4) then some (.rng i (j - i).toNat,h2) else none | _,_ => none
 | .rngA es,hs => bd (evs f ρ es hs) fun us h1 => match us with
  | [.int i 0,.int j 0,.int c 0] => if small64 (i * 16) && small64 (j * 16) && decide (0 < c) && decide (c < 1073741824) then some (.rngC i c (rngCU i j c),h1) else none
  | _ => none
 | .zip a b,hs => bd (f a ρ hs) fun u h1 => bd (f b ρ h1) fun w h2 => (wkZ T u w h2).map fun k => (k,h2)
 | .revd e,hs => bd (f e ρ hs) fun u h1 => match lstU T u h1 with | some xs => some (.revL u xs.length,h1) | none => none
 | .enm e,hs => bd (f e ρ hs) fun u h1 => match lstU T u h1 with | some _ => some (.enmL u,h1) | none => none
def makeU (T:Tbl) (cf:Cf) (c:Nat) (us:List U) (hs:Hs):Option (U × Hs):=match T.cls[c]? with
 | none => none
 | some C => match C.init with
  | none => if us = [] then some (.ref hs.length,hs ++ [.ins c []]) else none
  | some f => match cf f (.ref hs.length :: us) (hs ++ [.ins c []]) with
   | some (.non,h2) => some (.ref hs.length,h2)
   | _ => none
def methL (T:Tbl) (m:Nat) (o:U) (hs:Hs):Option Nat:=match o with
 | .ref n => match hs[n]? with
  | some (.ins c _) => match T.cls[c]? with
   | some C => C.meths.lookup m
   | none => none
  | _ => none
 | _ => none
def tgN (b:Bool) (n:Nat):Tg:=if b then .pair n (n + 1) else .name n
def padN (b:Bool):Rho:=if b then [none,none] else [none]
def compU (T:Tbl) (f:Ev) (ft:Rho -> Hs -> Option (Bool × Hs)) (w:Wk) (b:Bool) (el:E) (ρ:Rho):Nat -> Nat -> List U -> Hs -> Option (List U × Hs)
 | 0,_,_,_ => none
 | k + 1,i,acc,hs => match itm T w i hs with
  | none => none
  | some none => some (acc,hs)
  | some (some x) => match tgt (tgN b ρ.length) x (ρ ++ padN b) hs with
   | none => none
   | some ρ' => if acc.length < 1000000 then bd (ft ρ' hs) fun c h1 => if c = true then bd (f el ρ' h1) fun u h2 => compU T f ft w b el ρ k (i + 1) (acc ++ [u]) h2 else compU T f ft w b el ρ k (i + 1) acc h1 else none
def evTO (ft:E -> Rho -> Hs -> Option (Bool × Hs)) (t:Option E) (ρ:Rho) (hs:Hs):Option (Bool × Hs):=match t with
 | none => some (true,hs)
 | some e => ft e ρ hs
def rngL (a b c:Int):Option (List U):=if small64 (a * 4) && small64 (b * 4) && (decide (c = 1) || decide (c = -1)) then
  (let n:=if c = 1 then (b - a).toNat else (a - b).toNat
    if n <= 1000000 then some ((List.range n).map fun i:Nat => .int (a + (i:Int) * c) 0) else none) else none
def rngU:List U -> Option (List U)
 | [.int b 0] => rngL 0 b 1
 | [.int a 0,.int b 0] => rngL a b 1
 | [.int a 0,.int b 0,.int c 0] => rngL a b c
 | _ => none
mutual
def ev (T:Tbl) (cf:Cf):Nat -> Ev
 | 0,_,_,_ => none
 | d + 1,e,ρ,hs => match e with
  | .c u => some (u,hs)
  | .con k => some (.con k,hs)
  | .var i => match ρ[i]? with
   | some (some u) => some (u,hs)
   | _ => none
  | .op o a b => bd (ev T cf d a ρ hs) fun u h1 => bd (ev T cf d b ρ h1) fun w h2 => opU o u w h2
  | .neg a => bd (ev T cf d a ρ hs) fun u h1 => match u with | .int i m => some (.int (-i) m,h1) | _ => none
  | .cmp o a b => bd (ev T cf d a ρ hs) fun u h1 => bd (ev T cf d b ρ h1) fun w h2 => (cmpU T o u w h2).map fun c => (.bl c,h2)
  | .and a b => bd (ev T cf d a ρ hs) fun u h1 => match u with | .bl true => ev T cf d b ρ h1 | .bl false => some (.bl false,h1) | _ => none
  | .or a b => bd (ev T cf d a ρ hs) fun u h1 => match u with | .bl true => some (.bl true,h1) | .bl false => ev T cf d b ρ h1 | _ => none
  | .not a => bd (ev T cf d a ρ hs) fun u h1 => (truU T u h1).map fun c => (.bl (!c),h1)
  | .ife t a b => bd (evT T cf d t ρ hs) fun c h1 => if c = true then ev T cf d a ρ h1 else ev T cf d b ρ h1
  | .tup es => bd (evs (ev T cf d) ρ es hs) fun us h1 => some (.ref h1.length,h1 ++ [.tup us])
  | .lst es => bd (evs (ev T cf d) ρ es hs) fun us h1 => some (.ref h1.length,h1 ++ [.lst us])
  | .dis kvs b => bd (ev T cf d b ρ hs) fun w h1 => if keyU w = true then (lookU kvs w).map fun x => (x,h1) else none
  | .ix a b => bd (ev T cf d a ρ hs) fun u h1 => bd (ev T cf d b ρ h1) fun w h2 => (subU T u w h2).map fun x => (x,h2)
  | .tab k b => bd (ev T cf d b ρ hs) fun w h1 => (tabU T k w).map fun x => (x,h1)
  | .sl a lo hi => bd (ev T cf d a ρ hs) fun u h1 => bd (evO (ev T cf d) ρ lo h1) fun l h2 => bd (evO (ev T cf d) ρ hi h2) fun r h3 => slU T u l r h3
  | .rev a => bd (ev T cf d a ρ hs) fun u h1 => match lstU T u h1 with | some xs => some (.ref h1.length,h1 ++ [.lst xs.reverse]) | none => none
  | .tupR es => bd (evs (ev T cf d) ρ es hs) fun us h1 => match rngU us with | some xs => some (.ref h1.length,h1 ++ [.tup xs]) | none => none
  | .fld a f => bd (ev T cf d a ρ hs) fun u h1 => match u with
   | .ref n => match h1[n]? with
    | some (.ins _ fs) => (fs.lookup f).map fun x => (x,h1)
    | _ => none
   | _ => none
  | .call f es => bd (evs (ev T cf d) ρ es hs) fun us h1 => cf f us h1
  | .meth m o es => bd (ev T cf d o ρ hs) fun u h1 => match methL T m u h1 with
   | some f => bd (evs (ev T cf d) ρ es h1) fun us h2 => cf f (u :: us) h2
   | none => none
  | .make c es => bd (evs (ev T cf d) ρ es hs) fun us h1 => makeU T cf c us h1
  | .bi b es => bd (evs (ev T cf d) ρ es hs) fun us h1 => biU T b us h1
  | .isi a t => bd (ev T cf d a ρ hs) fun u h1 => (isiU T t u h1).map fun b => (.bl b,h1)
  | .bm b o es => bd (ev T cf d o ρ hs) fun u h1 => if rcvU b u h1 = true then bd (evs (ev T cf d) ρ es h1) fun us h2 => bmU T b u us h2 else none
  | .comp s b t el => bd (srcU T (ev T cf d) ρ s hs) fun w h1 => bd (compU T (ev T cf d) (evTO (evT T cf d) t) w b el ρ (turns T w h1) 0 [] h1) fun us h2 => some (.ref h2.length,h2 ++ [.lst us])
  | .dnew => some (.ref hs.length,hs ++ [.dic []])
  | .chain o o' a b c => bd (ev T cf d a ρ hs) fun u h1 => bd (ev T cf d b ρ h1) fun w h2 => match cmpU T o u w h2 with
   | some true => bd (ev T cf d c ρ h2) fun x h3 => (cmpU T o' w x h3).map fun k => (.bl k,h3)
   | some false => some (.bl false,h2)
   | none => none
def evT (T:Tbl) (cf:Cf):Nat -> E -> Rho -> Hs -> Option (Bool × Hs)
 | 0,_,_,_ => none
 | d + 1,e,ρ,hs => match e with
  | .not a => bd (evT T cf d a ρ hs) fun c h1 => some (!c,h1)
  | .and a b => bd (evT T cf d a ρ hs) fun c h1 => if c = true then evT T cf d b ρ h1 else some (false,h1)
  | .or a b => bd (evT T cf d a ρ hs) fun c h1 => if c = true then some (true,h1) else evT T cf d b ρ h1
  | e => bd (ev T cf d e ρ hs) fun u h1 => (truU T u h1).map fun b => (b,h1)
end
abbrev Ex:=Rho -> Hs -> Option (Fl × Rho × Hs)
def forU (T:Tbl) (w:Wk) (t:Tg) (body:Ex):Nat -> Nat -> Ex
 | 0,_,_,_ => none
 | k + 1,i,ρ,hs => match itm T w i hs with
  | none => none
  | some none => some (.next,ρ,hs)
  | some (some x) => match tgt t x ρ hs with
   | none => none
   | some ρ' => match body ρ' hs with
    | some (.next,ρ2,h2) => forU T w t body k (i + 1) ρ2 h2
    | some (.cont,ρ2,h2) => forU T w t body k (i + 1) ρ2 h2
    | some (.brk,ρ2,h2) => some (.next,ρ2,h2)
    | r => r
def scalU:U -> Bool
 | .ref _ => false
 | _ => true
def frg1:Option U -> Option U
 | some (.ref _) => none
 | o => o
def frg (ρ:Rho):Rho:=ρ.map frg1
def forC (i:Nat) (body:Ex):List U -> Rho -> Option (Fl × Rho)
 | [],ρ => some (.next,ρ)
 | x :: xs,ρ => match body (ρ.set i (some x)) [] with
  | some (.next,ρ2,_) => forC i body xs (frg ρ2)
  | some (.cont,ρ2,_) => forC i body xs (frg ρ2)
  | some (.brk,ρ2,_) => some (.next,frg ρ2)
  | some (.ret u,ρ2,_) => if scalU u = true then some (.ret u,frg ρ2) else none
  | none => none
def whileU (test:Rho -> Hs -> Option (Bool × Hs)) (body:Ex):Nat -> Ex
 | 0,_,_ => none
 | k + 1,ρ,hs => match test ρ hs with
  | none => none
  | some (false,h1) => some (.next,ρ,h1)
  | some (true,h1) => match body ρ h1 with
   | some (.next,ρ2,h2) => whileU test body k ρ2 h2
   | some (.cont,ρ2,h2) => whileU test body k ρ2 h2
   | some (.brk,ρ2,h2) => some (.next,ρ2,h2)
   | r => r
def augU (o:Operator) (u w:U):Option U:=match o with
 | .Add => (match u,w with | .int i 0,.int j 0 => some (.int (i + j) 0) | _,_ => none)
 | .Sub => (match u,w with | .int i 0,.int j 0 => some (.int (i - j) 0) | _,_ => none)
 | _ => none
def putI (x k u:U) (hs:Hs):Option Hs:=match x,k with
 | .ref n,.int j 0 => match hs[n]? with
  | some (.lst xs) => (ixU xs.length j).map fun p => hs.set n (.lst (xs.set p u))
  | _ => none
 | _,_ => none
mutual
def ex (T:Tbl) (cf:Cf):Nat -> S -> Ex
 | 0,_,_,_ => none
 | d + 1,s,ρ,hs => match s with
  | .pass => some (.next,ρ,hs)
  | .bad => none
  | .aug i o e => match ρ[i]? with
   | some (some u) => bd (ev T cf d e ρ hs) fun w h1 => (augU o u w).map fun r => (.next,ρ.set i (some r),h1)
   | _ => none
  | .brk => some (.brk,ρ,hs)
  | .cont => some (.cont,ρ,hs)
  | .expr e => bd (ev T cf d e ρ hs) fun _ h1 => some (.next,ρ,h1)
  | .set i e => bd (ev T cf d e ρ hs) fun u h1 => some (.next,ρ.set i (some u),h1)
  | .fld o f e => bd (ev T cf d e ρ hs) fun u h1 => bd (ev T cf d o ρ h1) fun x h2 => match x with
   | .ref n => match h2[n]? with
    | some (.ins c fs) => if fs.length < 500 then some (.next,ρ,h2.set n (.ins c (putU f u fs))) else none
    | _ => none
   | _ => none
  | .ret e => bd (ev T cf d e ρ hs) fun u h1 => some (.ret u,ρ,h1)
  | .retN => some (.ret .non,ρ,hs)
  | .ite t a b => match evT T cf d t ρ hs with
   | some (true,h1) => exs T cf d a ρ h1
   | some (false,h1) => exs T cf d b ρ h1
   | none => none
  | .loop t s body => bd (srcU T (ev T cf d) ρ s hs) fun w h1 => forU T w t (exs T cf d body) (turns T w h1) 0 ρ h1
  | .loopC i e body => bd (ev T cf d e ρ hs) fun u h1 => match lstU T u h1 with
   | some xs => if xs.all scalU = true then (match forC i (exs T cf d body) xs (frg ρ) with
    | some (fl,ρ') => some (fl,ρ',h1)
    | none => none) else none
   | none => none
  | .while t body => whileU (evT T cf d t) (exs T cf d body) 1000000 ρ hs
  | .put o i e => bd (ev T cf d e ρ hs) fun u h1 => bd (ev T cf d o ρ h1) fun x h2 => bd (ev T cf d i ρ h2) fun k h3 => (putI x k u h3).map fun h4 => (.next,ρ,h4)
  | .unp i j e => bd (ev T cf d e ρ hs) fun u h1 => (tgt (.pair i j) (.one u) ρ h1).map fun ρ' => (.next,ρ',h1)
  | .par i j a b => bd (ev T cf d a ρ hs) fun u h1 => bd (ev T cf d b ρ h1) fun w h2 => some (.next,(ρ.set i (some u)).set j (some w),h2)
def exs (T:Tbl) (cf:Cf):Nat -> List S -> Ex
 | 0,_,_,_ => none
 | d + 1,ss,ρ,hs => match ss with
  | [] => some (.next,ρ,hs)
  | s :: r => match ex T cf d s ρ hs with
   | some (.next,ρ1,h1) => exs T cf d r ρ1 h1
   | x => x
end
def dd:Nat:=100
def fin:Option (Fl × Rho × Hs) -> Option (U × Hs)
 | some (.ret u,_,h) => some (u,h)
 | some (.next,_,h) => some (.non,h)
 | _ => none
def rho0 (us:List U) (n:Nat):Rho:=us.map some ++ List.replicate (n - us.length) none
def callF (T:Tbl):Nat -> Cf
 | 0,_,_,_ => none
 | n + 1,f,us,hs => match T.fns[f]? with
  | none => none
  | some F => if us.length = F.np then fin (exs T (callF T n) dd F.body (rho0 us F.nN) hs) else none
end Iv
namespace Iv
open PySem
end Iv
namespace Iv
open PySem
inductive G where
 | fn (i:Nat) | cls (i:Nat) | con (k:Nat) | txt (x:List Nat)
structure Ctx where
 T:Tbl
 N:List Str
 names:List (Str × NameKind)
 gl:List (Str × G)
 bl:List Str
 lc:Bool:=false
def idx (x:Str):List Str -> Option Nat
 | [] => none
 | y :: r => if y = x then some 0 else (idx x r).map (· + 1)
def isVis (C:Ctx) (x:Str):Bool:=match C.names.lookup x with
 | some .local => true | some .cell => true | some .free => true | _ => false
def isLoc (C:Ctx) (x:Str):Bool:=match C.names.lookup x with
 | some .local => true | some .cell => true | _ => false
def isGl (C:Ctx) (x:Str):Bool:=match C.names.lookup x with
 | some .globalImplicit => true | _ => false
def noSuper:Expr -> Bool
 | .Call (.Name _ _) [] [] _ => false
 | _ => true
def notSlice:Expr -> Bool
 | .Slice .. => false
 | _ => true
def tyOf (C:Ctx) (x:Str):Option Ty:=match C.gl.lookup x with
 | some (.cls i) => some (.cls i)
 | some _ => none
 | none => if C.bl.contains x = false then none else if x = "int" then some .int else if x = "str" then some .str else if x = "bool" then some .bool else if x = "list" then some .list else if x = "tuple" then some .tuple else if x = "dict" then some .dict else none
def biOf (C:Ctx) (x:Str):Option Bi:=match C.gl.lookup x with
 | some _ => none
 | none => if C.bl.contains x = false then none else if x = "len" then some .len else if x = "str" then some .str else if x = "sum" then some .sum else if x = "max" then some .max else if x = "min" then some .min else if x = "abs" then some .abs else none
def bmOf (x:Str):Option Bm:=if x = "append" then some .append else none
def plainE:E -> Bool
 | .and _ _ => false
 | .or _ _ => false
 | .not _ => false
 | _ => true
def okT:Expr -> E -> Bool
 | .BoolOp ..,_ => true
 | .UnaryOp .Not ..,_ => true
 | .Compare ..,_ => true
 | _,ir => plainE ir
def rngArgs (C:Ctx) (f:Str) (args:List Expr):Option (List Expr):=none
def conOf:Expr -> Option U
 | .Constant (.int i) _ _ => some (.int i 0)
 | .Constant (.str x) _ _ => some (.str x.cps.toList)
 | _ => none
def disL:List (Option Expr) -> List Expr -> Option (List (U × U))
 | [],[] => some []
 | some k :: ks,v :: vs => (conOf k).bind fun k' => (conOf v).bind fun v' => (disL ks vs).bind fun r => if r.any (fun p => decide (p.1 = k')) then none else some ((k',v') :: r)
 | _,_ => none
def Ctx.inner (C:Ctx) (xs:List Str) (scope:Scope):Ctx:={ C with N:=L2.hideN xs C.N ++ xs,names:=L2.relN C.names scope.names,lc:=false }
def compOk (C:Ctx) (xs:List Str) (scope:Scope):Bool:=(scope.kind == .function) && xs.all (fun x => (scope.names.lookup x == some .local) && (scope.names.lookup (L2.mang x) == none)) && decide (L2.hideN xs C.N ++ xs).Nodup && scope.names.all (fun y => match y.2 with
  | .local => (xs.contains y.1 || decide (y.1 = ".0")) && (scope.names.lookup y.1 == some .local)
  | .free => (C.names.lookup y.1 == some .cell) || (C.names.lookup y.1 == some .free)
  | .cell => false
  | _ => true) && !(C.N.contains ".0")
def isPr:Src -> Bool
 | .zip _ _ => true
 | .enm _ => true
 | _ => false
def okSrc:Src -> Tg -> Bool
 | .zip _ _,.name _ => false
 | .enm _,.name _ => false
 | .revd _,.pair _ _ => false
 | _,_ => true
def tgOf:Expr -> Option (Bool × List Str)
 | .Name x _ => some (false,[x])
 | .Tuple es _ _ => (match es with
  | [a,b] => (match a,b with
   | .Name x _,.Name y _ => some (true,[x,y])
   | _,_ => none)
  | _ => none)
 | _ => none
def ifOf:List Expr -> Option (Option Expr)
 | [] => some none
 | [t] => some (some t)
 | _ => none
structure Gn where
 b:Bool
 xs:List Str
 iter:Expr
 tl:Option Expr
def genOf:List Comprehension -> Option Gn
 | [g] => if g.is_async = 0 then (tgOf g.target).bind fun t => (ifOf g.ifs).map fun tl => ⟨t.1,t.2,g.iter,tl⟩ else none
 | _ => none
def TgIs (tg:Expr) (b:Bool) (xs:List Str):Prop:=(b = false /\ ∃ x p,tg = .Name x p /\ xs = [x]) \/ (b = true /\ ∃ x p y q k pt,tg = .Tuple [.Name x p,.Name y q] k pt /\ xs = [x,y])
theorem tgOf_is {tg:Expr} {b:Bool} {xs:List Str} (h:tgOf tg = some (b,xs)):TgIs tg b xs:=by
 unfold tgOf at h
 split at h
 ·cases h; exact .inl ⟨rfl,_,_,rfl,rfl⟩
 ·split at h
  ·split at h
   ·cases h; exact .inr ⟨rfl,_,_,_,_,_,_,rfl,rfl⟩
   ·cases h
  ·cases h
 ·cases h
theorem genOf_some {gens:List Comprehension} {g:Gn} (h:genOf gens = some g):∃ tg,gens = [⟨tg,g.iter,g.tl.toList,0⟩] /\ TgIs tg g.b g.xs:=by
 unfold genOf at h
 split at h
 ·rename_i c
  split at h
  ·rename_i e
   simp only [Option.bind_eq_some_iff,Option.map_eq_some_iff] at h
   obtain ⟨⟨b,xs⟩,h1,tl,h2,rfl⟩:=h
   obtain ⟨tg,iter,ifs,ia⟩:=c
   simp only at e h1 h2
   subst e
   refine ⟨tg,?_,tgOf_is h1⟩
   have:ifs = tl.toList:=by
    unfold ifOf at h2
    split at h2 <;> cases h2 <;> rfl
   rw [this]
  ·cases h
 ·cases h
inductive Sl where
 | cut (lo hi:Option Expr) | rev | bad
def isM1:Expr -> Bool
 | .UnaryOp .USub (.Constant (.int 1) _ _) _ => true
 | _ => false
def slOf:Expr -> Option Sl
 | .Slice lo hi st _ => (match st with
  | none => some (.cut lo hi)
  | some e => if isM1 e && lo.isNone && hi.isNone then some .rev else some .bad)
 | _ => none
inductive He where
 | tab (ks:List (Option Expr)) (vs:List Expr) | nm (x:Str) | any
def heOf:Expr -> He
 | .Name x _ => .nm x
 | _ => .any
def tabOf (C:Ctx) (x:Str):Option Nat:=if isGl C x && decide (x ≠ "__debug__") then (match C.gl.lookup x with
 | some (.con k) => (match C.T.cons[k]? with | some (.tab _) => some k | _ => none)
 | _ => none) else none
def padC (C:Ctx) (i:Nat) (es:List E):Option E:=match C.T.dfl.lookup i with
 | none => some (.call i es)
 | some D => if es.length <= D.np /\ D.np <= es.length + D.ds.length then some (.call i (es ++ (D.ds.drop (D.ds.length - (D.np - es.length))).map .c)) else none
def kwC (C : Ctx) (f : Str) (n : Nat) (k : Option Str) : Option Nat := if f = "__debug__" \/ f = "__name__" \/ isGl C f = false then none else match C.gl.lookup f with
 | some (.fn i) => (match C.T.dfl.lookup i with
  | some D => if k = some D.last /\ n + 1 = D.np then some i else none
  | none => none)
 | _ => none
mutual
def compE:Nat -> Ctx -> Expr -> Option E
 | 0,_,_ => none
 | m + 1,C,e => match e with
  | .Constant (.int i) _ _ => some (.c (.int i 0))
  | .Constant (.bool b) _ _ => some (.c (.bl b))
  | .Constant .none _ _ => some (.c .non)
  | .Constant (.str x) _ _ => some (.c (.str x.cps.toList))
  | .Name x _ => if x = "__debug__" \/ x = "__classdict__" then none else if isVis C x then (idx x C.N).map .var else if isGl C x then (match C.gl.lookup x with | some (.con k) => some (.con k) | some (.txt t) => some (.c (.str t)) | _ => none) else none
  | .BinOp a o b _ => (compE m C a).bind fun a' => (compE m C b).bind fun b' => some (.op o a' b')
  | .UnaryOp .USub a _ => (compE m C a).bind fun a' => some (.neg a')
  | .UnaryOp .Not a _ => (compT m C a).bind fun a' => some (.not a')
  | .BoolOp .And (a :: r) p => compAnd m C a r p
  | .BoolOp .Or (a :: r) p => compOr m C a r p
  | .Compare a [o] [b] _ => (compE m C a).bind fun a' => (compE m C b).bind fun b' => some (.cmp o a' b')
  | .IfExp t a b _ => (compT m C t).bind fun t' => (compE m C a).bind fun a' => (compE m C b).bind fun b' => some (.ife t' a' b')
  | .Tuple es _ _ => if es.length <= 1000000 then (compA m C es).bind fun es' => some (.tup es') else none
  | .List es _ => if es.length <= 1000000 then (compA m C es).bind fun es' => some (.lst es') else none
  | .Subscript a b _ => match slOf b with
   | some (.cut lo hi) => (compE m C a).bind fun a' => (compO m C lo).bind fun l => (compO m C hi).bind fun h => some (.sl a' l h)
   | some .rev => (compE m C a).bind fun a' => some (.rev a')
   | some .bad => none
   | none => (compE m C b).bind fun b' => match heOf a with
    | .tab ks vs => if decide (ks.length <= 15) && !ks.isEmpty then (disL ks vs).bind fun kvs => some (.dis kvs b') else none
    | .nm x => (match tabOf C x with | some k => some (.tab k b') | none => (compE m C a).bind fun a' => some (.ix a' b'))
    | .any => (compE m C a).bind fun a' => some (.ix a' b')
  | .Attribute a f _ => if noSuper a then (compE m C a).bind fun a' => (idx f C.T.fns').bind fun k => some (.fld a' k) else none
  | .Call (.Name f _) args [] _ => if f = "__debug__" \/ f = "__name__" \/ isGl C f = false then none else match C.gl.lookup f with
   | some (.fn i) => (compA m C args).bind fun es => padC C i es
   | some (.cls i) => (compA m C args).bind fun es => some (.make i es)
   | some (.con _) => none
   | some (.txt _) => none
   | none => if C.bl.contains f = false then none else if f = "isinstance" then (match args with
     | [a, .Name t _] => if isGl C t /\ t ≠ "__debug__" /\ t ≠ "__name__" then (compE m C a).bind fun a' => (tyOf C t).bind fun ty => some (.isi a' ty) else none
     | _ => none)
    else match rngArgs C f args with
     | some ra => (compA m C ra).bind fun es => some (.tupR es)
     | none => (biOf C f).bind fun b => (compA m C args).bind fun es => some (.bi b es)
  | .Call (.Name f _) (a :: args) [kw] _ => (kwC C f (args.length + 1) kw.arg).bind fun i => (compA m C (a :: args)).bind fun es => (compE m C kw.value).bind fun e' => some (.call i (es ++ [e']))
  | .Call (.Attribute o x p) args [] q => if noSuper o && (p.endLine == q.line) && decide (args.length < 29) then match idx x C.T.mns with
   | some k => (compE m C o).bind fun o' => (compA m C args).bind fun es => some (.meth k o' es)
   | none => (bmOf x).bind fun b => (compE m C o).bind fun o' => (compA m C args).bind fun es => some (.bm b o' es) else none
  | .ListComp elt gens scope _ => (match genOf gens with
   | some g => if compOk C g.xs scope then (compSrc m C g.iter).bind fun src => if okSrc src (tgN g.b 0) then (compTO m (C.inner g.xs scope) g.tl).bind fun t => (compE m (C.inner g.xs scope) elt).bind fun el => some (.comp src g.b t el) else none else none
   | none => none)
  | .Dict [] [] _ => some .dnew
  | _ => none
def compT:Nat -> Ctx -> Expr -> Option E
 | 0,_,_ => none
 | m + 1,C,e => match e with
  | .IfExp .. => none
  | .NamedExpr .. => none
  | e => (compE m C e).bind fun ir => if okT e ir then some ir else none
def compTO:Nat -> Ctx -> Option Expr -> Option (Option E)
 | 0,_,_ => none
 | m + 1,C,none => some none
 | m + 1,C,some e => (compT m C e).bind fun e' => some (some e')
def compAnd:Nat -> Ctx -> Expr -> List Expr -> Pos -> Option E
 | 0,_,_,_,_ => none
 | m + 1,C,a,r,p => match r with
  | [] => compT m C a
  | b :: r => (compT m C a).bind fun a' => (compAnd m C b r p).bind fun b' => some (.and a' b')
def compOr:Nat -> Ctx -> Expr -> List Expr -> Pos -> Option E
 | 0,_,_,_,_ => none
 | m + 1,C,a,r,p => match r with
  | [] => compT m C a
  | b :: r => (compT m C a).bind fun a' => (compOr m C b r p).bind fun b' => some (.or a' b')
def compA:Nat -> Ctx -> List Expr -> Option (List E)
 | 0,_,_ => none
 | m + 1,C,es => match es with
  | [] => some []
  | e :: r => (compE m C e).bind fun e' => (compA m C r).bind fun r' => some (e' :: r')
def compO:Nat -> Ctx -> Option Expr -> Option (Option E)
 | 0,_,_ => none
 | m + 1,C,none => some none
 | m + 1,C,some e => (compE m C e).bind fun e' => some (some e')
def compSrc:Nat -> Ctx -> Expr -> Option Src
 | 0,_,_ => none
 | m + 1,C,e => match e with
  | .Call (.Name f p) args [] q => if isGl C f then (match C.gl.lookup f with
   | some _ => (compE m C (.Call (.Name f p) args [] q)).map .seq
   | none => if C.bl.contains f = false then none else if f = "range" then (match args with
     | [a] => (compE m C a).map .rng
     | [a,b] => (compE m C a).bind fun a' => (compE m C b).map fun b' => .rng2 a' b'
     | _ => none)
    else (compE m C (.Call (.Name f p) args [] q)).map .seq) else none
  | e => (compE m C e).map .seq
end
def compTg (C:Ctx):Expr -> Option Tg
 | .Name x _ => if isLoc C x then (idx x C.N).map .name else none
 | .Tuple [.Name x _,.Name y _] _ _ => if isLoc C x && isLoc C y && decide (x ≠ y) then (idx x C.N).bind fun i => (idx y C.N).map fun j => .pair i j else none
 | _ => none
def exOf:Expr -> Option Bool
 | .Constant c _ _ => (match c with | .str _ => some true | _ => none)
 | .ListComp .. => some false
 | _ => none
inductive As where
 | nm (x:Str) | at (o:Expr) (f:Str) | sub (o i:Expr) | two (x:Str) (p:Pos) (y:Str) (q:Pos)
def twoOf:Expr -> Expr -> Option As
 | .Name x p,.Name y q => some (.two x p y q)
 | _,_ => none
def as1:Expr -> Option As
 | .Name x _ => some (.nm x)
 | .Attribute o f _ => some (.at o f)
 | .Subscript o i _ => some (.sub o i)
 | .Tuple es _ _ => (match es with | [a,b] => twoOf a b | _ => none)
 | _ => none
def asOf:List Expr -> Option As
 | [t] => as1 t
 | _ => none
def isLoc1 (C:Ctx) (x:Str):Bool:=match C.names.lookup x with
 | some .local => true | _ => false
def pairOf:Expr -> Option (Expr × Expr)
 | .Tuple es _ _ => (match es with | [a,b] => some (a,b) | _ => none)
 | _ => none
def notTup:Expr -> Bool
 | .Tuple .. => false
 | _ => true
mutual
def compS:Nat -> Ctx -> Stmt -> Option S
 | 0,_,_ => none
 | m + 1,C,s => match s with
  | .Pass _ => some .pass
  | .Break _ => some .brk
  | .Continue _ => some .cont
  | .Expr e _ => (match exOf e with
   | some true => some .pass
   | some false => none
   | none => (compE m C e).map .expr)
  | .Return v _ => (match v with
   | none => some .retN
   | some e => (compE m C e).map .ret)
  | .Assign ts e _ => (match asOf ts with
   | some (.nm x) => if isLoc C x then (idx x C.N).bind fun i => (compE m C e).bind fun e' => some (.set i e') else none
   | some (.at o f) => if noSuper o then (compE m C e).bind fun e' => (compE m C o).bind fun o' => (idx f C.T.fns').bind fun k => some (.fld o' k e') else none
   | some (.sub _ _) => none
   | some (.two x p y q) => if isLoc1 C x && isLoc1 C y && decide (x ≠ y) then (idx x C.N).bind fun i => (idx y C.N).bind fun j => (match pairOf e with
     | some _ => none
     | none => if notTup e then (compE m C e).map (.unp i j) else none) else none
   | none => none)
  | .Raise _ _ _ => some .bad
  | .If t a b _ => (compT m C t).bind fun t' => (compSs m C a).bind fun a' => (compSs m C b).bind fun b' => some (.ite t' a' b')
  | .While t a [] _ => (compT m C t).bind fun t' => (compSs m C a).bind fun a' => some (.while t' a')
  | .For tg it a [] _ => (compTg C tg).bind fun tg' => (compSrc m C it).bind fun it' => if okSrc it' tg' then (compSs m C a).bind fun a' => some (.loop tg' it' a') else none
  | _ => none
def compSs:Nat -> Ctx -> List Stmt -> Option (List S)
 | 0,_,_ => none
 | m + 1,C,ss => match ss with
  | [] => some []
  | s :: r => (compS m C s).bind fun s' => (compSs m C r).bind fun r' => some (s' :: r')
end
end Iv
namespace L2
open PySem PySem.Spec PyProof.Rows
section
variable {X:Cx}
def rCatT0 (K:PySem.W.Frag):R2:=fun x y H Q => ∃ a b ys,x = .ref a /\ y = .ref b /\ SqT K H a [] /\ SqT K H b ys /\ Q (.ref b) H
theorem op_catT0:OpR X (binaryOp .Add) (rCatT0 X.K):=by
 intro pins s σ H x y v u Q I rx ry h
 obtain ⟨a,b,ys,rfl,rfl,ha,hb,q⟩:=h
 cases rx
 cases ry
 obtain ⟨i1,r1,ht,_⟩:=I.tuple ha
 obtain ⟨i2,r2,hb,_⟩:=I.tuple hb
 cases r1
 obtain ⟨⟨cls,dd,data,sl⟩,ho,hc,n,hd⟩:=id ht
 obtain ⟨⟨cls2,dd2,data2,sl2⟩,ho2,hc2,n2,hd2⟩:=id hb
 simp only at hc hd hc2 hd2
 subst hc hd hc2 hd2
 exact concat_meets ⟨_,ho,rfl⟩ ⟨_,ho2,rfl⟩ noFill_tuple_add seq_tuple_add PySem.F.slot_tuple_add PySem.F.entry_tuple_add (PySem.F.args_tuple_add_2 _ _)
  (tuple_addW0 a b _ _ n n2 dd dd2 sl sl2 (by simp)) ⟨ho,ho2,⟨.ref b,H,I.tok _,rfl,q⟩⟩
structure Mk0 (K:PySem.W.Frag) (C:Addr):Prop where
 makes:PySem.W.makesIn K C = true
 init:PySem.W.findIn K (.ref C) "__init__" = some (some (.builtin "object.__init__"))
 kp:PySem.W.keepIn K (.ref C) = true
def tMake00 (C:Addr):TE:=fun _ H Q => ∀ x dx,H x = none -> H dx = none -> dx ≠ x -> Q (.ref x) (upd (upd H dx (.own x)) x (.ins C dx []))
theorem run_make00 {pins:List (Addr × Obj)} {σ:St} {H:Hp} {s:Shared} {Q:VK} {C:Addr} (M:Mk0 X.K C) (I:Inv X pins σ H s)
  (h:∀ x dx,H x = none -> H dx = none -> dx ≠ x -> Q (.ref x) (upd (upd H dx (.own x)) x (.ins C dx []))) :
  wpAny (model X.prog X.w) X.A (call (.ref C) []) (EP X pins σ Q) X.xe s:=by
 have hq:=h (s.heap.objs.size + 1) s.heap.objs.size (I.hok.fresh (Nat.le_succ _)) (I.hok.fresh (Nat.le_refl _)) (Nat.ne_of_lt (Nat.lt_succ_self _))
 have I2:=Inv.made (C:=C) I
 have Y:=PySem.W.makes_of (M:=model X.prog X.w) I.kIn M.makes
 have hob:((s.heap.push PySem.W.emptyDict).push (PySem.W.instObj C s.heap.objs.size)).get? (s.heap.objs.size + 1) = some (PySem.W.instObj C s.heap.objs.size):=by
  have e:(s.heap.push PySem.W.emptyDict).objs.size = s.heap.objs.size + 1:=Heap.size_push ..
  rw [<- e]
  exact Heap.get?_push_size _ rfl
 have t1:PySem.W.Looks (model X.prog X.w) ((s.heap.push PySem.W.emptyDict).push (PySem.W.instObj C s.heap.objs.size)) (typeOf (.ref (s.heap.objs.size + 1))) (.ref C):=(PySem.W.Looks.ld hob).andThen .now
 have t2:PySem.W.Looks (model X.prog X.w) ((s.heap.push PySem.W.emptyDict).push (PySem.W.instObj C s.heap.objs.size)) (isInstance (.ref (s.heap.objs.size + 1)) (.type "object")) true :=
  t1.andThen (Y.top.keeps fun b o e => Heap.get?_push_of_some _ (Heap.get?_push_of_some _ e))
 refine wpAny_call (make_map0 I.kIn M.makes M.init (fun self => PySem.W.Looks.of_pure (PySem.W.oi_bind self)) ?_)
 obtain ⟨hh,g,d,t,os⟩:=s
 refine codeAny_call_builtin PySem.W.oi_plain PySem.W.entry_oi (@PySem.W.check_slot (model X.prog X.w) _ _ _ "object.__init__" "object" "__init__" (.ref (hh.objs.size + 1)) [] [] _ PySem.W.oi_kind PySem.W.oi_split t2 (PySem.W.oi_args (.ref (hh.objs.size + 1))) ?_)
 rw [PySem.W.oi_run]
 exact wpAny_pure (And.intro rfl ⟨V.ref (hh.objs.size + 1),_,I2,rfl,hq⟩)
theorem pe_make00 {C:Addr} {x:Str} {p pos:Pos} (M:Mk0 X.K C) (hg:Gl X x) (hm:X.mg x = some (.ref C)) (hdb:(x == ("__debug__":Str)) = false:=by decide):PE X (.Call (.Name x p) [] [] pos) (tMake00 C):=by
 intro pins s σ H Q I h
 refine wpAny_Call_Name_kw (ld_glob I hg hm ?_ hdb)
 exact PySem.W.callWith_K0 I.kIn M.kp (run_make00 M I h)
def clsV:V -> Option Value
 | .ty n => some (.type n)
 | .ref a => some (.ref a)
 | _ => none
theorem call_isi : CallR X (.builtin "isinstance") (fun xs H Q => ∃ x c cv t b, xs = [x, c] /\ clsV c = some cv /\ TyOf X.K H x t /\ PySem.W.kitOne X.K t cv = some b /\ Q (.bl b) H) := by
 intro pins s σ H xs us Q I r h
 obtain ⟨x,c,cv,t,b,rfl,hc,ty,e,q⟩:=h
 obtain ⟨u,w',rfl,rx,rc⟩:=vals2 r
 have ec:w' = cv:=by
  cases c with
  | ty n => cases (show w' = Value.type n from rc); exact Option.some.inj hc
  | ref a => cases (show w' = Value.ref a from rc); exact Option.some.inj hc
  | _ => cases hc
 subst ec
 exact isinst_ok I rx ty e fun tk => ⟨.bl b,H,I.tok tk,rfl,q⟩
end
end L2
namespace Iv
open PySem PySem.Spec PyProof.Rows L2
abbrev St:=L2.St
structure Adr where
 f:Nat -> Addr
 c:Nat -> Addr
 k:Nat -> Addr
 s:Addr
def Cg (i r:Int) (m:Nat):Prop:=∃ q:Int,i = r + m * q
theorem Cg.exact {i r:Int} (h:Cg i r 0):i = r:=by obtain ⟨q,e⟩:=h; simpa using e
theorem Cg.refl (i:Int) (m:Nat):Cg i i m:=⟨0,by simp⟩
def RU (A:Adr) (α:List Addr):U -> V -> Prop
 | .non,v => v = .non
 | .bl b,v => v = .bl b
 | .int r m,v => ∃ i,v = .int i /\ Cg i r m
 | .str x,v => v = .str ⟨x.toArray⟩
 | .ref n,v => ∃ a,α[n]? = some a /\ v = .ref a
 | .con k,v => v = .ref (A.k k)
 | .scr,v => v = .ref A.s
abbrev RUs (A:Adr) (α:List Addr):List U -> List V -> Prop:=Paired (RU A α)
def RF (T:Tbl) (A:Adr) (α:List Addr):List (Nat × U) -> List (Str × V) -> Prop:=Paired fun p q => T.fns'[p.1]? = some q.1 /\ RU A α p.2 q.2
def RK:U -> Key -> Prop
 | .int i m,k => m = 0 /\ k = Sum.inl i
 | .str x,k => k = Sum.inr ⟨x.toArray⟩
 | _,_ => False
def RD (A:Adr) (α:List Addr):List (U × U) -> List (Key × V) -> Prop:=Paired fun p q => RK p.1 q.1 /\ RU A α p.2 q.2
def RO (T:Tbl) (A:Adr) (α:List Addr) (H:Hp) (a:Addr):O -> Prop
 | .lst xs => ∃ vs,H a = some (.lst vs) /\ RUs A α xs vs
 | .tup xs => ∃ vs,H a = some (.tup vs) /\ RUs A α xs vs
 | .ins c fs => ∃ dx fv,H a = some (.ins (A.c c) dx fv) /\ RF T A α fs fv /\ c < T.cls.length
 | .dic kvs => ∃ kv,H a = some (.dK kv) /\ RD A α kvs kv
structure RH (T:Tbl) (A:Adr) (α:List Addr) (hs:Hs) (H:Hp):Prop where
 len:α.length = hs.length
 nd:α.Nodup
 ob:∀ (n:Nat) a o,α[n]? = some a -> hs[n]? = some o -> RO T A α H a o
def ScrOk (K:PySem.W.Frag) (H:Hp) (a:Addr) (xs:List V):Prop:=(∃ o,H a = some (.frz o (.lst xs))) \/
 ∃ (o : Obj) (its : Array Value) (n : Nat), K.lookup a = some o /\ o.cls = .type "list" /\ o.dict = none /\ o.data = .seq its n /\ its.size <= sizeLine /\ Vals xs its.toList
def Scr (T:Tbl) (A:Adr) (K:PySem.W.Frag) (H:Hp):Prop:=∃ vs,RUs A [] T.scr vs /\ ScrOk K H A.s vs
structure Rep (T:Tbl) (A:Adr) (K:PySem.W.Frag) (α:List Addr) (hs:Hs) (H:Hp):Prop where
 h:RH T A α hs H
 s:Scr T A K H
structure Ext (α α':List Addr) (H H':Hp):Prop where
 pre:∀ (n:Nat) a,α[n]? = some a -> α'[n]? = some a
 new:∀ (n:Nat) a,α'[n]? = some a -> α.length <= n -> H a = none
 keep:∀ b o,H b = some o -> b ∉ α -> H' b = some o
structure RS (A:Adr) (α:List Addr) (ρ:Rho) (σ:St):Prop where
 len:ρ.length = σ.length
 val:∀ (i:Nat) u,ρ[i]? = some (some u) -> ∃ v,σ[i]? = some (some v) /\ RU A α u v
section
variable {T:Tbl} {A:Adr} {K:PySem.W.Frag} {α α' α1 α2:List Addr} {hs hs' h1 h2:Hs} {H H' H1 H2:Hp} {u:U} {v:V} {us:List U} {vs:List V} {ρ:Rho} {σ:St}
theorem RU.mono (p:∀ (n:Nat) a,α[n]? = some a -> α'[n]? = some a) (h:RU A α u v):RU A α' u v:=by
 cases u with
 | ref n => obtain ⟨a,e,r⟩:=h; exact ⟨a,p _ _ e,r⟩
 | _ => exact h
theorem RUs.mono (p:∀ (n:Nat) a,α[n]? = some a -> α'[n]? = some a) (h:RUs A α us vs):RUs A α' us vs:=Paired.mapP h fun _ _ r => RU.mono p r
theorem RF.mono {fs:List (Nat × U)} {fv:List (Str × V)} (p:∀ (n:Nat) a,α[n]? = some a -> α'[n]? = some a) (h:RF T A α fs fv):RF T A α' fs fv:=Paired.mapP h fun _ _ r => ⟨r.1,r.2.mono p⟩
theorem RD.mono {fs:List (U × U)} {fv:List (Key × V)} (p:∀ (n:Nat) a,α[n]? = some a -> α'[n]? = some a) (h:RD A α fs fv):RD A α' fs fv:=Paired.mapP h fun _ _ r => ⟨r.1,r.2.mono p⟩
theorem RS.mono (p:∀ (n:Nat) a,α[n]? = some a -> α'[n]? = some a) (h:RS A α ρ σ):RS A α' ρ σ:=⟨h.len,fun i u e => let ⟨v,e1,r⟩:=h.val i u e; ⟨v,e1,r.mono p⟩⟩
theorem Ext.refl:Ext α α H H:=⟨fun _ _ e => e,fun n a e l => by
 have:=(List.getElem?_eq_some_iff.mp e).1
 omega,fun _ _ e _ => e⟩
theorem getElem?_lt {n:Nat} {a:Addr} (e:α[n]? = some a):n < α.length:=(List.getElem?_eq_some_iff.mp e).1
theorem nodup_at (h:α.Nodup) {i j:Nat} {a:Addr} (e1:α[i]? = some a) (e2:α[j]? = some a):i = j:=by
 obtain ⟨l1,q1⟩:=List.getElem?_eq_some_iff.mp e1
 obtain ⟨l2,q2⟩:=List.getElem?_eq_some_iff.mp e2
 exact (List.getElem_inj h).mp (q1.trans q2.symm)
theorem Ext.trans (a:Ext α α1 H H1) (b:Ext α1 α2 H1 H2) (R:RH T A α2 h2 H2):Ext α α2 H H2 where
 pre:=fun n x e => b.pre n x (a.pre n x e)
 new:=fun n x e l => by
  by_cases hn:n < α1.length
  ·have e1:α1[n]? = some α1[n]:=List.getElem?_eq_getElem hn
   have e2:=b.pre n _ e1
   rw [e] at e2
   cases e2
   exact a.new n _ e1 l
  ·cases q:H x with
   | none => rfl
   | some o =>
    by_cases hx:x ∈ α
    ·obtain ⟨m,hm⟩:=List.getElem?_of_mem hx
     have:=nodup_at R.nd (b.pre m x (a.pre m x hm)) e
     have:=getElem?_lt hm
     omega
    ·have:=a.keep x o q hx
     rw [b.new n x e (by omega)] at this
     cases this
 keep:=fun c o e hc => b.keep c o (a.keep c o e hc) fun hm => by
  obtain ⟨n,hn⟩:=List.getElem?_of_mem hm
  by_cases l:n < α.length
  ·have e1:α[n]? = some α[n]:=List.getElem?_eq_getElem l
   have:=a.pre n _ e1
   rw [hn] at this
   cases this
   exact hc (List.getElem_mem l)
  ·rw [a.new n c hn (by omega)] at e
   cases e
theorem RO.trk {a:Addr} {o:O} (h:RO T A α H a o):∃ x,H a = some x /\ ∀ ob u,x ≠ .frz ob u:=by
 cases o with
 | lst xs => obtain ⟨vs,e,_⟩:=h; exact ⟨_,e,fun _ _ z => nomatch z⟩
 | tup xs => obtain ⟨vs,e,_⟩:=h; exact ⟨_,e,fun _ _ z => nomatch z⟩
 | ins c fs => obtain ⟨dx,fv,e,_⟩:=h; exact ⟨_,e,fun _ _ z => nomatch z⟩
 | dic _ => obtain ⟨kv,e,_⟩:=h; exact ⟨_,e,fun _ _ z => nomatch z⟩
theorem RH.trk (R:RH T A α hs H) {n:Nat} {a:Addr} (e:α[n]? = some a):∃ o,hs[n]? = some o /\ RO T A α H a o:=by
 have l:=getElem?_lt e
 rw [R.len] at l
 exact ⟨hs[n],List.getElem?_eq_getElem l,R.ob n a _ e (List.getElem?_eq_getElem l)⟩
theorem RH.notIn (R:RH T A α hs H) {p:Addr} (h:H p = none):p ∉ α:=fun m => by
 obtain ⟨n,e⟩:=List.getElem?_of_mem m
 obtain ⟨o,_,r⟩:=R.trk e
 obtain ⟨x,e,_⟩:=r.trk
 rw [h] at e
 cases e
theorem RO.keep {a:Addr} {o:O} (h:RO T A α H a o) (p:∀ (n:Nat) a,α[n]? = some a -> α'[n]? = some a) (k:∀ x,H a = some x -> H' a = some x):RO T A α' H' a o:=by
 cases o with
 | lst xs => obtain ⟨vs,e,r⟩:=h; exact ⟨vs,k _ e,RUs.mono p r⟩
 | tup xs => obtain ⟨vs,e,r⟩:=h; exact ⟨vs,k _ e,RUs.mono p r⟩
 | ins c fs => obtain ⟨dx,fv,e,r,l⟩:=h; exact ⟨dx,fv,k _ e,RF.mono p r,l⟩
 | dic _ => obtain ⟨kv,e,r⟩:=h; exact ⟨kv,k _ e,RD.mono p r⟩
theorem Scr.keep (h:Scr T A K H) (k:∀ x,H A.s = some x -> (∃ o u,x = .frz o u) -> H' A.s = some x):Scr T A K H':=by
 obtain ⟨vs,r,q | q⟩:=h
 ·obtain ⟨o,e⟩:=q
  exact ⟨vs,r,.inl ⟨o,k _ e ⟨_,_,rfl⟩⟩⟩
 ·exact ⟨vs,r,.inr q⟩
theorem Scr.sq (h:Scr T A K H):∃ vs,RUs A α T.scr vs /\ SqL K H A.s vs:=by
 obtain ⟨vs,r,q⟩:=h
 refine ⟨vs,RUs.mono (fun n a e => by simp at e) r,?_⟩
 rcases q with ⟨o,e⟩ | q
 ·exact .inl (.inr ⟨o,e⟩)
 ·exact .inr q
theorem snoc_at {p:Addr}:(α ++ [p])[α.length]? = some p:=by simp
theorem snoc_pre {p:Addr}:∀ (n:Nat) a,α[n]? = some a -> (α ++ [p])[n]? = some a:=fun n a e => by
 rw [List.getElem?_append_left (getElem?_lt e)]
 exact e
theorem snoc_cases {β:Type} {l:List β} {p a:β} {n:Nat} (e:(l ++ [p])[n]? = some a):l[n]? = some a \/ (n = l.length /\ a = p):=by
 by_cases h:n < l.length
 ·rw [List.getElem?_append_left h] at e
  exact .inl e
 ·rw [List.getElem?_append_right (by omega)] at e
  have:n - l.length = 0:=by
   cases q:n - l.length with
   | zero => rfl
   | succ k => rw [q] at e; simp at e
  rw [this] at e
  simp at e
  exact .inr ⟨by omega,e.symm⟩
theorem nodup_snoc {l:List Addr} {p:Addr} (h:l.Nodup) (n:p ∉ l):(l ++ [p]).Nodup:=by
 induction l with
 | nil => simp
 | cons a r ih =>
  obtain ⟨h1,h2⟩:=List.nodup_cons.mp h
  rw [List.cons_append]
  refine List.nodup_cons.mpr ⟨fun m => ?_,ih h2 fun m => n (List.mem_cons_of_mem _ m)⟩
  rcases List.mem_append.mp m with m | m
  ·exact h1 m
  ·exact n (List.mem_cons.mpr (.inl (List.mem_singleton.mp m).symm))
theorem Rep.new {p:Addr} {o:O} {ho:HO} (R:Rep T A K α hs H) (hp:H p = none) (r:RO T A (α ++ [p]) (upd H p ho) p o):Rep T A K (α ++ [p]) (hs ++ [o]) (upd H p ho) /\ Ext α (α ++ [p]) H (upd H p ho):=by
 have ne:∀ b x,H b = some x -> b ≠ p:=fun b x e z => by rw [z,hp] at e; cases e
 refine ⟨⟨⟨by simp [R.h.len],nodup_snoc R.h.nd (R.h.notIn hp),fun n a ob e1 e2 => ?_⟩,R.s.keep fun x e _ => by rw [upd_ne (ne _ _ e)]; exact e⟩,⟨snoc_pre,fun n a e l => ?_,fun b x e _ => by rw [upd_ne (ne _ _ e)]; exact e⟩⟩
 ·rcases snoc_cases e1 with q | ⟨q1,q2⟩
  ·rcases snoc_cases e2 with z | ⟨z,_⟩
   ·exact RO.keep (R.h.ob n a ob q z) snoc_pre fun x e => by rw [upd_ne (ne _ _ e)]; exact e
   ·have:=getElem?_lt q
    rw [R.h.len] at this
    omega
  ·subst q2
   rcases snoc_cases e2 with z | ⟨_,z⟩
   ·have:=(List.getElem?_eq_some_iff.mp z).1
    rw [<- R.h.len] at this
    omega
   ·subst z
    exact r
 ·rcases snoc_cases e with q | ⟨_,q⟩
  ·have:=getElem?_lt q
   omega
  ·rw [q]; exact hp
theorem Rep.put {n:Nat} {a:Addr} {o:O} {ho:HO} (R:Rep T A K α hs H) (ha:α[n]? = some a) (r:RO T A α (upd H a ho) a o):Rep T A K α (hs.set n o) (upd H a ho) /\ Ext α α H (upd H a ho):=by
 have ta:=R.h.trk ha
 obtain ⟨o0,_,r0⟩:=ta
 obtain ⟨x0,e0,nf⟩:=r0.trk
 refine ⟨⟨⟨by simp [R.h.len],R.h.nd,fun m b ob e1 e2 => ?_⟩,R.s.keep fun x e z => ?_⟩,⟨fun _ _ e => e,fun m b e l => by have:=getElem?_lt e; omega,fun b x e hb => ?_⟩⟩
 ·by_cases hm:m = n
  ·subst hm
   rw [ha] at e1
   cases e1
   have l:m < hs.length:=by rw [<- R.h.len]; exact getElem?_lt ha
   rw [List.getElem?_set_self l] at e2
   cases e2
   exact r
  ·rw [List.getElem?_set_ne (Ne.symm hm)] at e2
   have hb:b ≠ a:=fun z => hm (nodup_at R.h.nd (z ▸ e1) ha)
   exact RO.keep (R.h.ob m b ob e1 e2) (fun _ _ e => e) fun x e => by rw [upd_ne hb]; exact e
 ·obtain ⟨ob,u,z⟩:=z
  have hb:A.s ≠ a:=fun q => by rw [q,e0] at e; cases e; exact nf _ _ z
  rw [upd_ne hb]
  exact e
 ·have hb':b ≠ a:=fun z => hb (z ▸ List.mem_of_getElem? ha)
  rw [upd_ne hb']
  exact e
theorem RS.get (R:RS A α ρ σ) {i:Nat} {u:U} (e:ρ[i]? = some (some u)):∃ v,σ[i]? = some (some v) /\ RU A α u v:=R.val i u e
theorem RS.set (R:RS A α ρ σ) (i:Nat) (r:RU A α u v):RS A α (ρ.set i (some u)) (σ.set i (some v)):=by
 refine ⟨by simp [R.len],fun j w e => ?_⟩
 by_cases h:j = i
 ·subst h
  have l:j < ρ.length:=by
   have:=(List.getElem?_eq_some_iff.mp e).1
   simpa using this
  rw [List.getElem?_set_self l] at e
  cases e
  exact ⟨v,List.getElem?_set_self (by rw [<- R.len]; exact l),r⟩
 ·rw [List.getElem?_set_ne (Ne.symm h)] at e
  rw [List.getElem?_set_ne (Ne.symm h)]
  exact R.val j w e
end
def flE (A:Adr) (α:List Addr) (D:Ends) (σ:St) (H:Hp):Fl -> Prop
 | .next => D.nx σ H
 | .brk => D.bk σ H
 | .cont => D.ct σ H
 | .ret u => ∀ v,RU A α u v -> D.rt v H
section
variable (T:Tbl) (A:Adr) (K:PySem.W.Frag)
def TI (f:Rho -> Hs -> Option (U × Hs)):TE:=fun σ H Q => ∃ α ρ hs u hs',RS A α ρ σ /\ Rep T A K α hs H /\ f ρ hs = some (u,hs') /\
 ∀ α' v H',Ext α α' H H' -> Rep T A K α' hs' H' -> RU A α' u v -> Q v H'
def TIT (f:Rho -> Hs -> Option (Bool × Hs)):TT:=fun σ H Q => ∃ α ρ hs u hs',RS A α ρ σ /\ Rep T A K α hs H /\ f ρ hs = some (u,hs') /\
 ∀ α' H',Ext α α' H H' -> Rep T A K α' hs' H' -> Q u H'
def TIA (f:Rho -> Hs -> Option (List U × Hs)):TA:=fun σ H Q => ∃ α ρ hs us hs',RS A α ρ σ /\ Rep T A K α hs H /\ f ρ hs = some (us,hs') /\
 ∀ α' vs H',Ext α α' H H' -> Rep T A K α' hs' H' -> RUs A α' us vs -> Q vs H'
def TIS (f:Ex):TS:=fun D σ H => ∃ α ρ hs fl ρ' hs',RS A α ρ σ /\ Rep T A K α hs H /\ f ρ hs = some (fl,ρ',hs') /\
 ∀ α' σ' H',Ext α α' H H' -> Rep T A K α' hs' H' -> RS A α' ρ' σ' -> flE A α' D σ' H' fl
end
section
variable {T:Tbl} {A:Adr} {K:PySem.W.Frag} {α:List Addr} {ρ:Rho} {σ:St} {hs h1:Hs} {H:Hp}
theorem TI.run {f:Rho -> Hs -> Option (U × Hs)} {u:U} {Q:VK} (rs:RS A α ρ σ) (rp:Rep T A K α hs H) (h:f ρ hs = some (u,h1))
  (k:∀ α1 v H1,Ext α α1 H H1 -> Rep T A K α1 h1 H1 -> RU A α1 u v -> RS A α1 ρ σ -> Q v H1):TI T A K f σ H Q :=
 ⟨α,ρ,hs,u,h1,rs,rp,h,fun α1 v H1 e r q => k α1 v H1 e r q (rs.mono e.pre)⟩
theorem TIT.run {f:Rho -> Hs -> Option (Bool × Hs)} {u:Bool} {Q:Bool -> Hp -> Prop} (rs:RS A α ρ σ) (rp:Rep T A K α hs H) (h:f ρ hs = some (u,h1))
  (k:∀ α1 H1,Ext α α1 H H1 -> Rep T A K α1 h1 H1 -> RS A α1 ρ σ -> Q u H1):TIT T A K f σ H Q :=
 ⟨α,ρ,hs,u,h1,rs,rp,h,fun α1 H1 e r => k α1 H1 e r (rs.mono e.pre)⟩
theorem TIA.run {f:Rho -> Hs -> Option (List U × Hs)} {us:List U} {Q:List V -> Hp -> Prop} (rs:RS A α ρ σ) (rp:Rep T A K α hs H) (h:f ρ hs = some (us,h1))
  (k:∀ α1 vs H1,Ext α α1 H H1 -> Rep T A K α1 h1 H1 -> RUs A α1 us vs -> RS A α1 ρ σ -> Q vs H1):TIA T A K f σ H Q :=
 ⟨α,ρ,hs,us,h1,rs,rp,h,fun α1 v H1 e r q => k α1 v H1 e r q (rs.mono e.pre)⟩
end
section
variable {X:Cx}
theorem PEimp {e:Expr} {t t':TE} (h:PE X e t) (i:∀ σ H Q,t' σ H Q -> t σ H Q):PE X e t':=fun pins s σ H Q I q => h pins s σ H Q I (i σ H Q q)
theorem PTimp {e:Expr} {t t':TT} (h:PT X e t) (i:∀ σ H Q,t' σ H Q -> t σ H Q):PT X e t':=fun pins s σ H Q I q => h pins s σ H Q I (i σ H Q q)
theorem PWimp {e:Expr} {t t':TT} (h:PW X e t) (i:∀ σ H Q,t' σ H Q -> t σ H Q):PW X e t':=fun wh pins s σ H Q I q => h wh pins s σ H Q I (i σ H Q q)
theorem PAimp {es:List Expr} {t t':TA} (h:PA X es t) (i:∀ σ H Q,t' σ H Q -> t σ H Q):PA X es t':=fun pos pins s σ H Q I q => h pos pins s σ H Q I (i σ H Q q)
theorem PSimp {st:Stmt} {t t':TS} (h:PS X st t) (i:∀ D σ H,t' D σ H -> t D σ H):PS X st t':=fun pins s σ H D I q => h pins s σ H D I (i D σ H q)
theorem PSsimp {st:List Stmt} {t t':TS} (h:PSs X st t) (i:∀ D σ H,t' D σ H -> t D σ H):PSs X st t':=fun pins s σ H D I q => h pins s σ H D I (i D σ H q)
end
end Iv
namespace Iv
open PySem PySem.Spec PyProof.Rows L2
def tyV:Ty -> String
 | .non => "NoneType" | .bool => "bool" | .int => "int" | .str => "str" | .list => "list" | .tuple => "tuple" | .dict => "dict" | .cls _ => "object"
def tyW (A:Adr):Ty -> Value
 | .cls c => .ref (A.c c)
 | t => .type (tyV t)
structure ClOk (T:Tbl) (A:Adr) (K:PySem.W.Frag) (i:Nat) (C:Cl):Prop where
 cls:Cls K (A.c i)
 nf:∀ x ∈ T.fns',NoAttr K (A.c i) x
 me:∀ m f,C.meths.lookup m = some f -> ∃ x,T.mns[m]? = some x /\ Meth K (A.c i) x (A.f f)
 mks:PySem.W.makesIn K (A.c i) = true
 kp:PySem.W.keepIn K (.ref (A.c i)) = true
 ini:match C.init with
  | some f => PySem.W.findIn K (.ref (A.c i)) "__init__" = some (some (.ref (A.f f))) /\ PySem.W.isFn K (.ref (A.f f)) = true
  | none => PySem.W.findIn K (.ref (A.c i)) "__init__" = some (some (.builtin "object.__init__"))
 ty:∀ (H:Hp) (a dx:Addr) (fs:List (Str × V)),H a = some (.ins (A.c i) dx fs) -> TyOf K H (.ref a) (.ref (A.c i))
structure FunD (K:PySem.W.Frag) (x qual:Str) (st:Stmt) (f:Addr) (fd:FuncData):Prop where
 ex:∃ (oc:Value) (od:Option Addr) (dV kV doc pm:Value) (an:Option Addr) (cdv ct:Value) (osl:Array (Option Value)),
  fd = PySem.W.fnOf x qual (defArgs st) (defBody st) (defScope st) dV kV doc pm an cdv ct /\ K.lookup f = some ⟨oc,od,.func fd,osl⟩ /\ PySem.W.codeIn K cdv qual = true
 kp:PySem.W.keepIn K (.ref f) = true
theorem FunD.ok {P:Program} {w:World} {K:PySem.W.Frag} {mg:Str -> Option Value} {base:Heap} {x qual:Str} {st:Stmt} {f:Addr} {fd:FuncData} {N ps:List Str} {k:Nat} {sp:Sp} (F:FunD K x qual st f fd) (S:FnScope N ps (defScope st)) (len:∀ vs H Q E,sp vs H Q E -> vs.length = ps.length)
  (hbody:∀ (cdv:Value) (A:Around) (outer:List Env) (s:Shared) (H:Hp) (vs:List V) (Q:VK) (E:XK),Room k (A.deeper (envOfC qual (defScope st) s.heap.objs.size f cdv)) -> sp vs H Q E ->
   ∃ t,PSs (cxOf CX0 P w K mg base N qual (defScope st) f cdv A outer s H E).nox (defBody st) t /\ t { nx:=fun _ H' => Q .non H',rt:=Q } (start N vs) H):FnOk P w K mg base CX0 (k + 1) f fd ps sp:=by
 obtain ⟨oc,od,dV,kV,doc,pm,an,cdv,ct,osl,rfl,lk,hcd⟩:=F.ex
 refine fn_of lk hcd S len fun A outer s H vs Q E hr hsp => ?_
 obtain ⟨t,h,q⟩:=hbody cdv A outer s H vs Q E hr hsp
 exact ⟨t,h.nox,q⟩
theorem FunD.same {K:PySem.W.Frag} {x y q q':Str} {st st':Stmt} {f:Addr} {fd fd':FuncData} (a:FunD K x q st f fd) (b:FunD K y q' st' f fd'):fd = fd':=by
 obtain ⟨_,_,_,_,_,_,_,_,_,_,_,l1,_⟩:=a.ex
 obtain ⟨_,_,_,_,_,_,_,_,_,_,_,l2,_⟩:=b.ex
 rw [l1] at l2
 cases l2
 rfl
def kg {β:Type} (us ws:List β):List β:=us ++ ws.take 1
def DfOk (A:Adr) (K:PySem.W.Frag) (fd:FuncData) (D:Df):Prop:=∃ (ds:List Value) (dvs:List V),RUs A [] D.ds dvs /\ Vals dvs ds /\ (∀ n,Binds K fd D.ps (ds.drop n)) /\ KBinds K fd D.ps [D.last] kg kg
structure Txt (T:Tbl) (A:Adr) (K:PySem.W.Frag) (mg:Str -> Option Value):Prop where
 fn:∀ i F,T.fns[i]? = some F -> ∃ fd,FunD K F.name F.qual F.st (A.f i) fd /\ Binds K fd F.ps [] /\ FnScope F.N F.ps (defScope F.st) /\ F.ps.length = F.np /\ F.N.length = F.nN
 df:∀ i D,T.dfl.lookup i = some D -> ∃ fd x q st,FunD K x q st (A.f i) fd /\ DfOk A K fd D /\ ∀ F,T.fns[i]? = some F -> F.ps = D.ps /\ F.np = D.np
 cl:∀ i C,T.cls[i]? = some C -> ClOk T A K i C
 fm:∀ x ∈ T.fns',x ∉ T.mns
 fd:T.fns'.Nodup
 isi:∀ k t b,T.isi.lookup (k,t) = some b -> PySem.W.kitOne K (tyW A k) (tyW A t) = some b
 co:∀ k c,T.cons[k]? = some c -> match c with
  | Co.tup xs => ∃ vs,RUs A [] xs vs /\ ∀ H,SqT K H (A.k k) vs
  | Co.lst xs => ∃ vs,RUs A [] xs vs /\ ∀ H,SqL K H (A.k k) vs
  | Co.tab _ => True
def keyR:U -> Key -> Prop
 | .int i 0,k => k = .inl i
 | .str x,k => k = .inr ⟨x.toArray⟩
 | _,_ => False
def TabOk (P:Program) (w:World) (T:Tbl) (A:Adr) (K:PySem.W.Frag):Prop:=∀ k kvs,T.cons[k]? = some (.tab kvs) ->
 ∃ vs:List (Key × Value),(A.k k == sysModules) = false /\ (∀ h:Heap,K.In h -> h.DictOf (mixKind P w) (A.k k) vs) /\ Paired (fun (p:U × U) (q:Key × Value) => keyR p.1 q.1 /\ ∃ v,RU A [] p.2 v /\ RelV v q.2) kvs vs
structure GX (T:Tbl) (A:Adr) (C:Ctx) (X:Cx):Prop where
 CT:C.T = T
 N:X.N = C.N
 nd:X.N.Nodup
 sc:X.env.scope.names = C.names
 calm:X.calm = true
 kind:X.env.scope.kind = .function
 xe:X.xe = fun _ _ => False
 gfn:∀ x i,C.gl.lookup x = some (.fn i) -> X.mg x = some (.ref (A.f i))
 gcl:∀ x i,C.gl.lookup x = some (.cls i) -> X.mg x = some (.ref (A.c i))
 gco:∀ x k,C.gl.lookup x = some (.con k) -> X.mg x = some (.ref (A.k k))
 gtx:∀ x t,C.gl.lookup x = some (.txt t) -> ∃ k,X.mg x = some (.str ⟨t.toArray⟩ k)
 blt:∀ x,¬ C.bl.contains x = false -> X.mg x = none
 txt:Txt T A X.K X.mg
 tab:TabOk X.prog X.w T A X.K
def spC (T:Tbl) (A:Adr) (K:PySem.W.Frag) (cf:Cf) (f:Nat):Sp:=fun vs H Q _ => ∃ α us hs u hs',RUs A α us vs /\ Rep T A K α hs H /\ cf f us hs = some (u,hs') /\ (∃ F,T.fns[f]? = some F /\ us.length = F.np) /\
 ∀ α' v H',Ext α α' H H' -> Rep T A K α' hs' H' -> RU A α' u v -> Q v H'
theorem idx_get {x:Str}:∀ {N:List Str} {i:Nat},idx x N = some i -> N[i]? = some x
 | [],_,h => by simp [idx] at h
 | y :: r,i,h => by
  unfold idx at h
  split at h
  ·rename_i e
   cases h
   simp [e]
  ·cases q:idx x r with
   | none => rw [q] at h; cases h
   | some j =>
    rw [q] at h
    cases h
    simpa using idx_get q
theorem vis_of {T:Tbl} {A:Adr} {C:Ctx} {X:Cx} {x:Str} (g:GX T A C X) (h:isVis C x = true):Vis X.env.scope x:=by
 unfold isVis at h
 unfold Vis
 rw [g.sc]
 split at h <;> simp_all
theorem loc_of {T:Tbl} {A:Adr} {C:Ctx} {X:Cx} {x:Str} (g:GX T A C X) (h:isLoc C x = true):L2.Loc X.env.scope x:=by
 unfold isLoc at h
 unfold L2.Loc
 rw [g.sc]
 split at h <;> simp_all
theorem gl_of {T:Tbl} {A:Adr} {C:Ctx} {X:Cx} {x:Str} (g:GX T A C X) (h:isGl C x = true):Gl X x:=by
 unfold isGl at h
 show X.env.scope.names.lookup x = some .globalImplicit
 rw [g.sc]
 split at h
 ·assumption
 ·cases h
theorem ne_beq {x y:Str} (h:x ≠ y):(x == y) = false:=by simpa using h
theorem noSuper_base {o:Expr} {f:Str} {env:Env} {w:Sem Value} (h:noSuper o = true):attributeBase o f env w = w:=by
 unfold attributeBase
 split
 ·cases h
 ·rfl
theorem plainIx_of {b:Expr} (h:notSlice b = true):PlainIx b:=by
 intro o i
 cases b <;> first | rfl | cases h
theorem star_cons {e:Expr} {es:List Expr} {env:Env} (h:∀ x p,e ≠ .Starred x p):starEach (e :: es) env = (false,eval e env) :: starEach es env:=by
 cases e <;> first | rfl | exact absurd rfl (h _ _)
def NoStar (es:List Expr):Prop:=∀ e ∈ es,∀ x p,e ≠ .Starred x p
theorem star_any {env:Env} {pos:Pos}:∀ {es:List Expr},NoStar es -> (backTo pos (starEach es env)).any (·.1) = false
 | [],_ => rfl
 | e :: r,h => by
  rw [star_cons (h e (List.mem_cons_self ..))]
  have ih:=star_any (env:=env) (pos:=pos) (es:=r) fun x hx => h x (List.mem_cons_of_mem _ hx)
  unfold backTo at ih ⊢
  rw [List.map_cons,List.any_cons,ih]
  rfl
theorem compE_noStar {m:Nat} {C:Ctx} {e:Expr} {ir:E} (h:compE m C e = some ir):∀ x p,e ≠ .Starred x p:=by
 rintro x p rfl
 cases m <;> simp [compE] at h
theorem compA_noStar {C:Ctx}:∀ {m:Nat} {es:List Expr} {irs:List E},compA m C es = some irs -> NoStar es
 | 0,_,_,h => by simp [compA] at h
 | m + 1,[],_,_ => fun _ h => nomatch h
 | m + 1,e :: r,irs,h => by
  simp only [compA,Option.bind_eq_some_iff] at h
  obtain ⟨e',he,r',hr,_⟩:=h
  intro x hx
  rcases List.mem_cons.mp hx with rfl | hx
  ·exact compE_noStar he
  ·exact compA_noStar hr x hx
section
variable {T:Tbl} {A:Adr} {K:PySem.W.Frag} {α:List Addr} {hs hs':Hs} {H:Hp} {u w:U} {v y:V}
theorem RUs.length {us:List U} {vs:List V} (r:RUs A α us vs):us.length = vs.length:=Paired.length r
theorem RUs.get:∀ {us:List U} {vs:List V} {i:Nat} {u:U},RUs A α us vs -> us[i]? = some u -> ∃ v,vs[i]? = some v /\ RU A α u v
 | _,_,_,_,.nil,e => by simp at e
 | _,_,0,_,.cons r _,e => by simp at e; subst e; exact ⟨_,rfl,r⟩
 | _,_,i + 1,u,.cons _ t,e => by
  obtain ⟨v,h1,h2⟩:=RUs.get (i:=i) (u:=u) t (by simpa using e)
  exact ⟨v,by simpa using h1,h2⟩
theorem RUs.append:∀ {us ws:List U} {vs ys:List V},RUs A α us vs -> RUs A α ws ys -> RUs A α (us ++ ws) (vs ++ ys)
 | _,_,_,_,.nil,s => s
 | _,_,_,_,.cons r t,s => .cons r (RUs.append t s)
theorem seqU_ok {xs:List U} {K':PySem.W.Frag} {mg:Str -> Option Value} (tx:Txt T A K mg) (R:Rep T A K α hs H) (h:seqU T u hs = some xs) (r:RU A α u v):∃ a vs,v = .ref a /\ RUs A α xs vs /\ (SqL K H a vs \/ SqT K H a vs):=by
 cases u with
 | ref n =>
  obtain ⟨a,ha,rfl⟩:=r
  simp only [seqU] at h
  split at h
  ·rename_i ys e
   cases h
   obtain ⟨vs,q,rr⟩:=R.h.ob n a _ ha e
   exact ⟨a,vs,rfl,rr,.inl (SqL.of q)⟩
  ·rename_i ys e
   cases h
   obtain ⟨vs,q,rr⟩:=R.h.ob n a _ ha e
   exact ⟨a,vs,rfl,rr,.inr (SqT.of q)⟩
  ·cases h
 | con k =>
  simp only [seqU] at h
  split at h
  ·rename_i ys e
   cases h
   obtain ⟨vs,rr,q⟩:=tx.co k _ e
   exact ⟨_,vs,r,RUs.mono (fun n a e => by simp at e) rr,.inl (q H)⟩
  ·rename_i ys e
   cases h
   obtain ⟨vs,rr,q⟩:=tx.co k _ e
   exact ⟨_,vs,r,RUs.mono (fun n a e => by simp at e) rr,.inr (q H)⟩
  ·cases h
 | scr =>
  simp only [seqU] at h
  cases h
  obtain ⟨vs,rr,q⟩:=R.s.sq (α:=α)
  exact ⟨_,vs,r,rr,.inl q⟩
 | _ => simp [seqU] at h
theorem cps_str (x:List Nat):({ cps:=x.toArray }:Str).length = x.length:=by simp [Str.length]
theorem big:(1000000:Nat) <= sizeLine:=by decide
theorem truU_ok {b:Bool} {mg:Str -> Option Value} (tx:Txt T A K mg) (R:Rep T A K α hs H) (h:truU T u hs = some b) (r:RU A α u v):TruV K v H b:=by
 have sq:∀ {xs:List U},seqU T u hs = some xs -> b = !xs.isEmpty -> TruV K v H b:=fun {xs} e1 e2 => by
  obtain ⟨a,vs,rfl,rr,q⟩:=seqU_ok (K':=K) tx R e1 r
  have e3:b = !vs.isEmpty:=by
   rw [e2]
   cases rr <;> rfl
  rcases q with q | q
  ·exact .inl ⟨vs,q,e3⟩
  ·exact .inr (.inl ⟨vs,q,e3⟩)
 cases u with
 | non => simp only [truU] at h; cases h; cases r; rfl
 | bl c => simp only [truU] at h; cases h; cases r; rfl
 | int i m =>
  cases m with
  | zero =>
   simp only [truU] at h
   cases h
   obtain ⟨j,rfl,c⟩:=r
   cases c.exact
   show decide (i ≠ 0) = (i != 0)
   by_cases q:i = 0 <;> simp [q]
  | succ m => simp [truU,seqU] at h
 | str x =>
  simp only [truU] at h
  split at h
  ·rename_i l
   cases h
   cases (show v = .str ⟨x.toArray⟩ from r)
   refine ⟨by rw [cps_str]; exact Nat.le_trans l big,?_⟩
   rw [cps_str]
   cases x <;> simp
   omega
  ·cases h
 | ref n =>
  simp only [truU,Option.map_eq_some_iff] at h
  obtain ⟨xs,e1,e2⟩:=h
  exact sq e1 e2.symm
 | con n =>
  simp only [truU,Option.map_eq_some_iff] at h
  obtain ⟨xs,e1,e2⟩:=h
  exact sq e1 e2.symm
 | scr =>
  simp only [truU,Option.map_eq_some_iff] at h
  obtain ⟨xs,e1,e2⟩:=h
  exact sq e1 e2.symm
end
end Iv
namespace Iv
open PySem PySem.Spec PyProof.Rows L2
theorem cg_add {i' i j' j:Int} {m n:Nat} (a:Cg i' i m) (b:Cg j' j n):Cg (i' + j') (i + j) (gz m n):=by
 obtain ⟨p,rfl⟩:=a
 obtain ⟨q,rfl⟩:=b
 cases m with
 | zero => exact ⟨q,by simp [gz]; omega⟩
 | succ m =>
  obtain ⟨x,hx⟩:=Nat.gcd_dvd_left (m + 1) n
  obtain ⟨y,hy⟩:=Nat.gcd_dvd_right (m + 1) n
  refine ⟨x * p + y * q,?_⟩
  have e1:((m + 1:Nat):Int) = (Nat.gcd (m + 1) n:Int) * (x:Int):=by
   have:=congrArg (fun z:Nat => (z:Int)) hx
   simpa using this
  have e2:(n:Int) = (Nat.gcd (m + 1) n:Int) * (y:Int):=by
   have:=congrArg (fun z:Nat => (z:Int)) hy
   simpa using this
  show i + ((m + 1:Nat):Int) * p + (j + (n:Int) * q) = i + j + (Nat.gcd (m + 1) n:Int) * (x * p + y * q)
  rw [Int.mul_add,<- Int.mul_assoc,<- Int.mul_assoc,<- e1,<- e2]
  omega
theorem cg_neg {i' i:Int} {m:Nat} (a:Cg i' i m):Cg (-i') (-i) m:=by
 obtain ⟨p,rfl⟩:=a
 exact ⟨-p,by rw [Int.mul_neg]; omega⟩
theorem cg_sub {i' i j' j:Int} {m n:Nat} (a:Cg i' i m) (b:Cg j' j n):Cg (i' - j') (i - j) (gz m n):=by
 have:=cg_add a (cg_neg b)
 rw [Int.sub_eq_add_neg,Int.sub_eq_add_neg]
 exact this
theorem cg_mul {i' i j:Int} {m:Nat} (a:Cg i' i m):Cg (i' * j) (i * j) (m * j.natAbs):=by
 obtain ⟨p,rfl⟩:=a
 rcases Int.natAbs_eq j with e | e
 ·refine ⟨p,?_⟩
  rw [Int.add_mul,Int.natCast_mul,<- e,Int.mul_right_comm]
 ·refine ⟨-p,?_⟩
  have e':(j.natAbs:Int) = -j:=by omega
  rw [Int.add_mul,Int.natCast_mul,e',Int.mul_neg,Int.mul_neg,Int.neg_mul,Int.neg_neg,Int.mul_right_comm]
theorem cg_div {i' i j:Int} {m:Nat} (a:Cg i' i m) (hj:0 < j) (hd:m % j.toNat = 0):Cg (i' / j) (i / j) (m / j.toNat):=by
 obtain ⟨p,rfl⟩:=a
 have e:(m:Int) = j * ((m / j.toNat:Nat):Int):=by
  have h:=Nat.div_add_mod m j.toNat
  rw [hd,Nat.add_zero] at h
  have h2:=congrArg (fun z:Nat => (z:Int)) h
  have h3:((j.toNat:Nat):Int) = j:=by omega
  simp only [Int.natCast_mul,h3] at h2
  exact h2.symm
 refine ⟨p,?_⟩
 rw [e,Int.mul_assoc,Int.add_mul_ediv_left _ _ (by omega)]
theorem cg_mod {i' i j:Int} {m:Nat} (a:Cg i' i m) (hj:0 < j) (hd:m % j.toNat = 0):i' % j = i % j:=by
 obtain ⟨p,rfl⟩:=a
 have e:(m:Int) = j * ((m / j.toNat:Nat):Int):=by
  have h:=Nat.div_add_mod m j.toNat
  rw [hd,Nat.add_zero] at h
  have h2:=congrArg (fun z:Nat => (z:Int)) h
  have h3:((j.toNat:Nat):Int) = j:=by omega
  simp only [Int.natCast_mul,h3] at h2
  exact h2.symm
 rw [e,Int.mul_assoc,Int.add_mul_emod_self_left]
theorem small64_of {i:Int} (h:small64 i = true):-(2 ^ 64) < i /\ i < 2 ^ 64:=by
 unfold small64 at h
 rw [Bool.and_eq_true,decide_eq_true_eq,decide_eq_true_eq] at h
 exact h
theorem str_app (x y:List Nat):({ cps:=x.toArray }:Str) ++ ({ cps:=y.toArray }:Str) = { cps:=(x ++ y).toArray }:=by
 show Str.append _ _ = _
 simp [Str.append]
def OpS (X:Cx) (T:Tbl) (A:Adr) (o:Operator):Prop:=∃ r,OpR X (binaryOp o) r /\ ∀ {α:List Addr} {u w u':U} {hs hs':Hs} {v y:V} {H:Hp} {Q:VK},opU o u w hs = some (u',hs') -> RU A α u v -> RU A α w y -> Rep T A X.K α hs H ->
 (∀ α' v' H',Ext α α' H H' -> Rep T A X.K α' hs' H' -> RU A α' u' v' -> Q v' H') -> r v y H Q
section
variable {X:Cx} {T:Tbl} {A:Adr}
theorem opS_none {o:Operator} (h:∀ u w hs,opU o u w hs = none):OpS X T A o:=⟨fun _ _ _ _ => False,fun _ _ _ _ _ _ _ _ _ _ _ _ h => h.elim,fun e => by rw [h] at e; cases e⟩
theorem opS_by {o:Operator} {f:U -> U -> Option U} {r:R2} (ho:OpR X (binaryOp o) r) (hf:∀ u w hs,opU o u w hs = (f u w).map fun z => (z,hs))
  (h:∀ {α:List Addr} {u w z:U} {v y:V} {H:Hp} {Q:VK},f u w = some z -> RU A α u v -> RU A α w y -> (∀ v',RU A α z v' -> Q v' H) -> r v y H Q):OpS X T A o:=by
 refine ⟨r,ho,?_⟩
 intro α u w u' hs hs' v y H Q e ru rw R k
 rw [hf,Option.map_eq_some_iff] at e
 obtain ⟨z,e,q⟩:=e
 cases q
 exact h e ru rw fun v' r' => k α v' H Ext.refl R r'
theorem exactU {α:List Addr} {i:Int} {v:V} (r:RU A α (.int i 0) v):v = .int i:=by
 obtain ⟨j,rfl,c⟩:=r
 cases c.exact
 rfl
theorem opS_sub:OpS X T A .Sub:=opS_by op_sub (fun _ _ _ => rfl) fun {α u w z v y H Q} h ru rw k => by
 unfold subI at h
 split at h
 ·cases h
  obtain ⟨i',rfl,a⟩:=ru
  obtain ⟨j',rfl,b⟩:=rw
  exact ⟨i',j',rfl,rfl,k _ ⟨_,rfl,cg_sub a b⟩⟩
 ·cases h
theorem op_mulB:OpR X (binaryOp .Mult) (rI IntMulOk fun i j => .int (i * j)):=opI fun _ _ _ _ _ _ _ hc q => mul_int q hc
theorem bits_of {i:Int} (h:bigOk i = true):Builtin.Int.intBits i <= 4096:=by
 have h:=of_decide_eq_true h
 unfold Builtin.Int.intBits
 split
 ·omega
 ·rename_i z
  have n0:i.natAbs ≠ 0:=by simpa using z
  exact Nat.succ_le_of_lt ((Nat.log2_lt n0).mpr h)
theorem mul_ok {i j:Int} (h:(small64 i || small64 j || (bigOk i && bigOk j)) = true):IntMulOk i j:=by
 rw [Bool.or_eq_true,Bool.or_eq_true,Bool.and_eq_true] at h
 rcases h with (h | h) | h
 ·exact CMul.ok (.inl (small64_of h))
 ·exact CMul.ok (.inr (small64_of h))
 ·have h1:=bits_of h.1
  have h2:=bits_of h.2
  unfold IntMulOk
  have:Builtin.Int.intTooBig (Builtin.Int.intBits i + Builtin.Int.intBits j) = false:=by
   unfold Builtin.Int.intTooBig
   rw [bitsLine_eq]
   exact decide_eq_false (by omega)
  rw [this]
  simp
theorem RUs.rep {α:List Addr} {us:List U} {vs:List V} (r:RUs A α us vs):∀ n:Nat,RUs A α (List.replicate n us).flatten (List.replicate n vs).flatten
 | 0 => .nil
 | n + 1 => by
  rw [List.replicate_succ,List.replicate_succ,List.flatten_cons,List.flatten_cons]
  exact RUs.append r (RUs.rep r n)
theorem opS_mul:OpS X T A .Mult:=by
 refine ⟨_,OpR.or op_mulB op_rep,?_⟩
 intro α u w u' hs hs' v y H Q e ru rw R k
 by_cases isr:∃ a,u = .ref a
 ·obtain ⟨a,rfl⟩:=isr
  simp only [opU] at e
  unfold repI at e
  split at e
  ·rename_i xs j e1
   split at e
   ·rename_i c
    cases e
    cases exactU rw
    obtain ⟨pa,ha,rfl⟩:=ru
    obtain ⟨vs,q1,r1⟩:=R.h.ob _ pa _ ha e1
    refine .inr ⟨pa,j,vs,rfl,rfl,q1,c.1,c.2.1,?_,fun p hp => ?_⟩
    ·rw [<- r1.length]; exact Nat.le_trans c.2.2 big
    ·obtain ⟨R',E'⟩:=R.new (o:=.lst (List.replicate j.toNat xs).flatten) hp ⟨_,upd_same,RUs.mono snoc_pre (r1.rep j.toNat)⟩
     exact k _ _ _ E' R' ⟨p,by rw [<- R.h.len]; exact snoc_at,rfl⟩
   ·cases e
  ·cases e
 have e:(mulI u w).map (fun r => (r,hs)) = some (u',hs'):=by
  cases u with
  | ref a => exact absurd ⟨a,rfl⟩ isr
  | _ => exact e
 rw [Option.map_eq_some_iff] at e
 obtain ⟨z,h,q⟩:=e
 cases q
 refine .inl ?_
 have k:∀ v',RU A α u' v' -> Q v' H:=fun v' r' => k α v' H Ext.refl R r'
 unfold mulI at h
 split at h
 ·split at h
  ·rename_i c
   cases h
   cases exactU ru
   cases exactU rw
   exact ⟨_,_,rfl,rfl,mul_ok c,k _ ⟨_,rfl,Cg.refl _ _⟩⟩
  ·cases h
 ·split at h
  ·rename_i c
   cases h
   obtain ⟨i',rfl,a⟩:=ru
   cases exactU rw
   exact ⟨i',_,rfl,rfl,CMul.ok (.inr (small64_of c)),k _ ⟨_,rfl,cg_mul a⟩⟩
  ·cases h
 ·cases h
def CDivL (i j:Int):Prop:=0 < j /\ j < 1606938044258990275541962092341162602522202993782792835301376
theorem op_fdivL {X:Cx}:OpR X (binaryOp .FloorDiv) (rI CDivL fun i j => .int (i / j)):=opI fun i j _ _ _ _ _ hc q => by
 have h1:(0:Int) < j:=hc.1
 have h2:j < 1606938044258990275541962092341162602522202993782792835301376:=hc.2
 have h3:j.natAbs.log2 < 9000:=by
  have h4:j.natAbs < 2 ^ 9000:=Nat.lt_of_lt_of_le (show j.natAbs < 2 ^ 200 by omega) (Nat.pow_le_pow_right (by decide) (by decide))
  rcases Nat.eq_zero_or_pos j.natAbs with z | z
  ·rw [z]; decide
  ·exact (Nat.log2_lt (by omega)).mpr h4
 exact floordiv_int (by omega) (by rw [Int.fdiv_eq_ediv_of_nonneg i (by omega)]; exact q) (.inl (PyProof.noPylong_of_log2 h3))
theorem opS_fdiv:OpS X T A .FloorDiv:=opS_by op_fdivL (fun _ _ _ => rfl) fun {α u w z v y H Q} h ru rw k => by
 unfold divI at h
 split at h
 ·split at h
  ·rename_i c
   cases h
   cases exactU ru
   cases exactU rw
   simp only [Bool.and_eq_true,decide_eq_true_eq] at c
   exact ⟨_,_,rfl,rfl,c,k _ ⟨_,rfl,Cg.refl _ _⟩⟩
  ·cases h
 ·split at h
  ·rename_i c
   cases h
   obtain ⟨i',rfl,a⟩:=ru
   cases exactU rw
   simp only [Bool.and_eq_true,decide_eq_true_eq] at c
   exact ⟨i',_,rfl,rfl,c.1,k _ ⟨_,rfl,cg_div a c.1.1 c.2⟩⟩
  ·cases h
 ·cases h
theorem opS_mod:OpS X T A .Mod:=opS_by op_mod (fun _ _ _ => rfl) fun {α u w z v y H Q} h ru rw k => by
 unfold modI at h
 split at h
 ·split at h
  ·rename_i c
   cases h
   cases exactU ru
   cases exactU rw
   exact ⟨_,_,rfl,rfl,c,k _ ⟨_,rfl,Cg.refl _ _⟩⟩
  ·cases h
 ·split at h
  ·rename_i c
   cases h
   obtain ⟨i',rfl,a⟩:=ru
   cases exactU rw
   simp only [Bool.and_eq_true,decide_eq_true_eq] at c
   exact ⟨i',_,rfl,rfl,c.1,k _ ⟨_,rfl,by rw [cg_mod a c.1 c.2]; exact Cg.refl _ _⟩⟩
  ·cases h
 ·cases h
theorem opS_pow:OpS X T A .Pow:=opS_by op_pow (fun _ _ _ => rfl) fun {α u w z v y H Q} h ru rw k => by
 unfold powI at h
 split at h
 ·split at h
  ·rename_i i j c
   cases h
   cases exactU ru
   cases exactU rw
   simp only [Bool.and_eq_true,decide_eq_true_eq] at c
   obtain ⟨h1,h2⟩:=small64_of c.2
   exact ⟨_,_,rfl,rfl,⟨c.1.1,by omega,by omega⟩,k _ ⟨_,rfl,Cg.refl _ _⟩⟩
  ·cases h
 ·cases h
theorem opS_add:OpS X T A .Add:=by
 refine ⟨_,OpR.or op_add (OpR.or op_add_str (OpR.or op_cat (OpR.or op_catT0 op_catT))),?_⟩
 intro α u w u' hs hs' v y H Q h ru rw R k
 have h:addI u w hs = some (u',hs'):=h
 unfold addI at h
 split at h
 ·cases h
  obtain ⟨i',rfl,a⟩:=ru
  obtain ⟨j',rfl,b⟩:=rw
  exact .inl ⟨i',j',rfl,rfl,k α _ H Ext.refl R ⟨_,rfl,cg_add a b⟩⟩
 ·split at h
  ·rename_i c
   cases h
   cases (show v = _ from ru)
   cases (show y = _ from rw)
   refine .inr (.inl ⟨_,_,rfl,rfl,?_,k α _ H Ext.refl R ?_⟩)
   ·rw [cps_str,cps_str]; exact Nat.le_trans c big
   ·rw [str_app]; rfl
  ·cases h
 ·rename_i a b
  obtain ⟨pa,ha,rfl⟩:=ru
  obtain ⟨pb,hb,rfl⟩:=rw
  split at h
  ·rename_i ox oy e1 e2
   have o1:=R.h.ob _ pa _ ha e1
   have o2:=R.h.ob _ pb _ hb e2
   unfold catO at h
   split at h
   ·rename_i xs ys
    split at h
    ·rename_i c
     cases h
     obtain ⟨vs,q1,r1⟩:=o1
     obtain ⟨ws,q2,r2⟩:=o2
     refine .inr (.inr (.inl ⟨pa,pb,vs,ws,rfl,rfl,q1,q2,?_,fun p hp => ?_⟩))
     ·rw [<- r1.length,<- r2.length]; exact Nat.le_trans c big
     ·obtain ⟨R',E'⟩:=R.new (o:=.lst (xs ++ ys)) hp ⟨_,upd_same,RUs.mono snoc_pre (r1.append r2)⟩
      exact k _ _ _ E' R' ⟨p,by rw [<- R.h.len]; exact snoc_at,rfl⟩
    ·cases h
   ·rename_i xs ys
    obtain ⟨vs,q1,r1⟩:=o1
    obtain ⟨ws,q2,r2⟩:=o2
    split at h
    ·rename_i z
     cases h
     have z:=List.isEmpty_iff.mp z
     subst z
     cases r1
     exact .inr (.inr (.inr (.inl ⟨pa,pb,ws,rfl,rfl,SqT.of q1,SqT.of q2,k α _ H Ext.refl R ⟨pb,hb,rfl⟩⟩)))
    ·rename_i nx
     have nv:vs ≠ []:=fun z => nx (by rw [z] at r1; cases r1; rfl)
     split at h
     ·rename_i c
      have sz:vs.length + ws.length <= sizeLine:=by
       rw [<- r1.length,<- r2.length]
       exact Nat.le_trans c big
      split at h
      ·rename_i z
       cases h
       have z:=List.isEmpty_iff.mp z
       subst z
       cases r2
       exact .inr (.inr (.inr (.inr ⟨pa,pb,vs,[],rfl,rfl,SqT.of q1,SqT.of q2,nv,sz,fun _ => k α _ H Ext.refl R ⟨pa,ha,rfl⟩,fun z => absurd rfl z⟩)))
      ·rename_i ny
       cases h
       refine .inr (.inr (.inr (.inr ⟨pa,pb,vs,ws,rfl,rfl,SqT.of q1,SqT.of q2,nv,sz,fun z => absurd (by rw [z] at r2; cases r2; rfl) ny,fun _ p hp => ?_⟩)))
       obtain ⟨R',E'⟩:=R.new (o:=.tup (xs ++ ys)) hp ⟨_,upd_same,RUs.mono snoc_pre (r1.append r2)⟩
       exact k _ _ _ E' R' ⟨p,by rw [<- R.h.len]; exact snoc_at,rfl⟩
     ·cases h
   ·cases h
  ·cases h
 ·cases h
theorem opS (o:Operator):OpS X T A o:=by
 cases o with
 | Add => exact opS_add
 | Sub => exact opS_sub
 | Mult => exact opS_mul
 | FloorDiv => exact opS_fdiv
 | Mod => exact opS_mod
 | Pow => exact opS_pow
 | _ => exact opS_none fun u w hs => rfl
end
end Iv
namespace Iv
open PySem PySem.Spec PyProof.Rows L2
section
variable {X:Cx} {T:Tbl} {A:Adr} {α:List Addr} {hs:Hs} {H:Hp} {u w:U} {v y:V}
theorem lstU_ok {xs:List U} (tx:Txt T A X.K X.mg) (R:Rep T A X.K α hs H) (h:lstU T u hs = some xs) (r:RU A α u v):∃ a vs,v = .ref a /\ RUs A α xs vs /\ SqL X.K H a vs:=by
 cases u with
 | ref n =>
  obtain ⟨a,ha,rfl⟩:=r
  simp only [lstU] at h
  split at h
  ·rename_i ys e
   cases h
   obtain ⟨vs,q,rr⟩:=R.h.ob n a _ ha e
   exact ⟨a,vs,rfl,rr,SqL.of q⟩
  ·cases h
 | con k =>
  simp only [lstU] at h
  split at h
  ·rename_i ys e
   cases h
   obtain ⟨vs,rr,q⟩:=tx.co k _ e
   exact ⟨_,vs,r,RUs.mono (fun n a e => by simp at e) rr,q H⟩
  ·cases h
 | scr =>
  simp only [lstU] at h
  cases h
  obtain ⟨vs,rr,q⟩:=R.s.sq (α:=α)
  exact ⟨_,vs,r,rr,q⟩
 | _ => simp [lstU] at h
theorem tupU_ok {xs:List U} (tx:Txt T A X.K X.mg) (R:Rep T A X.K α hs H) (h:tupU T u hs = some xs) (r:RU A α u v):∃ a vs,v = .ref a /\ RUs A α xs vs /\ SqT X.K H a vs:=by
 cases u with
 | ref n =>
  obtain ⟨a,ha,rfl⟩:=r
  simp only [tupU] at h
  split at h
  ·rename_i ys e
   cases h
   obtain ⟨vs,q,rr⟩:=R.h.ob n a _ ha e
   exact ⟨a,vs,rfl,rr,SqT.of q⟩
  ·cases h
 | con k =>
  simp only [tupU] at h
  split at h
  ·rename_i ys e
   cases h
   obtain ⟨vs,rr,q⟩:=tx.co k _ e
   exact ⟨_,vs,r,RUs.mono (fun n a e => by simp at e) rr,q H⟩
  ·cases h
 | _ => simp [tupU] at h
def scP:U -> PyData
 | .bl b => .bool b
 | .int i _ => .int i
 | .str x => .str ⟨x.toArray⟩
 | _ => .none
def toP (T:Tbl):Nat -> U -> Hs -> PyData
 | 0,_,_ => .none
 | n + 1,u,hs => match lstU T u hs with
  | some xs => .list (xs.map fun x => toP T n x hs)
  | none => match tupU T u hs with
   | some xs => .tuple (xs.map fun x => toP T n x hs)
   | none => scP u
theorem reads_all {h:Heap} {f:U -> PyData}:∀ {xs:List U} {vs:List V} {its:List Value},RUs A α xs vs -> Vals vs its -> (∀ x ∈ xs,∀ v u,RU A α x v -> RelV v u -> ∃ as,Reads h u (f x) as) -> ∃ as,ReadsAll h its (xs.map f) as
 | _,_,_,.nil,.nil,_ => ⟨[],.nil⟩
 | _,_,_,.cons (a:=x) r t,.cons q p,k => by
  obtain ⟨as,h1⟩:=k x List.mem_cons_self _ _ r q
  obtain ⟨bs,h2⟩:=reads_all t p fun x m => k x (List.mem_cons_of_mem _ m)
  exact ⟨as ++ bs,.cons h1 h2⟩
theorem reads_ok {pins:List (Addr × Obj)} {s:Shared} {σ:L2.St} (tx:Txt T A X.K X.mg) (I:Inv X pins σ H s) (R:Rep T A X.K α hs H):∀ (n:Nat) {u:U} {v:V} {z:Value},okW T n u hs = true -> RU A α u v -> RelV v z -> ∃ as,Reads s.heap z (toP T n u hs) as
 | 0,_,_,_,h,_,_ => by cases h
 | n + 1,u,v,z,h,r,q => by
  have ih:=fun {u:U} {v:V} {z:Value} => reads_ok tx I R n (u:=u) (v:=v) (z:=z)
  simp only [okW,toP] at h ⊢
  cases el:lstU T u hs with
  | some xs =>
   rw [el] at h
   have h:=List.all_eq_true.mp h
   obtain ⟨a,vs,rfl,rr,sq⟩:=lstU_ok tx R el r
   cases q
   obtain ⟨its,rv,pl,_⟩:=I.list sq
   obtain ⟨o,ho,hc,m,hd⟩:=pl.isList
   obtain ⟨as,ra⟩:=reads_all (h:=s.heap) (f:=fun x => toP T n x hs) rr rv fun x m v u h1 h2 => ih (h x m) h1 h2
   exact ⟨_,.list ho hc hd ra⟩
  | none =>
   rw [el] at h
   cases et:tupU T u hs with
   | some xs =>
    rw [et] at h
    have h:=List.all_eq_true.mp h
    obtain ⟨a,vs,rfl,rr,sq⟩:=tupU_ok tx R et r
    cases q
    obtain ⟨its,rv,pl,_⟩:=I.tuple sq
    obtain ⟨o,ho,hc,m,hd⟩:=pl
    obtain ⟨as,ra⟩:=reads_all (h:=s.heap) (f:=fun x => toP T n x hs) rr rv fun x m v u h1 h2 => ih (h x m) h1 h2
    exact ⟨_,.tuple ho hc hd ra⟩
   | none =>
    rw [et] at h
    cases u with
    | non => cases (show v = _ from r); cases q; exact ⟨[],.none⟩
    | bl b => cases (show v = _ from r); cases q; exact ⟨[],.bool b⟩
    | int i m =>
     have h:(m == 0) = true:=h
     have h:=eq_of_beq h
     subst h
     cases exactU r
     obtain ⟨t,rfl⟩:=q
     exact ⟨[],.int i t⟩
    | str x => cases (show v = _ from r); obtain ⟨t,rfl⟩:=q; exact ⟨[],.str _ t⟩
    | _ => cases h
theorem lay_all {f:U -> PyData} {n:Nat}:∀ {xs:List U},(∀ x ∈ xs,(f x).canLay0 = true /\ (f x).depth <= n) -> PyData.canLayAll0 (xs.map f) = true /\ PyData.depthAll (xs.map f) <= n
 | [],_ => ⟨rfl,Nat.zero_le _⟩
 | x :: r,h => by
  obtain ⟨h1,h2⟩:=h x List.mem_cons_self
  obtain ⟨h3,h4⟩:=lay_all (xs:=r) fun y m => h y (List.mem_cons_of_mem _ m)
  refine ⟨?_,?_⟩
  ·show ((f x).canLay0 && PyData.canLayAll0 (r.map f)) = true
   rw [h1,h3]
   rfl
  ·show max (f x).depth (PyData.depthAll (r.map f)) <= n
   omega
theorem lay_ok:∀ (n:Nat) {u:U},okW T n u hs = true -> (toP T n u hs).canLay0 = true /\ (toP T n u hs).depth <= n
 | 0,_,h => by cases h
 | n + 1,u,h => by
  have ih:=fun (u:U) => lay_ok n (u:=u)
  simp only [okW,toP] at h ⊢
  cases el:lstU T u hs with
  | some xs =>
   rw [el] at h
   obtain ⟨h1,h2⟩:=lay_all (f:=fun x => toP T n x hs) (n:=n) fun x m => ih x (List.all_eq_true.mp h x m)
   exact ⟨h1,Nat.succ_le_succ h2⟩
  | none =>
   rw [el] at h
   cases et:tupU T u hs with
   | some xs =>
    rw [et] at h
    obtain ⟨h1,h2⟩:=lay_all (f:=fun x => toP T n x hs) (n:=n) fun x m => ih x (List.all_eq_true.mp h x m)
    exact ⟨h1,Nat.succ_le_succ h2⟩
   | none =>
    rw [et] at h
    cases u with
    | str x =>
     refine ⟨?_,Nat.zero_le _⟩
     show PyData.strOk ⟨x.toArray⟩ = true
     unfold PyData.strOk
     have h:=List.all_eq_true.mp h
     rw [Array.all_eq_true']
     intro c hc
     have:=of_decide_eq_true (h c (by simpa using hc))
     exact decide_eq_true (by omega)
    | non => exact ⟨rfl,Nat.zero_le _⟩
    | bl b => exact ⟨rfl,Nat.zero_le _⟩
    | int i m => exact ⟨rfl,Nat.zero_le _⟩
    | _ => cases h
theorem eqv_all {f:U -> PyData} {g:U -> U -> Bool}:∀ {xs ys:List U},(∀ x ∈ xs,∀ y ∈ ys,PyData.eqv (f x) (f y) = g x y) -> PyData.eqvAll (xs.map f) (ys.map f) = ((xs.length == ys.length) && (xs.zip ys).all fun p => g p.1 p.2)
 | [],[],_ => rfl
 | [],_ :: _,_ => rfl
 | _ :: _,[],_ => rfl
 | x :: r,y :: t,h => by
  have h1:=h x List.mem_cons_self y List.mem_cons_self
  have h2:=eqv_all (xs:=r) (ys:=t) fun a ma b mb => h a (List.mem_cons_of_mem _ ma) b (List.mem_cons_of_mem _ mb)
  show (PyData.eqv (f x) (f y) && PyData.eqvAll (r.map f) (t.map f)) = _
  rw [h1,h2]
  simp only [List.length_cons,List.zip_cons_cons,List.all_cons]
  have e:(r.length + 1 == t.length + 1) = (r.length == t.length):=by simp
  rw [e]
  cases g x y <;> cases (r.length == t.length) <;> simp
theorem str_eqv {x y:List Nat}:((⟨x.toArray⟩:Str) == ⟨y.toArray⟩) = (x == y):=by
 by_cases h:x = y
 ·subst h; simp
 ·have:(⟨x.toArray⟩:Str) ≠ ⟨y.toArray⟩:=fun z => h (by
   have:=congrArg (fun s:Str => s.cps.toList) z
   simpa using this)
  rw [beq_eq_false_iff_ne.mpr this,beq_eq_false_iff_ne.mpr h]
theorem eqv_ok:∀ (n:Nat) {u w:U},okW T n u hs = true -> okW T n w hs = true -> PyData.eqv (toP T n u hs) (toP T n w hs) = eqW T n u w hs
 | 0,_,_,h,_ => by cases h
 | n + 1,u,w,h,h' => by
  have ih:=fun (u w:U) => eqv_ok n (u:=u) (w:=w)
  simp only [okW,toP,eqW] at h h' ⊢
  cases el:lstU T u hs with
  | some xs =>
   rw [el] at h
   cases el':lstU T w hs with
   | some ys =>
    rw [el'] at h'
    exact eqv_all (g:=fun a b => eqW T n a b hs) fun x mx y my => ih x y (List.all_eq_true.mp h x mx) (List.all_eq_true.mp h' y my)
   | none =>
    rw [el'] at h'
    cases et':tupU T w hs with
    | some ys => rfl
    | none => rw [et'] at h'; cases w <;> first | rfl | (cases h'; done)
  | none =>
   rw [el] at h
   cases et:tupU T u hs with
   | some xs =>
    rw [et] at h
    cases el':lstU T w hs with
    | some ys => rfl
    | none =>
     rw [el'] at h'
     cases et':tupU T w hs with
     | some ys =>
      rw [et'] at h'
      exact eqv_all (g:=fun a b => eqW T n a b hs) fun x mx y my => ih x y (List.all_eq_true.mp h x mx) (List.all_eq_true.mp h' y my)
     | none => rw [et'] at h'; cases w <;> first | rfl | (cases h'; done)
   | none =>
    rw [et] at h
    cases el':lstU T w hs with
    | some ys => cases u <;> first | rfl | (cases h; done)
    | none =>
     rw [el'] at h'
     cases et':tupU T w hs with
     | some ys => cases u <;> first | rfl | (cases h; done)
     | none =>
      rw [et'] at h'
      cases u <;> first | (cases h; done) | (cases w <;> first | (cases h'; done) | rfl | exact str_eqv)
def rDat (T:Tbl) (A:Adr) (K:PySem.W.Frag) (neg:Bool):R2:=fun x y H Q => ∃ α u w hs,RU A α u x /\ RU A α w y /\ Rep T A K α hs H /\ okW T 20 u hs = true /\ okW T 20 w hs = true /\ Q (.bl (if neg then !(eqW T 20 u w hs) else eqW T 20 u w hs)) H
theorem shaped_of {d:PyData} {n:Nat} (h:d.canLay0 = true /\ d.depth <= n) (hn:n <= 64):SeqAt.shaped d = true:=by
 unfold SeqAt.shaped
 rw [h.1,Bool.true_and]
 exact decide_eq_true (Nat.le_trans h.2 hn)
theorem op_eqD (tx:Txt T A X.K X.mg) (hu:X.A.units + 64 < cLine):OpR X (compareOp .Eq) (rDat T A X.K false):=by
 intro pins s σ H x y v u Q I rx ry h
 obtain ⟨α,u1,w1,hs,r1,r2,R,o1,o2,q⟩:=h
 obtain ⟨as,ra⟩:=reads_ok tx I R 20 o1 r1 rx
 obtain ⟨bs,rb⟩:=reads_ok tx I R 20 o2 r2 ry
 refine eq_dataH ra rb (shaped_of (lay_ok 20 o1) (by decide)) (shaped_of (lay_ok 20 o2) (by decide)) hu ?_
 rw [eqv_ok 20 o1 o2]
 exact ⟨.bl _,H,I,rfl,q⟩
def rLen (T:Tbl) (A:Adr) (K:PySem.W.Frag) (b:Bool):R2:=fun x y H Q => ∃ α u w hs,RU A α u x /\ RU A α w y /\ Rep T A K α hs H /\ lenNe T u w hs = true /\ Q (.bl b) H
theorem lenNe_ok {pins:List (Addr × Obj)} {s:Shared} {σ:L2.St} {H:Hp} {α:List Addr} {hs:Hs} {u w:U} {x y:V} {v z:Value} (tx:Txt T A X.K X.mg) (I:Inv X pins σ H s) (R:Rep T A X.K α hs H) (h:lenNe T u w hs = true) (r1:RU A α u x) (r2:RU A α w y) (rx:RelV x v) (ry:RelV y z) :
  ∃ (a b:Addr) (i1 i2:List Value),v = .ref a /\ z = .ref b /\ s.heap.IsList a i1.toArray /\ s.heap.IsList b i2.toArray /\ (i1.toArray.size != i2.toArray.size) = true:=by
 unfold lenNe at h
 split at h
 ·rename_i xs ys e1 e2
  obtain ⟨a,vs,rfl,rr,sq⟩:=lstU_ok tx R e1 r1
  obtain ⟨b,ws,rfl,rr',sq'⟩:=lstU_ok tx R e2 r2
  obtain ⟨i1,q1,p1,_⟩:=I.list sq
  obtain ⟨i2,q2,p2,_⟩:=I.list sq'
  cases rx
  cases ry
  have l1:=rr.length
  have l2:=rr'.length
  have l3:=q1.length
  have l4:=q2.length
  have h:=of_decide_eq_true h
  refine ⟨a,b,i1,i2,rfl,rfl,p1.isList,p2.isList,?_⟩
  simp only [List.size_toArray,bne_iff_ne,ne_eq]
  omega
 ·cases h
theorem op_eqL (tx:Txt T A X.K X.mg) (hu:X.A.units + 64 < cLine):OpR X (compareOp .Eq) (rLen T A X.K false):=by
 intro pins s σ H x y v u Q I rx ry h
 obtain ⟨α,u1,w1,hs,r1,r2,R,o1,q⟩:=h
 obtain ⟨a,b,i1,i2,rfl,rfl,p1,p2,z⟩:=lenNe_ok tx I R o1 r1 r2 rx ry
 exact SeqAt.RcAt.lists_lengths p1 p2 z (by omega) _ _ _ _ ⟨.bl _,H,I,rfl,q⟩
theorem op_neL (tx:Txt T A X.K X.mg) (hu:X.A.units + 64 < cLine):OpR X (compareOp .NotEq) (rLen T A X.K true):=by
 intro pins s σ H x y v u Q I rx ry h
 obtain ⟨α,u1,w1,hs,r1,r2,R,o1,q⟩:=h
 obtain ⟨a,b,i1,i2,rfl,rfl,p1,p2,z⟩:=lenNe_ok tx I R o1 r1 r2 rx ry
 exact SeqAt.RcNeAt.lists_lengths p1 p2 z (by omega) _ _ _ _ ⟨.bl _,H,I,rfl,q⟩
def rSame (T:Tbl) (A:Adr) (K:PySem.W.Frag) (b:Bool):R2:=fun x y H Q => ∃ α u w hs,RU A α u x /\ RU A α w y /\ Rep T A K α hs H /\ sameR T u w hs = true /\ Q (.bl b) H
theorem vals_refs {α:List Addr}:∀ {xs:List U} {vs ws:List V} {i1 i2:List Value},(xs.all fun x => match x with | .ref _ => true | _ => false) = true -> RUs A α xs vs -> RUs A α xs ws -> Vals vs i1 -> Vals ws i2 -> i1 = i2
 | [],_,_,_,_,_,r1,r2,q1,q2 => by cases r1; cases r2; cases q1; cases q2; rfl
 | x :: xs,_,_,_,_,h,.cons a r1,.cons b r2,.cons c q1,.cons d q2 => by
  rw [List.all_cons,Bool.and_eq_true] at h
  cases x with
  | ref n =>
   obtain ⟨p,hp,rfl⟩:=a
   obtain ⟨p',hp',rfl⟩:=b
   rw [hp] at hp'
   cases hp'
   cases c
   cases d
   rw [vals_refs h.2 r1 r2 q1 q2]
  | _ => exact absurd h.1 (by simp)
theorem sameR_ok {pins:List (Addr × Obj)} {s:Shared} {σ:L2.St} {H:Hp} {α:List Addr} {hs:Hs} {u w:U} {x y:V} {v z:Value} (tx:Txt T A X.K X.mg) (I:Inv X pins σ H s) (R:Rep T A X.K α hs H) (h:sameR T u w hs = true) (r1:RU A α u x) (r2:RU A α w y) (rx:RelV x v) (ry:RelV y z) :
  ∃ (a b:Addr) (i1:List Value),v = .ref a /\ z = .ref b /\ s.heap.IsList a i1.toArray /\ s.heap.IsList b i1.toArray:=by
 unfold sameR at h
 split at h
 ·rename_i xs ys e1 e2
  rw [Bool.and_eq_true] at h
  obtain ⟨h0,h⟩:=h
  have h0:=of_decide_eq_true h0
  subst h0
  obtain ⟨a,vs,rfl,rr,sq⟩:=lstU_ok tx R e1 r1
  obtain ⟨b,ws,rfl,rr',sq'⟩:=lstU_ok tx R e2 r2
  obtain ⟨i1,q1,p1,_⟩:=I.list sq
  obtain ⟨i2,q2,p2,_⟩:=I.list sq'
  cases rx
  cases ry
  cases vals_refs h rr rr' q1 q2
  exact ⟨a,b,i1,rfl,rfl,p1.isList,p2.isList⟩
 ·cases h
theorem op_eqR (tx:Txt T A X.K X.mg) (hu:X.A.units + 64 < cLine):OpR X (compareOp .Eq) (rSame T A X.K true):=by
 intro pins s σ H x y v u Q I rx ry h
 obtain ⟨α,u1,w1,hs,r1,r2,R,o1,q⟩:=h
 obtain ⟨a,b,i1,rfl,rfl,p1,p2⟩:=sameR_ok tx I R o1 r1 r2 rx ry
 have rc:=SeqAt.RcAt.lists (A:=X.A) (e:=fun _ => true) p1 p2 rfl (by omega) fun j h1 h2 => SeqAt.EqAt.same _
 have al:(List.range i1.toArray.size).all (fun _ => true) = true:=by simp
 rw [al] at rc
 exact rc _ _ _ _ ⟨.bl _,H,I,rfl,q⟩
theorem op_neR (tx:Txt T A X.K X.mg) (hu:X.A.units + 64 < cLine):OpR X (compareOp .NotEq) (rSame T A X.K false):=by
 intro pins s σ H x y v u Q I rx ry h
 obtain ⟨α,u1,w1,hs,r1,r2,R,o1,q⟩:=h
 obtain ⟨a,b,i1,rfl,rfl,p1,p2⟩:=sameR_ok tx I R o1 r1 r2 rx ry
 have rc:=SeqAt.RcNeAt.lists (A:=X.A) (e:=fun _ => true) p1 p2 rfl (by omega) fun j h1 h2 => SeqAt.EqAt.same _
 have al:(!(List.range i1.toArray.size).all (fun _ => true)) = false:=by simp
 rw [al] at rc
 exact rc _ _ _ _ ⟨.bl _,H,I,rfl,q⟩
theorem op_neD (tx:Txt T A X.K X.mg) (hu:X.A.units + 64 < cLine):OpR X (compareOp .NotEq) (rDat T A X.K true):=by
 intro pins s σ H x y v u Q I rx ry h
 obtain ⟨α,u1,w1,hs,r1,r2,R,o1,o2,q⟩:=h
 obtain ⟨as,ra⟩:=reads_ok tx I R 20 o1 r1 rx
 obtain ⟨bs,rb⟩:=reads_ok tx I R 20 o2 r2 ry
 refine ne_dataH ra rb (shaped_of (lay_ok 20 o1) (by decide)) (shaped_of (lay_ok 20 o2) (by decide)) hu ?_
 rw [eqv_ok 20 o1 o2]
 exact ⟨.bl _,H,I,rfl,q⟩
end
end Iv
namespace Iv
open PySem PySem.Spec PyProof.Rows L2
section
variable {X:Cx} {T:Tbl} {A:Adr}
theorem dec_i {i j:Int}:decide (V.int i = V.int j) = decide (i = j):=by
 by_cases e:i = j
 ·subst e; simp
 ·have:¬ V.int i = V.int j:=fun q => e (V.int.inj q)
  rw [decide_eq_false this,decide_eq_false e]
theorem dec_s {x y:List Nat}:decide (V.str ⟨x.toArray⟩ = V.str ⟨y.toArray⟩) = decide (x = y):=by
 by_cases e:x = y
 ·subst e; simp
 ·have:¬ V.str ⟨x.toArray⟩ = V.str ⟨y.toArray⟩:=fun q => e (by
   have q1:=V.str.inj q
   have q2:=congrArg (fun s:Str => s.cps.toList) q1
   simpa using q2)
  rw [decide_eq_false this,decide_eq_false e]
theorem dec_b {x y:Bool}:decide (V.bl x = V.bl y) = decide (x = y):=by cases x <;> cases y <;> rfl
theorem eqS_ok {α:List Addr} {u w:U} {v y:V} {c:Bool} (h:eqS u w = some c) (ru:RU A α u v) (rw':RU A α w y):scal v y = true /\ decide (v = y) = c:=by
 cases u with
 | non =>
  cases (show v = _ from ru)
  cases w with
  | non => cases (show y = _ from rw'); cases h; exact ⟨rfl,rfl⟩
  | bl b => cases (show y = _ from rw'); cases h; exact ⟨rfl,rfl⟩
  | int j n => obtain ⟨_,rfl,_⟩:=rw'; cases h; exact ⟨rfl,rfl⟩
  | str x => cases (show y = _ from rw'); cases h; exact ⟨rfl,rfl⟩
  | _ => simp [eqS] at h
 | bl b =>
  cases (show v = _ from ru)
  cases w with
  | non => cases (show y = _ from rw'); cases h; exact ⟨rfl,rfl⟩
  | bl b => cases (show y = _ from rw'); cases h; exact ⟨rfl,dec_b⟩
  | str x => cases (show y = _ from rw'); cases h; exact ⟨rfl,rfl⟩
  | _ => simp [eqS] at h
 | str x =>
  cases (show v = _ from ru)
  cases w with
  | non => cases (show y = _ from rw'); cases h; exact ⟨rfl,rfl⟩
  | bl b => cases (show y = _ from rw'); cases h; exact ⟨rfl,rfl⟩
  | int j n => obtain ⟨_,rfl,_⟩:=rw'; cases h; exact ⟨rfl,rfl⟩
  | str z => cases (show y = _ from rw'); cases h; exact ⟨rfl,dec_s⟩
  | _ => simp [eqS] at h
 | int i m =>
  obtain ⟨i',rfl,a⟩:=ru
  cases w with
  | non => cases (show y = _ from rw'); cases m <;> cases h <;> exact ⟨rfl,rfl⟩
  | str x => cases (show y = _ from rw'); cases m <;> cases h <;> exact ⟨rfl,rfl⟩
  | int j n =>
   obtain ⟨j',rfl,b⟩:=rw'
   cases m with
   | succ m => simp [eqS] at h
   | zero =>
    cases n with
    | succ n => simp [eqS] at h
    | zero => cases a.exact; cases b.exact; cases h; exact ⟨rfl,dec_i⟩
  | _ => cases m <;> simp [eqS] at h
 | _ => cases w <;> simp [eqS] at h
theorem flat_ok {α:List Addr} {x:U} {v:V} (h:flatU x = true) (r:RU A α x v):flatV v = true:=by
 cases x with
 | non => cases (show v = _ from r); rfl
 | int i m => obtain ⟨_,rfl,_⟩:=r; rfl
 | str z => cases (show v = _ from r); rfl
 | _ => cases h
theorem eqF_ok {α:List Addr} {x y:U} {v w:V} (hx:flatU x = true) (hy:flatU y = true) (rx:RU A α x v) (ry:RU A α y w):eqV w v = eqF y x:=by
 cases y with
 | non =>
  cases (show w = _ from ry)
  cases x with
  | non => cases (show v = _ from rx); rfl
  | int i m => obtain ⟨_,rfl,_⟩:=rx; rfl
  | str z => cases (show v = _ from rx); rfl
  | _ => cases hx
 | str z =>
  cases (show w = _ from ry)
  cases x with
  | non => cases (show v = _ from rx); rfl
  | int i m => obtain ⟨_,rfl,_⟩:=rx; rfl
  | str z' =>
   cases (show v = _ from rx)
   show (({ cps:=z.toArray }:Str) == { cps:=z'.toArray }) = decide (z = z')
   by_cases e:z = z'
   ·subst e; simp
   ·rw [decide_eq_false e,beq_eq_false_iff_ne]
    intro q
    have q2:=congrArg (fun s:Str => s.cps.toList) q
    exact e (by simpa using q2)
  | _ => cases hx
 | int j n =>
  obtain ⟨j',rfl,b⟩:=ry
  cases n with
  | succ n => cases hy
  | zero =>
   cases b.exact
   cases x with
   | non => cases (show v = _ from rx); rfl
   | str z => cases (show v = _ from rx); rfl
   | int i m =>
    obtain ⟨i',rfl,a⟩:=rx
    cases m with
    | succ m => cases hx
    | zero =>
     cases a.exact
     show (j == i) = decide (j = i)
     by_cases e:j = i <;> simp [e]
   | _ => cases hx
 | _ => cases hy
theorem inU_ok {α:List Addr} {x:U} {v:V} (hx:flatU x = true) (rx:RU A α x v):∀ {ys:List U} {ws:List V},RUs A α ys ws -> ys.all flatU = true -> ws.all flatV = true /\ inV v ws = ys.any fun y => eqF y x
 | _,_,.nil,_ => ⟨rfl,rfl⟩
 | _,_,.cons (a:=y) (b:=w) r t,h => by
  rw [List.all_cons,Bool.and_eq_true] at h
  obtain ⟨h1,h2⟩:=inU_ok hx rx t h.2
  refine ⟨by rw [List.all_cons,h1,flat_ok h.1 r]; rfl,?_⟩
  show (eqV w v || inV v _) = (eqF y x || _)
  rw [h2,eqF_ok hx h.1 rx r]
theorem tab_has {vs:List (Key × Value)} {y:U} {yv:V} {α:List Addr} (ky:keyU y = true) (ry:RU A α y yv):∀ {kvs:List (U × U)},Paired (fun (p:U × U) (q:Key × Value) => keyR p.1 q.1 /\ ∃ v,RU A [] p.2 v /\ RelV v q.2) kvs vs ->
  ∃ key,yv = kV key /\ (valueAt vs key).isSome = (lookU kvs y).isSome:=by
 obtain ⟨key,hy,hk⟩:∃ key,yv = kV key /\ keyR y key:=by
  cases y with
  | int i m =>
   cases m with
   | zero => obtain ⟨j,rfl,c⟩:=ry; cases c.exact; exact ⟨.inl i,rfl,rfl⟩
   | succ m => cases ky
  | str z => cases (show yv = _ from ry); exact ⟨.inr ⟨z.toArray⟩,rfl,rfl⟩
  | _ => cases ky
 have inj:∀ {p:U} {q:Key},keyR p q -> (p = y ↔ q = key):=by
  intro p q hp
  cases y with
  | int i m =>
   cases m with
   | succ m => cases ky
   | zero =>
    cases (show key = _ from hk)
    cases p with
    | int j n =>
     cases n with
     | succ n => exact (show False from hp).elim
     | zero => cases (show q = _ from hp); exact ⟨fun e => (by cases e; rfl),fun e => (by cases e; rfl)⟩
    | str z => cases (show q = _ from hp); exact ⟨fun e => (by cases e),fun e => (by cases e)⟩
    | _ => exact (show False from hp).elim
  | str z =>
   cases (show key = _ from hk)
   cases p with
   | int j n =>
    cases n with
    | succ n => exact (show False from hp).elim
    | zero => cases (show q = _ from hp); exact ⟨fun e => (by cases e),fun e => (by cases e)⟩
   | str z' =>
    cases (show q = _ from hp)
    refine ⟨fun e => (by cases e; rfl),fun e => ?_⟩
    have e1:=Sum.inr.inj e
    have e2:=congrArg (fun s:Str => s.cps.toList) e1
    have e3:z' = z:=by simpa using e2
    rw [e3]
   | _ => exact (show False from hp).elim
  | _ => cases ky
 intro kvs r
 refine ⟨key,hy,?_⟩
 induction r with
 | nil => rfl
 | @cons p q ps qs hpq t ih =>
  obtain ⟨pk,pv⟩:=p
  obtain ⟨qk,qv⟩:=q
  obtain ⟨h1,v,h2,h3⟩:=hpq
  simp only [lookU]
  by_cases e:pk = y
  ·have e2:qk = key:=(inj h1).mp e
   rw [if_pos e]
   simp [valueAt,e2]
  ·have e2:¬ qk = key:=fun z => e ((inj h1).mpr z)
   rw [if_neg e,<- ih]
   simp only [valueAt,List.find?_cons]
   rw [decide_eq_false e2]
def rTab (P:Program) (w:World) (K:PySem.W.Frag) (neg:Bool):R2:=fun x y H Q => ∃ a vs key,y = .ref a /\ (a == sysModules) = false /\ x = kV key /\ (∀ h:Heap,K.In h -> h.DictOf (mixKind P w) a vs) /\ Q (.bl (if neg then !(valueAt vs key).isSome else (valueAt vs key).isSome)) H
theorem op_in_tab:OpR X (compareOp .In) (rTab X.prog X.w X.K false):=by
 intro pins s σ H x y v u Q I rx ry h
 obtain ⟨a,vs,key,rfl,ns,rfl,hd,q⟩:=h
 cases ry
 exact wpAny_in_of (kV_is rx) ns (hd s.heap I.kIn).mapOf ⟨.bl _,H,I.tok _,rfl,q⟩
theorem op_notIn_tab:OpR X (compareOp .NotIn) (rTab X.prog X.w X.K true):=by
 intro pins s σ H x y v u Q I rx ry h
 obtain ⟨a,vs,key,rfl,ns,rfl,hd,q⟩:=h
 cases ry
 exact wpAny_notIn_of (kV_is rx) ns (hd s.heap I.kIn).mapOf ⟨.bl _,H,I.tok _,rfl,q⟩
theorem op_or {f:Value -> Value -> Sem Value} {r r':R2} (h:OpR X f r) (h':OpR X f r'):OpR X f (fun x y H Q => r x y H Q \/ r' x y H Q):=fun pins s σ H x y v u Q I rx ry q => q.elim (h pins s σ H x y v u Q I rx ry) (h' pins s σ H x y v u Q I rx ry)
theorem tbIn_ok {neg:Bool} {α:List Addr} {u w:U} {v y:V} {H:Hp} {Q:VK} {c:Bool} (tab:TabOk X.prog X.w T A X.K) (h:tbIn T w u = some c) (ru:RU A α u v) (rw':RU A α w y) (q:Q (.bl (if neg then !c else c)) H):rTab X.prog X.w X.K neg v y H Q \/ ∃ i j,v = .str i /\ y = .str j /\ Q (.bl (if neg then !(!(Builtin.Str.occurrences j i 0 j.length 1).isEmpty) else !(Builtin.Str.occurrences j i 0 j.length 1).isEmpty)) H:=by
 unfold tbIn at h
 split at h
 case h_3 => cases h
 case h_2 =>
  split at h
  ·rename_i y' x'
   cases h
   cases (show v = _ from ru)
   cases (show y = _ from rw')
   exact .inr ⟨_,_,rfl,rfl,q⟩
  ·cases h
 rename_i k
 refine .inl ?_
 split at h
 case h_2 => cases h
 rename_i kvs ec
 split at h
 case isFalse => cases h
 rename_i ky
 cases h
 obtain ⟨vs,ns,hd,hp⟩:=tab k kvs ec
 obtain ⟨key,ev,e⟩:=tab_has ky ru hp
 cases (show y = _ from rw')
 exact ⟨_,vs,key,rfl,ns,ev,hd,by rw [e]; exact q⟩
def CmpS (X:Cx) (T:Tbl) (A:Adr) (o:CmpOp):Prop:=∃ r,OpR X (compareOp o) r /\ ∀ {α:List Addr} {u w:U} {hs:Hs} {v y:V} {H:Hp} {Q:VK} {c:Bool},cmpU T o u w hs = some c -> RU A α u v -> RU A α w y -> Rep T A X.K α hs H -> Q (.bl c) H -> r v y H Q
theorem cmpS_I {o:CmpOp} {p:Int -> Int -> Bool} (ho:OpR X (compareOp o) (rI0 fun i j => .bl (p i j))) (hc:∀ u w hs,cmpU T o u w hs = match u,w with | .int i 0,.int j 0 => some (p i j) | _,_ => none):CmpS X T A o:=by
 refine ⟨_,ho,?_⟩
 intro α u w hs v y H Q c h ru rw' R q
 rw [hc] at h
 split at h
 ·cases h
  obtain ⟨i',rfl,a⟩:=ru
  obtain ⟨j',rfl,b⟩:=rw'
  cases a.exact
  cases b.exact
  exact ⟨_,_,rfl,rfl,q⟩
 ·cases h
theorem cmpS (tx:Txt T A X.K X.mg) (tab:TabOk X.prog X.w T A X.K) (hu:X.A.units + 64 < cLine) (o:CmpOp):CmpS X T A o:=by
 cases o with
 | Eq =>
  refine ⟨_,OpR.or op_eq (OpR.or (op_eqL tx hu) (OpR.or (op_eqR tx hu) (op_eqD tx hu))),?_⟩
  intro α u w hs v y H Q c h ru rw' R q
  simp only [cmpU,eqA] at h
  split at h
  ·rename_i b e
   cases h
   obtain ⟨h1,h2⟩:=eqS_ok e ru rw'
   exact .inl ⟨h1,by rw [h2]; exact q⟩
  ·split at h
   ·rename_i c
    cases h
    exact .inr (.inl ⟨α,u,w,hs,ru,rw',R,c,q⟩)
   ·split at h
    ·rename_i c
     cases h
     exact .inr (.inr (.inl ⟨α,u,w,hs,ru,rw',R,c,q⟩))
    ·split at h
     ·rename_i c
      cases h
      rw [Bool.and_eq_true] at c
      exact .inr (.inr (.inr ⟨α,u,w,hs,ru,rw',R,c.1,c.2,q⟩))
     ·cases h
 | NotEq =>
  refine ⟨_,OpR.or op_ne (OpR.or (op_neL tx hu) (OpR.or (op_neR tx hu) (op_neD tx hu))),?_⟩
  intro α u w hs v y H Q c h ru rw' R q
  simp only [cmpU,Option.map_eq_some_iff,eqA] at h
  obtain ⟨d,h,e⟩:=h
  split at h
  ·rename_i b eb
   cases h
   obtain ⟨h1,h2⟩:=eqS_ok eb ru rw'
   exact .inl ⟨h1,by rw [h2,e]; exact q⟩
  ·split at h
   ·rename_i cc
    cases h
    refine .inr (.inl ⟨α,u,w,hs,ru,rw',R,cc,?_⟩)
    rw [show (true:Bool) = c from e]
    exact q
   ·split at h
    ·rename_i cc
     cases h
     refine .inr (.inr (.inl ⟨α,u,w,hs,ru,rw',R,cc,?_⟩))
     rw [show (false:Bool) = c from e]
     exact q
    ·split at h
     ·rename_i cc
      cases h
      rw [Bool.and_eq_true] at cc
      refine .inr (.inr (.inr ⟨α,u,w,hs,ru,rw',R,cc.1,cc.2,?_⟩))
      rw [if_pos rfl,e]
      exact q
     ·cases h
 | Lt => exact cmpS_I op_lt fun _ _ _ => rfl
 | LtE => exact cmpS_I op_le fun _ _ _ => rfl
 | Gt => exact cmpS_I op_gt fun _ _ _ => rfl
 | GtE => exact cmpS_I op_ge fun _ _ _ => rfl
 | Is =>
  refine ⟨_,op_isN,?_⟩
  intro α u w hs v y H Q c h ru rw' R q
  simp only [cmpU] at h
  split at h
  ·cases h
   refine ⟨rw',?_⟩
   have e:decide (v = .non) = decide (u = .non):=by
    cases u with
    | non => cases (show v = _ from ru); rfl
    | bl b => cases (show v = _ from ru); rfl
    | int i m => obtain ⟨_,rfl,_⟩:=ru; rfl
    | str x => cases (show v = _ from ru); rfl
    | ref n => obtain ⟨_,_,rfl⟩:=ru; rfl
    | con k => cases (show v = _ from ru); rfl
    | scr => cases (show v = _ from ru); rfl
   rw [e]
   exact q
  ·cases h
 | IsNot =>
  refine ⟨_,op_notN,?_⟩
  intro α u w hs v y H Q c h ru rw' R q
  simp only [cmpU] at h
  split at h
  ·cases h
   refine ⟨rw',?_⟩
   have e:decide (v = .non) = decide (u = .non):=by
    cases u with
    | non => cases (show v = _ from ru); rfl
    | bl b => cases (show v = _ from ru); rfl
    | int i m => obtain ⟨_,rfl,_⟩:=ru; rfl
    | str x => cases (show v = _ from ru); rfl
    | ref n => obtain ⟨_,_,rfl⟩:=ru; rfl
    | con k => cases (show v = _ from ru); rfl
    | scr => cases (show v = _ from ru); rfl
   rw [e]
   exact q
  ·cases h
 | In =>
  refine ⟨_,op_or op_in_seq (op_or op_in_tab op_in_str),?_⟩
  intro α u w hs v y H Q c h ru rw' R q
  simp only [cmpU] at h
  split at h
  ·rename_i xs e
   obtain ⟨a,vs,rfl,rr,sq⟩:=seqU_ok (K':=X.K) tx R e rw'
   unfold inU at h
   split at h
   ·rename_i f
    cases h
    rw [Bool.and_eq_true] at f
    obtain ⟨h1,h2⟩:=inU_ok f.1 ru rr f.2
    exact .inl ⟨a,vs,rfl,sq,flat_ok f.1 ru,h1,by rw [h2]; exact q⟩
   ·cases h
  ·exact .inr (tbIn_ok (neg:=false) tab h ru rw' q)
 | NotIn =>
  refine ⟨_,op_or op_notIn_seq (op_or op_notIn_tab op_notin_str),?_⟩
  intro α u w hs v y H Q c h ru rw' R q
  simp only [cmpU] at h
  split at h
  ·rename_i xs e
   obtain ⟨a,vs,rfl,rr,sq⟩:=seqU_ok (K':=X.K) tx R e rw'
   simp only [Option.map_eq_some_iff] at h
   obtain ⟨d,h,e2⟩:=h
   unfold inU at h
   split at h
   ·rename_i f
    cases h
    rw [Bool.and_eq_true] at f
    obtain ⟨h1,h2⟩:=inU_ok f.1 ru rr f.2
    exact .inl ⟨a,vs,rfl,sq,flat_ok f.1 ru,h1,by rw [h2]; simp only [if_true]; rw [e2]; exact q⟩
   ·cases h
  ·simp only [Option.map_eq_some_iff] at h
   obtain ⟨d,h,e2⟩:=h
   exact .inr (tbIn_ok (neg:=true) tab h ru rw' (by simp only [if_true]; rw [e2]; exact q))
theorem atU_ok {α:List Addr} {us:List U} {vs:List V} {i:Int} {u:U} (r:RUs A α us vs) (h:atU us i = some u):∃ v,atI vs i = some v /\ RU A α u v:=by
 unfold atU at h
 split at h
 ·rename_i j e
  obtain ⟨v,h1,h2⟩:=r.get h
  refine ⟨v,?_,h2⟩
  have e':ixN vs.length i = some j:=by rw [<- r.length]; exact e
  unfold atI
  rw [e']
  exact h1
 ·cases h
theorem atU_n {xs:List Nat} {i:Int} {c:Nat} (h:atU xs i = some c):atI xs i = some c:=by
 unfold atU at h
 split at h
 ·rename_i j e
  have e':ixN xs.length i = some j:=e
  unfold atI
  rw [e']
  exact h
 ·cases h
theorem subU_ok {α:List Addr} {u w x:U} {hs:Hs} {v y:V} {H:Hp} {Q:VK} (tx:Txt T A X.K X.mg) (h:subU T u w hs = some x) (ru:RU A α u v) (rw':RU A α w y) (R:Rep T A X.K α hs H) (k:∀ z,RU A α x z -> Q z H):rIx X.K v y H Q:=by
 have seq:∀ {xs:List U} {i:Int},seqU T u hs = some xs -> w = .int i 0 -> atU xs i = some x -> rIx X.K v y H Q:=fun {xs i} e1 e2 e3 => by
  subst e2
  obtain ⟨j,rfl,c⟩:=rw'
  cases c.exact
  obtain ⟨a,vs,rfl,rr,sq⟩:=seqU_ok (K':=X.K) tx R e1 ru
  obtain ⟨z,h1,h2⟩:=atU_ok rr e3
  rcases sq with sq | sq
  ·exact .inl ⟨a,vs,i,z,rfl,rfl,sq,h1,k z h2⟩
  ·exact .inr (.inl ⟨a,vs,i,z,rfl,rfl,sq,h1,k z h2⟩)
 cases u with
 | str z =>
  cases w with
  | int i m =>
   cases m with
   | succ m => simp [subU,seqU] at h
   | zero =>
    simp only [subU] at h
    split at h
    ·rename_i l
     simp only [Option.map_eq_some_iff] at h
     obtain ⟨c,e,rfl⟩:=h
     cases (show v = _ from ru)
     obtain ⟨j,rfl,q⟩:=rw'
     cases q.exact
     exact .inr (.inr ⟨_,i,c,rfl,rfl,by rw [cps_str]; exact Nat.le_trans l big,by simpa using atU_n e,k _ (by show _ = _; rfl)⟩)
    ·cases h
  | _ => simp [subU,seqU] at h
 | ref n =>
  simp only [subU] at h
  split at h
  ·rename_i xs i e
   exact seq (by simp only [seqU,e]) rfl h
  ·rename_i xs i e
   exact seq (by simp only [seqU,e]) rfl h
  ·cases h
 | con n =>
  cases w with
  | int i m =>
   cases m with
   | succ m => simp [subU] at h
   | zero =>
    simp only [subU] at h
    split at h
    ·rename_i xs e
     exact seq e rfl h
    ·cases h
  | _ => simp [subU] at h
 | scr =>
  cases w with
  | int i m =>
   cases m with
   | succ m => simp [subU] at h
   | zero =>
    simp only [subU] at h
    split at h
    ·rename_i xs e
     exact seq e rfl h
    ·cases h
  | _ => simp [subU] at h
 | _ =>
  cases w with
  | int i m => cases m <;> simp [subU,seqU] at h
  | _ => simp [subU] at h
theorem RUs.drop {α:List Addr}:∀ (n:Nat) {us:List U} {vs:List V},RUs A α us vs -> RUs A α (us.drop n) (vs.drop n)
 | 0,_,_,r => r
 | _ + 1,_,_,.nil => .nil
 | n + 1,_,_,.cons _ t => RUs.drop n t
theorem RUs.take {α:List Addr}:∀ (n:Nat) {us:List U} {vs:List V},RUs A α us vs -> RUs A α (us.take n) (vs.take n)
 | 0,_,_,_ => .nil
 | _ + 1,_,_,.nil => .nil
 | n + 1,_,_,.cons r t => .cons r (RUs.take n t)
theorem cutIx_eq (n d:Nat) (o:Option Int):cutIx n d o = HT.sIx n d o:=by cases o <;> rfl
theorem RUs.cut {α:List Addr} {us:List U} {vs:List V} (r:RUs A α us vs) (lo hi:Option Int):RUs A α (cutU us lo hi) (cutV vs lo hi):=by
 unfold cutU cutV
 rw [cutIx_eq,cutIx_eq,r.length]
 exact RUs.take _ (RUs.drop _ r)
theorem cutU_str (x:List Nat) (lo hi:Option Int):(Txt.slice ⟨x.toArray⟩ lo hi) = ⟨(cutU x lo hi).toArray⟩:=by
 have h:=slice_cut ⟨x.toArray⟩ lo hi
 have e:(⟨x.toArray⟩:Str).length = x.length:=by simp [Str.length]
 rw [e] at h
 apply Str.ext'
 apply Array.toList_inj.mp
 rw [h]
 simp only [cutU,cutIx_eq]
theorem slU_ok {α:List Addr} {u x:U} {hs hs':Hs} {v:V} {H:Hp} {Q:VK} {lo hi:Option Int} (h:slU T u lo hi hs = some (x,hs')) (ru:RU A α u v) (R:Rep T A X.K α hs H) (k:∀ α' z H',Ext α α' H H' -> Rep T A X.K α' hs' H' -> RU A α' x z -> Q z H'):rSlL X.K v lo hi H Q \/ (rSlT X.K v lo hi H Q \/ rSlS v lo hi H Q):=by
 cases u with
 | scr =>
  simp only [slU] at h
  cases h
  obtain ⟨vs,rr,q⟩:=R.s.sq (α:=α)
  refine .inl ⟨_,vs,ru,q,fun p hp => ?_⟩
  obtain ⟨R',E'⟩:=R.new (o:=.lst (cutU T.scr lo hi)) hp ⟨_,upd_same,RUs.mono snoc_pre (rr.cut lo hi)⟩
  exact k _ _ _ E' R' ⟨p,by rw [<- R.h.len]; exact snoc_at,rfl⟩
 | ref n =>
  simp only [slU] at h
  split at h
  ·rename_i xs e
   cases h
   obtain ⟨a,ha,rfl⟩:=ru
   obtain ⟨vs,q,rr⟩:=R.h.ob n a _ ha e
   refine .inl ⟨_,vs,rfl,SqL.of q,fun p hp => ?_⟩
   obtain ⟨R',E'⟩:=R.new (o:=.lst (cutU xs lo hi)) hp ⟨_,upd_same,RUs.mono snoc_pre (rr.cut lo hi)⟩
   exact k _ _ _ E' R' ⟨p,by rw [<- R.h.len]; exact snoc_at,rfl⟩
  ·rename_i xs e
   split at h
   ·cases h
   rename_i hw
   cases h
   obtain ⟨a,ha,rfl⟩:=ru
   obtain ⟨vs,q,rr⟩:=R.h.ob n a _ ha e
   refine .inr (.inl ⟨_,vs,rfl,SqT.of q,?_,fun p hp => ?_⟩)
   ·rw [cutIx_eq,cutIx_eq,rr.length] at hw
    exact hw
   obtain ⟨R',E'⟩:=R.new (o:=.tup (cutU xs lo hi)) hp ⟨_,upd_same,RUs.mono snoc_pre (rr.cut lo hi)⟩
   exact k _ _ _ E' R' ⟨p,by rw [<- R.h.len]; exact snoc_at,rfl⟩
  ·cases h
 | str y =>
  simp only [slU] at h
  split at h
  ·rename_i l
   cases h
   cases (show v = _ from ru)
   refine .inr (.inr ⟨_,rfl,by rw [cps_str]; exact Nat.le_trans l big,?_⟩)
   rw [cutU_str]
   exact k α _ H Ext.refl R rfl
  ·cases h
 | _ => simp [slU] at h
end
end Iv
namespace Iv
open PySem PySem.Spec PyProof.Rows L2
section
variable {X:Cx} {T:Tbl} {A:Adr} {C:Ctx}
theorem PEfalse {e:Expr} {t:TE} (h:∀ σ H Q,¬ t σ H Q):PE X e t:=fun _ _ σ H Q _ q => (h σ H Q q).elim
theorem kit_b (K:PySem.W.Frag) {k t:Ty} {b:Bool} (h:isiB k t = some b) (A:Adr):PySem.W.kitOne K (tyW A k) (tyW A t) = some b:=by
 cases k <;> cases t <;> simp only [isiB] at h <;> first | (cases h; done) | (cases h; rfl) | (cases h; kernel_rfl)
theorem kind_ok {α:List Addr} {u:U} {hs:Hs} {v:V} {H:Hp} {k:Ty} (tx:Txt T A X.K X.mg) (h:kindU u hs = some k) (r:RU A α u v) (R:Rep T A X.K α hs H):TyOf X.K H v (tyW A k):=by
 cases u with
 | non => cases h; cases (show v = _ from r); exact .non
 | bl b => cases h; cases (show v = _ from r); exact .bl b
 | int i m => cases h; obtain ⟨j,rfl,_⟩:=r; exact .int j
 | str x => cases h; cases (show v = _ from r); exact .str _
 | ref n =>
  obtain ⟨a,ha,rfl⟩:=r
  simp only [kindU] at h
  split at h
  ·rename_i xs e
   cases h
   obtain ⟨vs,q,_⟩:=R.h.ob n a _ ha e
   exact .lst q
  ·rename_i xs e
   cases h
   obtain ⟨vs,q,_⟩:=R.h.ob n a _ ha e
   exact .tup q
  ·cases h
  ·rename_i c fs e
   cases h
   obtain ⟨dx,fv,q,_,l⟩:=R.h.ob n a _ ha e
   exact (tx.cl c _ (List.getElem?_eq_getElem l)).ty H a dx fv q
  ·cases h
 | _ => simp [kindU] at h
theorem isi_ok {α:List Addr} {u:U} {hs:Hs} {v:V} {H:Hp} {t:Ty} {b:Bool} (tx:Txt T A X.K X.mg) (h:isiU T t u hs = some b) (r:RU A α u v) (R:Rep T A X.K α hs H):∃ tv,TyOf X.K H v tv /\ PySem.W.kitOne X.K tv (tyW A t) = some b:=by
 unfold isiU at h
 split at h
 ·cases h
 ·rename_i k e
  refine ⟨tyW A k,kind_ok tx e r R,?_⟩
  split at h
  ·rename_i b' e'
   cases h
   exact kit_b X.K e' A
  ·exact tx.isi k t b h
theorem vals_cons {α:List Addr} {u:U} {us:List U} {vs:List V} (r:RUs A α (u :: us) vs):∃ v ws,vs = v :: ws /\ RU A α u v /\ RUs A α us ws:=by cases r with | cons a b => exact ⟨_,_,rfl,a,b⟩
theorem vals_nil {α:List Addr} {vs:List V} (r:RUs A α [] vs):vs = []:=by cases r; rfl
theorem digs_str (n:Nat):((toString (n:Int):String):Str) = ⟨(digs n).toArray⟩:=by
 apply Str.ext'
 apply Array.toList_inj.mp
 exact PySem.W.KIN.signs_num n
def BiS (X:Cx) (T:Tbl) (A:Adr) (b:Bi) (f:Value):Prop:=∃ r,CallR X f r /\ ∀ {α:List Addr} {us:List U} {u':U} {hs hs':Hs} {vs:List V} {H:Hp} {Q:VK},biU T b us hs = some (u',hs') -> RUs A α us vs -> Rep T A X.K α hs H ->
 (∀ α' v' H',Ext α α' H H' -> Rep T A X.K α' hs' H' -> RU A α' u' v' -> Q v' H') -> r vs H Q
theorem biS_len (tx:Txt T A X.K X.mg):BiS X T A .len (.builtin "len"):=by
 refine ⟨_,CallR.or call_len_seq call_len_str,?_⟩
 intro α us u' hs hs' vs H Q h r R k
 have seq:∀ {u:U} {xs:List U},us = [u] -> seqU T u hs = some xs -> (u',hs') = (U.int xs.length 0,hs) -> (∃ p ys,vs = [V.ref p] /\ (SqL X.K H p ys \/ SqT X.K H p ys) /\ Q (.int ys.length) H):=fun {u xs} e1 e2 e3 => by
  subst e1
  cases e3
  obtain ⟨v,ws,rfl,ru,rn⟩:=vals_cons r
  cases vals_nil rn
  obtain ⟨a,ys,rfl,rr,sq⟩:=seqU_ok (K':=X.K) tx R e2 ru
  exact ⟨a,ys,rfl,sq,k α _ H Ext.refl R ⟨_,rfl,by rw [rr.length]; exact Cg.refl _ _⟩⟩
 cases us with
 | nil => simp [biU] at h
 | cons u t =>
  cases t with
  | cons _ _ => cases u <;> simp [biU] at h
  | nil =>
   cases u with
   | str x =>
    simp only [biU] at h
    split at h
    ·rename_i l
     cases h
     obtain ⟨v,ws,rfl,ru,rn⟩:=vals_cons r
     cases vals_nil rn
     cases (show v = _ from ru)
     refine .inr ⟨_,rfl,by rw [cps_str]; exact Nat.le_trans l big,k α _ H Ext.refl R ⟨_,rfl,?_⟩⟩
     rw [cps_str]
     exact Cg.refl _ _
    ·cases h
   | ref n => simp only [biU,Option.map_eq_some_iff] at h; obtain ⟨xs,e,q⟩:=h; exact .inl (seq rfl e q.symm)
   | con n => simp only [biU,Option.map_eq_some_iff] at h; obtain ⟨xs,e,q⟩:=h; exact .inl (seq rfl e q.symm)
   | scr => simp only [biU,Option.map_eq_some_iff] at h; obtain ⟨xs,e,q⟩:=h; exact .inl (seq rfl e q.symm)
   | _ => simp [biU,seqU] at h
theorem biS_str:BiS X T A .str (.type "str"):=by
 refine ⟨_,call_str_int,?_⟩
 intro α us u' hs hs' vs H Q h r R k
 cases us with
 | nil => simp [biU] at h
 | cons u t =>
  cases t with
  | cons _ _ => cases u <;> simp [biU] at h
  | nil =>
   obtain ⟨v,ws,rfl,ru,rn⟩:=vals_cons r
   cases vals_nil rn
   cases u with
   | int i m =>
    cases m with
    | succ m => simp [biU] at h
    | zero =>
     simp only [biU] at h
     split at h
     ·rename_i c
      cases h
      obtain ⟨j,rfl,q⟩:=ru
      cases q.exact
      simp only [Bool.and_eq_true,decide_eq_true_eq] at c
      obtain ⟨n,rfl⟩:=Int.eq_ofNat_of_zero_le c.1
      exact ⟨(n:Int),rfl,c.2,k α _ H Ext.refl R (congrArg V.str (digs_str n))⟩
     ·cases h
   | _ => simp [biU] at h
theorem intsU_ok {α:List Addr}:∀ {ys:List U} {ns:List Int} {vs:List V},intsU ys = some ns -> RUs A α ys vs -> vs = ns.map V.int
 | [],_,_,h,r => by cases h; cases vals_nil r; rfl
 | u :: ys,ns,vs,h,r => by
  cases u with
  | int i m =>
   cases m with
   | succ m => simp [intsU] at h
   | zero =>
    simp only [intsU,Option.map_eq_some_iff] at h
    obtain ⟨ns',h,rfl⟩:=h
    obtain ⟨v,ws,rfl,ru,rn⟩:=vals_cons r
    obtain ⟨j,rfl,c⟩:=ru
    cases c.exact
    rw [intsU_ok h rn]
    rfl
  | _ => simp [intsU] at h
theorem exactI {α:List Addr} {i:Int} {v:V} (r:RU A α (.int i 0) v):v = .int i:=by
 obtain ⟨j,rfl,c⟩:=r
 cases c.exact
 rfl
theorem biS_sum (tx:Txt T A X.K X.mg) (hc:X.calm = true):BiS X T A .sum (.builtin "sum"):=by
 refine ⟨_,call_sumL hc,?_⟩
 intro α us u' hs hs' vs H Q h r R k
 have h:biL T .sum us hs = some (u',hs'):=h
 unfold biL at h
 split at h <;> try contradiction
 ·simp only [Option.bind_eq_some_iff,Option.map_eq_some_iff] at h
  obtain ⟨xs,el,ns,en,h⟩:=h
  cases h
  obtain ⟨v,ws,rfl,ru,rn⟩:=vals_cons r
  cases vals_nil rn
  obtain ⟨a,vs,rfl,rr,sq⟩:=lstU_ok tx R el ru
  cases intsU_ok en rr
  exact ⟨a,ns,rfl,sq,k α _ H Ext.refl R ⟨_,rfl,Cg.refl _ _⟩⟩
theorem CallR.or {f:Value} {r1 r2:List V -> Hp -> VK -> Prop} (h1:CallR X f r1) (h2:CallR X f r2):CallR X f (fun xs H Q => r1 xs H Q \/ r2 xs H Q):=by
 intro pins s σ H xs us Q I r h
 rcases h with h | h
 ·exact h1 pins s σ H xs us Q I r h
 ·exact h2 pins s σ H xs us Q I r h
theorem biS_max (tx:Txt T A X.K X.mg) (hc:X.calm = true):BiS X T A .max (.builtin "max"):=by
 refine ⟨_,CallR.or (call_maxL hc) (call_max2 hc),?_⟩
 intro α us u' hs hs' vs H Q h r R k
 have h:biL T .max us hs = some (u',hs'):=h
 unfold biL at h
 split at h <;> try contradiction
 ·simp only [Option.bind_eq_some_iff,Option.map_eq_some_iff] at h
  obtain ⟨xs,el,ns,en,m,em,h⟩:=h
  cases h
  obtain ⟨v,ws,rfl,ru,rn⟩:=vals_cons r
  cases vals_nil rn
  obtain ⟨a,vs,rfl,rr,sq⟩:=lstU_ok tx R el ru
  cases intsU_ok en rr
  refine .inl ⟨a,ns,rfl,sq,?_,fun M h1 h2 => ?_⟩
  ·cases ns with
   | nil => cases em
   | cons _ _ => exact Nat.succ_pos _
  ·cases maxU_is em h1 h2
   exact k α _ H Ext.refl R ⟨_,rfl,Cg.refl _ _⟩
 ·refine .inr ?_
  cases h
  obtain ⟨v,ws,rfl,ru,rn⟩:=vals_cons r
  obtain ⟨v2,ws,rfl,ru2,rn⟩:=vals_cons rn
  cases vals_nil rn
  cases exactI ru
  cases exactI ru2
  exact ⟨_,_,rfl,k α _ H Ext.refl R ⟨_,rfl,Cg.refl _ _⟩⟩
theorem biS_min (tx:Txt T A X.K X.mg) (hc:X.calm = true):BiS X T A .min (.builtin "min"):=by
 refine ⟨_,CallR.or (call_minL hc) (call_min2 hc),?_⟩
 intro α us u' hs hs' vs H Q h r R k
 have h:biL T .min us hs = some (u',hs'):=h
 unfold biL at h
 split at h <;> try contradiction
 ·simp only [Option.bind_eq_some_iff,Option.map_eq_some_iff] at h
  obtain ⟨xs,el,ns,en,m,em,h⟩:=h
  cases h
  obtain ⟨v,ws,rfl,ru,rn⟩:=vals_cons r
  cases vals_nil rn
  obtain ⟨a,vs,rfl,rr,sq⟩:=lstU_ok tx R el ru
  cases intsU_ok en rr
  refine .inl ⟨a,ns,rfl,sq,?_,fun M h1 h2 => ?_⟩
  ·cases ns with
   | nil => cases em
   | cons _ _ => exact Nat.succ_pos _
  ·cases minU_is em h1 h2
   exact k α _ H Ext.refl R ⟨_,rfl,Cg.refl _ _⟩
 ·refine .inr ?_
  cases h
  obtain ⟨v,ws,rfl,ru,rn⟩:=vals_cons r
  obtain ⟨v2,ws,rfl,ru2,rn⟩:=vals_cons rn
  cases vals_nil rn
  cases exactI ru
  cases exactI ru2
  exact ⟨_,_,rfl,k α _ H Ext.refl R ⟨_,rfl,Cg.refl _ _⟩⟩
theorem biS_abs:BiS X T A .abs (.builtin "abs"):=by
 refine ⟨_,call_abs,?_⟩
 intro α us u' hs hs' vs H Q h r R k
 have h:biL T .abs us hs = some (u',hs'):=h
 unfold biL at h
 split at h <;> try contradiction
 ·cases h
  obtain ⟨v,ws,rfl,ru,rn⟩:=vals_cons r
  cases vals_nil rn
  cases exactI ru
  exact ⟨_,rfl,k α _ H Ext.refl R ⟨_,rfl,Cg.refl _ _⟩⟩
def BmS (X:Cx) (T:Tbl) (A:Adr) (b:Bm) (id:String):Prop:=∃ r,MtR X id r /\ ∀ {α:List Addr} {o u':U} {us:List U} {hs hs':Hs} {x:V} {vs:List V} {H:Hp} {Q:VK},bmU T b o us hs = some (u',hs') -> RU A α o x -> RUs A α us vs -> Rep T A X.K α hs H ->
 (∀ α' v' H',Ext α α' H H' -> Rep T A X.K α' hs' H' -> RU A α' u' v' -> Q v' H') -> r x vs H Q
theorem bmS_ref {b:Bm} {o u':U} {us:List U} {hs hs':Hs} (h:bmU T b o us hs = some (u',hs')) (hb:∀ x,bmS T b x us hs = none) (hd:∀ n kvs,bmD b n kvs us hs = none):∃ n xs,o = .ref n /\ hs[n]? = some (.lst xs):=by
 cases o with
 | ref n =>
  simp only [bmU] at h
  split at h
  ·rename_i xs e
   exact ⟨n,xs,rfl,e⟩
  ·rw [hd] at h; cases h
  ·cases h
 | str x =>
  simp only [bmU] at h
  rw [hb] at h
  cases h
 | _ => simp [bmU] at h
theorem bmS_append:BmS X T A .append "list.append":=by
 refine ⟨_,mt_append,?_⟩
 intro α o u' us hs hs' x vs H Q h ro r R k
 obtain ⟨n,xs,rfl,e⟩:=bmS_ref h (fun _ => rfl) (fun _ _ => rfl)
 obtain ⟨a,ha,rfl⟩:=ro
 cases us with
 | nil => simp [bmU,bmL,e] at h
 | cons u t =>
  cases t with
  | cons _ _ => simp [bmU,bmL,e] at h
  | nil =>
   simp only [bmU,bmL,e] at h
   split at h
   ·rename_i l
    cases h
    obtain ⟨v,ws,rfl,ru,rn⟩:=vals_cons r
    cases vals_nil rn
    obtain ⟨ys,q,rr⟩:=R.h.ob n a _ ha e
    refine ⟨a,ys,v,rfl,rfl,q,?_,?_⟩
    ·rw [<- rr.length]; exact Nat.lt_of_lt_of_le l big
    ·obtain ⟨R',E'⟩:=R.put (o:=.lst (xs ++ [u])) ha ⟨_,upd_same,rr.append (.cons ru .nil)⟩
     exact k _ _ _ E' R' rfl
   ·cases h
theorem RUs.reverse {α:List Addr}:∀ {us:List U} {vs:List V},RUs A α us vs -> RUs A α us.reverse vs.reverse
 | _,_,.nil => .nil
 | _,_,.cons r t => by
  rw [List.reverse_cons,List.reverse_cons]
  exact RUs.append (RUs.reverse t) (.cons r .nil)
end
end Iv
namespace Iv
open PySem PySem.Spec PyProof.Rows L2
def TIO (T:Tbl) (A:Adr) (K:PySem.W.Frag) (f:Rho -> Hs -> Option (Option Int × Hs)):TO:=fun σ H Q => ∃ α ρ hs u hs',RS A α ρ σ /\ Rep T A K α hs H /\ f ρ hs = some (u,hs') /\
 ∀ α' H',Ext α α' H H' -> Rep T A K α' hs' H' -> Q u H'
structure Fc (X:Cx) (T:Tbl) (A:Adr) (cf:Cf) (k:Nat):Prop where
 ok:∀ f F,T.fns[f]? = some F -> ∃ fd,FnOk X.prog X.w X.K X.mg X.base CX0 k (A.f f) fd F.ps (spC T A X.K cf f) /\ Binds X.K fd F.ps [] /\ PySem.W.keepIn X.K (.ref (A.f f)) = true
 some:∀ f us hs r,cf f us hs = some r -> ∃ F,T.fns[f]? = some F /\ us.length = F.np
 df:∀ i D F,T.dfl.lookup i = Option.some D -> T.fns[i]? = Option.some F -> ∃ fd,FnOk X.prog X.w X.K X.mg X.base CX0 k (A.f i) fd D.ps (spC T A X.K cf i) /\ PySem.W.keepIn X.K (.ref (A.f i)) = true /\ DfOk A X.K fd D
structure Snd (T:Tbl) (A:Adr) (C:Ctx) (X:Cx) (cf:Cf) (m:Nat):Prop where
 e:∀ d e ir,compE m C e = some ir -> PE X e (TI T A X.K (ev T cf d ir))
 t:∀ d e ir,compT m C e = some ir -> PT X e (TIT T A X.K (evT T cf d ir)) /\ PE X e (TI T A X.K (ev T cf d ir))
 an:∀ d a r p ir,compAnd m C a r p = some ir -> PW X (.BoolOp .And (a :: r) p) (TIT T A X.K (evT T cf d ir)) /\ PE X (.BoolOp .And (a :: r) p) (TI T A X.K (ev T cf d ir))
 orr:∀ d a r p ir,compOr m C a r p = some ir -> PW X (.BoolOp .Or (a :: r) p) (TIT T A X.K (evT T cf d ir)) /\ PE X (.BoolOp .Or (a :: r) p) (TI T A X.K (ev T cf d ir))
 a:∀ d es irs,compA m C es = some irs -> PA X es (TIA T A X.K (fun ρ hs => evs (ev T cf d) ρ irs hs))
 o:∀ d e ir,compO m C e = some ir -> PO X e (TIO T A X.K (fun ρ hs => evO (ev T cf d) ρ ir hs))
section
variable {X:Cx} {T:Tbl} {A:Adr} {C:Ctx} {cf:Cf} {m:Nat}
theorem PTfalse {e:Expr} {t:TT} (h:∀ σ H Q,¬ t σ H Q):PT X e t:=fun _ _ σ H Q _ q => (h σ H Q q).elim
theorem PWfalse {e:Expr} {t:TT} (h:∀ σ H Q,¬ t σ H Q):PW X e t:=fun _ _ _ σ H Q _ q => (h σ H Q q).elim
theorem no_ev {K:PySem.W.Frag} {ir:E}:∀ σ H Q,¬ TI T A K (ev T cf 0 ir) σ H Q:=fun _ _ _ ⟨_,_,_,_,_,_,_,h,_⟩ => nomatch h
theorem no_evT {K:PySem.W.Frag} {ir:E}:∀ σ H Q,¬ TIT T A K (evT T cf 0 ir) σ H Q:=fun _ _ _ ⟨_,_,_,_,_,_,_,h,_⟩ => nomatch h
theorem pe_cases {e:Expr} {ir:E} {d:Nat} (h:∀ d',PE X e (TI T A X.K (ev T cf (d' + 1) ir))):PE X e (TI T A X.K (ev T cf d ir)):=by
 cases d with
 | zero => exact PEfalse no_ev
 | succ d => exact h d
theorem s_const {c:Const} {k:Nat} {p:Pos} {d:Nat} {ir:E} (h:compE (m + 1) C (.Constant c k p) = some ir):PE X (.Constant c k p) (TI T A X.K (ev T cf d ir)):=by
 refine pe_cases fun d => ?_
 cases c with
 | int i => cases h; exact PEimp pe_int fun σ H Q ⟨α,ρ,hs,u,hs',rs,R,e,q⟩ => by cases e; exact q α _ H Ext.refl R ⟨i,rfl,Cg.refl _ _⟩
 | bool b => cases h; exact PEimp pe_bl fun σ H Q ⟨α,ρ,hs,u,hs',rs,R,e,q⟩ => by cases e; exact q α _ H Ext.refl R rfl
 | none => cases h; exact PEimp pe_non fun σ H Q ⟨α,ρ,hs,u,hs',rs,R,e,q⟩ => by cases e; exact q α _ H Ext.refl R rfl
 | str x => cases h; exact PEimp pe_str fun σ H Q ⟨α,ρ,hs,u,hs',rs,R,e,q⟩ => by cases e; exact q α _ H Ext.refl R rfl
 | _ => simp [compE] at h
theorem s_name {x:Str} {p:Pos} {d:Nat} {ir:E} (g:GX T A C X) (h:compE (m + 1) C (.Name x p) = some ir):PE X (.Name x p) (TI T A X.K (ev T cf d ir)):=by
 refine pe_cases fun d => ?_
 simp only [compE] at h
 split at h
 ·cases h
 ·rename_i hn
  have n1:(x == ("__debug__":Str)) = false:=ne_beq fun z => hn (.inl z)
  have n2:(x == ("__classdict__":Str)) = false:=ne_beq fun z => hn (.inr z)
  split at h
  ·rename_i hv
   simp only [Option.map_eq_some_iff] at h
   obtain ⟨i,hi,rfl⟩:=h
   refine PEimp (pe_var (i:=i) (by rw [g.N]; exact idx_get hi) (vis_of g hv) n1 n2) ?_
   rintro σ H Q ⟨α,ρ,hs,u,hs',rs,R,e,q⟩
   simp only [ev] at e
   split at e
   ·rename_i w e'
    cases e
    obtain ⟨v,h1,h2⟩:=rs.get e'
    exact ⟨v,h1,q α v H Ext.refl R h2⟩
   ·cases e
  ·split at h
   ·rename_i hg
    split at h
    ·rename_i k hk
     cases h
     refine PEimp (pe_glob (gl_of g hg) (g.gco x k hk) (v:=.ref (A.k k)) rfl n1) ?_
     rintro σ H Q ⟨α,ρ,hs,u,hs',rs,R,e,q⟩
     cases e
     exact q α _ H Ext.refl R rfl
    ·rename_i t hk
     cases h
     obtain ⟨k,hm⟩:=g.gtx x t hk
     refine PEimp (pe_glob (gl_of g hg) hm (v:=.str ⟨t.toArray⟩) ⟨_,rfl⟩ n1) ?_
     rintro σ H Q ⟨α,ρ,hs,u,hs',rs,R,e,q⟩
     simp only [ev] at e
     cases e
     exact q α _ H Ext.refl R rfl
    ·cases h
   ·cases h
theorem s_bin {a b:Expr} {o:Operator} {p:Pos} {d:Nat} {ir:E} (S:Snd T A C X cf m) (h:compE (m + 1) C (.BinOp a o b p) = some ir):PE X (.BinOp a o b p) (TI T A X.K (ev T cf d ir)):=by
 refine pe_cases fun d => ?_
 simp only [compE,Option.bind_eq_some_iff] at h
 obtain ⟨a',ha,b',hb,h⟩:=h
 cases h
 obtain ⟨r,ho,hr⟩:=opS (X:=X) (T:=T) (A:=A) o
 refine PEimp (pe_op ho (S.e d a a' ha) (S.e d b b' hb)) ?_
 rintro σ H Q ⟨α,ρ,hs,u,hs',rs,R,e,q⟩
 simp only [ev] at e
 obtain ⟨u1,h1,e1,e⟩:=bd_some e
 obtain ⟨u2,h2,e2,e⟩:=bd_some e
 refine TI.run rs R e1 fun α1 x H1 E1 R1 r1 rs1 => ?_
 refine TI.run rs1 R1 e2 fun α2 y H2 E2 R2 r2 rs2 => ?_
 exact hr e (r1.mono E2.pre) r2 R2 fun α3 v H3 E3 R3 r3 => q α3 v H3 ((E1.trans E2 R2.h).trans E3 R3.h) R3 r3
theorem s_neg {a:Expr} {p:Pos} {d:Nat} {ir:E} (S:Snd T A C X cf m) (h:compE (m + 1) C (.UnaryOp .USub a p) = some ir):PE X (.UnaryOp .USub a p) (TI T A X.K (ev T cf d ir)):=by
 refine pe_cases fun d => ?_
 simp only [compE,Option.bind_eq_some_iff] at h
 obtain ⟨a',ha,h⟩:=h
 cases h
 refine PEimp (pe_un un_neg (S.e d a a' ha)) ?_
 rintro σ H Q ⟨α,ρ,hs,u,hs',rs,R,e,q⟩
 simp only [ev] at e
 obtain ⟨u1,h1,e1,e⟩:=bd_some e
 refine TI.run rs R e1 fun α1 x H1 E1 R1 r1 rs1 => ?_
 split at e
 ·cases e
  obtain ⟨i,rfl,c⟩:=r1
  exact ⟨i,rfl,q α1 _ H1 E1 R1 ⟨_,rfl,cg_neg c⟩⟩
 ·cases e
theorem s_not {a:Expr} {p:Pos} {d:Nat} {ir:E} (tx:Txt T A X.K X.mg) (S:Snd T A C X cf m) (h:compE (m + 1) C (.UnaryOp .Not a p) = some ir):PE X (.UnaryOp .Not a p) (TI T A X.K (ev T cf d ir)) /\ PT X (.UnaryOp .Not a p) (TIT T A X.K (evT T cf d ir)):=by
 simp only [compE,Option.bind_eq_some_iff] at h
 obtain ⟨a',ha,h⟩:=h
 cases h
 constructor
 ·refine pe_cases fun d => ?_
  intro pins s σ H Q I hw
  obtain ⟨α,ρ,hs,u,hs',rs,R,e,q⟩:=hw
  simp only [ev] at e
  obtain ⟨u1,h1,e1,e⟩:=bd_some e
  simp only [Option.map_eq_some_iff] at e
  obtain ⟨c,e2,e⟩:=e
  cases e
  refine UnaryOp_ (thn ((S.t d a a' ha).2 pins s σ H (fun v H' => TruV X.K v H' c /\ Q (.bl (!c)) H') I ⟨α,ρ,hs,u1,_,rs,R,e1,fun α' v H' E' R' r' => ⟨truU_ok tx R' e2 r',q α' _ H' E' R' rfl⟩⟩) fun v s1 ⟨x,H1,I1,r1,q1,q2⟩ => ?_)
  exact not_of (thn (tru_ok pins s1 σ H1 x v (fun b H' => b = c /\ H' = H1) I1 r1 ⟨c,q1,rfl,rfl⟩) fun b s2 ⟨H2,I2,eb,eH⟩ => ⟨.bl (!c),H2,I2,by rw [eb]; rfl,by rw [eH]; exact q2⟩)
 ·cases d with
  | zero => exact PTfalse no_evT
  | succ d =>
   refine PTimp (pt_not (S.t d a a' ha).1) ?_
   rintro σ H Q ⟨α,ρ,hs,u,hs',rs,R,e,q⟩
   simp only [evT] at e
   obtain ⟨c,h1,e1,e⟩:=bd_some e
   cases e
   exact TIT.run rs R e1 fun α1 H1 E1 R1 rs1 => q α1 H1 E1 R1
end
end Iv
namespace Iv
open PySem PySem.Spec PyProof.Rows L2
section
variable {X:Cx} {T:Tbl} {A:Adr} {C:Ctx} {cf:Cf} {m:Nat}
theorem pt_cases {e:Expr} {ir:E} {d:Nat} (h:∀ d',PT X e (TIT T A X.K (evT T cf (d' + 1) ir))):PT X e (TIT T A X.K (evT T cf d ir)):=by
 cases d with
 | zero => exact PTfalse no_evT
 | succ d => exact h d
theorem pw_cases {e:Expr} {ir:E} {d:Nat} (h:∀ d',PW X e (TIT T A X.K (evT T cf (d' + 1) ir))):PW X e (TIT T A X.K (evT T cf d ir)):=by
 cases d with
 | zero => exact PWfalse no_evT
 | succ d => exact h d
theorem s_and (S:Snd T A C X cf m) (d:Nat) (a:Expr) (r:List Expr) (p:Pos) (ir:E) (h:compAnd (m + 1) C a r p = some ir) :
  PW X (.BoolOp .And (a :: r) p) (TIT T A X.K (evT T cf d ir)) /\ PE X (.BoolOp .And (a :: r) p) (TI T A X.K (ev T cf d ir)):=by
 cases r with
 | nil => exact ⟨pw_and1 (S.t d a ir h).1,pe_one (S.t d a ir h).2⟩
 | cons b r =>
  simp only [compAnd,Option.bind_eq_some_iff] at h
  obtain ⟨a',ha,b',hb,h⟩:=h
  cases h
  constructor
  ·refine pw_cases fun d => ?_
   refine PWimp (pw_and (S.t d a a' ha).1 (S.an d b r p b' hb).1) ?_
   rintro σ H Q ⟨α,ρ,hs,u,hs',rs,R,e,q⟩
   simp only [evT] at e
   obtain ⟨c,h1,e1,e⟩:=bd_some e
   refine TIT.run rs R e1 fun α1 H1 E1 R1 rs1 => ?_
   cases c with
   | true => exact TIT.run rs1 R1 e fun α2 H2 E2 R2 rs2 => q α2 H2 (E1.trans E2 R2.h) R2
   | false => cases e; exact q α1 H1 E1 R1
  ·refine pe_cases fun d => ?_
   refine PEimp (pe_and (S.t d a a' ha).2 (S.an d b r p b' hb).2) ?_
   rintro σ H Q ⟨α,ρ,hs,u,hs',rs,R,e,q⟩
   simp only [ev] at e
   obtain ⟨u1,h1,e1,e⟩:=bd_some e
   refine TI.run rs R e1 fun α1 x H1 E1 R1 r1 rs1 => ?_
   split at e
   ·cases (show x = _ from r1)
    exact ⟨true,rfl,TI.run rs1 R1 e fun α2 v H2 E2 R2 r2 rs2 => q α2 v H2 (E1.trans E2 R2.h) R2 r2⟩
   ·cases (show x = _ from r1)
    cases e
    exact ⟨false,rfl,q α1 _ H1 E1 R1 rfl⟩
   ·cases e
theorem s_or (S:Snd T A C X cf m) (d:Nat) (a:Expr) (r:List Expr) (p:Pos) (ir:E) (h:compOr (m + 1) C a r p = some ir) :
  PW X (.BoolOp .Or (a :: r) p) (TIT T A X.K (evT T cf d ir)) /\ PE X (.BoolOp .Or (a :: r) p) (TI T A X.K (ev T cf d ir)):=by
 cases r with
 | nil => exact ⟨pw_or1 (S.t d a ir h).1,pe_one (S.t d a ir h).2⟩
 | cons b r =>
  simp only [compOr,Option.bind_eq_some_iff] at h
  obtain ⟨a',ha,b',hb,h⟩:=h
  cases h
  constructor
  ·refine pw_cases fun d => ?_
   refine PWimp (pw_or (S.t d a a' ha).1 (S.orr d b r p b' hb).1) ?_
   rintro σ H Q ⟨α,ρ,hs,u,hs',rs,R,e,q⟩
   simp only [evT] at e
   obtain ⟨c,h1,e1,e⟩:=bd_some e
   refine TIT.run rs R e1 fun α1 H1 E1 R1 rs1 => ?_
   cases c with
   | false => exact TIT.run rs1 R1 e fun α2 H2 E2 R2 rs2 => q α2 H2 (E1.trans E2 R2.h) R2
   | true => cases e; exact q α1 H1 E1 R1
  ·refine pe_cases fun d => ?_
   refine PEimp (pe_or (S.t d a a' ha).2 (S.orr d b r p b' hb).2) ?_
   rintro σ H Q ⟨α,ρ,hs,u,hs',rs,R,e,q⟩
   simp only [ev] at e
   obtain ⟨u1,h1,e1,e⟩:=bd_some e
   refine TI.run rs R e1 fun α1 x H1 E1 R1 r1 rs1 => ?_
   split at e
   ·cases (show x = _ from r1)
    cases e
    exact ⟨true,rfl,q α1 _ H1 E1 R1 rfl⟩
   ·cases (show x = _ from r1)
    exact ⟨false,rfl,TI.run rs1 R1 e fun α2 v H2 E2 R2 r2 rs2 => q α2 v H2 (E1.trans E2 R2.h) R2 r2⟩
   ·cases e
theorem noSet {b:Expr} {b':E} {o:CmpOp} (h:compE m C b = some b'):behindInMarks o b = false:=by
 cases b <;> first | rfl | skip
 cases m <;> simp [compE] at h
theorem s_cmp {a b:Expr} {o:CmpOp} {p:Pos} {d:Nat} {ir:E} (tx:Txt T A X.K X.mg) (tab:TabOk X.prog X.w T A X.K) (hu:X.A.units + 64 < cLine) (S:Snd T A C X cf m) (h:compE (m + 1) C (.Compare a [o] [b] p) = some ir) :
  PE X (.Compare a [o] [b] p) (TI T A X.K (ev T cf d ir)) /\ PT X (.Compare a [o] [b] p) (TIT T A X.K (evT T cf d ir)):=by
 simp only [compE,Option.bind_eq_some_iff] at h
 obtain ⟨a',ha,b',hb,h⟩:=h
 cases h
 obtain ⟨r,ho,hr⟩:=cmpS (X:=X) (T:=T) (A:=A) tx tab hu o
 have key:∀ (d:Nat) (σ:St) (H:Hp) (Q:VK) (α:List Addr) (ρ:Rho) (hs hs':Hs) (u:U),RS A α ρ σ -> Rep T A X.K α hs H -> ev T cf (d + 1) (.cmp o a' b') ρ hs = some (u,hs') ->
   (∀ α' c H',u = .bl c -> Ext α α' H H' -> Rep T A X.K α' hs' H' -> Q (.bl c) H') -> tOp r (TI T A X.K (ev T cf d a')) (TI T A X.K (ev T cf d b')) σ H Q:=by
  intro d σ H Q α ρ hs hs' u rs R e q
  simp only [ev] at e
  obtain ⟨u1,h1,e1,e⟩:=bd_some e
  obtain ⟨u2,h2,e2,e⟩:=bd_some e
  simp only [Option.map_eq_some_iff] at e
  obtain ⟨c,e3,e⟩:=e
  cases e
  refine TI.run rs R e1 fun α1 x H1 E1 R1 r1 rs1 => ?_
  refine TI.run rs1 R1 e2 fun α2 y H2 E2 R2 r2 rs2 => ?_
  exact hr e3 (r1.mono E2.pre) r2 R2 (q α2 c H2 rfl (E1.trans E2 R2.h) R2)
 constructor
 ·refine pe_cases fun d => ?_
  refine PEimp (pe_cmpR ho (S.e d a a' ha) (S.e d b b' hb) (noSet hb)) ?_
  rintro σ H Q ⟨α,ρ,hs,u,hs',rs,R,e,q⟩
  exact key d σ H Q α ρ hs hs' u rs R e fun α' c H' eu E' R' => q α' _ H' E' R' (by rw [eu]; rfl)
 ·refine pt_cases fun d => ?_
  cases d with
  | zero => exact PTfalse fun _ _ _ ⟨_,_,_,_,_,_,_,h,_⟩ => by simp [evT,ev,bd] at h
  | succ d =>
   refine PTimp (pt_cmpR ho (S.e d a a' ha) (S.e d b b' hb) (noSet hb)) ?_
   rintro σ H Q ⟨α,ρ,hs,u,hs',rs,R,e,q⟩
   simp only [evT] at e
   obtain ⟨u1,h1,e1,e⟩:=bd_some e
   simp only [Option.map_eq_some_iff] at e
   obtain ⟨c,e3,e⟩:=e
   cases e
   refine key d σ H _ α ρ hs _ u1 rs R e1 fun α' c' H' eu E' R' => ⟨c',rfl,?_⟩
   rw [eu] at e3
   cases e3
   exact q α' H' E' R'
theorem s_ifexp {t a b:Expr} {p:Pos} {d:Nat} {ir:E} (S:Snd T A C X cf m) (h:compE (m + 1) C (.IfExp t a b p) = some ir):PE X (.IfExp t a b p) (TI T A X.K (ev T cf d ir)):=by
 refine pe_cases fun d => ?_
 simp only [compE,Option.bind_eq_some_iff] at h
 obtain ⟨t',ht,a',ha,b',hb,h⟩:=h
 cases h
 refine PEimp (pe_ifExp (S.t d t t' ht).1 (S.e d a a' ha) (S.e d b b' hb)) ?_
 rintro σ H Q ⟨α,ρ,hs,u,hs',rs,R,e,q⟩
 simp only [ev] at e
 obtain ⟨c,h1,e1,e⟩:=bd_some e
 refine TIT.run rs R e1 fun α1 H1 E1 R1 rs1 => ?_
 cases c with
 | true => exact TI.run rs1 R1 e fun α2 v H2 E2 R2 r2 rs2 => q α2 v H2 (E1.trans E2 R2.h) R2 r2
 | false => exact TI.run rs1 R1 e fun α2 v H2 E2 R2 r2 rs2 => q α2 v H2 (E1.trans E2 R2.h) R2 r2
theorem evs_len {f:Ev} {ρ:Rho}:∀ {es:List E} {hs hs':Hs} {us:List U},evs f ρ es hs = some (us,hs') -> us.length = es.length
 | [],_,_,_,h => by cases h; rfl
 | e :: r,hs,hs',us,h => by
  simp only [evs] at h
  obtain ⟨u,h1,e1,h⟩:=bd_some h
  obtain ⟨ws,h2,e2,h⟩:=bd_some h
  cases h
  simp [evs_len e2]
theorem compA_len {C:Ctx}:∀ {m:Nat} {es:List Expr} {irs:List E},compA m C es = some irs -> irs.length = es.length
 | 0,_,_,h => by simp [compA] at h
 | m + 1,[],_,h => by cases h; rfl
 | m + 1,e :: r,irs,h => by
  simp only [compA,Option.bind_eq_some_iff] at h
  obtain ⟨e',he,r',hr,h⟩:=h
  cases h
  simp [compA_len hr]
theorem s_args (S:Snd T A C X cf m) (d:Nat) (es:List Expr) (irs:List E) (h:compA (m + 1) C es = some irs):PA X es (TIA T A X.K (fun ρ hs => evs (ev T cf d) ρ irs hs)):=by
 cases es with
 | nil =>
  cases h
  refine PAimp pa_nil ?_
  rintro σ H Q ⟨α,ρ,hs,u,hs',rs,R,e,q⟩
  cases e
  exact q α [] H Ext.refl R .nil
 | cons e r =>
  simp only [compA,Option.bind_eq_some_iff] at h
  obtain ⟨e',he,r',hr,h⟩:=h
  cases h
  refine PAimp (pa_cons (S.e d e e' he) (S.a d r r' hr) (star_cons (compE_noStar he))) ?_
  rintro σ H Q ⟨α,ρ,hs,u,hs',rs,R,e,q⟩
  simp only [evs] at e
  obtain ⟨u1,h1,e1,e⟩:=bd_some e
  obtain ⟨us,h2,e2,e⟩:=bd_some e
  cases e
  refine TI.run rs R e1 fun α1 x H1 E1 R1 r1 rs1 => ?_
  exact TIA.run rs1 R1 e2 fun α2 xs H2 E2 R2 r2 rs2 => q α2 _ H2 (E1.trans E2 R2.h) R2 (.cons (r1.mono E2.pre) r2)
theorem s_opt (S:Snd T A C X cf m) (d:Nat) (e:Option Expr) (ir:Option E) (h:compO (m + 1) C e = some ir):PO X e (TIO T A X.K (fun ρ hs => evO (ev T cf d) ρ ir hs)):=by
 cases e with
 | none =>
  cases h
  intro pins s σ H Q I hw
  refine po_none pins s σ H Q I ?_
  obtain ⟨α,ρ,hs,u,hs',rs,R,e,q⟩:=hw
  cases e
  exact q α H Ext.refl R
 | some e =>
  simp only [compO,Option.bind_eq_some_iff] at h
  obtain ⟨e',he,h⟩:=h
  cases h
  intro pins s σ H Q I hw
  refine po_some (S.e d e e' he) pins s σ H Q I ?_
  obtain ⟨α,ρ,hs,u,hs',rs,R,e,q⟩:=hw
  simp only [evO] at e
  obtain ⟨u1,h1,e1,e⟩:=bd_some e
  refine TI.run rs R e1 fun α1 x H1 E1 R1 r1 rs1 => ?_
  split at e
  ·cases e
   obtain ⟨i,rfl,c⟩:=r1
   cases c.exact
   exact ⟨_,rfl,q α1 H1 E1 R1⟩
  ·cases e
theorem TIO.run {T:Tbl} {A:Adr} {K:PySem.W.Frag} {α:List Addr} {ρ:Rho} {σ:St} {hs h1:Hs} {H:Hp} {f:Rho -> Hs -> Option (Option Int × Hs)} {u:Option Int} {Q:Option Int -> Hp -> Prop} (rs:RS A α ρ σ) (rp:Rep T A K α hs H) (h:f ρ hs = some (u,h1))
  (k:∀ α1 H1,Ext α α1 H H1 -> Rep T A K α1 h1 H1 -> RS A α1 ρ σ -> Q u H1):TIO T A K f σ H Q :=
 ⟨α,ρ,hs,u,h1,rs,rp,h,fun α1 H1 e r => k α1 H1 e r (rs.mono e.pre)⟩
theorem s_tuple {es:List Expr} {k:Nat} {p:Pos} {d:Nat} {ir:E} (S:Snd T A C X cf m) (h:compE (m + 1) C (.Tuple es k p) = some ir):PE X (.Tuple es k p) (TI T A X.K (ev T cf d ir)):=by
 refine pe_cases fun d => ?_
 simp only [compE] at h
 split at h
 case isFalse => cases h
 rename_i hz
 simp only [Option.bind_eq_some_iff] at h
 obtain ⟨es',he,h⟩:=h
 cases h
 refine PEimp (pe_tup (S.a d es es' he)) ?_
 rintro σ H Q ⟨α,ρ,hs,u,hs',rs,R,e,q⟩
 simp only [ev] at e
 obtain ⟨us,h1,e1,e⟩:=bd_some e
 cases e
 refine TIA.run rs R e1 fun α1 vs H1 E1 R1 r1 rs1 => ⟨?_,fun p hp => ?_⟩
 ·rw [<- r1.length,evs_len e1,compA_len he]; exact Nat.le_trans hz big
 ·obtain ⟨R',E'⟩:=R1.new (o:=.tup us) hp ⟨_,upd_same,RUs.mono snoc_pre r1⟩
  exact q _ _ _ (E1.trans E' R'.h) R' ⟨p,by rw [<- R1.h.len]; exact snoc_at,rfl⟩
theorem s_list {es:List Expr} {p:Pos} {d:Nat} {ir:E} (S:Snd T A C X cf m) (h:compE (m + 1) C (.List es p) = some ir):PE X (.List es p) (TI T A X.K (ev T cf d ir)):=by
 refine pe_cases fun d => ?_
 simp only [compE] at h
 split at h
 case isFalse => cases h
 rename_i hz
 simp only [Option.bind_eq_some_iff] at h
 obtain ⟨es',he,h⟩:=h
 cases h
 refine PEimp (pe_lst (S.a d es es' he)) ?_
 rintro σ H Q ⟨α,ρ,hs,u,hs',rs,R,e,q⟩
 simp only [ev] at e
 obtain ⟨us,h1,e1,e⟩:=bd_some e
 cases e
 refine TIA.run rs R e1 fun α1 vs H1 E1 R1 r1 rs1 => ⟨?_,fun p hp => ?_⟩
 ·rw [<- r1.length,evs_len e1,compA_len he]; exact Nat.le_trans hz big
 ·obtain ⟨R',E'⟩:=R1.new (o:=.lst us) hp ⟨_,upd_same,RUs.mono snoc_pre r1⟩
  exact q _ _ _ (E1.trans E' R'.h) R' ⟨p,by rw [<- R1.h.len]; exact snoc_at,rfl⟩
theorem s_slice {a:Expr} {lo hi:Option Expr} {p p2:Pos} {d:Nat} {ir:E} (S:Snd T A C X cf m) (h:((compE m C a).bind fun a' => (compO m C lo).bind fun l => (compO m C hi).bind fun h => some (E.sl a' l h)) = some ir):PE X (.Subscript a (.Slice lo hi none p2) p) (TI T A X.K (ev T cf d ir)):=by
 refine pe_cases fun d => ?_
 simp only [Option.bind_eq_some_iff] at h
 obtain ⟨a',ha,l',hl,h',hh,h⟩:=h
 cases h
 refine PEimp (pe_slice (sl_list.or (sl_tup.or sl_str)) (S.e d a a' ha) (S.o d lo l' hl) (S.o d hi h' hh)) ?_
 rintro σ H Q ⟨α,ρ,hs,u,hs',rs,R,e,q⟩
 simp only [ev] at e
 obtain ⟨u1,h1,e1,e⟩:=bd_some e
 obtain ⟨u2,h2,e2,e⟩:=bd_some e
 obtain ⟨u3,h3,e3,e⟩:=bd_some e
 refine TI.run rs R e1 fun α1 x H1 E1 R1 r1 rs1 => ?_
 refine TIO.run rs1 R1 e2 fun α2 H2 E2 R2 rs2 => ?_
 refine TIO.run rs2 R2 e3 fun α3 H3 E3 R3 rs3 => ?_
 exact slU_ok e ((r1.mono E2.pre).mono E3.pre) R3 fun α4 z H4 E4 R4 r4 => q α4 z H4 (((E1.trans E2 R2.h).trans E3 R3.h).trans E4 R4.h) R4 r4
theorem ix_core {a b:Expr} {a' b':E} {p:Pos} {d:Nat} (tx:Txt T A X.K X.mg) (ha:PE X a (TI T A X.K (ev T cf d a'))) (hb:PE X b (TI T A X.K (ev T cf d b'))) (hs:notSlice b = true):PE X (.Subscript a b p) (TI T A X.K (ev T cf (d + 1) (.ix a' b'))):=by
 refine PEimp (pe_ix ix_seq ha hb (plainIx_of hs)) ?_
 rintro σ H Q ⟨α,ρ,hs,u,hs',rs,R,e,q⟩
 simp only [ev] at e
 obtain ⟨u1,h1,e1,e⟩:=bd_some e
 obtain ⟨u2,h2,e2,e⟩:=bd_some e
 simp only [Option.map_eq_some_iff] at e
 obtain ⟨x,e3,e⟩:=e
 cases e
 refine TI.run rs R e1 fun α1 x H1 E1 R1 r1 rs1 => ?_
 refine TI.run rs1 R1 e2 fun α2 y H2 E2 R2 r2 rs2 => ?_
 exact subU_ok tx e3 (r1.mono E2.pre) r2 R2 fun z rz => q α2 z H2 (E1.trans E2 R2.h) R2 rz
theorem RF.look {α:List Addr} {x:Str} {k:Nat} {u:U} (hk:T.fns'[k]? = some x) (nd:T.fns'.Nodup):∀ {fs:List (Nat × U)} {fv:List (Str × V)},RF T A α fs fv -> fs.lookup k = some u -> ∃ v,fv.lookup x = some v /\ RU A α u v
 | _,_,.nil,h => by cases h
 | _,_,.cons (a:=p) (b:=q) r t,h => by
  obtain ⟨pk,pu⟩:=p
  obtain ⟨qx,qv⟩:=q
  rw [List.lookup_cons] at h ⊢
  by_cases e:k = pk
  ·subst e
   rw [beq_self_eq_true] at h
   cases h
   have e2:x = qx:=Option.some.inj (hk.symm.trans r.1)
   subst e2
   rw [beq_self_eq_true]
   exact ⟨qv,rfl,r.2⟩
  ·have n1:(k == pk) = false:=by simpa using e
   rw [n1] at h
   have n2:(x == qx) = false:=by
    rw [beq_eq_false_iff_ne]
    rintro rfl
    obtain ⟨l1,q1⟩:=List.getElem?_eq_some_iff.mp hk
    obtain ⟨l2,q2⟩:=List.getElem?_eq_some_iff.mp r.1
    exact e ((List.getElem_inj nd).mp (q1.trans q2.symm))
   rw [n2]
   exact RF.look hk nd t h
theorem s_attr {a:Expr} {f:Str} {p:Pos} {d:Nat} {ir:E} (g:GX T A C X) (S:Snd T A C X cf m) (h:compE (m + 1) C (.Attribute a f p) = some ir):PE X (.Attribute a f p) (TI T A X.K (ev T cf d ir)):=by
 refine pe_cases fun d => ?_
 simp only [compE] at h
 split at h
 ·rename_i hn
  simp only [Option.bind_eq_some_iff] at h
  obtain ⟨a',ha,k,hk,h⟩:=h
  cases h
  have hk':T.fns'[k]? = some f:=by rw [<- g.CT]; exact idx_get hk
  refine PEimp (pe_fld (S.e d a a' ha) (noSuper_base hn)) ?_
  rintro σ H Q ⟨α,ρ,hs,u,hs',rs,R,e,q⟩
  simp only [ev] at e
  obtain ⟨u1,h1,e1,e⟩:=bd_some e
  refine TI.run rs R e1 fun α1 x H1 E1 R1 r1 rs1 => ?_
  split at e
  ·rename_i n
   obtain ⟨pa,hpa,rfl⟩:=r1
   split at e
   ·rename_i c fs eo
    simp only [Option.map_eq_some_iff] at e
    obtain ⟨w,el,e⟩:=e
    cases e
    obtain ⟨dx,fv,q1,rf,lc⟩:=R1.h.ob n pa _ hpa eo
    obtain ⟨v,l1,rv⟩:=RF.look hk' g.txt.fd rf el
    have cl:=g.txt.cl c _ (List.getElem?_eq_getElem lc)
    exact ⟨pa,A.c c,dx,fv,v,rfl,q1,cl.cls,cl.nf f (List.mem_of_getElem? hk'),l1,q α1 v H1 E1 R1 rv⟩
   ·cases e
  ·cases e
 ·cases h
end
end Iv
namespace Iv
open PySem PySem.Spec PyProof.Rows L2
section
variable {X:Cx} {T:Tbl} {A:Adr} {C:Ctx} {cf:Cf} {m k:Nat}
theorem tab_look {vs:List (Key × Value)} {y:U} {x:U} {yv:V} {α:List Addr} (ky:keyU y = true) (ry:RU A α y yv):∀ {kvs:List (U × U)},Paired (fun (p:U × U) (q:Key × Value) => keyR p.1 q.1 /\ ∃ v,RU A [] p.2 v /\ RelV v q.2) kvs vs -> lookU kvs y = some x ->
  ∃ key v u,yv = kV key /\ valueAt vs key = some u /\ RU A [] x v /\ RelV v u:=by
 obtain ⟨key,hy,hk⟩:∃ key,yv = kV key /\ keyR y key:=by
  cases y with
  | int i m =>
   cases m with
   | zero => obtain ⟨j,rfl,c⟩:=ry; cases c.exact; exact ⟨.inl i,rfl,rfl⟩
   | succ m => cases ky
  | str z => cases (show yv = _ from ry); exact ⟨.inr ⟨z.toArray⟩,rfl,rfl⟩
  | _ => cases ky
 have inj:∀ {p:U} {q:Key},keyR p q -> (p = y ↔ q = key):=by
  intro p q hp
  cases y with
  | int i m =>
   cases m with
   | succ m => cases ky
   | zero =>
    cases (show key = _ from hk)
    cases p with
    | int j n =>
     cases n with
     | succ n => exact (show False from hp).elim
     | zero => cases (show q = _ from hp); exact ⟨fun e => (by cases e; rfl),fun e => (by cases e; rfl)⟩
    | str z => cases (show q = _ from hp); exact ⟨fun e => (by cases e),fun e => (by cases e)⟩
    | _ => exact (show False from hp).elim
  | str z =>
   cases (show key = _ from hk)
   cases p with
   | int j n =>
    cases n with
    | succ n => exact (show False from hp).elim
    | zero => cases (show q = _ from hp); exact ⟨fun e => (by cases e),fun e => (by cases e)⟩
   | str z' =>
    cases (show q = _ from hp)
    refine ⟨fun e => (by cases e; rfl),fun e => ?_⟩
    have e1:=Sum.inr.inj e
    have e2:=congrArg (fun s:Str => s.cps.toList) e1
    have e3:z' = z:=by simpa using e2
    rw [e3]
   | _ => exact (show False from hp).elim
  | _ => cases ky
 intro kvs r
 induction r with
 | nil => intro h; cases h
 | @cons p q ps qs hpq t ih =>
  intro h
  obtain ⟨pk,pv⟩:=p
  obtain ⟨qk,qv⟩:=q
  obtain ⟨h1,v,h2,h3⟩:=hpq
  simp only [lookU] at h
  by_cases e:pk = y
  ·rw [if_pos e] at h
   cases h
   have e2:qk = key:=(inj h1).mp e
   exact ⟨key,v,qv,hy,by simp [valueAt,e2],h2,h3⟩
  ·rw [if_neg e] at h
   obtain ⟨key',v',u',g1,g2,g3,g4⟩:=ih h
   have e1:key' = key:=by
    rw [hy] at g1
    cases key <;> cases key' <;> simp_all [kV]
   subst e1
   have e2:¬ qk = key':=fun z => e ((inj h1).mpr z)
   refine ⟨key',v',u',g1,?_,g3,g4⟩
   simp only [valueAt,List.find?_cons]
   rw [decide_eq_false e2]
   exact g2
theorem s_tab {x:Str} {b:Expr} {p pos:Pos} {i d:Nat} {b':E} (g:GX T A C X) (hb:PE X b (TI T A X.K (ev T cf d b'))) (hs:notSlice b = true) (hg:isGl C x = true) (hn:x ≠ "__debug__") (hx:C.gl.lookup x = some (.con i)) :
  PE X (.Subscript (.Name x p) b pos) (TI T A X.K (ev T cf (d + 1) (.tab i b'))):=by
 intro pins s σ H Q I h
 obtain ⟨α,ρ,hs',u,hs2,rs,R,e,q⟩:=h
 simp only [ev] at e
 obtain ⟨w,h1,e1,e⟩:=bd_some e
 simp only [Option.map_eq_some_iff] at e
 obtain ⟨z,e2,e⟩:=e
 cases e
 unfold tabU at e2
 split at e2
 case h_2 => cases e2
 rename_i kvs ec
 split at e2
 case isFalse => cases e2
 rename_i ky
 obtain ⟨vs,_,hd,hp⟩:=g.tab i kvs ec
 refine subD_of PySem.F.slot_dict_getitem.lookup (plainIx_of hs) (ld_glob I (gl_of g hg) (g.gco x i hx) ?_ (ne_beq hn))
 refine thn (hb pins s σ H (fun y H1 => ∃ α1,Ext α α1 H H1 /\ Rep T A X.K α1 hs2 H1 /\ RU A α1 w y) I (TI.run rs R e1 fun α1 y H1 E1 R1 r1 rs1 => ⟨α1,E1,R1,r1⟩)) fun iv s1 ⟨y,H1,I1,ry,α1,E1,R1,r1⟩ => ?_
 obtain ⟨key,v,u',ey,ev',rv,rl⟩:=tab_look ky r1 hp e2
 have dd:=hd s1.heap I1.kIn
 subst ey
 exact ⟨dd.typeIs,wpAny_getItem_of (kV_is ry) dd.mapOf ev' ⟨v,H1,I1.tok _,rl,q α1 v H1 E1 R1 (RU.mono (fun n a e => by simp at e) rv)⟩⟩
theorem spC_of {α:List Addr} {us:List U} {vs:List V} {hs hs':Hs} {H:Hp} {u:U} {f:Nat} {Q:VK} {E:XK} (F:Fc X T A cf k) (r:RUs A α us vs) (R:Rep T A X.K α hs H) (e:cf f us hs = some (u,hs'))
  (q:∀ α' v H',Ext α α' H H' -> Rep T A X.K α' hs' H' -> RU A α' u v -> Q v H'):spC T A X.K cf f vs H Q E:=⟨α,us,hs,u,hs',r,R,e,F.some f us hs _ e,q⟩
theorem s_call {x:Str} {args:List Expr} {p pos:Pos} {i d:Nat} {es:List E} (g:GX T A C X) (F:Fc X T A cf k) (hr:Room k X.A) (S:Snd T A C X cf m) (hg:isGl C x = true) (hn:x ≠ "__debug__") (hx:C.gl.lookup x = some (.fn i)) (ha:compA m C args = some es) :
  PE X (.Call (.Name x p) args [] pos) (TI T A X.K (ev T cf (d + 1) (.call i es))):=by
 cases hF:T.fns[i]? with
 | none =>
  refine PEfalse ?_
  rintro σ H Q ⟨α,ρ,hs,u,hs',rs,R,e,q⟩
  simp only [ev] at e
  obtain ⟨us,h1,e1,e⟩:=bd_some e
  obtain ⟨F',h,_⟩:=F.some _ _ _ _ e
  rw [hF] at h
  cases h
 | some Fn =>
  obtain ⟨fd,G,b,kp⟩:=F.ok i Fn hF
  have pa:=S.a d args es ha
  have key:∀ σ H Q,TI T A X.K (ev T cf (d + 1) (.call i es)) σ H Q -> tCall (spC T A X.K cf i) [] E0 (TIA T A X.K (fun ρ hs => evs (ev T cf d) ρ es hs)) σ H Q:=by
   rintro σ H Q ⟨α,ρ,hs,u,hs',rs,R,e,q⟩
   simp only [ev] at e
   obtain ⟨us,h1,e1,e⟩:=bd_some e
   refine TIA.run rs R e1 fun α1 vs H1 E1 R1 r1 rs1 => ?_
   rw [List.append_nil]
   exact spC_of F r1 R1 e fun α2 v H2 E2 R2 r2 => q α2 v H2 (E1.trans E2 R2.h) R2 r2
  cases args with
  | nil =>
   have ee:es = []:=by
    have:=compA_len ha
    simpa using this
   subst ee
   refine PEimp (pe_call0 G hr (gl_of g hg) (g.gfn x i hx) kp b .nil pass0 (ne_beq hn)) fun σ H Q h => ?_
   have h2:=key σ H Q h
   obtain ⟨α,ρ,hs,us,hs',rs,R,e,q⟩:=h2
   cases e
   exact q α [] H Ext.refl R .nil
  | cons a r => exact PEimp (pe_call G hr (gl_of g hg) (g.gfn x i hx) kp b .nil pass0 pa (ne_beq hn) (star_cons (compA_noStar ha a (List.mem_cons_self ..))) (star_any fun z hz => compA_noStar ha z (List.mem_cons_of_mem _ hz))) key
theorem evs_app {f:Ev} {ρ:Rho}:∀ {a b:List E} {us:List U} {hs h2:Hs},evs f ρ (a ++ b) hs = some (us,h2) -> ∃ ua ub h1,evs f ρ a hs = some (ua,h1) /\ evs f ρ b h1 = some (ub,h2) /\ us = ua ++ ub
 | [],b,us,hs,h2,h => ⟨[],us,hs,rfl,h,rfl⟩
 | e :: a,b,us,hs,h2,h => by
  have h:bd (f e ρ hs) (fun u h1 => bd (evs f ρ (a ++ b) h1) fun us h2 => some (u :: us,h2)) = some (us,h2):=h
  obtain ⟨u,h1,e1,h⟩:=bd_some h
  obtain ⟨ws,h3,e2,h⟩:=bd_some h
  cases h
  obtain ⟨ua,ub,h4,e3,e4,rfl⟩:=evs_app e2
  refine ⟨u :: ua,ub,h4,?_,e4,rfl⟩
  show bd (f e ρ hs) (fun u h1 => bd (evs f ρ a h1) fun us h2 => some (u :: us,h2)) = _
  rw [e1]
  show bd (evs f ρ a h1) _ = _
  rw [e3]
  rfl
theorem evs_con {d:Nat} {ρ:Rho}:∀ {cs us:List U} {hs h2:Hs},evs (ev T cf d) ρ (cs.map .c) hs = some (us,h2) -> us = cs /\ h2 = hs
 | [],us,hs,h2,h => by cases h; exact ⟨rfl,rfl⟩
 | c :: cs,us,hs,h2,h => by
  have h:bd (ev T cf d (.c c) ρ hs) (fun u h1 => bd (evs (ev T cf d) ρ (cs.map .c) h1) fun us h2 => some (u :: us,h2)) = some (us,h2):=h
  obtain ⟨u,h1,e1,h⟩:=bd_some h
  obtain ⟨ws,h3,e2,h⟩:=bd_some h
  cases h
  cases d with
  | zero => simp [ev] at e1
  | succ d =>
   simp only [ev] at e1
   cases e1
   obtain ⟨rfl,rfl⟩:=evs_con e2
   exact ⟨rfl,rfl⟩
theorem RUs.app {α:List Addr} {us ws:List U} {vs zs:List V} (a:RUs A α us vs) (b:RUs A α ws zs):RUs A α (us ++ ws) (vs ++ zs):=a.append b
theorem Vals.dropN {vs:List V} {us:List Value} (r:Vals vs us):∀ n,Vals (vs.drop n) (us.drop n):=fun n => by
 induction r generalizing n with
 | nil => simp; exact .nil
 | cons a t ih =>
  cases n with
  | zero => exact .cons a t
  | succ n => exact ih n
theorem s_callP {x:Str} {args:List Expr} {p pos:Pos} {i d:Nat} {es:List E} {ir:E} (g:GX T A C X) (F:Fc X T A cf k) (hr:Room k X.A) (S:Snd T A C X cf m) (hg:isGl C x = true) (hn:x ≠ "__debug__") (hx:C.gl.lookup x = some (.fn i)) (ha:compA m C args = some es) (h:padC C i es = some ir) :
  PE X (.Call (.Name x p) args [] pos) (TI T A X.K (ev T cf (d + 1) ir)):=by
 unfold padC at h
 rw [g.CT] at h
 split at h
 ·cases h
  exact s_call g F hr S hg hn hx ha
 rename_i D hD
 split at h
 case isFalse => cases h
 cases h
 generalize D.ds.length - (D.np - es.length) = n
 cases hF:T.fns[i]? with
 | none =>
  refine PEfalse ?_
  rintro σ H Q ⟨α,ρ,hs,u,hs',rs,R,e,q⟩
  simp only [ev] at e
  obtain ⟨us,h1,e1,e⟩:=bd_some e
  obtain ⟨F',h,_⟩:=F.some _ _ _ _ e
  rw [hF] at h
  cases h
 | some Fn =>
  obtain ⟨fd,G,kp,ds,dvs,rd,vd,hb,_⟩:=F.df i D Fn hD hF
  have pa:=S.a d args es ha
  have key:∀ σ H Q,TI T A X.K (ev T cf (d + 1) (.call i (es ++ (D.ds.drop n).map .c))) σ H Q -> tCall (spC T A X.K cf i) (dvs.drop n) E0 (TIA T A X.K (fun ρ hs => evs (ev T cf d) ρ es hs)) σ H Q:=by
   rintro σ H Q ⟨α,ρ,hs,u,hs',rs,R,e,q⟩
   simp only [ev] at e
   obtain ⟨us,h1,e1,e⟩:=bd_some e
   obtain ⟨ua,ub,h2,e2,e3,rfl⟩:=evs_app e1
   obtain ⟨rfl,rfl⟩:=evs_con e3
   refine TIA.run rs R e2 fun α1 vs H1 E1 R1 r1 rs1 => ?_
   exact spC_of F (r1.app (RUs.mono (fun n a e => by simp at e) (RUs.drop n rd))) R1 e fun α2 v H2 E2 R2 r2 => q α2 v H2 (E1.trans E2 R2.h) R2 r2
  cases args with
  | nil =>
   have ee:es = []:=by
    have:=compA_len ha
    simpa using this
   subst ee
   refine PEimp (pe_call0 G hr (gl_of g hg) (g.gfn x i hx) kp (hb n) (Vals.dropN vd n) pass0 (ne_beq hn)) fun σ H Q h => ?_
   have h2:=key σ H Q h
   obtain ⟨α,ρ,hs,us,hs',rs,R,e,q⟩:=h2
   cases e
   exact q α [] H Ext.refl R .nil
  | cons a r => exact PEimp (pe_call G hr (gl_of g hg) (g.gfn x i hx) kp (hb n) (Vals.dropN vd n) pass0 pa (ne_beq hn) (star_cons (compA_noStar ha a (List.mem_cons_self ..))) (star_any fun z hz => compA_noStar ha z (List.mem_cons_of_mem _ hz))) key
theorem s_callK {x:Str} {a:Expr} {args:List Expr} {kw:Keyword} {p pos:Pos} {i d:Nat} {es:List E} {e':E} (g:GX T A C X) (F:Fc X T A cf k) (hr:Room k X.A) (S:Snd T A C X cf m) (hk:kwC C x (args.length + 1) kw.arg = some i) (ha:compA m C (a :: args) = some es) (he:compE m C kw.value = some e') :
  PE X (.Call (.Name x p) (a :: args) [kw] pos) (TI T A X.K (ev T cf (d + 1) (.call i (es ++ [e'])))):=by
 unfold kwC at hk
 split at hk
 ·cases hk
 rename_i hn
 have n1:x ≠ "__debug__":=fun z => hn (.inl z)
 have hg:isGl C x = true:=by
  cases q:isGl C x with
  | true => rfl
  | false => exact absurd (.inr (.inr q)) hn
 split at hk
 case h_2 => cases hk
 rename_i j hx
 split at hk
 case h_2 => cases hk
 rename_i D hD
 rw [g.CT] at hD
 split at hk
 case isFalse => cases hk
 rename_i c
 cases hk
 obtain ⟨ka,kv,kp⟩:=kw
 simp only at c he
 obtain ⟨rfl,c2⟩:=c
 cases hF:T.fns[i]? with
 | none =>
  refine PEfalse ?_
  rintro σ H Q ⟨α,ρ,hs,u,hs',rs,R,e,q⟩
  simp only [ev] at e
  obtain ⟨us,h1,e1,e⟩:=bd_some e
  obtain ⟨F',h,_⟩:=F.some _ _ _ _ e
  rw [hF] at h
  cases h
 | some Fn =>
  obtain ⟨fd,G,kp',ds,dvs,rd,vd,hb,hkb⟩:=F.df i D Fn hD hF
  have pa:=S.a d (a :: args) es ha
  have pe:=S.e d kv e' he
  have hns:=compA_noStar ha
  refine PEimp (pe_callK (kws:=[⟨some D.last,kv,kp⟩]) G hr (gl_of g hg) (g.gfn x i hx) kp' hkb pass0 pa (pk_cons pe pk_nil) rfl rfl (ne_beq n1) (star_cons (hns a (List.mem_cons_self ..))) ?_) ?_
  ·rw [star_any hns]
   rfl
  rintro σ H Q ⟨α,ρ,hs,u,hs',rs,R,e,q⟩
  simp only [ev] at e
  obtain ⟨us,h1,e1,e⟩:=bd_some e
  obtain ⟨ua,ub,h2,e2,e3,rfl⟩:=evs_app e1
  have e3:bd (ev T cf d e' ρ h2) (fun u h1 => bd (evs (ev T cf d) ρ [] h1) fun us h2 => some (u :: us,h2)) = some (ub,h1):=e3
  obtain ⟨w,h3,e4,e3⟩:=bd_some e3
  cases e3
  refine TIA.run rs R e2 fun α1 vs H1 E1 R1 r1 rs1 => ?_
  refine TI.run rs1 R1 e4 fun α2 z H2 E2 R2 r2 rs2 => ?_
  show spC T A X.K cf i (kg vs [z]) H2 Q E0
  exact spC_of F ((RUs.mono E2.pre r1).app (.cons r2 .nil)) R2 e fun α3 v H3 E3 R3 r3 => q α3 v H3 ((E1.trans E2 R2.h).trans E3 R3.h) R3 r3
theorem s_make {x:Str} {args:List Expr} {p pos:Pos} {i d:Nat} {es:List E} (g:GX T A C X) (F:Fc X T A cf k) (hr:Room (k + 1) X.A) (S:Snd T A C X cf m) (hg:isGl C x = true) (hn:x ≠ "__debug__") (hx:C.gl.lookup x = some (.cls i)) (ha:compA m C args = some es) :
  PE X (.Call (.Name x p) args [] pos) (TI T A X.K (ev T cf (d + 1) (.make i es))):=by
 cases hC:T.cls[i]? with
 | none =>
  refine PEfalse ?_
  rintro σ H Q ⟨α,ρ,hs,u,hs',rs,R,e,q⟩
  simp only [ev] at e
  obtain ⟨us,h1,e1,e⟩:=bd_some e
  simp [makeU,hC] at e
 | some Cl =>
  have cl:=g.txt.cl i Cl hC
  have li:i < T.cls.length:=(List.getElem?_eq_some_iff.mp hC).1
  have pa:=S.a d args es ha
  -- the new instance
  have new:∀ {α:List Addr} {hs:Hs} {H:Hp} (R:Rep T A X.K α hs H) (x dx:Addr),H x = none -> H dx = none -> dx ≠ x ->
    Rep T A X.K (α ++ [x]) (hs ++ [.ins i []]) (upd (upd H dx (.own x)) x (.ins (A.c i) dx [])) /\ Ext α (α ++ [x]) H (upd (upd H dx (.own x)) x (.ins (A.c i) dx [])):=by
   intro α hs H R x dx hx hd hne
   have ne:∀ b y,H b = some y -> b ≠ dx:=fun b y e z => by rw [z,hd] at e; cases e
   have R0:Rep T A X.K α hs (upd H dx (.own x)):=⟨⟨R.h.len,R.h.nd,fun n a o e1 e2 => RO.keep (R.h.ob n a o e1 e2) (fun _ _ e => e) fun y e => by rw [upd_ne (ne _ _ e)]; exact e⟩,R.s.keep fun y e _ => by rw [upd_ne (ne _ _ e)]; exact e⟩
   obtain ⟨R1,E1⟩:=R0.new (p:=x) (o:=.ins i []) (ho:=.ins (A.c i) dx []) (by rw [upd_ne (Ne.symm hne)]; exact hx) ⟨dx,[],upd_same,.nil,li⟩
   refine ⟨R1,⟨E1.pre,fun n a e l => ?_,fun b o e hb => E1.keep b o (by rw [upd_ne (ne _ _ e)]; exact e) hb⟩⟩
   rcases snoc_cases e with z | ⟨_,z⟩
   ·have:=getElem?_lt z; omega
   ·rw [z]; exact hx
  cases hi:Cl.init with
  | none =>
   have ini:=cl.ini
   rw [hi] at ini
   cases args with
   | cons a r =>
    refine PEfalse ?_
    rintro σ H Q ⟨α,ρ,hs,u,hs',rs,R,e,q⟩
    simp only [ev] at e
    obtain ⟨us,h1,e1,e⟩:=bd_some e
    have l1:=evs_len e1
    rw [compA_len ha] at l1
    simp only [makeU,hC,hi] at e
    split at e
    ·rename_i z
     rw [z] at l1
     simp at l1
    ·cases e
   | nil =>
    refine PEimp (pe_make00 (C:=A.c i) ⟨cl.mks,ini,cl.kp⟩ (gl_of g hg) (g.gcl x i hx) (ne_beq hn)) ?_
    rintro σ H Q ⟨α,ρ,hs,u,hs',rs,R,e,q⟩
    have ee:es = []:=by
     have:=compA_len ha
     simpa using this
    subst ee
    simp only [ev,evs,bd,makeU,hC,hi,if_true] at e
    cases e
    intro y dx h1 h2 h3
    obtain ⟨R1,E1⟩:=new R y dx h1 h2 h3
    exact q _ _ _ E1 R1 ⟨y,by rw [<- R.h.len]; exact snoc_at,rfl⟩
  | some f =>
   have ini:=cl.ini
   rw [hi] at ini
   have key:∀ σ H Q,TI T A X.K (ev T cf (d + 1) (.make i es)) σ H Q -> TIA T A X.K (fun ρ hs => evs (ev T cf d) ρ es hs) σ H fun vs H1 => ∀ x dx,H1 x = none -> H1 dx = none -> dx ≠ x ->
     spC T A X.K cf f (.ref x :: (vs ++ [])) (upd (upd H1 dx (.own x)) x (.ins (A.c i) dx [])) (fun v H2 => v = .non /\ Q (.ref x) H2) E0:=by
    rintro σ H Q ⟨α,ρ,hs,u,hs',rs,R,e,q⟩
    simp only [ev] at e
    obtain ⟨us,h1,e1,e⟩:=bd_some e
    simp only [makeU,hC,hi] at e
    split at e
    case h_2 => cases e
    rename_i h2 e2
    cases e
    refine TIA.run rs R e1 fun α1 vs H1 E1 R1 r1 rs1 => ?_
    intro y dx g1 g2 g3
    obtain ⟨R2,E2⟩:=new R1 y dx g1 g2 g3
    rw [List.append_nil]
    have at1:(α1 ++ [y])[h1.length]? = some y:=by rw [<- R1.h.len]; exact snoc_at
    refine spC_of F (us:=.ref h1.length :: us) (.cons ⟨y,at1,rfl⟩ (RUs.mono E2.pre r1)) R2 e2 fun α3 v H3 E3 R3 r3 => ⟨r3,?_⟩
    exact q α3 _ H3 (((E1.trans E2 R2.h)).trans E3 R3.h) R3 ⟨y,E3.pre _ _ at1,rfl⟩
   cases hF:T.fns[f]? with
   | none =>
    refine PEfalse ?_
    rintro σ H Q ⟨α,ρ,hs,u,hs',rs,R,e,q⟩
    simp only [ev] at e
    obtain ⟨us,h1,e1,e⟩:=bd_some e
    simp only [makeU,hC,hi] at e
    split at e
    case h_2 => cases e
    rename_i h2 e2
    obtain ⟨F',h,_⟩:=F.some _ _ _ _ e2
    rw [hF] at h
    cases h
   | some Fn =>
    obtain ⟨fd,G,b,kp⟩:=F.ok f Fn hF
    have M:Mk X.K (A.c i) (A.f f):=⟨cl.mks,ini.1,ini.2,cl.kp⟩
    cases args with
    | nil =>
     have ee:es = []:=by
      have:=compA_len ha
      simpa using this
     subst ee
     refine PEimp (pe_make0 M G hr (gl_of g hg) (g.gcl x i hx) b .nil pass0 (ne_beq hn)) fun σ H Q h => ?_
     obtain ⟨α,ρ,hs,us,hs',rs,R,e,q⟩:=key σ H Q h
     cases e
     exact q α [] H Ext.refl R .nil
    | cons a r => exact PEimp (pe_make M G hr (gl_of g hg) (g.gcl x i hx) b .nil pass0 pa (ne_beq hn) (star_cons (compA_noStar ha a (List.mem_cons_self ..))) (star_any fun z hz => compA_noStar ha z (List.mem_cons_of_mem _ hz))) key
end
end Iv
namespace Iv
open PySem PySem.Spec PyProof.Rows L2
section
variable {X:Cx} {T:Tbl} {A:Adr} {C:Ctx} {cf:Cf} {m k:Nat}
theorem star_all {env:Env} {pos:Pos}:∀ {es:List Expr},NoStar es -> (backTo pos (starEach es env)).all (fun x => !x.1) = true
 | [],_ => rfl
 | e :: r,h => by
  rw [star_cons (h e (List.mem_cons_self ..))]
  have ih:=star_all (env:=env) (pos:=pos) (es:=r) fun x hx => h x (List.mem_cons_of_mem _ hx)
  unfold backTo at ih ⊢
  rw [List.map_cons,List.all_cons,ih]
  rfl
theorem form_of {env:Env} {pos:Pos} {args:List Expr} (hn:NoStar args) (hl:args.length < 29):methodCallForm (args.length + ([]:List Keyword).length) (backTo pos (starEach args env)) (backToKw pos (keywordEach [] env)) = true:=by
 unfold methodCallForm
 rw [star_all hn]
 have:(args.length + ([]:List Keyword).length + (if (backToKw pos (keywordEach [] env)).isEmpty then 0 else 1) < 30):=by
  simp only [List.length_nil]
  split <;> omega
 simp only [decide_eq_true this,Bool.and_true,Bool.true_and]
 rfl
theorem meth_eq {o:Expr} {x:Str} {p q:Pos} {args:List Expr} {env:Env} (h1:noSuper o = true) (h2:(p.endLine == q.line) = true) (h3:args.length < 29) (h4:NoStar args) :
  eval (.Call (.Attribute o x p) args [] q) env = (do
   let ov <- eval o env
   standAt p.atName
   let (f,first) <- holding [ov] (getMethod ov x (do return (<- importBound o env).getD true))
   callWith q f first (backTo q (starEach args env)) (backToKw q (keywordEach [] env))):=by
 rw [PySem.arm_eval_Call,noSuper_base h1]
 unfold methodCall
 rw [form_of h4 h3]
 unfold calleeOf methodCallPos
 rw [h2]
 rfl
theorem RF.none_of {α:List Addr} {x:Str} (hx:x ∉ T.fns'):∀ {fs:List (Nat × U)} {fv:List (Str × V)},RF T A α fs fv -> fv.lookup x = none
 | _,_,.nil => rfl
 | _,_,.cons (a:=p) (b:=q) r t => by
  obtain ⟨qx,qv⟩:=q
  rw [List.lookup_cons]
  have n2:(x == qx) = false:=by
   rw [beq_eq_false_iff_ne]
   rintro rfl
   exact hx (List.mem_of_getElem? r.1)
  rw [n2]
  exact RF.none_of hx t
theorem methL_some {i f:Nat} {u:U} {hs:Hs} (h:methL T i u hs = some f):∃ n c fs Cl,u = .ref n /\ hs[n]? = some (.ins c fs) /\ T.cls[c]? = some Cl /\ Cl.meths.lookup i = some f:=by
 cases u with
 | ref n =>
  simp only [methL] at h
  split at h
  ·rename_i c fs e
   split at h
   ·rename_i Cl e2
    exact ⟨n,c,fs,Cl,rfl,e,e2,h⟩
   ·cases h
  ·cases h
 | _ => simp [methL] at h
theorem s_meth {o:Expr} {x:Str} {args:List Expr} {p q:Pos} {i d:Nat} {o':E} {es:List E} (g:GX T A C X) (F:Fc X T A cf k) (hr:Room k X.A) (S:Snd T A C X cf m) (h1:noSuper o = true) (h2:(p.endLine == q.line) = true) (h3:args.length < 29)
  (hx:idx x C.T.mns = some i) (ho:compE m C o = some o') (ha:compA m C args = some es):PE X (.Call (.Attribute o x p) args [] q) (TI T A X.K (ev T cf (d + 1) (.meth i o' es))):=by
 intro pins s σ H Q I hw
 obtain ⟨α,ρ,hs,u,hs',rs,R,e,q'⟩:=hw
 simp only [ev] at e
 obtain ⟨u1,h1',e1,e⟩:=bd_some e
 split at e
 case h_2 => cases e
 rename_i f hf
 obtain ⟨us,h2',e2,e⟩:=bd_some e
 have hx':T.mns[i]? = some x:=by rw [<- g.CT]; exact idx_get hx
 have hns:=compA_noStar ha
 refine PySem.W.methodCall_KW (thn (S.e d o o' ho pins s σ H (fun v H1 => ∃ α1,Ext α α1 H H1 /\ Rep T A X.K α1 h1' H1 /\ RU A α1 u1 v /\ RS A α1 ρ σ) I (TI.run rs R e1 fun α1 v H1 E1 R1 r1 rs1 => ⟨α1,E1,R1,r1,rs1⟩)) fun ov s1 ⟨v,H1,I1,rv,α1,E1,R1,r1,rs1⟩ => ?_) (meth_eq h1 h2 h3 hns)
 obtain ⟨n,c,fs,Cl,rfl,eo,hC,hf⟩:=methL_some hf
 obtain ⟨pa',hpa,rfl⟩:=r1
 cases (show ov = _ from rv)
 obtain ⟨dx,fv,q1,rf,lc⟩:=R1.h.ob n pa' _ hpa eo
 have cl:=g.txt.cl c Cl hC
 obtain ⟨x',hx2,hm⟩:=cl.me i f hf
 have ex:x = x':=Option.some.inj (hx'.symm.trans hx2)
 subst ex
 have nx:x ∉ T.fns':=fun z => g.txt.fm x z (List.mem_of_getElem? hx')
 obtain ⟨Fn,hF,_⟩:=F.some _ _ _ _ e
 obtain ⟨fd,G,b,kp⟩:=F.ok f Fn hF
 refine getmeth_ok I1 q1 cl.cls hm (RF.none_of nx rf) ?_
 have fin:∀ (s2:Shared) (H2:Hp) (α2:List Addr) (vs:List V) (ws:List Value),Inv X pins σ H2 s2 -> Ext α1 α2 H1 H2 -> Rep T A X.K α2 h2' H2 -> RUs A α2 us vs -> Vals vs ws ->
   wpAny (model X.prog X.w) X.A (call (.ref (A.f f)) (.ref pa' :: ws)) (EP X pins σ Q) X.xe s2:=by
  intro s2 H2 α2 vs ws I2 E2 R2 r2 rw'
  refine run_fn (us:=.ref pa' :: ws) (vs:=.ref pa' :: vs) G hr b .nil pass0 I2 (.cons rfl rw') ?_
  rw [List.append_nil]
  exact spC_of F (us:=.ref n :: us) (.cons ⟨pa',E2.pre _ _ hpa,rfl⟩ r2) R2 e fun α3 v H3 E3 R3 r3 => q' α3 v H3 ((E1.trans E2 R2.h).trans E3 R3.h) R3 r3
 cases args with
 | nil =>
  have ee:es = []:=by
   have:=compA_len ha
   simpa using this
  subst ee
  cases e2
  exact PySem.W.callWith_K0 (first:=[.ref pa']) I1.kIn hm.kp (fin s1 H1 α1 [] [] I1 Ext.refl R1 .nil .nil)
 | cons a r =>
  refine PySem.W.callWith_K (first:=[.ref pa']) (h₀:=X.base) I.ok.mod.kin hm.kp (thn (S.a d (a :: r) es ha q pins s1 σ H1 (fun vs H2 => ∃ α2,Ext α1 α2 H1 H2 /\ Rep T A X.K α2 h2' H2 /\ RUs A α2 us vs) I1 (TIA.run rs1 R1 e2 fun α2 vs H2 E2 R2 r2 rs2 => ⟨α2,E2,R2,r2⟩)) fun ws s2 ⟨vs,H2,I2,rw',α2,E2,R2,r2⟩ => ⟨I2.kIn,?_⟩)
   (star_cons (hns a (List.mem_cons_self ..))) (star_any fun z hz => hns z (List.mem_cons_of_mem _ hz))
  exact fin s2 H2 α2 vs ws I2 E2 R2 r2 rw'
theorem few_of {env:Env} {pos:Pos} {e:Expr} {es:List Expr} (hn:NoStar (e :: es)) (hl:(e :: es).length < 29):((backTo pos (starEach (e :: es) env)).all (fun x => !x.1) && (backToKw pos (keywordEach [] env)).all (fun x => x.1.isSome)
   && decide ((e :: es).length + ([]:List Keyword).length + (if ([]:List Keyword).isEmpty then 0 else 1) < 30)) = true:=by
 rw [star_all hn]
 have:(e :: es).length + ([]:List Keyword).length + (if ([]:List Keyword).isEmpty then 0 else 1) < 30:=by
  simp only [List.length_nil,List.isEmpty_nil,if_true]
  omega
 rw [decide_eq_true this]
 rfl
theorem bm_core {o:Expr} {x:Str} {args:List Expr} {p q:Pos} {d:Nat} {o':E} {es:List E} {b:Bm} {id ty:String} (S:Snd T A C X cf m) (B:BmS X T A b id) (pa:PlainAttrs ty) (slot:Slot ty x id) (hty:typeOf (.builtin id) = pure (.type "method_descriptor"))
  (ty:∀ {u:U} {hs:Hs} {α:List Addr} {v:V} {H:Hp},rcvU b u hs = true -> RU A α u v -> Rep T A X.K α hs H -> L2.tyV X.K ty v H) (h1:noSuper o = true) (h2:(p.endLine == q.line) = true) (h3:args.length < 29)
  (ho:compE m C o = some o') (ha:compA m C args = some es):PE X (.Call (.Attribute o x p) args [] q) (TI T A X.K (ev T cf (d + 1) (.bm b o' es))):=by
 obtain ⟨r,hm,hB⟩:=B
 have hns:=compA_noStar ha
 cases args with
 | nil =>
  have ee:es = []:=by
   have:=compA_len ha
   simpa using this
  subst ee
  refine PEimp (pe_bm0 pa slot hty hm (S.e d o o' ho) (noSuper_base h1) h2) ?_
  rintro σ H Q ⟨α,ρ,hs,u,hs',rs,R,e,q⟩
  simp only [ev,evs] at e
  obtain ⟨u1,h1',e1,e⟩:=bd_some e
  split at e
  case isFalse => cases e
  rename_i il
  obtain ⟨us,h2',e2,e⟩:=bd_some e
  cases e2
  exact TI.run rs R e1 fun α1 v H1 E1 R1 r1 rs1 => ⟨ty il r1 R1,hB e r1 .nil R1 fun α2 v2 H2 E2 R2 r2 => q α2 v2 H2 (E1.trans E2 R2.h) R2 r2⟩
 | cons a t =>
  refine PEimp (pe_bm pa slot hty hm (S.e d o o' ho) (S.a d (a :: t) es ha) (noSuper_base h1) (few_of hns h3) h2 (star_cons (hns a (List.mem_cons_self ..))) (star_any fun z hz => hns z (List.mem_cons_of_mem _ hz))) ?_
  rintro σ H Q ⟨α,ρ,hs,u,hs',rs,R,e,q⟩
  simp only [ev] at e
  obtain ⟨u1,h1',e1,e⟩:=bd_some e
  split at e
  case isFalse => cases e
  rename_i il
  obtain ⟨us,h2',e2,e⟩:=bd_some e
  exact TI.run rs R e1 fun α1 v H1 E1 R1 r1 rs1 => ⟨ty il r1 R1,TIA.run rs1 R1 e2 fun α2 vs H2 E2 R2 r2 rs2 => hB e (r1.mono E2.pre) r2 R2 fun α3 v2 H3 E3 R3 r3 => q α3 v2 H3 ((E1.trans E2 R2.h).trans E3 R3.h) R3 r3⟩
def kdB:Bm -> String
 | .setdef => "dict"
 | .join => "str"
 | .split => "str"
 | .find => "str"
 | .index => "str"
 | _ => "list"
theorem rcv_ok {b:Bm} {u:U} {hs:Hs} {α:List Addr} {v:V} {H:Hp} (e:rcvU b u hs = true) (r:RU A α u v) (R:Rep T A X.K α hs H):L2.tyV X.K (kdB b) v H:=by
 cases u with
 | ref n =>
  obtain ⟨a,ha,rfl⟩:=r
  simp only [rcvU] at e
  split at e
  ·rename_i xs eo
   obtain ⟨vs,q,_⟩:=R.h.ob n a _ ha eo
   have:kdB b = "list":=by cases b <;> first | rfl | cases e
   rw [this]
   exact .inl ⟨rfl,vs,SqL.of q⟩
  ·rename_i kvs eo
   obtain ⟨kv,q,_⟩:=R.h.ob n a _ ha eo
   have:kdB b = "dict":=by cases b <;> first | rfl | cases e
   rw [this]
   exact .inr (.inr (.inl ⟨rfl,.inl ⟨kv,q⟩⟩))
  ·cases e
 | str x =>
  cases (show v = _ from r)
  have:kdB b = "str":=by cases b <;> first | rfl | cases e
  exact this
 | _ => cases e
theorem s_bm {o:Expr} {x:Str} {args:List Expr} {p q:Pos} {d:Nat} {o':E} {es:List E} {b:Bm} (tx:Txt T A X.K X.mg) (S:Snd T A C X cf m) (hb:bmOf x = some b) (h1:noSuper o = true) (h2:(p.endLine == q.line) = true) (h3:args.length < 29)
  (ho:compE m C o = some o') (ha:compA m C args = some es):PE X (.Call (.Attribute o x p) args [] q) (TI T A X.K (ev T cf (d + 1) (.bm b o' es))):=by
 unfold bmOf at hb
 split at hb
 ·rename_i e; subst e; cases hb; exact bm_core S bmS_append PySem.F.plainAttrs_list PySem.F.slot_list_append PySem.F.type_list_append (fun e r R => rcv_ok e r R) h1 h2 h3 ho ha
 ·cases hb
theorem bi_core {args:List Expr} {d:Nat} {es:List E} {b:Bi} {fv:Value} {r:List V -> Hp -> VK -> Prop} {e0:Expr} (hB:∀ {α:List Addr} {us:List U} {u':U} {hs hs':Hs} {vs:List V} {H:Hp} {Q:VK},biU T b us hs = some (u',hs') -> RUs A α us vs -> Rep T A X.K α hs H ->
   (∀ α' v' H',Ext α α' H H' -> Rep T A X.K α' hs' H' -> RU A α' u' v' -> Q v' H') -> r vs H Q)
  (h:PE X e0 (tCB r (TIA T A X.K (fun ρ hs => evs (ev T cf d) ρ es hs)))):PE X e0 (TI T A X.K (ev T cf (d + 1) (.bi b es))):=by
 refine PEimp h ?_
 rintro σ H Q ⟨α,ρ,hs,u,hs',rs,R,e,q⟩
 simp only [ev] at e
 obtain ⟨us,h1,e1,e⟩:=bd_some e
 exact TIA.run rs R e1 fun α1 vs H1 E1 R1 r1 rs1 => hB e r1 R1 fun α2 v2 H2 E2 R2 r2 => q α2 v2 H2 (E1.trans E2 R2.h) R2 r2
theorem biU_nil {b:Bi} {hs:Hs}:biU T b [] hs = none:=by cases b <;> rfl
theorem s_bi {x:Str} {args:List Expr} {p pos:Pos} {d:Nat} {es:List E} {b:Bi} (g:GX T A C X) (S:Snd T A C X cf m) (hg:isGl C x = true) (hn:x ≠ "__debug__") (hn2:x ≠ "__name__") (hx:biOf C x = some b) (ha:compA m C args = some es) :
  PE X (.Call (.Name x p) args [] pos) (TI T A X.K (ev T cf (d + 1) (.bi b es))):=by
 have hns:=compA_noStar ha
 cases args with
 | nil =>
  refine PEfalse ?_
  rintro σ H Q ⟨α,ρ,hs,u,hs',rs,R,e,q⟩
  have ee:es = []:=by
   have:=compA_len ha
   simpa using this
  subst ee
  simp [ev,evs,bd,biU_nil] at e
 | cons a t =>
  unfold biOf at hx
  split at hx
  ·cases hx
  split at hx
  ·cases hx
  rename_i hl
  have hm:X.mg x = none:=g.blt x hl
  have pa:=S.a d (a :: t) es ha
  have st:=star_cons (env:=X.env) (es:=t) (hns a (List.mem_cons_self ..))
  have sa:=star_any (env:=X.env) (pos:=pos) (es:=t) fun z hz => hns z (List.mem_cons_of_mem _ hz)
  split at hx
  ·rename_i e; subst e; cases hx
   obtain ⟨r,hc,hB⟩:=biS_len (X:=X) (A:=A) g.txt
   exact bi_core (fv:=.builtin "len") (args:=[]) hB (pe_callB hc (gl_of g hg) hm (by decide +kernel) pa hn2 (ne_beq hn) st sa)
  split at hx
  ·rename_i e; subst e; cases hx
   obtain ⟨r,hc,hB⟩:=biS_str (X:=X) (A:=A) (T:=T)
   exact bi_core (fv:=.none) (args:=[]) hB (pe_callTy hc (gl_of g hg) hm (by decide +kernel) pa hn2 (ne_beq hn) st sa)
  split at hx
  ·rename_i e; subst e; cases hx
   obtain ⟨r,hc,hB⟩:=biS_sum (X:=X) (A:=A) g.txt g.calm
   exact bi_core (fv:=.builtin "sum") (args:=[]) hB (pe_callB hc (gl_of g hg) hm (by decide +kernel) pa hn2 (ne_beq hn) st sa)
  split at hx
  ·rename_i e; subst e; cases hx
   obtain ⟨r,hc,hB⟩:=biS_max (X:=X) (A:=A) g.txt g.calm
   exact bi_core (fv:=.builtin "max") (args:=[]) hB (pe_callB hc (gl_of g hg) hm (by decide +kernel) pa hn2 (ne_beq hn) st sa)
  split at hx
  ·rename_i e; subst e; cases hx
   obtain ⟨r,hc,hB⟩:=biS_min (X:=X) (A:=A) g.txt g.calm
   exact bi_core (fv:=.builtin "min") (args:=[]) hB (pe_callB hc (gl_of g hg) hm (by decide +kernel) pa hn2 (ne_beq hn) st sa)
  split at hx
  ·rename_i e; subst e; cases hx
   obtain ⟨r,hc,hB⟩:=biS_abs (X:=X) (A:=A) (T:=T)
   exact bi_core (fv:=.builtin "abs") (args:=[]) hB (pe_callB hc (gl_of g hg) hm (by decide +kernel) pa hn2 (ne_beq hn) st sa)
  ·cases hx
theorem s_ty {t : Str} {ty : Ty} {p : Pos} (g : GX T A C X) (hg : isGl C t = true) (hn : t ≠ "__debug__") (hn2 : t ≠ "__name__") (h : tyOf C t = some ty) : ∃ v, PE X (.Name t p) (tC v) /\ clsV v = some (tyW A ty) := by
 unfold tyOf at h
 split at h
 ·rename_i i e
  cases h
  exact ⟨.ref (A.c i),pe_glob (gl_of g hg) (g.gcl t i e) rfl (ne_beq hn),rfl⟩
 ·cases h
 ·split at h
  ·cases h
  rename_i e
  have hm:X.mg t = none:=g.blt t e
  have fin:∀ n:String,bootBuiltins t = some (.type n) -> PE X (.Name t p) (tC (.ty n)):=fun n hb => pe_bltn (gl_of g hg) hm hb rfl hn2 (ne_beq hn)
  split at h
  ·rename_i e; subst e; cases h; exact ⟨_,fin "int" (by decide +kernel),rfl⟩
  split at h
  ·rename_i e; subst e; cases h; exact ⟨_,fin "str" (by decide +kernel),rfl⟩
  split at h
  ·rename_i e; subst e; cases h; exact ⟨_,fin "bool" (by decide +kernel),rfl⟩
  split at h
  ·rename_i e; subst e; cases h; exact ⟨_,fin "list" (by decide +kernel),rfl⟩
  split at h
  ·rename_i e; subst e; cases h; exact ⟨_,fin "tuple" (by decide +kernel),rfl⟩
  split at h
  ·rename_i e; subst e; cases h; exact ⟨_,fin "dict" (by decide +kernel),rfl⟩
  ·cases h
theorem s_isi {a:Expr} {t:Str} {ty:Ty} {a':E} {p p1 pos:Pos} {d:Nat} (g:GX T A C X) (S:Snd T A C X cf m) (hi:isGl C "isinstance" = true) (hl:¬ C.bl.contains ("isinstance":Str) = false) (hg:isGl C t = true) (hn:t ≠ "__debug__") (hn2:t ≠ "__name__") (h:tyOf C t = some ty) (ha:compE m C a = some a') :
  PE X (.Call (.Name "isinstance" p) [a,.Name t p1] [] pos) (TI T A X.K (ev T cf (d + 1) (.isi a' ty))):=by
 obtain ⟨v,hv,hc⟩:=s_ty (p:=p1) g hg hn hn2 h
 have s1:starEach [a,.Name t p1] X.env = (false,eval a X.env) :: starEach [.Name t p1] X.env:=star_cons (compE_noStar ha)
 refine PEimp (pe_callB call_isi (gl_of g hi) (g.blt _ hl) (by decide +kernel) (pa_cons (S.e d a a' ha) (pa_cons hv pa_nil) s1) (by decide) (by decide) s1 rfl) ?_
 rintro σ H Q ⟨α,ρ,hs,u,hs',rs,R,e,q⟩
 simp only [ev] at e
 obtain ⟨u1,h1,e1,e⟩:=bd_some e
 simp only [Option.map_eq_some_iff] at e
 obtain ⟨b,e2,e⟩:=e
 cases e
 refine TI.run rs R e1 fun α1 x H1 E1 R1 r1 rs1 => ?_
 obtain ⟨tv,h1,h2⟩:=isi_ok g.txt e2 r1 R1
 exact ⟨x,v,_,tv,b,rfl,hc,h1,h2,q α1 _ H1 E1 R1 rfl⟩
end
end Iv
namespace L2
open PySem PySem.Spec PyProof.Rows
open Sem (wp)
section
variable {prog:Program} {w:World} {A:Around} {E:Value -> Shared -> Prop} {s:Shared}
end
section
variable {prog:Program} {w:World} {A:Around} {E:Value -> Shared -> Prop} {s:Shared} {z TI TO i1 i2 l1 l2:Addr} {P1 P2:Nat -> Heap -> Prop} {L1 L2:Array Value -> Heap -> Prop}
end
end L2
namespace L2
open PySem PySem.Spec PyProof.Rows
section
variable {X:Cx} {pins:List (Addr × Obj)} {σ:St} {H:Hp} {s:Shared} {h':Heap}
end
abbrev itObj (b:Bool) (l:Addr):Obj:={ cls:=.type (if b then "list_iterator" else "tuple_iterator"),data:=.fields #[.ref l,.int 0 0] }
abbrev zH1 (b:Bool) (h:Heap) (l1:Addr):Heap:=h.push (itObj b l1)
abbrev zH2 (b b':Bool) (h:Heap) (l1 l2:Addr):Heap:=(zH1 b h l1).push (itObj b' l2)
abbrev zH3 (b b':Bool) (h:Heap) (l1 l2:Addr):Heap:=(zH2 b b' h l1 l2).push { cls:=.type "tuple",data:=.seq #[.ref h.objs.size,.ref (zH1 b h l1).objs.size] }
abbrev zH4 (b b':Bool) (h:Heap) (l1 l2:Addr):Heap:=(zH3 b b' h l1 l2).push { cls:=.type "tuple",data:=.seq #[.none,.none] }
abbrev zH5 (b b':Bool) (h:Heap) (l1 l2:Addr):Heap:=(zH4 b b' h l1 l2).push { cls:=.type "zip",data:=.fields #[.none,.bool false,.bool false,.ref (zH2 b b' h l1 l2).objs.size,.ref (zH3 b b' h l1 l2).objs.size] }
section
variable {prog:Program} {w:World} {A:Around} {E:Value -> Shared -> Prop} {s:Shared}
end
section
variable {X:Cx}
end
end L2
namespace L2
open PySem PySem.Spec PyProof.Rows
section
variable {X:Cx}
end
end L2
namespace L2
open PySem PySem.Spec PyProof.Rows
def Cx.block (X:Cx) (xs:List Str) (scope:Scope) (C:Addr) (s:Shared) (H:Hp) (fp:List Addr):Cx :=
 { X with N:=hideN xs X.N ++ xs,s₀:=s,H₀:=H,env:=compEnvC scope (clOf X.env.cells scope.names []) C X.env,outer:=X.stack,ex:=fp,fn:=fun _ => false,pn:=[],xe:=fun _ _ => False }
structure CompOk (X:Cx) (xs:List Str) (scope:Scope):Prop where
 kind:scope.kind = .function
 loc:∀ x ∈ xs,scope.names.lookup x = some .local
 all : ∀ y ∈ scope.names, (y.2 = .local -> (y.1 ∈ xs \/ y.1 = ".0") /\ scope.names.lookup y.1 = some .local) /\ y.2 ≠ .cell /\ (y.2 = .free -> X.env.scope.names.lookup y.1 = some .cell \/ X.env.scope.names.lookup y.1 = some .free)
 hid:∀ x ∈ xs,scope.names.lookup (mang x) = none
 nd:xs.Nodup
 dot:(".0":Str) ∉ X.N
section
variable {X:Cx} {xs:List Str} {scope:Scope} {pins:List (Addr × Obj)} {σ:St} {H:Hp} {s:Shared} {fp:List Addr}
theorem CompOk.free_of (k:CompOk X xs scope) (hk:X.env.scope.kind = .function) {y:Str} (h:(relabel scope X.env).names.lookup y = some .cell \/ (relabel scope X.env).names.lookup y = some .free):(y,NameKind.free) ∈ scope.names:=by
 rw [relabel_names hk,relN_look] at h
 cases q:scope.names.lookup y with
 | none => rw [q] at h; simp at h
 | some kd =>
  rw [q] at h
  have m:=lookup_mem q
  cases kd with
  | free => exact m
  | cell => exact absurd rfl (k.all _ m).2.1
  | _ => simp at h
theorem CompOk.local_of (k : CompOk X xs scope) (hk : X.env.scope.kind = .function) {y : Str} (h : (relabel scope X.env).names.lookup y = some .local) : y ∈ xs \/ y = ".0" := by
 rw [relabel_names hk,relN_look] at h
 cases q:scope.names.lookup y with
 | none => rw [q] at h; simp at h
 | some kd =>
  rw [q] at h
  have m:=lookup_mem q
  cases kd with
  | «local» => exact ((k.all _ m).1 rfl).1
  | free =>
   simp only [Option.map_some] at h
   split at h <;> cases h
  | _ => simp at h
theorem clOf_cells {cells:List (Str × Addr)} {l:List (Str × NameKind)} {y:Str} {c:Addr} (e:(clOf cells l []).lookup y = some c):cells.lookup y = some c:=by
 rcases clOf_look e with z | z
 ·simp at z
 ·exact z
theorem pad_get {σ:St} {n i:Nat} {v:V} (e:(σ ++ List.replicate n none)[i]? = some (some v)):σ[i]? = some (some v):=by
 by_cases h:i < σ.length
 ·rw [List.getElem?_append_left h] at e
  exact e
 ·rw [List.getElem?_append_right (by omega),List.getElem?_replicate] at e
  split at e <;> cases e
theorem Inv.block {h₁:Heap} {m:Str -> Option Value} {tk:Nat} (I:Inv X pins σ H s) (k:CompOk X xs scope) (hf:∀ b ∈ fp,FpOk X pins H b) (hfs:∀ b ∈ fp,b < s.heap.objs.size)
  (hn:h₁.Ns s.heap.objs.size m) (kp:∀ b o,s.heap.get? b = some o -> h₁.get? b = some o):Inv (X.block xs scope s.heap.objs.size s H fp) [] (σ ++ List.replicate xs.length none) H { s with heap:=h₁,toks:=tk }:=by
 have hk:X.env.scope.kind = .function:=I.ok.kind
 have fsub:∀ b ∈ fp,b ∉ frs X.stack:=fun b hb z => by
  rcases List.mem_cons.mp (I.stkSub b z) with e | e
  ·exact (hf b hb).2.1 e
  ·exact (hf b hb).2.2.1 e
 have okB:(X.block xs scope s.heap.objs.size s H fp).Ok:={
  mod:=I.ok.mod
  kind:=k.kind
  glob:=I.ok.glob
  blt:=I.ok.blt
  above:=Nat.le_refl _
  inj:=fun y z c e1 e2 => I.ok.inj y z c (clOf_cells e1) (clOf_cells e2)
  has:=fun y h => by
   have m:=k.free_of hk h
   obtain ⟨c,hc⟩:=I.ok.has y ((k.all _ m).2.2 rfl)
   exact ⟨c,clOf_has hc (.inl m)⟩
  cab:=fun y c h => nomatch h
  hd:=I.ok.hd
  frames:=I.ok.frames
  stk:=.inl rfl
  exf:=fun b hb => ⟨Nat.ne_of_lt (hfs b hb),fun y c e => (hf b hb).2.2.2.2.1 y c (clOf_cells e)⟩
  bs:=I.bs
  bsz:=Nat.le_trans I.ok.bsz I.sz
  noex:=fun b o e hb => by
   rcases (hf b hb).2.2.2.1 with z | z
   ·exact I.ok.noex b o e z
   ·exact absurd (Nat.lt_of_lt_of_le (Heap.lt_size e) (Nat.le_trans I.ok.bsz z)) (Nat.lt_irrefl _)
  exfs:=fun b hb z => fsub b hb z
  funs:=I.stack
  frf:=fun b hb => I.stkFree b hb }
 refine ⟨okB,rfl,I.bare,Un.kept kp,⟨m,hn,fun i y v e1 e2 e3 => ?_⟩,fun y c e => ?_,I.hok.fresh (Nat.le_refl _),fun y c e => I.freeC y c (clOf_cells e),(fun p hp => by cases hp),I.hok.kept kp,?_⟩
 ·have e1:(hideN xs X.N ++ xs)[i]? = some y:=e1
  have e3:Vis (relabel scope X.env) y:=e3
  have q2:σ[i]? = some (some v):=pad_get e2
  have q0:(hideN xs X.N)[i]? = some y:=by
   have:=(List.getElem?_eq_some_iff.mp q2).1
   rw [I.len,<- hide_len (xs:=xs)] at this
   rw [List.getElem?_append_left this] at e1
   exact e1
  obtain ⟨z,q1,⟨zm,rfl⟩ | ⟨zn,rfl⟩⟩:=hide_get q0
  ·have no:=k.hid z zm
   have no':(relabel scope X.env).names.lookup (mang z) = none:=by rw [relabel_names hk,relN_look,no]; rfl
   rcases e3 with w | w | w <;> (rw [no'] at w; cases w)
  have ym:y ∈ X.N:=List.mem_of_getElem? q1
  have hcf:(relabel scope X.env).names.lookup y = some .cell \/ (relabel scope X.env).names.lookup y = some .free:=by
   rcases e3 with z | z
   ·rcases k.local_of hk z with q | q
    ·exact absurd q zn
    ·exact absurd (q ▸ ym) k.dot
   ·exact z
  have m':=k.free_of hk hcf
  have xk:=(k.all _ m').2.2 rfl
  obtain ⟨mm,hnn,hl⟩:=I.loc
  obtain ⟨u,r,l⟩:=hl i y v q1 q2 (.inr xk)
  refine ⟨u,r,.inr ⟨hcf,?_⟩⟩
  rcases l with ⟨l,_⟩ | ⟨_,c,e,o,ho,hd⟩
  ·have l:X.env.scope.names.lookup y = some .local:=l
   rcases xk with z | z <;> (rw [l] at z; cases z)
  ·exact ⟨c,clOf_has e (.inl m'),o,kp c o ho,hd⟩
 ·obtain ⟨v,o,ho,hd⟩:=I.cell y c (clOf_cells e)
  exact ⟨v,o,kp c o ho,hd⟩
 ·show (σ ++ List.replicate xs.length none).length = (hideN xs X.N ++ xs).length
  simp [I.len,hide_len]
def PTO (X:Cx) (tl:Option Expr) (tt:TT):Prop:=match tl with
 | none => ∀ σ H Q,tt σ H Q -> Q true H
 | some c => PT X c tt
def tComp (wi:TI) (n:Nat) (g:TG) (tt:TT) (te:TE):TE:=fun σ H Q => wi σ H fun J H1 => ∀ D,H1 D = none -> ∃ W:Nat -> Nat -> List V -> Hp -> Prop,(∃ m,W 0 m [] (upd H1 D (.lst []))) /\ ∀ i m ys H2,W i m ys H2 -> H2 D = some (.lst ys) /\
 ((J.stop i H2 /\ Q (.ref D) H2) \/ (J.go i H2 /\ ys.length < sizeLine /\ ∀ x H3 os,os.length = n -> J.yld i H2 x H3 -> g x (σ ++ os) H3 fun σ' H4 => (∃ os',os'.length = n /\ σ' = σ ++ os') /\ tt σ' H4 fun b H5 => if b = true then te σ' H5 fun y H6 => H6 D = some (.lst ys) /\ ∃ m',m' < m /\ W (i + 1) m' (ys ++ [y]) (upd H6 D (.lst (ys ++ [y]))) else ∃ m',m' < m /\ W (i + 1) m' ys H5))
theorem comp_block {pos:Pos} {elt tg iter:Expr} {tl:Option Expr} {g:TG} {tt:TT} {te:TE} {n:Nat} {Q:VK} {it:Addr} {tn:Nat -> Heap -> Prop} {J:It} {E:Value -> Shared -> Prop} {RR:Value -> Addr -> Result -> Shared -> Prop} (hc:X.calm = true) (k:CompOk X xs scope)
  (hn:xs.length = n) (hg:∀ C s H fp,PG (X.block xs scope C s H fp) tg g) (ht:∀ C s H fp,PTO (X.block xs scope C s H fp) tl tt) (he:∀ C s H fp,PE (X.block xs scope C s H fp) elt te)
  (I2:Inv X pins σ H s) (T:Turn X.prog X.w X.K tg J fp it tn) (st2:tn 0 s.heap) (f2:∀ b ∈ fp,FpOk X pins H b)
  (q:∀ D,H D = none -> ∃ W:Nat -> Nat -> List V -> Hp -> Prop,(∃ m,W 0 m [] (upd H D (.lst []))) /\ ∀ i m ys H2,W i m ys H2 -> H2 D = some (.lst ys) /\
   ((J.stop i H2 /\ Q (.ref D) H2) \/ (J.go i H2 /\ ys.length < sizeLine /\ ∀ x H3 os,os.length = n -> J.yld i H2 x H3 -> g x (σ ++ os) H3 fun σ' H4 => (∃ os',os'.length = n /\ σ' = σ ++ os') /\ tt σ' H4 fun b H5 => if b = true then te σ' H5 fun y H6 => H6 D = some (.lst ys) /\ ∃ m',m' < m /\ W (i + 1) m' (ys ++ [y]) (upd H6 D (.lst (ys ++ [y]))) else ∃ m',m' < m /\ W (i + 1) m' ys H5)))
  (hRR:∀ D C s' H' m,Inv X pins σ H' s' -> s'.heap.Ns C m -> FpOk X pins H' C -> Q (.ref D) H' -> RR (.ref D) C (.ok .next) s') :
  wpAny (model X.prog X.w) X.A (newList []) (fun acc s₃ => wpAny (model X.prog X.w) X.A (newFunctionEnv scope X.env.globals (clOf X.env.cells scope.names []) [] X.env.qual none .none (some X.env)) (fun cenv s₄ =>
   codeAny (model X.prog X.w) X.A (.compStart (.ListComp elt [⟨tg,iter,tl.toList,0⟩] scope pos) 0 (.ref it) acc { cenv with scope:=relabel scope X.env }) (RR acc cenv.locals) s₄) E s₃) E s:=by
 have hk:X.env.scope.kind = .function:=I2.ok.kind
 refine wpAny_newObj_type (wpAny_newFunctionEnv (fun y hy => (k.all y hy).2.1) (by intro y hy; simp at hy) (fun h₁ hns₁ hsb₁ => ?_) k.kind)
 dsimp only at hns₁ hsb₁ ⊢
 have hD:H s.heap.objs.size = none:=I2.hok.fresh (Nat.le_refl _)
 obtain ⟨W,⟨m0,w0⟩,turn⟩:=q s.heap.objs.size hD
 have I3:Inv X pins σ (upd H s.heap.objs.size (.lst [])) { s with heap:=s.heap.push { cls:=.type "list",dict:=none,data:=.seq ([]:List Value).toArray } } :=
  I2.laid (t':=s.toks) (fun b o e => Heap.get?_push_of_some _ e) (Nat.le_refl _) (show ObjOk X.prog X.w _ _ _ (.lst []) from ⟨Nat.zero_le _,[],_,.nil,Heap.get?_push_size _ rfl⟩)
 have lt2:∀ b ∈ fp,b < s.heap.objs.size:=fun b hb => by
  obtain ⟨o,e,_⟩:=T.obj 0 _ st2 b hb
  exact Heap.lt_size e
 have f3:∀ b ∈ fp,FpOk X pins (upd H s.heap.objs.size (.lst [])) b:=fun b hb => ⟨by rw [upd_ne (Nat.ne_of_lt (lt2 b hb))]; exact (f2 b hb).1,(f2 b hb).2⟩
 have lt3:∀ b ∈ fp,b < (s.heap.push { cls:=.type "list",dict:=none,data:=.seq ([]:List Value).toArray }).objs.size:=fun b hb => by
  rw [Heap.size_push]
  exact Nat.lt_succ_of_lt (lt2 b hb)
 generalize hs3:({ s with heap:=s.heap.push { cls:=.type "list",dict:=none,data:=.seq ([]:List Value).toArray } }:Shared) = s3 at I3
 have e3:s3.heap = s.heap.push { cls:=.type "list",dict:=none,data:=.seq ([]:List Value).toArray }:=by rw [<- hs3]
 rw [<- e3] at hns₁ hsb₁ lt3 ⊢
 have kp:∀ b o,s3.heap.get? b = some o -> h₁.get? b = some o:=fun b o e => hsb₁.extBut b o (Nat.ne_of_lt (Heap.lt_size e)) (Heap.get?_push_of_some _ e)
 have IB:=I3.block (tk:=s.toks + ([]:List (Str × Value)).length) k f3 lt3 hns₁ kp
 have es:({ s3 with heap:=h₁,toks:=s.toks + ([]:List (Str × Value)).length }:Shared) = { s with heap:=h₁,toks:=s.toks + ([]:List (Str × Value)).length }:=by rw [<- hs3]
 rw [es] at IB
 generalize hX:X.block xs scope s3.heap.objs.size s3 (upd H s.heap.objs.size (.lst [])) fp = Y at IB
 have HE:PE Y elt te:=hX ▸ he _ _ _ _
 have HT:PTO Y tl tt:=hX ▸ ht _ _ _ _
 have HG:PG Y tg g:=hX ▸ hg _ _ _ _
 have hP:Y.prog = X.prog:=by rw [<- hX]; rfl
 have hw:Y.w = X.w:=by rw [<- hX]; rfl
 have hK:Y.K = X.K:=by rw [<- hX]; rfl
 have hA:Y.A = X.A:=by rw [<- hX]; rfl
 have hcY:Y.calm = true:=by rw [<- hX]; exact hc
 have hxe:Y.xe = fun _ _ => False:=by rw [<- hX]; rfl
 have henv:Y.env = compEnvC scope (clOf X.env.cells scope.names []) s3.heap.objs.size X.env:=by rw [<- hX]; rfl
 have fpY:∀ {H':Hp},(∀ b ∈ fp,H' b = none) -> ∀ b ∈ fp,FpOk Y [] H' b:=fun hn b hb => by
  have hb1:=(f2 b hb).2
  rw [<- hX]
  refine ⟨hn b hb,?_,fun z => ?_,.inl hb,fun y c e => hb1.2.2.2.1 y c (clOf_cells e),(fun p hp => by cases hp)⟩
  ·exact Nat.ne_of_lt (lt3 b hb)
  ·rcases List.mem_cons.mp (I3.stkSub b z) with e | e
   ·exact hb1.1 e
   ·exact hb1.2.1 e
 -- behind the block
 have back:∀ {σ':St} {H':Hp} {s':Shared},Inv Y [] σ' H' s' -> Inv X pins σ H' s' /\ (∃ m,s'.heap.Ns s3.heap.objs.size m) /\ FpOk X pins H' s3.heap.objs.size:=fun {σ' H' s'} J' => by
  have u:=J'.base
  have os:=J'.os
  have hok:=J'.hok
  have bare:=J'.bare
  obtain ⟨mm,hnn,_⟩:=J'.loc
  have fr:=J'.free
  rw [henv] at hnn fr
  rw [<- hX] at u os hok
  refine ⟨I3.call' os u hok bare fun b hb => ?_,⟨mm,hnn⟩,I3.fpOk (Nat.le_refl _) fr⟩
  exact ⟨(f2 b hb).2.2.2.1,(f2 b hb).2.1,(f2 b hb).2.2.2.2.1,(f2 b hb).2.2.2.2.2⟩
 have loop:∀ s₃:Shared,Inv Y [] (σ ++ List.replicate xs.length none) (upd H s.heap.objs.size (.lst [])) s₃ -> tn 0 s₃.heap ->
   codeAny (model X.prog X.w) X.A (.compLoop (.ListComp elt [⟨tg,iter,tl.toList,0⟩] scope pos) 0 (.ref it) (.ref s.heap.objs.size) Y.env) (RR (.ref s.heap.objs.size) s3.heap.objs.size) s₃:=by
  intro s₃ J3 t3
  refine compLoop_go (fun m s' => ∃ i os H' ys,os.length = n /\ Inv Y [] (σ ++ os) H' s' /\ tn i s'.heap /\ (∀ b ∈ fp,H' b = none) /\ W i m ys H') ?_ m0 ⟨0,_,_,[],by rw [List.length_replicate]; exact hn,J3,t3,fun b hb => (f3 b hb).1,w0⟩
  rintro m s4 ⟨i,os,H4,ys,lo,J4,st4,fr4,w4⟩
  obtain ⟨hDl,tr⟩:=turn i m ys H4 w4
  rcases tr with ⟨stop,qn⟩ | ⟨go,hz,step⟩
  ·have dn:=T.done Y hP hw hK hcY i [] s4 (σ ++ os) H4 (notedBy (model X.prog X.w) X.A Y.env fun e s' => RR (.ref s.heap.objs.size) s3.heap.objs.size (.error e) s') J4 (fpY fr4) st4 stop
   rw [hA] at dn
   refine thn dn fun r s5 ⟨hr,J5⟩ => ?_
   subst hr
   obtain ⟨I5,⟨m5,n5⟩,f5⟩:=back J5
   exact hRR _ _ _ _ _ I5 n5 f5 qn
  ·have im:=T.item Y hP hw hK hcY i [] s4 (σ ++ os) H4 (notedBy (model X.prog X.w) X.A Y.env fun e s' => RR (.ref s.heap.objs.size) s3.heap.objs.size (.error e) s') J4 (fpY fr4) st4 go
   rw [hA] at im
   refine thn im fun r s5 ⟨u,hr,h5⟩ => ?_
   subst hr
   refine thn h5 fun _ s6 ⟨v,H6,J6,rv,y6,st6,fr6⟩ => ?_
   have J6':=J6.pinned (fpY fr6) (T.obj _ _ st6)
   have noE:∀ {EE:Value -> Shared -> Prop},∀ e s',Y.xe e s' -> EE e s':=fun {EE} e s' z => by rw [hxe] at z; exact z.elim
   have asg:=HG _ s6 (σ ++ os) H6 v u _ J6' rv (step v H6 os lo y6)
   rw [hP,hw,hA] at asg
   refine wpAny_mono asg (fun _ s7 ⟨σ7,H7,J7,⟨os',lo',e7⟩,q7⟩ => ?_) noE
   subst e7
   have fin:∀ {s9:Shared} {H9:Hp} {m':Nat} {zs:List V},Inv Y ([] ++ pinsAt fp s6.heap) (σ ++ os') H9 s9 -> m' < m -> W (i + 1) m' zs H9 -> ∃ m',m' < m /\ ∃ i os H' ys,os.length = n /\ Inv Y [] (σ ++ os) H' s9 /\ tn i s9.heap /\ (∀ b ∈ fp,H' b = none) /\ W i m' ys H':=fun {s9 H9 m' zs} J9 hm' w9 => by
    refine ⟨m',hm',i + 1,os',H9,zs,lo',J9.unpinned,T.keep _ _ _ st6 fun b hb ob e => (J9.pin (b,ob) (List.mem_append_right _ (List.mem_append_right _ (mem_pinsAt hb e)))).1,fun b hb => ?_,w9⟩
    obtain ⟨ob,e,d⟩:=T.obj _ _ st6 b hb
    exact (J9.pin (b,ob) (List.mem_append_right _ (List.mem_append_right _ (mem_pinsAt hb e)))).2.1
   have tst:wpAny (model X.prog X.w) X.A (forIn tl.toList true fun c r => if r = true then do let ok <- isTrue c Y.env (eval c Y.env); pure (ForInStep.yield ok) else pure (ForInStep.yield r)) (TP Y ([] ++ pinsAt fp s6.heap) (σ ++ os') fun b H5 => if b = true then te (σ ++ os') H5 fun y H6 => H6 s.heap.objs.size = some (.lst ys) /\ ∃ m',m' < m /\ W (i + 1) m' (ys ++ [y]) (upd H6 s.heap.objs.size (.lst (ys ++ [y]))) else ∃ m',m' < m /\ W (i + 1) m' ys H5) (notedBy (model X.prog X.w) X.A Y.env fun e s' => RR (.ref s.heap.objs.size) s3.heap.objs.size (.error e) s') s7:=by
    refine wp_tests ?_
    cases tl with
    | none => exact ⟨H7,J7,HT _ _ _ q7⟩
    | some c =>
     have z:=(show PT Y c tt from HT) _ s7 _ _ _ J7 q7
     rw [hP,hw,hA] at z
     exact wpAny_mono z (fun _ _ h => h) noE
   refine wpAny_mono tst (fun b s8 ⟨H8,J8,q8⟩ => ?_) fun _ _ e => e
   cases b with
   | false =>
    rw [if_neg Bool.false_ne_true] at q8 ⊢
    obtain ⟨m',hm',w8⟩:=q8
    exact fin J8 hm' w8
   | true =>
    rw [if_pos rfl] at q8 ⊢
    have ev:=HE _ s8 _ _ _ J8 q8
    rw [hP,hw,hA] at ev
    refine wpAny_mono ev (fun y s8 ⟨yv,H8,J8,ry,hD8,m',hm',w8⟩ => ?_) noE
    have ap:=mt_append (X:=Y) _ s8 _ H8 (.ref s.heap.objs.size) [yv] (.ref s.heap.objs.size) [y] (fun _ H' => H' = upd H8 s.heap.objs.size (.lst (ys ++ [yv]))) J8 rfl (.cons ry .nil) ⟨_,ys,yv,rfl,rfl,hD8,hz,rfl⟩
    rw [hP,hw,hA] at ap
    refine wpAny_mono ap (fun _ s9 ⟨_,H9,J9,_,e9⟩ => ?_) noE
    subst e9
    exact fin J9 hm' w8
 have t1:tn 0 h₁:=T.keep 0 _ _ st2 fun b hb o e => kp b o (by rw [e3]; exact Heap.get?_push_of_some _ e)
 have go:=loop _ IB t1
 rw [henv] at go
 refine codeAny_compStart_list ?_ ?_
 ·exact go
 ·exact T.self X.A 0 _ _ _ t1 go
theorem pe_comp {pos:Pos} {elt tg iter:Expr} {tl:Option Expr} {wi:TI} {n:Nat} {g:TG} {tt:TT} {te:TE} (hc:X.calm = true) (k:CompOk X xs scope) (hi:PI X tg iter wi) (hn:xs.length = n) (hg:∀ C s H fp,PG (X.block xs scope C s H fp) tg g) (ht:∀ C s H fp,PTO (X.block xs scope C s H fp) tl tt) (he:∀ C s H fp,PE (X.block xs scope C s H fp) elt te)
  (hs:∀ v,foldedSetIterable iter X.env v = pure v):PE X (.ListComp elt [⟨tg,iter,tl.toList,0⟩] scope pos) (tComp wi n g tt te):=by
 intro pins s σ H Q I h
 rw [eval_ListComp]
 refine wpAny_comprehension_free (use:=none) rfl hs (closure_is fun y hy hf => I.ok.has y.1 ((k.all y hy).2.2 hf)) k.kind (fun y hy hl => ((k.all y hy).1 hl).2) ?_
 refine thn (hi pins s σ H _ I h) fun v s1 h1 => thn h1 fun itv s2 h2 => ?_
 obtain ⟨it,fp,tn,J,H2,e,I2,T,st2,f2,q⟩:=h2
 subst e
 refine comp_block (RR:=fun acc C => compPost (model X.prog X.w) X.A X.xe none (EP X pins σ Q) acc C) hc k hn hg ht he I2 T st2 f2 q ?_
 intro D C s' H' m I' n' f' q'
 refine ⟨m,n',fun h' sb => ?_⟩
 exact ⟨.ref D,H',I'.turned (t':=s'.toks) (fun b o hb e => sb.extBut b o hb e) f'.1 f'.2.1 f'.2.2.2.1 f'.2.2.2.2.1 f'.2.2.2.2.2,rfl,q'⟩
theorem ps_comp {pos py spos:Pos} {elt tg iter:Expr} {tl:Option Expr} {wi:TI} {n:Nat} {g:TG} {tt:TT} {te:TE} {y:Str} {j:Nat} (hc:X.calm = true) (hN:X.N.Nodup) (k:CompOk X xs scope) (hi:PI X tg iter wi) (hn:xs.length = n) (hg:∀ C s H fp,PG (X.block xs scope C s H fp) tg g) (ht:∀ C s H fp,PTO (X.block xs scope C s H fp) tl tt) (he:∀ C s H fp,PE (X.block xs scope C s H fp) elt te)
  (hs:∀ v,foldedSetIterable iter X.env v = pure v) (hj:X.N[j]? = some y) (hy:Loc X.env.scope y) (hfn:X.fn y = true \/ X.env.scope.names.lookup y = some .local) :
  PS X (.Assign [.Name y py] (.ListComp elt [⟨tg,iter,tl.toList,0⟩] scope pos) spos) (fun D σ H => tComp wi n g tt te σ H fun v H1 => D.nx (σ.set j (some v)) H1):=by
 have hsw:∃ b,swapsWith (.ListComp elt [⟨tg,iter,tl.toList,0⟩] scope pos) (some (.Name y py)) spos.line X.env = pure b:=⟨_,rfl⟩
 obtain ⟨b,hsw⟩:=hsw
 cases b with
 | false => exact ps_set hN hj hy (pe_comp hc k hi hn hg ht he hs) hsw hfn
 | true =>
  intro pins s σ H D I h
  rw [exec_Assign_Name_used _ _ _ _ hsw]
  refine wpAny_bind (wpAny_standAt (wpAny_bind ?_))
  show wpAny _ _ (do let _ <- comprehension (.ListComp elt [⟨tg,iter,tl.toList,0⟩] scope pos) scope X.env _ (newList []) false (eval iter X.env) (some (assign (.Name y py) X.env))) _ _ s
  refine wpAny_bind (wpAny_mono (wpAny_comprehension_free (use:=some (assign (.Name y py) X.env)) (Q:=fun _ s' => SP X pins D .next s') rfl hs (closure_is fun y hy hf => I.ok.has y.1 ((k.all y hy).2.2 hf)) k.kind (fun y hy hl => ((k.all y hy).1 hl).2) ?_)
   (fun _ s' hq => wpAny_pure (wpAny_pure hq)) fun _ _ e => e)
  refine thn (hi pins s σ H _ I h) fun v s1 h1 => thn h1 fun itv s2 h2 => ?_
  obtain ⟨it,fp,tn,J,H2,e,I2,T,st2,f2,q⟩:=h2
  subst e
  refine comp_block (Q:=fun v H1 => D.nx (σ.set j (some v)) H1) (RR:=fun acc C => compPost (model X.prog X.w) X.A X.xe (some (assign (.Name y py) X.env)) (fun _ s' => SP X pins D .next s') acc C) hc k hn hg ht he I2 T st2 f2 q ?_
  intro Da C s' H' m I' n' f' q'
  obtain ⟨o,es,ep,ho,hd,r⟩:=id n'
  have Ip:Inv X (pins ++ pinsAt [C] s'.heap) σ H' s':=I'.pinned (fun b hb => by
   have e:b = C:=by simpa using hb
   subst e
   exact f') fun b hb => by
    have e:b = C:=by simpa using hb
    subst e
    exact ⟨o,ho,fun v z => by rw [hd] at z; cases z⟩
  refine thn (pg_name (i:=j) hN hj hy hfn _ s' σ H' (.ref Da) (.ref Da) _ Ip rfl q') fun _ s'' ⟨σ2,H2',J2,q2⟩ => ?_
  have pc:=J2.pin (C,o) (List.mem_append_right _ (List.mem_append_right _ (mem_pinsAt (by simp) ho)))
  refine ⟨m,⟨o,es,ep,pc.1,hd,r⟩,fun h' sb => ?_⟩
  exact ⟨σ2,H2',J2.unpinned.turned (t':=s''.toks) (fun b ob hb e => sb.extBut b ob hb e) pc.2.1 f'.2.1 f'.2.2.2.1 f'.2.2.2.2.1 f'.2.2.2.2.2,q2⟩
end
end L2
namespace L2
open PySem
open Sem (wp)
open AutoSeq1 (wpAny_loadPart')
section
variable {prog:Program} {w:World} {A:Around} {E:Value -> Shared -> Prop} {s:Shared}
end
end L2
namespace L2
open PySem PySem.Spec PyProof.Rows
section
variable {X:Cx}
def tRev (K:PySem.W.Frag) (te:TE):TE:=fun σ H Q => te σ H fun x H1 => ∃ a xs,x = .ref a /\ SqL K H1 a xs /\ ∀ p,H1 p = none -> Q (.ref p) (upd H1 p (.lst xs.reverse))
theorem pe_rev {e:Expr} {te:TE} {j:Nat} {p1 p3 p2 pos:Pos} (he:PE X e te):PE X (.Subscript e (.Slice none none (some (.UnaryOp .USub (.Constant (.int 1) j p1) p3)) p2) pos) (tRev X.K te):=by
 intro pins s σ H Q I h
 refine Subscript_ (thn (he pins s σ H _ I h) fun v s1 ⟨x,H1,I1,r1,q1⟩ => ?_)
 have hk:PO X (some (.UnaryOp .USub (.Constant (.int 1) j p1) p3)) (tPart (tUn (rU fun i => .int (-i)) (tC (.int 1)))):=po_some (pe_un un_neg pe_int)
 refine wpAny_Slice ?_
 rw [evalPart_none]
 refine wpAny_pure ?_
 refine wpAny_pure ?_
 refine thn (hk pins s1 σ H1 (fun o H2 => o = some (-1) /\ H2 = H1) I1 ⟨1,rfl,-1,rfl,rfl,rfl⟩) fun vk s3 ⟨o,H3,I3,pk,eo,eH⟩ => ?_
 subst eo eH
 have I4:Inv X pins σ H3 { s3 with heap:=s3.heap.push { cls:=.type "slice",data:=.fields #[.none,.none,vk] } }:=I3.kept (t':=s3.toks) fun b ob q => Heap.get?_push_of_some _ q
 obtain ⟨a,xs,rfl,hq,q⟩:=q1
 cases r1
 obtain ⟨its,r,ht,hz⟩:=I4.list hq
 have hlen:=r.length
 show wpAny (model X.prog X.w) X.A (subscriptTail e (.Slice none none (some (.UnaryOp .USub (.Constant (.int 1) j p1) p3)) p2) (.ref a) (.ref s3.heap.objs.size)) (EP X pins σ Q) X.xe { s3 with heap:=s3.heap.push { cls:=.type "slice",data:=.fields #[.none,.none,vk] } }
 refine tail_any (ops:=[.ref a,.ref s3.heap.objs.size]) ht.isList.typeIs slot_list_getitem.lookup ?_ (by with_unfolding_all rfl)
 refine wpAny_getItem_list_slice ht.isList (Heap.IsSliceOf.new ..) .none .none pk (by simp) ?_ (by rw [List.size_toArray] <;> omega)
 rw [PySem.W.krv_pick]
 refine ⟨.ref _,_,I4.laid (t':=s3.toks) (o:=.lst xs.reverse) (fun b ob q => Heap.get?_push_of_some _ q) (Nat.le_refl _) ?_,rfl,q _ (I4.hok.fresh (Nat.le_refl _))⟩
 exact ⟨by rw [List.length_reverse]; exact hz,_,0,by simpa using r.reverse,Heap.get?_push_size _ rfl⟩
end
end L2
namespace L2
open PySem PySem.Spec PyProof.Rows
section
variable {X:Cx}
end
end L2
namespace Iv
open PySem PySem.Spec PyProof.Rows L2
section
variable {X:Cx} {T:Tbl} {A:Adr} {C:Ctx} {cf:Cf} {m k:Nat} {α:List Addr} {hs:Hs} {H:Hp} {u:U} {v:V} {ρ:Rho} {σ:St}
def WJ (A:Adr) (K:PySem.W.Frag) (α:List Addr) (J:It):Wk -> Prop
 | .seqL u => ∃ a,RU A α u (.ref a) /\ J = Itl K a
 | .seqT u => ∃ a,RU A α u (.ref a) /\ J = Itt K a
 | .rng lo n => J = Itr lo n
 | .zipB _ _ _ _ => False
 | .revL _ _ => False
 | .rngC _ _ _ => False
 | .enmL _ => False
theorem WJ.mono {K:PySem.W.Frag} {J:It} {α':List Addr} {w:Wk} (p:∀ (n:Nat) a,α[n]? = some a -> α'[n]? = some a) (h:WJ A K α J w):WJ A K α' J w:=by
 cases w with
 | seqL u => obtain ⟨a,r,e⟩:=h; exact ⟨a,r.mono p,e⟩
 | seqT u => obtain ⟨a,r,e⟩:=h; exact ⟨a,r.mono p,e⟩
 | rng lo n => exact h
 | zipB b c x y => exact False.elim h
 | revL u n => exact False.elim h
 | rngC lo c n => exact False.elim h
 | enmL u => exact False.elim h
def gT (K:PySem.W.Frag):Tg -> TG
 | .name i => gName i
 | .pair i j => gTup K 2 (gCons (gName i) (gCons (gName j) gNil))
theorem itm_stop {J:It} {w:Wk} {i:Nat} (tx:Txt T A X.K X.mg) (R:Rep T A X.K α hs H) (W:WJ A X.K α J w) (h:itm T w i hs = some none):J.stop i H:=by
 cases w with
 | seqL u =>
  obtain ⟨a,r,rfl⟩:=W
  simp only [itm,Option.map_eq_some_iff,Option.map_eq_none_iff] at h
  obtain ⟨xs,e,h⟩:=h
  obtain ⟨a',vs,ea,rr,q⟩:=lstU_ok tx R e r
  cases ea
  exact ⟨vs,q,by rw [<- rr.length]; exact List.getElem?_eq_none_iff.mp h⟩
 | seqT u =>
  obtain ⟨a,r,rfl⟩:=W
  simp only [itm,Option.map_eq_some_iff,Option.map_eq_none_iff] at h
  obtain ⟨xs,e,h⟩:=h
  obtain ⟨a',vs,ea,rr,q⟩:=tupU_ok tx R e r
  cases ea
  exact ⟨vs,q,by rw [<- rr.length]; exact List.getElem?_eq_none_iff.mp h⟩
 | rng lo n =>
  cases (show J = _ from W)
  simp only [itm,Option.some.injEq] at h
  split at h
  ·cases h
  ·rename_i l
   show n <= i
   omega
 | zipB p q x y => exact False.elim W
 | revL u n => exact False.elim W
 | rngC lo c n => exact False.elim W
 | enmL u => exact False.elim W
theorem tgt_one {t:Tg} {ρ':Rho} {Q:St -> Hp -> Prop} (R:Rep T A X.K α hs H) (rs:RS A α ρ σ) (r:RU A α u v) (h:tgt t (.one u) ρ hs = some ρ') (k:∀ σ2,RS A α ρ' σ2 -> Q σ2 H):gT X.K t v σ H Q:=by
 cases t with
 | name i => cases h; exact k _ (rs.set i r)
 | pair i j =>
  cases u with
  | ref n =>
   obtain ⟨a,ha,rfl⟩:=r
   simp only [tgt] at h
   split at h
   case h_2 => cases h
   rename_i x y e
   cases h
   obtain ⟨vs,q,rr⟩:=R.h.ob n a _ ha e
   obtain ⟨v1,ws,rfl,r1,rr⟩:=vals_cons rr
   obtain ⟨v2,ws,rfl,r2,rr⟩:=vals_cons rr
   cases vals_nil rr
   exact ⟨a,[v1,v2],rfl,SqT.of q,rfl,v1,[v2],rfl,v2,[],rfl,rfl,k _ ((rs.set i r1).set j r2)⟩
  | _ => simp [tgt] at h
theorem itm_go {J:It} {w:Wk} {i:Nat} {x:Im} {t:Tg} {ρ':Rho} (tx:Txt T A X.K X.mg) (R:Rep T A X.K α hs H) (W:WJ A X.K α J w) (rs:RS A α ρ σ) (h:itm T w i hs = some (some x)) (ht:tgt t x ρ hs = some ρ') :
  J.go i H /\ ∀ v H' (Q:St -> Hp -> Prop),J.yld i H v H' -> (∀ σ2,RS A α ρ' σ2 -> Rep T A X.K α hs H' -> Ext α α H H' -> Q σ2 H') -> gT X.K t v σ H' Q:=by
 cases w with
 | seqL u =>
  obtain ⟨a,r,rfl⟩:=W
  simp only [itm,Option.map_eq_some_iff] at h
  obtain ⟨xs,e,y,h,rfl⟩:=h
  obtain ⟨a',vs,ea,rr,q⟩:=lstU_ok tx R e r
  cases ea
  obtain ⟨v1,f1,g1⟩:=rr.get h
  refine ⟨⟨vs,v1,q,f1⟩,?_⟩
  rintro v H' Q ⟨rfl,k1⟩ k
  have n1:v = v1:=Option.some.inj ((k1 vs q).symm.trans f1)
  subst n1
  exact tgt_one R rs g1 ht fun σ2 r2 => k σ2 r2 R Ext.refl
 | seqT u =>
  obtain ⟨a,r,rfl⟩:=W
  simp only [itm,Option.map_eq_some_iff] at h
  obtain ⟨xs,e,y,h,rfl⟩:=h
  obtain ⟨a',vs,ea,rr,q⟩:=tupU_ok tx R e r
  cases ea
  obtain ⟨v1,f1,g1⟩:=rr.get h
  refine ⟨⟨vs,v1,q,f1⟩,?_⟩
  rintro v H' Q ⟨rfl,k1⟩ k
  have n1:v = v1:=Option.some.inj ((k1 vs q).symm.trans f1)
  subst n1
  exact tgt_one R rs g1 ht fun σ2 r2 => k σ2 r2 R Ext.refl
 | rng lo n =>
  cases (show J = _ from W)
  simp only [itm,Option.some.injEq] at h
  split at h
  case isFalse => cases h
  rename_i l
  cases h
  refine ⟨l,?_⟩
  rintro v H' Q ⟨rfl,rfl⟩ k
  exact tgt_one (u:=.int (lo + i) 0) R rs ⟨_,rfl,Cg.refl _ _⟩ ht fun σ2 r2 => k σ2 r2 R Ext.refl
 | zipB p q x1 y1 => exact False.elim W
 | revL u n => exact False.elim W
 | rngC lo c n => exact False.elim W
 | enmL u => exact False.elim W
def TIW (T:Tbl) (A:Adr) (K:PySem.W.Frag) (f:Rho -> Hs -> Option (Wk × Hs)):L2.TI:=fun σ H R => ∃ α ρ hs w hs',RS A α ρ σ /\ Rep T A K α hs H /\ f ρ hs = some (w,hs') /\
 ∀ α' J H',Ext α α' H H' -> Rep T A K α' hs' H' -> WJ A K α' J w -> R J H'
theorem PIimp {tg it:Expr} {t t':L2.TI} (h:PI X tg it t) (i:∀ σ H R,t' σ H R -> t σ H R):PI X tg it t':=fun pins s σ H R I q => h pins s σ H R I (i σ H R q)
theorem PIor {tg it:Expr} {t t':L2.TI} (h:PI X tg it t) (h':PI X tg it t'):PI X tg it (fun σ H R => t σ H R \/ t' σ H R):=fun pins s σ H R I q => q.elim (h pins s σ H R I) (h' pins s σ H R I)
theorem pi_seq {tg it:Expr} {ir:E} {d:Nat} (tx:Txt T A X.K X.mg) (h:PE X it (Iv.TI T A X.K (ev T cf d ir))):PI X tg it (TIW T A X.K (fun ρ hs => srcU T (ev T cf d) ρ (.seq ir) hs)):=by
 refine PIimp (PIor (pi_list h) (pi_tup h)) ?_
 rintro σ H R ⟨α,ρ,hs,w,hs',rs,Rp,e,q⟩
 simp only [srcU] at e
 obtain ⟨u,h1,e1,e⟩:=bd_some e
 simp only [Option.map_eq_some_iff] at e
 obtain ⟨w',e2,e⟩:=e
 cases e
 unfold wkS at e2
 split at e2
 ·rename_i xs el
  cases e2
  refine .inl (TI.run rs Rp e1 fun α1 x H1 E1 R1 r1 rs1 => ?_)
  obtain ⟨a,vs,rfl,rr,sq⟩:=lstU_ok tx R1 el r1
  exact ⟨a,rfl,⟨vs,sq⟩,q α1 _ H1 E1 R1 ⟨a,r1,rfl⟩⟩
 ·split at e2
  ·rename_i xs el
   cases e2
   refine .inr (TI.run rs Rp e1 fun α1 x H1 E1 R1 r1 rs1 => ?_)
   obtain ⟨a,vs,rfl,rr,sq⟩:=tupU_ok tx R1 el r1
   exact ⟨a,rfl,⟨vs,sq⟩,q α1 _ H1 E1 R1 ⟨a,r1,rfl⟩⟩
  ·cases e2
theorem small62 {i:Int} (h:small64 (i * 4) = true):-(2 ^ 62) <= i /\ i < 2 ^ 62:=by
 obtain ⟨h1,h2⟩:=small64_of h
 constructor <;> omega
theorem pi_rng {tg a:Expr} {a':E} {p q:Pos} {d:Nat} (hg:Gl X "range") (hm:X.mg "range" = none) (hns:∀ x p,a ≠ .Starred x p) (h:PE X a (Iv.TI T A X.K (ev T cf d a'))):PI X tg (.Call (.Name "range" p) [a] [] q) (TIW T A X.K (fun ρ hs => srcU T (ev T cf d) ρ (.rng a') hs)):=by
 refine PIimp (pi_range1 hg hm (pa_cons h pa_nil (star_cons hns)) (star_cons hns)) ?_
 rintro σ H R ⟨α,ρ,hs,w,hs',rs,Rp,e,q⟩
 simp only [srcU] at e
 obtain ⟨u,h1,e1,e⟩:=bd_some e
 split at e
 case h_2 => cases e
 split at e
 case isFalse => cases e
 rename_i i c
 cases e
 refine TI.run rs Rp e1 fun α1 x H1 E1 R1 r1 rs1 => ?_
 obtain ⟨j,rfl,cg⟩:=r1
 cases cg.exact
 obtain ⟨b1,b2⟩:=small62 c
 exact ⟨_,rfl,b1,b2,q α1 _ H1 E1 R1 rfl⟩
theorem pi_rng2 {tg a b:Expr} {a' b':E} {p q:Pos} {d:Nat} (hg:Gl X "range") (hm:X.mg "range" = none) (hna:∀ x p,a ≠ .Starred x p) (hnb:∀ x p,b ≠ .Starred x p) (ha:PE X a (Iv.TI T A X.K (ev T cf d a'))) (hb:PE X b (Iv.TI T A X.K (ev T cf d b'))):PI X tg (.Call (.Name "range" p) [a,b] [] q) (TIW T A X.K (fun ρ hs => srcU T (ev T cf d) ρ (.rng2 a' b') hs)):=by
 have s2:starEach [b] X.env = [(false,eval b X.env)]:=star_cons hnb
 have s1:starEach [a,b] X.env = [(false,eval a X.env),(false,eval b X.env)]:=by rw [star_cons hna,s2]
 refine PIimp (pi_range2 hg hm (pa_cons ha (pa_cons hb pa_nil (star_cons hnb)) (star_cons hna)) s1 s2) ?_
 rintro σ H R ⟨α,ρ,hs,w,hs',rs,Rp,e,q⟩
 simp only [srcU] at e
 obtain ⟨u,h1,e1,e⟩:=bd_some e
 obtain ⟨u2,h2,e2,e⟩:=bd_some e
 split at e
 case h_2 => cases e
 split at e
 case isFalse => cases e
 rename_i i j c
 cases e
 rw [Bool.and_eq_true] at c
 refine TI.run rs Rp e1 fun α1 x H1 E1 R1 r1 rs1 => ?_
 refine TI.run rs1 R1 e2 fun α2 y H2 E2 R2 r2 rs2 => ?_
 obtain ⟨i',rfl,cg⟩:=r1
 cases cg.exact
 obtain ⟨j',rfl,cg⟩:=r2
 cases cg.exact
 obtain ⟨b1,b2⟩:=small62 c.1
 obtain ⟨b3,b4⟩:=small62 c.2
 exact ⟨_,_,rfl,⟨b1,b2,b3,b4⟩,q α2 _ H2 (E1.trans E2 R2.h) R2 rfl⟩
theorem Rep.aside {D:Addr} {ho:HO} (R:Rep T A X.K α hs H) (hn:D ∉ α) (hs':∀ o u,H D ≠ some (.frz o u)):Rep T A X.K α hs (upd H D ho) :=
 ⟨⟨R.h.len,R.h.nd,fun n a o e1 e2 => RO.keep (R.h.ob n a o e1 e2) (fun _ _ e => e) fun y e => by
   have ne:a ≠ D:=fun z => hn (z ▸ List.mem_of_getElem? e1)
   rw [upd_ne ne]; exact e⟩,
  R.s.keep fun y e z => by
   obtain ⟨ob,u,rfl⟩:=z
   have ne:A.s ≠ D:=fun z => hs' ob u (z ▸ e)
   rw [upd_ne ne]
   exact e⟩
theorem Rep.adopt {D:Addr} {us:List U} {ys:List V} (R:Rep T A X.K α hs H) (hn:D ∉ α) (hD:H D = some (.lst ys)) (r:RUs A α us ys):Rep T A X.K (α ++ [D]) (hs ++ [.lst us]) H:=by
 refine ⟨⟨by simp [R.h.len],nodup_snoc R.h.nd hn,fun n a o e1 e2 => ?_⟩,R.s⟩
 rcases snoc_cases e1 with q | ⟨q1,q2⟩
 ·rcases snoc_cases e2 with z | ⟨z,_⟩
  ·exact RO.keep (R.h.ob n a o q z) snoc_pre fun x e => e
  ·have:=getElem?_lt q
   rw [R.h.len] at this
   omega
 ·subst q2
  rcases snoc_cases e2 with z | ⟨_,z⟩
  ·have:=(List.getElem?_eq_some_iff.mp z).1
   rw [<- R.h.len] at this
   omega
  ·subst z
   exact ⟨ys,hD,RUs.mono snoc_pre r⟩
theorem RS.pad {p:Rho} {os:St} (rs:RS A α ρ σ) (hl:p.length = os.length) (hp:∀ x ∈ p,x = none):RS A α (ρ ++ p) (σ ++ os):=by
 refine ⟨by simp [rs.len,hl],fun i u e => ?_⟩
 by_cases l:i < ρ.length
 ·rw [List.getElem?_append_left l] at e
  obtain ⟨v,h1,h2⟩:=rs.val i u e
  exact ⟨v,by rw [List.getElem?_append_left (List.getElem?_eq_some_iff.mp h1).1]; exact h1,h2⟩
 ·rw [List.getElem?_append_right (by omega)] at e
  cases hp _ (List.mem_of_getElem? e)
def nN (b:Bool):Nat:=if b then 2 else 1
theorem padN_len (b:Bool):(padN b).length = nN b:=by cases b <;> rfl
theorem padN_none (b:Bool):∀ x ∈ padN b,x = none:=by cases b <;> simp [padN]
theorem gT_form {K:PySem.W.Frag} {b:Bool} {os:St} {Q:St -> Hp -> Prop} (hl:os.length = nN b) (h:gT K (tgN b σ.length) v (σ ++ os) H Q) :
  gT K (tgN b σ.length) v (σ ++ os) H fun σ2 H2 => (∃ os':St,os'.length = nN b /\ σ2 = σ ++ os') /\ Q σ2 H2:=by
 cases b with
 | false =>
  have h:Q ((σ ++ os).set σ.length (some v)) H:=h
  exact ⟨⟨os.set 0 (some v),by simp [hl],by rw [List.set_append_right _ _ (Nat.le_refl _),Nat.sub_self]⟩,h⟩
 | true =>
  obtain ⟨a,xs,rfl,sq,len,v1,r1,rfl,v2,r2,rfl,e,q⟩:=h
  refine ⟨a,_,rfl,sq,len,v1,_,rfl,v2,_,rfl,e,⟨(os.set 0 (some v1)).set 1 (some v2),by simp [hl],?_⟩,q⟩
  rw [List.set_append_right _ _ (Nat.le_refl _),Nat.sub_self,List.set_append_right _ _ (Nat.le_succ _)]
  congr 1
  congr 1
  omega
theorem out_of {α4:List Addr} {D:Addr} {ho:HO} {H4:Hp} (E4:Ext α α4 H H4) (nD:D ∉ α) (d3:H D = some ho):D ∉ α4:=fun z => by
 obtain ⟨n,hn⟩:=List.getElem?_of_mem z
 by_cases l:n < α.length
 ·have e1:α[n]? = some α[n]:=List.getElem?_eq_getElem l
  have e2:=E4.pre _ _ e1
  rw [hn] at e2
  cases e2
  exact nD (List.getElem_mem l)
 ·have:=E4.new n D hn (by omega)
  rw [d3] at this
  cases this
theorem comp_core {src:Src} {b:Bool} {t:Option E} {el:E} {d:Nat} {σ:St} {H:Hp} {Q:VK} (tx:Txt T A X.K X.mg) (hl:σ.length = X.N.length) (h:Iv.TI T A X.K (ev T cf (d + 1) (.comp src b t el)) σ H Q) :
  tComp (TIW T A X.K (fun ρ hs => srcU T (ev T cf d) ρ src hs)) (nN b) (gT X.K (tgN b X.N.length)) (TIT T A X.K (evTO (evT T cf d) t)) (Iv.TI T A X.K (ev T cf d el)) σ H Q:=by
 rw [<- hl]
 obtain ⟨α,ρ,hs,u,hs',rs,R,e,q⟩:=h
 simp only [ev] at e
 obtain ⟨w,h1,e1,e⟩:=bd_some e
 obtain ⟨us,h2,e2,e⟩:=bd_some e
 cases e
 refine ⟨α,ρ,hs,w,h1,rs,R,e1,fun α1 J H1 E1 R1 W1 D hD => ?_⟩
 have rs1:=rs.mono E1.pre
 refine ⟨fun i m ys H2 => ∃ αc hc acc,RS A αc ρ σ /\ Rep T A X.K αc hc H2 /\ D ∉ αc /\ H2 D = some (.lst ys) /\ RUs A αc acc ys /\ Ext α1 αc H1 H2 /\ WJ A X.K αc J w /\ compU T (ev T cf d) (evTO (evT T cf d) t) w b el ρ m i acc hc = some (us,h2),⟨turns T w h1,α1,h1,[],rs1,?_,R1.h.notIn hD,upd_same,.nil,?_,W1,e2⟩,?_⟩
 ·exact R1.aside (R1.h.notIn hD) fun o u z => by rw [hD] at z; cases z
 ·exact ⟨fun _ _ e => e,fun n a e l => by have:=getElem?_lt e; omega,fun b o e _ => by rw [upd_ne (fun z => by rw [z,hD] at e; cases e)]; exact e⟩
 rintro i m ys H2 ⟨αc,hc,acc,rsc,Rc,nD,hDl,rr,Ec,Wc,ec⟩
 refine ⟨hDl,?_⟩
 cases m with
 | zero => cases ec
 | succ m =>
  simp only [compU] at ec
  split at ec
  ·cases ec
  ·rename_i ei
   cases ec
   refine .inl ⟨itm_stop tx Rc Wc ei,?_⟩
   have Ra:=Rc.adopt nD hDl rr
   have Ea:Ext α1 (αc ++ [D]) H1 H2:=⟨fun n a e => snoc_pre n a (Ec.pre n a e),fun n a e l => by
    rcases snoc_cases e with z | ⟨_,z⟩
    ·exact Ec.new n a z l
    ·rw [z]; exact hD,Ec.keep⟩
   exact q _ _ _ (E1.trans Ea Ra.h) Ra ⟨D,by rw [<- Rc.h.len]; exact snoc_at,rfl⟩
  ·rename_i x ei
   split at ec
   ·cases ec
   rename_i ρ' et
   split at ec
   case isFalse => cases ec
   rename_i small
   obtain ⟨c,h3,e3,ec⟩:=bd_some ec
   have go:J.go i H2:=(itm_go tx Rc Wc (rsc.pad (os:=List.replicate (nN b) none) (by rw [padN_len]; simp) (padN_none b)) ei et).1
   refine .inr ⟨go,?_,fun v H3 os lo yl => ?_⟩
   ·have:=rr.length
    rw [sizeLine_eq]
    omega
   have rsn:RS A αc (ρ ++ padN b) (σ ++ os):=rsc.pad (by rw [padN_len,lo]) (padN_none b)
   obtain ⟨_,stp⟩:=itm_go tx Rc Wc rsn ei et
   rw [rs.len] at stp
   refine gT_form lo (stp v H3 _ yl fun σ2 rs2 R3 E3 => ?_)
   have d3:H3 D = some (.lst ys):=E3.keep D _ hDl nD
   refine TIT.run rs2 R3 e3 fun α4 H4 E4 R4 rs4 => ?_
   have d4:H4 D = some (.lst ys):=E4.keep D _ d3 nD
   have nD4:=out_of E4 nD d3
   have Et4:=(Ec.trans E3 R3.h).trans E4 R4.h
   cases c with
   | false =>
    rw [if_neg Bool.false_ne_true] at ec ⊢
    exact ⟨m,Nat.lt_succ_self _,α4,h3,acc,rsc.mono E4.pre,R4,nD4,d4,RUs.mono E4.pre rr,Et4,Wc.mono E4.pre,ec⟩
   | true =>
    rw [if_pos rfl] at ec ⊢
    obtain ⟨u',h5,e5,ec⟩:=bd_some ec
    refine TI.run rs4 R4 e5 fun α5 y H5 E5 R5 r5 rs5 => ?_
    have d5:H5 D = some (.lst ys):=E5.keep D _ d4 nD4
    have nD5:=out_of E5 nD4 d4
    refine ⟨d5,m,Nat.lt_succ_self _,α5,h5,acc ++ [u'],(rsc.mono E4.pre).mono E5.pre,R5.aside nD5 (fun o u z => by rw [d5] at z; cases z),nD5,upd_same,?_,?_,(Wc.mono E4.pre).mono E5.pre,ec⟩
    ·exact Paired.snoc (RUs.mono E5.pre (RUs.mono E4.pre rr)) r5
    ·have Et:=Et4.trans E5 R5.h
     exact ⟨Et.pre,Et.new,fun b o e hb => by rw [upd_ne (fun z => by rw [z,hD] at e; cases e)]; exact Et.keep b o e hb⟩
end
end Iv
namespace Iv
open PySem PySem.Spec PyProof.Rows L2
section
variable {X:Cx} {T:Tbl} {A:Adr} {C:Ctx} {cf:Cf} {m k:Nat}
theorem s_rev {a:Expr} {a':E} {j d:Nat} {p1 p3 p2 pos:Pos} (tx:Txt T A X.K X.mg) (h:PE X a (TI T A X.K (ev T cf d a'))) :
  PE X (.Subscript a (.Slice none none (some (.UnaryOp .USub (.Constant (.int 1) j p1) p3)) p2) pos) (TI T A X.K (ev T cf (d + 1) (.rev a'))):=by
 refine PEimp (pe_rev h) ?_
 rintro σ H Q ⟨α,ρ,hs,u,hs',rs,R,e,q⟩
 simp only [ev] at e
 obtain ⟨u1,h1,e1,e⟩:=bd_some e
 split at e
 case h_2 => cases e
 rename_i xs el
 cases e
 refine TI.run rs R e1 fun α1 x H1 E1 R1 r1 rs1 => ?_
 obtain ⟨b,vs,rfl,rr,sq⟩:=lstU_ok tx R1 el r1
 refine ⟨b,vs,rfl,sq,fun p hp => ?_⟩
 obtain ⟨R2,E2⟩:=R1.new (p:=p) (o:=.lst xs.reverse) (ho:=.lst vs.reverse) hp ⟨_,upd_same,RUs.mono snoc_pre rr.reverse⟩
 exact q _ _ _ (E1.trans E2 R2.h) R2 ⟨p,by rw [<- R1.h.len]; exact snoc_at,rfl⟩
theorem s_src {tg it:Expr} {src:Src} {d:Nat} (g:GX T A C X) (S:Snd T A C X cf m) (h:compSrc (m + 1) C it = some src) (hz:isPr src = true -> ∃ elts kt pt,tg = .Tuple elts kt pt):PI X tg it (TIW T A X.K (fun ρ hs => srcU T (ev T cf d) ρ src hs)):=by
 have seq:∀ {it:Expr} {src:Src},(compE m C it).map Src.seq = some src -> PI X tg it (TIW T A X.K (fun ρ hs => srcU T (ev T cf d) ρ src hs)):=by
  intro it src h
  simp only [Option.map_eq_some_iff] at h
  obtain ⟨ir,hi,rfl⟩:=h
  exact pi_seq g.txt (S.e d it ir hi)
 simp only [compSrc] at h
 split at h
 ·rename_i f p args q
  split at h
  case isFalse => cases h
  rename_i hg
  split at h
  ·exact seq h
  ·split at h
   ·cases h
   rename_i hx
   split at h
   ·rename_i e
    subst e
    split at h
    ·rename_i a
     simp only [Option.map_eq_some_iff] at h
     obtain ⟨a',ha,rfl⟩:=h
     exact pi_rng (gl_of g hg) (g.blt _ hx) (compE_noStar ha) (S.e d a a' ha)
    ·rename_i a b
     simp only [Option.bind_eq_some_iff,Option.map_eq_some_iff] at h
     obtain ⟨a',ha,b',hb,rfl⟩:=h
     exact pi_rng2 (gl_of g hg) (g.blt _ hx) (compE_noStar ha) (compE_noStar hb) (S.e d a a' ha) (S.e d b b' hb)
    ·cases h
   ·exact seq h
 ·exact seq h
theorem noFold {it:Expr} {src:Src} {env:Env} (h:compSrc m C it = some src):∀ x,foldedSetIterable it env x = pure x:=by
 intro x
 cases it <;> first | rfl | skip
 cases m with
 | zero => simp [compSrc] at h
 | succ m =>
  simp only [compSrc,Option.map_eq_some_iff] at h
  obtain ⟨_,h,_⟩:=h
  cases m <;> simp [compE] at h
theorem compOk_ok {xs:List Str} {scope:Scope} (g:GX T A C X) (h:compOk C xs scope = true):CompOk X xs scope /\ ∀ C0 s H fp,GX T A (C.inner xs scope) (X.block xs scope C0 s H fp):=by
 unfold compOk at h
 simp only [Bool.and_eq_true,beq_iff_eq,List.all_eq_true,Bool.not_eq_true',decide_eq_true_eq] at h
 obtain ⟨⟨⟨⟨h1,h2⟩,hd⟩,h3⟩,h5⟩:=h
 have nd:(".0":Str) ∉ X.N:=fun z => by
  rw [g.N] at z
  rw [List.contains_iff_mem.mpr z] at h5
  cases h5
 refine ⟨⟨h1,fun x hx => (h2 x hx).1,fun y hy => ?_,fun x hx => (h2 x hx).2,(List.nodup_append.mp hd).2.1,nd⟩,fun C0 s H fp => ?_⟩
 ·have:=h3 y hy
  obtain ⟨n,kd⟩:=y
  cases kd with
  | «local» =>
   simp only [Bool.and_eq_true,Bool.or_eq_true,decide_eq_true_eq,beq_iff_eq,List.contains_iff_mem] at this
   exact ⟨fun _ => this,(fun z => nomatch z),fun z => nomatch z⟩
  | cell => cases this
  | free =>
   simp only [Bool.or_eq_true,beq_iff_eq] at this
   rw [<- g.sc] at this
   exact ⟨(fun z => nomatch z),(fun z => nomatch z),fun _ => this⟩
  | _ => exact ⟨(fun z => nomatch z),(fun z => nomatch z),fun z => nomatch z⟩
 ·refine ⟨g.CT,?_,?_,?_,g.calm,h1,rfl,g.gfn,g.gcl,g.gco,g.gtx,g.blt,g.txt,g.tab⟩
  ·show hideN xs X.N ++ xs = hideN xs C.N ++ xs
   rw [g.N]
  ·show (hideN xs X.N ++ xs).Nodup
   rw [g.N]
   exact hd
  ·show (relabel scope X.env).names = relN C.names scope.names
   rw [relabel_names g.kind,g.sc]
theorem pg_block {tg:Expr} {b:Bool} {xs:List Str} {scope:Scope} {C0:Addr} {s:Shared} {H:Hp} {fp:List Addr} (g:GX T A C X) (k:CompOk X xs scope) (gb:GX T A (C.inner xs scope) (X.block xs scope C0 s H fp)) (h:TgIs tg b xs):PG (X.block xs scope C0 s H fp) tg (gT X.K (tgN b X.N.length)):=by
 have nm:∀ {x:Str} {p:Pos} {i:Nat},x ∈ xs -> (hideN xs X.N ++ xs)[i]? = some x -> PG (X.block xs scope C0 s H fp) (.Name x p) (gName i):=fun {x p i} hx hi => by
  have loc:(X.block xs scope C0 s H fp).env.scope.names.lookup x = some .local:=by
   show (relabel scope X.env).names.lookup x = some .local
   rw [relabel_names g.kind,relN_look,k.loc x hx]
   rfl
  exact pg_name gb.nd hi (.inl loc) (.inr loc)
 rcases h with ⟨rfl,x,p,rfl,rfl⟩ | ⟨rfl,x,p,y,q,kt,pt,rfl,rfl⟩
 ·exact nm (by simp) (by rw [<- hide_len (xs:=[x])]; simp)
 ·refine pg_tup gb.calm (pgs_cons (nm (by simp) (by rw [<- hide_len (xs:=[x,y])]; simp)) (pgs_cons (nm (by simp) ?_) pgs_nil))
  rw [<- hide_len (xs:=[x,y]),List.getElem?_append_right (by omega)]
  simp
def CompParts (X:Cx) (elt:Expr) (gens:List Comprehension) (scope:Scope) (t:TE):Prop:=∃ tg iter tl xs n wi g tt te,gens = [⟨tg,iter,Option.toList tl,0⟩] /\ CompOk X xs scope /\ PI X tg iter wi /\ xs.length = n /\ (∀ C s H fp,PG (X.block xs scope C s H fp) tg g) /\ (∀ C s H fp,PTO (X.block xs scope C s H fp) tl tt) /\ (∀ C s H fp,PE (X.block xs scope C s H fp) elt te) /\
 (∀ v,foldedSetIterable iter X.env v = pure v) /\ ∀ σ H Q,σ.length = X.N.length -> t σ H Q -> tComp wi n g tt te σ H Q
theorem CompParts.pe {elt:Expr} {gens:List Comprehension} {scope:Scope} {pos:Pos} {t:TE} (g:GX T A C X) (h:CompParts X elt gens scope t):PE X (.ListComp elt gens scope pos) t:=by
 obtain ⟨tg,iter,tl,xs,n,wi,gg,tt,te,rfl,ok,hi,hn,hg,ht,he,hf,imp⟩:=h
 intro pins s σ H Q I q
 exact pe_comp g.calm ok hi hn hg ht he hf pins s σ H Q I (imp σ H Q I.len q)
end
end Iv
namespace Iv
open PySem PySem.Spec PyProof.Rows L2
section
variable {X:Cx} {T:Tbl} {A:Adr} {C:Ctx} {cf:Cf} {m k:Nat}
theorem slOf_none {b:Expr} (h:slOf b = none):notSlice b = true:=by
 cases b with
 | Slice lo hi st p =>
  cases st with
  | none => cases h
  | some e =>
   simp only [slOf] at h
   split at h <;> cases h
 | _ => rfl
theorem slOf_cut {b:Expr} {lo hi:Option Expr} (h:slOf b = some (.cut lo hi)):∃ p,b = .Slice lo hi none p:=by
 cases b with
 | Slice lo' hi' st p =>
  cases st with
  | none => cases h; exact ⟨p,rfl⟩
  | some e =>
   simp only [slOf] at h
   split at h <;> cases h
 | _ => cases h
theorem isM1_is {e:Expr} (h:isM1 e = true):∃ j p q,e = .UnaryOp .USub (.Constant (.int 1) j p) q:=by
 unfold isM1 at h
 split at h
 ·exact ⟨_,_,_,rfl⟩
 ·cases h
theorem slOf_rev {b:Expr} (h:slOf b = some .rev):∃ j p1 p3 p,b = .Slice none none (some (.UnaryOp .USub (.Constant (.int 1) j p1) p3)) p:=by
 cases b with
 | Slice lo hi st p =>
  cases st with
  | none => cases h
  | some e =>
   simp only [slOf] at h
   split at h
   ·rename_i c
    simp only [Bool.and_eq_true,Option.isNone_iff_eq_none] at c
    obtain ⟨⟨c1,c2⟩,c3⟩:=c
    obtain ⟨j,p1,p3,rfl⟩:=isM1_is c1
    subst c2 c3
    exact ⟨j,p1,p3,p,rfl⟩
   ·cases h
 | _ => cases h
theorem heOf_nm {a:Expr} {x:Str} (h:heOf a = .nm x):∃ p,a = .Name x p:=by
 unfold heOf at h
 split at h
 ·cases h; exact ⟨_,rfl⟩
 ·cases h
theorem s_subscript {a b:Expr} {p:Pos} {d:Nat} {ir:E} (g:GX T A C X) (hu:X.A.units + 1 < cLine) (S:Snd T A C X cf m) (h:compE (m + 1) C (.Subscript a b p) = some ir):PE X (.Subscript a b p) (TI T A X.K (ev T cf d ir)):=by
 simp only [compE] at h
 split at h
 ·rename_i lo hi hb
  obtain ⟨p2,rfl⟩:=slOf_cut hb
  exact s_slice S h
 ·rename_i hb
  obtain ⟨j,p1,p3,p2,rfl⟩:=slOf_rev hb
  refine pe_cases fun d => ?_
  simp only [Option.bind_eq_some_iff] at h
  obtain ⟨a',ha,h⟩:=h
  cases h
  exact s_rev g.txt (S.e d a a' ha)
 ·cases h
 ·rename_i hb
  have hs:=slOf_none hb
  refine pe_cases fun d => ?_
  simp only [Option.bind_eq_some_iff] at h
  obtain ⟨b',hb',h⟩:=h
  have gen:((compE m C a).bind fun a' => some (E.ix a' b')) = some ir -> PE X (.Subscript a b p) (TI T A X.K (ev T cf (d + 1) ir)):=fun h => by
   simp only [Option.bind_eq_some_iff] at h
   obtain ⟨a',ha,h⟩:=h
   cases h
   exact ix_core g.txt (S.e d a a' ha) (S.e d b b' hb') hs
  split at h
  ·rename_i ks vs hh
   exact absurd hh (by cases a <;> simp [heOf])
  ·rename_i x hh
   split at h
   ·rename_i k ht
    obtain ⟨px,rfl⟩:=heOf_nm hh
    cases h
    unfold tabOf at ht
    split at ht
    case isFalse => cases ht
    rename_i c
    simp only [Bool.and_eq_true,decide_eq_true_eq] at c
    split at ht
    case h_2 => cases ht
    rename_i k' hx
    split at ht
    ·cases ht
     exact s_tab g (S.e d b b' hb') hs c.1 c.2 hx
    ·cases ht
   ·exact gen h
  ·exact gen h
theorem s_call_all {f:Expr} {args:List Expr} {kws:List Keyword} {p:Pos} {d:Nat} {ir:E} (g:GX T A C X) (F:Fc X T A cf k) (hr:Room (k + 1) X.A) (S:Snd T A C X cf m) (h:compE (m + 1) C (.Call f args kws p) = some ir):PE X (.Call f args kws p) (TI T A X.K (ev T cf d ir)):=by
 refine pe_cases fun d => ?_
 cases kws with
 | cons kw kws =>
  cases f with
  | Name x px =>
   match args,kws,h with
   | a :: args,[],h =>
    simp only [compE,Option.bind_eq_some_iff] at h
    obtain ⟨i,hk,es,ha,e',he,h⟩:=h
    cases h
    exact s_callK g F (hr.mono (Nat.le_succ _)) S hk ha he
   | [],_,h => simp [compE] at h
   | _ :: _,_ :: _,h => simp [compE] at h
  | _ => simp [compE] at h
 | nil =>
  cases f with
  | Name x px =>
   simp only [compE] at h
   split at h
   ·cases h
   rename_i hn
   have n1:x ≠ "__debug__":=fun z => hn (.inl z)
   have n2:x ≠ "__name__":=fun z => hn (.inr (.inl z))
   have hg:isGl C x = true:=by
    cases q:isGl C x with
    | true => rfl
    | false => exact absurd (.inr (.inr q)) hn
   split at h
   ·rename_i i hx
    simp only [Option.bind_eq_some_iff] at h
    obtain ⟨es,ha,h⟩:=h
    exact s_callP g F (hr.mono (Nat.le_succ _)) S hg n1 hx ha h
   ·rename_i i hx
    simp only [Option.bind_eq_some_iff] at h
    obtain ⟨es,ha,h⟩:=h
    cases h
    exact s_make g F hr S hg n1 hx ha
   ·cases h
   ·cases h
   ·split at h
    ·cases h
    rename_i hx
    split at h
    ·rename_i e
     subst e
     split at h
     ·rename_i a t pt
      split at h
      ·rename_i c
       simp only [Option.bind_eq_some_iff] at h
       obtain ⟨a',ha,ty,ht,h⟩:=h
       cases h
       exact s_isi g S hg hx c.1 c.2.1 c.2.2 ht ha
      ·cases h
     ·cases h
    ·split at h
     ·rename_i ra hra
      simp only [Option.bind_eq_some_iff] at h
      obtain ⟨es,ha,h⟩:=h
      cases h
      exact nomatch hra
     ·simp only [Option.bind_eq_some_iff] at h
      obtain ⟨b,hb,es,ha,h⟩:=h
      cases h
      exact s_bi g S hg n1 n2 hb ha
  | Attribute o x pa =>
   simp only [compE] at h
   split at h
   case isFalse => cases h
   rename_i c
   simp only [Bool.and_eq_true,decide_eq_true_eq] at c
   split at h
   ·rename_i i hx
    simp only [Option.bind_eq_some_iff] at h
    obtain ⟨o',ho,es,ha,h⟩:=h
    cases h
    exact s_meth g F (hr.mono (Nat.le_succ _)) S c.1.1 c.1.2 c.2 hx ho ha
   ·simp only [Option.bind_eq_some_iff] at h
    obtain ⟨b,hb,o',ho,es,ha,h⟩:=h
    cases h
    exact s_bm g.txt S hb c.1.1 c.1.2 c.2 ho ha
  | _ => simp [compE] at h
theorem s_expr (g:GX T A C X) (F:Fc X T A cf k) (hr:Room (k + 1) X.A) (S:Snd T A C X cf m) (cp:∀ d elt gens scope p ir,compE (m + 1) C (.ListComp elt gens scope p) = some ir -> CompParts X elt gens scope (TI T A X.K (ev T cf d ir))) (d:Nat) (e:Expr) (ir:E) (h:compE (m + 1) C e = some ir):PE X e (TI T A X.K (ev T cf d ir)):=by
 cases e with
 | Constant c j p => exact s_const h
 | Name x p => exact s_name g h
 | BinOp a o b p => exact s_bin S h
 | UnaryOp o a p =>
  cases o with
  | USub => exact s_neg S h
  | Not => exact (s_not g.txt S h).1
  | _ => simp [compE] at h
 | BoolOp o vs p =>
  cases vs with
  | nil => cases o <;> simp [compE] at h
  | cons a r =>
   cases o with
   | And => exact (S.an d a r p ir h).2
   | Or => exact (S.orr d a r p ir h).2
 | Compare a os bs p =>
  match os,bs,h with
  | [o],[b],h => exact (s_cmp g.txt g.tab hr.units S h).1
  | [_,_],[_,_],h => simp [compE] at h
  | [],_,h => simp [compE] at h
  | [_],[],h => simp [compE] at h
  | [_],_ :: _ :: _,h => simp [compE] at h
  | [_,_],[],h => simp [compE] at h
  | [_,_],[_],h => simp [compE] at h
  | [_,_],_ :: _ :: _ :: _,h => simp [compE] at h
  | _ :: _ :: _ :: _,_,h => simp [compE] at h
 | IfExp t a b p => exact s_ifexp S h
 | Tuple es j p => exact s_tuple S h
 | List es p => exact s_list S h
 | Subscript a b p => exact s_subscript g (hu_of hr) S h
 | ListComp elt gens scope p => exact (cp d elt gens scope p ir h).pe g
 | Dict ks vs p =>
  cases ks with
  | cons _ _ => simp [compE] at h
  | nil =>
   cases vs with
   | cons _ _ => simp [compE] at h
   | nil =>
    simp only [compE] at h
    cases h
    refine pe_cases fun d => PEimp pe_dnewK ?_
    rintro σ H Q ⟨α,ρ,hs,u,hs',rs,R,e,q⟩
    simp only [ev] at e
    cases e
    intro p hp
    obtain ⟨R',E'⟩:=R.new (o:=.dic []) hp ⟨[],upd_same,.nil⟩
    exact q _ _ _ E' R' ⟨p,by rw [<- R.h.len]; exact snoc_at,rfl⟩
 | Attribute a f p => exact s_attr g S h
 | Call f args kws p => exact s_call_all g F hr S h
 | _ => simp [compE] at h
theorem pt_plain {e:Expr} {ir:E} {d:Nat} (g:GX T A C X) (he:∀ whole,isTrue e X.env whole = (do let v <- whole; standAt e.pos; holding [v] (truthy v))) (h:∀ d,PE X e (TI T A X.K (ev T cf d ir))) (hir:∀ d ρ hs,evT T cf (d + 1) ir ρ hs = bd (ev T cf d ir ρ hs) fun u h1 => (truU T u h1).map fun b => (b,h1)) :
  PT X e (TIT T A X.K (evT T cf d ir)):=by
 refine pt_cases fun d => ?_
 refine PTimp (pt_truth (h d) he) ?_
 rintro σ H Q ⟨α,ρ,hs,u,hs',rs,R,e,q⟩
 rw [hir] at e
 obtain ⟨u1,h1,e1,e⟩:=bd_some e
 simp only [Option.map_eq_some_iff] at e
 obtain ⟨b,e2,e⟩:=e
 cases e
 exact TI.run rs R e1 fun α1 x H1 E1 R1 r1 rs1 => ⟨_,truU_ok g.txt R1 e2 r1,q α1 H1 E1 R1⟩
theorem evT_plain {ir:E} (h:plainE ir = true):∀ d ρ hs,evT T cf (d + 1) ir ρ hs = bd (ev T cf d ir ρ hs) fun u h1 => (truU T u h1).map fun b => (b,h1):=by
 intro d ρ hs
 cases ir <;> first | rfl | cases h
theorem s_test (g:GX T A C X) (F:Fc X T A cf k) (hr:Room (k + 1) X.A) (S:Snd T A C X cf m) (cp:∀ d elt gens scope p ir,compE (m + 1) C (.ListComp elt gens scope p) = some ir -> CompParts X elt gens scope (TI T A X.K (ev T cf d ir))) (d:Nat) (e:Expr) (ir:E) (hne:∀ t a b p,e ≠ .IfExp t a b p) (ok:okT e ir = true) (h:compE (m + 1) C e = some ir):PT X e (TIT T A X.K (evT T cf d ir)):=by
 have all:=fun d => s_expr g F hr S cp d e ir h
 cases e with
 | Constant c j p => exact pt_plain g (fun _ => rfl) all (evT_plain ok)
 | Name x p => exact pt_plain g (fun _ => rfl) all (evT_plain ok)
 | BinOp a o b p => exact pt_plain g (fun _ => rfl) all (evT_plain ok)
 | UnaryOp o a p =>
  cases o with
  | USub => exact pt_plain g (fun _ => rfl) all (evT_plain ok)
  | Not => exact (s_not g.txt S h).2
  | _ => simp [compE] at h
 | BoolOp o vs p =>
  cases vs with
  | nil => cases o <;> simp [compE] at h
  | cons a r =>
   cases o with
   | And => exact (S.an d a r p ir h).1.pt
   | Or => exact (S.orr d a r p ir h).1.pt
 | Compare a os bs p =>
  match os,bs,h with
  | [o],[b],h => exact (s_cmp g.txt g.tab hr.units S h).2
  | [_,_],[_,_],h => simp [compE] at h
  | [],_,h => simp [compE] at h
  | [_],[],h => simp [compE] at h
  | [_],_ :: _ :: _,h => simp [compE] at h
  | [_,_],[],h => simp [compE] at h
  | [_,_],[_],h => simp [compE] at h
  | [_,_],_ :: _ :: _ :: _,h => simp [compE] at h
  | _ :: _ :: _ :: _,_,h => simp [compE] at h
 | IfExp t a b p => exact absurd rfl (hne t a b p)
 | Tuple es j p => exact pt_plain g (fun _ => rfl) all (evT_plain ok)
 | List es p => exact pt_plain g (fun _ => rfl) all (evT_plain ok)
 | Subscript a b p => exact pt_plain g (fun _ => rfl) all (evT_plain ok)
 | ListComp elt gens scope p => exact pt_plain g (fun _ => rfl) all (evT_plain ok)
 | Dict ks vs p => exact pt_plain g (fun _ => rfl) all (evT_plain ok)
 | Attribute a f p => exact pt_plain g (fun _ => rfl) all (evT_plain ok)
 | Call f args kws p => exact pt_plain g (fun _ => rfl) all (evT_plain ok)
 | _ => simp [compE] at h
theorem snd0:Snd T A C X cf 0 where
 e:=fun d e ir h => by simp [compE] at h
 t:=fun d e ir h => by simp [compT] at h
 an:=fun d a r p ir h => by simp [compAnd] at h
 orr:=fun d a r p ir h => by simp [compOr] at h
 a:=fun d es irs h => by simp [compA] at h
 o:=fun d e ir h => by simp [compO] at h
structure Snd2 (T:Tbl) (A:Adr) (C:Ctx) (X:Cx) (cf:Cf) (m:Nat):Prop where
 s:Snd T A C X cf m
 w:∀ d it src tg,compSrc m C it = some src -> (isPr src = true -> ∃ elts kt pt,tg = .Tuple elts kt pt) -> PI X tg it (TIW T A X.K (fun ρ hs => srcU T (ev T cf d) ρ src hs))
 c:∀ d elt gens scope p ir,compE m C (.ListComp elt gens scope p) = some ir -> CompParts X elt gens scope (TI T A X.K (ev T cf d ir))
theorem pto_of {tl:Option Expr} {t:Option E} {Y:Cx} {C':Ctx} {d:Nat} (S:Snd T A C' Y cf m) (h:compTO (m + 1) C' tl = some t):PTO Y tl (TIT T A Y.K (evTO (evT T cf d) t)):=by
 cases tl with
 | none =>
  simp only [compTO] at h
  cases h
  rintro σ H Q ⟨α,ρ,hs,u,hs',rs,R,e,q⟩
  simp only [evTO] at e
  cases e
  exact q α H Ext.refl R
 | some e =>
  simp only [compTO,Option.bind_eq_some_iff] at h
  obtain ⟨e',he,h⟩:=h
  cases h
  exact (S.t d e e' he).1
theorem tg_zipN {tg:Expr} {b:Bool} {xs:List Str} {src:Src} (ht:TgIs tg b xs) (ok:okSrc src (tgN b 0) = true):isPr src = true -> ∃ elts kt pt,tg = .Tuple elts kt pt:=by
 intro hp
 rcases ht with ⟨rfl,_⟩ | ⟨rfl,x,p,y,q,k,pt,rfl,_⟩
 ·cases src <;> first | (cases hp; done) | (cases ok; done)
 ·exact ⟨_,_,_,rfl⟩
theorem comp_parts (g:GX T A C X) (S:Snd2 T A C X cf m) (SB:∀ xs scope C0 s H fp,compOk C xs scope = true -> Snd2 T A (C.inner xs scope) (X.block xs scope C0 s H fp) cf m) (ST:∀ xs scope C0 s H fp tl t d,compOk C xs scope = true -> compTO m (C.inner xs scope) tl = some t -> PTO (X.block xs scope C0 s H fp) tl (TIT T A X.K (evTO (evT T cf d) t))) (d:Nat) (elt:Expr) (gens:List Comprehension) (scope:Scope) (p:Pos) (ir:E)
  (h:compE (m + 1) C (.ListComp elt gens scope p) = some ir):CompParts X elt gens scope (TI T A X.K (ev T cf d ir)):=by
 simp only [compE] at h
 split at h
 case h_2 => cases h
 rename_i gn hgen
 split at h
 case isFalse => cases h
 rename_i ok
 simp only [Option.bind_eq_some_iff] at h
 obtain ⟨src,hsrc,h⟩:=h
 split at h
 case isFalse => cases h
 rename_i oks
 simp only [Option.bind_eq_some_iff] at h
 obtain ⟨t,ht,el,hel,h⟩:=h
 cases h
 obtain ⟨tg,rfl,htg⟩:=genOf_some hgen
 obtain ⟨ck,gb⟩:=compOk_ok g ok
 have hn:gn.xs.length = nN gn.b:=by
  rcases htg with ⟨e,x,p,_,e'⟩ | ⟨e,x,p,y,q,k,pt,_,e'⟩ <;> rw [e,e'] <;> rfl
 cases d with
 | zero =>
  exact ⟨tg,gn.iter,gn.tl,gn.xs,nN gn.b,_,_,TIT T A X.K (evTO (evT T cf 0) t),TI T A X.K (ev T cf 0 el),rfl,ck,S.w 0 gn.iter src tg hsrc (tg_zipN htg oks),hn,(fun C0 s H fp => pg_block g ck (gb C0 s H fp) htg),(fun C0 s H fp => ST _ _ C0 s H fp _ _ 0 ok ht),(fun C0 s H fp => show PE _ elt (TI T A X.K (ev T cf 0 el)) from (SB _ scope C0 s H fp ok).s.e 0 elt el hel),noFold hsrc,fun σ H Q _ ⟨_,_,_,_,_,_,_,e,_⟩ => nomatch e⟩
 | succ d =>
  exact ⟨tg,gn.iter,gn.tl,gn.xs,nN gn.b,_,_,TIT T A X.K (evTO (evT T cf d) t),TI T A X.K (ev T cf d el),rfl,ck,S.w d gn.iter src tg hsrc (tg_zipN htg oks),hn,(fun C0 s H fp => pg_block g ck (gb C0 s H fp) htg),(fun C0 s H fp => ST _ _ C0 s H fp _ _ d ok ht),(fun C0 s H fp => show PE _ elt (TI T A X.K (ev T cf d el)) from (SB _ scope C0 s H fp ok).s.e d elt el hel),noFold hsrc,fun σ H Q hl hq => comp_core g.txt hl hq⟩
theorem snd2:∀ (m:Nat) {C:Ctx} {X:Cx},GX T A C X -> Fc X T A cf k -> Room (k + 1) X.A -> Snd2 T A C X cf m
 | 0,C,X,g,F,hr => ⟨snd0,fun d it src tg h => by simp [compSrc] at h,fun d elt gens scope p ir h => by simp [compE] at h⟩
 | 1,C,X,g,F,hr => by
  have S0:=snd2 0 g F hr
  have S:=S0.s
  have cp:=comp_parts g S0 (fun x scope C0 s H fp ok => snd2 0 ((compOk_ok g ok).2 C0 s H fp) ⟨F.ok,F.some,F.df⟩ hr) (fun xs scope C0 s H fp tl t d ok h => by simp [compTO] at h)
  refine ⟨⟨s_expr g F hr S cp,fun d e ir h => ?_,s_and S,s_or S,s_args S,s_opt S⟩,fun d it src tg h hz => s_src g S h hz,cp⟩
  cases e <;> simp [compT,compE] at h
 | m + 2,C,X,g,F,hr => by
  have S1:=snd2 (m + 1) g F hr
  have S:=S1.s
  have S':=snd2 m g F hr
  have cp:=comp_parts g S1 (fun x scope C0 s H fp ok => snd2 (m + 1) ((compOk_ok g ok).2 C0 s H fp) ⟨F.ok,F.some,F.df⟩ hr) (fun xs scope C0 s H fp tl t d ok h => pto_of (snd2 m ((compOk_ok g ok).2 C0 s H fp) ⟨F.ok,F.some,F.df⟩ hr).s h)
  refine ⟨⟨s_expr g F hr S cp,fun d e ir h => ?_,s_and S,s_or S,s_args S,s_opt S⟩,fun d it src tg h hz => s_src g S h hz,cp⟩
  have hne:∀ t a b p,e ≠ .IfExp t a b p:=by
   rintro t a b p rfl
   simp [compT] at h
  have h':((compE (m + 1) C e).bind fun ir => if okT e ir = true then some ir else none) = some ir:=by
   cases e <;> first | exact h | (simp [compT] at h; done)
  simp only [Option.bind_eq_some_iff] at h'
  obtain ⟨ir',he,h'⟩:=h'
  split at h'
  ·rename_i ok
   cases h'
   exact ⟨s_test g F hr S'.s S1.c d e ir hne ok he,S.e d e ir he⟩
  ·cases h'
end
end Iv
namespace Iv
open PySem PySem.Spec PyProof.Rows L2
section
variable {X:Cx} {T:Tbl} {A:Adr} {C:Ctx} {cf:Cf} {m k:Nat}
theorem PSfalse {st:Stmt} {t:TS} (h:∀ D σ H,¬ t D σ H):PS X st t:=fun _ _ σ H D _ q => (h D σ H q).elim
theorem PSsfalse {st:List Stmt} {t:TS} (h:∀ D σ H,¬ t D σ H):PSs X st t:=fun _ _ σ H D _ q => (h D σ H q).elim
theorem noSwap {e:Expr} {ir:E} {tg:Option Expr} {l:Nat} {env:Env} (h:compE m C e = some ir) (hn:∀ elt gens scope p,e ≠ .ListComp elt gens scope p):swapsWith e tg l env = pure false:=by
 cases e <;> first | rfl | exact absurd rfl (hn _ _ _ _) | (cases m <;> simp [compE] at h; done)
theorem noSwapA {e o:Expr} {f:Str} {p:Pos} {ir:E} {l:Nat} {env:Env} (h:compE m C e = some ir):swapsWith e (some (.Attribute o f p)) l env = pure false:=by
 cases e <;> first | rfl | (cases m <;> simp [compE] at h; done)
theorem s_tg {tg:Expr} {t:Tg} (g:GX T A C X) (fl:∀ x,X.fn x = true \/ X.env.scope.names.lookup x = some .local) (h:compTg C tg = some t):PG X tg (gT X.K t):=by
 have nm:∀ {x:Str} {p:Pos} {i:Nat},isLoc C x = true -> idx x C.N = some i -> PG X (.Name x p) (gName i):=fun {x p i} h1 h2 => pg_name g.nd (by rw [g.N]; exact idx_get h2) (loc_of g h1) (fl x)
 unfold compTg at h
 split at h
 ·split at h
  ·rename_i hl
   simp only [Option.map_eq_some_iff] at h
   obtain ⟨i,hi,rfl⟩:=h
   exact nm hl hi
  ·cases h
 ·split at h
  ·rename_i c
   simp only [Bool.and_eq_true] at c
   simp only [Option.bind_eq_some_iff,Option.map_eq_some_iff] at h
   obtain ⟨i,hi,j,hj,rfl⟩:=h
   exact pg_tup g.calm (pgs_cons (nm c.1.1 hi) (pgs_cons (nm c.1.2 hj) pgs_nil))
  ·cases h
 ·cases h
theorem noSwapT {e:Expr} {es:List Expr} {kt:Nat} {p:Pos} {ir:E} {l:Nat} {env:Env} (h:compE m C e = some ir):swapsWithSole [.Tuple es kt p] e l env = pure false:=by
 cases e <;> first | rfl | (cases m <;> simp [compE] at h; done)
theorem noTup_stores {e:Expr} {es:List Expr} {kt:Nat} {p:Pos} {env:Env} (h:notTup e = true):swappedStores [.Tuple es kt p] e env = pure none:=by
 cases e <;> first | rfl | cases h
theorem exOf_doc {e:Expr} (h:exOf e = some true):∃ x j q,e = .Constant (.str x) j q:=by
 cases e with
 | Constant c j q => cases c <;> first | exact ⟨_,_,_,rfl⟩ | cases h
 | _ => cases h
theorem asOf_one {ts:List Expr} {a:As} (h:asOf ts = some a):∃ t,ts = [t] /\ as1 t = some a:=by
 match ts,h with
 | [t],h => exact ⟨t,rfl,h⟩
theorem asOf_nm {ts:List Expr} {x:Str} (h:asOf ts = some (.nm x)):∃ p,ts = [.Name x p]:=by
 obtain ⟨t,rfl,h'⟩:=asOf_one h
 clear h
 have h:=h'
 clear h'
 unfold as1 at h
 split at h
 ·cases h; exact ⟨_,rfl⟩
 ·cases h
 ·cases h
 ·split at h
  ·unfold twoOf at h; split at h <;> cases h
  ·cases h
 ·cases h
theorem asOf_at {ts:List Expr} {o:Expr} {f:Str} (h:asOf ts = some (.at o f)):∃ p,ts = [.Attribute o f p]:=by
 obtain ⟨t,rfl,h'⟩:=asOf_one h
 clear h
 have h:=h'
 clear h'
 unfold as1 at h
 split at h
 ·cases h
 ·cases h; exact ⟨_,rfl⟩
 ·cases h
 ·split at h
  ·unfold twoOf at h; split at h <;> cases h
  ·cases h
 ·cases h
theorem asOf_two {ts:List Expr} {x y:Str} {p q:Pos} (h:asOf ts = some (.two x p y q)):∃ kt pt,ts = [.Tuple [.Name x p,.Name y q] kt pt]:=by
 obtain ⟨t,rfl,h'⟩:=asOf_one h
 clear h
 have h:=h'
 clear h'
 unfold as1 at h
 split at h
 ·cases h
 ·cases h
 ·cases h
 ·split at h
  ·unfold twoOf at h
   split at h
   ·cases h; exact ⟨_,_,rfl⟩
   ·cases h
  ·cases h
 ·cases h
theorem isLoc1_is {x:Str} (h:isLoc1 C x = true):C.names.lookup x = some .local:=by
 unfold isLoc1 at h
 split at h
 ·rename_i e; exact e
 ·cases h
theorem tg_zip {tg:Expr} {t:Tg} {src:Src} (ht:compTg C tg = some t) (ok:okSrc src t = true):isPr src = true -> ∃ elts kt pt,tg = .Tuple elts kt pt:=by
 intro hp
 cases tg with
 | Tuple elts kt pt => exact ⟨_,_,_,rfl⟩
 | Name x p =>
  simp only [compTg] at ht
  split at ht
  ·simp only [Option.map_eq_some_iff] at ht
   obtain ⟨i,_,rfl⟩:=ht
   cases src <;> first | (cases hp; done) | (cases ok; done)
  ·cases ht
 | _ => simp [compTg] at ht
structure SndS (T:Tbl) (A:Adr) (C:Ctx) (X:Cx) (cf:Cf) (m:Nat):Prop where
 s:∀ d st ir,compS m C st = some ir -> PS X st (TIS T A X.K (ex T cf d ir))
 ss:∀ d sts irs,compSs m C sts = some irs -> PSs X sts (TIS T A X.K (exs T cf d irs))
theorem no_ex {K:PySem.W.Frag} {ir:S}:∀ D σ H,¬ TIS T A K (ex T cf 0 ir) D σ H:=fun _ _ _ ⟨_,_,_,_,_,_,_,_,h,_⟩ => nomatch h
theorem no_exs {K:PySem.W.Frag} {irs:List S}:∀ D σ H,¬ TIS T A K (exs T cf 0 irs) D σ H:=fun _ _ _ ⟨_,_,_,_,_,_,_,_,h,_⟩ => nomatch h
theorem ps_cases {st:Stmt} {ir:S} {d:Nat} (h:∀ d',PS X st (TIS T A X.K (ex T cf (d' + 1) ir))):PS X st (TIS T A X.K (ex T cf d ir)):=by
 cases d with
 | zero => exact PSfalse no_ex
 | succ d => exact h d
theorem TIS.run {K:PySem.W.Frag} {α:List Addr} {ρ ρ':Rho} {σ:St} {hs h1:Hs} {H:Hp} {f:Ex} {fl:Fl} {D:Ends} (rs:RS A α ρ σ) (rp:Rep T A K α hs H) (h:f ρ hs = some (fl,ρ',h1))
  (k:∀ α1 σ1 H1,Ext α α1 H H1 -> Rep T A K α1 h1 H1 -> RS A α1 ρ' σ1 -> flE A α1 D σ1 H1 fl):TIS T A K f D σ H:=⟨α,ρ,hs,fl,ρ',h1,rs,rp,h,k⟩
theorem for_core {d:Nat} {body:List S} {w:Wk} {t:Tg} {J:It} {K:PySem.W.Frag} {D:Ends} {α0:List Addr} {H0:Hp} {σ0:St} {ρ0 ρ':Rho} {h0 hs':Hs} {fl:Fl} {n:Nat} (hK:K = X.K) (tx:Txt T A X.K X.mg) (rs0:RS A α0 ρ0 σ0) (R0:Rep T A X.K α0 h0 H0) (W0:WJ A X.K α0 J w)
  (e0:forU T w t (exs T cf d body) n 0 ρ0 h0 = some (fl,ρ',hs'))
  (q:∀ α' σ' H',Ext α0 α' H0 H' -> Rep T A X.K α' hs' H' -> RS A α' ρ' σ' -> flE A α' D σ' H' fl) :
  ∃ W:Nat -> Nat -> St -> Hp -> Prop,(∃ m,W 0 m σ0 H0) /\ ∀ i m σ H,W i m σ H -> (J.stop i H /\ D.nx σ H) \/ (J.go i H /\ ∃ N:St -> Hp -> Prop,(∀ σ' H',N σ' H' -> ∃ m',m' < m /\ W (i + 1) m' σ' H') /\
   ∀ x H',J.yld i H x H' -> gT X.K t x σ H' fun σ2 H2 => TIS T A X.K (exs T cf d body) { D with nx:=N,ct:=N,bk:=D.nx } σ2 H2):=by
 refine ⟨fun i m σ H => ∃ α ρ hs,RS A α ρ σ /\ Rep T A X.K α hs H /\ Ext α0 α H0 H /\ forU T w t (exs T cf d body) m i ρ hs = some (fl,ρ',hs'),⟨n,α0,ρ0,h0,rs0,R0,Ext.refl,e0⟩,?_⟩
 rintro i m σ H ⟨α,ρ,hs,rs,R,E,e⟩
 cases m with
 | zero => cases e
 | succ m =>
  have W:=W0.mono E.pre
  simp only [forU] at e
  split at e
  ·cases e
  ·rename_i ei
   cases e
   exact .inl ⟨itm_stop tx R W ei,q α σ H E R rs⟩
  ·rename_i x ei
   split at e
   ·cases e
   ·rename_i ρ1 et
    obtain ⟨go,yl⟩:=itm_go tx R W rs ei et
    refine .inr ⟨go,fun σ' H' => ∃ α ρ hs,RS A α ρ σ' /\ Rep T A X.K α hs H' /\ Ext α0 α H0 H' /\ forU T w t (exs T cf d body) m (i + 1) ρ hs = some (fl,ρ',hs'),fun σ' H' z => ⟨m,Nat.lt_succ_self _,z⟩,?_⟩
    intro v H' hy
    refine yl v H' _ hy fun σ2 rs2 R2 E2 => ?_
    have E02:Ext α0 α H0 H':=E.trans E2 R2.h
    split at e
    ·rename_i ρ2 h2 eb
     exact TIS.run rs2 R2 eb fun α3 σ3 H3 E3 R3 rs3 => ⟨α3,ρ2,h2,rs3,R3,E02.trans E3 R3.h,e⟩
    ·rename_i ρ2 h2 eb
     exact TIS.run rs2 R2 eb fun α3 σ3 H3 E3 R3 rs3 => ⟨α3,ρ2,h2,rs3,R3,E02.trans E3 R3.h,e⟩
    ·rename_i ρ2 h2 eb
     cases e
     exact TIS.run rs2 R2 eb fun α3 σ3 H3 E3 R3 rs3 => q α3 σ3 H3 (E02.trans E3 R3.h) R3 rs3
    ·rename_i n1 n2 n3
     cases fl with
     | next => exact absurd e (n1 _ _)
     | cont => exact absurd e (n2 _ _)
     | brk => exact absurd e (n3 _ _)
     | ret u => exact TIS.run rs2 R2 e fun α3 σ3 H3 E3 R3 rs3 => q α3 σ3 H3 (E02.trans E3 R3.h) R3 rs3
theorem while_core {d:Nat} {tir:E} {body:List S} {D:Ends} {α0:List Addr} {H0:Hp} {σ0:St} {ρ0 ρ':Rho} {h0 hs':Hs} {fl:Fl} {n:Nat} (rs0:RS A α0 ρ0 σ0) (R0:Rep T A X.K α0 h0 H0)
  (e0:whileU (evT T cf d tir) (exs T cf d body) n ρ0 h0 = some (fl,ρ',hs'))
  (q:∀ α' σ' H',Ext α0 α' H0 H' -> Rep T A X.K α' hs' H' -> RS A α' ρ' σ' -> flE A α' D σ' H' fl):tWhile (TIT T A X.K (evT T cf d tir)) (TIS T A X.K (exs T cf d body)) D σ0 H0:=by
 refine ⟨fun m σ H => ∃ α ρ hs,RS A α ρ σ /\ Rep T A X.K α hs H /\ Ext α0 α H0 H /\ whileU (evT T cf d tir) (exs T cf d body) m ρ hs = some (fl,ρ',hs'),⟨n,α0,ρ0,h0,rs0,R0,Ext.refl,e0⟩,?_⟩
 rintro m σ H ⟨α,ρ,hs,rs,R,E,e⟩
 cases m with
 | zero => cases e
 | succ m =>
  simp only [whileU] at e
  split at e
  ·cases e
  ·rename_i h1 et
   cases e
   exact TIT.run rs R et fun α1 H1 E1 R1 rs1 => q α1 σ H1 (E.trans E1 R1.h) R1 rs1
  ·rename_i h1 et
   refine TIT.run rs R et fun α1 H1 E1 R1 rs1 => ?_
   rw [if_pos rfl]
   refine ⟨fun σ' H' => ∃ α ρ hs,RS A α ρ σ' /\ Rep T A X.K α hs H' /\ Ext α0 α H0 H' /\ whileU (evT T cf d tir) (exs T cf d body) m ρ hs = some (fl,ρ',hs'),fun σ' H' z => ⟨m,Nat.lt_succ_self _,z⟩,?_⟩
   have E01:=E.trans E1 R1.h
   split at e
   ·rename_i ρ2 h2 eb
    exact TIS.run rs1 R1 eb fun α3 σ3 H3 E3 R3 rs3 => ⟨α3,ρ2,h2,rs3,R3,E01.trans E3 R3.h,e⟩
   ·rename_i ρ2 h2 eb
    exact TIS.run rs1 R1 eb fun α3 σ3 H3 E3 R3 rs3 => ⟨α3,ρ2,h2,rs3,R3,E01.trans E3 R3.h,e⟩
   ·rename_i ρ2 h2 eb
    cases e
    exact TIS.run rs1 R1 eb fun α3 σ3 H3 E3 R3 rs3 => q α3 σ3 H3 (E01.trans E3 R3.h) R3 rs3
   ·rename_i n1 n2 n3
    cases fl with
    | next => exact absurd e (n1 _ _)
    | cont => exact absurd e (n2 _ _)
    | brk => exact absurd e (n3 _ _)
    | ret u => exact TIS.run rs1 R1 e fun α3 σ3 H3 E3 R3 rs3 => q α3 σ3 H3 (E01.trans E3 R3.h) R3 rs3
theorem RF.put {α:List Addr} {x:Str} {i:Nat} {u:U} {v:V} (hk:T.fns'[i]? = some x) (nd:T.fns'.Nodup) (r:RU A α u v):∀ {fs:List (Nat × U)} {fv:List (Str × V)},RF T A α fs fv -> RF T A α (putU i u fs) (putF x v fv)
 | _,_,.nil => .cons ⟨hk,r⟩ .nil
 | _,_,.cons (a:=p) (b:=q) h t => by
  obtain ⟨pk,pu⟩:=p
  obtain ⟨qx,qv⟩:=q
  simp only [putU,putF]
  by_cases e:pk = i
  ·subst e
   have e2:qx = x:=Option.some.inj (h.1.symm.trans hk)
   subst e2
   rw [if_pos rfl,if_pos rfl]
   exact .cons ⟨hk,r⟩ t
  ·have n2:¬ qx = x:=fun z => by
    subst z
    obtain ⟨l1,q1⟩:=List.getElem?_eq_some_iff.mp hk
    obtain ⟨l2,q2⟩:=List.getElem?_eq_some_iff.mp h.1
    exact e ((List.getElem_inj nd).mp (q2.trans q1.symm))
   rw [if_neg e,if_neg n2]
   exact .cons h (RF.put hk nd r t)
theorem RF.length {α:List Addr} {fs:List (Nat × U)} {fv:List (Str × V)} (r:RF T A α fs fv):fs.length = fv.length:=Paired.length r
theorem s_stmt (g:GX T A C X) (fl:∀ x,X.fn x = true \/ X.env.scope.names.lookup x = some .local) (S2:Snd2 T A C X cf m) (SS:SndS T A C X cf m) (d:Nat) (st:Stmt) (ir:Iv.S) (h:compS (m + 1) C st = some ir):PS X st (TIS T A X.K (ex T cf d ir)):=by
 have S:=S2.s
 refine ps_cases fun d => ?_
 cases st with
 | Pass p => cases h; exact PSimp ps_pass fun D σ H ⟨α,ρ,hs,fl,ρ',hs',rs,R,e,q⟩ => by cases e; exact q α σ H Ext.refl R rs
 | Break p => cases h; exact PSimp ps_break fun D σ H ⟨α,ρ,hs,fl,ρ',hs',rs,R,e,q⟩ => by cases e; exact q α σ H Ext.refl R rs
 | Continue p => cases h; exact PSimp ps_continue fun D σ H ⟨α,ρ,hs,fl,ρ',hs',rs,R,e,q⟩ => by cases e; exact q α σ H Ext.refl R rs
 | Expr e p =>
  simp only [compS] at h
  split at h
  ·rename_i hd
   obtain ⟨x,j,q,rfl⟩:=exOf_doc hd
   cases h
   exact PSimp ps_doc fun D σ H ⟨α,ρ,hs,fl,ρ',hs',rs,R,e,q⟩ => by cases e; exact q α σ H Ext.refl R rs
  ·cases h
  ·rename_i hn
   simp only [Option.map_eq_some_iff] at h
   obtain ⟨e',he,rfl⟩:=h
   refine PSimp (ps_expr (S.e d e e' he) (noSwap he fun elt gens scope q z => by subst z; cases hn)) ?_
   rintro D σ H ⟨α,ρ,hs,fl,ρ',hs',rs,R,e,q⟩
   simp only [ex] at e
   obtain ⟨u,h1,e1,e⟩:=bd_some e
   cases e
   exact TI.run rs R e1 fun α1 x H1 E1 R1 r1 rs1 => q α1 σ H1 E1 R1 rs1
 | Return v p =>
  cases v with
  | none =>
   cases h
   exact PSimp ps_retN fun D σ H ⟨α,ρ,hs,fl,ρ',hs',rs,R,e,q⟩ => by cases e; exact q α σ H Ext.refl R rs .non rfl
  | some e =>
   simp only [compS,Option.map_eq_some_iff] at h
   obtain ⟨e',he,rfl⟩:=h
   refine PSimp (ps_ret (S.e d e e' he)) ?_
   rintro D σ H ⟨α,ρ,hs,fl,ρ',hs',rs,R,e,q⟩
   simp only [ex] at e
   obtain ⟨u,h1,e1,e⟩:=bd_some e
   cases e
   exact TI.run rs R e1 fun α1 x H1 E1 R1 r1 rs1 => q α1 σ H1 E1 R1 rs1 x r1
 | Raise x c p =>
  simp only [compS] at h
  cases h
  exact PSfalse fun D σ H ⟨_,_,_,_,_,_,_,_,e,_⟩ => by simp [ex] at e
 | AugAssign t o e p => simp [compS] at h
 | If t a b p =>
  simp only [compS,Option.bind_eq_some_iff] at h
  obtain ⟨t',ht,a',ha,b',hb,h⟩:=h
  cases h
  refine PSimp (ps_if (S.t d t t' ht).1 (SS.ss d a a' ha) (SS.ss d b b' hb)) ?_
  rintro D σ H ⟨α,ρ,hs,fl,ρ',hs',rs,R,e,q⟩
  simp only [ex] at e
  split at e
  ·rename_i h1 e1
   refine TIT.run rs R e1 fun α1 H1 E1 R1 rs1 => ?_
   rw [if_pos rfl]
   exact TIS.run rs1 R1 e fun α2 σ2 H2 E2 R2 rs2 => q α2 σ2 H2 (E1.trans E2 R2.h) R2 rs2
  ·rename_i h1 e1
   refine TIT.run rs R e1 fun α1 H1 E1 R1 rs1 => ?_
   rw [if_neg Bool.false_ne_true]
   exact TIS.run rs1 R1 e fun α2 σ2 H2 E2 R2 rs2 => q α2 σ2 H2 (E1.trans E2 R2.h) R2 rs2
  ·cases e
 | While t a b p =>
  cases b with
  | cons _ _ => simp [compS] at h
  | nil =>
   simp only [compS,Option.bind_eq_some_iff] at h
   obtain ⟨t',ht,a',ha,h⟩:=h
   cases h
   refine PSimp (ps_while (by rw [g.xe]; exact PassesOwn.never) (S.t d t t' ht).1 (SS.ss d a a' ha)) ?_
   rintro D σ H ⟨α,ρ,hs,fl,ρ',hs',rs,R,e,q⟩
   simp only [ex] at e
   exact while_core rs R e q
 | For tg it a b p =>
  cases b with
  | cons _ _ => simp [compS] at h
  | nil =>
   simp only [compS,Option.bind_eq_some_iff] at h
   obtain ⟨tg',ht,it',hi,h⟩:=h
   split at h
   case isFalse => cases h
   rename_i ok
   simp only [Option.bind_eq_some_iff] at h
   obtain ⟨a',ha,h⟩:=h
   cases h
   refine PSimp (ps_for (by rw [g.xe]; exact PassesOwn.never) g.calm (S2.w d it _ tg hi (tg_zip ht ok)) (s_tg g fl ht) (SS.ss d a a' ha) (noFold hi)) ?_
   rintro D σ H ⟨α,ρ,hs,fl,ρ',hs',rs,R,e,q⟩
   simp only [ex] at e
   obtain ⟨w,h1,e1,e⟩:=bd_some e
   refine ⟨α,ρ,hs,w,h1,rs,R,e1,fun α1 J H1 E1 R1 W1 => ?_⟩
   exact for_core rfl g.txt (rs.mono E1.pre) R1 W1 e fun α2 σ2 H2 E2 R2 rs2 => q α2 σ2 H2 (E1.trans E2 R2.h) R2 rs2
 | Assign ts e p =>
  simp only [compS] at h
  split at h
  ·rename_i x ht
   obtain ⟨px,rfl⟩:=asOf_nm ht
   split at h
   case isFalse => cases h
   rename_i hl
   simp only [Option.bind_eq_some_iff] at h
   obtain ⟨i,hi,e',he,h⟩:=h
   cases h
   have fin:∀ D σ H,TIS T A X.K (ex T cf (d + 1) (.set i e')) D σ H -> TI T A X.K (ev T cf d e') σ H fun v H1 => D.nx (σ.set i (some v)) H1:=by
    rintro D σ H ⟨α,ρ,hs,fl,ρ',hs',rs,R,e,q⟩
    simp only [ex] at e
    obtain ⟨u,h1,e1,e⟩:=bd_some e
    cases e
    exact TI.run rs R e1 fun α1 x H1 E1 R1 r1 rs1 => q α1 _ H1 E1 R1 (rs1.set i r1)
   by_cases hc:∃ elt gens scope q,e = .ListComp elt gens scope q
   ·obtain ⟨elt,gens,scope,pc,rfl⟩:=hc
    obtain ⟨tg,iter,tl,xs,n,wi,gg,tt,te,rfl,ok,hi',hn',hg',ht',he',hf,imp⟩:=S2.c d elt gens scope pc e' he
    exact fun pins s σ H D I hq => ps_comp g.calm g.nd ok hi' hn' hg' ht' he' hf (by rw [g.N]; exact idx_get hi) (loc_of g hl) (fl x) pins s σ H D I (imp σ H _ I.len (fin D σ H hq))
   ·exact PSimp (ps_set (i:=i) g.nd (by rw [g.N]; exact idx_get hi) (loc_of g hl) (S.e d e e' he) (noSwap he fun elt gens scope q z => hc ⟨elt,gens,scope,q,z⟩) (fl x)) fin
  ·rename_i o f ht
   obtain ⟨pa,rfl⟩:=asOf_at ht
   split at h
   case isFalse => cases h
   rename_i hn
   simp only [Option.bind_eq_some_iff] at h
   obtain ⟨e',he,o',ho,i,hi,h⟩:=h
   cases h
   have hk':T.fns'[i]? = some f:=by rw [<- g.CT]; exact idx_get hi
   refine PSimp (ps_fld (S.e d o o' ho) (S.e d e e' he) (noSwapA he)) ?_
   rintro D σ H ⟨α,ρ,hs,fl,ρ',hs',rs,R,e,q⟩
   simp only [ex] at e
   obtain ⟨u,h1,e1,e⟩:=bd_some e
   obtain ⟨u2,h2,e2,e⟩:=bd_some e
   refine TI.run rs R e1 fun α1 x H1 E1 R1 r1 rs1 => TI.run rs1 R1 e2 fun α2 y H2 E2 R2 r2 rs2 => ?_
   split at e
   case h_2 => cases e
   rename_i n
   split at e
   case h_2 => cases e
   rename_i c fs eo
   split at e
   case isFalse => cases e
   rename_i l
   cases e
   obtain ⟨a,ha,rfl⟩:=r2
   obtain ⟨dx,fv,q1,rf,lc⟩:=R2.h.ob n a _ ha eo
   have cl:=g.txt.cl c _ (List.getElem?_eq_getElem lc)
   refine ⟨a,A.c c,dx,fv,rfl,q1,cl.cls,cl.nf f (List.mem_of_getElem? hk'),by rw [<- RF.length rf]; omega,?_⟩
   obtain ⟨R',E'⟩:=R2.put (o:=.ins c (putU i u fs)) (ho:=.ins (A.c c) dx (putF f x fv)) ha ⟨dx,_,upd_same,RF.put hk' g.txt.fd (r1.mono E2.pre) rf,lc⟩
   exact q α2 σ _ ((E1.trans E2 R2.h).trans E' R'.h) R' rs2
  ·cases h
  ·rename_i x px y py ht
   obtain ⟨kt,pt,rfl⟩:=asOf_two ht
   split at h
   case isFalse => cases h
   rename_i c
   simp only [Bool.and_eq_true,decide_eq_true_eq] at c
   obtain ⟨⟨lx,ly⟩,nxy⟩:=c
   simp only [Option.bind_eq_some_iff] at h
   obtain ⟨i,hi,j,hj,h⟩:=h
   have kx:X.env.scope.names.lookup x = some .local:=by rw [g.sc]; exact isLoc1_is lx
   have ky:X.env.scope.names.lookup y = some .local:=by rw [g.sc]; exact isLoc1_is ly
   have ix:X.N[i]? = some x:=by rw [g.N]; exact idx_get hi
   have iy:X.N[j]? = some y:=by rw [g.N]; exact idx_get hj
   split at h
   ·cases h
   ·split at h
    case isFalse => cases h
    rename_i nt
    simp only [Option.map_eq_some_iff] at h
    obtain ⟨e',he,rfl⟩:=h
    refine PSimp (ps_asg (S.e d e e' he) (pg_tup g.calm (pgs_cons (pg_name g.nd ix (.inl kx) (.inr kx)) (pgs_cons (pg_name g.nd iy (.inl ky) (.inr ky)) pgs_nil))) (noSwapT he) (noTup_stores nt) rfl) ?_
    rintro D σ H ⟨α,ρ,hs,fl,ρ',hs',rs,R,e,q⟩
    simp only [ex] at e
    obtain ⟨u,h1,e1,e⟩:=bd_some e
    simp only [Option.map_eq_some_iff] at e
    obtain ⟨ρ2,e2,e⟩:=e
    cases e
    refine TI.run rs R e1 fun α1 v H1 E1 R1 r1 rs1 => ?_
    exact tgt_one (t:=.pair i j) R1 rs1 r1 e2 fun σ2 r2 => q α1 σ2 H1 E1 R1 r2
  ·cases h
 | _ => simp [compS] at h
theorem s_stmts (SS:SndS T A C X cf m) (d:Nat) (sts:List Stmt) (irs:List S) (h:compSs (m + 1) C sts = some irs):PSs X sts (TIS T A X.K (exs T cf d irs)):=by
 cases d with
 | zero => exact PSsfalse no_exs
 | succ d =>
  cases sts with
  | nil =>
   cases h
   exact PSsimp pss_nil fun D σ H ⟨α,ρ,hs,fl,ρ',hs',rs,R,e,q⟩ => by cases e; exact q α σ H Ext.refl R rs
  | cons st r =>
   simp only [compSs,Option.bind_eq_some_iff] at h
   obtain ⟨s',hs,r',hr,h⟩:=h
   cases h
   refine PSsimp (pss_cons (SS.s d st s' hs) (SS.ss d r r' hr)) ?_
   rintro D σ H ⟨α,ρ,hs,fl,ρ',hs',rs,R,e,q⟩
   simp only [exs] at e
   split at e
   ·rename_i ρ1 h1 e1
    exact TIS.run rs R e1 fun α1 σ1 H1 E1 R1 rs1 => TIS.run rs1 R1 e fun α2 σ2 H2 E2 R2 rs2 => q α2 σ2 H2 (E1.trans E2 R2.h) R2 rs2
   ·rename_i n1
    refine TIS.run rs R e fun α1 σ1 H1 E1 R1 rs1 => ?_
    cases fl with
    | next => exact absurd e (n1 _ _)
    | cont => exact q α1 σ1 H1 E1 R1 rs1
    | brk => exact q α1 σ1 H1 E1 R1 rs1
    | ret u => exact q α1 σ1 H1 E1 R1 rs1
theorem sndS (g:GX T A C X) (fl:∀ x,X.fn x = true \/ X.env.scope.names.lookup x = some .local) (F:Fc X T A cf k) (hr:Room (k + 1) X.A):∀ m,SndS T A C X cf m
 | 0 => ⟨fun d st ir h => by simp [compS] at h,fun d sts irs h => by simp [compSs] at h⟩
 | m + 1 => by
  have SS:=sndS g fl F hr m
  exact ⟨s_stmt g fl (snd2 m g F hr) SS,s_stmts SS⟩
end
end Iv
namespace Iv
open PySem PySem.Spec PyProof.Rows L2
structure Top (T:Tbl) (A:Adr) (K:PySem.W.Frag) (mg:Str -> Option Value) (gl:List (Str × G)) (bl:List Str):Prop where
 txt:Txt T A K mg
 gfn:∀ x i,gl.lookup x = some (.fn i) -> mg x = some (.ref (A.f i))
 gcl:∀ x i,gl.lookup x = some (.cls i) -> mg x = some (.ref (A.c i))
 gco:∀ x k,gl.lookup x = some (.con k) -> mg x = some (.ref (A.k k))
 gtx:∀ x t,gl.lookup x = some (.txt t) -> ∃ k,mg x = some (.str ⟨t.toArray⟩ k)
 blt:∀ x,¬ bl.contains x = false -> mg x = none
def Bodies (T:Tbl) (gl:List (Str × G)) (bl:List Str):Prop:=∀ (i:Nat) (F:Fn),T.fns[i]? = some F -> ∃ m,compSs m ⟨T,F.N,(defScope F.st).names,gl,bl,F.lc⟩ (defBody F.st) = some F.body
section
variable {P:Program} {w:World} {K:PySem.W.Frag} {mg:Str -> Option Value} {base:Heap} {T:Tbl} {A:Adr} {gl:List (Str × G)} {bl:List Str}
theorem start_rs {α:List Addr} {us:List U} {vs:List V} {N:List Str} {n:Nat} (r:RUs A α us vs) (hn:N.length = n):RS A α (rho0 us n) (L2.start N vs):=by
 unfold rho0 L2.start
 have l:=r.length
 refine ⟨by simp [l,hn],fun i u e => ?_⟩
 by_cases hi:i < us.length
 ·rw [List.getElem?_append_left (by simpa using hi),List.getElem?_map] at e
  rw [List.getElem?_append_left (by simpa [<- l] using hi),List.getElem?_map]
  cases q:us[i]? with
  | none => rw [q] at e; cases e
  | some x =>
   rw [q] at e
   cases e
   obtain ⟨v,h1,h2⟩:=r.get q
   exact ⟨v,by rw [h1]; rfl,h2⟩
 ·rw [List.getElem?_append_right (by simpa using Nat.le_of_not_lt hi),List.getElem?_replicate] at e
  split at e <;> cases e
theorem callF_some {n:Nat}:∀ f us hs r,callF T n f us hs = some r -> ∃ F,T.fns[f]? = some F /\ us.length = F.np:=by
 intro f us hs r h
 cases n with
 | zero => cases h
 | succ n =>
  simp only [callF] at h
  split at h
  ·cases h
  ·rename_i F e
   split at h
   ·rename_i l
    exact ⟨F,e,l⟩
   ·cases h
theorem fn_all (tp:Top T A K mg gl bl) (tab:TabOk P w T A K) (hb:Bodies T gl bl):∀ n f F,T.fns[f]? = some F -> ∃ fd,FnOk P w K mg base CX0 (2 * n) (A.f f) fd F.ps (spC T A K (callF T n) f) /\ Binds K fd F.ps [] /\ PySem.W.keepIn K (.ref (A.f f)) = true /\ FunD K F.name F.qual F.st (A.f f) fd
 | 0,f,F,hF => by
  obtain ⟨fd,fn,b,_⟩:=tp.txt.fn f F hF
  have no:∀ vs H Q E,¬ spC T A K (callF T 0) f vs H Q E:=fun vs H Q E h => by
   obtain ⟨α,us,hs,u,hs',_,_,e,_⟩:=h
   cases e
  exact ⟨fd,⟨fun vs H Q E h => absurd h (no vs H Q E),fun A outer s H args us vs Q E _ _ _ _ h => absurd h (no vs H Q E)⟩,b,fn.kp,fn⟩
 | n + 1,f,F,hF => by
  obtain ⟨fd,fn,b,sc,lp,lN⟩:=tp.txt.fn f F hF
  obtain ⟨m,hm⟩:=hb f F hF
  refine ⟨fd,?_,b,fn.kp,fn⟩
  refine fn.ok (k:=2 * n + 1) sc (fun vs H Q E h => ?_) (fun cdv A' outer s H vs Q E hr h => ?_)
  ·obtain ⟨α,us,hs,u,hs',r,_,_,⟨F',h1,h2⟩,_⟩:=h
   rw [hF] at h1
   cases h1
   rw [<- r.length,h2,lp]
  ·obtain ⟨α,us,hs,u,hs',r,R,e,_,q⟩:=h
   refine ⟨TIS T A K (exs T (callF T n) dd F.body),?_,?_⟩
   ·have gx:GX T A ⟨T,F.N,(defScope F.st).names,gl,bl,F.lc⟩ (cxOf CX0 P w K mg base F.N F.qual (defScope F.st) (A.f f) cdv A' outer s H E).nox :=
     ⟨rfl,rfl,sc.nd,rfl,rfl,sc.kind,rfl,tp.gfn,tp.gcl,tp.gco,tp.gtx,tp.blt,tp.txt,tab⟩
    have fc:Fc (cxOf CX0 P w K mg base F.N F.qual (defScope F.st) (A.f f) cdv A' outer s H E).nox T A (callF T n) (2 * n):=⟨fun f' F' h' => by
     obtain ⟨fd',G,b',kp,_⟩:=fn_all tp tab hb n f' F' h'
     exact ⟨fd',G,b',kp⟩,callF_some,fun i D F' hD h' => by
     obtain ⟨fd',G,_,kp,fn'⟩:=fn_all tp tab hb n i F' h'
     obtain ⟨fd2,x,q,st,fn2,dk,hp⟩:=tp.txt.df i D hD
     have e:=FunD.same fn2 fn'
     subst e
     rw [(hp F' h').1] at G
     exact ⟨fd2,G,kp,dk⟩⟩
    exact (sndS gx (fun _ => .inl rfl) fc hr m).ss dd (defBody F.st) F.body hm
   ·simp only [callF,hF] at e
    split at e
    case isFalse => cases e
    unfold fin at e
    split at e
    ·rename_i u' ρ' h1 e1
     cases e
     exact TIS.run (start_rs r lN) R e1 fun α1 σ1 H1 E1 R1 rs1 v rv => q α1 v H1 E1 R1 rv
    ·rename_i ρ' h1 e1
     cases e
     exact TIS.run (start_rs r lN) R e1 fun α1 σ1 H1 E1 R1 rs1 => q α1 .non H1 E1 R1 rfl
    ·cases e
end
end Iv
namespace Iv
open PySem PySem.Spec PyProof.Rows L2
inductive AllI {α:Type} (P:Nat -> α -> Prop):Nat -> List α -> Prop where
 | nil {n:Nat}:AllI P n []
 | cons {n:Nat} {a:α} {r:List α}:P n a -> AllI P (n + 1) r -> AllI P n (a :: r)
theorem AllI.get {α:Type} {P:Nat -> α -> Prop}:∀ {n:Nat} {l:List α},AllI P n l -> ∀ i a,l[i]? = some a -> P (n + i) a
 | _,_,.nil,i,a,e => by simp at e
 | n,_,.cons h t,0,a,e => by
  simp at e
  subst e
  exact h
 | n,_,.cons h t,i + 1,a,e => by
  have:=AllI.get t i a (by simpa using e)
  rw [Nat.add_assoc,Nat.add_comm 1 i] at this
  exact this
theorem AllI.mem {α:Type} {P:α -> Prop} {n:Nat} {l:List α} (h:AllI (fun _ a => P a) n l) {a:α} (m:a ∈ l):P a:=by
 obtain ⟨i,e⟩:=List.getElem?_of_mem m
 exact AllI.get h i a e
theorem AllI.look {κ β:Type} [BEq κ] [LawfulBEq κ] {P:κ -> β -> Prop} {n:Nat} {l:List (κ × β)} (h:AllI (fun _ p => P p.1 p.2) n l) {k:κ} {b:β} (e:l.lookup k = some b):P k b:=AllI.mem (P:=fun p => P p.1 p.2) h (lookup_mem e)
def gvP (A:Adr) (mg:Str -> Option Value) (x:Str):G -> Prop
 | .fn i => mg x = some (.ref (A.f i))
 | .cls i => mg x = some (.ref (A.c i))
 | .con k => mg x = some (.ref (A.k k))
 | .txt t => ∃ k,mg x = some (.str ⟨t.toArray⟩ k)
section
variable {P:Program} {w:World} {K:PySem.W.Frag} {mg:Str -> Option Value} {base:Heap} {T:Tbl} {A:Adr} {gl:List (Str × G)} {bl:List Str}
def CoOk (A:Adr) (K:PySem.W.Frag) (k:Nat) (c:Co):Prop:=match c with
 | Co.tup xs => ∃ vs,RUs A [] xs vs /\ ∀ H,SqT K H (A.k k) vs
 | Co.lst xs => ∃ vs,RUs A [] xs vs /\ ∀ H,SqL K H (A.k k) vs
 | Co.tab _ => True
theorem top_mk (fns:AllI (fun i (F:Fn) => ∃ fd,FunD K F.name F.qual F.st (A.f i) fd /\ Binds K fd F.ps [] /\ FnScope F.N F.ps (defScope F.st) /\ F.ps.length = F.np /\ F.N.length = F.nN) 0 T.fns)
  (cls:AllI (fun i C => ClOk T A K i C) 0 T.cls)
  (fm:(T.fns'.all fun x => !(T.mns.contains x)) = true) (fd:T.fns'.Nodup)
  (isi:AllI (fun _ p => PySem.W.kitOne K (tyW A p.1.1) (tyW A p.1.2) = some p.2) 0 T.isi)
  (co:AllI (CoOk A K) 0 T.cons)
  (dfs:AllI (fun _ (p:Nat × Df) => ∃ fd x q st,FunD K x q st (A.f p.1) fd /\ DfOk A K fd p.2 /\ ∀ F,T.fns[p.1]? = some F -> F.ps = p.2.ps /\ F.np = p.2.np) 0 T.dfl)
  (g:AllI (fun _ (p:Str × G) => gvP A mg p.1 p.2) 0 gl)
  (b:AllI (fun _ x => mg x = none) 0 bl):Top T A K mg gl bl where
 txt:={
  fn:=fun i F e => by simpa using fns.get i F e
  df:=fun i D e => AllI.look (P:=fun i (D:Df) => ∃ fd x q st,FunD K x q st (A.f i) fd /\ DfOk A K fd D /\ ∀ F,T.fns[i]? = some F -> F.ps = D.ps /\ F.np = D.np) dfs e
  cl:=fun i C e => by simpa using cls.get i C e
  fm:=fun x m n => by
   have:=List.all_eq_true.mp fm x m
   simp at this
   exact this n
  fd:=fd
  isi:=fun k t b e => AllI.look (P:=fun (q:Ty × Ty) b => PySem.W.kitOne K (tyW A q.1) (tyW A q.2) = some b) isi e
  co:=fun k c e => by
   have:=co.get k c e
   simp only [Nat.zero_add] at this
   exact this }
 gfn:=fun x i e => AllI.look (P:=fun x (q:G) => gvP A mg x q) g e
 gcl:=fun x i e => AllI.look (P:=fun x (q:G) => gvP A mg x q) g e
 gco:=fun x i e => AllI.look (P:=fun x (q:G) => gvP A mg x q) g e
 gtx:=fun x i e => AllI.look (P:=fun x (q:G) => gvP A mg x q) g e
 blt:=fun x h => by
  have:bl.contains x = true:=by cases q:bl.contains x with | true => rfl | false => exact absurd q h
  exact AllI.mem (P:=fun x => mg x = none) b (by simpa using this)
theorem cl_mk {i:Nat} {C:Cl} (c:Cls K (A.c i)) (nf:AllI (fun _ x => NoAttr K (A.c i) x) 0 T.fns')
  (me:AllI (fun _ (p:Nat × Nat) => ∃ x,T.mns[p.1]? = some x /\ Meth K (A.c i) x (A.f p.2)) 0 C.meths)
  (mks:PySem.W.makesIn K (A.c i) = true) (kp:PySem.W.keepIn K (.ref (A.c i)) = true)
  (ini:match C.init with
  | some f => PySem.W.findIn K (.ref (A.c i)) "__init__" = some (some (.ref (A.f f))) /\ PySem.W.isFn K (.ref (A.f f)) = true
  | none => PySem.W.findIn K (.ref (A.c i)) "__init__" = some (some (.builtin "object.__init__")))
  (ha:PySem.W.findIn K (.ref (A.c i)) "__class__" = some (some (.builtin "object.__class__")))
  (hn:PySem.W.specialIn K (.builtin "object.__class__") "__get__" = some (some (.builtin "getset_descriptor.__get__"))) (htk:PySem.W.takesIn K (.builtin "object.__class__") = some true)
  (hm:PySem.W.mroIn K (A.c i) (.type "object") = some true):ClOk T A K i C where
 cls:=c
 nf:=fun x m => AllI.mem nf m
 me:=fun m f e => AllI.look (P:=fun m f => ∃ x,T.mns[m]? = some x /\ Meth K (A.c i) x (A.f f)) me e
 mks:=mks
 kp:=kp
 ini:=ini
 ty:=fun H a dx fs e => .ins e c ha hn htk hm
theorem tab_mk {k:Addr} {o:Obj} {es:Array DictEntry} {ep:Nat} {vs:List (Key × Value)} (hk:K.lookup k = some o) (ex:o.ExactDict) (hd:o.data = .dict es ep)
  (ks:AllI (fun _ (e:DictEntry) => ∃ q:Key,keyIs q e.key = true /\ e.hash = keyH w q) 0 es.toList) (pr:Pairs (mixKind P w) es.toList vs) (nd:(vs.map (·.1)).Nodup) :
  ∀ h:Heap,K.In h -> h.DictOf (mixKind P w) k vs:=fun h X => ⟨o,es,ep,X k o hk,ex,hd,fun e m => AllI.mem (P:=fun (e:DictEntry) => ∃ q:Key,keyIs q e.key = true /\ e.hash = keyH w q) ks (by simpa using m),pr,nd⟩
theorem bodies_mk (h:AllI (fun _ (F:Fn) => compSs 100 ⟨T,F.N,(defScope F.st).names,gl,bl,F.lc⟩ (defBody F.st) = some F.body) 0 T.fns):Bodies T gl bl:=fun i F e => ⟨100,h.get i F e⟩
theorem tv {x:Str} {y:List Nat} {t:Tok} (h:x.cps.toList = y):∃ v,RU A [] (.str y) v /\ RelV v (.str x t):=by
 subst h
 exact ⟨.str x,rfl,⟨t,rfl⟩⟩
theorem tvi {i:Int} {t:Tok}:∃ v,RU A [] (.int i 0) v /\ RelV v (.int i t):=⟨.int i,⟨i,rfl,Cg.refl i 0⟩,⟨t,rfl⟩⟩
theorem co_tup {k : Nat} {xs : List U} {o : Obj} {its : Array Value} {n : Nat} (hk : K.lookup (A.k k) = some o) (hc : o.cls = .type "tuple") (hd : o.data = .seq its n) (hl : its.toList = its.toList) (hz : its.size <= sizeLine) (r : Paired (fun u v => ∃ z, RU A [] u z /\ RelV z v) xs its.toList) : CoOk A K k (.tup xs) := by
 have all:∀ {xs:List U} {l:List Value},Paired (fun u v => ∃ z,RU A [] u z /\ RelV z v) xs l -> ∃ vs,RUs A [] xs vs /\ Vals vs l:=by
  intro xs l h
  induction h with
  | nil => exact ⟨[],.nil,.nil⟩
  | cons a t ih =>
   obtain ⟨z,r1,r2⟩:=a
   obtain ⟨vs,h1,h2⟩:=ih
   exact ⟨z :: vs,.cons r1 h1,.cons r2 h2⟩
 obtain ⟨vs,h1,h2⟩:=all r
 exact ⟨vs,h1,fun H => .inr ⟨o,its,n,hk,hc,hd,hz,h2⟩⟩
def spLaw (K:PySem.W.Frag):Sp:=fun vs H Q _ => ∃ (a:Addr) (ns:List Int),vs = [.ref a] /\ SqL K H a (ns.map V.int) /\ Only H /\ ns.length <= 63 /\ ∀ H',Q (.bl true) H'
def Abs:U -> Int -> Prop:=fun u i => ∃ r m,u = .int r m /\ Cg i r m
theorem Abs.rus:∀ {s:List U} {ns:List Int},Paired Abs s ns -> RUs A [] s (ns.map V.int)
 | _,_,.nil => .nil
 | _,_,.cons (b:=i) ⟨r,m,e,c⟩ t => .cons (by subst e; exact ⟨i,rfl,c⟩) (Abs.rus t)
theorem funD_mk {x qual:Str} {st:Stmt} {f:Addr} {oc:Value} {od an:Option Addr} {osl:Array (Option Value)} {dV kV doc pm cdv ct:Value} (l:K.lookup f = some ⟨oc,od,.func (PySem.W.fnOf x qual (defArgs st) (defBody st) (defScope st) dV kV doc pm an cdv ct),osl⟩)
  (c:PySem.W.codeIn K cdv qual = true) (k:PySem.W.keepIn K (.ref f) = true):FunD K x qual st f (PySem.W.fnOf x qual (defArgs st) (defBody st) (defScope st) dV kV doc pm an cdv ct):=⟨⟨oc,od,dV,kV,doc,pm,an,cdv,ct,osl,rfl,l,c⟩,k⟩
theorem bindsD {x qual:Str} {st:Stmt} {f:Addr} {fd:FuncData} {ps:List Str} (F:FunD K x qual st f fd) (h:∀ us:List Value,us.length = ps.length -> bindArgs fd ⟨us,[]⟩ = pure (ps.zip us)):Binds K fd ps []:=.all h
theorem law_ok {tb:List U -> Tbl} {adr:Addr -> Adr} {L n:Nat} {F:Fn} {x:Str} {fd:FuncData} (hF:∀ s,(tb s).fns[L]? = some F) (hs:∀ s,(tb s).scr = s) (hps:F.ps = [x]) (hnp:F.np = 1)
  (hA:∀ a,(adr a).s = a) (hf:∀ a,(adr a).f = (adr 0).f)
  (tp:∀ s a,Top (tb s) (adr a) K mg gl bl) (tab:∀ s a,TabOk P w (tb s) (adr a) K) (hb:∀ s,Bodies (tb s) gl bl)
  (hfun:FunD K F.name F.qual F.st ((adr 0).f L) fd)
  (comp:∀ ns:List Int,ns.length <= 63 -> ∃ s hs',Paired Abs s ns /\ callF (tb s) n L [.scr] [] = some (.bl true,hs')) :
  FnOk P w K mg base CX0 (2 * n) ((adr 0).f L) fd [x] (spLaw K):=by
 refine ⟨fun vs H Q E ⟨a,ns,h,_⟩ => by rw [h]; rfl,fun A0 outer s H args us vs Q E hr e0 hbd rel ⟨a,ns,h,hS,hO,hl,q⟩ => ?_⟩
 obtain ⟨sc,hs',pr,hc⟩:=comp ns hl
 obtain ⟨fd',G,_,_,hfun'⟩:=fn_all (base:=base) (tp sc a) (tab sc a) (hb sc) n L F (hF sc)
 rw [hf a] at G hfun'
 have ef:=FunD.same hfun hfun'
 subst ef
 rw [hps] at G
 refine G.run A0 outer s H args us vs Q E hr e0 hbd rel ?_
 subst h
 refine ⟨[],[.scr],[],.bl true,hs',.cons (show V.ref a = V.ref (adr a).s by rw [hA]) .nil,⟨⟨rfl,.nil,fun n b o e _ => by simp at e⟩,ns.map V.int,by rw [hs]; exact Abs.rus pr,?_⟩,hc,⟨F,hF sc,hnp.symm⟩,fun α' v H' _ _ rv => ?_⟩
 ·rw [hA]
  rcases hS with (h | ⟨o,h⟩) | h
  ·rcases hO a with z | ⟨o,xs,z⟩
   ·rw [h] at z; cases z
   ·rw [h] at z; cases z
  ·exact .inl ⟨o,h⟩
  ·exact .inr h
 ·have:v = .bl true:=rv
  subst this
  exact q H'
end
end Iv
namespace Iv
open PySem PySem.W PySem.Spec PyProof.Rows
noncomputable def topRunT (tb:String -> Option Builtin) (p:Program) (w:World) (n₀:Nat) (ann:Option Value):Nat -> SharedT -> Thread -> Option SharedT
 | 0,_,_ => none
 | n + 1,s,t => match through t with
  | true => some s
  | false => match stepOk n₀ ann t with
   | false => none
   | true => match stepT (denote tb) p w s t with
    | some (s',t') => topRunT tb p w n₀ ann n s' t'
    | none => none
theorem topRun_of {tb:String -> Option Builtin} {p:Program} {w:World} {n₀:Nat} {ann:Option Value}:∀ {n:Nat} {s s':SharedT} {t:Thread},topRunT tb p w n₀ ann n s t = some s' -> topRun tb p w n₀ ann n s.abs t = some s'.abs
 | 0,_,_,_,h => by cases h
 | n + 1,s,s',t,h => by
  unfold topRunT at h
  unfold topRun
  cases he:through t with
  | true => rw [he] at h; cases h; rfl
  | false =>
   rw [he] at h
   cases hk:stepOk n₀ ann t with
   | false => rw [hk] at h; cases h
   | true =>
    rw [hk] at h
    cases hs:stepT (denote tb) p w s t with
    | none => rw [hs] at h; cases h
    | some r => obtain ⟨s₂,t₂⟩:=r; rw [hs] at h; rw [stepT_spec hs]; exact topRun_of h
structure BootT where
 t:Params -> BT
 n:Nat
 life:Life
noncomputable def BootT.at (B:BootT) (w:World) (os:OsState):SharedT:=⟨B.t w.params,B.n,B.life,Array.mk [],boot_drawn,boot_toks,os⟩
abbrev RunT (p q:Program) (loose:List Str) (Xt:Shared -> Bool) {α:Type} (Yf:Shared -> α) (Ya:World -> α) (N:Nat) (g0:Bool) (B:BootT) (m₀:Nat) (ann:Option Value) (w:World):Prop :=
 ∀ os:OsState,(topRunT treeTable p w m₀ ann N (B.at w os) (topStub p)).map (fun s => ((staticsOk (importedModules p.main.body) (boot_heap w.params) s.abs.heap && namesBound p s.abs.heap && gensDone s.abs && laidKept (boot_heap w.params) s.abs.heap),openSeen q loose (importedModules p.main.body) Xt g0 s.abs,Yf s.abs)) = some (true,openGood q loose,Ya w)
theorem left_tree {p q:Program} {loose:List Str} {Xt:Shared -> Bool} {α:Type} {Yf:Shared -> α} {Ya:World -> α} {N:Nat} {g0:Bool} {B:BootT} {m₀:Nat} {ann:Option Value}
  (op:opening p = plainProg p.main.scope.names) (hN:Nat.ble 600 N = true) (fm:∀ s,fenceModules? p s = some s)
  (hB:∀ w:World,absHeap (B.t w.params) B.n B.life = boot_heap w.params)
  (size:∀ w:World,((boot_heap w.params).isNs mainGlobals,(boot_heap w.params).objs.size,(boot_heap w.params).nsMap mainGlobals "__annotations__") = (true,m₀,ann))
  (run:∀ w,RunT p q loose Xt Yf Ya N g0 B m₀ ann w):LeftO p q loose Xt Yf Ya N g0:=fun w => by
 obtain ⟨⟨h,gs,d,k,os⟩,e,e'⟩:=Option.map_eq_some_iff.mp (boot_open (N:=N) op hN fm w)
 obtain ⟨rfl,rfl,rfl,rfl⟩:h = boot_heap w.params /\ gs = Array.mk [] /\ d = boot_drawn /\ k = boot_toks:=by simpa using e'
 obtain ⟨z1,z2,z3⟩:_ /\ _ /\ _:=by simpa only [Prod.mk.injEq] using size w
 obtain ⟨s1,r,l⟩:=Option.map_eq_some_iff.mp (run w os)
 obtain ⟨l1,l2,l3⟩:_ /\ _ /\ _:=by simpa only [Prod.mk.injEq] using l
 have r:=topRun_of r
 have ab:(B.at w os).abs = ⟨boot_heap w.params,Array.mk [],boot_drawn,boot_toks,os⟩:=by
  unfold BootT.at SharedT.abs
  rw [hB w]
 rw [ab] at r
 have t:topFrom treeTable p w N ⟨boot_heap w.params,Array.mk [],boot_drawn,boot_toks,os⟩ = some s1.abs:=by
  unfold topFrom
  dsimp only
  rw [z1,z2,z3,r]
  show (match staticsOk (importedModules p.main.body) (boot_heap w.params) s1.abs.heap && namesBound p s1.abs.heap && gensDone s1.abs && laidKept (boot_heap w.params) s1.abs.heap with | true => _ | false => _) = _
  rw [l1]
 unfold openEnds
 rw [e]
 show (topFrom treeTable p w N _).map _ = _
 rw [t]
 exact congrArg some (Prod.ext l2 l3)
theorem run_and {σ α β:Type} {x:Option σ} {f:σ -> α} {g:σ -> β} {a:α} {b:β} (h1:x.map f = some a) (h2:x.map g = some b):x.map (fun s => (f s,g s)) = some (a,b):=by
 cases x with
 | none => cases h1
 | some s => cases h1; cases h2; rfl
section
variable (p q:Program) (loose:List Str) (Xt:Shared -> Bool) (N:Nat) (g0:Bool) (B:BootT) (m₀:Nat) (ann:Option Value)
noncomputable abbrev TopT (w:World) (os:OsState):Option SharedT:=topRunT treeTable p w m₀ ann N (B.at w os) (topStub p)
def PA (w:World):Prop:=∀ os:OsState,(TopT p N B m₀ ann w os).map (fun s => (staticsOk (importedModules p.main.body) (boot_heap w.params) s.abs.heap && namesBound p s.abs.heap && gensDone s.abs && laidKept (boot_heap w.params) s.abs.heap)) = some true
abbrev PC (as:List Addr) (bs:List (Option Obj)) (w:World):Prop:=∀ os:OsState,(TopT p N B m₀ ann w os).map (fun s => as.map fun a => s.abs.heap.get? a) = some bs
variable {p q loose Xt N g0 B m₀ ann}
abbrev PL (p q:Program) (loose:List Str) (Xt:Shared -> Bool) (N:Nat) (g0:Bool) (B:BootT) (m₀:Nat) (ann:Option Value) (w:World):Prop:=∀ os:OsState,(TopT p N B m₀ ann w os).map (fun s => ((staticsOk (importedModules p.main.body) (boot_heap w.params) s.abs.heap && namesBound p s.abs.heap && gensDone s.abs && laidKept (boot_heap w.params) s.abs.heap),openSeen q loose (importedModules p.main.body) Xt g0 s.abs)) = some (true,openGood q loose)
end
abbrev PX (p:Program) (N:Nat) (B:BootT) (m₀:Nat) (ann:Option Value) {α:Type} (f:Shared -> α) (a:α) (w:World):Prop:=∀ os:OsState,(TopT p N B m₀ ann w os).map (fun s => f s.abs) = some a
abbrev f1 (q:Program) (s:Shared):=seen ((recsOf q).map (·.name)) (ownsOf q) [] { s with gens:=#[] }
abbrev f2 (s:Shared):=s.heap.bltView
abbrev f3 (q:Program) (loose:List Str) (s:Shared):Bool:=s.heap.keysOk (looseW q loose) ((recsOf q).map (·.name)) ((litsOf q).map (·.1)) ((clssOf q (looseW q loose)).map (·.name))
abbrev f4 (q:Program) (mods:List Str) (Xt:Shared -> Bool) (g0:Bool) (s:Shared):Bool:=s.heap.accountedOkI mods && s.heap.isNs mainGlobals && s.heap.isNs builtinsNs && tablesOk q s.heap && Xt s && (if g0 then s.gens.size == 0 else !leftWithCleanup s.gens)
abbrev f5 (q:Program) (s:Shared):Bool:=tabsOk q s
abbrev f6 (q:Program) (loose:List Str) (s:Shared):=(pinSeenD q (drecsOf q) s,plainSeenE q (looseW q loose) s,plainSeenD q loose s)
abbrev f7 (q:Program) (loose:List Str) (s:Shared):=(wideSeen q s,clsSeenW q loose s)
theorem run_open {q:Program} {loose mods:List Str} {Xt:Shared -> Bool} {g0:Bool} {x:Option SharedT} (y1:x.map (fun s => f1 q s.abs) = some (expectedOf q)) (y2:x.map (fun s => f2 s.abs) = some bltViewBooted) (y3:x.map (fun s => f3 q loose s.abs) = some true)
  (y4:x.map (fun s => f4 q mods Xt g0 s.abs) = some true) (y5:x.map (fun s => f5 q s.abs) = some true) (y6:x.map (fun s => f6 q loose s.abs) = some (pinGoodD (drecsOf q),plainGoodE q (looseW q loose),plainGoodD q loose))
  (y7:x.map (fun s => f7 q loose s.abs) = some (wideGood q,clsGoodW q loose)):x.map (fun s => openSeen q loose mods Xt g0 s.abs) = some (openGood q loose):=by
 cases x with
 | none => cases y1
 | some s =>
  have z1:=Option.some.inj y1
  have z2:=Option.some.inj y2
  have z3:=Option.some.inj y3
  have z4:=Option.some.inj y4
  have z5:=Option.some.inj y5
  have z6:=Prod.ext_iff.mp (Option.some.inj y6)
  have z6b:=Prod.ext_iff.mp z6.2
  have z7:=Prod.ext_iff.mp (Option.some.inj y7)
  simp only [f4,Bool.and_eq_true] at z4
  obtain ⟨⟨⟨⟨⟨w1,w2⟩,w3⟩,w4⟩,w5⟩,w6⟩:=z4
  have z3':s.abs.heap.keysOk (looseW q loose) ((recsOf q).map (·.name)) ((litsOf q).map (·.1)) ((clssOf q (looseW q loose)).map (·.name)) = true:=z3
  show some (openSeen q loose mods Xt g0 s.abs) = some (openGood q loose)
  unfold openSeen openGood
  refine congrArg some (Prod.ext z1 (Prod.ext z2 (Prod.ext ?_ (Prod.ext z5 (Prod.ext z6.1 (Prod.ext z6b.1 (Prod.ext z6b.2 (Prod.ext z7.1 z7.2))))))))
  show (s.abs.heap.keysOk (looseW q loose) ((recsOf q).map (·.name)) ((litsOf q).map (·.1)) ((clssOf q (looseW q loose)).map (·.name)) && s.abs.heap.accountedOkI mods && s.abs.heap.isNs mainGlobals && s.abs.heap.isNs builtinsNs && tablesOk q s.abs.heap && Xt s.abs && (if g0 then s.abs.gens.size == 0 else !leftWithCleanup s.abs.gens)) = true
  rw [z3',w1,w2,w3,w4,w5]
  exact w6
theorem parts_all {p q:Program} {loose:List Str} {Xt:Shared -> Bool} {N:Nat} {g0:Bool} {B:BootT} {m₀:Nat} {ann:Option Value} {as:List Addr} {Ya:World -> List (Option Obj)} {w:World} (a:PA p N B m₀ ann w)
  (x1:PX p N B m₀ ann (f1 q) (expectedOf q) w) (x2:PX p N B m₀ ann f2 bltViewBooted w) (x3:PX p N B m₀ ann (f3 q loose) true w) (x4:PX p N B m₀ ann (f4 q (importedModules p.main.body) Xt g0) true w) (x5:PX p N B m₀ ann (f5 q) true w)
  (x6:PX p N B m₀ ann (f6 q loose) (pinGoodD (drecsOf q),plainGoodE q (looseW q loose),plainGoodD q loose) w) (x7:PX p N B m₀ ann (f7 q loose) (wideGood q,clsGoodW q loose) w)
  (c:PC p N B m₀ ann as (Ya w) w):RunT p q loose Xt (fun s => as.map s.heap.get?) Ya N g0 B m₀ ann w:=fun os => run_and (a os) (run_and (run_open (x1 os) (x2 os) (x3 os) (x4 os) (x5 os) (x6 os) (x7 os)) (c os))
theorem run_l {σ α β:Type} {x:Option σ} {f:σ -> α} {g:σ -> β} {a:α} {b:β} (h:x.map (fun s => (f s,g s)) = some (a,b)):x.map f = some a:=by
 cases x with
 | none => cases h
 | some s => exact congrArg some (Prod.ext_iff.mp (Option.some.inj h)).1
theorem run_r {σ α β:Type} {x:Option σ} {f:σ -> α} {g:σ -> β} {a:α} {b:β} (h:x.map (fun s => (f s,g s)) = some (a,b)):x.map g = some b:=by
 cases x with
 | none => cases h
 | some s => exact congrArg some (Prod.ext_iff.mp (Option.some.inj h)).2
noncomputable abbrev fA (p:Program) (w:World) (s:Shared):Bool:=staticsOk (importedModules p.main.body) (boot_heap w.params) s.heap && namesBound p s.heap && gensDone s && laidKept (boot_heap w.params) s.heap
noncomputable abbrev Lk1 (p q:Program) (N:Nat) (B:BootT) (m₀:Nat) (ann:Option Value) (w:World):Prop:=PX p N B m₀ ann (fun s => (fA p w s,f1 q s,f2 s)) (true,expectedOf q,bltViewBooted) w
abbrev Lk2 (p q:Program) (loose:List Str) (Xt:Shared -> Bool) (N:Nat) (g0:Bool) (B:BootT) (m₀:Nat) (ann:Option Value) (w:World):Prop:=PX p N B m₀ ann (fun s => (f3 q loose s,f4 q (importedModules p.main.body) Xt g0 s,f5 q s,f6 q loose s,f7 q loose s)) (true,true,true,(pinGoodD (drecsOf q),plainGoodE q (looseW q loose),plainGoodD q loose),(wideGood q,clsGoodW q loose)) w
noncomputable abbrev Lk3 (p q:Program) (loose:List Str) (N:Nat) (B:BootT) (m₀:Nat) (ann:Option Value) (w:World):Prop:=PX p N B m₀ ann (fun s => (f3 q loose s,f5 q s)) (true,true) w
noncomputable abbrev Lk5 (p q:Program) (Xt:Shared -> Bool) (N:Nat) (g0:Bool) (B:BootT) (m₀:Nat) (ann:Option Value) (w:World):Prop:=PX p N B m₀ ann (f4 q (importedModules p.main.body) Xt g0) true w
noncomputable abbrev Lk4 (p q:Program) (loose:List Str) (N:Nat) (B:BootT) (m₀:Nat) (ann:Option Value) (w:World):Prop:=PX p N B m₀ ann (fun s => (f6 q loose s,f7 q loose s)) ((pinGoodD (drecsOf q),plainGoodE q (looseW q loose),plainGoodD q loose),(wideGood q,clsGoodW q loose)) w
theorem parts_four {p q:Program} {loose:List Str} {Xt:Shared -> Bool} {N:Nat} {g0:Bool} {B:BootT} {m₀:Nat} {ann:Option Value} {as:List Addr} {Ya:World -> List (Option Obj)} {w:World} (l1:Lk1 p q N B m₀ ann w) (l3:Lk3 p q loose N B m₀ ann w) (l5:Lk5 p q Xt N g0 B m₀ ann w) (l4:Lk4 p q loose N B m₀ ann w)
  (c:PC p N B m₀ ann as (Ya w) w):RunT p q loose Xt (fun s => as.map s.heap.get?) Ya N g0 B m₀ ann w :=
 parts_all (fun os => run_l (l1 os)) (fun os => run_l (run_r (l1 os))) (fun os => run_r (run_r (l1 os))) (fun os => run_l (l3 os)) l5 (fun os => run_r (l3 os)) (fun os => run_l (l4 os)) (fun os => run_r (l4 os)) c
end Iv
namespace Iv
open PySem
section
variable {T:Tbl} {cf:Cf} {d:Nat} {ρ:Rho} {hs h1:Hs} {α β:Type}
theorem y_bd {a:α} {f:α -> Hs -> Option β}:bd (some (a,h1)) f = f a h1:=rfl
theorem y_nil:exs T cf (d + 1) [] ρ hs = some (.next,ρ,hs):=by rw [exs]
theorem y_cons {s:S} {r:List S}:exs T cf (d + 1) (s :: r) ρ hs = (match ex T cf d s ρ hs with
   | some (.next,ρ1,h1) => exs T cf d r ρ1 h1
   | x => x):=by rw [exs] <;> rfl
theorem y_expr {e:E}:ex T cf (d + 1) (.expr e) ρ hs = bd (ev T cf d e ρ hs) fun _ h1 => some (.next,ρ,h1):=by rw [ex]
theorem y_set {i:Nat} {e:E}:ex T cf (d + 1) (.set i e) ρ hs = bd (ev T cf d e ρ hs) fun u h1 => some (.next,ρ.set i (some u),h1):=by rw [ex]
theorem y_ret {e:E}:ex T cf (d + 1) (.ret e) ρ hs = bd (ev T cf d e ρ hs) fun u h1 => some (.ret u,ρ,h1):=by rw [ex]
theorem y_ite {t:E} {a b:List S}:ex T cf (d + 1) (.ite t a b) ρ hs = bd (evT T cf d t ρ hs) fun c h1 => if c = true then exs T cf d a ρ h1 else exs T cf d b ρ h1:=by
 rw [ex]
 cases h:evT T cf d t ρ hs with
 | none => rfl
 | some p => obtain ⟨c,h1⟩:=p; cases c <;> rfl
theorem y_loop {t:Tg} {s:Src} {body:List S}:ex T cf (d + 1) (.loop t s body) ρ hs = bd (srcU T (ev T cf d) ρ s hs) fun w h1 => forU T w t (exs T cf d body) (turns T w h1) 0 ρ h1:=by rw [ex]
theorem y_put {o i e:E}:ex T cf (d + 1) (.put o i e) ρ hs = bd (ev T cf d e ρ hs) fun u h1 => bd (ev T cf d o ρ h1) fun x h2 => bd (ev T cf d i ρ h2) fun k h3 => (putI x k u h3).map fun h4 => (.next,ρ,h4):=by rw [ex]
theorem y_c {u:U}:ev T cf (d + 1) (.c u) ρ hs = some (u,hs):=by rw [ev]
theorem y_con {k:Nat}:ev T cf (d + 1) (.con k) ρ hs = some (.con k,hs):=by rw [ev]
theorem y_var {i:Nat}:ev T cf (d + 1) (.var i) ρ hs = (match ρ[i]? with | some (some u) => some (u,hs) | _ => none):=by rw [ev] <;> rfl
theorem y_op {o:Operator} {a b:E}:ev T cf (d + 1) (.op o a b) ρ hs = bd (ev T cf d a ρ hs) fun u h1 => bd (ev T cf d b ρ h1) fun w h2 => opU o u w h2:=by rw [ev]
theorem y_neg {a:E}:ev T cf (d + 1) (.neg a) ρ hs = bd (ev T cf d a ρ hs) fun u h1 => (match u with | .int i m => some (.int (-i) m,h1) | _ => none):=by rw [ev] <;> rfl
theorem y_cmp {o:CmpOp} {a b:E}:ev T cf (d + 1) (.cmp o a b) ρ hs = bd (ev T cf d a ρ hs) fun u h1 => bd (ev T cf d b ρ h1) fun w h2 => (cmpU T o u w h2).map fun c => (.bl c,h2):=by rw [ev]
theorem y_not {a:E}:ev T cf (d + 1) (.not a) ρ hs = bd (ev T cf d a ρ hs) fun u h1 => (truU T u h1).map fun c => (.bl (!c),h1):=by rw [ev]
theorem y_ife {t a b:E}:ev T cf (d + 1) (.ife t a b) ρ hs = bd (evT T cf d t ρ hs) fun c h1 => if c = true then ev T cf d a ρ h1 else ev T cf d b ρ h1:=by rw [ev]
theorem y_tup {es:List E}:ev T cf (d + 1) (.tup es) ρ hs = bd (evs (ev T cf d) ρ es hs) fun us h1 => some (.ref h1.length,h1 ++ [.tup us]):=by rw [ev]
theorem y_lst {es:List E}:ev T cf (d + 1) (.lst es) ρ hs = bd (evs (ev T cf d) ρ es hs) fun us h1 => some (.ref h1.length,h1 ++ [.lst us]):=by rw [ev]
theorem y_ix {a b:E}:ev T cf (d + 1) (.ix a b) ρ hs = bd (ev T cf d a ρ hs) fun u h1 => bd (ev T cf d b ρ h1) fun w h2 => (subU T u w h2).map fun x => (x,h2):=by rw [ev]
theorem y_sl {a:E} {lo hi:Option E}:ev T cf (d + 1) (.sl a lo hi) ρ hs = bd (ev T cf d a ρ hs) fun u h1 => bd (evO (ev T cf d) ρ lo h1) fun l h2 => bd (evO (ev T cf d) ρ hi h2) fun r h3 => slU T u l r h3:=by rw [ev]
theorem y_call {f:Nat} {es:List E}:ev T cf (d + 1) (.call f es) ρ hs = bd (evs (ev T cf d) ρ es hs) fun us h1 => cf f us h1:=by rw [ev]
theorem y_bi {b:Bi} {es:List E}:ev T cf (d + 1) (.bi b es) ρ hs = bd (evs (ev T cf d) ρ es hs) fun us h1 => biU T b us h1:=by rw [ev]
theorem y_isi {a:E} {t:Ty}:ev T cf (d + 1) (.isi a t) ρ hs = bd (ev T cf d a ρ hs) fun u h1 => (isiU T t u h1).map fun b => (.bl b,h1):=by rw [ev]
theorem y_bm {b:Bm} {o:E} {es:List E}:ev T cf (d + 1) (.bm b o es) ρ hs = bd (ev T cf d o ρ hs) fun u h1 => if rcvU b u h1 = true then bd (evs (ev T cf d) ρ es h1) fun us h2 => bmU T b u us h2 else none:=by rw [ev]
theorem y_comp {s:Src} {b:Bool} {t:Option E} {el:E}:ev T cf (d + 1) (.comp s b t el) ρ hs = bd (srcU T (ev T cf d) ρ s hs) fun w h1 => bd (compU T (ev T cf d) (evTO (evT T cf d) t) w b el ρ (turns T w h1) 0 [] h1) fun us h2 => some (.ref h2.length,h2 ++ [.lst us]):=by rw [ev]
theorem y_chain {o o':CmpOp} {a b c:E}:ev T cf (d + 1) (.chain o o' a b c) ρ hs = bd (ev T cf d a ρ hs) fun u h1 => bd (ev T cf d b ρ h1) fun w h2 => (match cmpU T o u w h2 with
   | some true => bd (ev T cf d c ρ h2) fun x h3 => (cmpU T o' w x h3).map fun k => (.bl k,h3)
   | some false => some (.bl false,h2)
   | none => none):=by rw [ev] <;> rfl
theorem y_and {a b:E}:ev T cf (d + 1) (.and a b) ρ hs = bd (ev T cf d a ρ hs) fun u h1 => (match u with | .bl true => ev T cf d b ρ h1 | .bl false => some (.bl false,h1) | _ => none):=by rw [ev] <;> rfl
theorem y_or {a b:E}:ev T cf (d + 1) (.or a b) ρ hs = bd (ev T cf d a ρ hs) fun u h1 => (match u with | .bl true => some (.bl true,h1) | .bl false => ev T cf d b ρ h1 | _ => none):=by rw [ev] <;> rfl
theorem y_aug {i:Nat} {o:Operator} {e:E}:ex T cf (d + 1) (.aug i o e) ρ hs = (match ρ[i]? with
   | some (some u) => bd (ev T cf d e ρ hs) fun w h1 => (augU o u w).map fun r => (.next,ρ.set i (some r),h1)
   | _ => none):=by rw [ex] <;> rfl
theorem y_unp {i j:Nat} {e:E}:ex T cf (d + 1) (.unp i j e) ρ hs = bd (ev T cf d e ρ hs) fun u h1 => (tgt (.pair i j) (.one u) ρ h1).map fun ρ' => (.next,ρ',h1):=by rw [ex]
theorem y_par {i j:Nat} {a b:E}:ex T cf (d + 1) (.par i j a b) ρ hs = bd (ev T cf d a ρ hs) fun u h1 => bd (ev T cf d b ρ h1) fun w h2 => some (.next,(ρ.set i (some u)).set j (some w),h2):=by rw [ex]
theorem y_dnew:ev T cf (d + 1) .dnew ρ hs = some (.ref hs.length,hs ++ [.dic []]):=by rw [ev]
theorem y_Tnot {a:E}:evT T cf (d + 1) (.not a) ρ hs = bd (evT T cf d a ρ hs) fun c h1 => some (!c,h1):=by rw [evT]
theorem y_Tand {a b:E}:evT T cf (d + 1) (.and a b) ρ hs = bd (evT T cf d a ρ hs) fun c h1 => if c = true then evT T cf d b ρ h1 else some (false,h1):=by rw [evT]
theorem y_Tor {a b:E}:evT T cf (d + 1) (.or a b) ρ hs = bd (evT T cf d a ρ hs) fun c h1 => if c = true then some (true,h1) else evT T cf d b ρ h1:=by rw [evT]
theorem y_Tcmp {o:CmpOp} {a b:E}:evT T cf (d + 1) (.cmp o a b) ρ hs = bd (ev T cf d (.cmp o a b) ρ hs) fun u h1 => (truU T u h1).map fun c => (c,h1):=by rw [evT] <;> simp
theorem y_Tvar {i:Nat}:evT T cf (d + 1) (.var i) ρ hs = bd (ev T cf d (.var i) ρ hs) fun u h1 => (truU T u h1).map fun c => (c,h1):=by rw [evT] <;> simp
theorem y_Tisi {a:E} {t:Ty}:evT T cf (d + 1) (.isi a t) ρ hs = bd (ev T cf d (.isi a t) ρ hs) fun u h1 => (truU T u h1).map fun c => (c,h1):=by rw [evT] <;> simp
theorem y_Tcall {f:Nat} {es:List E}:evT T cf (d + 1) (.call f es) ρ hs = bd (ev T cf d (.call f es) ρ hs) fun u h1 => (truU T u h1).map fun c => (c,h1):=by rw [evT] <;> simp
theorem y_rngA {f:Ev} {es:List E} {i j c:Int} (h:evs f ρ es hs = some ([.int i 0,.int j 0,.int c 0],h1)) (c1:(small64 (i * 16) && small64 (j * 16) && decide (0 < c) && decide (c < 1073741824)) = true):srcU T f ρ (.rngA es) hs = some (.rngC i c (rngCU i j c),h1):=by
 simp only [srcU,h,y_bd,c1,if_true]
theorem y_callF {n f:Nat} {us:List U} (F:Fn) (hF:T.fns[f]? = some F) (hl:us.length = F.np):callF T (n + 1) f us hs = fin (exs T (callF T n) dd F.body (rho0 us F.nN) hs):=by simp [callF,hF,hl]
end
end Iv
namespace K44
open PySem Iv L2
def top (i:Nat):Stmt:=PySem.Challenge.pw_stitchroom_k44_whole_fewest_words.main.body.getD i (.Pass ⟨0,0,0,0⟩)
def fldN:List Str:=["side","many","way","first","second","keeper"]
def mthN:List Str:=["ties","ends","takes","gives","mark","mirrored","turned"]
def glo:List (Str × G):=([("plain_sum",.fn 0),("words",.fn 1),("fewest",.fn 2),("shortest",.fn 3),("fewest_of_stretch",.fn 4),("words_of_cut",.fn 5),("lengths_once",.fn 6),("comes_again",.fn 7),("told_stretch",.fn 8),("KEEPERS",.con 0),("SIDE_SIGNS",.con 1),("CROSS_SIGNS",.con 2),("Stitch",.cls 0),("Plain",.cls 1),("Slip",.cls 2),("Over",.cls 3),("Lean",.cls 4),("Grow",.cls 5),("Cross",.cls 6),("Off",.cls 7)]:List (Str × G)) ++ ([("Keep",.cls 8),("Fetch",.cls 9),("SIDES",.con 3),("CROSS_SIDES",.con 4),("LEAN_WAYS",.con 5),("CROSS_WAYS",.con 6),("MANY",.con 7),("CROSSED",.con 8),("stitch",.fn 24),("stitch_of_text",.fn 25),("bare_stitch",.fn 26),("keeper_stitch",.fn 27),("sided_stitch",.fn 28),("crossing",.fn 29),("_law_cell_at",.fn 30),("_law_whole",.fn 31),("_law_mark",.fn 32),("_law_near",.fn 33),("_law_menu",.fn 34),("_law_parts",.fn 35)]:List (Str × G)) ++ ([("_law_formed",.fn 36),("_law_unrolled",.fn 37),("_law_asked_so",.fn 38),("_law_wide",.fn 39),("law",.fn 40)]:List (Str × G))
def bltN:List Str:=["len","int","str","tuple","list","bool","isinstance","range","sum","max","min","abs"]
def conL:List Co:=[.tup [.str [119],.str [120],.str [121],.str [122]],.tab [(.int 1 0,.str [107]),(.int (-1) 0,.str [112])],.tab [(.int 1 0,.str [99]),(.int (-1) 0,.str [113])],.tab [(.str [107],.int 1 0),(.str [112],.int (-1) 0)],.tab [(.str [99],.int 1 0),(.str [113],.int (-1) 0)],.tup [.str [114],.str [108]],.tup [.str [102],.str [98]],.tab [(.str [50],.int 2 0),(.str [51],.int 3 0),(.str [52],.int 4 0)],.tab [(.str [49],.int 1 0),(.str [50],.int 2 0),(.str [51],.int 3 0),(.str [52],.int 4 0)]]
def clsL:List Cl:=[⟨"Stitch",none,[],[0]⟩,⟨"Plain",some 9,[(4,10)],[1,0]⟩,⟨"Slip",none,[(4,11)],[2,0]⟩,⟨"Over",none,[(4,12)],[3,0]⟩,⟨"Lean",some 13,[(4,14)],[4,0]⟩,⟨"Grow",some 15,[(4,16)],[5,0]⟩,⟨"Cross",some 17,[(4,18)],[6,0]⟩,⟨"Off",none,[(4,19)],[7,0]⟩,⟨"Keep",some 20,[(4,21)],[8,0]⟩,⟨"Fetch",some 22,[(4,23)],[9,0]⟩]
def isiL:List ((Ty × Ty) × Bool):=[((.cls 0,.cls 0),true),((.cls 1,.cls 0),true),((.cls 2,.cls 0),true),((.cls 3,.cls 0),true),((.cls 4,.cls 0),true),((.cls 5,.cls 0),true),((.cls 6,.cls 0),true),((.cls 7,.cls 0),true),((.cls 8,.cls 0),true),((.cls 9,.cls 0),true)]
abbrev st0:Stmt:=top 5
def N0:List Str:=["number"]
abbrev st1:Stmt:=top 7
def N1:List Str:=["parts"]
abbrev st2:Stmt:=top 8
def N2:List Str:=["stitches","marks","table","length","start"]
abbrev st3:Stmt:=top 9
def N3:List Str:=["stitches","marks"]
abbrev st4:Stmt:=top 10
def N4:List Str:=["marks","table","start","length","cut","repeats"]
abbrev st5:Stmt:=top 11
def N5:List Str:=["table","start","length","first"]
abbrev st6:Stmt:=top 12
def N6:List Str:=["marks","start","length"]
abbrev st7:Stmt:=top 13
def N7:List Str:=["marks","start","length","once","end"]
abbrev st8:Stmt:=top 14
def N8:List Str:=["stitches","marks","table","start","length","least","first","ahead","repeats"]
abbrev st9:Stmt:=inClass (top 20) 0
def N9:List Str:=["self","side"]
abbrev st10:Stmt:=inClass (top 20) 4
def N10:List Str:=["self"]
abbrev st11:Stmt:=inClass (top 21) 3
def N11:List Str:=["self"]
abbrev st12:Stmt:=inClass (top 22) 3
def N12:List Str:=["self"]
abbrev st13:Stmt:=inClass (top 23) 0
def N13:List Str:=["self","many","way","side"]
abbrev st14:Stmt:=inClass (top 23) 4
def N14:List Str:=["self"]
abbrev st15:Stmt:=inClass (top 24) 0
def N15:List Str:=["self","many","side"]
abbrev st16:Stmt:=inClass (top 24) 4
def N16:List Str:=["self"]
abbrev st17:Stmt:=inClass (top 25) 0
def N17:List Str:=["self","first","second","way","side"]
abbrev st18:Stmt:=inClass (top 25) 4
def N18:List Str:=["self"]
abbrev st19:Stmt:=inClass (top 26) 3
def N19:List Str:=["self"]
abbrev st20:Stmt:=inClass (top 27) 0
def N20:List Str:=["self","keeper"]
abbrev st21:Stmt:=inClass (top 27) 4
def N21:List Str:=["self"]
abbrev st22:Stmt:=inClass (top 28) 0
def N22:List Str:=["self","keeper"]
abbrev st23:Stmt:=inClass (top 28) 4
def N23:List Str:=["self"]
abbrev st24:Stmt:=top 36
def N24:List Str:=["mark","found"]
abbrev st25:Stmt:=top 37
def N25:List Str:=["text","size"]
abbrev st26:Stmt:=top 38
def N26:List Str:=["sign"]
abbrev st27:Stmt:=top 39
def N27:List Str:=["sign","keeper"]
abbrev st28:Stmt:=top 40
def N28:List Str:=["sign","middle","last"]
abbrev st29:Stmt:=top 41
def N29:List Str:=["sign","first","way","second"]
abbrev st30:Stmt:=top 43
def N30:List Str:=["_law_script","_law_k"]
abbrev st31:Stmt:=top 44
def N31:List Str:=["_law_found"]
abbrev st32:Stmt:=top 45
def N32:List Str:=["_law_number","_law_kind","_law_more"]
abbrev st33:Stmt:=top 46
def N33:List Str:=["_law_cell","_law_some"]
abbrev st34:Stmt:=top 47
def N34:List Str:=["_law_script"]
abbrev st35:Stmt:=top 48
def N35:List Str:=["_law_script","_law_most","_law_menu_here","_law_parts_here","_law_size","_law_cell","_law_way","_law_at","_law_row","_law_count","_law_one","_law_times"]
abbrev st36:Stmt:=top 49
def N36:List Str:=["_law_part","_law_one"]
abbrev st37:Stmt:=top 50
def N37:List Str:=["_law_parts_here","_law_most","_law_row","_law_count","_law_part","_law_inner"]
abbrev st38:Stmt:=top 51
def N38:List Str:=["_law_script","_law_most","_law_parts_here","_law_marks","_law_count","_law_one","_law_row","_law_found","_law_told","_law_many"]
abbrev st39:Stmt:=top 52
def N39:List Str:=["_law_script","_law_found","_law_number"]
abbrev st40:Stmt:=top 53
def N40:List Str:=["_law_script"]
def dflL:List (Nat × Df):=[]
def b0:List S:=[(.ret (.tup [(.var 0),(.c (.int 0 0)),(.c (.int 0 0)),(.c (.int 0 0)),(.c (.int 0 0))]))]
def b1:List S:=[(.ret (.bi .sum [(.comp (.seq (.var 0)) false none (.ife (.cmp .Eq (.ix (.var 1) (.c (.int 0 0))) (.c (.str [111,110,101]))) (.c (.int 1 0)) (.op .Add (.c (.int 1 0)) (.call 1 [(.ix (.var 1) (.c (.int 2 0)))]))))]))]
def b2:List S:=[(.set 1 (.comp (.seq (.var 0)) false none (.meth 4 (.var 5) []))),(.set 2 (.comp (.seq (.var 1)) false none (.lst []))),(.loop (.name 3) (.rng2 (.c (.int 1 0)) (.op .Add (.bi .len [(.var 1)]) (.c (.int 1 0)))) [(.loop (.name 4) (.rng (.op .Add (.op .Sub (.bi .len [(.var 1)]) (.var 3)) (.c (.int 1 0)))) [(.expr (.bm .append (.ix (.var 2) (.var 4)) [(.call 4 [(.var 1),(.var 2),(.var 4),(.var 3)])]))])]),(.ret (.var 2))]
def b3:List S:=[(.set 1 (.comp (.seq (.var 0)) false none (.meth 4 (.var 2) []))),(.ret (.call 8 [(.var 0),(.var 1),(.call 2 [(.var 0)]),(.c (.int 0 0)),(.bi .len [(.var 1)])]))]
def b4:List S:=[(.ite (.cmp .Eq (.var 3) (.c (.int 1 0))) [(.ret (.c (.int 1 0)))] []),(.set 4 (.comp (.rng2 (.c (.int 1 0)) (.var 3)) false none (.call 5 [(.var 1),(.var 2),(.var 3),(.var 6)]))),(.set 5 (.comp (.seq (.call 6 [(.var 0),(.var 2),(.var 3)])) false none (.op .Add (.c (.int 1 0)) (.ix (.ix (.var 1) (.var 2)) (.op .Sub (.var 6) (.c (.int 1 0))))))),(.ret (.bi .min [(.op .Add (.var 4) (.var 5))]))]
def b5:List S:=[(.ret (.op .Add (.ix (.ix (.var 0) (.var 1)) (.op .Sub (.var 3) (.c (.int 1 0)))) (.ix (.ix (.var 0) (.op .Add (.var 1) (.var 3))) (.op .Sub (.op .Sub (.var 2) (.var 3)) (.c (.int 1 0))))))]
def b6:List S:=[(.ret (.comp (.rng2 (.c (.int 1 0)) (.op .Add (.op .FloorDiv (.var 2) (.c (.int 2 0))) (.c (.int 1 0)))) false (some (.call 7 [(.var 0),(.var 1),(.var 2),(.var 3)])) (.var 3)))]
def b7:List S:=[(.set 4 (.op .Add (.var 1) (.var 2))),(.ret (.and (.cmp .Eq (.op .Mod (.var 2) (.var 3)) (.c (.int 0 0))) (.cmp .Eq (.sl (.var 0) (some (.var 1)) (some (.op .Sub (.var 4) (.var 3)))) (.sl (.var 0) (some (.op .Add (.var 1) (.var 3))) (some (.var 4))))))]
def b8:List S:=[(.ite (.cmp .Lt (.var 4) (.c (.int 2 0))) [(.ret (.comp (.seq (.sl (.var 0) (some (.var 3)) (some (.op .Add (.var 3) (.var 4))))) false none (.tup [(.c (.str [111,110,101])),(.var 9)])))] []),(.set 5 (.ix (.ix (.var 2) (.var 3)) (.op .Sub (.var 4) (.c (.int 1 0))))),(.loop (.name 6) (.rng2 (.c (.int 1 0)) (.var 4)) [(.ite (.cmp .Eq (.call 5 [(.var 2),(.var 3),(.var 4),(.var 6)]) (.var 5)) [(.set 7 (.call 8 [(.var 0),(.var 1),(.var 2),(.var 3),(.var 6)])),(.ret (.op .Add (.var 7) (.call 8 [(.var 0),(.var 1),(.var 2),(.op .Add (.var 3) (.var 6)),(.op .Sub (.var 4) (.var 6))])))] [])]),(.set 8 (.comp (.seq (.call 6 [(.var 1),(.var 3),(.var 4)])) false (some (.cmp .Eq (.op .Add (.c (.int 1 0)) (.ix (.ix (.var 2) (.var 3)) (.op .Sub (.var 9) (.c (.int 1 0))))) (.var 5))) (.var 9))),(.ret (.lst [(.tup [(.c (.str [116,105,109,101,115])),(.call 0 [(.op .FloorDiv (.var 4) (.ix (.var 8) (.c (.int 0 0))))]),(.call 8 [(.var 0),(.var 1),(.var 2),(.var 3),(.ix (.var 8) (.c (.int 0 0)))])])]))]
def b9:List S:=[(.fld (.var 0) 0 (.var 1))]
def b10:List S:=[(.ret (.tab 1 (.fld (.var 0) 0)))]
def b11:List S:=[(.ret (.c (.str [115])))]
def b12:List S:=[(.ret (.c (.str [111])))]
def b13:List S:=[(.fld (.var 0) 1 (.var 1)),(.fld (.var 0) 2 (.var 2)),(.fld (.var 0) 0 (.var 3))]
def b14:List S:=[(.ret (.op .Add (.op .Add (.tab 1 (.fld (.var 0) 0)) (.bi .str [(.fld (.var 0) 1)])) (.fld (.var 0) 2)))]
def b15:List S:=[(.fld (.var 0) 1 (.var 1)),(.fld (.var 0) 0 (.var 2))]
def b16:List S:=[(.ret (.op .Add (.op .Add (.tab 1 (.fld (.var 0) 0)) (.c (.str [120]))) (.bi .str [(.fld (.var 0) 1)])))]
def b17:List S:=[(.fld (.var 0) 3 (.var 1)),(.fld (.var 0) 4 (.var 2)),(.fld (.var 0) 2 (.var 3)),(.fld (.var 0) 0 (.var 4))]
def b18:List S:=[(.ret (.op .Add (.op .Add (.op .Add (.tab 2 (.fld (.var 0) 0)) (.bi .str [(.fld (.var 0) 3)])) (.fld (.var 0) 2)) (.bi .str [(.fld (.var 0) 4)])))]
def b19:List S:=[(.ret (.c (.str [98])))]
def b20:List S:=[(.fld (.var 0) 5 (.var 1))]
def b21:List S:=[(.ret (.op .Add (.c (.str [104])) (.fld (.var 0) 5)))]
def b22:List S:=[(.fld (.var 0) 5 (.var 1))]
def b23:List S:=[(.ret (.op .Add (.c (.str [102])) (.fld (.var 0) 5)))]
def b24:List S:=[(.set 1 (.ife (.isi (.var 0) .str) (.call 25 [(.var 0)]) (.c .non))),(.ite (.cmp .Is (.var 1) (.c .non)) [.bad] []),(.ret (.var 1))]
def b25:List S:=[(.set 1 (.bi .len [(.var 0)])),(.ite (.cmp .Eq (.var 1) (.c (.int 1 0))) [(.ret (.call 26 [(.var 0)]))] []),(.ite (.cmp .Eq (.var 1) (.c (.int 2 0))) [(.ret (.call 27 [(.ix (.var 0) (.c (.int 0 0))),(.ix (.var 0) (.c (.int 1 0)))]))] []),(.ite (.cmp .Eq (.var 1) (.c (.int 3 0))) [(.ret (.call 28 [(.ix (.var 0) (.c (.int 0 0))),(.ix (.var 0) (.c (.int 1 0))),(.ix (.var 0) (.c (.int 2 0)))]))] []),(.ite (.cmp .Eq (.var 1) (.c (.int 4 0))) [(.ret (.call 29 [(.ix (.var 0) (.c (.int 0 0))),(.ix (.var 0) (.c (.int 1 0))),(.ix (.var 0) (.c (.int 2 0))),(.ix (.var 0) (.c (.int 3 0)))]))] []),(.ret (.c .non))]
def b26:List S:=[(.ite (.cmp .In (.var 0) (.con 3)) [(.ret (.make 1 [(.tab 3 (.var 0))]))] []),(.ite (.cmp .Eq (.var 0) (.c (.str [115]))) [(.ret (.make 2 []))] []),(.ite (.cmp .Eq (.var 0) (.c (.str [111]))) [(.ret (.make 3 []))] []),(.ite (.cmp .Eq (.var 0) (.c (.str [98]))) [(.ret (.make 7 []))] []),(.ret (.c .non))]
def b27:List S:=[(.ite (.cmp .NotIn (.var 1) (.con 0)) [(.ret (.c .non))] []),(.ite (.cmp .Eq (.var 0) (.c (.str [104]))) [(.ret (.make 8 [(.var 1)]))] []),(.ite (.cmp .Eq (.var 0) (.c (.str [102]))) [(.ret (.make 9 [(.var 1)]))] []),(.ret (.c .non))]
def b28:List S:=[(.ite (.cmp .NotIn (.var 0) (.con 3)) [(.ret (.c .non))] []),(.ite (.and (.cmp .Eq (.var 1) (.c (.str [120]))) (.cmp .In (.var 2) (.con 7))) [(.ret (.make 5 [(.tab 7 (.var 2)),(.tab 3 (.var 0))]))] []),(.ite (.and (.cmp .In (.var 1) (.con 7)) (.cmp .In (.var 2) (.con 5))) [(.ret (.make 4 [(.tab 7 (.var 1)),(.var 2),(.tab 3 (.var 0))]))] []),(.ret (.c .non))]
def b29:List S:=[(.ite (.and (.cmp .In (.var 0) (.con 4)) (.and (.cmp .In (.var 1) (.con 8)) (.and (.cmp .In (.var 2) (.con 6)) (.cmp .In (.var 3) (.con 8))))) [(.ret (.make 6 [(.tab 8 (.var 1)),(.tab 8 (.var 3)),(.var 2),(.tab 4 (.var 0))]))] []),(.ret (.c .non))]
def b30:List S:=[(.ite (.cmp .Lt (.var 1) (.bi .len [(.var 0)])) [(.ret (.ix (.var 0) (.var 1)))] []),(.ret (.c (.int 0 0)))]
def b31:List S:=[(.ret (.and (.isi (.var 0) .int) (.not (.isi (.var 0) .bool))))]
def b32:List S:=[(.set 1 (.op .Mod (.var 0) (.c (.int 8 0)))),(.set 2 (.op .FloorDiv (.var 0) (.c (.int 8 0)))),(.ite (.cmp .Lt (.var 1) (.c (.int 3 0))) [(.ret (.ix (.c (.str [107,112,115,111,98])) (.op .Mod (.var 2) (.c (.int 5 0)))))] []),(.ite (.cmp .Eq (.var 1) (.c (.int 3 0))) [(.ret (.op .Add (.ix (.c (.str [104,102])) (.op .Mod (.var 2) (.c (.int 2 0)))) (.ix (.c (.str [119,120,121,122])) (.op .Mod (.op .FloorDiv (.var 2) (.c (.int 2 0))) (.c (.int 4 0))))))] []),(.ite (.cmp .Eq (.var 1) (.c (.int 4 0))) [(.ret (.op .Add (.op .Add (.ix (.c (.str [107,112])) (.op .Mod (.var 2) (.c (.int 2 0)))) (.ix (.c (.str [50,51,52])) (.op .Mod (.op .FloorDiv (.var 2) (.c (.int 2 0))) (.c (.int 3 0))))) (.ix (.c (.str [114,108])) (.op .Mod (.op .FloorDiv (.var 2) (.c (.int 6 0))) (.c (.int 2 0))))))] []),(.ite (.cmp .Eq (.var 1) (.c (.int 5 0))) [(.ret (.op .Add (.op .Add (.ix (.c (.str [107,112])) (.op .Mod (.var 2) (.c (.int 2 0)))) (.c (.str [120]))) (.ix (.c (.str [50,51,52])) (.op .Mod (.op .FloorDiv (.var 2) (.c (.int 2 0))) (.c (.int 3 0))))))] []),(.ret (.op .Add (.op .Add (.op .Add (.ix (.c (.str [99,113])) (.op .Mod (.var 2) (.c (.int 2 0)))) (.ix (.c (.str [49,50,51,52])) (.op .Mod (.op .FloorDiv (.var 2) (.c (.int 2 0))) (.c (.int 4 0))))) (.ix (.c (.str [102,98])) (.op .Mod (.op .FloorDiv (.var 2) (.c (.int 8 0))) (.c (.int 2 0))))) (.ix (.c (.str [49,50,51,52])) (.op .Mod (.op .FloorDiv (.var 2) (.c (.int 16 0))) (.c (.int 4 0))))))]
def b33:List S:=[(.set 1 (.lst [(.lst [(.c (.str [107,50,114])),(.c (.str [107,50,108])),(.c (.str [112,50,114]))]),(.lst [(.c (.str [99,49,102,50])),(.c (.str [99,49,98,50])),(.c (.str [113,49,102,50]))]),(.lst [(.c (.str [99,49,102,50])),(.c (.str [99,50,102,49])),(.c (.str [99,49,102,49]))]),(.lst [(.c (.str [107,120,50])),(.c (.str [112,120,50])),(.c (.str [107,120,51]))])])),(.set 1 (.op .Add (.var 1) (.lst [(.lst [(.c (.str [104,119])),(.c (.str [104,120])),(.c (.str [102,119]))]),(.lst [(.c (.str [107])),(.c (.str [112])),(.c (.str [115]))]),(.lst [(.c (.str [107,51,108])),(.c (.str [107,52,108])),(.c (.str [112,51,108]))]),(.lst [(.c (.str [111])),(.c (.str [98])),(.c (.str [115]))])]))),(.ret (.ix (.var 1) (.op .Mod (.var 0) (.c (.int 8 0)))))]
def b34:List S:=[(.ite (.cmp .Eq (.op .Mod (.call 30 [(.var 0),(.c (.int 1 0))]) (.c (.int 3 0))) (.c (.int 1 0))) [(.ret (.call 33 [(.call 30 [(.var 0),(.c (.int 2 0))])]))] []),(.ret (.comp (.rng (.c (.int 3 0))) false none (.call 32 [(.op .Mod (.op .Mult (.op .Add (.op .Add (.op .Mod (.op .FloorDiv (.call 30 [(.var 0),(.var 1)]) (.c (.int 8 0))) (.op .Pow (.c (.int 10 0)) (.c (.int 9 0)))) (.op .Mult (.var 1) (.c (.int 9 0)))) (.c (.int 2 0))) (.c (.int 69621 0))) (.c (.int 2147483647 0)))])))]
def b35:List S:=[(.set 2 (.call 34 [(.var 0)])),(.set 3 (.lst [(.tup [(.lst [(.ix (.var 2) (.c (.int 0 0)))]),(.c (.int 1 0))])])),(.set 4 (.c (.int 1 0))),(.loop (.name 5) (.seq (.sl (.var 0) (some (.c (.int 3 0))) (some (.c (.int 87 0))))) [(.set 6 (.op .Mod (.var 5) (.c (.int 5 0)))),(.ite (.and (.cmp .Lt (.var 6) (.c (.int 3 0))) (.cmp .Lt (.var 4) (.var 1))) [(.set 3 (.op .Add (.var 3) (.lst [(.tup [(.lst [(.ix (.var 2) (.var 6))]),(.c (.int 1 0))])]))),(.set 4 (.op .Add (.var 4) (.c (.int 1 0))))] []),(.ite (.cmp .Gt (.var 6) (.c (.int 2 0))) [(.set 7 (.bi .max [(.c (.int 0 0)),(.op .Sub (.op .Sub (.bi .len [(.var 3)]) (.c (.int 1 0))) (.op .Mod (.op .FloorDiv (.var 5) (.c (.int 5 0))) (.c (.int 4 0))))])),(.set 8 (.lst [])),(.set 9 (.c (.int 1 0))),(.loop (.name 10) (.seq (.sl (.var 3) (some (.var 7)) none)) [(.set 8 (.op .Add (.var 8) (.ix (.var 10) (.c (.int 0 0))))),(.set 9 (.op .Add (.var 9) (.ix (.var 10) (.c (.int 1 0)))))]),(.set 11 (.op .Add (.c (.int 2 0)) (.op .Mod (.op .FloorDiv (.var 5) (.c (.int 20 0))) (.c (.int 3 0))))),(.ite (.cmp .LtE (.op .Add (.var 4) (.op .Mult (.op .Sub (.var 11) (.c (.int 1 0))) (.bi .len [(.var 8)]))) (.var 1)) [(.set 3 (.op .Add (.sl (.var 3) none (some (.var 7))) (.lst [(.tup [(.op .Mult (.var 8) (.var 11)),(.var 9)])]))),(.set 4 (.op .Add (.var 4) (.op .Mult (.op .Sub (.var 11) (.c (.int 1 0))) (.bi .len [(.var 8)]))))] [])] [])]),(.ret (.var 3))]
def b36:List S:=[(.ite (.or (.not (.isi (.var 0) .tuple)) (.cmp .Lt (.bi .len [(.var 0)]) (.c (.int 2 0)))) [(.ret (.c (.bl false)))] []),(.ite (.cmp .Eq (.ix (.var 0) (.c (.int 0 0))) (.c (.str [111,110,101]))) [(.ret (.and (.cmp .Eq (.bi .len [(.var 0)]) (.c (.int 2 0))) (.isi (.ix (.var 0) (.c (.int 1 0))) (.cls 0))))] []),(.ite (.or (.cmp .NotEq (.ix (.var 0) (.c (.int 0 0))) (.c (.str [116,105,109,101,115]))) (.or (.cmp .NotEq (.bi .len [(.var 0)]) (.c (.int 3 0))) (.or (.not (.isi (.ix (.var 0) (.c (.int 1 0))) .tuple)) (.cmp .NotEq (.bi .len [(.ix (.var 0) (.c (.int 1 0)))]) (.c (.int 5 0)))))) [(.ret (.c (.bl false)))] []),(.loop (.name 1) (.seq (.ix (.var 0) (.c (.int 1 0)))) [(.ite (.not (.call 31 [(.var 1)])) [(.ret (.c (.bl false)))] [])]),(.ite (.or (.cmp .Lt (.ix (.ix (.var 0) (.c (.int 1 0))) (.c (.int 0 0))) (.c (.int 2 0))) (.cmp .NotEq (.sl (.ix (.var 0) (.c (.int 1 0))) (some (.c (.int 1 0))) none) (.tup [(.c (.int 0 0)),(.c (.int 0 0)),(.c (.int 0 0)),(.c (.int 0 0))]))) [(.ret (.c (.bl false)))] []),(.ret (.and (.isi (.ix (.var 0) (.c (.int 2 0))) .list) (.cmp .NotEq (.ix (.var 0) (.c (.int 2 0))) (.lst []))))]
def b37:List S:=[(.set 2 (.lst [])),(.set 3 (.c (.int 0 0))),(.loop (.name 4) (.seq (.var 0)) [(.ite (.or (.not (.call 36 [(.var 4)])) (.cmp .GtE (.bi .len [(.var 2)]) (.var 1))) [(.ret (.c .non))] []),(.ite (.cmp .Eq (.ix (.var 4) (.c (.int 0 0))) (.c (.str [111,110,101]))) [(.set 2 (.op .Add (.var 2) (.lst [(.meth 4 (.ix (.var 4) (.c (.int 1 0))) [])]))),(.set 3 (.op .Add (.var 3) (.c (.int 1 0))))] [(.set 5 (.call 37 [(.ix (.var 4) (.c (.int 2 0))),(.op .FloorDiv (.var 1) (.ix (.ix (.var 4) (.c (.int 1 0))) (.c (.int 0 0))))])),(.ite (.cmp .Is (.var 5) (.c .non)) [(.ret (.c .non))] []),(.set 2 (.op .Add (.var 2) (.op .Mult (.ix (.var 5) (.c (.int 0 0))) (.ix (.ix (.var 4) (.c (.int 1 0))) (.c (.int 0 0)))))),(.set 3 (.op .Add (.op .Add (.var 3) (.c (.int 1 0))) (.ix (.var 5) (.c (.int 1 0)))))])]),(.ret (.tup [(.var 2),(.var 3)]))]
def b38:List S:=[(.set 1 (.c (.int 24 0))),(.ite (.cmp .Eq (.op .Mod (.call 30 [(.var 0),(.c (.int 0 0))]) (.c (.int 8 0))) (.c (.int 3 0))) [(.set 1 (.c (.int 60 0)))] []),(.set 2 (.call 35 [(.var 0),(.var 1)])),(.set 3 (.lst [])),(.set 4 (.c (.int 0 0))),(.loop (.name 5) (.seq (.var 2)) [(.set 3 (.op .Add (.var 3) (.ix (.var 5) (.c (.int 0 0))))),(.set 4 (.op .Add (.var 4) (.ix (.var 5) (.c (.int 1 0)))))]),(.set 6 (.comp (.seq (.var 3)) false none (.call 24 [(.var 10)]))),(.set 7 (.call 3 [(.var 6)])),(.ite (.not (.isi (.var 7) .list)) [(.ret (.c (.bl false)))] []),(.set 8 (.call 37 [(.var 7),(.bi .len [(.var 3)])])),(.ite (.or (.cmp .Is (.var 8) (.c .non)) (.or (.cmp .NotEq (.ix (.var 8) (.c (.int 0 0))) (.var 3)) (.cmp .Gt (.ix (.var 8) (.c (.int 1 0))) (.var 4)))) [(.ret (.c (.bl false)))] []),(.set 9 (.call 1 [(.var 7)])),(.ite (.or (.not (.call 31 [(.var 9)])) (.or (.cmp .NotEq (.var 9) (.ix (.var 8) (.c (.int 1 0)))) (.cmp .NotEq (.ix (.ix (.call 2 [(.var 6)]) (.c (.int 0 0))) (.neg (.c (.int 1 0)))) (.var 9)))) [(.ret (.c (.bl false)))] []),(.expr (.call 3 [(.op .Add (.sl (.var 6) (some (.c (.int 1 0))) none) (.sl (.var 6) none (some (.c (.int 1 0)))))])),(.ret (.and (.cmp .Eq (.call 1 [(.call 3 [(.var 6)])]) (.var 9)) (.cmp .Eq (.comp (.seq (.var 6)) false none (.meth 4 (.var 10) [])) (.var 3))))]
def b39:List S:=[(.ite (.or (.cmp .Lt (.bi .len [(.var 0)]) (.c (.int 2 0))) (.cmp .Eq (.op .Mod (.op .FloorDiv (.ix (.var 0) (.c (.int 0 0))) (.c (.int 64 0))) (.c (.int 2 0))) (.c (.int 1 0)))) [(.ret (.var 0))] []),(.set 1 (.lst [])),(.set 2 (.bi .abs [(.ix (.var 0) (.c (.int 1 0)))])),(.while (.and (.cmp .Gt (.var 2) (.c (.int 0 0))) (.cmp .Lt (.bi .len [(.var 1)]) (.c (.int 63 0)))) [(.expr (.bm .append (.var 1) [(.op .Mod (.var 2) (.op .Pow (.c (.int 10 0)) (.c (.int 6 0))))])),(.set 2 (.op .FloorDiv (.var 2) (.op .Pow (.c (.int 10 0)) (.c (.int 6 0)))))]),(.ret (.op .Add (.var 1) (.sl (.var 0) (some (.c (.int 2 0))) none)))]
def b40:List S:=[(.ret (.call 38 [(.call 39 [(.var 0)])]))]
def fnL:List Fn:=[⟨"plain_sum","plain_sum",st0,["number"],N0,1,1,false,b0⟩,
 ⟨"words","words",st1,["parts"],N1,1,1,false,b1⟩,
 ⟨"fewest","fewest",st2,["stitches"],N2,1,5,false,b2⟩,
 ⟨"shortest","shortest",st3,["stitches"],N3,1,2,false,b3⟩,
 ⟨"fewest_of_stretch","fewest_of_stretch",st4,["marks","table","start","length"],N4,4,6,false,b4⟩,
 ⟨"words_of_cut","words_of_cut",st5,["table","start","length","first"],N5,4,4,false,b5⟩,
 ⟨"lengths_once","lengths_once",st6,["marks","start","length"],N6,3,3,false,b6⟩,
 ⟨"comes_again","comes_again",st7,["marks","start","length","once"],N7,4,5,false,b7⟩,
 ⟨"told_stretch","told_stretch",st8,["stitches","marks","table","start","length"],N8,5,9,false,b8⟩,
 ⟨"__init__","Plain.__init__",st9,["self","side"],N9,2,2,false,b9⟩,
 ⟨"mark","Plain.mark",st10,["self"],N10,1,1,false,b10⟩,
 ⟨"mark","Slip.mark",st11,["self"],N11,1,1,false,b11⟩,
 ⟨"mark","Over.mark",st12,["self"],N12,1,1,false,b12⟩,
 ⟨"__init__","Lean.__init__",st13,["self","many","way","side"],N13,4,4,false,b13⟩,
 ⟨"mark","Lean.mark",st14,["self"],N14,1,1,false,b14⟩,
 ⟨"__init__","Grow.__init__",st15,["self","many","side"],N15,3,3,false,b15⟩,
 ⟨"mark","Grow.mark",st16,["self"],N16,1,1,false,b16⟩,
 ⟨"__init__","Cross.__init__",st17,["self","first","second","way","side"],N17,5,5,false,b17⟩,
 ⟨"mark","Cross.mark",st18,["self"],N18,1,1,false,b18⟩,
 ⟨"mark","Off.mark",st19,["self"],N19,1,1,false,b19⟩,
 ⟨"__init__","Keep.__init__",st20,["self","keeper"],N20,2,2,false,b20⟩,
 ⟨"mark","Keep.mark",st21,["self"],N21,1,1,false,b21⟩,
 ⟨"__init__","Fetch.__init__",st22,["self","keeper"],N22,2,2,false,b22⟩,
 ⟨"mark","Fetch.mark",st23,["self"],N23,1,1,false,b23⟩,
 ⟨"stitch","stitch",st24,["mark"],N24,1,2,false,b24⟩,
 ⟨"stitch_of_text","stitch_of_text",st25,["text"],N25,1,2,false,b25⟩,
 ⟨"bare_stitch","bare_stitch",st26,["sign"],N26,1,1,false,b26⟩,
 ⟨"keeper_stitch","keeper_stitch",st27,["sign","keeper"],N27,2,2,false,b27⟩,
 ⟨"sided_stitch","sided_stitch",st28,["sign","middle","last"],N28,3,3,false,b28⟩,
 ⟨"crossing","crossing",st29,["sign","first","way","second"],N29,4,4,false,b29⟩,
 ⟨"_law_cell_at","_law_cell_at",st30,["_law_script","_law_k"],N30,2,2,false,b30⟩,
 ⟨"_law_whole","_law_whole",st31,["_law_found"],N31,1,1,false,b31⟩,
 ⟨"_law_mark","_law_mark",st32,["_law_number"],N32,1,3,false,b32⟩,
 ⟨"_law_near","_law_near",st33,["_law_cell"],N33,1,2,false,b33⟩,
 ⟨"_law_menu","_law_menu",st34,["_law_script"],N34,1,1,false,b34⟩,
 ⟨"_law_parts","_law_parts",st35,["_law_script","_law_most"],N35,2,12,false,b35⟩,
 ⟨"_law_formed","_law_formed",st36,["_law_part"],N36,1,2,false,b36⟩,
 ⟨"_law_unrolled","_law_unrolled",st37,["_law_parts_here","_law_most"],N37,2,6,false,b37⟩,
 ⟨"_law_asked_so","_law_asked_so",st38,["_law_script"],N38,1,10,false,b38⟩,
 ⟨"_law_wide","_law_wide",st39,["_law_script"],N39,1,3,false,b39⟩,
 ⟨"law","law",st40,["_law_script"],N40,1,1,true,b40⟩]
def tb (s:List U):Tbl:=⟨fnL,clsL,conL,fldN,mthN,s,isiL,dflL⟩
abbrev so (x:String):Str:=Str.ofString x
abbrev rf (a:Addr):Value:=.ref a
abbrev sv (x:String) (n:Nat):Value:=.str (Str.ofString x) n
abbrev dk (P:Params) (x:String) (n:Nat) (v:Value):DictEntry:=DictEntry.mk (PyData.keyHash P (Str.ofString x)) (.str (Str.ofString x) n) v
abbrev tu (xs:Array Value) (n:Nat):Obj:=Obj.mk (.type "tuple") none (Data.seq xs n) #[]
abbrev ob (c:String) (d:Data):Obj:=Obj.mk (.type c) none d #[]
abbrev en (P:Params) (x:Str) (k v:Value):DictEntry:=DictEntry.mk (PyData.keyHash P x) k v
abbrev de (P:Params) (x:Str) (n:Nat) (v:Value):DictEntry:=DictEntry.mk (PyData.keyHash P x) (.str x n) v
abbrev hp:Program:=PySem.Challenge.pw_stitchroom_k44_whole_fewest_words
abbrev hr:W.RowW:=(PySem.Challenge.rw_stitchroom_k44_whole_fewest_words).row.toRowW
noncomputable def hB:Iv.BootT:=⟨fun P => (.node (W.boot_o_0 P) (.node (W.boot_o_1 P) (.node (W.boot_o_3 P) (.node (W.boot_o_7 P) .nil .nil) .nil) (.node (W.boot_o_5 P) (.node (W.boot_o_9 P) .nil .nil) .nil)) (.node (W.boot_o_2 P) (.node (W.boot_o_4 P) (.node (W.boot_o_8 P) .nil .nil) .nil) (.node (W.boot_o_6 P) (.node (W.boot_o_10 P) .nil .nil) .nil))),11,{}⟩
def hq:Program:=W.view hp [0,2,3,5,7,8,9,10,11,12,13,14,16,17,18,19,20,21,22,23,24,25,26,27,28,30,31,32,33,34,35,36,37,38,39,40,41,43,44,45,46,47,48,49,50,51,52,53]
abbrev hlo:List Str:=["SIDE_SIGNS","CROSS_SIGNS","SIDES","CROSS_SIDES","MANY","CROSSED"]
noncomputable def K:Params -> W.Frag:=fun P =>
 (nat_lit 2,(Obj.mk .none none (Data.dict #[] 0) #[])) ::
 (nat_lit 3,(ob "dict" (Data.dict #[(dk P "__name__" 165 (sv "law_stitchroom_k44_whole_fewest_words" 1039)),(dk P "__doc__" 166 .none),(dk P "__package__" 167 .none),(dk P "__loader__" 168 (.builtin "__main__.__loader__#opaque")),(dk P "__spec__" 169 .none),(dk P "__annotations__" 170 (rf 6)),(dk P "__builtins__" 171 (rf 4)),(dk P "__file__" 173 (sv "/claim/cut.py" 172)),(dk P "__cached__" 174 .none),(dk P "_wall" 193 (rf 21)),(dk P "StitchError" 213 (rf 31)),(dk P "NoStitch" 229 (rf 44)),(dk P "plain_sum" 238 (rf 53)),(dk P "words" 246 (rf 58)),(dk P "fewest" 252 (rf 63)),(dk P "shortest" 258 (rf 68)),(dk P "fewest_of_stretch" 264 (rf 73)),(dk P "words_of_cut" 274 (rf 80)),(dk P "lengths_once" 280 (rf 85)),(dk P "comes_again" 291 (rf 92)),(dk P "told_stretch" 297 (rf 97)),(dk P "KEEPERS" 304 (rf 98)),(dk P "SIDE_SIGNS" 312 (rf 99)),(dk P "CROSS_SIGNS" 320 (rf 100)),(dk P "Stitch" 354 (rf 124)),(dk P "Plain" 421 (rf 187)),(dk P "Slip" 479 (rf 241)),(dk P "Over" 537 (rf 295)),(dk P "Lean" 609 (rf 356)),(dk P "Grow" 677 (rf 415)),(dk P "Cross" 749 (rf 474)),(dk P "Off" 807 (rf 528)),(dk P "Keep" 874 (rf 589)),(dk P "Fetch" 941 (rf 650)),(dk P "SIDES" 951 (rf 653)),(dk P "CROSS_SIDES" 959 (rf 654)),(dk P "LEAN_WAYS" 962 (rf 655)),(dk P "CROSS_WAYS" 965 (rf 656)),(dk P "MANY" 975 (rf 657)),(dk P "CROSSED" 988 (rf 658)),(dk P "stitch" 996 (rf 665)),(dk P "stitch_of_text" 1004 (rf 672)),(dk P "bare_stitch" 1011 (rf 679)),(dk P "keeper_stitch" 1019 (rf 686)),(dk P "sided_stitch" 1028 (rf 693)),(dk P "crossing" 1038 (rf 700)),(dk P "_law_cell_at" 1048 (rf 707)),(dk P "_law_whole" 1055 (rf 714)),(dk P "_law_mark" 1064 (rf 721)),(dk P "_law_near" 1072 (rf 728)),(dk P "_law_menu" 1078 (rf 733)),(dk P "_law_parts" 1096 (rf 740)),(dk P "_law_formed" 1104 (rf 747)),(dk P "_law_unrolled" 1116 (rf 754)),(dk P "_law_asked_so" 1122 (rf 759)),(dk P "_law_wide" 1131 (rf 766)),(dk P "law" 1138 (rf 773))] 57))) ::
 (nat_lit 30,(ob "dict" (Data.dict #[(dk P "__module__" 203 (sv "stitchroom.errors" 194)),(dk P "__firstlineno__" 207 (.int 5 206)),(dk P "__static_attributes__" 208 (rf 29)),(dk P "__weakref__" 210 (rf 32)),(dk P "__doc__" 211 .none)] 3))) ::
 (nat_lit 31,(Obj.mk (.type "type") none (Data.cls (ClassData.mk (so "StitchError") [(.type "ValueError")] [(rf 31),(.type "ValueError"),(.type "Exception"),(.type "BaseException"),(.type "object")] 30 (so "StitchError") Bool.true [] [(rf 44)] Bool.false none Bool.false)) #[(some (rf 22)),none,(some (sv "StitchError" 196)),(some (sv "StitchError" 204)),(some (.builtin "ValueError.__new__")),(some (.bool Bool.true))])) ::
 (nat_lit 32,(ob "getset_descriptor" (Data.fields #[(sv "__weakref__" 209),(rf 31),(.builtin "ExceptionGroup.__weakref__"),.none]))) ::
 (nat_lit 43,(ob "dict" (Data.dict #[(dk P "__module__" 221 (sv "stitchroom.errors" 194)),(dk P "__firstlineno__" 225 (.int 7 224)),(dk P "__static_attributes__" 226 (rf 42)),(dk P "__doc__" 227 .none)] 2))) ::
 (nat_lit 44,(Obj.mk (.type "type") none (Data.cls (ClassData.mk (so "NoStitch") [(rf 31)] [(rf 44),(rf 31),(.type "ValueError"),(.type "Exception"),(.type "BaseException"),(.type "object")] 43 (so "NoStitch") Bool.true [] [] Bool.false none Bool.false)) #[(some (rf 35)),none,(some (sv "NoStitch" 214)),(some (sv "NoStitch" 222)),(some (.builtin "ValueError.__new__")),(some (.bool Bool.true))])) ::
 (nat_lit 52,(ob "code" (Data.fields #[(sv "plain_sum" 232),(sv "plain_sum" 233),(sv "/claim/cut.py" 234),(.int 10 0),(.int 1 0),(.int 0 0),(.int 0 0),(.int 3 0),(rf 47),(.bool Bool.true),(.int 181 0),(rf 48),.none,(rf 49),(rf 50),(rf 51),(.int 236 0),(.int 10 0),(sv "/claim/cut.py" 237)]))) ::
 (nat_lit 53,⟨(.type "function"),none,.func (W.fnOf (so "plain_sum") (so "plain_sum") (defArgs st0) (defBody st0) (defScope st0) .none .none .none (sv "stitchroom.sums" 230) none (rf 52) .none),#[]⟩) ::
 (nat_lit 57,(ob "code" (Data.fields #[(sv "words" 241),(sv "words" 242),(sv "/claim/cut.py" 243),(.int 13 0),(.int 1 0),(.int 0 0),(.int 0 0),(.int 3 0),(rf 54),(.bool Bool.true),(.int 181 0),(rf 55),.none,.none,.none,(rf 56),(.int 244 0),(.int 13 0),(sv "/claim/cut.py" 245)]))) ::
 (nat_lit 58,⟨(.type "function"),none,.func (W.fnOf (so "words") (so "words") (defArgs st1) (defBody st1) (defScope st1) .none .none .none (sv "stitchroom.prices" 239) none (rf 57) .none),#[]⟩) ::
 (nat_lit 62,(ob "code" (Data.fields #[(sv "fewest" 247),(sv "fewest" 248),(sv "/claim/cut.py" 249),(.int 15 0),(.int 1 0),(.int 0 0),(.int 0 0),(.int 3 0),(rf 59),(.bool Bool.true),(.int 181 0),(rf 60),.none,.none,.none,(rf 61),(.int 250 0),(.int 15 0),(sv "/claim/cut.py" 251)]))) ::
 (nat_lit 63,⟨(.type "function"),none,.func (W.fnOf (so "fewest") (so "fewest") (defArgs st2) (defBody st2) (defScope st2) .none .none .none (sv "stitchroom.prices" 239) none (rf 62) .none),#[]⟩) ::
 (nat_lit 67,(ob "code" (Data.fields #[(sv "shortest" 253),(sv "shortest" 254),(sv "/claim/cut.py" 255),(.int 22 0),(.int 1 0),(.int 0 0),(.int 0 0),(.int 3 0),(rf 64),(.bool Bool.true),(.int 181 0),(rf 65),.none,.none,.none,(rf 66),(.int 256 0),(.int 22 0),(sv "/claim/cut.py" 257)]))) ::
 (nat_lit 68,⟨(.type "function"),none,.func (W.fnOf (so "shortest") (so "shortest") (defArgs st3) (defBody st3) (defScope st3) .none .none .none (sv "stitchroom.prices" 239) none (rf 67) .none),#[]⟩) ::
 (nat_lit 72,(ob "code" (Data.fields #[(sv "fewest_of_stretch" 259),(sv "fewest_of_stretch" 260),(sv "/claim/cut.py" 261),(.int 25 0),(.int 4 0),(.int 0 0),(.int 0 0),(.int 3 0),(rf 69),(.bool Bool.true),(.int 181 0),(rf 70),.none,.none,.none,(rf 71),(.int 262 0),(.int 25 0),(sv "/claim/cut.py" 263)]))) ::
 (nat_lit 73,⟨(.type "function"),none,.func (W.fnOf (so "fewest_of_stretch") (so "fewest_of_stretch") (defArgs st4) (defBody st4) (defScope st4) .none .none .none (sv "stitchroom.prices" 239) none (rf 72) .none),#[]⟩) ::
 (nat_lit 79,(ob "code" (Data.fields #[(sv "words_of_cut" 265),(sv "words_of_cut" 266),(sv "/claim/cut.py" 267),(.int 31 0),(.int 4 0),(.int 0 0),(.int 0 0),(.int 3 0),(rf 74),(.bool Bool.true),(.int 181 0),(rf 75),.none,(rf 76),(rf 77),(rf 78),(.int 272 0),(.int 31 0),(sv "/claim/cut.py" 273)]))) ::
 (nat_lit 80,⟨(.type "function"),none,.func (W.fnOf (so "words_of_cut") (so "words_of_cut") (defArgs st5) (defBody st5) (defScope st5) .none .none .none (sv "stitchroom.prices" 239) none (rf 79) .none),#[]⟩) ::
 (nat_lit 84,(ob "code" (Data.fields #[(sv "lengths_once" 275),(sv "lengths_once" 276),(sv "/claim/cut.py" 277),(.int 33 0),(.int 3 0),(.int 0 0),(.int 0 0),(.int 3 0),(rf 81),(.bool Bool.true),(.int 181 0),(rf 82),.none,.none,.none,(rf 83),(.int 278 0),(.int 33 0),(sv "/claim/cut.py" 279)]))) ::
 (nat_lit 85,⟨(.type "function"),none,.func (W.fnOf (so "lengths_once") (so "lengths_once") (defArgs st6) (defBody st6) (defScope st6) .none .none .none (sv "stitchroom.prices" 239) none (rf 84) .none),#[]⟩) ::
 (nat_lit 91,(ob "code" (Data.fields #[(sv "comes_again" 281),(sv "comes_again" 282),(sv "/claim/cut.py" 283),(.int 35 0),(.int 4 0),(.int 0 0),(.int 0 0),(.int 3 0),(rf 86),(.bool Bool.true),(.int 181 0),(rf 87),.none,(rf 88),(rf 89),(rf 90),(.int 289 0),(.int 35 0),(sv "/claim/cut.py" 290)]))) ::
 (nat_lit 92,⟨(.type "function"),none,.func (W.fnOf (so "comes_again") (so "comes_again") (defArgs st7) (defBody st7) (defScope st7) .none .none .none (sv "stitchroom.prices" 239) none (rf 91) .none),#[]⟩) ::
 (nat_lit 96,(ob "code" (Data.fields #[(sv "told_stretch" 292),(sv "told_stretch" 293),(sv "/claim/cut.py" 294),(.int 38 0),(.int 5 0),(.int 0 0),(.int 0 0),(.int 3 0),(rf 93),(.bool Bool.true),(.int 181 0),(rf 94),.none,.none,.none,(rf 95),(.int 295 0),(.int 38 0),(sv "/claim/cut.py" 296)]))) ::
 (nat_lit 97,⟨(.type "function"),none,.func (W.fnOf (so "told_stretch") (so "told_stretch") (defArgs st8) (defBody st8) (defScope st8) .none .none .none (sv "stitchroom.prices" 239) none (rf 96) .none),#[]⟩) ::
 (nat_lit 98,(tu #[(sv "w" 300),(sv "x" 301),(sv "y" 302),(sv "z" 303)] 0)) ::
 (nat_lit 99,(ob "dict" (Data.dict #[(DictEntry.mk 1 (.int 1 305) (sv "k" 306)),(DictEntry.mk (-2) (.int (-1) 308) (sv "p" 309))] 2))) ::
 (nat_lit 100,(ob "dict" (Data.dict #[(DictEntry.mk 1 (.int 1 313) (sv "c" 314)),(DictEntry.mk (-2) (.int (-1) 316) (sv "q" 317))] 2))) ::
 (nat_lit 123,(ob "dict" (Data.dict #[(dk P "__module__" 328 (sv "stitchroom.stitches" 298)),(dk P "__firstlineno__" 332 (.int 52 331)),(dk P "ties" 339 (rf 114)),(dk P "ends" 346 (rf 121)),(dk P "__static_attributes__" 347 (rf 122)),(dk P "__dict__" 349 (rf 125)),(dk P "__weakref__" 351 (rf 126)),(dk P "__doc__" 352 .none)] 4))) ::
 (nat_lit 124,(Obj.mk (.type "type") none (Data.cls (ClassData.mk (so "Stitch") [(.type "object")] [(rf 124),(.type "object")] 123 (so "Stitch") Bool.true [] [(rf 187),(rf 241),(rf 295),(rf 356),(rf 415),(rf 474),(rf 528),(rf 589),(rf 650)] Bool.false none Bool.false)) #[none,none,(some (sv "Stitch" 321)),(some (sv "Stitch" 329)),(some (.builtin "object.__new__")),(some (.bool Bool.true))])) ::
 (nat_lit 125,(ob "getset_descriptor" (Data.fields #[(sv "__dict__" 348),(rf 124),(.builtin "function.__dict__"),(.builtin "function.__dict__#set")]))) ::
 (nat_lit 126,(ob "getset_descriptor" (Data.fields #[(sv "__weakref__" 350),(rf 124),(.builtin "ExceptionGroup.__weakref__"),.none]))) ::
 (nat_lit 141,(ob "code" (Data.fields #[(sv "__init__" 367),(sv "Plain.__init__" 368),(sv "/claim/cut.py" 369),(.int 61 0),(.int 2 0),(.int 0 0),(.int 0 0),(.int 3 0),(rf 136),(.bool Bool.true),(.int 181 0),(rf 137),.none,(rf 138),(rf 139),(rf 140),(.int 372 0),(.int 61 0),(sv "/claim/cut.py" 373)]))) ::
 (nat_lit 142,⟨(.type "function"),none,.func (W.fnOf (so "__init__") (so "Plain.__init__") (defArgs st9) (defBody st9) (defScope st9) .none .none .none (sv "stitchroom.stitches" 298) none (rf 141) .none),#[]⟩) ::
 (nat_lit 169,(ob "code" (Data.fields #[(sv "mark" 396),(sv "Plain.mark" 397),(sv "/claim/cut.py" 398),(.int 73 0),(.int 1 0),(.int 0 0),(.int 0 0),(.int 3 0),(rf 164),(.bool Bool.true),(.int 181 0),(rf 165),.none,(rf 166),(rf 167),(rf 168),(.int 400 0),(.int 73 0),(sv "/claim/cut.py" 401)]))) ::
 (nat_lit 170,⟨(.type "function"),none,.func (W.fnOf (so "mark") (so "Plain.mark") (defArgs st10) (defBody st10) (defScope st10) .none .none .none (sv "stitchroom.stitches" 298) none (rf 169) .none),#[]⟩) ::
 (nat_lit 186,(ob "dict" (Data.dict #[(dk P "__module__" 362 (sv "stitchroom.stitches" 298)),(dk P "__firstlineno__" 366 (.int 59 365)),(dk P "__init__" 374 (rf 142)),(dk P "takes" 381 (rf 149)),(dk P "gives" 388 (rf 156)),(dk P "ties" 395 (rf 163)),(dk P "mark" 402 (rf 170)),(dk P "mirrored" 409 (rf 177)),(dk P "turned" 416 (rf 184)),(dk P "__static_attributes__" 418 (rf 185)),(dk P "__doc__" 419 .none)] 2))) ::
 (nat_lit 187,(Obj.mk (.type "type") none (Data.cls (ClassData.mk (so "Plain") [(rf 124)] [(rf 187),(rf 124),(.type "object")] 186 (so "Plain") Bool.true [] [] Bool.false none Bool.false)) #[(some (rf 129)),none,(some (sv "Plain" 355)),(some (sv "Plain" 363)),(some (.builtin "object.__new__")),(some (.bool Bool.true))])) ::
 (nat_lit 223,(ob "code" (Data.fields #[(sv "mark" 455),(sv "Slip.mark" 456),(sv "/claim/cut.py" 457),(.int 92 0),(.int 1 0),(.int 0 0),(.int 0 0),(.int 3 0),(rf 218),(.bool Bool.true),(.int 181 0),(rf 219),.none,(rf 220),(rf 221),(rf 222),(.int 459 0),(.int 92 0),(sv "/claim/cut.py" 460)]))) ::
 (nat_lit 224,⟨(.type "function"),none,.func (W.fnOf (so "mark") (so "Slip.mark") (defArgs st11) (defBody st11) (defScope st11) .none .none .none (sv "stitchroom.stitches" 298) none (rf 223) .none),#[]⟩) ::
 (nat_lit 240,(ob "dict" (Data.dict #[(dk P "__module__" 429 (sv "stitchroom.stitches" 298)),(dk P "__firstlineno__" 433 (.int 81 432)),(dk P "takes" 440 (rf 203)),(dk P "gives" 447 (rf 210)),(dk P "ties" 454 (rf 217)),(dk P "mark" 461 (rf 224)),(dk P "mirrored" 468 (rf 231)),(dk P "turned" 475 (rf 238)),(dk P "__static_attributes__" 476 (rf 239)),(dk P "__doc__" 477 .none)] 2))) ::
 (nat_lit 241,(Obj.mk (.type "type") none (Data.cls (ClassData.mk (so "Slip") [(rf 124)] [(rf 241),(rf 124),(.type "object")] 240 (so "Slip") Bool.true [] [] Bool.false none Bool.false)) #[(some (rf 190)),none,(some (sv "Slip" 422)),(some (sv "Slip" 430)),(some (.builtin "object.__new__")),(some (.bool Bool.true))])) ::
 (nat_lit 277,(ob "code" (Data.fields #[(sv "mark" 513),(sv "Over.mark" 514),(sv "/claim/cut.py" 515),(.int 111 0),(.int 1 0),(.int 0 0),(.int 0 0),(.int 3 0),(rf 272),(.bool Bool.true),(.int 181 0),(rf 273),.none,(rf 274),(rf 275),(rf 276),(.int 517 0),(.int 111 0),(sv "/claim/cut.py" 518)]))) ::
 (nat_lit 278,⟨(.type "function"),none,.func (W.fnOf (so "mark") (so "Over.mark") (defArgs st12) (defBody st12) (defScope st12) .none .none .none (sv "stitchroom.stitches" 298) none (rf 277) .none),#[]⟩) ::
 (nat_lit 294,(ob "dict" (Data.dict #[(dk P "__module__" 487 (sv "stitchroom.stitches" 298)),(dk P "__firstlineno__" 491 (.int 100 490)),(dk P "takes" 498 (rf 257)),(dk P "gives" 505 (rf 264)),(dk P "ties" 512 (rf 271)),(dk P "mark" 519 (rf 278)),(dk P "mirrored" 526 (rf 285)),(dk P "turned" 533 (rf 292)),(dk P "__static_attributes__" 534 (rf 293)),(dk P "__doc__" 535 .none)] 2))) ::
 (nat_lit 295,(Obj.mk (.type "type") none (Data.cls (ClassData.mk (so "Over") [(rf 124)] [(rf 295),(rf 124),(.type "object")] 294 (so "Over") Bool.true [] [] Bool.false none Bool.false)) #[(some (rf 244)),none,(some (sv "Over" 480)),(some (sv "Over" 488)),(some (.builtin "object.__new__")),(some (.bool Bool.true))])) ::
 (nat_lit 310,(ob "code" (Data.fields #[(sv "__init__" 550),(sv "Lean.__init__" 551),(sv "/claim/cut.py" 552),(.int 121 0),(.int 4 0),(.int 0 0),(.int 0 0),(.int 3 0),(rf 305),(.bool Bool.true),(.int 181 0),(rf 306),.none,(rf 307),(rf 308),(rf 309),(.int 557 0),(.int 121 0),(sv "/claim/cut.py" 558)]))) ::
 (nat_lit 311,⟨(.type "function"),none,.func (W.fnOf (so "__init__") (so "Lean.__init__") (defArgs st13) (defBody st13) (defScope st13) .none .none .none (sv "stitchroom.stitches" 298) none (rf 310) .none),#[]⟩) ::
 (nat_lit 338,(ob "code" (Data.fields #[(sv "mark" 582),(sv "Lean.mark" 583),(sv "/claim/cut.py" 584),(.int 139 0),(.int 1 0),(.int 0 0),(.int 0 0),(.int 3 0),(rf 333),(.bool Bool.true),(.int 181 0),(rf 334),.none,(rf 335),(rf 336),(rf 337),(.int 586 0),(.int 139 0),(sv "/claim/cut.py" 587)]))) ::
 (nat_lit 339,⟨(.type "function"),none,.func (W.fnOf (so "mark") (so "Lean.mark") (defArgs st14) (defBody st14) (defScope st14) .none .none .none (sv "stitchroom.stitches" 298) none (rf 338) .none),#[]⟩) ::
 (nat_lit 355,(ob "dict" (Data.dict #[(dk P "__module__" 545 (sv "stitchroom.stitches" 298)),(dk P "__firstlineno__" 549 (.int 119 548)),(dk P "__init__" 559 (rf 311)),(dk P "takes" 566 (rf 318)),(dk P "gives" 573 (rf 325)),(dk P "ties" 581 (rf 332)),(dk P "mark" 588 (rf 339)),(dk P "mirrored" 595 (rf 346)),(dk P "turned" 602 (rf 353)),(dk P "__static_attributes__" 606 (rf 354)),(dk P "__doc__" 607 .none)] 2))) ::
 (nat_lit 356,(Obj.mk (.type "type") none (Data.cls (ClassData.mk (so "Lean") [(rf 124)] [(rf 356),(rf 124),(.type "object")] 355 (so "Lean") Bool.true [] [] Bool.false none Bool.false)) #[(some (rf 298)),none,(some (sv "Lean" 538)),(some (sv "Lean" 546)),(some (.builtin "object.__new__")),(some (.bool Bool.true))])) ::
 (nat_lit 371,(ob "code" (Data.fields #[(sv "__init__" 622),(sv "Grow.__init__" 623),(sv "/claim/cut.py" 624),(.int 149 0),(.int 3 0),(.int 0 0),(.int 0 0),(.int 3 0),(rf 366),(.bool Bool.true),(.int 181 0),(rf 367),.none,(rf 368),(rf 369),(rf 370),(.int 628 0),(.int 149 0),(sv "/claim/cut.py" 629)]))) ::
 (nat_lit 372,⟨(.type "function"),none,.func (W.fnOf (so "__init__") (so "Grow.__init__") (defArgs st15) (defBody st15) (defScope st15) .none .none .none (sv "stitchroom.stitches" 298) none (rf 371) .none),#[]⟩) ::
 (nat_lit 397,(ob "code" (Data.fields #[(sv "mark" 651),(sv "Grow.mark" 652),(sv "/claim/cut.py" 653),(.int 162 0),(.int 1 0),(.int 0 0),(.int 0 0),(.int 3 0),(rf 392),(.bool Bool.true),(.int 181 0),(rf 393),.none,(rf 394),(rf 395),(rf 396),(.int 655 0),(.int 162 0),(sv "/claim/cut.py" 656)]))) ::
 (nat_lit 398,⟨(.type "function"),none,.func (W.fnOf (so "mark") (so "Grow.mark") (defArgs st16) (defBody st16) (defScope st16) .none .none .none (sv "stitchroom.stitches" 298) none (rf 397) .none),#[]⟩) ::
 (nat_lit 414,(ob "dict" (Data.dict #[(dk P "__module__" 617 (sv "stitchroom.stitches" 298)),(dk P "__firstlineno__" 621 (.int 147 620)),(dk P "__init__" 630 (rf 372)),(dk P "takes" 637 (rf 379)),(dk P "gives" 644 (rf 386)),(dk P "ties" 650 (rf 391)),(dk P "mark" 657 (rf 398)),(dk P "mirrored" 664 (rf 405)),(dk P "turned" 671 (rf 412)),(dk P "__static_attributes__" 674 (rf 413)),(dk P "__doc__" 675 .none)] 2))) ::
 (nat_lit 415,(Obj.mk (.type "type") none (Data.cls (ClassData.mk (so "Grow") [(rf 124)] [(rf 415),(rf 124),(.type "object")] 414 (so "Grow") Bool.true [] [] Bool.false none Bool.false)) #[(some (rf 359)),none,(some (sv "Grow" 610)),(some (sv "Grow" 618)),(some (.builtin "object.__new__")),(some (.bool Bool.true))])) ::
 (nat_lit 430,(ob "code" (Data.fields #[(sv "__init__" 690),(sv "Cross.__init__" 691),(sv "/claim/cut.py" 692),(.int 172 0),(.int 5 0),(.int 0 0),(.int 0 0),(.int 3 0),(rf 425),(.bool Bool.true),(.int 181 0),(rf 426),.none,(rf 427),(rf 428),(rf 429),(.int 698 0),(.int 172 0),(sv "/claim/cut.py" 699)]))) ::
 (nat_lit 431,⟨(.type "function"),none,.func (W.fnOf (so "__init__") (so "Cross.__init__") (defArgs st17) (defBody st17) (defScope st17) .none .none .none (sv "stitchroom.stitches" 298) none (rf 430) .none),#[]⟩) ::
 (nat_lit 456,(ob "code" (Data.fields #[(sv "mark" 721),(sv "Cross.mark" 722),(sv "/claim/cut.py" 723),(.int 190 0),(.int 1 0),(.int 0 0),(.int 0 0),(.int 3 0),(rf 451),(.bool Bool.true),(.int 181 0),(rf 452),.none,(rf 453),(rf 454),(rf 455),(.int 725 0),(.int 190 0),(sv "/claim/cut.py" 726)]))) ::
 (nat_lit 457,⟨(.type "function"),none,.func (W.fnOf (so "mark") (so "Cross.mark") (defArgs st18) (defBody st18) (defScope st18) .none .none .none (sv "stitchroom.stitches" 298) none (rf 456) .none),#[]⟩) ::
 (nat_lit 473,(ob "dict" (Data.dict #[(dk P "__module__" 685 (sv "stitchroom.stitches" 298)),(dk P "__firstlineno__" 689 (.int 170 688)),(dk P "__init__" 700 (rf 431)),(dk P "takes" 707 (rf 438)),(dk P "gives" 714 (rf 445)),(dk P "ties" 720 (rf 450)),(dk P "mark" 727 (rf 457)),(dk P "mirrored" 734 (rf 464)),(dk P "turned" 741 (rf 471)),(dk P "__static_attributes__" 746 (rf 472)),(dk P "__doc__" 747 .none)] 2))) ::
 (nat_lit 474,(Obj.mk (.type "type") none (Data.cls (ClassData.mk (so "Cross") [(rf 124)] [(rf 474),(rf 124),(.type "object")] 473 (so "Cross") Bool.true [] [] Bool.false none Bool.false)) #[(some (rf 418)),none,(some (sv "Cross" 678)),(some (sv "Cross" 686)),(some (.builtin "object.__new__")),(some (.bool Bool.true))])) ::
 (nat_lit 510,(ob "code" (Data.fields #[(sv "mark" 783),(sv "Off.mark" 784),(sv "/claim/cut.py" 785),(.int 209 0),(.int 1 0),(.int 0 0),(.int 0 0),(.int 3 0),(rf 505),(.bool Bool.true),(.int 181 0),(rf 506),.none,(rf 507),(rf 508),(rf 509),(.int 787 0),(.int 209 0),(sv "/claim/cut.py" 788)]))) ::
 (nat_lit 511,⟨(.type "function"),none,.func (W.fnOf (so "mark") (so "Off.mark") (defArgs st19) (defBody st19) (defScope st19) .none .none .none (sv "stitchroom.stitches" 298) none (rf 510) .none),#[]⟩) ::
 (nat_lit 527,(ob "dict" (Data.dict #[(dk P "__module__" 757 (sv "stitchroom.stitches" 298)),(dk P "__firstlineno__" 761 (.int 198 760)),(dk P "takes" 768 (rf 490)),(dk P "gives" 775 (rf 497)),(dk P "ends" 782 (rf 504)),(dk P "mark" 789 (rf 511)),(dk P "mirrored" 796 (rf 518)),(dk P "turned" 803 (rf 525)),(dk P "__static_attributes__" 804 (rf 526)),(dk P "__doc__" 805 .none)] 2))) ::
 (nat_lit 528,(Obj.mk (.type "type") none (Data.cls (ClassData.mk (so "Off") [(rf 124)] [(rf 528),(rf 124),(.type "object")] 527 (so "Off") Bool.true [] [] Bool.false none Bool.false)) #[(some (rf 477)),none,(some (sv "Off" 750)),(some (sv "Off" 758)),(some (.builtin "object.__new__")),(some (.bool Bool.true))])) ::
 (nat_lit 543,(ob "code" (Data.fields #[(sv "__init__" 820),(sv "Keep.__init__" 821),(sv "/claim/cut.py" 822),(.int 219 0),(.int 2 0),(.int 0 0),(.int 0 0),(.int 3 0),(rf 538),(.bool Bool.true),(.int 181 0),(rf 539),.none,(rf 540),(rf 541),(rf 542),(.int 825 0),(.int 219 0),(sv "/claim/cut.py" 826)]))) ::
 (nat_lit 544,⟨(.type "function"),none,.func (W.fnOf (so "__init__") (so "Keep.__init__") (defArgs st20) (defBody st20) (defScope st20) .none .none .none (sv "stitchroom.stitches" 298) none (rf 543) .none),#[]⟩) ::
 (nat_lit 571,(ob "code" (Data.fields #[(sv "mark" 849),(sv "Keep.mark" 850),(sv "/claim/cut.py" 851),(.int 231 0),(.int 1 0),(.int 0 0),(.int 0 0),(.int 3 0),(rf 566),(.bool Bool.true),(.int 181 0),(rf 567),.none,(rf 568),(rf 569),(rf 570),(.int 853 0),(.int 231 0),(sv "/claim/cut.py" 854)]))) ::
 (nat_lit 572,⟨(.type "function"),none,.func (W.fnOf (so "mark") (so "Keep.mark") (defArgs st21) (defBody st21) (defScope st21) .none .none .none (sv "stitchroom.stitches" 298) none (rf 571) .none),#[]⟩) ::
 (nat_lit 588,(ob "dict" (Data.dict #[(dk P "__module__" 815 (sv "stitchroom.stitches" 298)),(dk P "__firstlineno__" 819 (.int 217 818)),(dk P "__init__" 827 (rf 544)),(dk P "takes" 834 (rf 551)),(dk P "gives" 841 (rf 558)),(dk P "ends" 848 (rf 565)),(dk P "mark" 855 (rf 572)),(dk P "mirrored" 862 (rf 579)),(dk P "turned" 869 (rf 586)),(dk P "__static_attributes__" 871 (rf 587)),(dk P "__doc__" 872 .none)] 2))) ::
 (nat_lit 589,(Obj.mk (.type "type") none (Data.cls (ClassData.mk (so "Keep") [(rf 124)] [(rf 589),(rf 124),(.type "object")] 588 (so "Keep") Bool.true [] [] Bool.false none Bool.false)) #[(some (rf 531)),none,(some (sv "Keep" 808)),(some (sv "Keep" 816)),(some (.builtin "object.__new__")),(some (.bool Bool.true))])) ::
 (nat_lit 604,(ob "code" (Data.fields #[(sv "__init__" 887),(sv "Fetch.__init__" 888),(sv "/claim/cut.py" 889),(.int 241 0),(.int 2 0),(.int 0 0),(.int 0 0),(.int 3 0),(rf 599),(.bool Bool.true),(.int 181 0),(rf 600),.none,(rf 601),(rf 602),(rf 603),(.int 892 0),(.int 241 0),(sv "/claim/cut.py" 893)]))) ::
 (nat_lit 605,⟨(.type "function"),none,.func (W.fnOf (so "__init__") (so "Fetch.__init__") (defArgs st22) (defBody st22) (defScope st22) .none .none .none (sv "stitchroom.stitches" 298) none (rf 604) .none),#[]⟩) ::
 (nat_lit 632,(ob "code" (Data.fields #[(sv "mark" 916),(sv "Fetch.mark" 917),(sv "/claim/cut.py" 918),(.int 253 0),(.int 1 0),(.int 0 0),(.int 0 0),(.int 3 0),(rf 627),(.bool Bool.true),(.int 181 0),(rf 628),.none,(rf 629),(rf 630),(rf 631),(.int 920 0),(.int 253 0),(sv "/claim/cut.py" 921)]))) ::
 (nat_lit 633,⟨(.type "function"),none,.func (W.fnOf (so "mark") (so "Fetch.mark") (defArgs st23) (defBody st23) (defScope st23) .none .none .none (sv "stitchroom.stitches" 298) none (rf 632) .none),#[]⟩) ::
 (nat_lit 649,(ob "dict" (Data.dict #[(dk P "__module__" 882 (sv "stitchroom.stitches" 298)),(dk P "__firstlineno__" 886 (.int 239 885)),(dk P "__init__" 894 (rf 605)),(dk P "takes" 901 (rf 612)),(dk P "gives" 908 (rf 619)),(dk P "ties" 915 (rf 626)),(dk P "mark" 922 (rf 633)),(dk P "mirrored" 929 (rf 640)),(dk P "turned" 936 (rf 647)),(dk P "__static_attributes__" 938 (rf 648)),(dk P "__doc__" 939 .none)] 2))) ::
 (nat_lit 650,(Obj.mk (.type "type") none (Data.cls (ClassData.mk (so "Fetch") [(rf 124)] [(rf 650),(rf 124),(.type "object")] 649 (so "Fetch") Bool.true [] [] Bool.false none Bool.false)) #[(some (rf 592)),none,(some (sv "Fetch" 875)),(some (sv "Fetch" 883)),(some (.builtin "object.__new__")),(some (.bool Bool.true))])) ::
 (nat_lit 653,(ob "dict" (Data.dict #[(dk P "k" 944 (.int 1 945)),(dk P "p" 946 (.int (-1) 948))] 2))) ::
 (nat_lit 654,(ob "dict" (Data.dict #[(dk P "c" 952 (.int 1 953)),(dk P "q" 954 (.int (-1) 956))] 2))) ::
 (nat_lit 655,(tu #[(sv "r" 960),(sv "l" 961)] 0)) ::
 (nat_lit 656,(tu #[(sv "f" 963),(sv "b" 964)] 0)) ::
 (nat_lit 657,(ob "dict" (Data.dict #[(dk P "2" 966 (.int 2 967)),(dk P "3" 968 (.int 3 969)),(dk P "4" 970 (.int 4 971))] 3))) ::
 (nat_lit 658,(ob "dict" (Data.dict #[(dk P "1" 976 (.int 1 977)),(dk P "2" 978 (.int 2 979)),(dk P "3" 980 (.int 3 981)),(dk P "4" 982 (.int 4 983))] 4))) ::
 (nat_lit 664,(ob "code" (Data.fields #[(sv "stitch" 989),(sv "stitch" 990),(sv "/claim/cut.py" 991),(.int 268 0),(.int 1 0),(.int 0 0),(.int 0 0),(.int 3 0),(rf 659),(.bool Bool.true),(.int 181 0),(rf 660),.none,(rf 661),(rf 662),(rf 663),(.int 994 0),(.int 268 0),(sv "/claim/cut.py" 995)]))) ::
 (nat_lit 665,⟨(.type "function"),none,.func (W.fnOf (so "stitch") (so "stitch") (defArgs st24) (defBody st24) (defScope st24) .none .none .none (sv "stitchroom.marks" 942) none (rf 664) .none),#[]⟩) ::
 (nat_lit 671,(ob "code" (Data.fields #[(sv "stitch_of_text" 997),(sv "stitch_of_text" 998),(sv "/claim/cut.py" 999),(.int 273 0),(.int 1 0),(.int 0 0),(.int 0 0),(.int 3 0),(rf 666),(.bool Bool.true),(.int 181 0),(rf 667),.none,(rf 668),(rf 669),(rf 670),(.int 1002 0),(.int 273 0),(sv "/claim/cut.py" 1003)]))) ::
 (nat_lit 672,⟨(.type "function"),none,.func (W.fnOf (so "stitch_of_text") (so "stitch_of_text") (defArgs st25) (defBody st25) (defScope st25) .none .none .none (sv "stitchroom.marks" 942) none (rf 671) .none),#[]⟩) ::
 (nat_lit 678,(ob "code" (Data.fields #[(sv "bare_stitch" 1005),(sv "bare_stitch" 1006),(sv "/claim/cut.py" 1007),(.int 284 0),(.int 1 0),(.int 0 0),(.int 0 0),(.int 3 0),(rf 673),(.bool Bool.true),(.int 181 0),(rf 674),.none,(rf 675),(rf 676),(rf 677),(.int 1009 0),(.int 284 0),(sv "/claim/cut.py" 1010)]))) ::
 (nat_lit 679,⟨(.type "function"),none,.func (W.fnOf (so "bare_stitch") (so "bare_stitch") (defArgs st26) (defBody st26) (defScope st26) .none .none .none (sv "stitchroom.marks" 942) none (rf 678) .none),#[]⟩) ::
 (nat_lit 685,(ob "code" (Data.fields #[(sv "keeper_stitch" 1012),(sv "keeper_stitch" 1013),(sv "/claim/cut.py" 1014),(.int 294 0),(.int 2 0),(.int 0 0),(.int 0 0),(.int 3 0),(rf 680),(.bool Bool.true),(.int 181 0),(rf 681),.none,(rf 682),(rf 683),(rf 684),(.int 1017 0),(.int 294 0),(sv "/claim/cut.py" 1018)]))) ::
 (nat_lit 686,⟨(.type "function"),none,.func (W.fnOf (so "keeper_stitch") (so "keeper_stitch") (defArgs st27) (defBody st27) (defScope st27) .none .none .none (sv "stitchroom.marks" 942) none (rf 685) .none),#[]⟩) ::
 (nat_lit 692,(ob "code" (Data.fields #[(sv "sided_stitch" 1020),(sv "sided_stitch" 1021),(sv "/claim/cut.py" 1022),(.int 302 0),(.int 3 0),(.int 0 0),(.int 0 0),(.int 3 0),(rf 687),(.bool Bool.true),(.int 181 0),(rf 688),.none,(rf 689),(rf 690),(rf 691),(.int 1026 0),(.int 302 0),(sv "/claim/cut.py" 1027)]))) ::
 (nat_lit 693,⟨(.type "function"),none,.func (W.fnOf (so "sided_stitch") (so "sided_stitch") (defArgs st28) (defBody st28) (defScope st28) .none .none .none (sv "stitchroom.marks" 942) none (rf 692) .none),#[]⟩) ::
 (nat_lit 699,(ob "code" (Data.fields #[(sv "crossing" 1029),(sv "crossing" 1030),(sv "/claim/cut.py" 1031),(.int 310 0),(.int 4 0),(.int 0 0),(.int 0 0),(.int 3 0),(rf 694),(.bool Bool.true),(.int 181 0),(rf 695),.none,(rf 696),(rf 697),(rf 698),(.int 1036 0),(.int 310 0),(sv "/claim/cut.py" 1037)]))) ::
 (nat_lit 700,⟨(.type "function"),none,.func (W.fnOf (so "crossing") (so "crossing") (defArgs st29) (defBody st29) (defScope st29) .none .none .none (sv "stitchroom.marks" 942) none (rf 699) .none),#[]⟩) ::
 (nat_lit 706,(ob "code" (Data.fields #[(sv "_law_cell_at" 1041),(sv "_law_cell_at" 1042),(sv "/claim/cut.py" 1043),(.int 315 0),(.int 2 0),(.int 0 0),(.int 0 0),(.int 3 0),(rf 701),(.bool Bool.true),(.int 181 0),(rf 702),.none,(rf 703),(rf 704),(rf 705),(.int 1046 0),(.int 315 0),(sv "/claim/cut.py" 1047)]))) ::
 (nat_lit 707,⟨(.type "function"),none,.func (W.fnOf (so "_law_cell_at") (so "_law_cell_at") (defArgs st30) (defBody st30) (defScope st30) .none .none .none (sv "law_stitchroom_k44_whole_fewest_words" 1039) none (rf 706) .none),#[]⟩) ::
 (nat_lit 713,(ob "code" (Data.fields #[(sv "_law_whole" 1049),(sv "_law_whole" 1050),(sv "/claim/cut.py" 1051),(.int 319 0),(.int 1 0),(.int 0 0),(.int 0 0),(.int 3 0),(rf 708),(.bool Bool.true),(.int 181 0),(rf 709),.none,(rf 710),(rf 711),(rf 712),(.int 1053 0),(.int 319 0),(sv "/claim/cut.py" 1054)]))) ::
 (nat_lit 714,⟨(.type "function"),none,.func (W.fnOf (so "_law_whole") (so "_law_whole") (defArgs st31) (defBody st31) (defScope st31) .none .none .none (sv "law_stitchroom_k44_whole_fewest_words" 1039) none (rf 713) .none),#[]⟩) ::
 (nat_lit 720,(ob "code" (Data.fields #[(sv "_law_mark" 1056),(sv "_law_mark" 1057),(sv "/claim/cut.py" 1058),(.int 321 0),(.int 1 0),(.int 0 0),(.int 0 0),(.int 3 0),(rf 715),(.bool Bool.true),(.int 181 0),(rf 716),.none,(rf 717),(rf 718),(rf 719),(.int 1062 0),(.int 321 0),(sv "/claim/cut.py" 1063)]))) ::
 (nat_lit 721,⟨(.type "function"),none,.func (W.fnOf (so "_law_mark") (so "_law_mark") (defArgs st32) (defBody st32) (defScope st32) .none .none .none (sv "law_stitchroom_k44_whole_fewest_words" 1039) none (rf 720) .none),#[]⟩) ::
 (nat_lit 727,(ob "code" (Data.fields #[(sv "_law_near" 1065),(sv "_law_near" 1066),(sv "/claim/cut.py" 1067),(.int 333 0),(.int 1 0),(.int 0 0),(.int 0 0),(.int 3 0),(rf 722),(.bool Bool.true),(.int 181 0),(rf 723),.none,(rf 724),(rf 725),(rf 726),(.int 1070 0),(.int 333 0),(sv "/claim/cut.py" 1071)]))) ::
 (nat_lit 728,⟨(.type "function"),none,.func (W.fnOf (so "_law_near") (so "_law_near") (defArgs st33) (defBody st33) (defScope st33) .none .none .none (sv "law_stitchroom_k44_whole_fewest_words" 1039) none (rf 727) .none),#[]⟩) ::
 (nat_lit 732,(ob "code" (Data.fields #[(sv "_law_menu" 1073),(sv "_law_menu" 1074),(sv "/claim/cut.py" 1075),(.int 337 0),(.int 1 0),(.int 0 0),(.int 0 0),(.int 3 0),(rf 729),(.bool Bool.true),(.int 181 0),(rf 730),.none,.none,.none,(rf 731),(.int 1076 0),(.int 337 0),(sv "/claim/cut.py" 1077)]))) ::
 (nat_lit 733,⟨(.type "function"),none,.func (W.fnOf (so "_law_menu") (so "_law_menu") (defArgs st34) (defBody st34) (defScope st34) .none .none .none (sv "law_stitchroom_k44_whole_fewest_words" 1039) none (rf 732) .none),#[]⟩) ::
 (nat_lit 739,(ob "code" (Data.fields #[(sv "_law_parts" 1079),(sv "_law_parts" 1080),(sv "/claim/cut.py" 1081),(.int 341 0),(.int 2 0),(.int 0 0),(.int 0 0),(.int 3 0),(rf 734),(.bool Bool.true),(.int 181 0),(rf 735),.none,(rf 736),(rf 737),(rf 738),(.int 1094 0),(.int 341 0),(sv "/claim/cut.py" 1095)]))) ::
 (nat_lit 740,⟨(.type "function"),none,.func (W.fnOf (so "_law_parts") (so "_law_parts") (defArgs st35) (defBody st35) (defScope st35) .none .none .none (sv "law_stitchroom_k44_whole_fewest_words" 1039) none (rf 739) .none),#[]⟩) ::
 (nat_lit 746,(ob "code" (Data.fields #[(sv "_law_formed" 1097),(sv "_law_formed" 1098),(sv "/claim/cut.py" 1099),(.int 362 0),(.int 1 0),(.int 0 0),(.int 0 0),(.int 3 0),(rf 741),(.bool Bool.true),(.int 181 0),(rf 742),.none,(rf 743),(rf 744),(rf 745),(.int 1102 0),(.int 362 0),(sv "/claim/cut.py" 1103)]))) ::
 (nat_lit 747,⟨(.type "function"),none,.func (W.fnOf (so "_law_formed") (so "_law_formed") (defArgs st36) (defBody st36) (defScope st36) .none .none .none (sv "law_stitchroom_k44_whole_fewest_words" 1039) none (rf 746) .none),#[]⟩) ::
 (nat_lit 753,(ob "code" (Data.fields #[(sv "_law_unrolled" 1105),(sv "_law_unrolled" 1106),(sv "/claim/cut.py" 1107),(.int 375 0),(.int 2 0),(.int 0 0),(.int 0 0),(.int 3 0),(rf 748),(.bool Bool.true),(.int 181 0),(rf 749),.none,(rf 750),(rf 751),(rf 752),(.int 1114 0),(.int 375 0),(sv "/claim/cut.py" 1115)]))) ::
 (nat_lit 754,⟨(.type "function"),none,.func (W.fnOf (so "_law_unrolled") (so "_law_unrolled") (defArgs st37) (defBody st37) (defScope st37) .none .none .none (sv "law_stitchroom_k44_whole_fewest_words" 1039) none (rf 753) .none),#[]⟩) ::
 (nat_lit 758,(ob "code" (Data.fields #[(sv "_law_asked_so" 1117),(sv "_law_asked_so" 1118),(sv "/claim/cut.py" 1119),(.int 391 0),(.int 1 0),(.int 0 0),(.int 0 0),(.int 3 0),(rf 755),(.bool Bool.true),(.int 181 0),(rf 756),.none,.none,.none,(rf 757),(.int 1120 0),(.int 391 0),(sv "/claim/cut.py" 1121)]))) ::
 (nat_lit 759,⟨(.type "function"),none,.func (W.fnOf (so "_law_asked_so") (so "_law_asked_so") (defArgs st38) (defBody st38) (defScope st38) .none .none .none (sv "law_stitchroom_k44_whole_fewest_words" 1039) none (rf 758) .none),#[]⟩) ::
 (nat_lit 765,(ob "code" (Data.fields #[(sv "_law_wide" 1123),(sv "_law_wide" 1124),(sv "/claim/cut.py" 1125),(.int 413 0),(.int 1 0),(.int 0 0),(.int 0 0),(.int 3 0),(rf 760),(.bool Bool.true),(.int 181 0),(rf 761),.none,(rf 762),(rf 763),(rf 764),(.int 1129 0),(.int 413 0),(sv "/claim/cut.py" 1130)]))) ::
 (nat_lit 766,⟨(.type "function"),none,.func (W.fnOf (so "_law_wide") (so "_law_wide") (defArgs st39) (defBody st39) (defScope st39) .none .none .none (sv "law_stitchroom_k44_whole_fewest_words" 1039) none (rf 765) .none),#[]⟩) ::
 (nat_lit 772,(ob "code" (Data.fields #[(sv "law" 1132),(sv "law" 1133),(sv "/claim/cut.py" 1134),(.int 422 0),(.int 1 0),(.int 0 0),(.int 0 0),(.int 3 0),(rf 767),(.bool Bool.true),(.int 181 0),(rf 768),.none,(rf 769),(rf 770),(rf 771),(.int 1136 0),(.int 422 0),(sv "/claim/cut.py" 1137)]))) ::
 (nat_lit 773,⟨(.type "function"),none,.func (W.fnOf (so "law") (so "law") (defArgs st40) (defBody st40) (defScope st40) .none .none .none (sv "law_stitchroom_k44_whole_fewest_words" 1039) none (rf 772) .none),#[]⟩) :: []
def KA:List Addr:=[2,3,30,31,32,43,44,52,53,57,58,62,63,67,68,72,73,79,80,84,85,91,92,96,97,98,99,100,123,124,125,126,141,142,169,170,186,187,223,224,240,241,277,278,294,295,310,311,338,339,355,356,371,372,397,398,414,415,430,431,456,457,473,474,510,511,527,528,543,544,571,572,588,589,604,605,632,633,649,650,653,654,655,656,657,658,664,665,671,672,678,679,685,686,692,693,699,700,706,707,713,714,720,721,727,728,732,733,739,740,746,747,753,754,758,759,765,766,772,773]
theorem hKA:∀ P,KA = (K P).map (·.1):=fun _ => by kernel_rfl
abbrev hXt:Shared -> Bool:=fun s => W.xlAt hq [] s && W.recOk (W.RowW.records hr) s
theorem hop:W.opening hp = W.plainProg hp.main.scope.names:=by kernel_rfl
theorem hfm:∀ s,PySem.fenceModules? hp s = some s:=fun s => by kernel_rfl
theorem hbo:∀ w:World,W.absHeap (hB.t w.params) hB.n hB.life = W.boot_heap w.params:=fun w => by kernel_rfl
theorem hsz:∀ w:World,((W.boot_heap w.params).isNs mainGlobals,(W.boot_heap w.params).objs.size,(W.boot_heap w.params).nsMap mainGlobals "__annotations__") = (true,11,some (.ref 6)):=fun w => by kernel_rfl
abbrev hYf:Shared -> List (Option Obj):=fun s => KA.map s.heap.get?
noncomputable abbrev hYa:World -> List (Option Obj):=fun w => (K w.params).map fun p => some p.2
abbrev hN:Nat:=11372
abbrev hn6:Option Value:=some (.ref 6)
abbrev hS (w:World):Prop:=Iv.RunT hp hq hlo hXt hYf hYa 11372 true hB 11 (some (.ref 6)) w
abbrev wF (w:World):World:=w.withFollow "special-get-raises" false
abbrev wT (w:World):World:=w.withFollow "special-get-raises" true
theorem hrun0C0 (w:World):Iv.PC hp hN hB 11 hn6 KA (hYa (wF w)) (wF w):=fun os => by kernel_rfl
theorem hrun0L (w:World):Iv.Lk1 hp hq hN hB 11 hn6 (wF w):=fun os => by kernel_rfl
theorem hrun0M (w:World):Iv.Lk3 hp hq hlo hN hB 11 hn6 (wF w):=fun os => by kernel_rfl
theorem hrun0O (w:World):Iv.Lk5 hp hq hXt hN true hB 11 hn6 (wF w):=fun os => by kernel_rfl
theorem hrun0N (w:World):Iv.Lk4 hp hq hlo hN hB 11 hn6 (wF w):=fun os => by kernel_rfl
theorem hrun0 (w:World):hS (wF w):=Iv.parts_four (hrun0L w) (hrun0M w) (hrun0O w) (hrun0N w) (hrun0C0 w)
theorem hrun1C0 (w:World):Iv.PC hp hN hB 11 hn6 KA (hYa (wT w)) (wT w):=fun os => by kernel_rfl
theorem hrun1L (w:World):Iv.Lk1 hp hq hN hB 11 hn6 (wT w):=fun os => by kernel_rfl
theorem hrun1M (w:World):Iv.Lk3 hp hq hlo hN hB 11 hn6 (wT w):=fun os => by kernel_rfl
theorem hrun1O (w:World):Iv.Lk5 hp hq hXt hN true hB 11 hn6 (wT w):=fun os => by kernel_rfl
theorem hrun1N (w:World):Iv.Lk4 hp hq hlo hN hB 11 hn6 (wT w):=fun os => by kernel_rfl
theorem hrun1 (w:World):hS (wT w):=Iv.parts_four (hrun1L w) (hrun1M w) (hrun1O w) (hrun1N w) (hrun1C0 w)
theorem hrun:∀ w,hS w:=W.byRow2 "special-get-raises" hrun0 hrun1
theorem hleft:W.LeftO hp hq hlo hXt hYf hYa 11372 true:=Iv.left_tree hop (by decide) hfm hbo hsz hrun
theorem eq_int {T:Tbl} {i j:Int} {hs:Hs}:eqA T (.int i 0) (.int j 0) hs = some (decide (i = j)):=rfl
def yy:=And.intro @y_bd (And.intro @y_nil (And.intro @y_cons (And.intro @y_expr (And.intro @y_set (And.intro @y_ret (And.intro @y_ite (And.intro @y_loop (And.intro @y_put (And.intro @y_c (And.intro @y_con (And.intro @y_var (And.intro @y_op (And.intro @y_neg (And.intro @y_cmp (And.intro @y_not (And.intro @y_ife (And.intro @y_tup (And.intro @y_lst (And.intro @y_ix (And.intro @y_sl (And.intro @y_call (And.intro @y_bi (And.intro @y_isi (And.intro @y_bm (And.intro @y_comp (And.intro @y_dnew (And.intro @y_chain (And.intro @y_and (And.intro @y_or (And.intro @y_aug (And.intro @y_unp (And.intro @y_par (And.intro @y_Tnot (And.intro @y_Tand (And.intro @y_Tor (And.intro @y_Tcmp (And.intro @y_Tvar (And.intro @y_Tisi @y_Tcall))))))))))))))))))))))))))))))))))))))
theorem at0 {hs:Hs} {a:O} {r:Hs}:(hs ++ a :: r)[hs.length]? = some a:=by rw [List.getElem?_append_right (Nat.le_refl _),Nat.sub_self]; rfl
theorem set0 {hs:Hs} {a b:O}:(hs ++ [a]).set hs.length b = hs ++ [b]:=by rw [List.set_append_right _ _ (Nat.le_refl _)]; simp
theorem keepR {hs:Hs} {r:Hs} {p:Nat} {o:O} (h:hs[p]? = some o):(hs ++ r)[p]? = some o:=by
 rw [List.getElem?_append_left (List.getElem?_eq_some_iff.mp h).1]; exact h
def Kp (hs hs':Hs):Prop:=∀ (p:Nat) o,hs[p]? = some o -> hs'[p]? = some o
theorem Kp.refl (hs:Hs):Kp hs hs:=fun _ _ h => h
theorem Kp.app (hs r:Hs):Kp hs (hs ++ r):=fun _ _ h => keepR h
theorem Kp.trans {a b c:Hs} (h:Kp a b) (h':Kp b c):Kp a c:=fun p o e => h' p o (h p o e)
theorem Kp.len {a b:Hs} (h:Kp a b):a.length <= b.length:=by
 cases ha:a.length with
 | zero => omega
 | succ k =>
  have lt:k < a.length:=by omega
  have:=(List.getElem?_eq_some_iff.mp (h k a[k] (by simp [lt]))).1
  omega
theorem Kp.put {a b:Hs} {j:Nat} {o:O} (h:Kp a b) (hj:a.length <= j):Kp a (b.set j o):=fun p x e => by
 have lt:=(List.getElem?_eq_some_iff.mp e).1
 rw [List.getElem?_set_ne (by omega)]
 exact h p x e
section
variable {T:Tbl} {cf:Cf} {d:Nat} {ρ:Rho} {hs h1:Hs}
theorem y_sfld {o e:E} {f:Nat}:ex T cf (d + 1) (.fld o f e) ρ hs = bd (ev T cf d e ρ hs) fun u h1 => bd (ev T cf d o ρ h1) fun x h2 => (match x with
   | .ref n => match h2[n]? with
    | some (.ins c fs) => if fs.length < 500 then some (.next,ρ,h2.set n (.ins c (putU f u fs))) else none
    | _ => none
   | _ => none):=by rw [ex] <;> rfl
theorem y_make {c:Nat} {es:List E}:ev T cf (d + 1) (.make c es) ρ hs = bd (evs (ev T cf d) ρ es hs) fun us h1 => makeU T cf c us h1:=by rw [ev]
theorem y_tab {k:Nat} {b:E}:ev T cf (d + 1) (.tab k b) ρ hs = bd (ev T cf d b ρ hs) fun w h1 => (tabU T k w).map fun x => (x,h1):=by rw [ev]
theorem y_fld {a:E} {f:Nat}:ev T cf (d + 1) (.fld a f) ρ hs = bd (ev T cf d a ρ hs) fun u h1 => (match u with
   | .ref n => match h1[n]? with
    | some (.ins _ fs) => (fs.lookup f).map fun x => (x,h1)
    | _ => none
   | _ => none):=by rw [ev] <;> rfl
theorem y_meth {m:Nat} {o:E} {es:List E}:ev T cf (d + 1) (.meth m o es) ρ hs = bd (ev T cf d o ρ hs) fun u h1 => (match methL T m u h1 with
   | some f => bd (evs (ev T cf d) ρ es h1) fun us h2 => cf f (u :: us) h2
   | none => none):=by rw [ev] <;> rfl
theorem x_next {r:List S} {st:S} {ρ':Rho} (e:ex T cf d st ρ hs = some (.next,ρ',h1)):exs T cf (d + 1) (st :: r) ρ hs = exs T cf d r ρ' h1:=by
 rw [y_cons,e]
theorem x_next0 {t:E} {a:List S} (e:evT T cf (d + 1) t ρ hs = some (false,h1)):ex T cf (d + 2) (.ite t a []) ρ hs = some (.next,ρ,h1):=by
 rw [y_ite,e,y_bd,if_neg (by decide),y_nil]
theorem v_cmp {a b:E} {o:CmpOp} {u w:U} {h2:Hs} {c:Bool} (ea:ev T cf d a ρ hs = some (u,h1)) (eb:ev T cf d b ρ h1 = some (w,h2)) (ec:cmpU T o u w h2 = some c):ev T cf (d + 1) (.cmp o a b) ρ hs = some (.bl c,h2):=by
 rw [y_cmp,ea,y_bd,eb,y_bd,ec]; rfl
theorem v_Tcmp {a b:E} {o:CmpOp} {u w:U} {h2:Hs} {c:Bool} (ea:ev T cf d a ρ hs = some (u,h1)) (eb:ev T cf d b ρ h1 = some (w,h2)) (ec:cmpU T o u w h2 = some c):evT T cf (d + 2) (.cmp o a b) ρ hs = some (c,h2):=by
 rw [y_Tcmp,v_cmp ea eb ec,y_bd]; rfl
theorem v_call {f:Nat} {i:Nat} {u v:U} (hi:ρ[i]? = some (some u)) (e:cf f [u] hs = some (v,h1)):ev T cf (d + 2) (.call f [.var i]) ρ hs = some (v,h1):=by
 simp only [y_call,evs,y_var,hi,y_bd,e]
end
theorem drop_cons {α:Type} {us vs:List α} {u:α} {i:Nat} (h:us.drop i = u :: vs):us[i]? = some u /\ us.drop (i + 1) = vs:=by
 have h1:us[i]? = some u:=by
  have:=List.getElem?_drop (xs:=us) (i:=i) (j:=0)
  rw [h] at this
  simpa using this.symm
 refine ⟨h1,?_⟩
 rw [<- List.drop_drop,h]
 rfl
theorem drop_nil {α:Type} {us:List α} {i:Nat} (h:us.drop i = []):us[i]? = none:=by
 have:=List.drop_eq_nil_iff.mp h
 exact List.getElem?_eq_none this
theorem at_in {α:Type} (l:List α) {x:Int} (h0:0 <= x) (h1:x < l.length):∃ c,c ∈ l /\ atU l x = some c:=by
 have lt:x.toNat < l.length:=by omega
 refine ⟨l[x.toNat],List.getElem_mem lt,?_⟩
 unfold atU ixU
 rw [if_pos h0,if_pos h1]
 simp [lt]
theorem at_mod {α:Type} (l:List α) (k:Nat) (hk:l.length = k) (h:0 < k) (x:Int):∃ c,c ∈ l /\ atU l (x % (k:Int)) = some c :=
 at_in l (Int.emod_nonneg _ (by omega)) (hk ▸ Int.emod_lt_of_pos _ (by omega))
theorem prLen {α β:Type} {P:α -> β -> Prop} {as:List α} {bs:List β} (h:Paired P as bs):as.length = bs.length:=by
 induction h with
 | nil => rfl
 | cons _ _ ih => simp [ih]
theorem prImp {α β:Type} {P P':α -> β -> Prop} {as:List α} {bs:List β} (h:Paired P as bs) (i:∀ a b,P a b -> P' a b):Paired P' as bs:=by
 induction h with
 | nil => exact .nil
 | cons p _ ih => exact .cons (i _ _ p) ih
theorem prPut {α β:Type} {P:α -> β -> Prop} {as:List α} {bs:List β} {a:α} {b:β} (h:Paired P as bs) (p:P a b):Paired P (as ++ [a]) (bs ++ [b]):=by
 induction h with
 | nil => exact .cons p .nil
 | cons q _ ih => exact .cons q ih
theorem comp_rel {β:Type} {T:Tbl} {f:Ev} {ft:E -> Rho -> Hs -> Option (Bool × Hs)} {el:E} {ρ:Rho} {P:U -> β -> Prop} {Q:β -> U -> Hs -> Prop} (mono:∀ d v h h',Kp h h' -> Q d v h -> Q d v h') {hs0:Hs} {w:Wk} {us:List U}
  (hw:∀ h i,Kp hs0 h -> i <= us.length -> itm T w i h = some ((us[i]?).map .one)) (hz:us.length <= 1000)
  (step:∀ u d,P u d -> ∀ h,Kp hs0 h -> ∃ v h',Q d v h' /\ Kp h h' /\ f el (ρ ++ [some u]) h = some (v,h')):∀ (vs:List U) (ds:List β),Paired P vs ds -> ∀ (i:Nat) (acc:List U) (h:Hs),us.drop i = vs -> acc.length <= i -> i <= us.length -> Kp hs0 h ->
  ∃ ws h',Paired (fun v d => Q d v h') ws ds /\ Kp h h' /\ compU T f (evTO ft none) w false el ρ (vs.length + 1) i acc h = some (acc ++ ws,h'):=by
 intro vs ds pr
 induction pr with
 | nil =>
  intro i acc h hd ha hi kp
  refine ⟨[],h,.nil,Kp.refl _,?_⟩
  have n0:=drop_nil hd
  rw [compU]
  simp only [hw h i kp hi,n0,Option.map_none,List.append_nil]
 | @cons u d vs ds p _ ih =>
  intro i acc h hd ha hi kp
  obtain ⟨g1,g2⟩:=drop_cons hd
  obtain ⟨v,h2,q,k2,e⟩:=step u d p h kp
  have lt:=(List.getElem?_eq_some_iff.mp g1).1
  obtain ⟨ws,h3,al,k3,e'⟩:=ih (i + 1) (acc ++ [v]) h2 g2 (by simp; omega) (by omega) (kp.trans k2)
  refine ⟨v :: ws,h3,.cons (mono _ _ _ _ k3 q) al,k2.trans k3,?_⟩
  have s1:(ρ ++ [none]).set ρ.length (some u) = ρ ++ [some u]:=by rw [List.set_append_right _ _ (Nat.le_refl _)]; simp
  rw [List.length_cons,compU]
  simp only [hw h i kp hi,Option.map_some,g1,tgt,tgN,padN,Bool.false_eq_true,if_false,evTO,y_bd,s1,if_pos (show acc.length < 1000000 by omega),if_true]
  show (bd (f el (ρ ++ [some u]) h) fun u h2 => compU T f (evTO ft none) w false el ρ (vs.length + 1) (i + 1) (acc ++ [u]) h2) = _
  rw [e,y_bd,e']
  simp
theorem w_seq {T:Tbl} {hs0:Hs} {l:Nat} {us:List U} (hl:hs0[l]? = some (.lst us)):∀ h i,Kp hs0 h -> i <= us.length -> itm T (.seqL (.ref l)) i h = some ((us[i]?).map .one):=fun h i kp _ => by
 simp only [itm,lstU,kp l _ hl,Option.map_some]
theorem c_seq {β:Type} {T:Tbl} {cf:Cf} {d:Nat} {a el:E} {ρ:Rho} {P:U -> β -> Prop} {Q:β -> U -> Hs -> Prop} (mono:∀ d v h h',Kp h h' -> Q d v h -> Q d v h') {hs hs0:Hs} {l:Nat} {us:List U} {ds:List β} (ea:ev T cf d a ρ hs = some (.ref l,hs0)) (hl:hs0[l]? = some (.lst us)) (hz:us.length <= 1000)
  (step:∀ u d',P u d' -> ∀ h,Kp hs0 h -> ∃ v h',Q d' v h' /\ Kp h h' /\ ev T cf d el (ρ ++ [some u]) h = some (v,h')) (pr:Paired P us ds) :
  ∃ ws h',Paired (fun v d => Q d v (h' ++ [.lst ws])) ws ds /\ Kp hs0 h' /\ ev T cf (d + 1) (.comp (.seq a) false none el) ρ hs = some (.ref h'.length,h' ++ [.lst ws]):=by
 obtain ⟨ws,h',al,kp,e⟩:=comp_rel (T:=T) (ft:=evT T cf d) mono (w_seq hl) hz step us ds pr 0 [] hs0 rfl (by simp) (by simp) (Kp.refl _)
 refine ⟨ws,h',prImp al fun v d q => mono d v _ _ (Kp.app _ _) q,kp,?_⟩
 simp only [y_comp,srcU,ea,y_bd,wkS,lstU,hl,Option.map_some,turns,Option.getD_some,e,List.nil_append]
theorem c_init {s:List U} {n:Nat} {hs:Hs}:(∀ a,callF (tb s) (n + 1) 9 [.ref hs.length,a] (hs ++ [.ins 1 []]) = some (.non,hs ++ [.ins 1 [(0,a)]])) /\
  (∀ a b c,callF (tb s) (n + 1) 13 [.ref hs.length,a,b,c] (hs ++ [.ins 4 []]) = some (.non,hs ++ [.ins 4 [(1,a),(2,b),(0,c)]])) /\
  (∀ a b,callF (tb s) (n + 1) 15 [.ref hs.length,a,b] (hs ++ [.ins 5 []]) = some (.non,hs ++ [.ins 5 [(1,a),(0,b)]])) /\
  (∀ a b c d,callF (tb s) (n + 1) 17 [.ref hs.length,a,b,c,d] (hs ++ [.ins 6 []]) = some (.non,hs ++ [.ins 6 [(3,a),(4,b),(2,c),(0,d)]])) /\
  (∀ a,callF (tb s) (n + 1) 20 [.ref hs.length,a] (hs ++ [.ins 8 []]) = some (.non,hs ++ [.ins 8 [(5,a)]])) /\
  (∀ a,callF (tb s) (n + 1) 22 [.ref hs.length,a] (hs ++ [.ins 9 []]) = some (.non,hs ++ [.ins 9 [(5,a)]])):=by
 refine ⟨fun a => ?_,fun a b c => ?_,fun a b => ?_,fun a b c d => ?_,fun a => ?_,fun a => ?_⟩
 ·rw [y_callF fnL[9] rfl rfl]
  show fin (exs (tb s) (callF (tb s) n) 100 b9 [some (.ref hs.length),some a] _) = _
  simp [b9,yy,evs,evO,srcU,turns,cmpU,eq_int,truU,subU,opU,addI,biU,biL,slU,fin,y_sfld,at0,set0,putU]
 ·rw [y_callF fnL[13] rfl rfl]
  show fin (exs (tb s) (callF (tb s) n) 100 b13 [some (.ref hs.length),some a,some b,some c] _) = _
  simp [b13,yy,evs,evO,srcU,turns,cmpU,eq_int,truU,subU,opU,addI,biU,biL,slU,fin,y_sfld,at0,set0,putU]
 ·rw [y_callF fnL[15] rfl rfl]
  show fin (exs (tb s) (callF (tb s) n) 100 b15 [some (.ref hs.length),some a,some b] _) = _
  simp [b15,yy,evs,evO,srcU,turns,cmpU,eq_int,truU,subU,opU,addI,biU,biL,slU,fin,y_sfld,at0,set0,putU]
 ·rw [y_callF fnL[17] rfl rfl]
  show fin (exs (tb s) (callF (tb s) n) 100 b17 [some (.ref hs.length),some a,some b,some c,some d] _) = _
  simp [b17,yy,evs,evO,srcU,turns,cmpU,eq_int,truU,subU,opU,addI,biU,biL,slU,fin,y_sfld,at0,set0,putU]
 ·rw [y_callF fnL[20] rfl rfl]
  show fin (exs (tb s) (callF (tb s) n) 100 b20 [some (.ref hs.length),some a] _) = _
  simp [b20,yy,evs,evO,srcU,turns,cmpU,eq_int,truU,subU,opU,addI,biU,biL,slU,fin,y_sfld,at0,set0,putU]
 ·rw [y_callF fnL[22] rfl rfl]
  show fin (exs (tb s) (callF (tb s) n) 100 b22 [some (.ref hs.length),some a] _) = _
  simp [b22,yy,evs,evO,srcU,turns,cmpU,eq_int,truU,subU,opU,addI,biU,biL,slU,fin,y_sfld,at0,set0,putU]
theorem c_make {s:List U} {n:Nat} {hs:Hs}:(∀ a,makeU (tb s) (callF (tb s) (n + 1)) 1 [a] hs = some (.ref hs.length,hs ++ [.ins 1 [(0,a)]])) /\
  (∀ a b c,makeU (tb s) (callF (tb s) (n + 1)) 4 [a,b,c] hs = some (.ref hs.length,hs ++ [.ins 4 [(1,a),(2,b),(0,c)]])) /\
  (∀ a b,makeU (tb s) (callF (tb s) (n + 1)) 5 [a,b] hs = some (.ref hs.length,hs ++ [.ins 5 [(1,a),(0,b)]])) /\
  (∀ a b c d,makeU (tb s) (callF (tb s) (n + 1)) 6 [a,b,c,d] hs = some (.ref hs.length,hs ++ [.ins 6 [(3,a),(4,b),(2,c),(0,d)]])) /\
  (∀ a,makeU (tb s) (callF (tb s) (n + 1)) 8 [a] hs = some (.ref hs.length,hs ++ [.ins 8 [(5,a)]])) /\
  (∀ a,makeU (tb s) (callF (tb s) (n + 1)) 9 [a] hs = some (.ref hs.length,hs ++ [.ins 9 [(5,a)]])) /\
  (makeU (tb s) (callF (tb s) (n + 1)) 2 [] hs = some (.ref hs.length,hs ++ [.ins 2 []])) /\
  (makeU (tb s) (callF (tb s) (n + 1)) 3 [] hs = some (.ref hs.length,hs ++ [.ins 3 []])) /\
  (makeU (tb s) (callF (tb s) (n + 1)) 7 [] hs = some (.ref hs.length,hs ++ [.ins 7 []])):=by
 obtain ⟨h1,h2,h3,h4,h5,h6⟩:=c_init (s:=s) (n:=n) (hs:=hs)
 refine ⟨fun a => ?_,fun a b c => ?_,fun a b => ?_,fun a b c d => ?_,fun a => ?_,fun a => ?_,rfl,rfl,rfl⟩
 ·show (match callF (tb s) (n + 1) 9 [.ref hs.length,a] (hs ++ [.ins 1 []]) with | some (.non,h2) => some (U.ref hs.length,h2) | _ => none) = _; rw [h1]
 ·show (match callF (tb s) (n + 1) 13 [.ref hs.length,a,b,c] (hs ++ [.ins 4 []]) with | some (.non,h2) => some (U.ref hs.length,h2) | _ => none) = _; rw [h2]
 ·show (match callF (tb s) (n + 1) 15 [.ref hs.length,a,b] (hs ++ [.ins 5 []]) with | some (.non,h2) => some (U.ref hs.length,h2) | _ => none) = _; rw [h3]
 ·show (match callF (tb s) (n + 1) 17 [.ref hs.length,a,b,c,d] (hs ++ [.ins 6 []]) with | some (.non,h2) => some (U.ref hs.length,h2) | _ => none) = _; rw [h4]
 ·show (match callF (tb s) (n + 1) 20 [.ref hs.length,a] (hs ++ [.ins 8 []]) with | some (.non,h2) => some (U.ref hs.length,h2) | _ => none) = _; rw [h5]
 ·show (match callF (tb s) (n + 1) 22 [.ref hs.length,a] (hs ++ [.ins 9 []]) with | some (.non,h2) => some (U.ref hs.length,h2) | _ => none) = _; rw [h6]
def Sd (x:Int) (c:Nat):Prop:=(x = 1 /\ c = 107) \/ (x = -1 /\ c = 112)
def Cd (x:Int) (c:Nat):Prop:=(x = 1 /\ c = 99) \/ (x = -1 /\ c = 113)
def Dg (x:Int) (c:Nat):Prop:=(x = 1 /\ c = 49) \/ (x = 2 /\ c = 50) \/ (x = 3 /\ c = 51) \/ (x = 4 /\ c = 52)
def Dm (x:Int) (c:Nat):Prop:=(x = 2 /\ c = 50) \/ (x = 3 /\ c = 51) \/ (x = 4 /\ c = 52)
inductive MkO:O -> List Nat -> Prop where
 | plain {x:Int} {c:Nat}:Sd x c -> MkO (.ins 1 [(0,.int x 0)]) [c]
 | slip:MkO (.ins 2 []) [115]
 | over:MkO (.ins 3 []) [111]
 | off:MkO (.ins 7 []) [98]
 | keep {e:Nat}:e ∈ [119,120,121,122] -> MkO (.ins 8 [(5,.str [e])]) [104,e]
 | fetch {e:Nat}:e ∈ [119,120,121,122] -> MkO (.ins 9 [(5,.str [e])]) [102,e]
 | lean {x k:Int} {c e f:Nat}:Sd x c -> Dm k e -> f ∈ [114,108] -> MkO (.ins 4 [(1,.int k 0),(2,.str [f]),(0,.int x 0)]) [c,e,f]
 | grow {x k:Int} {c f:Nat}:Sd x c -> Dm k f -> MkO (.ins 5 [(1,.int k 0),(0,.int x 0)]) [c,120,f]
 | cross {x k j:Int} {c e f g:Nat}:Cd x c -> Dg k e -> f ∈ [102,98] -> Dg j g -> MkO (.ins 6 [(3,.int k 0),(4,.int j 0),(2,.str [f]),(0,.int x 0)]) [c,e,f,g]
theorem t3 {s:List U} {c:Nat} (h:c ∈ [107,112]):tbIn (tb s) (.con 3) (.str [c]) = some true /\ ∃ x,Sd x c /\ tabU (tb s) 3 (.str [c]) = some (.int x 0):=by
 simp only [List.mem_cons,List.not_mem_nil,or_false] at h
 rcases h with rfl | rfl
 ·exact ⟨rfl,1,.inl ⟨rfl,rfl⟩,rfl⟩
 ·exact ⟨rfl,-1,.inr ⟨rfl,rfl⟩,rfl⟩
theorem t4 {s:List U} {c:Nat} (h:c ∈ [99,113]):tbIn (tb s) (.con 4) (.str [c]) = some true /\ ∃ x,Cd x c /\ tabU (tb s) 4 (.str [c]) = some (.int x 0):=by
 simp only [List.mem_cons,List.not_mem_nil,or_false] at h
 rcases h with rfl | rfl
 ·exact ⟨rfl,1,.inl ⟨rfl,rfl⟩,rfl⟩
 ·exact ⟨rfl,-1,.inr ⟨rfl,rfl⟩,rfl⟩
theorem t7 {s:List U} {c:Nat} (h:c ∈ [50,51,52]):tbIn (tb s) (.con 7) (.str [c]) = some true /\ ∃ x,Dm x c /\ tabU (tb s) 7 (.str [c]) = some (.int x 0):=by
 simp only [List.mem_cons,List.not_mem_nil,or_false] at h
 rcases h with rfl | rfl | rfl
 ·exact ⟨rfl,2,.inl ⟨rfl,rfl⟩,rfl⟩
 ·exact ⟨rfl,3,.inr (.inl ⟨rfl,rfl⟩),rfl⟩
 ·exact ⟨rfl,4,.inr (.inr ⟨rfl,rfl⟩),rfl⟩
theorem t8 {s:List U} {c:Nat} (h:c ∈ [49,50,51,52]):tbIn (tb s) (.con 8) (.str [c]) = some true /\ ∃ x,Dg x c /\ tabU (tb s) 8 (.str [c]) = some (.int x 0):=by
 simp only [List.mem_cons,List.not_mem_nil,or_false] at h
 rcases h with rfl | rfl | rfl | rfl
 ·exact ⟨rfl,1,.inl ⟨rfl,rfl⟩,rfl⟩
 ·exact ⟨rfl,2,.inr (.inl ⟨rfl,rfl⟩),rfl⟩
 ·exact ⟨rfl,3,.inr (.inr (.inl ⟨rfl,rfl⟩)),rfl⟩
 ·exact ⟨rfl,4,.inr (.inr (.inr ⟨rfl,rfl⟩)),rfl⟩
theorem s1 {s:List U} {x:Int} {c:Nat} (h:Sd x c):tabU (tb s) 1 (.int x 0) = some (.str [c]):=by
 rcases h with ⟨rfl,rfl⟩ | ⟨rfl,rfl⟩ <;> rfl
theorem s2 {s:List U} {x:Int} {c:Nat} (h:Cd x c):tabU (tb s) 2 (.int x 0) = some (.str [c]):=by
 rcases h with ⟨rfl,rfl⟩ | ⟨rfl,rfl⟩ <;> rfl
theorem sg {T:Tbl} {x:Int} {c:Nat} {hs:Hs} (h:Dg x c):biU T .str [.int x 0] hs = some (.str [c],hs):=by
 rcases h with ⟨rfl,rfl⟩ | ⟨rfl,rfl⟩ | ⟨rfl,rfl⟩ | ⟨rfl,rfl⟩ <;> rfl
theorem Dm.dg {x:Int} {c:Nat} (h:Dm x c):Dg x c:=.inr h
theorem t5 {s:List U} {c:Nat} {hs:Hs} (h:c ∈ [114,108]):cmpU (tb s) .In (.str [c]) (.con 5) hs = some true:=by
 simp only [List.mem_cons,List.not_mem_nil,or_false] at h
 rcases h with rfl | rfl <;> rfl
theorem t6 {s:List U} {c:Nat} {hs:Hs} (h:c ∈ [102,98]):cmpU (tb s) .In (.str [c]) (.con 6) hs = some true:=by
 simp only [List.mem_cons,List.not_mem_nil,or_false] at h
 rcases h with rfl | rfl <;> rfl
theorem t0 {s:List U} {c:Nat} {hs:Hs} (h:c ∈ [119,120,121,122]):cmpU (tb s) .NotIn (.str [c]) (.con 0) hs = some false:=by
 simp only [List.mem_cons,List.not_mem_nil,or_false] at h
 rcases h with rfl | rfl | rfl | rfl <;> rfl
theorem i3 {s:List U} {x:U} {hs:Hs}:cmpU (tb s) .In x (.con 3) hs = tbIn (tb s) (.con 3) x:=rfl
theorem n3 {s:List U} {x:U} {hs:Hs}:cmpU (tb s) .NotIn x (.con 3) hs = (tbIn (tb s) (.con 3) x).map (!·):=rfl
theorem i4 {s:List U} {x:U} {hs:Hs}:cmpU (tb s) .In x (.con 4) hs = tbIn (tb s) (.con 4) x:=rfl
theorem i7 {s:List U} {x:U} {hs:Hs}:cmpU (tb s) .In x (.con 7) hs = tbIn (tb s) (.con 7) x:=rfl
theorem i8 {s:List U} {x:U} {hs:Hs}:cmpU (tb s) .In x (.con 8) hs = tbIn (tb s) (.con 8) x:=rfl
theorem e_eq {T:Tbl} {x y:List Nat} {hs:Hs}:cmpU T .Eq (.str x) (.str y) hs = some (decide (x = y)):=rfl
theorem e_ne {T:Tbl} {x y:List Nat} {hs:Hs}:cmpU T .NotEq (.str x) (.str y) hs = some (!decide (x = y)):=rfl
theorem e_eqi {T:Tbl} {i j:Int} {hs:Hs}:cmpU T .Eq (.int i 0) (.int j 0) hs = some (decide (i = j)):=rfl
theorem e_lti {T:Tbl} {i j:Int} {hs:Hs}:cmpU T .Lt (.int i 0) (.int j 0) hs = some (decide (i < j)):=rfl
inductive Mk:List Nat -> Prop where
 | one {c:Nat}:c ∈ [107,112,115,111,98] -> Mk [c]
 | two {c e:Nat}:c ∈ [104,102] -> e ∈ [119,120,121,122] -> Mk [c,e]
 | lean {c e f:Nat}:c ∈ [107,112] -> e ∈ [50,51,52] -> f ∈ [114,108] -> Mk [c,e,f]
 | grow {c f:Nat}:c ∈ [107,112] -> f ∈ [50,51,52] -> Mk [c,120,f]
 | cross {c e f g:Nat}:c ∈ [99,113] -> e ∈ [49,50,51,52] -> f ∈ [102,98] -> g ∈ [49,50,51,52] -> Mk [c,e,f,g]
theorem c_text {s:List U} {n:Nat} {m:List Nat} {hs:Hs} (hm:Mk m):∃ o,MkO o m /\ callF (tb s) (n + 3) 25 [.str m] hs = some (.ref hs.length,hs ++ [o]):=by
 rw [y_callF fnL[25] rfl rfl]
 show ∃ o,MkO o m /\ fin (exs (tb s) (callF (tb s) (n + 2)) 100 b25 [some (.str m),none] hs) = _
 obtain ⟨k1,k2,k3,k4,k5,k6,k7,k8,k9⟩:=c_make (s:=s) (n:=n) (hs:=hs)
 cases hm with
 | @one c hc =>
  have e:∃ o,MkO o [c] /\ callF (tb s) (n + 2) 26 [.str [c]] hs = some (.ref hs.length,hs ++ [o]):=by
   rw [y_callF fnL[26] rfl rfl]
   show ∃ o,MkO o [c] /\ fin (exs (tb s) (callF (tb s) (n + 1)) 100 b26 [some (.str [c])] hs) = _
   have sd:c ∈ [107,112] -> ∃ o,MkO o [c] /\ fin (exs (tb s) (callF (tb s) (n + 1)) 100 b26 [some (.str [c])] hs) = some (.ref hs.length,hs ++ [o]):=fun h => by
    obtain ⟨q1,x,q0,q2⟩:=t3 (s:=s) h
    exact ⟨_,.plain q0,by simp [b26,yy,evs,evO,srcU,turns,truU,subU,opU,addI,biU,biL,slU,fin,i3,q1,q2,k1,y_make,y_tab]⟩
   simp only [List.mem_cons,List.not_mem_nil,or_false] at hc
   rcases hc with h | h | h | h | h
   ·exact sd (by simp [h])
   ·exact sd (by simp [h])
   ·subst h
    have q1:tbIn (tb s) (.con 3) (.str [115]) = some false:=rfl
    exact ⟨_,.slip,by simp [b26,yy,evs,evO,srcU,turns,truU,subU,opU,addI,biU,biL,slU,fin,i3,q1,k7,y_make,e_eq]⟩
   ·subst h
    have q1:tbIn (tb s) (.con 3) (.str [111]) = some false:=rfl
    exact ⟨_,.over,by simp [b26,yy,evs,evO,srcU,turns,truU,subU,opU,addI,biU,biL,slU,fin,i3,q1,k8,y_make,e_eq]⟩
   ·subst h
    have q1:tbIn (tb s) (.con 3) (.str [98]) = some false:=rfl
    exact ⟨_,.off,by simp [b26,yy,evs,evO,srcU,turns,truU,subU,opU,addI,biU,biL,slU,fin,i3,q1,k9,y_make,e_eq]⟩
  obtain ⟨o,om,e⟩:=e
  exact ⟨o,om,by simp [b25,yy,evs,evO,srcU,turns,truU,subU,opU,addI,biU,biL,slU,fin,e_eqi,e]⟩
 | @two c g hc hg =>
  have e:∃ o,MkO o [c,g] /\ callF (tb s) (n + 2) 27 [.str [c],.str [g]] hs = some (.ref hs.length,hs ++ [o]):=by
   rw [y_callF fnL[27] rfl rfl]
   show ∃ o,MkO o [c,g] /\ fin (exs (tb s) (callF (tb s) (n + 1)) 100 b27 [some (.str [c]),some (.str [g])] hs) = _
   have q0:=t0 (s:=s) (hs:=hs) hg
   simp only [List.mem_cons,List.not_mem_nil,or_false] at hc
   rcases hc with h | h
   ·subst h
    exact ⟨_,.keep hg,by simp [b27,yy,evs,evO,srcU,turns,truU,subU,opU,addI,biU,biL,slU,fin,q0,k5,y_make,e_eq]⟩
   ·subst h
    exact ⟨_,.fetch hg,by simp [b27,yy,evs,evO,srcU,turns,truU,subU,opU,addI,biU,biL,slU,fin,q0,k6,y_make,e_eq]⟩
  obtain ⟨o,om,e⟩:=e
  exact ⟨o,om,by simp [b25,yy,evs,evO,srcU,turns,truU,subU,opU,addI,biU,biL,slU,fin,e_eqi,e,atU,ixU]⟩
 | @lean c g f hc hg hf =>
  have e:∃ o,MkO o [c,g,f] /\ callF (tb s) (n + 2) 28 [.str [c],.str [g],.str [f]] hs = some (.ref hs.length,hs ++ [o]):=by
   rw [y_callF fnL[28] rfl rfl]
   show ∃ o,MkO o [c,g,f] /\ fin (exs (tb s) (callF (tb s) (n + 1)) 100 b28 [some (.str [c]),some (.str [g]),some (.str [f])] hs) = _
   obtain ⟨q1,x,qx,q2⟩:=t3 (s:=s) hc
   obtain ⟨q3,y,qy,q4⟩:=t7 (s:=s) hg
   have q5:=t5 (s:=s) (hs:=hs) hf
   have ne:g ≠ 120:=fun z => by subst z; simp at hg
   exact ⟨_,.lean qx qy hf,by simp [b28,yy,evs,evO,srcU,turns,truU,subU,opU,addI,biU,biL,slU,fin,n3,i7,q1,q2,q3,q4,q5,k2,y_make,y_tab,e_eq,ne]⟩
  obtain ⟨o,om,e⟩:=e
  exact ⟨o,om,by simp [b25,yy,evs,evO,srcU,turns,truU,subU,opU,addI,biU,biL,slU,fin,e_eqi,e,atU,ixU]⟩
 | @grow c f hc hf =>
  have e:∃ o,MkO o [c,120,f] /\ callF (tb s) (n + 2) 28 [.str [c],.str [120],.str [f]] hs = some (.ref hs.length,hs ++ [o]):=by
   rw [y_callF fnL[28] rfl rfl]
   show ∃ o,MkO o [c,120,f] /\ fin (exs (tb s) (callF (tb s) (n + 1)) 100 b28 [some (.str [c]),some (.str [120]),some (.str [f])] hs) = _
   obtain ⟨q1,x,qx,q2⟩:=t3 (s:=s) hc
   obtain ⟨q3,y,qy,q4⟩:=t7 (s:=s) hf
   exact ⟨_,.grow qx qy,by simp [b28,yy,evs,evO,srcU,turns,truU,subU,opU,addI,biU,biL,slU,fin,n3,i7,q1,q2,q3,q4,k3,y_make,y_tab,e_eq]⟩
  obtain ⟨o,om,e⟩:=e
  exact ⟨o,om,by simp [b25,yy,evs,evO,srcU,turns,truU,subU,opU,addI,biU,biL,slU,fin,e_eqi,e,atU,ixU]⟩
 | @cross c g f w hc hg hf hw =>
  have e:∃ o,MkO o [c,g,f,w] /\ callF (tb s) (n + 2) 29 [.str [c],.str [g],.str [f],.str [w]] hs = some (.ref hs.length,hs ++ [o]):=by
   rw [y_callF fnL[29] rfl rfl]
   show ∃ o,MkO o [c,g,f,w] /\ fin (exs (tb s) (callF (tb s) (n + 1)) 100 b29 [some (.str [c]),some (.str [g]),some (.str [f]),some (.str [w])] hs) = _
   obtain ⟨q1,x,qx,q2⟩:=t4 (s:=s) hc
   obtain ⟨q3,y,qy,q4⟩:=t8 (s:=s) hg
   have q5:=t6 (s:=s) (hs:=hs) hf
   obtain ⟨q6,z,qz,q7⟩:=t8 (s:=s) hw
   exact ⟨_,.cross qx qy hf qz,by simp [b29,yy,evs,evO,srcU,turns,truU,subU,opU,addI,biU,biL,slU,fin,i4,i8,q1,q2,q3,q4,q5,q6,q7,k4,y_make,y_tab]⟩
  obtain ⟨o,om,e⟩:=e
  exact ⟨o,om,by simp [b25,yy,evs,evO,srcU,turns,truU,subU,opU,addI,biU,biL,slU,fin,e_eqi,e,atU,ixU]⟩
theorem c_stitch {s:List U} {n:Nat} {m:List Nat} {hs:Hs} (hm:Mk m):∃ o,MkO o m /\ callF (tb s) (n + 4) 24 [.str m] hs = some (.ref hs.length,hs ++ [o]):=by
 rw [y_callF fnL[24] rfl rfl]
 show ∃ o,MkO o m /\ fin (exs (tb s) (callF (tb s) (n + 3)) 100 b24 [some (.str m),none] hs) = _
 obtain ⟨o,om,e⟩:=c_text (s:=s) (n:=n) (hs:=hs) hm
 exact ⟨o,om,by simp [b24,yy,evs,evO,srcU,turns,cmpU,eq_int,truU,subU,opU,addI,biU,biL,slU,fin,e,isiU,kindU,isiB]⟩
theorem c_mrk {s:List U} {n p:Nat} {hs:Hs} {o:O} {m:List Nat} (hp:hs[p]? = some o) (h:MkO o m):∃ f,methL (tb s) 4 (.ref p) hs = some f /\ callF (tb s) (n + 1) f [.ref p] hs = some (.str m,hs):=by
 cases h with
 | plain a =>
  refine ⟨10,by simp only [methL,hp]; rfl,?_⟩
  rw [y_callF fnL[10] rfl rfl]
  show fin (exs (tb s) (callF (tb s) n) 100 b10 [some (.ref p)] hs) = _
  have a1:=s1 (s:=s) a
  simp [b10,yy,evs,evO,srcU,turns,cmpU,eq_int,truU,subU,opU,addI,biU,biL,slU,fin,y_fld,y_tab,hp,a1]
 | slip =>
  refine ⟨11,by simp only [methL,hp]; rfl,?_⟩
  rw [y_callF fnL[11] rfl rfl]
  show fin (exs (tb s) (callF (tb s) n) 100 b11 [some (.ref p)] hs) = _
  simp [b11,yy,evs,evO,srcU,turns,cmpU,eq_int,truU,subU,opU,addI,biU,biL,slU,fin]
 | over =>
  refine ⟨12,by simp only [methL,hp]; rfl,?_⟩
  rw [y_callF fnL[12] rfl rfl]
  show fin (exs (tb s) (callF (tb s) n) 100 b12 [some (.ref p)] hs) = _
  simp [b12,yy,evs,evO,srcU,turns,cmpU,eq_int,truU,subU,opU,addI,biU,biL,slU,fin]
 | off =>
  refine ⟨19,by simp only [methL,hp]; rfl,?_⟩
  rw [y_callF fnL[19] rfl rfl]
  show fin (exs (tb s) (callF (tb s) n) 100 b19 [some (.ref p)] hs) = _
  simp [b19,yy,evs,evO,srcU,turns,cmpU,eq_int,truU,subU,opU,addI,biU,biL,slU,fin]
 | keep =>
  refine ⟨21,by simp only [methL,hp]; rfl,?_⟩
  rw [y_callF fnL[21] rfl rfl]
  show fin (exs (tb s) (callF (tb s) n) 100 b21 [some (.ref p)] hs) = _
  simp [b21,yy,evs,evO,srcU,turns,cmpU,eq_int,truU,subU,opU,addI,biU,biL,slU,fin,y_fld,hp]
 | fetch =>
  refine ⟨23,by simp only [methL,hp]; rfl,?_⟩
  rw [y_callF fnL[23] rfl rfl]
  show fin (exs (tb s) (callF (tb s) n) 100 b23 [some (.ref p)] hs) = _
  simp [b23,yy,evs,evO,srcU,turns,cmpU,eq_int,truU,subU,opU,addI,biU,biL,slU,fin,y_fld,hp]
 | lean a b =>
  refine ⟨14,by simp only [methL,hp]; rfl,?_⟩
  rw [y_callF fnL[14] rfl rfl]
  show fin (exs (tb s) (callF (tb s) n) 100 b14 [some (.ref p)] hs) = _
  have a1:=s1 (s:=s) a
  have a2:=sg (T:=tb s) (hs:=hs) b.dg
  simp [b14,yy,evs,evO,srcU,turns,cmpU,eq_int,truU,subU,opU,addI,slU,fin,y_fld,y_tab,hp,a1,a2,List.lookup]
 | grow a b =>
  refine ⟨16,by simp only [methL,hp]; rfl,?_⟩
  rw [y_callF fnL[16] rfl rfl]
  show fin (exs (tb s) (callF (tb s) n) 100 b16 [some (.ref p)] hs) = _
  have a1:=s1 (s:=s) a
  have a2:=sg (T:=tb s) (hs:=hs) b.dg
  simp [b16,yy,evs,evO,srcU,turns,cmpU,eq_int,truU,subU,opU,addI,slU,fin,y_fld,y_tab,hp,a1,a2,List.lookup]
 | cross a b _ c =>
  refine ⟨18,by simp only [methL,hp]; rfl,?_⟩
  rw [y_callF fnL[18] rfl rfl]
  show fin (exs (tb s) (callF (tb s) n) 100 b18 [some (.ref p)] hs) = _
  have a1:=s2 (s:=s) a
  have a2:=sg (T:=tb s) (hs:=hs) b
  have a3:=sg (T:=tb s) (hs:=hs) c
  simp [b18,yy,evs,evO,srcU,turns,cmpU,eq_int,truU,subU,opU,addI,slU,fin,y_fld,y_tab,hp,a1,a2,a3,List.lookup]
abbrev stz (ms:List (List Nat)):List U:=ms.map U.str
def IsM (hs:Hs) (u:U) (m:List Nat):Prop:=∃ (p:Nat) (o:O),u = .ref p /\ hs[p]? = some o /\ MkO o m
theorem IsM.keep {hs h1:Hs} {u:U} {m:List Nat} (kp:Kp hs h1):IsM hs u m -> IsM h1 u m:=fun ⟨p,o,e,h,k⟩ => ⟨p,o,e,kp _ _ h,k⟩
def Row (hs:Hs) (q:Nat) (ms:List (List Nat)):Prop:=∃ is,hs[q]? = some (.lst is) /\ Paired (IsM hs) is ms
theorem Row.keep {hs h1:Hs} {q:Nat} {ms:List (List Nat)} (kp:Kp hs h1):Row hs q ms -> Row h1 q ms:=fun ⟨is,h,p⟩ => ⟨is,kp _ _ h,prImp p fun _ _ => IsM.keep kp⟩
structure Good (ms:List (List Nat)):Prop where
 n:ms.length <= 100
 m:∀ m ∈ ms,Mk m
theorem paired_map {β:Type} {g:β -> U} {ws:List U} {ds:List β} (h:Paired (fun v d => v = g d) ws ds):ws = ds.map g:=by
 induction h with
 | nil => rfl
 | cons e _ ih => rw [e,ih]; rfl
theorem Mk.ascii {m:List Nat} (h:Mk m):∀ c ∈ m,c < 128:=by
 have lt:∀ {l:List Nat} {c:Nat},c ∈ l -> (∀ x ∈ l,x < 128) -> c < 128:=fun h k => k _ h
 cases h with
 | one a => intro c hc; simp only [List.mem_cons,List.not_mem_nil,or_false] at hc; subst hc; exact lt a (by decide)
 | two a b => intro c hc; simp only [List.mem_cons,List.not_mem_nil,or_false] at hc; rcases hc with rfl | rfl <;> first | exact lt a (by decide) | exact lt b (by decide)
 | lean a b d => intro c hc; simp only [List.mem_cons,List.not_mem_nil,or_false] at hc; rcases hc with rfl | rfl | rfl <;> first | exact lt a (by decide) | exact lt b (by decide) | exact lt d (by decide)
 | grow a b => intro c hc; simp only [List.mem_cons,List.not_mem_nil,or_false] at hc; rcases hc with rfl | rfl | rfl <;> first | exact lt a (by decide) | exact lt b (by decide) | decide
 | cross a b d e => intro c hc; simp only [List.mem_cons,List.not_mem_nil,or_false] at hc; rcases hc with rfl | rfl | rfl | rfl <;> first | exact lt a (by decide) | exact lt b (by decide) | exact lt d (by decide) | exact lt e (by decide)
theorem stz_inj {a b:List (List Nat)} (h:stz a = stz b):a = b:=by
 induction a generalizing b with
 | nil => cases b with
  | nil => rfl
  | cons _ _ => cases h
 | cons x a ih => cases b with
  | nil => cases h
  | cons y b =>
   simp only [stz,List.map_cons,List.cons.injEq,U.str.injEq] at h
   rw [h.1,ih h.2]
theorem zip_dec {T:Tbl} {n:Nat} {hs:Hs}:∀ {a b:List (List Nat)},a.length = b.length -> ((stz a).zip (stz b)).all (fun p => eqW T (n + 1) p.1 p.2 hs) = decide (a = b)
 | [],[],_ => rfl
 | x :: a,y :: b,h => by
  have e:eqW T (n + 1) (.str x) (.str y) hs = (x == y):=by simp [eqW,lstU,tupU,eqB]
  simp only [stz,List.map_cons,List.zip_cons_cons,List.all_cons,e]
  have ih:=zip_dec (T:=T) (n:=n) (hs:=hs) (a:=a) (b:=b) (by simpa using h)
  simp only [stz] at ih
  rw [ih]
  by_cases hx:x = y
  ·subst hx
   simp
  ·simp [hx]
 | [],_ :: _,h => by cases h
 | _ :: _,[],h => by cases h
theorem eq_dec {T:Tbl} {p q:Nat} {a b:List (List Nat)} {hs:Hs} (ha:hs[p]? = some (.lst (stz a))) (hb:hs[q]? = some (.lst (stz b))) (ga:∀ m ∈ a,Mk m) (gb:∀ m ∈ b,Mk m):eqA T (.ref p) (.ref q) hs = some (decide (a = b)):=by
 have ok:∀ {p:Nat} {ms:List (List Nat)},hs[p]? = some (.lst (stz ms)) -> (∀ m ∈ ms,Mk m) -> okW T 20 (.ref p) hs = true:=fun {p ms} hp g => by
  show (match lstU T (.ref p) hs with | some xs => xs.all fun x => okW T 19 x hs | none => _) = true
  simp only [lstU,hp]
  rw [List.all_eq_true]
  intro u hu
  simp only [stz,List.mem_map] at hu
  obtain ⟨m,hm,rfl⟩:=hu
  simp only [okW,lstU,tupU,List.all_eq_true,decide_eq_true_eq]
  exact (g m hm).ascii
 have es:eqS (.ref p) (.ref q) = none:=rfl
 unfold eqA
 rw [es]
 show (if lenNe T (.ref p) (.ref q) hs = true then some false else if sameR T (.ref p) (.ref q) hs = true then some true else if (okW T 20 (.ref p) hs && okW T 20 (.ref q) hs) = true then some (eqW T 20 (.ref p) (.ref q) hs) else none) = _
 by_cases l:a.length = b.length
 ·have ln:lenNe T (.ref p) (.ref q) hs = false:=by simp [lenNe,lstU,ha,hb,l]
  have eq:eqW T 20 (.ref p) (.ref q) hs = decide (a = b):=by
   show (match lstU T (.ref p) hs with
    | some xs => (match lstU T (.ref q) hs with
     | some ys => (xs.length == ys.length) && (xs.zip ys).all fun p => eqW T 19 p.1 p.2 hs
     | none => false)
    | none => _) = _
   simp only [lstU,ha,hb]
   rw [zip_dec l]
   simp [stz,l]
  rw [ln,ok ha ga,ok hb gb,eq]
  cases sr:sameR T (.ref p) (.ref q) hs with
  | false => rfl
  | true =>
   have:stz a = stz b:=by
    simp only [sameR,lstU,ha,hb,Bool.and_eq_true,decide_eq_true_eq] at sr
    exact sr.1
   rw [stz_inj this]
   simp
 ·have ln:lenNe T (.ref p) (.ref q) hs = true:=by simp [lenNe,lstU,ha,hb,l]
  have ne:a ≠ b:=fun z => l (by rw [z])
  rw [ln,if_pos rfl,decide_eq_false ne]
abbrev iz (xs:List Int):List U:=xs.map fun i => U.int i 0
def LI (h:Hs) (u:U) (xs:List Int):Prop:=∃ q,u = .ref q /\ h[q]? = some (.lst (iz xs))
theorem LI.keep {h h':Hs} {u:U} {xs:List Int} (kp:Kp h h'):LI h u xs -> LI h' u xs:=fun ⟨q,e,x⟩ => ⟨q,e,kp _ _ x⟩
theorem comp_flt {β:Type} {T:Tbl} {f:Ev} {ft:Rho -> Hs -> Option (Bool × Hs)} {el:E} {ρ:Rho} {P:U -> β -> Prop} {tst:β -> Bool} {g:β -> U} {hs0:Hs} {w:Wk} {us:List U}
  (hw:∀ h i,Kp hs0 h -> i <= us.length -> itm T w i h = some ((us[i]?).map .one)) (hz:us.length <= 1000)
  (test:∀ u d,P u d -> ∀ h,Kp hs0 h -> ∃ h',Kp h h' /\ ft (ρ ++ [some u]) h = some (tst d,h'))
  (step:∀ u d,P u d -> ∀ h,Kp hs0 h -> ∃ h',Kp h h' /\ f el (ρ ++ [some u]) h = some (g d,h')):∀ (vs:List U) (ds:List β),Paired P vs ds -> ∀ (i:Nat) (acc:List U) (h:Hs),us.drop i = vs -> acc.length <= i -> i <= us.length -> Kp hs0 h ->
  ∃ h',Kp h h' /\ compU T f ft w false el ρ (vs.length + 1) i acc h = some (acc ++ (ds.filter tst).map g,h'):=by
 intro vs ds pr
 induction pr with
 | nil =>
  intro i acc h hd ha hi kp
  refine ⟨h,Kp.refl _,?_⟩
  rw [compU]
  simp only [hw h i kp hi,drop_nil hd,Option.map_none,List.filter_nil,List.map_nil,List.append_nil]
 | @cons u d vs ds p _ ih =>
  intro i acc h hd ha hi kp
  obtain ⟨g1,g2⟩:=drop_cons hd
  have lt:=(List.getElem?_eq_some_iff.mp g1).1
  obtain ⟨h1,k1,e1⟩:=test u d p h kp
  have s1:(ρ ++ [none]).set ρ.length (some u) = ρ ++ [some u]:=by rw [List.set_append_right _ _ (Nat.le_refl _)]; simp
  rw [List.length_cons,compU]
  simp only [hw h i kp hi,Option.map_some,g1,tgt,tgN,padN,Bool.false_eq_true,if_false,s1,if_pos (show acc.length < 1000000 by omega),e1,y_bd]
  cases ht:tst d with
  | true =>
   obtain ⟨h2,k2,e2⟩:=step u d p h1 (kp.trans k1)
   obtain ⟨h3,k3,e3⟩:=ih (i + 1) (acc ++ [g d]) h2 g2 (by simp; omega) (by omega) (kp.trans (k1.trans k2))
   refine ⟨h3,k1.trans (k2.trans k3),?_⟩
   rw [if_pos rfl,e2,y_bd,e3,List.filter_cons,ht]
   simp
  | false =>
   obtain ⟨h3,k3,e3⟩:=ih (i + 1) acc h1 g2 (by omega) (by omega) (kp.trans k1)
   refine ⟨h3,k1.trans k3,?_⟩
   rw [if_neg (by decide),e3,List.filter_cons,ht]
   simp
def rgN (lo n:Nat):List Nat:=(List.range n).map fun i => lo + i
theorem rgN_len {lo n:Nat}:(rgN lo n).length = n:=by simp [rgN]
theorem rgN_get {lo n i:Nat} (h:i < n):(rgN lo n)[i]? = some (lo + i):=by simp [rgN,h]
theorem rgN_mem {lo n j:Nat} (h:j ∈ rgN lo n):lo <= j /\ j < lo + n:=by
 simp only [rgN,List.mem_map,List.mem_range] at h
 obtain ⟨i,hi,rfl⟩:=h
 omega
abbrev nz (xs:List Nat):List U:=xs.map fun (i:Nat) => U.int (i:Int) 0
theorem w_rng {T:Tbl} {hs0:Hs} {lo n:Nat}:∀ h i,Kp hs0 h -> i <= (nz (rgN lo n)).length -> itm T (.rng (lo:Int) n) i h = some (((nz (rgN lo n))[i]?).map .one):=fun h i _ hi => by
 simp only [itm,nz,List.getElem?_map]
 by_cases l:i < n
 ·rw [if_pos l,rgN_get l]
  simp
 ·rw [if_neg l,List.getElem?_eq_none (by rw [rgN_len]; omega)]
  rfl
theorem pr_nz {G:Nat -> Prop}:∀ {xs:List Nat},(∀ x ∈ xs,G x) -> Paired (fun (u:U) (i:Nat) => u = .int (i:Int) 0 /\ G i) (nz xs) xs
 | [],_ => .nil
 | x :: _,h => .cons ⟨rfl,h x List.mem_cons_self⟩ (pr_nz fun y hy => h y (List.mem_cons_of_mem _ hy))
theorem sm4 {n:Nat} (h:n <= 1000):small64 ((n:Int) * 4) = true:=by
 unfold small64
 rw [decide_eq_true (by omega),decide_eq_true (by omega)]
 rfl
theorem s_rng0 {T:Tbl} {f:Ev} {ρ:Rho} {a:E} {i:Int} {h h1:Hs} (e:f a ρ h = some (.int i 0,h1)):srcU T f ρ (.rng a) h = if small64 (i * 4) = true then some (.rng 0 i.toNat,h1) else none:=by
 simp only [srcU,e,y_bd]
theorem s_rng {T:Tbl} {f:Ev} {ρ:Rho} {a:E} {n:Nat} {h h1:Hs} (e:f a ρ h = some (.int (n:Int) 0,h1)) (hn:n <= 1000):srcU T f ρ (.rng a) h = some (.rng ((0:Nat):Int) n,h1):=by
 rw [s_rng0 e,if_pos (sm4 hn),Int.toNat_natCast]
 rfl
theorem s_rng20 {T:Tbl} {f:Ev} {ρ:Rho} {a b:E} {i j:Int} {h h1 h2:Hs} (ea:f a ρ h = some (.int i 0,h1)) (eb:f b ρ h1 = some (.int j 0,h2)):srcU T f ρ (.rng2 a b) h = if (small64 (i * 4) && small64 (j * 4)) = true then some (.rng i (j - i).toNat,h2) else none:=by
 simp only [srcU,ea,eb,y_bd]
theorem s_rng2 {T:Tbl} {f:Ev} {ρ:Rho} {a b:E} {i j:Nat} {h h1 h2:Hs} (ea:f a ρ h = some (.int (i:Int) 0,h1)) (eb:f b ρ h1 = some (.int (j:Int) 0,h2)) (hi:i <= 1000) (hj:j <= 1000):srcU T f ρ (.rng2 a b) h = some (.rng (i:Int) (j - i),h2):=by
 have e:((j:Int) - (i:Int)).toNat = j - i:=by omega
 have s:(small64 ((i:Int) * 4) && small64 ((j:Int) * 4)) = true:=by rw [sm4 hi,sm4 hj]; rfl
 rw [s_rng20 ea eb,if_pos s,e]
theorem c_rg {T:Tbl} {cf:Cf} {d:Nat} {src:Src} {t:Option E} {el:E} {ρ:Rho} {G:Nat -> Prop} {tst:Nat -> Bool} {g:Nat -> U} {hs hs0:Hs} {lo n:Nat} (es:srcU T (ev T cf d) ρ src hs = some (.rng (lo:Int) n,hs0)) (hz:n <= 1000) (hG:∀ x,lo <= x -> x < lo + n -> G x)
  (test:∀ x,G x -> ∀ h,Kp hs0 h -> ∃ h',Kp h h' /\ evTO (evT T cf d) t (ρ ++ [some (.int (x:Int) 0)]) h = some (tst x,h'))
  (step:∀ x,G x -> ∀ h,Kp hs0 h -> ∃ h',Kp h h' /\ ev T cf d el (ρ ++ [some (.int (x:Int) 0)]) h = some (g x,h')) :
  ∃ h',Kp hs0 h' /\ ev T cf (d + 1) (.comp src false t el) ρ hs = some (.ref h'.length,h' ++ [.lst (((rgN lo n).filter tst).map g)]):=by
 obtain ⟨h',k,e⟩:=comp_flt (T:=T) (f:=ev T cf d) (ft:=evTO (evT T cf d) t) (el:=el) (ρ:=ρ) (P:=fun (u:U) (i:Nat) => u = .int (i:Int) 0 /\ G i) (tst:=tst) (g:=g) (hs0:=hs0) (w_rng (T:=T)) (by simp [rgN_len]; omega) (fun u x ⟨e,gx⟩ h kp => by subst e; exact test x gx h kp) (fun u x ⟨e,gx⟩ h kp => by subst e; exact step x gx h kp)
  (nz (rgN lo n)) (rgN lo n) (pr_nz fun x hx => hG x (rgN_mem hx).1 (rgN_mem hx).2) 0 [] hs0 rfl (by simp) (by simp) (Kp.refl _)
 have l:(nz (rgN lo n)).length = n:=by simp [rgN_len]
 rw [l] at e
 exact ⟨h',k,by simp only [y_comp,es,y_bd,turns,e,List.nil_append]⟩
theorem for_rg {T:Tbl} {body:Ex} {x lo N:Nat} (I:Nat -> Rho -> Hs -> Prop)
  (step:∀ i ρ h,i < N -> I i ρ h -> ∃ ρ' h',I (i + 1) ρ' h' /\ body (ρ.set x (some (.int ((lo + i:Nat):Int) 0))) h = some (.next,ρ',h')):∀ (k i:Nat) (ρ:Rho) (h:Hs),i + k = N -> I i ρ h ->
  ∃ ρ' h',I N ρ' h' /\ forU T (.rng (lo:Int) N) (.name x) body (k + 1) i ρ h = some (.next,ρ',h')
 | 0,i,ρ,h,hi,hI => ⟨ρ,h,by rw [<- hi]; exact hI,by
  rw [forU]
  simp only [itm,if_neg (show ¬ i < N by omega)]⟩
 | k + 1,i,ρ,h,hi,hI => by
  have l1:i < N:=by omega
  obtain ⟨ρ1,h1,I1,e⟩:=step i ρ h l1 hI
  obtain ⟨ρ2,h2,I2,e'⟩:=for_rg I step k (i + 1) ρ1 h1 (by omega) I1
  refine ⟨ρ2,h2,I2,?_⟩
  rw [forU]
  rw [Int.natCast_add] at e
  simp only [itm,if_pos l1,tgt,e]
  exact e'
theorem x_for {T:Tbl} {cf:Cf} {d x lo N:Nat} {src:Src} {body:List S} {ρ:Rho} {h h0:Hs} {r:Option (Fl × Rho × Hs)} (es:srcU T (ev T cf d) ρ src h = some (.rng (lo:Int) N,h0)) (lp:forU T (.rng (lo:Int) N) (.name x) (exs T cf d body) (N + 1) 0 ρ h0 = r):ex T cf (d + 1) (.loop (.name x) src body) ρ h = r:=by
 rw [y_loop,es,y_bd]
 exact lp
theorem m_div {i j:Int} (h:0 < j /\ j < 100):divI (.int i 0) (.int j 0) = some (.int (i / j) 0):=by
 have h1:(0 < j && decide (j < 1606938044258990275541962092341162602522202993782792835301376)) = true:=by
  simp only [Bool.and_eq_true,decide_eq_true_eq]
  omega
 show (if (0 < j && decide (j < 1606938044258990275541962092341162602522202993782792835301376)) = true then some (U.int (i / j) 0) else none) = _
 rw [if_pos h1]
theorem m_mod {i j:Int} (h:0 < j):modI (.int i 0) (.int j 0) = some (.int (i % j) 0):=if_pos h
def again (ms:List (List Nat)) (st len o:Nat):Bool:=decide (len % o = 0) && decide ((ms.drop st).take (len - o) = (ms.drop (st + o)).take (len - o))
def cutL (f:Nat -> Nat -> Int) (st len:Nat):List Int:=(rgN 1 (len - 1)).map fun i => f st i + f (st + i) (len - i)
def onces (ms:List (List Nat)) (st len:Nat):List Nat:=(rgN 1 (len / 2)).filter (again ms st len)
def repL (ms:List (List Nat)) (f:Nat -> Nat -> Int) (st len:Nat):List Int:=(onces ms st len).map fun o => 1 + f st o
def best (ms:List (List Nat)) (f:Nat -> Nat -> Int) (st len:Nat):Int:=if len = 1 then 1 else (minU (cutL f st len ++ repL ms f st len)).getD 0
def vals (ms:List (List Nat)):Nat -> Nat -> Nat -> Int
 | 0,_,_ => 0
 | k + 1,st,len => if len <= k then vals ms k st len else best ms (vals ms k) st len
def fw (ms:List (List Nat)) (st len:Nat):Int:=vals ms len st len
theorem vals_fw {ms:List (List Nat)}:∀ {k st len:Nat},len <= k -> vals ms k st len = fw ms st len
 | 0,st,len,h => by rw [show len = 0 by omega]; rfl
 | k + 1,st,len,h => by
  by_cases l:len <= k
  ·show (if len <= k then vals ms k st len else best ms (vals ms k) st len) = _
   rw [if_pos l]
   exact vals_fw l
  ·rw [show len = k + 1 by omega]
   rfl
theorem best_congr {ms:List (List Nat)} {f g:Nat -> Nat -> Int} {st len:Nat} (h:∀ a j,1 <= j -> j < len -> f a j = g a j):best ms f st len = best ms g st len:=by
 have e1:cutL f st len = cutL g st len:=List.map_congr_left fun i hi => by
  have:=rgN_mem hi
  rw [h st i (by omega) (by omega),h (st + i) (len - i) (by omega) (by omega)]
 have e2:repL ms f st len = repL ms g st len:=List.map_congr_left fun i hi => by
  have:=rgN_mem (List.mem_filter.mp hi).1
  rw [h st i (by omega) (by omega)]
 unfold best
 rw [e1,e2]
theorem fw_best {ms:List (List Nat)} {st len:Nat} (h:1 <= len):fw ms st len = best ms (fw ms) st len:=by
 obtain ⟨k,rfl⟩:∃ k,len = k + 1:=⟨len - 1,by omega⟩
 show (if k + 1 <= k then vals ms k st (k + 1) else best ms (vals ms k) st (k + 1)) = _
 rw [if_neg (by omega)]
 exact best_congr fun a j _ hj => vals_fw (by omega)
theorem cutL_cons {f:Nat -> Nat -> Int} {st len:Nat} (h:2 <= len):∃ r,cutL f st len = (f st 1 + f (st + 1) (len - 1)) :: r:=by
 obtain ⟨k,rfl⟩:∃ k,len = k + 2:=⟨len - 2,by omega⟩
 unfold cutL rgN
 rw [show k + 2 - 1 = k + 1 by omega,List.range_succ_eq_map]
 exact ⟨_,rfl⟩
theorem minU_cons {z:Int} {r:List Int}:∃ m,minU (z :: r) = some m /\ m <= z:=⟨_,rfl,(minI_le r z).1⟩
def Tb (h:Hs) (T b N:Nat):Prop:=h[T]? = some (.lst ((List.range N).map fun i => U.ref (b + i)))
def En (ms:List (List Nat)) (h:Hs) (b N L:Nat):Prop:=∀ i j,1 <= j -> j < L -> i + j <= N -> ∃ xs,h[b + i]? = some (.lst xs) /\ xs[j - 1]? = some (.int (fw ms i j) 0)
theorem Tb.keep {h h':Hs} {T b N:Nat} (k:Kp h h') (t:Tb h T b N):Tb h' T b N:=k _ _ t
theorem En.keep {ms:List (List Nat)} {h h':Hs} {b N L:Nat} (k:Kp h h') (t:En ms h b N L):En ms h' b N L:=fun i j a b c => by
 obtain ⟨xs,e,g⟩:=t i j a b c
 exact ⟨xs,k _ _ e,g⟩
theorem at_nat {α:Type} {us:List α} {i:Nat} {u:α} (h:us[i]? = some u):atU us (i:Int) = some u:=by
 have lt:=(List.getElem?_eq_some_iff.mp h).1
 unfold atU ixU
 rw [if_pos (by omega),if_pos (by omega)]
 simpa using h
theorem v_tab {TT:Tbl} {cf:Cf} {d a i j T b N L:Nat} {e1 e2:E} {ms:List (List Nat)} {ρ:Rho} {h:Hs} (ha:ρ[a]? = some (some (.ref T))) (hT:Tb h T b N) (hE:En ms h b N L) (h1:ev TT cf (d + 1) e1 ρ h = some (.int (i:Int) 0,h)) (h2:ev TT cf (d + 2) e2 ρ h = some (.int ((j:Int) - 1) 0,h)) (j1:1 <= j) (jL:j < L) (ij:i + j <= N) :
  ev TT cf (d + 3) (.ix (.ix (.var a) e1) e2) ρ h = some (.int (fw ms i j) 0,h):=by
 obtain ⟨xs,hx,gx⟩:=hE i j j1 jL ij
 have g1:((List.range N).map fun i => U.ref (b + i))[i]? = some (.ref (b + i)):=by rw [List.getElem?_map,List.getElem?_range (by omega)]; rfl
 have ej:(j:Int) - 1 = ((j - 1:Nat):Int):=by omega
 rw [ej] at h2
 unfold Tb at hT
 simp only [y_ix,y_var,ha,y_bd,h1,subU,hT,at_nat g1,Option.map_some,h2,hx,at_nat gx]
section
variable {s:List U} {n T b N L st len q:Nat} {ms:List (List Nat)} {h:Hs}
theorem c_cut {o:Nat} (hT:Tb h T b N) (hE:En ms h b N L) (hL:len <= L) (ho:1 <= o) (ol:o < len) (hN:st + len <= N):callF (tb s) (n + 1) 5 [.ref T,.int (st:Int) 0,.int (len:Int) 0,.int (o:Int) 0] h = some (.int (fw ms st o + fw ms (st + o) (len - o)) 0,h):=by
 have e1:ev (tb s) (callF (tb s) n) 97 (.ix (.ix (.var 0) (.var 1)) (.op .Sub (.var 3) (.c (.int 1 0)))) [some (.ref T),some (.int (st:Int) 0),some (.int (len:Int) 0),some (.int (o:Int) 0)] h = some (.int (fw ms st o) 0,h) :=
  v_tab (by rfl) hT hE (by rw [y_var]; rfl) (by simp only [y_op,y_var,y_c,y_bd,List.getElem?_cons_zero,List.getElem?_cons_succ,opU,subI,gz,Option.map_some]) ho (by omega) (by omega)
 have e2:ev (tb s) (callF (tb s) n) 97 (.ix (.ix (.var 0) (.op .Add (.var 1) (.var 3))) (.op .Sub (.op .Sub (.var 2) (.var 3)) (.c (.int 1 0)))) [some (.ref T),some (.int (st:Int) 0),some (.int (len:Int) 0),some (.int (o:Int) 0)] h = some (.int (fw ms (st + o) (len - o)) 0,h):=by
  refine v_tab (i:=st + o) (j:=len - o) (by rfl) hT hE ?_ ?_ (by omega) (by omega) (by omega)
  ·simp only [y_op,y_var,y_bd,List.getElem?_cons_zero,List.getElem?_cons_succ,opU,addI,gz,Int.natCast_add]
  ·have e:((len:Int) - (o:Int)) = ((len - o:Nat):Int):=by omega
   simp only [y_op,y_var,y_c,y_bd,List.getElem?_cons_zero,List.getElem?_cons_succ,opU,subI,gz,Option.map_some,e]
 rw [y_callF fnL[5] rfl rfl]
 show fin (exs (tb s) (callF (tb s) n) 100 b5 [some (.ref T),some (.int (st:Int) 0),some (.int (len:Int) 0),some (.int (o:Int) 0)] h) = _
 rw [b5,y_cons,y_ret,y_op,e1,y_bd,e2]
 rfl
theorem cut_nat {α:Type} {xs:List α} {i j:Nat} (hj:j <= xs.length) (hi:i <= j):cutU xs (some (i:Int)) (some (j:Int)) = (xs.drop i).take (j - i):=by
 have a:cutIx xs.length 0 (some (i:Int)) = i:=by
  simp only [cutIx]
  rw [if_neg (by omega),Int.toNat_natCast]; omega
 have b:cutIx xs.length xs.length (some (j:Int)) = j:=by
  simp only [cutIx]
  rw [if_neg (by omega),Int.toNat_natCast]; omega
 unfold cutU
 rw [a,b]
theorem cut_stz {i j:Nat} (hj:j <= ms.length) (hi:i <= j):cutU (stz ms) (some (i:Int)) (some (j:Int)) = stz ((ms.drop i).take (j - i)):=by
 rw [cut_nat (by simpa [stz] using hj) hi]
 simp [stz,List.map_drop,List.map_take]
theorem v_andT {TT:Tbl} {cf:Cf} {d:Nat} {a b:E} {ρ:Rho} {h h1 h2:Hs} {v:U} (ea:ev TT cf d a ρ h = some (.bl true,h1)) (eb:ev TT cf d b ρ h1 = some (v,h2)):ev TT cf (d + 1) (.and a b) ρ h = some (v,h2):=by
 rw [y_and,ea,y_bd]; exact eb
theorem v_andF {TT:Tbl} {cf:Cf} {d:Nat} {a b:E} {ρ:Rho} {h h1:Hs} (ea:ev TT cf d a ρ h = some (.bl false,h1)):ev TT cf (d + 1) (.and a b) ρ h = some (.bl false,h1):=by
 rw [y_and,ea,y_bd]
def aT:E:=.cmp .Eq (.op .Mod (.var 2) (.var 3)) (.c (.int 0 0))
def aS:E:=.cmp .Eq (.sl (.var 0) (some (.var 1)) (some (.op .Sub (.var 4) (.var 3)))) (.sl (.var 0) (some (.op .Add (.var 1) (.var 3))) (some (.var 4)))
theorem bag_is:b7 = [.set 4 (.op .Add (.var 1) (.var 2)),.ret (.and aT aS)]:=rfl
theorem mem_cut {i j:Nat} {m:List Nat} (g:Good ms) (h:m ∈ (ms.drop i).take j):Mk m:=g.m m (List.mem_of_mem_drop (List.mem_of_mem_take h))
theorem c_again {o:Nat} (hq:h[q]? = some (.lst (stz ms))) (g:Good ms) (ho:1 <= o) (ol:o <= len) (hN:st + len <= ms.length):∃ h',Kp h h' /\ callF (tb s) (n + 1) 7 [.ref q,.int (st:Int) 0,.int (len:Int) 0,.int (o:Int) 0] h = some (.bl (again ms st len o),h'):=by
 have e0:ex (tb s) (callF (tb s) n) 99 (.set 4 (.op .Add (.var 1) (.var 2))) [some (.ref q),some (.int (st:Int) 0),some (.int (len:Int) 0),some (.int (o:Int) 0),none] h = some (.next,[some (.ref q),some (.int (st:Int) 0),some (.int (len:Int) 0),some (.int (o:Int) 0),some (.int ((st + len:Nat):Int) 0)],h):=by
  simp only [y_set,y_op,y_var,y_bd,List.getElem?_cons_zero,List.getElem?_cons_succ,opU,addI,gz,Int.natCast_add]
  rfl
 have eT:ev (tb s) (callF (tb s) n) 96 aT [some (.ref q),some (.int (st:Int) 0),some (.int (len:Int) 0),some (.int (o:Int) 0),some (.int ((st + len:Nat):Int) 0)] h = some (.bl (decide (len % o = 0)),h):=by
  refine v_cmp (u:=.int ((len:Int) % (o:Int)) 0) (w:=.int 0 0) ?_ y_c ?_
  ·simp only [y_op,y_var,y_bd,List.getElem?_cons_zero,List.getElem?_cons_succ,opU,m_mod (show (0:Int) < (o:Int) by omega),Option.map_some]
  ·rw [e_eqi]
   congr 1
   rw [decide_eq_decide]
   omega
 have c1:cutU (stz ms) (some (st:Int)) (some (((st + len:Nat):Int) - (o:Int))) = stz ((ms.drop st).take (len - o)):=by
  rw [show ((st + len:Nat):Int) - (o:Int) = ((st + len - o:Nat):Int) by omega,cut_stz (by omega) (by omega)]
  rw [show st + len - o - st = len - o by omega]
 have c2:cutU (stz ms) (some ((st:Int) + (o:Int))) (some ((st + len:Nat):Int)) = stz ((ms.drop (st + o)).take (len - o)):=by
  rw [show (st:Int) + (o:Int) = ((st + o:Nat):Int) by omega,cut_stz (by omega) (by omega)]
  rw [show st + len - (st + o) = len - o by omega]
 have s1:ev (tb s) (callF (tb s) n) 95 (.sl (.var 0) (some (.var 1)) (some (.op .Sub (.var 4) (.var 3)))) [some (.ref q),some (.int (st:Int) 0),some (.int (len:Int) 0),some (.int (o:Int) 0),some (.int ((st + len:Nat):Int) 0)] h = some (.ref h.length,h ++ [.lst (stz ((ms.drop st).take (len - o)))]):=by
  simp only [y_sl,y_op,y_var,y_bd,evO,List.getElem?_cons_zero,List.getElem?_cons_succ,opU,subI,gz,Option.map_some,slU,hq,c1]
 have s2:ev (tb s) (callF (tb s) n) 95 (.sl (.var 0) (some (.op .Add (.var 1) (.var 3))) (some (.var 4))) [some (.ref q),some (.int (st:Int) 0),some (.int (len:Int) 0),some (.int (o:Int) 0),some (.int ((st + len:Nat):Int) 0)] (h ++ [.lst (stz ((ms.drop st).take (len - o)))]) = some (.ref (h ++ [O.lst (stz ((ms.drop st).take (len - o)))]).length,h ++ [.lst (stz ((ms.drop st).take (len - o)))] ++ [.lst (stz ((ms.drop (st + o)).take (len - o)))]):=by
  simp only [y_sl,y_op,y_var,y_bd,evO,List.getElem?_cons_zero,List.getElem?_cons_succ,opU,addI,gz,slU,keepR hq,c2]
 have eS:=v_cmp (o:=.Eq) s1 s2 (eq_dec (T:=tb s) (keepR at0) at0 (fun m => mem_cut g) (fun m => mem_cut g))
 rw [y_callF fnL[7] rfl rfl]
 show ∃ h',Kp h h' /\ fin (exs (tb s) (callF (tb s) n) 100 b7 [some (.ref q),some (.int (st:Int) 0),some (.int (len:Int) 0),some (.int (o:Int) 0),none] h) = _
 rw [bag_is,x_next e0,y_cons,y_ret]
 unfold again
 cases hd:decide (len % o = 0) with
 | false =>
  rw [hd] at eT
  rw [v_andF eT]
  exact ⟨h,Kp.refl _,rfl⟩
 | true =>
  rw [hd] at eT
  rw [v_andT (b:=aS) eT eS]
  exact ⟨_,(Kp.app _ _).trans (Kp.app _ _),rfl⟩
end
section
variable {s:List U} {n T b N L st len q:Nat} {ms:List (List Nat)} {h:Hs}
theorem x_ret {TT:Tbl} {cf:Cf} {d:Nat} {a:E} {ρ:Rho} {h h1:Hs} {u:U} (e:ev TT cf d a ρ h = some (u,h1)):fin (exs TT cf (d + 2) [.ret a] ρ h) = some (u,h1):=by
 rw [y_cons,y_ret,e]
 rfl
theorem x_stop {TT:Tbl} {cf:Cf} {d:Nat} {st:S} {r:List S} {u:U} {ρ ρ':Rho} {h h1:Hs} (e:ex TT cf d st ρ h = some (.ret u,ρ',h1)):exs TT cf (d + 1) (st :: r) ρ h = some (.ret u,ρ',h1):=by
 rw [y_cons,e]
theorem x_set {TT:Tbl} {cf:Cf} {d i:Nat} {a:E} {ρ:Rho} {h h1:Hs} {u:U} (e:ev TT cf d a ρ h = some (u,h1)):ex TT cf (d + 1) (.set i a) ρ h = some (.next,ρ.set i (some u),h1):=by
 rw [y_set,e,y_bd]
theorem v_comp {TT:Tbl} {cf:Cf} {d:Nat} {src:Src} {t:Option E} {el:E} {ρ:Rho} {h h1 h2:Hs} {w:Wk} {us:List U} (es:srcU TT (ev TT cf d) ρ src h = some (w,h1)) (ec:compU TT (ev TT cf d) (evTO (evT TT cf d) t) w false el ρ (turns TT w h1) 0 [] h1 = some (us,h2)):ev TT cf (d + 1) (.comp src false t el) ρ h = some (.ref h2.length,h2 ++ [.lst us]):=by
 rw [y_comp,es,y_bd,ec,y_bd]
theorem v_call3 {TT:Tbl} {cf:Cf} {d f i j k:Nat} {ρ:Rho} {hs h1:Hs} {u w x v:U} (hi:ρ[i]? = some (some u)) (hj:ρ[j]? = some (some w)) (hk:ρ[k]? = some (some x)) (e:cf f [u,w,x] hs = some (v,h1)):ev TT cf (d + 2) (.call f [.var i,.var j,.var k]) ρ hs = some (v,h1):=by
 simp only [y_call,evs,y_var,hi,hj,hk,y_bd,e]
theorem v_call4 {TT:Tbl} {cf:Cf} {d f i j k l:Nat} {ρ:Rho} {hs h1:Hs} {u w x y v:U} (hi:ρ[i]? = some (some u)) (hj:ρ[j]? = some (some w)) (hk:ρ[k]? = some (some x)) (hl:ρ[l]? = some (some y)) (e:cf f [u,w,x,y] hs = some (v,h1)):ev TT cf (d + 2) (.call f [.var i,.var j,.var k,.var l]) ρ hs = some (v,h1):=by
 simp only [y_call,evs,y_var,hi,hj,hk,hl,y_bd,e]
def tO:E:=.call 7 [(.var 0),(.var 1),(.var 2),(.var 3)]
theorem blo_is:b6 = [.ret (.comp (.rng2 (.c (.int 1 0)) (.op .Add (.op .FloorDiv (.var 2) (.c (.int 2 0))) (.c (.int 1 0)))) false (some tO) (.var 3))]:=rfl
theorem c_onces (hq:h[q]? = some (.lst (stz ms))) (g:Good ms) (hN:st + len <= ms.length):∃ h',Kp h h' /\ callF (tb s) (n + 2) 6 [.ref q,.int (st:Int) 0,.int (len:Int) 0] h = some (.ref h'.length,h' ++ [.lst (nz (onces ms st len))]):=by
 have gn:=g.n
 have es:srcU (tb s) (ev (tb s) (callF (tb s) (n + 1)) 97) [some (.ref q),some (.int (st:Int) 0),some (.int (len:Int) 0)] (.rng2 (.c (.int 1 0)) (.op .Add (.op .FloorDiv (.var 2) (.c (.int 2 0))) (.c (.int 1 0)))) h = some (.rng ((1:Nat):Int) (len / 2),h):=by
  rw [show len / 2 = len / 2 + 1 - 1 from (Nat.add_sub_cancel (len / 2) 1).symm]
  refine s_rng2 (i:=1) (j:=len / 2 + 1) (by rw [y_c]; rfl) ?_ (by omega) (by omega)
  have dv:divI (.int (len:Int) 0) (.int 2 0) = some (.int ((len / 2:Nat):Int) 0):=by rw [m_div (by omega),show (len:Int) / 2 = ((len / 2:Nat):Int) by omega]
  simp only [y_op,y_var,y_c,y_bd,List.getElem?_cons_zero,List.getElem?_cons_succ,opU,dv,Option.map_some,addI,gz,Int.natCast_add]
  rfl
 obtain ⟨h',k,e⟩:=c_rg (T:=tb s) (cf:=callF (tb s) (n + 1)) (d:=97) (t:=some tO) (el:=.var 3) (tst:=again ms st len) (g:=fun x => .int (x:Int) 0) (G:=fun x => 1 <= x /\ x <= len / 2) es (by omega) (fun x a b => ⟨a,by omega⟩) (fun x ⟨x1,x2⟩ hh kp => by
  obtain ⟨h2,k2,e2⟩:=c_again (s:=s) (n:=n) (o:=x) (kp _ _ hq) g x1 (show x <= len by omega) hN
  refine ⟨h2,k2,?_⟩
  show evT (tb s) (callF (tb s) (n + 1)) 97 tO [some (.ref q),some (.int (st:Int) 0),some (.int (len:Int) 0),some (.int (x:Int) 0)] hh = _
  rw [tO,y_Tcall]
  simp only [y_call,evs,y_var,y_bd,List.getElem?_cons_zero,List.getElem?_cons_succ,e2]
  rfl) (fun x _ hh kp => ⟨hh,Kp.refl _,by rw [y_var]; rfl⟩)
 refine ⟨h',k,?_⟩
 rw [y_callF fnL[6] rfl rfl]
 show fin (exs (tb s) (callF (tb s) (n + 1)) 100 b6 [some (.ref q),some (.int (st:Int) 0),some (.int (len:Int) 0)] h) = _
 rw [blo_is]
 exact x_ret e
def fI:S:=.ite (.cmp .Eq (.var 3) (.c (.int 1 0))) [(.ret (.c (.int 1 0)))] []
def fC:E:=.comp (.rng2 (.c (.int 1 0)) (.var 3)) false none (.call 5 [(.var 1),(.var 2),(.var 3),(.var 6)])
def fRe:E:=.op .Add (.c (.int 1 0)) (.ix (.ix (.var 1) (.var 2)) (.op .Sub (.var 6) (.c (.int 1 0))))
def fR:E:=.comp (.seq (.call 6 [(.var 0),(.var 2),(.var 3)])) false none fRe
def fM:E:=.bi .min [(.op .Add (.var 4) (.var 5))]
theorem bfs_is:b4 = [fI,.set 4 fC,.set 5 fR,.ret fM]:=rfl
theorem intsU_iz:∀ (xs:List Int),intsU (iz xs) = some xs
 | [] => rfl
 | x :: r => by simp only [iz,List.map_cons,intsU]; rw [show List.map (fun i => U.int i 0) r = iz r from rfl,intsU_iz r]; rfl
theorem flt_true {α:Type} (xs:List α):xs.filter (fun _ => true) = xs:=List.filter_eq_self.mpr fun _ _ => rfl
theorem c_fos (hq:h[q]? = some (.lst (stz ms))) (g:Good ms) (hT:Tb h T b ms.length) (hE:En ms h b ms.length len) (l1:1 <= len) (hN:st + len <= ms.length):∃ h',Kp h h' /\ callF (tb s) (n + 3) 4 [.ref q,.ref T,.int (st:Int) 0,.int (len:Int) 0] h = some (.int (fw ms st len) 0,h'):=by
 have gn:=g.n
 rw [fw_best l1,y_callF fnL[4] rfl rfl]
 show ∃ h',Kp h h' /\ fin (exs (tb s) (callF (tb s) (n + 2)) 100 b4 [some (.ref q),some (.ref T),some (.int (st:Int) 0),some (.int (len:Int) 0),none,none] h) = _
 have eI:evT (tb s) (callF (tb s) (n + 2)) 98 (.cmp .Eq (.var 3) (.c (.int 1 0))) [some (.ref q),some (.ref T),some (.int (st:Int) 0),some (.int (len:Int) 0),none,none] h = some (decide ((len:Int) = 1),h) :=
  v_Tcmp (by rw [y_var]; rfl) y_c e_eqi
 unfold best
 by_cases z:len = 1
 ·refine ⟨h,Kp.refl _,?_⟩
  have x0:ex (tb s) (callF (tb s) (n + 2)) 99 fI [some (.ref q),some (.ref T),some (.int (st:Int) 0),some (.int (len:Int) 0),none,none] h = some (.ret (.int 1 0),[some (.ref q),some (.ref T),some (.int (st:Int) 0),some (.int (len:Int) 0),none,none],h):=by
   rw [fI,y_ite,eI,y_bd,decide_eq_true (show (len:Int) = 1 by omega),if_pos rfl]
   simp only [y_cons,y_ret,y_c,y_bd]
  rw [bfs_is,if_pos z,x_stop x0]
  rfl
 ·rw [if_neg z]
  have x0:ex (tb s) (callF (tb s) (n + 2)) 99 fI [some (.ref q),some (.ref T),some (.int (st:Int) 0),some (.int (len:Int) 0),none,none] h = some (.next,[some (.ref q),some (.ref T),some (.int (st:Int) 0),some (.int (len:Int) 0),none,none],h):=by
   rw [fI,y_ite,eI,y_bd,decide_eq_false (show ¬ (len:Int) = 1 by omega),if_neg (by decide),y_nil]
  obtain ⟨h1,k1,e1⟩:=c_rg (T:=tb s) (cf:=callF (tb s) (n + 2)) (d:=96) (src:=.rng2 (.c (.int 1 0)) (.var 3)) (t:=none) (el:=.call 5 [(.var 1),(.var 2),(.var 3),(.var 6)]) (ρ:=[some (.ref q),some (.ref T),some (.int (st:Int) 0),some (.int (len:Int) 0),none,none]) (tst:=fun _ => true) (g:=fun x => .int (fw ms st x + fw ms (st + x) (len - x)) 0) (G:=fun x => 1 <= x /\ x < len) (hs:=h) (hs0:=h) (lo:=1) (n:=len - 1)
   (s_rng2 (i:=1) (j:=len) (by rw [y_c]; rfl) (by rw [y_var]; rfl) (by omega) (by omega)) (by omega) (fun x a b => ⟨a,by omega⟩) (fun x _ hh kp => ⟨hh,Kp.refl _,rfl⟩) (fun x ⟨x1,x2⟩ hh kp => by
    have e:=c_cut (s:=s) (n:=n + 1) (o:=x) (hT.keep kp) (hE.keep kp) (Nat.le_refl _) x1 x2 hN
    refine ⟨hh,Kp.refl _,?_⟩
    show ev (tb s) (callF (tb s) (n + 2)) 96 (.call 5 [(.var 1),(.var 2),(.var 3),(.var 6)]) [some (.ref q),some (.ref T),some (.int (st:Int) 0),some (.int (len:Int) 0),none,none,some (.int (x:Int) 0)] hh = _
    simp only [y_call,evs,y_var,y_bd,List.getElem?_cons_zero,List.getElem?_cons_succ,e])
  have m1:((rgN 1 (len - 1)).filter fun _ => true).map (fun x => U.int (fw ms st x + fw ms (st + x) (len - x)) 0) = iz (cutL (fw ms) st len):=by rw [flt_true,cutL,iz,List.map_map]; rfl
  rw [m1] at e1
  have clz:(cutL (fw ms) st len).length <= 1000:=by simp only [cutL,List.length_map,rgN_len]; omega
  obtain ⟨r,er⟩:=cutL_cons (f:=fw ms) (st:=st) (len:=len) (by omega)
  clear m1
  generalize cutL (fw ms) st len = cl at e1 clz er ⊢
  have x1:ex (tb s) (callF (tb s) (n + 2)) 98 (.set 4 fC) [some (.ref q),some (.ref T),some (.int (st:Int) 0),some (.int (len:Int) 0),none,none] h = some (.next,[some (.ref q),some (.ref T),some (.int (st:Int) 0),some (.int (len:Int) 0),some (.ref h1.length),none],h1 ++ [.lst (iz (cl))]):=by
   exact x_set e1
  have kA:=k1.trans (Kp.app h1 [O.lst (iz (cl))])
  have hA:(h1 ++ [O.lst (iz (cl))])[h1.length]? = some (.lst (iz (cl))):=at0
  generalize h1 ++ [O.lst (iz (cl))] = hB at x1 kA hA
  generalize h1.length = A at x1 hA
  obtain ⟨h2,k2,e2⟩:=c_onces (s:=s) (n:=n) (st:=st) (len:=len) (kA _ _ hq) g hN
  have ol:(nz (onces ms st len)).length <= 1000:=by
   have:(onces ms st len).length <= (rgN 1 (len / 2)).length:=List.length_filter_le _ _
   rw [rgN_len] at this
   simp only [nz,List.length_map]
   omega
  have pz:Paired (fun (u:U) (i:Nat) => u = .int (i:Int) 0 /\ (1 <= i /\ i < len)) (nz (onces ms st len)) (onces ms st len):=pr_nz fun x hx => by
   have:=rgN_mem (List.mem_filter.mp hx).1
   omega
  have ol2:(onces ms st len).length <= 1000:=by simpa [nz] using ol
  generalize nz (onces ms st len) = zz at e2 ol pz
  have kC:=kA.trans (k2.trans (Kp.app h2 [O.lst zz]))
  obtain ⟨h3,k3,e3⟩:=comp_flt (T:=tb s) (f:=ev (tb s) (callF (tb s) (n + 2)) 95) (ft:=evTO (evT (tb s) (callF (tb s) (n + 2)) 95) none) (el:=fRe) (ρ:=[some (.ref q),some (.ref T),some (.int (st:Int) 0),some (.int (len:Int) 0),some (.ref A),none]) (P:=fun (u:U) (i:Nat) => u = .int (i:Int) 0 /\ (1 <= i /\ i < len)) (tst:=fun _ => true) (g:=fun x => .int (1 + fw ms st x) 0) (w_seq (T:=tb s) (at0 (hs:=h2) (a:=O.lst zz) (r:=[]))) ol
   (fun u x _ hh kp => ⟨hh,Kp.refl _,rfl⟩) (fun u x ⟨e,x1,x2⟩ hh kp => by
    subst e
    refine ⟨hh,Kp.refl _,?_⟩
    have kk:=kC.trans kp
    have et:ev (tb s) (callF (tb s) (n + 2)) 94 (.ix (.ix (.var 1) (.var 2)) (.op .Sub (.var 6) (.c (.int 1 0)))) [some (.ref q),some (.ref T),some (.int (st:Int) 0),some (.int (len:Int) 0),some (.ref A),none,some (.int (x:Int) 0)] hh = some (.int (fw ms st x) 0,hh) :=
     v_tab (by rfl) (hT.keep kk) (hE.keep kk) (by rw [y_var]; rfl) (by simp only [y_op,y_var,y_c,y_bd,List.getElem?_cons_zero,List.getElem?_cons_succ,opU,subI,gz,Option.map_some]) x1 x2 (by omega)
    show ev (tb s) (callF (tb s) (n + 2)) 95 fRe [some (.ref q),some (.ref T),some (.int (st:Int) 0),some (.int (len:Int) 0),some (.ref A),none,some (.int (x:Int) 0)] hh = _
    rw [fRe,y_op,y_c,y_bd,et]
    rfl)
   zz (onces ms st len) pz 0 [] _ rfl (by simp) (by simp) (Kp.refl _)
  have m2:((onces ms st len).filter fun _ => true).map (fun x => U.int (1 + fw ms st x) 0) = iz (repL ms (fw ms) st len):=by rw [flt_true,repL,iz,List.map_map]; rfl
  rw [m2,List.nil_append] at e3
  have rlz:(repL ms (fw ms) st len).length <= 1000:=by rw [repL,List.length_map]; exact ol2
  clear m2
  generalize repL ms (fw ms) st len = rl at e3 rlz ⊢
  have x2:ex (tb s) (callF (tb s) (n + 2)) 97 (.set 5 fR) [some (.ref q),some (.ref T),some (.int (st:Int) 0),some (.int (len:Int) 0),some (.ref A),none] hB = some (.next,[some (.ref q),some (.ref T),some (.int (st:Int) 0),some (.int (len:Int) 0),some (.ref A),some (.ref h3.length)],h3 ++ [.lst (iz (rl))]):=by
   have ec:ev (tb s) (callF (tb s) (n + 2)) 95 (.call 6 [(.var 0),(.var 2),(.var 3)]) [some (.ref q),some (.ref T),some (.int (st:Int) 0),some (.int (len:Int) 0),some (.ref A),none] hB = some (.ref h2.length,h2 ++ [.lst zz]):=v_call3 (by rfl) (by rfl) (by rfl) e2
   have ww:lstU (tb s) (.ref h2.length) (h2 ++ [O.lst zz]) = some zz:=by simp only [lstU,at0]
   have sr:srcU (tb s) (ev (tb s) (callF (tb s) (n + 2)) 95) [some (.ref q),some (.ref T),some (.int (st:Int) 0),some (.int (len:Int) 0),some (.ref A),none] (.seq (.call 6 [(.var 0),(.var 2),(.var 3)])) hB = some (.seqL (.ref h2.length),h2 ++ [.lst zz]):=by
    simp only [srcU,ec,y_bd,wkS,ww,Option.map_some]
   have tn:turns (tb s) (.seqL (.ref h2.length)) (h2 ++ [O.lst zz]) = zz.length + 1:=by simp only [turns,ww,Option.getD_some]
   exact x_set (v_comp sr (by rw [tn]; exact e3))
  have kD:=kC.trans (k3.trans (Kp.app h3 [O.lst (iz (rl))]))
  have hA2:=((k2.trans (Kp.app h2 [O.lst zz])).trans (k3.trans (Kp.app h3 [O.lst (iz (rl))]))) _ _ hA
  have hR:(h3 ++ [O.lst (iz (rl))])[h3.length]? = some (.lst (iz (rl))):=at0
  generalize h3 ++ [O.lst (iz (rl))] = hD at x2 kD hA2 hR
  generalize h3.length = B at x2 hR
  have cz:(iz cl).length + (iz rl).length <= 1000000:=by simp only [iz,List.length_map]; omega
  have ca:iz (cl) ++ iz (rl) = iz (cl ++ rl):=by simp [iz]
  obtain ⟨m,em,_⟩:=minU_cons (z:=fw ms st 1 + fw ms (st + 1) (len - 1)) (r:=r ++ rl)
  have em':minU (cl ++ rl) = some m:=by rw [er,List.cons_append]; exact em
  have eM:ev (tb s) (callF (tb s) (n + 2)) 95 fM [some (.ref q),some (.ref T),some (.int (st:Int) 0),some (.int (len:Int) 0),some (.ref A),some (.ref B)] hD = some (.int m 0,hD ++ [.lst (iz (cl ++ rl))]):=by
   have eo:ev (tb s) (callF (tb s) (n + 2)) 94 (.op .Add (.var 4) (.var 5)) [some (.ref q),some (.ref T),some (.int (st:Int) 0),some (.int (len:Int) 0),some (.ref A),some (.ref B)] hD = some (.ref hD.length,hD ++ [.lst (iz (cl ++ rl))]):=by
    simp only [y_op,y_var,y_bd,List.getElem?_cons_zero,List.getElem?_cons_succ,opU,addI,hA2,hR,catO,if_pos cz,ca]
   have ww:lstU (tb s) (.ref hD.length) (hD ++ [O.lst (iz (cl ++ rl))]) = some (iz (cl ++ rl)):=by simp only [lstU,at0]
   have eb:biU (tb s) .min [.ref hD.length] (hD ++ [O.lst (iz (cl ++ rl))]) = some (.int m 0,hD ++ [O.lst (iz (cl ++ rl))]):=by
    show ((lstU (tb s) (.ref hD.length) _).bind fun xs => (intsU xs).bind fun ns => (minU ns).map fun m => (U.int m 0,_)) = _
    rw [ww]
    show ((intsU _).bind fun ns => (minU ns).map fun m => (U.int m 0,_)) = _
    rw [intsU_iz]
    show ((minU _).map fun m => (U.int m 0,_)) = _
    rw [em']
    rfl
   rw [fM,y_bi]
   simp only [evs,eo,y_bd,eb]
  refine ⟨hD ++ [O.lst (iz (cl ++ rl))],kD.trans (Kp.app _ _),?_⟩
  rw [bfs_is,x_next x0,x_next x1,x_next x2,em']
  exact x_ret eM
end
theorem bm_app {T:Tbl} {p:Nat} {xs:List U} {u:U} {h:Hs} (hp:h[p]? = some (.lst xs)) (hz:xs.length <= 1000):bmU T .append (.ref p) [u] h = some (.non,h.set p (.lst (xs ++ [u]))):=by
 simp only [bmU,hp]
 exact if_pos (by omega)
theorem rc_app {p:Nat} {xs:List U} {h:Hs} (hp:h[p]? = some (.lst xs)):rcvU .append (.ref p) h = true:=by simp only [rcvU,hp]; rfl
theorem x_app {T:Tbl} {cf:Cf} {d p:Nat} {o e:E} {xs ys:List U} {u:U} {ρ:Rho} {h h1 h2:Hs} (eo:ev T cf d o ρ h = some (.ref p,h1)) (hp:h1[p]? = some (.lst ys)) (ee:ev T cf d e ρ h1 = some (u,h2)) (hp2:h2[p]? = some (.lst xs)) (hz:xs.length <= 1000):ex T cf (d + 2) (.expr (.bm .append o [e])) ρ h = some (.next,ρ,h2.set p (.lst (xs ++ [u]))):=by
 simp only [y_expr,y_bm,eo,y_bd,rc_app hp,if_true,evs,ee,bm_app hp2 hz]
theorem comp_new {T:Tbl} {cf:Cf} {d:Nat} {ft:E -> Rho -> Hs -> Option (Bool × Hs)} {ρ:Rho} {hs0:Hs} {l:Nat} {us:List U} (hl:hs0[l]? = some (.lst us)) (hz:us.length <= 1000):∀ (vs:List U) (i:Nat) (acc:List U) (h:Hs),us.drop i = vs -> acc.length <= i -> i <= us.length -> Kp hs0 h ->
  compU T (ev T cf (d + 1)) (evTO ft none) (.seqL (.ref l)) false (.lst []) ρ (vs.length + 1) i acc h = some (acc ++ (List.range vs.length).map (fun j => U.ref (h.length + j)),h ++ List.replicate vs.length (.lst []))
 | [],i,acc,h,hd,ha,hi,kp => by
  rw [compU]
  simp only [itm,lstU,kp l _ hl,Option.map_some,drop_nil hd,Option.map_none]
  simp
 | u :: vs,i,acc,h,hd,ha,hi,kp => by
  obtain ⟨g1,g2⟩:=drop_cons hd
  have lt:=(List.getElem?_eq_some_iff.mp g1).1
  have e:=comp_new (T:=T) (cf:=cf) (d:=d) (ft:=ft) (ρ:=ρ) hl hz vs (i + 1) (acc ++ [.ref h.length]) (h ++ [.lst []]) g2 (by simp; omega) (by omega) (kp.trans (Kp.app _ _))
  rw [List.length_cons,compU]
  simp only [itm,lstU,kp l _ hl,Option.map_some,g1,tgt,tgN,padN,Bool.false_eq_true,if_false,evTO,y_bd,if_pos (show acc.length < 1000000 by omega),if_true,y_lst,evs]
  rw [e,List.range_succ_eq_map,List.replicate_succ]
  simp only [List.map_cons,List.map_map,List.append_assoc,List.cons_append,List.nil_append,List.length_append,List.length_cons,List.length_nil,Nat.add_zero]
  congr 4
  refine List.map_congr_left fun j _ => ?_
  show U.ref (h.length + (0 + 1) + j) = U.ref (h.length + (j + 1))
  congr 1
  omega
def rowv (ms:List (List Nat)) (i k:Nat):List U:=(rgN 1 k).map fun j => U.int (fw ms i j) 0
theorem rgN_succ {lo n:Nat}:rgN lo (n + 1) = rgN lo n ++ [lo + n]:=by simp [rgN,List.range_succ]
theorem rowv_succ {ms:List (List Nat)} {i k:Nat}:rowv ms i (k + 1) = rowv ms i k ++ [.int (fw ms i (k + 1)) 0]:=by
 rw [rowv,rgN_succ,List.map_append,Nat.add_comm 1 k]; rfl
theorem rowv_get {ms:List (List Nat)} {i k j:Nat} (h1:1 <= j) (h2:j <= k):(rowv ms i k)[j - 1]? = some (.int (fw ms i j) 0):=by
 rw [rowv,List.getElem?_map,rgN_get (by omega),show 1 + (j - 1) = j by omega]; rfl
theorem rowv_len {ms:List (List Nat)} {i k:Nat}:(rowv ms i k).length = k:=by rw [rowv,List.length_map,rgN_len]
structure St (ms:List (List Nat)) (h0 h:Hs) (T b k s:Nat):Prop where
 kp:Kp h0 h
 tb:Tb h T b ms.length
 r:∀ i,i < ms.length -> h[b + i]? = some (.lst (rowv ms i (if i < s then min (k + 1) (ms.length - i) else min k (ms.length - i))))
theorem St.en {ms:List (List Nat)} {h0 h:Hs} {T b k s:Nat} (t:St ms h0 h T b k s):En ms h b ms.length (k + 1):=fun i j j1 jk ij => by
 refine ⟨_,t.r i (by omega),rowv_get j1 ?_⟩
 split <;> omega
theorem St.up {ms:List (List Nat)} {h0 h:Hs} {T b k:Nat} (t:St ms h0 h T b k (ms.length - k)):St ms h0 h T b (k + 1) 0:=⟨t.kp,t.tb,fun i hi => by
 rw [t.r i hi]
 congr 3
 rw [if_neg (show ¬ i < 0 by omega)]
 split <;> omega⟩
theorem St.put {ms:List (List Nat)} {h0 h h':Hs} {T b k s:Nat} (t:St ms h0 h T b k s) (hb:h0.length <= b) (hT:T = b + ms.length) (k1:Kp h h') (hs:s + k + 1 <= ms.length):St ms h0 (h'.set (b + s) (.lst (rowv ms s k ++ [.int (fw ms s (k + 1)) 0]))) T b k (s + 1):=by
 refine ⟨(t.kp.trans k1).put (by omega),?_,fun i hi => ?_⟩
 ·unfold Tb
  rw [List.getElem?_set_ne (by omega)]
  exact k1 _ _ t.tb
 ·by_cases z:i = s
  ·subst z
   rw [List.getElem?_set_self (List.getElem?_eq_some_iff.mp (k1 _ _ (t.r i hi))).1,if_pos (by omega),<- rowv_succ,show min (k + 1) (ms.length - i) = k + 1 by omega]
  ·rw [List.getElem?_set_ne (by omega),k1 _ _ (t.r i hi)]
   congr 3
   by_cases l:i < s
   ·rw [if_pos l,if_pos (by omega)]
   ·rw [if_neg l,if_neg (by omega)]
def eF:E:=.call 4 [(.var 1),(.var 2),(.var 4),(.var 3)]
def sF:S:=.expr (.bm .append (.ix (.var 2) (.var 4)) [eF])
def sI:S:=.loop (.name 4) (.rng (.op .Add (.op .Sub (.bi .len [(.var 1)]) (.var 3)) (.c (.int 1 0)))) [sF]
def sO:S:=.loop (.name 3) (.rng2 (.c (.int 1 0)) (.op .Add (.bi .len [(.var 1)]) (.c (.int 1 0)))) [sI]
theorem bfw_is:b2 = [.set 1 (.comp (.seq (.var 0)) false none (.meth 4 (.var 5) [])),.set 2 (.comp (.seq (.var 1)) false none (.lst [])),sO,.ret (.var 2)]:=rfl
theorem v_len {TT:Tbl} {cf:Cf} {d i q:Nat} {xs:List U} {ρ:Rho} {h:Hs} (hi:ρ[i]? = some (some (.ref q))) (hq:h[q]? = some (.lst xs)):ev TT cf (d + 2) (.bi .len [.var i]) ρ h = some (.int (xs.length:Int) 0,h):=by
 simp only [y_bi,evs,y_var,hi,y_bd,biU,seqU,hq,Option.map_some]
theorem v_add {TT:Tbl} {cf:Cf} {d:Nat} {a c:E} {i j:Int} {ρ:Rho} {h h1 h2:Hs} (ea:ev TT cf d a ρ h = some (.int i 0,h1)) (ec:ev TT cf d c ρ h1 = some (.int j 0,h2)):ev TT cf (d + 1) (.op .Add a c) ρ h = some (.int (i + j) 0,h2):=by
 simp only [y_op,ea,ec,y_bd,opU,addI,gz]
theorem v_sub {TT:Tbl} {cf:Cf} {d:Nat} {a c:E} {i j:Int} {ρ:Rho} {h h1 h2:Hs} (ea:ev TT cf d a ρ h = some (.int i 0,h1)) (ec:ev TT cf d c ρ h1 = some (.int j 0,h2)):ev TT cf (d + 1) (.op .Sub a c) ρ h = some (.int (i - j) 0,h2):=by
 simp only [y_op,ea,ec,y_bd,opU,subI,gz,Option.map_some]
theorem v_var {TT:Tbl} {cf:Cf} {d i:Nat} {u:U} {ρ:Rho} {h:Hs} (hi:ρ[i]? = some (some u)):ev TT cf (d + 1) (.var i) ρ h = some (u,h):=by
 simp only [y_var,hi]
theorem v_rowref {TT:Tbl} {cf:Cf} {d a c T b N s:Nat} {ρ:Rho} {h:Hs} (ha:ρ[a]? = some (some (.ref T))) (hc:ρ[c]? = some (some (.int (s:Int) 0))) (hT:Tb h T b N) (hs:s < N):ev TT cf (d + 2) (.ix (.var a) (.var c)) ρ h = some (.ref (b + s),h):=by
 have g1:((List.range N).map fun i => U.ref (b + i))[s]? = some (.ref (b + s)):=by rw [List.getElem?_map,List.getElem?_range hs]; rfl
 unfold Tb at hT
 simp only [y_ix,y_var,ha,hc,y_bd,subU,hT,at_nat g1,Option.map_some]
section
variable {s:List U} {n T b k q M:Nat} {ms:List (List Nat)} {h0 h:Hs}
theorem l_in (hM:h0[M]? = some (.lst (stz ms))) (g:Good ms) (hb:h0.length <= b) (hT:T = b + ms.length) (hk:k < ms.length) {o:Option U} (t:St ms h0 h T b k 0):∃ o' h',St ms h0 h' T b (k + 1) 0 /\
  ex (tb s) (callF (tb s) (n + 3)) 95 sI [some (.ref q),some (.ref M),some (.ref T),some (.int ((1 + k:Nat):Int) 0),o] h = some (.next,[some (.ref q),some (.ref M),some (.ref T),some (.int ((1 + k:Nat):Int) 0),o'],h'):=by
 have gn:=g.n
 obtain ⟨ρ',h',⟨o',e,t'⟩,lp⟩:=for_rg (T:=tb s) (x:=4) (lo:=0) (N:=ms.length - k) (body:=exs (tb s) (callF (tb s) (n + 3)) 94 [sF])
  (fun i ρ h => ∃ o',ρ = [some (.ref q),some (.ref M),some (.ref T),some (.int ((1 + k:Nat):Int) 0),o'] /\ St ms h0 h T b k i)
  (fun i ρ h lt ⟨o',e,t⟩ => by
   subst e
   rw [Nat.zero_add]
   obtain ⟨h1,k1,e1⟩:=c_fos (s:=s) (n:=n) (st:=i) (len:=k + 1) (t.kp _ _ hM) g t.tb t.en (by omega) (by omega)
   have r0:=t.r i (by omega)
   rw [if_neg (by omega),show min k (ms.length - i) = k by omega] at r0
   rw [Nat.add_comm k 1] at e1
   have x:=x_app (T:=tb s) (cf:=callF (tb s) (n + 3)) (d:=91) (o:=.ix (.var 2) (.var 4)) (e:=eF) (ρ:=[some (.ref q),some (.ref M),some (.ref T),some (.int ((1 + k:Nat):Int) 0),some (.int (i:Int) 0)]) (h:=h) (v_rowref (by rfl) (by rfl) t.tb (by omega)) r0 (v_call4 (by rfl) (by rfl) (by rfl) (by rfl) e1) (k1 _ _ r0) (by rw [rowv_len]; omega)
   rw [Nat.add_comm 1 k] at x
   refine ⟨_,_,⟨some (.int (i:Int) 0),rfl,t.put hb hT k1 (by omega)⟩,?_⟩
   show exs (tb s) (callF (tb s) (n + 3)) 94 [sF] [some (.ref q),some (.ref M),some (.ref T),some (.int ((1 + k:Nat):Int) 0),some (.int (i:Int) 0)] h = _
   rw [Nat.add_comm 1 k]
   rw [sF,x_next x,y_nil])
  (ms.length - k) 0 _ h (by simp) ⟨o,rfl,t⟩
 subst e
 refine ⟨o',h',t'.up,?_⟩
 refine x_for (lo:=0) (N:=ms.length - k) (h0:=h) ?_ lp
 have e:((ms.length:Int) - ((1 + k:Nat):Int)) + 1 = ((ms.length - k:Nat):Int):=by omega
 have ls:(stz ms).length = ms.length:=by simp [stz]
 have e2:=v_add (TT:=tb s) (cf:=callF (tb s) (n + 3)) (d:=93) (v_sub (d:=92) (v_len (i:=1) (ρ:=[some (.ref q),some (.ref M),some (.ref T),some (.int ((1 + k:Nat):Int) 0),o]) (by rfl) (t.kp _ _ hM)) (v_var (i:=3) (by rfl))) (y_c (u:=.int 1 0))
 rw [ls,e] at e2
 exact s_rng e2 (by omega)
theorem l_out (hM:h0[M]? = some (.lst (stz ms))) (g:Good ms) (hb:h0.length <= b) (hT:T = b + ms.length) (t:St ms h0 h T b 0 0):∃ o o' h',St ms h0 h' T b ms.length 0 /\
  ex (tb s) (callF (tb s) (n + 3)) 97 sO [some (.ref q),some (.ref M),some (.ref T),none,none] h = some (.next,[some (.ref q),some (.ref M),some (.ref T),o,o'],h'):=by
 have gn:=g.n
 obtain ⟨ρ',h',⟨o,o',e,t'⟩,lp⟩:=for_rg (T:=tb s) (x:=3) (lo:=1) (N:=ms.length) (body:=exs (tb s) (callF (tb s) (n + 3)) 96 [sI])
  (fun i ρ h => ∃ o o',ρ = [some (.ref q),some (.ref M),some (.ref T),o,o'] /\ St ms h0 h T b i 0)
  (fun i ρ h lt ⟨o,o',e,t⟩ => by
   subst e
   obtain ⟨o2,h2,t2,e2⟩:=l_in (s:=s) (n:=n) (q:=q) hM g hb hT lt (o:=o') t
   refine ⟨_,h2,⟨some (.int ((1 + i:Nat):Int) 0),o2,rfl,t2⟩,?_⟩
   show exs (tb s) (callF (tb s) (n + 3)) 96 [sI] [some (.ref q),some (.ref M),some (.ref T),some (.int ((1 + i:Nat):Int) 0),o'] h = _
   rw [x_next e2,y_nil])
  ms.length 0 _ h (by simp) ⟨none,none,rfl,t⟩
 subst e
 refine ⟨o,o',h',t',?_⟩
 refine x_for (lo:=1) (N:=ms.length) (h0:=h) ?_ lp
 have ls:(stz ms).length = ms.length:=by simp [stz]
 have e2:=v_add (TT:=tb s) (cf:=callF (tb s) (n + 3)) (d:=95) (v_len (i:=1) (ρ:=[some (.ref q),some (.ref M),some (.ref T),none,none]) (by rfl) (t.kp _ _ hM)) (y_c (u:=.int 1 0))
 rw [ls] at e2
 have r:=s_rng2 (T:=tb s) (f:=ev (tb s) (callF (tb s) (n + 3)) 96) (i:=1) (j:=ms.length + 1) (y_c (u:=.int 1 0)) e2 (by omega) (by omega)
 rw [Nat.add_sub_cancel] at r
 exact r
theorem c_fewest {q:Nat} {hs:Hs} (hr:Row hs q ms) (g:Good ms):∃ T b h',hs.length <= b /\ T = b + ms.length /\ Kp hs h' /\ Tb h' T b ms.length /\ (∀ i,i < ms.length -> h'[b + i]? = some (.lst (rowv ms i (ms.length - i)))) /\ callF (tb s) (n + 4) 2 [.ref q] hs = some (.ref T,h'):=by
 obtain ⟨is,hq,pr⟩:=hr
 have il:=prLen pr
 have gn:=g.n
 obtain ⟨ws,h1,al,kp,e0⟩:=c_seq (T:=tb s) (cf:=callF (tb s) (n + 3)) (d:=97) (a:=.var 0) (el:=.meth 4 (.var 5) []) (ρ:=[some (.ref q),none,none,none,none]) (P:=IsM hs) (Q:=fun m v h => v = U.str m) (fun _ _ _ _ _ i => i) (hs:=hs) (v_var (by rfl)) hq (by omega) (fun u m ⟨p,o,e,hp,k⟩ h kp => by
  subst e
  obtain ⟨f,e1,e2⟩:=c_mrk (s:=s) (n:=n + 2) (kp _ _ hp) k
  refine ⟨_,h,rfl,Kp.refl _,?_⟩
  have e3:ev (tb s) (callF (tb s) (n + 3)) 96 (.var 5) ([some (.ref q),none,none,none,none] ++ [some (.ref p)]) h = some (.ref p,h):=v_var (by rfl)
  rw [y_meth,e3,y_bd,e1]
  simp only [evs,y_bd,e2]) pr
 cases paired_map al
 have x0:ex (tb s) (callF (tb s) (n + 3)) 99 (.set 1 (.comp (.seq (.var 0)) false none (.meth 4 (.var 5) []))) [some (.ref q),none,none,none,none] hs = some (.next,[some (.ref q),some (.ref h1.length),none,none,none],h1 ++ [.lst (stz ms)]):=x_set e0
 have hM:(h1 ++ [O.lst (stz ms)])[h1.length]? = some (.lst (stz ms)):=at0
 have kM:=kp.trans (Kp.app h1 [O.lst (stz ms)])
 have ls:(stz ms).length = ms.length:=by simp [stz]
 generalize h1 ++ [O.lst (stz ms)] = h0 at x0 hM kM
 generalize h1.length = M at x0 hM
 have cn:=comp_new (T:=tb s) (cf:=callF (tb s) (n + 3)) (d:=95) (ft:=evT (tb s) (callF (tb s) (n + 3)) 96) (ρ:=[some (.ref q),some (.ref M),none,none,none]) hM (by omega) (stz ms) 0 [] h0 rfl (by simp) (by simp) (Kp.refl _)
 rw [ls,List.nil_append] at cn
 have e1:ev (tb s) (callF (tb s) (n + 3)) 97 (.comp (.seq (.var 1)) false none (.lst [])) [some (.ref q),some (.ref M),none,none,none] h0 = some (.ref (h0 ++ List.replicate ms.length (O.lst [])).length,h0 ++ List.replicate ms.length (O.lst []) ++ [.lst ((List.range ms.length).map fun j => U.ref (h0.length + j))]):=by
  refine v_comp (w:=.seqL (.ref M)) (h1:=h0) ?_ ?_
  ·have ev1:ev (tb s) (callF (tb s) (n + 3)) 96 (.var 1) [some (.ref q),some (.ref M),none,none,none] h0 = some (.ref M,h0):=v_var (by rfl)
   simp only [srcU,ev1,y_bd,wkS,lstU,hM,Option.map_some]
  ·have tn:turns (tb s) (.seqL (.ref M)) h0 = ms.length + 1:=by simp only [turns,lstU,hM,Option.getD_some,ls]
   rw [tn]
   exact cn
 have lT:(h0 ++ List.replicate ms.length (O.lst [])).length = h0.length + ms.length:=by simp
 rw [lT] at e1
 have x1:ex (tb s) (callF (tb s) (n + 3)) 98 (.set 2 (.comp (.seq (.var 1)) false none (.lst []))) [some (.ref q),some (.ref M),none,none,none] h0 = some (.next,[some (.ref q),some (.ref M),some (.ref (h0.length + ms.length)),none,none],h0 ++ List.replicate ms.length (O.lst []) ++ [.lst ((List.range ms.length).map fun j => U.ref (h0.length + j))]):=x_set e1
 have t0:St ms h0 (h0 ++ List.replicate ms.length (O.lst []) ++ [.lst ((List.range ms.length).map fun j => U.ref (h0.length + j))]) (h0.length + ms.length) h0.length 0 0:=by
  refine ⟨(Kp.app _ _).trans (Kp.app _ _),?_,fun i hi => ?_⟩
  ·unfold Tb
   rw [<- lT]
   exact at0
  ·rw [if_neg (by omega),Nat.zero_min,List.getElem?_append_left (by rw [lT]; omega),List.getElem?_append_right (by omega),Nat.add_sub_cancel_left,List.getElem?_replicate,if_pos hi]
   rfl
 generalize h0 ++ List.replicate ms.length (O.lst []) ++ [O.lst ((List.range ms.length).map fun j => U.ref (h0.length + j))] = h2 at x1 t0
 obtain ⟨o,o',h',t,x2⟩:=l_out (s:=s) (n:=n) (q:=q) hM g (Nat.le_refl _) rfl t0
 refine ⟨h0.length + ms.length,h0.length,h',kM.len,rfl,kM.trans t.kp,t.tb,fun i hi => ?_,?_⟩
 ·rw [t.r i hi,if_neg (by omega),show min ms.length (ms.length - i) = ms.length - i by omega]
 ·rw [y_callF fnL[2] rfl rfl]
  show fin (exs (tb s) (callF (tb s) (n + 3)) 100 b2 [some (.ref q),none,none,none,none] hs) = _
  rw [bfw_is,x_next x0,x_next x1,x_next x2]
  exact x_ret (v_var (by rfl))
end
theorem w_tk {ms:List (List Nat)} {st len i:Nat} (h:i <= len):(ms.drop st).take i = ((ms.drop st).take len).take i:=by rw [List.take_take,Nat.min_eq_left h]
theorem w_dp {ms:List (List Nat)} {st len i:Nat}:(ms.drop (st + i)).take (len - i) = ((ms.drop st).take len).drop i:=by rw [List.drop_take,List.drop_drop]
theorem again_w {ms:List (List Nat)} {st len o:Nat}:again ms st len o = (decide (len % o = 0) && decide (((ms.drop st).take len).take (len - o) = ((ms.drop st).take len).drop o)):=by
 unfold again
 rw [w_tk (len:=len) (by omega),w_dp]
theorem fw_local:∀ (len:Nat) {ms ms':List (List Nat)} {st st':Nat},1 <= len -> (ms.drop st).take len = (ms'.drop st').take len -> fw ms st len = fw ms' st' len:=by
 intro len
 induction len using Nat.strongRecOn with
 | _ len ih =>
  intro ms ms' st st' l1 w
  rw [fw_best l1,fw_best l1]
  unfold best
  by_cases z:len = 1
  ·rw [if_pos z,if_pos z]
  rw [if_neg z,if_neg z]
  have pf:∀ i,1 <= i -> i < len -> fw ms st i = fw ms' st' i:=fun i a b => ih i b a (by rw [w_tk (len:=len) (by omega),w,<- w_tk (by omega)])
  have e1:cutL (fw ms) st len = cutL (fw ms') st' len:=List.map_congr_left fun i hi => by
   have:=rgN_mem hi
   rw [pf i (by omega) (by omega),ih (len - i) (by omega) (ms:=ms) (ms':=ms') (st:=st + i) (st':=st' + i) (by omega) (by rw [w_dp,w_dp,w])]
  have eo:onces ms st len = onces ms' st' len:=List.filter_congr fun o _ => by rw [again_w,again_w,w]
  have e2:repL ms (fw ms) st len = repL ms' (fw ms') st' len:=by
   unfold repL
   rw [eo]
   exact List.map_congr_left fun i hi => by
    have:=rgN_mem (List.mem_filter.mp hi).1
    rw [pf i (by omega) (by omega)]
  rw [e1,e2]
theorem minU_spec {l:List Int} (h:l ≠ []):(minU l).getD 0 ∈ l /\ ∀ x ∈ l,(minU l).getD 0 <= x:=by
 cases l with
 | nil => exact absurd rfl h
 | cons z r =>
  show minI r z ∈ z :: r /\ ∀ x ∈ z :: r,minI r z <= x
  refine ⟨?_,fun x hx => ?_⟩
  ·rcases minI_mem r z with e | e
   ·rw [e]; exact List.mem_cons_self
   ·exact List.mem_cons_of_mem _ e
  ·rcases List.mem_cons.mp hx with rfl | hx
   ·exact (minI_le r x).1
   ·exact (minI_le r z).2 x hx
theorem fw_spec {ms:List (List Nat)} {st len:Nat} (h:2 <= len):fw ms st len ∈ cutL (fw ms) st len ++ repL ms (fw ms) st len /\ ∀ x ∈ cutL (fw ms) st len ++ repL ms (fw ms) st len,fw ms st len <= x:=by
 have e:fw ms st len = (minU (cutL (fw ms) st len ++ repL ms (fw ms) st len)).getD 0:=by
  rw [fw_best (by omega)]
  unfold best
  rw [if_neg (by omega)]
 rw [e]
 obtain ⟨r,er⟩:=cutL_cons (f:=fw ms) (st:=st) (len:=len) h
 exact minU_spec (by rw [er]; simp)
theorem rgN_in {lo n j:Nat} (h1:lo <= j) (h2:j < lo + n):j ∈ rgN lo n:=by
 simp only [rgN,List.mem_map,List.mem_range]
 exact ⟨j - lo,by omega,by omega⟩
def fwl (L:List (List Nat)):Int:=fw L 0 L.length
theorem fw_fwl {ms:List (List Nat)} {st len:Nat} (l1:1 <= len) (hN:st + len <= ms.length):fw ms st len = fwl ((ms.drop st).take len):=by
 have l:((ms.drop st).take len).length = len:=by rw [List.length_take,List.length_drop]; omega
 unfold fwl
 rw [l]
 exact fw_local len l1 (by rw [List.drop_zero,List.take_take,Nat.min_self])
theorem fwl_one {m:List Nat}:fwl [m] = 1:=by
 unfold fwl
 rw [fw_best (by simp)]
 rfl
theorem fwl_app {A B:List (List Nat)} (ha:A ≠ []) (hb:B ≠ []):fwl (A ++ B) <= fwl A + fwl B:=by
 have la:=List.length_pos_iff.mpr ha
 have lb:=List.length_pos_iff.mpr hb
 have e1:fw (A ++ B) 0 A.length = fwl A:=by rw [fw_fwl la (by simp),List.drop_zero,List.take_left]
 have e2:fw (A ++ B) (0 + A.length) (A.length + B.length - A.length) = fwl B:=by
  rw [Nat.zero_add,Nat.add_sub_cancel_left,fw_fwl lb (by simp),List.drop_left,List.take_length]
 have m:fwl A + fwl B ∈ cutL (fw (A ++ B)) 0 (A ++ B).length:=by
  rw [List.length_append,<- e1,<- e2]
  exact List.mem_map.mpr ⟨A.length,rgN_in (by omega) (by omega),rfl⟩
 exact (fw_spec (ms:=A ++ B) (st:=0) (len:=(A ++ B).length) (by rw [List.length_append]; omega)).2 _ (List.mem_append_left _ m)
theorem flat_len {α:Type} {A:List α} {t:Nat}:((List.replicate t A).flatten).length = t * A.length:=by
 rw [List.length_flatten,List.map_replicate,List.sum_replicate_nat]
theorem flat_succ {α:Type} {A:List α} {t:Nat}:(List.replicate (t + 1) A).flatten = (List.replicate t A).flatten ++ A:=by rw [List.replicate_succ',List.flatten_append]; simp
theorem fwl_rep {A:List (List Nat)} {t:Nat} (ha:A ≠ []) (ht:2 <= t):fwl (List.replicate t A).flatten <= 1 + fwl A:=by
 have la:=List.length_pos_iff.mpr ha
 obtain ⟨k,rfl⟩:∃ k,t = k + 1:=⟨t - 1,by omega⟩
 have ln:=flat_len (A:=A) (t:=k + 1)
 have k2:2 * A.length <= (k + 1) * A.length:=Nat.mul_le_mul_right _ (by omega)
 have sb:(k + 1) * A.length - A.length = k * A.length:=by rw [Nat.add_mul,Nat.one_mul,Nat.add_sub_cancel]
 have ag:again (List.replicate (k + 1) A).flatten 0 ((k + 1) * A.length) A.length = true:=by
  rw [again_w,List.drop_zero,<- ln,List.take_length,ln,sb]
  have e1:(List.replicate (k + 1) A).flatten.take (k * A.length) = (List.replicate k A).flatten:=by
   rw [flat_succ,<- flat_len,List.take_left]
  have e2:(List.replicate (k + 1) A).flatten.drop A.length = (List.replicate k A).flatten:=by
   rw [List.replicate_succ,List.flatten_cons,List.drop_left]
  rw [e1,e2,decide_eq_true (Nat.mul_mod_left _ _),decide_eq_true rfl]
  rfl
 have e1:fw (List.replicate (k + 1) A).flatten 0 A.length = fwl A:=by
  rw [fw_fwl la (by rw [ln]; omega),List.drop_zero,List.replicate_succ,List.flatten_cons,List.take_left]
 have m:1 + fwl A ∈ repL (List.replicate (k + 1) A).flatten (fw (List.replicate (k + 1) A).flatten) 0 ((List.replicate (k + 1) A).flatten).length:=by
  rw [ln,<- e1]
  exact List.mem_map.mpr ⟨A.length,List.mem_filter.mpr ⟨rgN_in (by omega) (by omega),ag⟩,rfl⟩
 exact (fw_spec (ms:=(List.replicate (k + 1) A).flatten) (st:=0) (by rw [ln]; omega)).2 _ (List.mem_append_right _ m)
theorem period:∀ (k:Nat) {X:List (List Nat)} {o:Nat},X.length = k * o -> X.take (X.length - o) = X.drop o -> X = (List.replicate k (X.take o)).flatten
 | 0,X,o,l,_ => by
  rw [Nat.zero_mul] at l
  rw [List.length_eq_zero_iff.mp l]
  rfl
 | k + 1,X,o,l,p => by
  have l2:X.length = k * o + o:=by rw [l,Nat.add_mul,Nat.one_mul]
  have ly:(X.drop o).length = k * o:=by rw [List.length_drop]; omega
  have py:(X.drop o).take ((X.drop o).length - o) = (X.drop o).drop o:=by
   conv => rhs; rw [<- p,List.drop_take]
   rw [List.length_drop]
  have ih:=period k ly py
  have e:k = 0 \/ (X.drop o).take o = X.take o:=by
   rcases Nat.eq_zero_or_pos k with z | z
   ·exact .inl z
   ·right
    have:o <= k * o:=Nat.le_mul_of_pos_left o z
    rw [<- p,List.take_take,Nat.min_eq_left (by omega)]
  have hX:X = X.take o ++ X.drop o:=(List.take_append_drop o X).symm
  rw [List.replicate_succ,List.flatten_cons]
  conv => lhs; rw [hX]
  congr 1
  rcases e with z | e
  ·subst z
   rw [Nat.zero_mul] at ly
   rw [List.length_eq_zero_iff.mp ly]
   rfl
  ·rw [e] at ih
   exact ih
theorem again_is {ms:List (List Nat)} {st len o:Nat} (h:again ms st len o = true) (o1:1 <= o) (hN:st + len <= ms.length):(ms.drop st).take len = (List.replicate (len / o) ((ms.drop st).take o)).flatten /\ len = len / o * o:=by
 rw [again_w,Bool.and_eq_true] at h
 obtain ⟨a,b⟩:=h
 have a:=of_decide_eq_true a
 have b:=of_decide_eq_true b
 have l:((ms.drop st).take len).length = len:=by rw [List.length_take,List.length_drop]; omega
 have e:len = len / o * o:=by
  have:=Nat.div_add_mod len o
  rw [a,Nat.add_zero,Nat.mul_comm] at this
  exact this.symm
 refine ⟨?_,e⟩
 by_cases ol:o <= len
 ·have:=period (len / o) (X:=(ms.drop st).take len) (o:=o) (by rw [l]; exact e) (by rw [l]; exact b)
  rw [<- w_tk ol] at this
  exact this
 ·have:len = 0:=by rw [e,Nat.div_eq_of_lt (by omega),Nat.zero_mul]
  subst this
  simp
abbrev sOne:List Nat:=[111,110,101]
abbrev sTim:List Nat:=[116,105,109,101,115]
inductive Prts (h:Hs):List U -> List (List Nat) -> Nat -> Prop where
 | nil:Prts h [] [] 0
 | one {p q:Nat} {o:O} {m:List Nat} {us:List U} {ms:List (List Nat)} {w:Nat}:h[p]? = some (.tup [.str sOne,.ref q]) -> h[q]? = some o -> MkO o m -> Prts h us ms w -> Prts h (.ref p :: us) (m :: ms) (w + 1)
 | rep {p t l k:Nat} {us0 us:List U} {ms0 ms:List (List Nat)} {w0 w:Nat}:h[p]? = some (.tup [.str sTim,.ref t,.ref l]) -> h[t]? = some (.tup [.int (k:Int) 0,.int 0 0,.int 0 0,.int 0 0,.int 0 0]) -> 2 <= k -> h[l]? = some (.lst us0) -> Prts h us0 ms0 w0 -> ms0 ≠ [] -> Prts h us ms w -> Prts h (.ref p :: us) ((List.replicate k ms0).flatten ++ ms) (w + 1 + w0)
theorem Prts.keep {h h':Hs} {us:List U} {ms:List (List Nat)} {w:Nat} (k:Kp h h') (p:Prts h us ms w):Prts h' us ms w:=by
 induction p with
 | nil => exact .nil
 | one a b c _ ih => exact .one (k _ _ a) (k _ _ b) c ih
 | rep a b c d _ e _ ih1 ih2 => exact .rep (k _ _ a) (k _ _ b) c (k _ _ d) ih1 e ih2
theorem Prts.app {h:Hs} {us vs:List U} {ms ns:List (List Nat)} {w x:Nat} (p:Prts h us ms w) (q:Prts h vs ns x):Prts h (us ++ vs) (ms ++ ns) (w + x):=by
 induction p with
 | nil => simpa using q
 | @one p q' o m us ms w a b c _ ih =>
  rw [show w + 1 + x = (w + x) + 1 by omega]
  exact .one a b c ih
 | @rep p t l k us0 us ms0 ms w0 w a b c d p0 e _ _ ih2 =>
  rw [show w + 1 + w0 + x = (w + x) + 1 + w0 by omega,List.append_assoc]
  exact .rep a b c d p0 e ih2
theorem Prts.len {h:Hs} {us:List U} {ms:List (List Nat)} {w:Nat} (p:Prts h us ms w):us.length <= ms.length:=by
 induction p with
 | nil => simp
 | one _ _ _ _ ih => simpa using ih
 | @rep p t l k us0 us ms0 ms w0 w a b c d p0 e _ _ ih2 =>
  have l0:=List.length_pos_iff.mpr e
  have:1 * 1 <= k * ms0.length:=Nat.mul_le_mul (by omega) l0
  rw [List.length_cons,List.length_append,flat_len]
  omega
theorem Prts.ne {h:Hs} {us:List U} {ms:List (List Nat)} {w:Nat} (p:Prts h us ms w) (hm:ms ≠ []):us ≠ []:=by
 cases p with
 | nil => exact absurd rfl hm
 | one => simp
 | rep => simp
theorem for_find {T:Tbl} {body:Ex} {x lo N:Nat} {p:Nat -> Prop} {R:Option U -> Rho} {h:Hs} {G:U -> Hs -> Prop} (hR:∀ o u,(R o).set x (some u) = R (some u))
  (yes:∀ i,i < N -> p i -> ∃ u ρ' h',G u h' /\ body (R (some (.int ((lo + i:Nat):Int) 0))) h = some (.ret u,ρ',h'))
  (no:∀ i,i < N -> ¬ p i -> body (R (some (.int ((lo + i:Nat):Int) 0))) h = some (.next,R (some (.int ((lo + i:Nat):Int) 0)),h)):∀ (k i:Nat) (o:Option U),i + k = N ->
  (∃ u ρ' h',G u h' /\ forU T (.rng (lo:Int) N) (.name x) body (k + 1) i (R o) h = some (.ret u,ρ',h')) \/
  ((∀ j,i <= j -> j < N -> ¬ p j) /\ ∃ o',forU T (.rng (lo:Int) N) (.name x) body (k + 1) i (R o) h = some (.next,R o',h))
 | 0,i,o,hi => .inr ⟨fun j a b => by omega,o,by rw [forU]; simp only [itm,if_neg (show ¬ i < N by omega)]⟩
 | k + 1,i,o,hi => by
  have l1:i < N:=by omega
  by_cases pi:p i
  ·obtain ⟨u,ρ',h',g,e⟩:=yes i l1 pi
   refine .inl ⟨u,ρ',h',g,?_⟩
   rw [forU]
   rw [Int.natCast_add] at e
   simp only [itm,if_pos l1,tgt,hR,e]
  ·have e:=no i l1 pi
   have st:forU T (.rng (lo:Int) N) (.name x) body (k + 1 + 1) i (R o) h = forU T (.rng (lo:Int) N) (.name x) body (k + 1) (i + 1) (R (some (.int ((lo + i:Nat):Int) 0))) h:=by
    rw [forU]
    rw [Int.natCast_add] at e
    simp only [itm,if_pos l1,tgt,hR,e]
    rw [Int.natCast_add]
   rw [st]
   rcases for_find (T:=T) hR yes no k (i + 1) (some (.int ((lo + i:Nat):Int) 0)) (by omega) with q | ⟨q,q2⟩
   ·exact .inl q
   ·refine .inr ⟨fun j a b => ?_,q2⟩
    by_cases ij:i = j
    ·subst ij; exact pi
    ·exact q j (by omega) b
section
variable {s:List U} {n T b M q:Nat} {ms:List (List Nat)} {h:Hs}
abbrev rT (q M T st len:Nat) (a b c d:Option U):Rho:=[some (.ref q),some (.ref M),some (.ref T),some (.int (st:Int) 0),some (.int (len:Int) 0),a,b,c,d]
def tE1:E:=.tup [(.c (.str [111,110,101])),(.var 9)]
def tS0:S:=.ite (.cmp .Lt (.var 4) (.c (.int 2 0))) [(.ret (.comp (.seq (.sl (.var 0) (some (.var 3)) (some (.op .Add (.var 3) (.var 4))))) false none tE1))] []
def tS1:S:=.set 5 (.ix (.ix (.var 2) (.var 3)) (.op .Sub (.var 4) (.c (.int 1 0))))
def tC1:E:=.call 8 [(.var 0),(.var 1),(.var 2),(.var 3),(.var 6)]
def tC2:E:=.call 8 [(.var 0),(.var 1),(.var 2),(.op .Add (.var 3) (.var 6)),(.op .Sub (.var 4) (.var 6))]
def tB:S:=.ite (.cmp .Eq (.call 5 [(.var 2),(.var 3),(.var 4),(.var 6)]) (.var 5)) [(.set 7 tC1),(.ret (.op .Add (.var 7) tC2))] []
def tS2:S:=.loop (.name 6) (.rng2 (.c (.int 1 0)) (.var 4)) [tB]
def tT3:E:=.cmp .Eq (.op .Add (.c (.int 1 0)) (.ix (.ix (.var 2) (.var 3)) (.op .Sub (.var 9) (.c (.int 1 0))))) (.var 5)
def tS3:S:=.set 8 (.comp (.seq (.call 6 [(.var 1),(.var 3),(.var 4)])) false (some tT3) (.var 9))
def tP4:E:=.call 0 [(.op .FloorDiv (.var 4) (.ix (.var 8) (.c (.int 0 0))))]
def tC4:E:=.call 8 [(.var 0),(.var 1),(.var 2),(.var 3),(.ix (.var 8) (.c (.int 0 0)))]
def tR4:E:=.lst [(.tup [(.c (.str [116,105,109,101,115])),tP4,tC4])]
theorem bts_is:b8 = [tS0,tS1,tS2,tS3,.ret tR4]:=rfl
def Told (h:Hs) (ms:List (List Nat)) (st len:Nat) (u:U) (h':Hs):Prop:=∃ (r w:Nat) (us:List U),u = .ref r /\ Kp h h' /\ h'[r]? = some (.lst us) /\ Prts h' us ((ms.drop st).take len) w /\ (w:Int) = fw ms st len
theorem v_c5 {TT:Tbl} {cf:Cf} {d f:Nat} {ρ:Rho} {h h1:Hs} {a b c e g:E} {u v w x y z:U} (ha:ev TT cf d a ρ h = some (u,h)) (hb:ev TT cf d b ρ h = some (v,h)) (hc:ev TT cf d c ρ h = some (w,h)) (he:ev TT cf d e ρ h = some (x,h)) (hg:ev TT cf d g ρ h = some (y,h)) (k:cf f [u,v,w,x,y] h = some (z,h1)):ev TT cf (d + 1) (.call f [a,b,c,e,g]) ρ h = some (z,h1):=by
 simp only [y_call,evs,ha,hb,hc,he,hg,y_bd,k]
theorem v_c1 {TT:Tbl} {cf:Cf} {d f:Nat} {ρ:Rho} {h h1 h2:Hs} {a:E} {u z:U} (ha:ev TT cf d a ρ h = some (u,h1)) (k:cf f [u] h1 = some (z,h2)):ev TT cf (d + 1) (.call f [a]) ρ h = some (z,h2):=by
 simp only [y_call,evs,ha,y_bd,k]
theorem c_psum {k:Int}:callF (tb s) (n + 1) 0 [.int k 0] h = some (.ref h.length,h ++ [.tup [.int k 0,.int 0 0,.int 0 0,.int 0 0,.int 0 0]]):=by
 rw [y_callF fnL[0] rfl rfl]
 show fin (exs (tb s) (callF (tb s) n) 100 b0 [some (.int k 0)] h) = _
 refine x_ret (d:=98) ?_
 simp only [y_tup,evs,y_var,y_c,y_bd,List.getElem?_cons_zero]
theorem pr_take {α β:Type} {P:α -> β -> Prop} {as:List α} {bs:List β} (h:Paired P as bs):∀ k,Paired P (as.take k) (bs.take k):=by
 induction h with
 | nil => intro k; simp; exact .nil
 | cons p _ ih =>
  intro k
  cases k with
  | zero => exact .nil
  | succ k => exact .cons p (ih k)
theorem pr_drop {α β:Type} {P:α -> β -> Prop} {as:List α} {bs:List β} (h:Paired P as bs):∀ k,Paired P (as.drop k) (bs.drop k):=by
 induction h with
 | nil => intro k; simp; exact .nil
 | @cons a b as bs p q ih =>
  intro k
  cases k with
  | zero => exact .cons p q
  | succ k => exact ih k
end
theorem evO_int {f:Ev} {ρ:Rho} {a:E} {i:Int} {h h1:Hs} (e:f a ρ h = some (.int i 0,h1)):evO f ρ (some a) h = some (some i,h1):=by
 simp only [evO,e,y_bd]
theorem v_slc {TT:Tbl} {cf:Cf} {d p:Nat} {a:E} {lo hi:Option E} {l r:Option Int} {us:List U} {ρ:Rho} {h:Hs} (ea:ev TT cf d a ρ h = some (.ref p,h)) (el:evO (ev TT cf d) ρ lo h = some (l,h)) (er:evO (ev TT cf d) ρ hi h = some (r,h)) (hp:h[p]? = some (.lst us)):ev TT cf (d + 1) (.sl a lo hi) ρ h = some (.ref h.length,h ++ [.lst (cutU us l r)]):=by
 simp only [y_sl,ea,y_bd,el,er,slU,hp]
theorem v_cat {TT:Tbl} {cf:Cf} {d p q:Nat} {a e:E} {us ws:List U} {ρ:Rho} {h h1 h2:Hs} (ea:ev TT cf d a ρ h = some (.ref p,h1)) (ee:ev TT cf d e ρ h1 = some (.ref q,h2)) (hp:h2[p]? = some (.lst us)) (hq:h2[q]? = some (.lst ws)) (hz:us.length + ws.length <= 1000):ev TT cf (d + 1) (.op .Add a e) ρ h = some (.ref h2.length,h2 ++ [.lst (us ++ ws)]):=by
 simp only [y_op,ea,y_bd,ee,opU,addI,hp,hq,catO]
 exact if_pos (by omega)
theorem v_atU {TT:Tbl} {cf:Cf} {d q:Nat} {a e:E} {us:List U} {u:U} {j:Int} {ρ:Rho} {h h1 h2:Hs} (ea:ev TT cf d a ρ h = some (.ref q,h1)) (ee:ev TT cf d e ρ h1 = some (.int j 0,h2)) (hq:h2[q]? = some (.lst us)) (hu:atU us j = some u):ev TT cf (d + 1) (.ix a e) ρ h = some (u,h2):=by
 simp only [y_ix,ea,y_bd,ee,subU,hq,hu,Option.map_some]
theorem v_divE {TT:Tbl} {cf:Cf} {d:Nat} {a c:E} {i j:Int} {ρ:Rho} {h h1 h2:Hs} (hj:0 < j /\ j < 100) (ea:ev TT cf d a ρ h = some (.int i 0,h1)) (ec:ev TT cf d c ρ h1 = some (.int j 0,h2)):ev TT cf (d + 1) (.op .FloorDiv a c) ρ h = some (.int (i / j) 0,h2):=by
 simp only [y_op,ea,ec,y_bd,opU,m_div hj,Option.map_some]
theorem x_ifT {TT:Tbl} {cf:Cf} {d:Nat} {t:E} {a c:List S} {ρ:Rho} {h h1:Hs} (e:evT TT cf d t ρ h = some (true,h1)):ex TT cf (d + 1) (.ite t a c) ρ h = exs TT cf d a ρ h1:=by
 rw [y_ite,e,y_bd,if_pos rfl]
theorem x_ifF {TT:Tbl} {cf:Cf} {d:Nat} {t:E} {a c:List S} {ρ:Rho} {h h1:Hs} (e:evT TT cf d t ρ h = some (false,h1)):ex TT cf (d + 1) (.ite t a c) ρ h = exs TT cf d c ρ h1:=by
 rw [y_ite,e,y_bd,if_neg (by decide)]
theorem x_retR {TT:Tbl} {cf:Cf} {d:Nat} {a:E} {ρ:Rho} {h h1:Hs} {u:U} (e:ev TT cf d a ρ h = some (u,h1)):exs TT cf (d + 2) [.ret a] ρ h = some (.ret u,ρ,h1):=by
 rw [y_cons,y_ret,e]
 rfl
theorem prts_of {h:Hs} {ws:List U} {ms:List (List Nat)} (p:Paired (fun v m => ∃ (p q:Nat) (o:O),v = U.ref p /\ h[p]? = some (.tup [.str sOne,.ref q]) /\ h[q]? = some o /\ MkO o m) ws ms):Prts h ws ms ms.length:=by
 induction p with
 | nil => exact .nil
 | cons a _ ih =>
  obtain ⟨p,q,o,rfl,e1,e2,e3⟩:=a
  exact .one e1 e2 e3 ih
section
variable {s:List U} {T b M q:Nat} {ms:List (List Nat)} {h:Hs}
theorem c_told (g:Good ms) (hr:Row h q ms) (hM:h[M]? = some (.lst (stz ms))) (hT:Tb h T b ms.length) (hE:En ms h b ms.length (ms.length + 1)):∀ (len st n:Nat) (h':Hs),1 <= len -> st + len <= ms.length -> Kp h h' ->
  ∃ u h2,Told h' ms st len u h2 /\ callF (tb s) (n + len + 2) 8 [.ref q,.ref M,.ref T,.int (st:Int) 0,.int (len:Int) 0] h' = some (u,h2):=by
 have gn:=g.n
 intro len
 induction len using Nat.strongRecOn with
 | _ len ih =>
  intro st n h' l1 hN kp
  rw [y_callF fnL[8] rfl rfl]
  show ∃ u h2,Told h' ms st len u h2 /\ fin (exs (tb s) (callF (tb s) (n + len + 1)) 100 b8 (rT q M T st len none none none none) h') = some (u,h2)
  have eI:evT (tb s) (callF (tb s) (n + len + 1)) 98 (.cmp .Lt (.var 4) (.c (.int 2 0))) (rT q M T st len none none none none) h' = some (decide ((len:Int) < 2),h'):=v_Tcmp (v_var (by rfl)) y_c e_lti
  by_cases z:len < 2
  ·obtain ⟨is,hq,pr⟩:=hr.keep kp
   have il:=prLen pr
   have e2:=v_add (TT:=tb s) (cf:=callF (tb s) (n + len + 1)) (d:=93) (ρ:=rT q M T st len none none none none) (h:=h') (v_var (i:=3) (by rfl)) (v_var (i:=4) (by rfl))
   have es:=v_slc (TT:=tb s) (cf:=callF (tb s) (n + len + 1)) (d:=94) (a:=.var 0) (lo:=some (.var 3)) (hi:=some (.op .Add (.var 3) (.var 4))) (ρ:=rT q M T st len none none none none) (v_var (by rfl)) (evO_int (v_var (by rfl))) (evO_int e2) hq
   rw [show (st:Int) + (len:Int) = ((st + len:Nat):Int) by omega,cut_nat (by omega) (by omega),Nat.add_sub_cancel_left] at es
   obtain ⟨ws,h2,al,k2,e⟩:=c_seq (T:=tb s) (cf:=callF (tb s) (n + len + 1)) (d:=95) (el:=tE1) (ρ:=rT q M T st len none none none none) (P:=IsM h') (Q:=fun m v h => ∃ (p q:Nat) (o:O),v = U.ref p /\ h[p]? = some (.tup [.str sOne,.ref q]) /\ h[q]? = some o /\ MkO o m) (fun m v h h' k ⟨p,q,o,a,b,c,d⟩ => ⟨p,q,o,a,k _ _ b,k _ _ c,d⟩) (ds:=(ms.drop st).take len) es at0 (by rw [List.length_take,List.length_drop]; omega) (fun u m ⟨p,o,e,hp,mk⟩ hh kk => by
    subst e
    refine ⟨.ref hh.length,hh ++ [.tup [.str sOne,.ref p]],⟨hh.length,p,o,rfl,at0,keepR (kk _ _ (keepR hp)),mk⟩,Kp.app _ _,?_⟩
    have e9:ev (tb s) (callF (tb s) (n + len + 1)) 94 (.var 9) (rT q M T st len none none none none ++ [some (.ref p)]) hh = some (.ref p,hh):=v_var (by rfl)
    rw [tE1,y_tup,evs,y_c,y_bd,evs,e9,y_bd,evs,y_bd,y_bd,y_bd]) (pr_take (pr_drop pr st) len)
   have ll:((ms.drop st).take len).length = 1:=by rw [List.length_take,List.length_drop]; omega
   have pt:=prts_of al
   rw [ll] at pt
   refine ⟨.ref h2.length,h2 ++ [.lst ws],⟨h2.length,1,ws,rfl,(Kp.app _ _).trans (k2.trans (Kp.app _ _)),at0,pt,?_⟩,?_⟩
   ·rw [show len = 1 by omega,fw_best (by omega)]; rfl
   ·have x0:ex (tb s) (callF (tb s) (n + len + 1)) 99 tS0 (rT q M T st len none none none none) h' = some (.ret (.ref h2.length),rT q M T st len none none none none,h2 ++ [.lst ws]):=by
     rw [tS0,y_ite,eI,y_bd,decide_eq_true (show (len:Int) < 2 by omega),if_pos rfl,y_cons,y_ret,e,y_bd]
    rw [bts_is,x_stop x0]
    rfl
  have x0:ex (tb s) (callF (tb s) (n + len + 1)) 99 tS0 (rT q M T st len none none none none) h' = some (.next,rT q M T st len none none none none,h'):=by
   rw [tS0,y_ite,eI,y_bd,decide_eq_false (show ¬ (len:Int) < 2 by omega),if_neg (by decide),y_nil]
  have hT':=hT.keep kp
  have hE':=hE.keep kp
  have s1:=v_sub (TT:=tb s) (cf:=callF (tb s) (n + len + 1)) (d:=95) (ρ:=rT q M T st len none none none none) (h:=h') (v_var (i:=4) (by rfl)) (y_c (u:=.int 1 0))
  have x1:ex (tb s) (callF (tb s) (n + len + 1)) 98 tS1 (rT q M T st len none none none none) h' = some (.next,rT q M T st len (some (.int (fw ms st len) 0)) none none none,h') :=
   x_set (v_tab (d:=94) (a:=2) (i:=st) (j:=len) (e1:=.var 3) (by rfl) hT' hE' (v_var (by rfl)) s1 l1 (by omega) hN)
  have ff:=for_find (T:=tb s) (x:=6) (lo:=1) (N:=len - 1) (p:=fun i => fw ms st (1 + i) + fw ms (st + (1 + i)) (len - (1 + i)) = fw ms st len) (body:=exs (tb s) (callF (tb s) (n + len + 1)) 96 [tB]) (R:=fun o => rT q M T st len (some (.int (fw ms st len) 0)) o none none) (h:=h') (G:=fun u h2 => Told h' ms st len u h2) (fun _ _ => rfl)
   (fun i hi pi => by
    have ec:=v_Tcmp (o:=.Eq) (v_call4 (TT:=tb s) (cf:=callF (tb s) (n + len + 1)) (d:=90) (i:=2) (j:=3) (k:=4) (l:=6) (ρ:=rT q M T st len (some (.int (fw ms st len) 0)) (some (.int ((1 + i:Nat):Int) 0)) none none) (by rfl) (by rfl) (by rfl) (by rfl) (c_cut (s:=s) (n:=n + len) (o:=1 + i) hT' hE' (L:=ms.length + 1) (len:=len) (by omega) (by omega) (by omega) hN)) (v_var (i:=5) (d:=91) (by rfl)) e_eqi
    rw [decide_eq_true pi] at ec
    obtain ⟨u1,h1,⟨r1,w1,us1,rfl,k1,hr1,p1,f1⟩,e1⟩:=ih (1 + i) (by omega) st (n + len - 2 - i) h' (by omega) (by omega) kp
    rw [show n + len - 2 - i + (1 + i) + 2 = n + len + 1 by omega] at e1
    obtain ⟨u2,h2,⟨r2,w2,us2,rfl,k2,hr2,p2,f2⟩,e2⟩:=ih (len - (1 + i)) (by omega) (st + (1 + i)) (n + i) h1 (by omega) (by omega) (kp.trans k1)
    rw [show n + i + (len - (1 + i)) + 2 = n + len + 1 by omega] at e2
    have xs:ex (tb s) (callF (tb s) (n + len + 1)) 93 (.set 7 tC1) (rT q M T st len (some (.int (fw ms st len) 0)) (some (.int ((1 + i:Nat):Int) 0)) none none) h' = some (.next,rT q M T st len (some (.int (fw ms st len) 0)) (some (.int ((1 + i:Nat):Int) 0)) (some (.ref r1)) none,h1) :=
     x_set (v_c5 (d:=91) (v_var (by rfl)) (v_var (by rfl)) (v_var (by rfl)) (v_var (by rfl)) (v_var (by rfl)) e1)
    have ea:=v_add (TT:=tb s) (cf:=callF (tb s) (n + len + 1)) (d:=88) (ρ:=rT q M T st len (some (.int (fw ms st len) 0)) (some (.int ((1 + i:Nat):Int) 0)) (some (.ref r1)) none) (h:=h1) (v_var (i:=3) (by rfl)) (v_var (i:=6) (by rfl))
    rw [show (st:Int) + ((1 + i:Nat):Int) = ((st + (1 + i):Nat):Int) by omega] at ea
    have eb:=v_sub (TT:=tb s) (cf:=callF (tb s) (n + len + 1)) (d:=88) (ρ:=rT q M T st len (some (.int (fw ms st len) 0)) (some (.int ((1 + i:Nat):Int) 0)) (some (.ref r1)) none) (h:=h1) (v_var (i:=4) (by rfl)) (v_var (i:=6) (by rfl))
    rw [show (len:Int) - ((1 + i:Nat):Int) = ((len - (1 + i):Nat):Int) by omega] at eb
    have e3:=v_cat (TT:=tb s) (cf:=callF (tb s) (n + len + 1)) (d:=90) (a:=.var 7) (e:=tC2) (ρ:=rT q M T st len (some (.int (fw ms st len) 0)) (some (.int ((1 + i:Nat):Int) 0)) (some (.ref r1)) none) (v_var (by rfl)) (v_c5 (d:=89) (v_var (by rfl)) (v_var (by rfl)) (v_var (by rfl)) ea eb e2) (k2 _ _ hr1) hr2 (by
     have q1:=p1.len
     have q2:=p2.len
     rw [List.length_take,List.length_drop] at q1 q2
     omega)
    refine ⟨.ref h2.length,rT q M T st len (some (.int (fw ms st len) 0)) (some (.int ((1 + i:Nat):Int) 0)) (some (.ref r1)) none,h2 ++ [.lst (us1 ++ us2)],⟨h2.length,w1 + w2,us1 ++ us2,rfl,k1.trans (k2.trans (Kp.app _ _)),at0,?_,?_⟩,?_⟩
    ·have p:=((p1.keep k2).app p2).keep (Kp.app h2 [O.lst (us1 ++ us2)])
     rw [show (ms.drop st).take (1 + i) ++ (ms.drop (st + (1 + i))).take (len - (1 + i)) = (ms.drop st).take len by rw [<- List.drop_drop,<- List.take_add,show 1 + i + (len - (1 + i)) = len by omega]] at p
     exact p
    ·rw [<- pi,<- f1,<- f2]; omega
    ·show exs (tb s) (callF (tb s) (n + len + 1)) 96 [tB] (rT q M T st len (some (.int (fw ms st len) 0)) (some (.int ((1 + i:Nat):Int) 0)) none none) h' = _
     refine x_stop ((x_ifT ec).trans ?_)
     rw [x_next xs]
     exact x_retR e3)
   (fun i hi pi => by
    have ec:=v_Tcmp (o:=.Eq) (v_call4 (TT:=tb s) (cf:=callF (tb s) (n + len + 1)) (d:=90) (i:=2) (j:=3) (k:=4) (l:=6) (ρ:=rT q M T st len (some (.int (fw ms st len) 0)) (some (.int ((1 + i:Nat):Int) 0)) none none) (by rfl) (by rfl) (by rfl) (by rfl) (c_cut (s:=s) (n:=n + len) (o:=1 + i) hT' hE' (L:=ms.length + 1) (len:=len) (by omega) (by omega) (by omega) hN)) (v_var (i:=5) (d:=91) (by rfl)) e_eqi
    rw [decide_eq_false pi] at ec
    show exs (tb s) (callF (tb s) (n + len + 1)) 96 [tB] (rT q M T st len (some (.int (fw ms st len) 0)) (some (.int ((1 + i:Nat):Int) 0)) none none) h' = _
    have xx:=(x_ifF (a:=[(.set 7 tC1),(.ret (.op .Add (.var 7) tC2))]) (c:=[]) ec).trans y_nil
    exact (x_next xx).trans y_nil)
   (len - 1) 0 none (by omega)
  have sr:=s_rng2 (T:=tb s) (f:=ev (tb s) (callF (tb s) (n + len + 1)) 96) (i:=1) (j:=len) (ρ:=rT q M T st len (some (.int (fw ms st len) 0)) none none none) (h:=h') (y_c (u:=.int 1 0)) (v_var (i:=4) (by rfl)) (by omega) (by omega)
  rcases ff with ⟨u,ρ',h2,td,lp⟩ | ⟨no,o',lp⟩
  ·refine ⟨u,h2,td,?_⟩
   have x2:ex (tb s) (callF (tb s) (n + len + 1)) 97 tS2 (rT q M T st len (some (.int (fw ms st len) 0)) none none none) h' = some (.ret u,ρ',h2):=x_for sr lp
   rw [bts_is,x_next x0,x_next x1,x_stop x2]
   rfl
  have x2:ex (tb s) (callF (tb s) (n + len + 1)) 97 tS2 (rT q M T st len (some (.int (fw ms st len) 0)) none none none) h' = some (.next,rT q M T st len (some (.int (fw ms st len) 0)) o' none none,h'):=x_for sr lp
  obtain ⟨h2,k2,e2⟩:=c_onces (s:=s) (n:=n + len - 1) (st:=st) (len:=len) (kp _ _ hM) g hN
  rw [show n + len - 1 + 2 = n + len + 1 by omega] at e2
  have om:∀ x ∈ onces ms st len,1 <= x /\ x <= len / 2 /\ again ms st len x = true:=fun x hx => by
   obtain ⟨a,c⟩:=List.mem_filter.mp hx
   have:=rgN_mem a
   exact ⟨by omega,by omega,c⟩
  have ol:(onces ms st len).length <= 1000:=by
   have:(onces ms st len).length <= (rgN 1 (len / 2)).length:=List.length_filter_le _ _
   rw [rgN_len] at this
   omega
  have mem:∃ o ∈ onces ms st len,1 + fw ms st o = fw ms st len:=by
   rcases List.mem_append.mp (fw_spec (ms:=ms) (st:=st) (len:=len) (by omega)).1 with m | m
   ·obtain ⟨i,hi,e⟩:=List.mem_map.mp m
    have:=rgN_mem hi
    exact absurd (by rw [show 1 + (i - 1) = i by omega]; exact e) (no (i - 1) (by omega) (by omega))
   ·obtain ⟨o,ho,e⟩:=List.mem_map.mp m
    exact ⟨o,ho,e⟩
  have pz:Paired (fun (u:U) (i:Nat) => u = .int (i:Int) 0 /\ (1 <= i /\ i < len)) (nz (onces ms st len)) (onces ms st len):=pr_nz fun x hx => by
   have:=om x hx
   omega
  have nl:(nz (onces ms st len)).length <= 1000:=by simpa [nz] using ol
  generalize nz (onces ms st len) = zz at e2 pz nl
  obtain ⟨h3,k3,e3⟩:=comp_flt (T:=tb s) (f:=ev (tb s) (callF (tb s) (n + len + 1)) 94) (ft:=evTO (evT (tb s) (callF (tb s) (n + len + 1)) 94) (some tT3)) (el:=.var 9) (ρ:=rT q M T st len (some (.int (fw ms st len) 0)) o' none none) (P:=fun (u:U) (i:Nat) => u = .int (i:Int) 0 /\ (1 <= i /\ i < len)) (tst:=fun x => decide (1 + fw ms st x = fw ms st len)) (g:=fun x => .int (x:Int) 0) (w_seq (T:=tb s) (at0 (hs:=h2) (a:=O.lst zz) (r:=[]))) nl
   (fun u x ⟨e,a,c⟩ hh kk => by
    subst e
    refine ⟨hh,Kp.refl _,?_⟩
    have kA:=(k2.trans (Kp.app h2 [O.lst zz])).trans kk
    have s2:=v_sub (TT:=tb s) (cf:=callF (tb s) (n + len + 1)) (d:=89) (ρ:=rT q M T st len (some (.int (fw ms st len) 0)) o' none none ++ [some (.int (x:Int) 0)]) (h:=hh) (v_var (i:=9) (by rfl)) (y_c (u:=.int 1 0))
    have et:=v_tab (TT:=tb s) (cf:=callF (tb s) (n + len + 1)) (d:=88) (a:=2) (i:=st) (j:=x) (e1:=.var 3) (ρ:=rT q M T st len (some (.int (fw ms st len) 0)) o' none none ++ [some (.int (x:Int) 0)]) (by rfl) (hT'.keep kA) (hE'.keep kA) (v_var (by rfl)) s2 a (by omega) (by omega)
    exact v_Tcmp (v_add (y_c (u:=.int 1 0)) et) (v_var (i:=5) (by rfl)) e_eqi)
   (fun u x ⟨e,_⟩ hh kk => by
    subst e
    exact ⟨hh,Kp.refl _,v_var (by rfl)⟩)
   zz (onces ms st len) pz 0 [] _ rfl (by simp) (by simp) (Kp.refl _)
  rw [List.nil_append] at e3
  obtain ⟨o,ho,eo⟩:=mem
  have fne:o ∈ (onces ms st len).filter (fun x => decide (1 + fw ms st x = fw ms st len)):=List.mem_filter.mpr ⟨ho,decide_eq_true eo⟩
  have fall:∀ x ∈ (onces ms st len).filter (fun x => decide (1 + fw ms st x = fw ms st len)),1 <= x /\ x <= len / 2 /\ again ms st len x = true /\ 1 + fw ms st x = fw ms st len:=fun x hx => by
   obtain ⟨a,c⟩:=List.mem_filter.mp hx
   obtain ⟨a1,a2,a3⟩:=om x a
   exact ⟨a1,a2,a3,of_decide_eq_true c⟩
  clear eo ho
  generalize (onces ms st len).filter (fun x => decide (1 + fw ms st x = fw ms st len)) = ff at e3 fne fall
  obtain ⟨o1,rest,rfl⟩:∃ o1 rest,ff = o1 :: rest:=by
   cases ff with
   | nil => cases fne
   | cons a r => exact ⟨a,r,rfl⟩
  clear fne o
  obtain ⟨o11,o12,oag,ofw⟩:=fall o1 List.mem_cons_self
  have x3:ex (tb s) (callF (tb s) (n + len + 1)) 96 tS3 (rT q M T st len (some (.int (fw ms st len) 0)) o' none none) h' = some (.next,rT q M T st len (some (.int (fw ms st len) 0)) o' none (some (.ref h3.length)),h3 ++ [.lst ((o1 :: rest).map fun (x:Nat) => U.int (x:Int) 0)]):=by
   have ec:ev (tb s) (callF (tb s) (n + len + 1)) 94 (.call 6 [(.var 1),(.var 3),(.var 4)]) (rT q M T st len (some (.int (fw ms st len) 0)) o' none none) h' = some (.ref h2.length,h2 ++ [.lst zz]):=v_call3 (by rfl) (by rfl) (by rfl) e2
   have ww:lstU (tb s) (.ref h2.length) (h2 ++ [O.lst zz]) = some zz:=by simp only [lstU,at0]
   have sr:srcU (tb s) (ev (tb s) (callF (tb s) (n + len + 1)) 94) (rT q M T st len (some (.int (fw ms st len) 0)) o' none none) (.seq (.call 6 [(.var 1),(.var 3),(.var 4)])) h' = some (.seqL (.ref h2.length),h2 ++ [.lst zz]):=by
    simp only [srcU,ec,y_bd,wkS,ww,Option.map_some]
   have tn:turns (tb s) (.seqL (.ref h2.length)) (h2 ++ [O.lst zz]) = zz.length + 1:=by simp only [turns,ww,Option.getD_some]
   exact x_set (v_comp sr (by rw [tn]; exact e3))
  have k4:Kp h' (h3 ++ [.lst ((o1 :: rest).map fun (x:Nat) => U.int (x:Int) 0)]):=k2.trans ((Kp.app _ _).trans (k3.trans (Kp.app _ _)))
  have hR:(h3 ++ [O.lst ((o1 :: rest).map fun (x:Nat) => U.int (x:Int) 0)])[h3.length]? = some (.lst ((o1 :: rest).map fun (x:Nat) => U.int (x:Int) 0)):=at0
  have a0:atU ((o1 :: rest).map fun (x:Nat) => U.int (x:Int) 0) 0 = some (.int (o1:Int) 0):=at_nat (i:=0) rfl
  generalize (o1 :: rest).map (fun (x:Nat) => U.int (x:Int) 0) = zl at x3 k4 hR a0
  generalize h3 ++ [O.lst zl] = h4 at x3 k4 hR
  generalize h3.length = L at x3 hR
  obtain ⟨mk,ml⟩:=again_is oag o11 hN
  have d1:len / o1 * o1 ≥ 2 * o1:=by omega
  have d2:2 <= len / o1:=by
   rcases Nat.lt_or_ge (len / o1) 2 with c | c
   ·have:len / o1 * o1 <= 1 * o1:=Nat.mul_le_mul_right _ (by omega)
    omega
   ·exact c
  obtain ⟨u5,h5,⟨r5,w5,us5,rfl,k5,hr5,p5,f5⟩,e5⟩:=ih o1 (by omega) st (n + len - 1 - o1) (h4 ++ [.tup [.int ((len / o1:Nat):Int) 0,.int 0 0,.int 0 0,.int 0 0,.int 0 0]]) o11 (by omega) (kp.trans (k4.trans (Kp.app _ _)))
  rw [show n + len - 1 - o1 + o1 + 2 = n + len + 1 by omega] at e5
  have eo:∀ d hh,Kp h4 hh -> ev (tb s) (callF (tb s) (n + len + 1)) (d + 2) (.ix (.var 8) (.c (.int 0 0))) (rT q M T st len (some (.int (fw ms st len) 0)) o' none (some (.ref L))) hh = some (.int (o1:Int) 0,hh):=fun d hh kk => v_atU (v_var (by rfl)) y_c (kk _ _ hR) a0
  have ep:ev (tb s) (callF (tb s) (n + len + 1)) 92 tP4 (rT q M T st len (some (.int (fw ms st len) 0)) o' none (some (.ref L))) h4 = some (.ref h4.length,h4 ++ [.tup [.int ((len / o1:Nat):Int) 0,.int 0 0,.int 0 0,.int 0 0,.int 0 0]]):=by
   have ed:=v_divE (TT:=tb s) (cf:=callF (tb s) (n + len + 1)) (d:=90) (i:=(len:Int)) (j:=(o1:Int)) (by omega) (v_var (i:=4) (by rfl)) (eo 88 h4 (Kp.refl _))
   rw [show (len:Int) / (o1:Int) = ((len / o1:Nat):Int) by omega] at ed
   exact v_c1 ed c_psum
  have e6:ev (tb s) (callF (tb s) (n + len + 1)) 92 tC4 (rT q M T st len (some (.int (fw ms st len) 0)) o' none (some (.ref L))) (h4 ++ [.tup [.int ((len / o1:Nat):Int) 0,.int 0 0,.int 0 0,.int 0 0,.int 0 0]]) = some (.ref r5,h5) :=
   v_c5 (d:=91) (v_var (by rfl)) (v_var (by rfl)) (v_var (by rfl)) (v_var (by rfl)) (eo 89 _ (Kp.app _ _)) e5
  have eR:ev (tb s) (callF (tb s) (n + len + 1)) 94 tR4 (rT q M T st len (some (.int (fw ms st len) 0)) o' none (some (.ref L))) h4 = some (.ref (h5 ++ [O.tup [.str sTim,.ref h4.length,.ref r5]]).length,h5 ++ [.tup [.str sTim,.ref h4.length,.ref r5]] ++ [.lst [.ref h5.length]]):=by
   have e7:ev (tb s) (callF (tb s) (n + len + 1)) 93 (.tup [(.c (.str [116,105,109,101,115])),tP4,tC4]) (rT q M T st len (some (.int (fw ms st len) 0)) o' none (some (.ref L))) h4 = some (.ref h5.length,h5 ++ [.tup [.str sTim,.ref h4.length,.ref r5]]):=by
    rw [y_tup,evs,y_c,y_bd,evs,ep,y_bd,evs,e6,y_bd,evs,y_bd,y_bd,y_bd,y_bd]
   rw [tR4,y_lst,evs,e7,y_bd,evs,y_bd,y_bd]
  have k7:Kp h5 (h5 ++ [O.tup [.str sTim,.ref h4.length,.ref r5]] ++ [.lst [.ref h5.length]]):=(Kp.app _ _).trans (Kp.app _ _)
  refine ⟨_,_,⟨_,w5 + 1,[.ref h5.length],rfl,k4.trans ((Kp.app _ _).trans (k5.trans k7)),at0,?_,?_⟩,?_⟩
  ·have p:=Prts.rep (p:=h5.length) (t:=h4.length) (l:=r5) (k:=len / o1) (Kp.app _ [O.lst [.ref h5.length]] _ _ at0) (k7 _ _ (k5 _ _ at0)) d2 (k7 _ _ hr5) (p5.keep k7) (by
    intro z
    have:((ms.drop st).take o1).length = 0:=by rw [z]; rfl
    rw [List.length_take,List.length_drop] at this
    omega) (Prts.nil (h:=h5 ++ [O.tup [.str sTim,.ref h4.length,.ref r5]] ++ [.lst [.ref h5.length]]))
   rw [List.append_nil,<- mk,Nat.zero_add,Nat.add_comm] at p
   exact p
  ·rw [<- ofw,<- f5]; omega
  ·rw [bts_is,x_next x0,x_next x1,x_next x2,x_next x3]
   exact x_ret eR
end
theorem Told.from {h0 h h':Hs} {ms:List (List Nat)} {st len:Nat} {u:U} (k:Kp h0 h):Told h ms st len u h' -> Told h0 ms st len u h':=fun ⟨r,w,us,a,b,c⟩ => ⟨r,w,us,a,k.trans b,c⟩
theorem v_tix {TT:Tbl} {cf:Cf} {d p:Nat} {a:E} {xs:List U} {j:Int} {u:U} {ρ:Rho} {h h1:Hs} (ea:ev TT cf (d + 1) a ρ h = some (.ref p,h1)) (hp:h1[p]? = some (.tup xs)) (hu:atU xs j = some u):ev TT cf (d + 2) (.ix a (.c (.int j 0))) ρ h = some (u,h1):=by
 simp only [y_ix,ea,y_c,y_bd,subU,hp,hu,Option.map_some]
section
variable {s:List U} {n q:Nat} {ms:List (List Nat)} {h:Hs}
def zE:E:=.comp (.seq (.var 0)) false none (.meth 4 (.var 2) [])
def zR:E:=.call 8 [(.var 0),(.var 1),(.call 2 [(.var 0)]),(.c (.int 0 0)),(.bi .len [(.var 1)])]
theorem bsr_is:b3 = [.set 1 zE,.ret zR]:=rfl
theorem c_short (hr:Row h q ms) (g:Good ms) (l1:1 <= ms.length):∃ u h',Told h ms 0 ms.length u h' /\ callF (tb s) (n + ms.length + 6) 3 [.ref q] h = some (u,h'):=by
 obtain ⟨is,hq,pr⟩:=hr
 have il:=prLen pr
 have gn:=g.n
 obtain ⟨ws,h1,al,kp,e0⟩:=c_seq (T:=tb s) (cf:=callF (tb s) (n + ms.length + 5)) (d:=97) (a:=.var 0) (el:=.meth 4 (.var 2) []) (ρ:=[some (.ref q),none]) (P:=IsM h) (Q:=fun m v h => v = U.str m) (fun _ _ _ _ _ i => i) (hs:=h) (v_var (by rfl)) hq (by omega) (fun u m ⟨p,o,e,hp,k⟩ h kp => by
  subst e
  obtain ⟨f,e1,e2⟩:=c_mrk (s:=s) (n:=n + ms.length + 4) (kp _ _ hp) k
  refine ⟨_,h,rfl,Kp.refl _,?_⟩
  have e3:ev (tb s) (callF (tb s) (n + ms.length + 5)) 96 (.var 2) ([some (.ref q),none] ++ [some (.ref p)]) h = some (.ref p,h):=v_var (by rfl)
  rw [y_meth,e3,y_bd,e1]
  simp only [evs,y_bd,e2]) pr
 cases paired_map al
 have x0:ex (tb s) (callF (tb s) (n + ms.length + 5)) 99 (.set 1 zE) [some (.ref q),none] h = some (.next,[some (.ref q),some (.ref h1.length)],h1 ++ [.lst (stz ms)]):=x_set e0
 have hM:(h1 ++ [O.lst (stz ms)])[h1.length]? = some (.lst (stz ms)):=at0
 have kM:=kp.trans (Kp.app h1 [O.lst (stz ms)])
 have ls:(stz ms).length = ms.length:=by simp [stz]
 generalize h1 ++ [O.lst (stz ms)] = h0 at x0 hM kM
 generalize h1.length = M at x0 hM
 have hr0:Row h0 q ms:=Row.keep kM ⟨is,hq,pr⟩
 obtain ⟨T,b,h3,lb,hTb,k3,tb3,f3,e4⟩:=c_fewest (s:=s) (n:=n + ms.length + 1) hr0 g
 have en3:En ms h3 b ms.length (ms.length + 1):=fun i j j1 _ ij => ⟨_,f3 i (by omega),rowv_get j1 (by omega)⟩
 obtain ⟨u,h',td,e5⟩:=c_told (s:=s) g (hr0.keep k3) (k3 _ _ hM) tb3 en3 ms.length 0 (n + 3) h3 l1 (by omega) (Kp.refl _)
 rw [show n + 3 + ms.length + 2 = n + ms.length + 5 by omega] at e5
 refine ⟨u,h',td.from (kM.trans k3),?_⟩
 have ef:ev (tb s) (callF (tb s) (n + ms.length + 5)) 96 (.call 2 [(.var 0)]) [some (.ref q),some (.ref M)] h0 = some (.ref T,h3):=v_call (by rfl) e4
 have el:=v_len (TT:=tb s) (cf:=callF (tb s) (n + ms.length + 5)) (d:=94) (i:=1) (ρ:=[some (.ref q),some (.ref M)]) (by rfl) (k3 _ _ hM)
 rw [ls] at el
 have eR:ev (tb s) (callF (tb s) (n + ms.length + 5)) 97 zR [some (.ref q),some (.ref M)] h0 = some (u,h'):=by
  rw [zR,y_call,evs,v_var (u:=.ref q) (by rfl),y_bd,evs,v_var (u:=.ref M) (by rfl),y_bd,evs,ef,y_bd,evs,y_c,y_bd,evs,el,y_bd,evs,y_bd,y_bd,y_bd,y_bd,y_bd,y_bd]
  exact e5
 rw [y_callF fnL[3] rfl rfl]
 show fin (exs (tb s) (callF (tb s) (n + ms.length + 5)) 100 b3 [some (.ref q),none] h) = _
 rw [bsr_is,x_next x0]
 exact x_ret eR
def Itm (h:Hs) (N:Nat) (u:U) (x:Nat):Prop:=∃ p,u = .ref p /\ ((∃ q,h[p]? = some (.tup [.str sOne,.ref q]) /\ x = 1) \/
 ∃ (t l w0:Nat) (us0:List U) (ms0:List (List Nat)),h[p]? = some (.tup [.str sTim,.ref t,.ref l]) /\ h[l]? = some (.lst us0) /\ Prts h us0 ms0 w0 /\ ms0.length + 1 <= N /\ x = 1 + w0)
theorem prts_itm {us:List U} {w:Nat} (p:Prts h us ms w) {N:Nat} (hN:ms.length <= N):∃ ws,Paired (Itm h N) us ws /\ ws.sum = w:=by
 induction p with
 | nil => exact ⟨[],.nil,rfl⟩
 | @one p q' o m us ms w a b c _ ih =>
  obtain ⟨ws,pw,e⟩:=ih (by simp at hN; omega)
  exact ⟨1 :: ws,.cons ⟨p,rfl,.inl ⟨q',a,rfl⟩⟩ pw,by simp [e]; omega⟩
 | @rep p t l k us0 us ms0 ms w0 w a b c d p0 e _ _ ih2 =>
  rw [List.length_append,flat_len] at hN
  have l0:=List.length_pos_iff.mpr e
  have k2:2 * ms0.length <= k * ms0.length:=Nat.mul_le_mul_right _ c
  obtain ⟨ws,pw,e⟩:=ih2 (by omega)
  exact ⟨(1 + w0) :: ws,.cons ⟨p,rfl,.inr ⟨t,l,w0,us0,ms0,a,d,p0,by omega,rfl⟩⟩ pw,by simp [e]; omega⟩
def oT:E:=.cmp .Eq (.ix (.var 1) (.c (.int 0 0))) (.c (.str [111,110,101]))
def oE:E:=.ife oT (.c (.int 1 0)) (.op .Add (.c (.int 1 0)) (.call 1 [(.ix (.var 1) (.c (.int 2 0)))]))
theorem bwd_is:b1 = [.ret (.bi .sum [(.comp (.seq (.var 0)) false none oE)])]:=rfl
theorem iz_nat {ds:List Nat}:(ds.map fun (x:Nat) => U.int (x:Int) 0) = iz (ds.map fun (x:Nat) => (x:Int)):=by rw [iz,List.map_map]; rfl
theorem sum_nat:∀ {ds:List Nat},(ds.map fun (x:Nat) => (x:Int)).sum = ((ds.sum:Nat):Int)
 | [] => rfl
 | x :: r => by rw [List.map_cons,List.sum_cons,List.sum_cons,sum_nat (ds:=r),Int.natCast_add]
theorem v_ifeT {TT:Tbl} {cf:Cf} {d:Nat} {t a b:E} {ρ:Rho} {h h1:Hs} (e:evT TT cf d t ρ h = some (true,h1)):ev TT cf (d + 1) (.ife t a b) ρ h = ev TT cf d a ρ h1:=by
 rw [y_ife,e,y_bd,if_pos rfl]
theorem v_ifeF {TT:Tbl} {cf:Cf} {d:Nat} {t a b:E} {ρ:Rho} {h h1:Hs} (e:evT TT cf d t ρ h = some (false,h1)):ev TT cf (d + 1) (.ife t a b) ρ h = ev TT cf d b ρ h1:=by
 rw [y_ife,e,y_bd,if_neg (by decide)]
theorem c_words:∀ (N:Nat) {us:List U} {ms:List (List Nat)} {w l n:Nat} {h':Hs},ms.length <= N -> N <= 100 -> Prts h us ms w -> h[l]? = some (.lst us) -> Kp h h' -> ∃ h2,Kp h' h2 /\ callF (tb s) (n + N + 1) 1 [.ref l] h' = some (.int (w:Int) 0,h2):=by
 intro N
 induction N using Nat.strongRecOn with
 | _ N ih =>
  intro us ms w l n h' hm hz p hl kp
  obtain ⟨ds,pw,hs⟩:=prts_itm p hm
  have pl:=p.len
  obtain ⟨ws,h2,al,k2,e⟩:=c_seq (T:=tb s) (cf:=callF (tb s) (n + N)) (d:=96) (a:=.var 0) (el:=oE) (ρ:=[some (.ref l)]) (P:=Itm h N) (Q:=fun d v h => v = U.int (d:Int) 0) (fun _ _ _ _ _ i => i) (hs:=h') (v_var (by rfl)) (kp _ _ hl) (by omega) (fun u x ⟨p,e,it⟩ hh kk => by
   subst e
   have e1:∀ d,ev (tb s) (callF (tb s) (n + N)) (d + 1) (.var 1) ([some (.ref l)] ++ [some (.ref p)]) hh = some (.ref p,hh):=fun d => v_var (by rfl)
   rcases it with ⟨q,a,rfl⟩ | ⟨t,l0,w0,us0,ms0,a,b,p0,lt,rfl⟩
   ·refine ⟨_,hh,rfl,Kp.refl _,?_⟩
    exact (v_ifeT (t:=oT) (h1:=hh) (v_Tcmp (v_tix (d:=91) (e1 91) (kk _ _ (kp _ _ a)) rfl) (y_c (u:=.str sOne)) (by rw [e_eq]; rfl))).trans y_c
   ·obtain ⟨h3,k3,e3⟩:=ih (N - 1) (by omega) (n:=n) (us:=us0) (ms:=ms0) (w:=w0) (l:=l0) (h':=hh) (by omega) (by omega) p0 b (kp.trans kk)
    rw [show n + (N - 1) + 1 = n + N by omega] at e3
    refine ⟨_,h3,rfl,k3,?_⟩
    rw [show ((1 + w0:Nat):Int) = 1 + (w0:Int) by omega]
    exact (v_ifeF (t:=oT) (h1:=hh) (v_Tcmp (v_tix (d:=91) (e1 91) (kk _ _ (kp _ _ a)) rfl) (y_c (u:=.str sOne)) (by rw [e_eq]; rfl))).trans (v_add (y_c (u:=.int 1 0)) (v_c1 (v_tix (d:=91) (e1 91) (kk _ _ (kp _ _ a)) rfl) e3))) pw
  cases paired_map al
  refine ⟨h2 ++ [.lst (ds.map fun (x:Nat) => U.int (x:Int) 0)],k2.trans (Kp.app _ _),?_⟩
  rw [y_callF fnL[1] rfl rfl]
  show fin (exs (tb s) (callF (tb s) (n + N)) 100 b1 [some (.ref l)] h') = _
  rw [bwd_is]
  refine x_ret (d:=98) ?_
  rw [y_bi,evs,e,y_bd,evs,y_bd,y_bd]
  show ((lstU (tb s) (.ref h2.length) _).bind fun xs => (intsU xs).map fun ns => (U.int ns.sum 0,_)) = _
  rw [show lstU (tb s) (.ref h2.length) (h2 ++ [O.lst (ds.map fun (x:Nat) => U.int (x:Int) 0)]) = some (ds.map fun (x:Nat) => U.int (x:Int) 0) by simp only [lstU,at0]]
  show ((intsU _).map fun ns => (U.int ns.sum 0,_)) = _
  rw [iz_nat,intsU_iz]
  show some (U.int (ds.map fun (x:Nat) => (x:Int)).sum 0,_) = _
  rw [sum_nat,hs]
end
section
variable {s:List U} {n:Nat} {h:Hs}
theorem c_whole {i:Int}:callF (tb s) (n + 1) 31 [.int i 0] h = some (.bl true,h):=by
 rw [y_callF fnL[31] rfl rfl]
 show fin (exs (tb s) (callF (tb s) n) 100 b31 [some (.int i 0)] h) = _
 simp [b31,yy,evs,evO,srcU,turns,cmpU,eq_int,truU,subU,opU,addI,biU,biL,slU,fin,isiU,kindU,isiB]
theorem isi_st {q:Nat} {o:O} {m:List Nat} (hq:h[q]? = some o) (k:MkO o m):isiU (tb s) (.cls 0) (.ref q) h = some true:=by
 cases k <;> (simp only [isiU,kindU,hq]; rfl)
theorem isi_tup {TT:Tbl} {q:Nat} {xs:List U} (hq:h[q]? = some (.tup xs)):isiU TT .tuple (.ref q) h = some true:=by
 simp only [isiU,kindU,hq]; rfl
theorem isi_lst {TT:Tbl} {q:Nat} {xs:List U} (hq:h[q]? = some (.lst xs)):isiU TT .list (.ref q) h = some true:=by
 simp only [isiU,kindU,hq]; rfl
theorem v_Tor0 {TT:Tbl} {cf:Cf} {d:Nat} {a c:E} {ρ:Rho} {h h1 h2:Hs} (ea:evT TT cf d a ρ h = some (false,h1)) (ec:evT TT cf d c ρ h1 = some (false,h2)):evT TT cf (d + 1) (.or a c) ρ h = some (false,h2):=by
 rw [y_Tor,ea,y_bd,if_neg (by decide),ec]
theorem v_Tnot {TT:Tbl} {cf:Cf} {d:Nat} {a:E} {ρ:Rho} {h h1:Hs} {c:Bool} (ea:evT TT cf d a ρ h = some (c,h1)):evT TT cf (d + 1) (.not a) ρ h = some (!c,h1):=by
 rw [y_Tnot,ea,y_bd]
theorem v_isi {TT:Tbl} {cf:Cf} {d:Nat} {a:E} {t:Ty} {u:U} {ρ:Rho} {h h1:Hs} {c:Bool} (ea:ev TT cf d a ρ h = some (u,h1)) (et:isiU TT t u h1 = some c):ev TT cf (d + 1) (.isi a t) ρ h = some (.bl c,h1):=by
 rw [y_isi,ea,y_bd,et]; rfl
theorem v_Tisi {TT:Tbl} {cf:Cf} {d:Nat} {a:E} {t:Ty} {u:U} {ρ:Rho} {h h1:Hs} {c:Bool} (ea:ev TT cf d a ρ h = some (u,h1)) (et:isiU TT t u h1 = some c):evT TT cf (d + 2) (.isi a t) ρ h = some (c,h1):=by
 rw [y_Tisi,v_isi ea et,y_bd]; rfl
theorem v_Tcall {TT:Tbl} {cf:Cf} {d f:Nat} {es:List E} {ρ:Rho} {h h1:Hs} {c:Bool} (e:ev TT cf d (.call f es) ρ h = some (.bl c,h1)):evT TT cf (d + 1) (.call f es) ρ h = some (c,h1):=by
 rw [y_Tcall,e,y_bd]; rfl
theorem v_lenT {TT:Tbl} {cf:Cf} {d q:Nat} {a:E} {xs:List U} {ρ:Rho} {h h1:Hs} (ea:ev TT cf d a ρ h = some (.ref q,h1)) (hq:h1[q]? = some (.tup xs)):ev TT cf (d + 1) (.bi .len [a]) ρ h = some (.int (xs.length:Int) 0,h1):=by
 simp only [y_bi,evs,ea,y_bd,biU,seqU,hq,Option.map_some]
theorem e_nei {T:Tbl} {i j:Int} {hs:Hs}:cmpU T .NotEq (.int i 0) (.int j 0) hs = some (!decide (i = j)):=rfl
theorem e_gei {T:Tbl} {i j:Int} {hs:Hs}:cmpU T .GtE (.int i 0) (.int j 0) hs = some (decide (j <= i)):=rfl
theorem e_gti {T:Tbl} {i j:Int} {hs:Hs}:cmpU T .Gt (.int i 0) (.int j 0) hs = some (decide (j < i)):=rfl
theorem for_sameT {T:Tbl} {body:Ex} {x l:Nat} {us:List U} {R:Option U -> Rho} {h:Hs} (hl:h[l]? = some (.tup us)) (hR:∀ o u,(R o).set x (some u) = R (some u)) (step:∀ u,u ∈ us -> body (R (some u)) h = some (.next,R (some u),h)):∀ (k i:Nat) (o:Option U),i + k = us.length -> ∃ o',forU T (.seqT (.ref l)) (.name x) body (k + 1) i (R o) h = some (.next,R o',h)
 | 0,i,o,hi => ⟨o,by
  have n0:us[i]? = none:=List.getElem?_eq_none (by omega)
  rw [forU]
  simp only [itm,tupU,hl,Option.map_some,n0,Option.map_none]⟩
 | k + 1,i,o,hi => by
  have l1:i < us.length:=by omega
  have e:=step us[i] (List.getElem_mem l1)
  obtain ⟨o',e'⟩:=for_sameT (T:=T) hl hR step k (i + 1) (some us[i]) (by omega)
  refine ⟨o',?_⟩
  rw [forU]
  simp only [itm,tupU,hl,Option.map_some,List.getElem?_eq_getElem l1,tgt,hR,e]
  exact e'
def fA:S:=.ite (.or (.not (.isi (.var 0) .tuple)) (.cmp .Lt (.bi .len [(.var 0)]) (.c (.int 2 0)))) [(.ret (.c (.bl false)))] []
def fBt:E:=.cmp .Eq (.ix (.var 0) (.c (.int 0 0))) (.c (.str [111,110,101]))
def fBr:E:=.and (.cmp .Eq (.bi .len [(.var 0)]) (.c (.int 2 0))) (.isi (.ix (.var 0) (.c (.int 1 0))) (.cls 0))
def fB:S:=.ite fBt [(.ret fBr)] []
def fD:S:=.ite (.or (.cmp .NotEq (.ix (.var 0) (.c (.int 0 0))) (.c (.str [116,105,109,101,115]))) (.or (.cmp .NotEq (.bi .len [(.var 0)]) (.c (.int 3 0))) (.or (.not (.isi (.ix (.var 0) (.c (.int 1 0))) .tuple)) (.cmp .NotEq (.bi .len [(.ix (.var 0) (.c (.int 1 0)))]) (.c (.int 5 0)))))) [(.ret (.c (.bl false)))] []
def fEb:S:=.ite (.not (.call 31 [(.var 1)])) [(.ret (.c (.bl false)))] []
def fE:S:=.loop (.name 1) (.seq (.ix (.var 0) (.c (.int 1 0)))) [fEb]
def fF:S:=.ite (.or (.cmp .Lt (.ix (.ix (.var 0) (.c (.int 1 0))) (.c (.int 0 0))) (.c (.int 2 0))) (.cmp .NotEq (.sl (.ix (.var 0) (.c (.int 1 0))) (some (.c (.int 1 0))) none) (.tup [(.c (.int 0 0)),(.c (.int 0 0)),(.c (.int 0 0)),(.c (.int 0 0))]))) [(.ret (.c (.bl false)))] []
def fG:E:=.and (.isi (.ix (.var 0) (.c (.int 2 0))) .list) (.cmp .NotEq (.ix (.var 0) (.c (.int 2 0))) (.lst []))
theorem bfo_is:b36 = [fA,fB,fD,fE,fF,.ret fG]:=rfl
theorem c_form1 {p q:Nat} {o:O} {m:List Nat} (hp:h[p]? = some (.tup [.str sOne,.ref q])) (hq:h[q]? = some o) (k:MkO o m):callF (tb s) (n + 1) 36 [.ref p] h = some (.bl true,h):=by
 have v0:∀ d,ev (tb s) (callF (tb s) n) (d + 1) (.var 0) [some (.ref p),none] h = some (.ref p,h):=fun d => v_var (by rfl)
 have x0:ex (tb s) (callF (tb s) n) 99 fA [some (.ref p),none] h = some (.next,[some (.ref p),none],h) :=
  x_next0 (v_Tor0 (v_Tnot (c:=true) (v_Tisi (v0 93) (isi_tup hp))) (v_Tcmp (d:=95) (v_lenT (v0 93) hp) (y_c (u:=.int 2 0)) (by rw [e_lti]; rfl)))
 have x1:ex (tb s) (callF (tb s) n) 98 fB [some (.ref p),none] h = some (.ret (.bl true),[some (.ref p),none],h) :=
  (x_ifT (t:=fBt) (v_Tcmp (d:=95) (v_tix (v0 93) hp rfl) (y_c (u:=.str sOne)) (by rw [e_eq]; rfl))).trans (x_retR (v_andT (v_cmp (o:=.Eq) (c:=true) (d:=93) (v_lenT (v0 92) hp) (y_c (u:=.int 2 0)) (by rw [e_eqi]; rfl)) (v_isi (v_tix (v0 91) hp rfl) (isi_st hq k))))
 rw [y_callF fnL[36] rfl rfl]
 show fin (exs (tb s) (callF (tb s) n) 100 b36 [some (.ref p),none] h) = _
 rw [bfo_is,x_next x0,x_stop x1]
 rfl
theorem c_form2 {p t l k:Nat} {us:List U} (hp:h[p]? = some (.tup [.str sTim,.ref t,.ref l])) (ht:h[t]? = some (.tup [.int (k:Int) 0,.int 0 0,.int 0 0,.int 0 0,.int 0 0])) (k2:2 <= k) (hl:h[l]? = some (.lst us)) (ne:us ≠ []):∃ h',Kp h h' /\ callF (tb s) (n + 2) 36 [.ref p] h = some (.bl true,h'):=by
 have v0:∀ d o h',ev (tb s) (callF (tb s) (n + 1)) (d + 1) (.var 0) [some (.ref p),o] h' = some (.ref p,h'):=fun d o h' => v_var (by rfl)
 have i1:∀ d o,ev (tb s) (callF (tb s) (n + 1)) (d + 2) (.ix (.var 0) (.c (.int 1 0))) [some (.ref p),o] h = some (.ref t,h):=fun d o => v_tix (v0 d o h) hp rfl
 have x0:ex (tb s) (callF (tb s) (n + 1)) 99 fA [some (.ref p),none] h = some (.next,[some (.ref p),none],h) :=
  x_next0 (v_Tor0 (v_Tnot (c:=true) (v_Tisi (v0 93 none h) (isi_tup hp))) (v_Tcmp (d:=95) (v_lenT (v0 93 none h) hp) (y_c (u:=.int 2 0)) (by rw [e_lti]; rfl)))
 have x1:ex (tb s) (callF (tb s) (n + 1)) 98 fB [some (.ref p),none] h = some (.next,[some (.ref p),none],h) :=
  x_next0 (t:=fBt) (v_Tcmp (d:=95) (v_tix (v0 93 none h) hp rfl) (y_c (u:=.str sOne)) (by rw [e_eq]; rfl))
 have x2:ex (tb s) (callF (tb s) (n + 1)) 97 fD [some (.ref p),none] h = some (.next,[some (.ref p),none],h) :=
  x_next0 (v_Tor0 (v_Tcmp (d:=93) (v_tix (v0 91 none h) hp rfl) (y_c (u:=.str sTim)) (by rw [e_ne]; rfl)) (v_Tor0 (v_Tcmp (d:=92) (v_lenT (v0 90 none h) hp) (y_c (u:=.int 3 0)) (by rw [e_nei]; rfl)) (v_Tor0 (v_Tnot (c:=true) (v_Tisi (i1 88 none) (isi_tup ht))) (v_Tcmp (d:=91) (v_lenT (i1 88 none) ht) (y_c (u:=.int 5 0)) (by rw [e_nei]; rfl)))))
 obtain ⟨o',lp⟩:=for_sameT (T:=tb s) (x:=1) (body:=exs (tb s) (callF (tb s) (n + 1)) 95 [fEb]) (R:=fun o => [some (.ref p),o]) ht (fun _ _ => rfl) (fun u hu => by
  obtain ⟨i,rfl⟩:∃ i:Int,u = .int i 0:=by
   simp only [List.mem_cons,List.not_mem_nil,or_false] at hu
   rcases hu with rfl | rfl | rfl | rfl | rfl <;> exact ⟨_,rfl⟩
  have xb:ex (tb s) (callF (tb s) (n + 1)) 94 fEb [some (.ref p),some (.int i 0)] h = some (.next,[some (.ref p),some (.int i 0)],h) :=
   x_next0 (v_Tnot (c:=true) (v_Tcall (v_call (by rfl) c_whole)))
  exact (x_next xb).trans y_nil) 5 0 none rfl
 have x3:ex (tb s) (callF (tb s) (n + 1)) 96 fE [some (.ref p),none] h = some (.next,[some (.ref p),o'],h):=by
  have sr:srcU (tb s) (ev (tb s) (callF (tb s) (n + 1)) 95) [some (.ref p),none] (.seq (.ix (.var 0) (.c (.int 1 0)))) h = some (.seqT (.ref t),h):=by
   simp only [srcU,i1 93 none,y_bd,wkS,lstU,tupU,ht,Option.map_some]
  have tn:turns (tb s) (.seqT (.ref t)) h = 5 + 1:=by simp only [turns,tupU,ht,Option.getD_some]; rfl
  rw [fE,y_loop,sr,y_bd,tn]
  exact lp
 have es:ev (tb s) (callF (tb s) (n + 1)) 91 (.sl (.ix (.var 0) (.c (.int 1 0))) (some (.c (.int 1 0))) none) [some (.ref p),o'] h = some (.ref h.length,h ++ [.tup [.int 0 0,.int 0 0,.int 0 0,.int 0 0]]):=by
  rw [y_sl,i1 88 o',y_bd]
  simp only [evO,y_c,y_bd,slU,ht]
  rfl
 have et:ev (tb s) (callF (tb s) (n + 1)) 91 (.tup [(.c (.int 0 0)),(.c (.int 0 0)),(.c (.int 0 0)),(.c (.int 0 0))]) [some (.ref p),o'] (h ++ [.tup [.int 0 0,.int 0 0,.int 0 0,.int 0 0]]) = some (.ref (h ++ [O.tup [.int 0 0,.int 0 0,.int 0 0,.int 0 0]]).length,h ++ [.tup [.int 0 0,.int 0 0,.int 0 0,.int 0 0]] ++ [.tup [.int 0 0,.int 0 0,.int 0 0,.int 0 0]]):=by
  simp only [y_tup,evs,y_c,y_bd]
 have hc:cmpU (tb s) .NotEq (.ref h.length) (.ref (h ++ [O.tup [.int 0 0,.int 0 0,.int 0 0,.int 0 0]]).length) (h ++ [.tup [.int 0 0,.int 0 0,.int 0 0,.int 0 0]] ++ [.tup [.int 0 0,.int 0 0,.int 0 0,.int 0 0]]) = some false:=by
  have a1:(h ++ [O.tup [.int 0 0,.int 0 0,.int 0 0,.int 0 0]] ++ [O.tup [.int 0 0,.int 0 0,.int 0 0,.int 0 0]])[h.length]? = some (.tup [.int 0 0,.int 0 0,.int 0 0,.int 0 0]):=keepR at0
  have a2:(h ++ [O.tup [.int 0 0,.int 0 0,.int 0 0,.int 0 0]] ++ [O.tup [.int 0 0,.int 0 0,.int 0 0,.int 0 0]])[(h ++ [O.tup [.int 0 0,.int 0 0,.int 0 0,.int 0 0]]).length]? = some (.tup [.int 0 0,.int 0 0,.int 0 0,.int 0 0]):=at0
  generalize h ++ [O.tup [.int 0 0,.int 0 0,.int 0 0,.int 0 0]] ++ [O.tup [.int 0 0,.int 0 0,.int 0 0,.int 0 0]] = hh at a1 a2
  generalize (h ++ [O.tup [.int 0 0,.int 0 0,.int 0 0,.int 0 0]]).length = j at a2
  generalize h.length = i at a1
  simp [cmpU,eqA,eqS,lenNe,sameR,okW,eqW,lstU,tupU,a1,a2,eqB]
 have x4:ex (tb s) (callF (tb s) (n + 1)) 95 fF [some (.ref p),o'] h = some (.next,[some (.ref p),o'],h ++ [.tup [.int 0 0,.int 0 0,.int 0 0,.int 0 0]] ++ [.tup [.int 0 0,.int 0 0,.int 0 0,.int 0 0]]) :=
  x_next0 (v_Tor0 (v_Tcmp (d:=91) (v_tix (i1 88 o') ht rfl) (y_c (u:=.int 2 0)) (by rw [e_lti,decide_eq_false (by omega)])) (v_Tcmp (d:=91) es et hc))
 have kk:Kp h (h ++ [O.tup [.int 0 0,.int 0 0,.int 0 0,.int 0 0]] ++ [O.tup [.int 0 0,.int 0 0,.int 0 0,.int 0 0]]):=(Kp.app _ _).trans (Kp.app _ _)
 generalize h ++ [O.tup [.int 0 0,.int 0 0,.int 0 0,.int 0 0]] ++ [O.tup [.int 0 0,.int 0 0,.int 0 0,.int 0 0]] = h2 at x4 kk
 have i2:∀ d,ev (tb s) (callF (tb s) (n + 1)) (d + 2) (.ix (.var 0) (.c (.int 2 0))) [some (.ref p),o'] h2 = some (.ref l,h2):=fun d => v_tix (v0 d o' h2) (kk _ _ hp) rfl
 have eg:ev (tb s) (callF (tb s) (n + 1)) 93 fG [some (.ref p),o'] h2 = some (.bl true,h2 ++ [.lst []]):=by
  refine v_andT (d:=92) (v_isi (i2 89) (isi_lst (kk _ _ hl))) (v_cmp (d:=91) (i2 89) (h2:=h2 ++ [.lst []]) (w:=.ref h2.length) (by simp only [y_lst,evs,y_bd]) ?_)
  have a1:(h2 ++ [O.lst []])[l]? = some (.lst us):=keepR (kk _ _ hl)
  have a2:(h2 ++ [O.lst []])[h2.length]? = some (.lst []):=at0
  have ln:lenNe (tb s) (.ref l) (.ref h2.length) (h2 ++ [O.lst []]) = true:=by
   simp only [lenNe,lstU,a1,a2]
   exact decide_eq_true (fun z => ne (List.length_eq_zero_iff.mp z))
  simp [cmpU,eqA,eqS,ln]
 refine ⟨h2 ++ [.lst []],kk.trans (Kp.app _ _),?_⟩
 rw [y_callF fnL[36] rfl rfl]
 show fin (exs (tb s) (callF (tb s) (n + 1)) 100 b36 [some (.ref p),none] h) = _
 rw [bfo_is,x_next x0,x_next x1,x_next x2,x_next x3,x_next x4]
 exact x_ret eg
end
theorem v_repN {TT:Tbl} {cf:Cf} {d p k:Nat} {a e:E} {us:List U} {ρ:Rho} {h h1 h2:Hs} (ea:ev TT cf d a ρ h = some (.ref p,h1)) (ee:ev TT cf d e ρ h1 = some (.int (k:Int) 0,h2)) (hp:h2[p]? = some (.lst us)) (hk:k <= 1000) (hz:k * us.length <= 1000):ev TT cf (d + 1) (.op .Mult a e) ρ h = some (.ref h2.length,h2 ++ [.lst (List.replicate k us).flatten]):=by
 simp only [y_op,ea,y_bd,ee,opU,repI,hp,Int.toNat_natCast]
 exact if_pos ⟨by omega,by omega,by rw [Nat.mul_comm]; omega⟩
theorem for_lst {T:Tbl} {body:Ex} {x:Nat} {l:Nat} {us:List U} (I:Nat -> Rho -> Hs -> Prop) (keep:∀ i ρ h,I i ρ h -> h[l]? = some (.lst us))
  (step:∀ i u ρ h,us[i]? = some u -> I i ρ h -> ∃ ρ' h',I (i + 1) ρ' h' /\ body (ρ.set x (some u)) h = some (.next,ρ',h')):∀ (k i:Nat) (ρ:Rho) (h:Hs),i + k = us.length -> I i ρ h ->
  ∃ ρ' h',I us.length ρ' h' /\ forU T (.seqL (.ref l)) (.name x) body (k + 1) i ρ h = some (.next,ρ',h')
 | 0,i,ρ,h,hi,hI => ⟨ρ,h,by rw [<- hi]; exact hI,by
  have n0:us[i]? = none:=List.getElem?_eq_none (by omega)
  rw [forU]
  simp only [itm,lstU,keep i ρ h hI,Option.map_some,n0,Option.map_none]⟩
 | k + 1,i,ρ,h,hi,hI => by
  have l1:i < us.length:=by omega
  obtain ⟨ρ1,h1,I1,e⟩:=step i us[i] ρ h (List.getElem?_eq_getElem l1) hI
  obtain ⟨ρ2,h2,I2,e'⟩:=for_lst I keep step k (i + 1) ρ1 h1 (by omega) I1
  refine ⟨ρ2,h2,I2,?_⟩
  rw [forU]
  simp only [itm,lstU,keep i ρ h hI,Option.map_some,List.getElem?_eq_getElem l1,tgt,e]
  exact e'
theorem x_forL {T:Tbl} {cf:Cf} {d x l:Nat} {e:E} {body:List S} {us:List U} {ρ:Rho} {h h0:Hs} {r:Option (Fl × Rho × Hs)} (es:ev T cf d e ρ h = some (.ref l,h0)) (hl:h0[l]? = some (.lst us)) (lp:forU T (.seqL (.ref l)) (.name x) (exs T cf d body) (us.length + 1) 0 ρ h0 = r):ex T cf (d + 1) (.loop (.name x) (.seq e) body) ρ h = r:=by
 have sr:srcU T (ev T cf d) ρ (.seq e) h = some (.seqL (.ref l),h0):=by simp only [srcU,es,y_bd,wkS,lstU,hl,Option.map_some]
 have tn:turns T (.seqL (.ref l)) h0 = us.length + 1:=by simp only [turns,lstU,hl,Option.getD_some]
 rw [y_loop,sr,y_bd,tn]
 exact lp
theorem stz_app {a b:List (List Nat)}:stz a ++ stz b = stz (a ++ b):=by simp [stz]
theorem stz_rep {a:List (List Nat)} {k:Nat}:(List.replicate k (stz a)).flatten = stz (List.replicate k a).flatten:=by
 induction k with
 | zero => rfl
 | succ k ih => rw [List.replicate_succ,List.flatten_cons,ih,stz_app,<- List.flatten_cons,<- List.replicate_succ]
section
variable {s:List U} {h:Hs}
abbrev rU (l most r c:Nat) (o4 o5:Option U):Rho:=[some (.ref l),some (.int (most:Int) 0),some (.ref r),some (.int (c:Int) 0),o4,o5]
def uAt:E:=.or (.not (.call 36 [(.var 4)])) (.cmp .GtE (.bi .len [(.var 2)]) (.var 1))
def uA:S:=.ite uAt [(.ret (.c .non))] []
def uBt:E:=.cmp .Eq (.ix (.var 4) (.c (.int 0 0))) (.c (.str [111,110,101]))
def uC:S:=.set 2 (.op .Add (.var 2) (.lst [(.meth 4 (.ix (.var 4) (.c (.int 1 0))) [])]))
def uD:S:=.set 3 (.op .Add (.var 3) (.c (.int 1 0)))
def uK:E:=.ix (.ix (.var 4) (.c (.int 1 0))) (.c (.int 0 0))
def uEe:E:=.call 37 [(.ix (.var 4) (.c (.int 2 0))),(.op .FloorDiv (.var 1) uK)]
def uE:S:=.set 5 uEe
def uF:S:=.ite (.cmp .Is (.var 5) (.c .non)) [(.ret (.c .non))] []
def uG:S:=.set 2 (.op .Add (.var 2) (.op .Mult (.ix (.var 5) (.c (.int 0 0))) uK))
def uH:S:=.set 3 (.op .Add (.op .Add (.var 3) (.c (.int 1 0))) (.ix (.var 5) (.c (.int 1 0))))
def uB:S:=.ite uBt [uC,uD] [uE,uF,uG,uH]
theorem bun_is:b37 = [.set 2 (.lst []),.set 3 (.c (.int 0 0)),.loop (.name 4) (.seq (.var 0)) [uA,uB],.ret (.tup [(.var 2),(.var 3)])]:=rfl
theorem u_one {n l most r c p q:Nat} {o:O} {m:List Nat} {pre:List (List Nat)} {o5:Option U} {hh:Hs} (hr:hh[r]? = some (.lst (stz pre))) (hp:hh[p]? = some (.tup [.str sOne,.ref q])) (hq:hh[q]? = some o) (k:MkO o m) (lt:pre.length < most) (hz:pre.length <= 500) :
  ∃ r' h2,Kp hh h2 /\ h2[r']? = some (.lst (stz (pre ++ [m]))) /\ exs (tb s) (callF (tb s) (n + 1)) 96 [uA,uB] (rU l most r c (some (.ref p)) o5) hh = some (.next,rU l most r' (c + 1) (some (.ref p)) o5,h2):=by
 have ls:(stz pre).length = pre.length:=by simp [stz]
 have v4:∀ d,ev (tb s) (callF (tb s) (n + 1)) (d + 1) (.var 4) (rU l most r c (some (.ref p)) o5) hh = some (.ref p,hh):=fun d => v_var (by rfl)
 have xa:ex (tb s) (callF (tb s) (n + 1)) 95 uA (rU l most r c (some (.ref p)) o5) hh = some (.next,rU l most r c (some (.ref p)) o5,hh) :=
  x_next0 (t:=uAt) (v_Tor0 (v_Tnot (c:=true) (v_Tcall (v_call (by rfl) (c_form1 hp hq k)))) (v_Tcmp (d:=91) (v_len (by rfl) hr) (v_var (by rfl)) (by rw [e_gei,ls,decide_eq_false (by omega)])))
 obtain ⟨f,e1,e2⟩:=c_mrk (s:=s) (n:=n) hq k
 have em:ev (tb s) (callF (tb s) (n + 1)) 89 (.meth 4 (.ix (.var 4) (.c (.int 1 0))) []) (rU l most r c (some (.ref p)) o5) hh = some (.str m,hh):=by
  rw [y_meth,v_tix (v4 86) hp rfl,y_bd,e1]
  simp only [evs,y_bd,e2]
 have el:ev (tb s) (callF (tb s) (n + 1)) 90 (.lst [(.meth 4 (.ix (.var 4) (.c (.int 1 0))) [])]) (rU l most r c (some (.ref p)) o5) hh = some (.ref hh.length,hh ++ [.lst (stz [m])]):=by
  rw [y_lst,evs,em,y_bd,evs,y_bd,y_bd]
  rfl
 have ec:=v_cat (TT:=tb s) (cf:=callF (tb s) (n + 1)) (d:=90) (a:=.var 2) (ρ:=rU l most r c (some (.ref p)) o5) (v_var (by rfl)) el (keepR hr) at0 (by simp [stz]; omega)
 rw [stz_app] at ec
 have xc:ex (tb s) (callF (tb s) (n + 1)) 92 uC (rU l most r c (some (.ref p)) o5) hh = some (.next,rU l most (hh ++ [O.lst (stz [m])]).length c (some (.ref p)) o5,hh ++ [.lst (stz [m])] ++ [.lst (stz (pre ++ [m]))]):=x_set ec
 have hR:(hh ++ [O.lst (stz [m])] ++ [O.lst (stz (pre ++ [m]))])[(hh ++ [O.lst (stz [m])]).length]? = some (.lst (stz (pre ++ [m]))):=at0
 have k2:Kp hh (hh ++ [O.lst (stz [m])] ++ [O.lst (stz (pre ++ [m]))]):=(Kp.app _ _).trans (Kp.app _ _)
 generalize hh ++ [O.lst (stz [m])] ++ [O.lst (stz (pre ++ [m]))] = h2 at xc hR k2
 generalize (hh ++ [O.lst (stz [m])]).length = r' at xc hR
 have xd:ex (tb s) (callF (tb s) (n + 1)) 91 uD (rU l most r' c (some (.ref p)) o5) h2 = some (.next,rU l most r' (c + 1) (some (.ref p)) o5,h2):=by
  have:=x_set (i:=3) (v_add (TT:=tb s) (cf:=callF (tb s) (n + 1)) (d:=89) (ρ:=rU l most r' c (some (.ref p)) o5) (h:=h2) (v_var (i:=3) (by rfl)) (y_c (u:=.int 1 0)))
  exact this
 have xb:ex (tb s) (callF (tb s) (n + 1)) 94 uB (rU l most r c (some (.ref p)) o5) hh = some (.next,rU l most r' (c + 1) (some (.ref p)) o5,h2):=by
  refine (x_ifT (t:=uBt) (v_Tcmp (d:=91) (v_tix (v4 89) hp rfl) (y_c (u:=.str sOne)) (by rw [e_eq]; rfl))).trans ?_
  rw [x_next xc,x_next xd,y_nil]
 exact ⟨r',h2,k2,hR,by rw [x_next xa,x_next xb,y_nil]⟩
theorem u_rep {n l most r c p t l0 k w0:Nat} {us0:List U} {ms0 pre:List (List Nat)} {o5:Option U} {hh:Hs} (hr:hh[r]? = some (.lst (stz pre))) (hp:hh[p]? = some (.tup [.str sTim,.ref t,.ref l0])) (ht:hh[t]? = some (.tup [.int (k:Int) 0,.int 0 0,.int 0 0,.int 0 0,.int 0 0])) (k2:2 <= k) (k9:k < 100) (hl:hh[l0]? = some (.lst us0)) (ne:us0 ≠ []) (lt:pre.length < most) (hz:pre.length <= 500) (hkz:k * ms0.length <= 500)
  (inner:∀ h',Kp hh h' -> ∃ t' r' h2,Kp h' h2 /\ h2[t']? = some (.tup [.ref r',.int (w0:Int) 0]) /\ h2[r']? = some (.lst (stz ms0)) /\ callF (tb s) (n + 2) 37 [.ref l0,.int ((most / k:Nat):Int) 0] h' = some (.ref t',h2)) :
  ∃ r' o5' h2,Kp hh h2 /\ h2[r']? = some (.lst (stz (pre ++ (List.replicate k ms0).flatten))) /\ exs (tb s) (callF (tb s) (n + 2)) 96 [uA,uB] (rU l most r c (some (.ref p)) o5) hh = some (.next,rU l most r' (c + 1 + w0) (some (.ref p)) o5',h2):=by
 have ls:(stz pre).length = pre.length:=by simp [stz]
 obtain ⟨h1,k1,ef⟩:=c_form2 (s:=s) (n:=n) hp ht k2 hl ne
 have xa:ex (tb s) (callF (tb s) (n + 2)) 95 uA (rU l most r c (some (.ref p)) o5) hh = some (.next,rU l most r c (some (.ref p)) o5,h1) :=
  x_next0 (t:=uAt) (v_Tor0 (v_Tnot (c:=true) (v_Tcall (v_call (by rfl) ef))) (v_Tcmp (d:=91) (v_len (by rfl) (k1 _ _ hr)) (v_var (by rfl)) (by rw [e_gei,ls,decide_eq_false (by omega)])))
 have v4:∀ d o h',ev (tb s) (callF (tb s) (n + 2)) (d + 1) (.var 4) (rU l most r c (some (.ref p)) o) h' = some (.ref p,h'):=fun d o h' => v_var (by rfl)
 have vk:∀ d o h',Kp hh h' -> ev (tb s) (callF (tb s) (n + 2)) (d + 3) uK (rU l most r c (some (.ref p)) o) h' = some (.int (k:Int) 0,h'):=fun d o h' kk => v_tix (v_tix (v4 d o h') (kk _ _ hp) rfl) (kk _ _ ht) rfl
 obtain ⟨t',r0,h2,kh,ht',hr0,ei⟩:=inner h1 k1
 have ed:=v_divE (TT:=tb s) (cf:=callF (tb s) (n + 2)) (d:=89) (a:=.var 1) (i:=(most:Int)) (j:=(k:Int)) (by omega) (v_var (by rfl)) (vk 86 o5 h1 k1)
 rw [show (most:Int) / (k:Int) = ((most / k:Nat):Int) by omega] at ed
 have e2:ev (tb s) (callF (tb s) (n + 2)) 90 (.ix (.var 4) (.c (.int 2 0))) (rU l most r c (some (.ref p)) o5) h1 = some (.ref l0,h1):=v_tix (v4 88 o5 h1) (k1 _ _ hp) rfl
 have ee:ev (tb s) (callF (tb s) (n + 2)) 91 uEe (rU l most r c (some (.ref p)) o5) h1 = some (.ref t',h2):=by
  rw [uEe,y_call,evs,e2,y_bd,evs,ed,y_bd,evs,y_bd,y_bd,y_bd]
  exact ei
 have xe:ex (tb s) (callF (tb s) (n + 2)) 92 uE (rU l most r c (some (.ref p)) o5) h1 = some (.next,rU l most r c (some (.ref p)) (some (.ref t')),h2):=x_set ee
 have kA:=k1.trans kh
 have xf:ex (tb s) (callF (tb s) (n + 2)) 91 uF (rU l most r c (some (.ref p)) (some (.ref t'))) h2 = some (.next,rU l most r c (some (.ref p)) (some (.ref t')),h2) :=
  x_next0 (v_Tcmp (d:=88) (o:=.Is) (u:=.ref t') (w:=.non) (v_var (by rfl)) y_c rfl)
 have v5:∀ d r c h',ev (tb s) (callF (tb s) (n + 2)) (d + 1) (.var 5) (rU l most r c (some (.ref p)) (some (.ref t'))) h' = some (.ref t',h'):=fun d r c h' => v_var (by rfl)
 have er:=v_repN (TT:=tb s) (cf:=callF (tb s) (n + 2)) (d:=87) (a:=.ix (.var 5) (.c (.int 0 0))) (e:=uK) (k:=k) (ρ:=rU l most r c (some (.ref p)) (some (.ref t'))) (v_tix (v5 85 r c h2) ht' rfl) (vk 84 (some (.ref t')) h2 kA) hr0 (by omega) (by simp [stz]; omega)
 rw [stz_rep] at er
 have lf:(stz (List.replicate k ms0).flatten).length <= 500:=by rw [show (stz (List.replicate k ms0).flatten).length = (List.replicate k ms0).flatten.length by simp only [stz,List.length_map],flat_len]; exact hkz
 have ec:=v_cat (TT:=tb s) (cf:=callF (tb s) (n + 2)) (d:=88) (a:=.var 2) (ρ:=rU l most r c (some (.ref p)) (some (.ref t'))) (v_var (by rfl)) er (keepR (kA _ _ hr)) at0 (by omega)
 rw [stz_app] at ec
 generalize (List.replicate k ms0).flatten = fl at ec
 have xg:ex (tb s) (callF (tb s) (n + 2)) 90 uG (rU l most r c (some (.ref p)) (some (.ref t'))) h2 = some (.next,rU l most (h2 ++ [O.lst (stz fl)]).length c (some (.ref p)) (some (.ref t')),h2 ++ [.lst (stz fl)] ++ [.lst (stz (pre ++ fl))]):=x_set ec
 have hR:(h2 ++ [O.lst (stz fl)] ++ [O.lst (stz (pre ++ fl))])[(h2 ++ [O.lst (stz fl)]).length]? = some (.lst (stz (pre ++ fl))):=at0
 have kB:Kp h2 (h2 ++ [O.lst (stz fl)] ++ [O.lst (stz (pre ++ fl))]):=(Kp.app _ _).trans (Kp.app _ _)
 generalize h2 ++ [O.lst (stz fl)] ++ [O.lst (stz (pre ++ fl))] = h3 at xg hR kB
 generalize (h2 ++ [O.lst (stz fl)]).length = r' at xg hR
 have xh:ex (tb s) (callF (tb s) (n + 2)) 89 uH (rU l most r' c (some (.ref p)) (some (.ref t'))) h3 = some (.next,rU l most r' (c + 1 + w0) (some (.ref p)) (some (.ref t')),h3):=by
  have:=x_set (i:=3) (v_add (TT:=tb s) (cf:=callF (tb s) (n + 2)) (d:=87) (v_add (d:=86) (ρ:=rU l most r' c (some (.ref p)) (some (.ref t'))) (h:=h3) (v_var (i:=3) (by rfl)) (y_c (u:=.int 1 0))) (v_tix (d:=85) (v5 85 r' c h3) (kB _ _ ht') (j:=1) rfl))
  exact this
 have xb:ex (tb s) (callF (tb s) (n + 2)) 94 uB (rU l most r c (some (.ref p)) o5) h1 = some (.next,rU l most r' (c + 1 + w0) (some (.ref p)) (some (.ref t')),h3):=by
  refine (x_ifF (t:=uBt) (v_Tcmp (d:=91) (v_tix (v4 89 o5 h1) (k1 _ _ hp) rfl) (y_c (u:=.str sOne)) (by rw [e_eq]; rfl))).trans ?_
  rw [x_next xe,x_next xf,x_next xg,x_next xh,y_nil]
 exact ⟨r',some (.ref t'),h3,kA.trans kB,hR,by rw [x_next xa,x_next xb,y_nil]⟩
theorem c_unr:∀ (N:Nat) {us:List U} {ms:List (List Nat)} {w l most n:Nat} {h':Hs},ms.length <= N -> N <= 90 -> ms.length <= most -> Prts h us ms w -> h[l]? = some (.lst us) -> Kp h h' ->
  ∃ t r h2,Kp h' h2 /\ h2[t]? = some (.tup [.ref r,.int (w:Int) 0]) /\ h2[r]? = some (.lst (stz ms)) /\ callF (tb s) (n + N + 2) 37 [.ref l,.int (most:Int) 0] h' = some (.ref t,h2):=by
 intro N
 induction N using Nat.strongRecOn with
 | _ N ih =>
  intro us ms w l most n h' hm hz hmo p hl kp
  have x0:ex (tb s) (callF (tb s) (n + N + 1)) 99 (.set 2 (.lst [])) [some (.ref l),some (.int (most:Int) 0),none,none,none,none] h' = some (.next,[some (.ref l),some (.int (most:Int) 0),some (.ref h'.length),none,none,none],h' ++ [.lst (stz [])]):=x_set (by simp only [y_lst,evs,y_bd]; rfl)
  have x1:ex (tb s) (callF (tb s) (n + N + 1)) 98 (.set 3 (.c (.int 0 0))) [some (.ref l),some (.int (most:Int) 0),some (.ref h'.length),none,none,none] (h' ++ [.lst (stz [])]) = some (.next,rU l most h'.length 0 none none,h' ++ [.lst (stz [])]):=x_set y_c
  have hl':(h' ++ [O.lst (stz [])])[l]? = some (.lst us):=keepR (kp _ _ hl)
  obtain ⟨ρ',h2,⟨pre,post,w1,w2,r,o4,o5,rfl,k2,hr,pp,em,ew⟩,lp⟩:=for_lst (T:=tb s) (x:=4) (l:=l) (us:=us) (body:=exs (tb s) (callF (tb s) (n + N + 1)) 96 [uA,uB])
   (fun i ρ hh => ∃ pre post w1 w2 r o4 o5,ρ = rU l most r w1 o4 o5 /\ Kp (h' ++ [O.lst (stz [])]) hh /\ hh[r]? = some (.lst (stz pre)) /\ Prts h (us.drop i) post w2 /\ pre ++ post = ms /\ w1 + w2 = w)
   (fun i ρ hh ⟨_,_,_,_,_,_,_,_,kk,_⟩ => kk _ _ hl')
   (fun i u ρ hh hu ⟨pre,post,w1,w2,r,o4,o5,e,kk,hr,pp,em,ew⟩ => by
    subst e
    have kA:Kp h hh:=kp.trans ((Kp.app _ _).trans kk)
    have dr:us.drop i = u :: us.drop (i + 1):=by
     obtain ⟨lt,e⟩:=List.getElem?_eq_some_iff.mp hu
     rw [List.drop_eq_getElem_cons lt,e]
    rw [dr] at pp
    have lm:pre.length + post.length = ms.length:=by rw [<- em,List.length_append]
    cases pp with
    | @one p q o m _ ms2 w3 a b c rest =>
     simp only [List.length_cons] at lm
     obtain ⟨r',h3,k3,hr',e⟩:=u_one (s:=s) (n:=n + N) (l:=l) (most:=most) (c:=w1) (o5:=o5) hr (kA _ _ a) (kA _ _ b) c (by omega) (by omega)
     exact ⟨_,h3,⟨pre ++ [m],ms2,w1 + 1,w3,r',some (.ref p),o5,rfl,kk.trans k3,hr',rest,by rw [<- em]; simp,by omega⟩,e⟩
    | @rep p t l0 k us0 _ ms0 ms2 w0 w3 a b c d p0 ne rest =>
     rw [List.length_append,flat_len] at lm
     have l0':=List.length_pos_iff.mpr ne
     have q2:2 * ms0.length <= k * ms0.length:=Nat.mul_le_mul_right _ c
     have q1:k * 1 <= k * ms0.length:=Nat.mul_le_mul_left _ l0'
     have e1:n + N + 1 = n + (N - 1) + 2:=by omega
     rw [e1]
     obtain ⟨r',o5',h3,k3,hr',e⟩:=u_rep (s:=s) (n:=n + (N - 1)) (l:=l) (most:=most) (c:=w1) (ms0:=ms0) (w0:=w0) (o5:=o5) hr (kA _ _ a) (kA _ _ b) c (by omega) (kA _ _ d) (p0.ne ne) (by omega) (by omega) (by omega) (fun h4 k4 => ih (N - 1) (by omega) (n:=n) (us:=us0) (by omega) (by omega) ((Nat.le_div_iff_mul_le (by omega)).mpr (by rw [Nat.mul_comm]; omega)) p0 d (kA.trans k4))
     exact ⟨_,h3,⟨pre ++ (List.replicate k ms0).flatten,ms2,w1 + 1 + w0,w3,r',some (.ref p),o5',rfl,kk.trans k3,hr',rest,by rw [<- em]; simp,by omega⟩,e⟩)
   us.length 0 _ _ (by simp) ⟨[],ms,0,w,h'.length,none,none,rfl,Kp.refl _,at0,by simpa using p,rfl,by omega⟩
  rw [List.drop_length] at pp
  cases pp
  rw [List.append_nil] at em
  subst em
  rw [Nat.add_zero] at ew
  subst ew
  have x2:ex (tb s) (callF (tb s) (n + N + 1)) 97 (.loop (.name 4) (.seq (.var 0)) [uA,uB]) (rU l most h'.length 0 none none) (h' ++ [.lst (stz [])]) = some (.next,rU l most r w1 o4 o5,h2):=x_forL (v_var (by rfl)) hl' lp
  refine ⟨h2.length,r,h2 ++ [.tup [.ref r,.int (w1:Int) 0]],(Kp.app _ _).trans (k2.trans (Kp.app _ _)),at0,keepR hr,?_⟩
  rw [y_callF fnL[37] rfl rfl]
  show fin (exs (tb s) (callF (tb s) (n + N + 1)) 100 b37 [some (.ref l),some (.int (most:Int) 0),none,none,none,none] h') = _
  rw [bun_is,x_next x0,x_next x1,x_next x2]
  refine x_ret (d:=95) ?_
  rw [y_tup,evs,v_var (u:=.ref r) (by rfl),y_bd,evs,v_var (u:=.int (w1:Int) 0) (by rfl),y_bd,evs,y_bd,y_bd,y_bd]
end
def Cl (s:List U) (h:Hs) (u:U) (ns:List Int):Prop:=(u = .scr /\ s = iz ns) \/ ∃ p,u = .ref p /\ h[p]? = some (.lst (iz ns))
theorem Cl.keep {s:List U} {h h':Hs} {u:U} {ns:List Int} (k:Kp h h'):Cl s h u ns -> Cl s h' u ns:=fun c => c.imp id fun ⟨p,a,b⟩ => ⟨p,a,k _ _ b⟩
theorem Cl.seq {s:List U} {h:Hs} {u:U} {ns:List Int} (c:Cl s h u ns):seqU (tb s) u h = some (iz ns) /\ lstU (tb s) u h = some (iz ns):=by
 rcases c with ⟨rfl,e⟩ | ⟨p,rfl,e⟩
 ·subst e; exact ⟨rfl,rfl⟩
 ·constructor <;> simp only [seqU,lstU,e]
theorem Cl.sub {s:List U} {h:Hs} {u:U} {ns:List Int} {j:Int} (c:Cl s h u ns):subU (tb s) u (.int j 0) h = atU (iz ns) j:=by
 rcases c with ⟨rfl,e⟩ | ⟨p,rfl,e⟩
 ·subst e; rfl
 ·simp only [subU,e]
theorem Cl.cut {s:List U} {h:Hs} {u:U} {ns:List Int} {l r:Option Int} (c:Cl s h u ns):slU (tb s) u l r h = some (.ref h.length,h ++ [.lst (cutU (iz ns) l r)]):=by
 rcases c with ⟨rfl,e⟩ | ⟨p,rfl,e⟩
 ·subst e; rfl
 ·simp only [slU,e]
theorem v_modI {TT:Tbl} {cf:Cf} {d:Nat} {a c:E} {i j:Int} {ρ:Rho} {h h1 h2:Hs} (hj:0 < j) (ea:ev TT cf d a ρ h = some (.int i 0,h1)) (ec:ev TT cf d c ρ h1 = some (.int j 0,h2)):ev TT cf (d + 1) (.op .Mod a c) ρ h = some (.int (i % j) 0,h2):=by
 simp only [y_op,ea,ec,y_bd,opU,m_mod hj,Option.map_some]
section
variable {s:List U} {n:Nat} {ns:List Int} {hs:Hs}
theorem c_cell {u:U} {k:Nat} (c:Cl s hs u ns):∃ i,callF (tb s) (n + 1) 30 [u,.int (k:Int) 0] hs = some (.int i 0,hs):=by
 have ln:(iz ns).length = ns.length:=by simp [iz]
 have et:evT (tb s) (callF (tb s) n) 98 (.cmp .Lt (.var 1) (.bi .len [(.var 0)])) [some u,some (.int (k:Int) 0)] hs = some (decide ((k:Int) < (ns.length:Int)),hs):=by
  refine v_Tcmp (v_var (by rfl)) (w:=.int (ns.length:Int) 0) ?_ e_lti
  rw [y_bi,evs,v_var (u:=u) (by rfl),y_bd,evs,y_bd,y_bd]
  have e:biU (tb s) .len [u] hs = (seqU (tb s) u hs).map fun xs => (.int xs.length 0,hs):=by
   rcases c with ⟨rfl,e⟩ | ⟨p,rfl,e⟩ <;> rfl
  rw [e,c.seq.1,Option.map_some,ln]
 rw [y_callF fnL[30] rfl rfl]
 show ∃ i,fin (exs (tb s) (callF (tb s) n) 100 b30 [some u,some (.int (k:Int) 0)] hs) = _
 by_cases z:k < ns.length
 ·have a:atU (iz ns) (k:Int) = some (.int ns[k] 0):=at_nat (by simp [iz,z])
  refine ⟨ns[k],?_⟩
  have x0:ex (tb s) (callF (tb s) n) 99 (.ite (.cmp .Lt (.var 1) (.bi .len [(.var 0)])) [(.ret (.ix (.var 0) (.var 1)))] []) [some u,some (.int (k:Int) 0)] hs = some (.ret (.int ns[k] 0),[some u,some (.int (k:Int) 0)],hs):=by
   rw [decide_eq_true (by omega)] at et
   refine (x_ifT et).trans (x_retR ?_)
   rw [y_ix,v_var (u:=u) (by rfl),y_bd,v_var (u:=.int (k:Int) 0) (by rfl),y_bd,c.sub,a]
   rfl
  rw [b30,x_stop x0]
  rfl
 ·refine ⟨0,?_⟩
  rw [decide_eq_false (by omega)] at et
  rw [b30,x_next (x_next0 et)]
  exact x_ret y_c
theorem c_mark {i:Int}:∃ m,Mk m /\ callF (tb s) (n + 1) 32 [.int i 0] hs = some (.str m,hs):=by
 rw [y_callF fnL[32] rfl rfl]
 show ∃ m,Mk m /\ fin (exs (tb s) (callF (tb s) n) 100 b32 [some (.int i 0),none,none] hs) = _
 have r:(i % 8 < 3) \/ (¬ i % 8 < 3 /\ i % 8 = 3) \/ (¬ i % 8 < 3 /\ i % 8 ≠ 3 /\ i % 8 = 4) \/ (¬ i % 8 < 3 /\ i % 8 ≠ 3 /\ i % 8 ≠ 4 /\ i % 8 = 5) \/ (¬ i % 8 < 3 /\ i % 8 ≠ 3 /\ i % 8 ≠ 4 /\ i % 8 ≠ 5):=by omega
 rcases r with h | ⟨h1,h2⟩ | ⟨h1,h2,h3⟩ | ⟨h1,h2,h3,h4⟩ | ⟨h1,h2,h3,h4⟩
 ·obtain ⟨c,hc,e⟩:=at_mod [107,112,115,111,98] 5 rfl (by decide) (i / 8)
  simp only [Int.cast_ofNat_Int] at e
  exact ⟨[c],.one hc,by simp [b32,yy,evs,evO,srcU,turns,cmpU,eq_int,truU,subU,opU,addI,biU,biL,slU,fin,modI,divI,h,e]⟩
 ·obtain ⟨c,hc,e⟩:=at_mod [104,102] 2 rfl (by decide) (i / 8)
  obtain ⟨d,hd,e2⟩:=at_mod [119,120,121,122] 4 rfl (by decide) (i / 8 / 2)
  simp only [Int.cast_ofNat_Int] at e e2
  exact ⟨[c,d],.two hc hd,by simp [b32,yy,evs,evO,srcU,turns,cmpU,eq_int,truU,subU,opU,addI,biU,biL,slU,fin,modI,divI,h1,h2,e,e2]⟩
 ·obtain ⟨c,hc,e⟩:=at_mod [107,112] 2 rfl (by decide) (i / 8)
  obtain ⟨d,hd,e2⟩:=at_mod [50,51,52] 3 rfl (by decide) (i / 8 / 2)
  obtain ⟨f,hf,e3⟩:=at_mod [114,108] 2 rfl (by decide) (i / 8 / 6)
  simp only [Int.cast_ofNat_Int] at e e2 e3
  exact ⟨[c,d,f],.lean hc hd hf,by simp [b32,yy,evs,evO,srcU,turns,cmpU,eq_int,truU,subU,opU,addI,biU,biL,slU,fin,modI,divI,h1,h2,h3,e,e2,e3]⟩
 ·obtain ⟨c,hc,e⟩:=at_mod [107,112] 2 rfl (by decide) (i / 8)
  obtain ⟨d,hd,e2⟩:=at_mod [50,51,52] 3 rfl (by decide) (i / 8 / 2)
  simp only [Int.cast_ofNat_Int] at e e2
  exact ⟨[c,120,d],.grow hc hd,by simp [b32,yy,evs,evO,srcU,turns,cmpU,eq_int,truU,subU,opU,addI,biU,biL,slU,fin,modI,divI,h1,h2,h3,h4,e,e2]⟩
 ·obtain ⟨c,hc,e⟩:=at_mod [99,113] 2 rfl (by decide) (i / 8)
  obtain ⟨d,hd,e2⟩:=at_mod [49,50,51,52] 4 rfl (by decide) (i / 8 / 2)
  obtain ⟨f,hf,e3⟩:=at_mod [102,98] 2 rfl (by decide) (i / 8 / 8)
  obtain ⟨g,hg,e4⟩:=at_mod [49,50,51,52] 4 rfl (by decide) (i / 8 / 16)
  simp only [Int.cast_ofNat_Int] at e e2 e3 e4
  exact ⟨[c,d,f,g],.cross hc hd hf hg,by simp [b32,yy,evs,evO,srcU,turns,cmpU,eq_int,truU,subU,opU,addI,biU,biL,slU,fin,modI,divI,h1,h2,h3,h4,e,e2,e3,e4]⟩
def TxM (us:List U):Prop:=∀ u ∈ us,∃ m,Mk m /\ u = U.str m
theorem TxM.stz:∀ {us:List U},TxM us -> ∃ ms,us = stz ms /\ ms.length = us.length /\ ∀ m ∈ ms,Mk m
 | [],_ => ⟨[],rfl,rfl,fun m h => by cases h⟩
 | u :: us,h => by
  obtain ⟨m,hm,rfl⟩:=h u List.mem_cons_self
  obtain ⟨ms,rfl,hl,hk⟩:=TxM.stz (us:=us) fun x hx => h x (List.mem_cons_of_mem _ hx)
  exact ⟨m :: ms,rfl,by simp at hl ⊢,fun x hx => by
   rcases List.mem_cons.mp hx with rfl | hx
   ·exact hm
   ·exact hk x hx⟩
theorem TxM.app {a b:List U} (ha:TxM a) (hb:TxM b):TxM (a ++ b):=fun u hu => (List.mem_append.mp hu).elim (ha u) (hb u)
theorem TxM.cut {a:List U} {lo hi:Option Int} (ha:TxM a):TxM (cutU a lo hi):=fun u hu => ha u (List.mem_of_mem_drop (List.mem_of_mem_take hu))
theorem TxM.rep {a:List U} {k:Nat} (ha:TxM a):TxM (List.replicate k a).flatten:=fun u hu => by
 obtain ⟨l,hl,hu⟩:=List.mem_flatten.mp hu
 rw [(List.mem_replicate.mp hl).2] at hu
 exact ha u hu
abbrev nl0:List U:=[U.str [107,50,114],U.str [107,50,108],U.str [112,50,114]]
abbrev nl1:List U:=[U.str [99,49,102,50],U.str [99,49,98,50],U.str [113,49,102,50]]
abbrev nl2:List U:=[U.str [99,49,102,50],U.str [99,50,102,49],U.str [99,49,102,49]]
abbrev nl3:List U:=[U.str [107,120,50],U.str [112,120,50],U.str [107,120,51]]
abbrev nl4:List U:=[U.str [104,119],U.str [104,120],U.str [102,119]]
abbrev nl5:List U:=[U.str [107],U.str [112],U.str [115]]
abbrev nl6:List U:=[U.str [107,51,108],U.str [107,52,108],U.str [112,51,108]]
abbrev nl7:List U:=[U.str [111],U.str [98],U.str [115]]
def w1:S:=.set 1 (.lst [(.lst [(.c (.str [107,50,114])),(.c (.str [107,50,108])),(.c (.str [112,50,114]))]),(.lst [(.c (.str [99,49,102,50])),(.c (.str [99,49,98,50])),(.c (.str [113,49,102,50]))]),(.lst [(.c (.str [99,49,102,50])),(.c (.str [99,50,102,49])),(.c (.str [99,49,102,49]))]),(.lst [(.c (.str [107,120,50])),(.c (.str [112,120,50])),(.c (.str [107,120,51]))])])
def w3:E:=(.lst [(.lst [(.c (.str [104,119])),(.c (.str [104,120])),(.c (.str [102,119]))]),(.lst [(.c (.str [107])),(.c (.str [112])),(.c (.str [115]))]),(.lst [(.c (.str [107,51,108])),(.c (.str [107,52,108])),(.c (.str [112,51,108]))]),(.lst [(.c (.str [111])),(.c (.str [98])),(.c (.str [115]))])])
def w2:S:=.set 1 (.op .Add (.var 1) w3)
theorem bnr_is:b33 = [w1,w2,.ret (.ix (.var 1) (.op .Mod (.var 0) (.c (.int 8 0))))]:=rfl
theorem nmk {a b c:List Nat} (ha:Mk a) (hb:Mk b) (hc:Mk c):TxM [U.str a,U.str b,U.str c]:=fun u hu => by
 simp only [List.mem_cons,List.not_mem_nil,or_false] at hu
 rcases hu with rfl | rfl | rfl
 ·exact ⟨_,ha,rfl⟩
 ·exact ⟨_,hb,rfl⟩
 ·exact ⟨_,hc,rfl⟩
theorem nm0:TxM nl0:=nmk (.lean (by decide) (by decide) (by decide)) (.lean (by decide) (by decide) (by decide)) (.lean (by decide) (by decide) (by decide))
theorem nm1:TxM nl1:=nmk (.cross (by decide) (by decide) (by decide) (by decide)) (.cross (by decide) (by decide) (by decide) (by decide)) (.cross (by decide) (by decide) (by decide) (by decide))
theorem nm2:TxM nl2:=nmk (.cross (by decide) (by decide) (by decide) (by decide)) (.cross (by decide) (by decide) (by decide) (by decide)) (.cross (by decide) (by decide) (by decide) (by decide))
theorem nm3:TxM nl3:=nmk (.grow (by decide) (by decide)) (.grow (by decide) (by decide)) (.grow (by decide) (by decide))
theorem nm4:TxM nl4:=nmk (.two (by decide) (by decide)) (.two (by decide) (by decide)) (.two (by decide) (by decide))
theorem nm5:TxM nl5:=nmk (.one (by decide)) (.one (by decide)) (.one (by decide))
theorem nm6:TxM nl6:=nmk (.lean (by decide) (by decide) (by decide)) (.lean (by decide) (by decide) (by decide)) (.lean (by decide) (by decide) (by decide))
theorem nm7:TxM nl7:=nmk (.one (by decide)) (.one (by decide)) (.one (by decide))
theorem atk {hs l:Hs} {k:Nat}:(hs ++ l)[hs.length + k]? = l[k]?:=by rw [List.getElem?_append_right (by omega)]; simp
abbrev nA (k:Nat):Hs:=[.lst nl0,.lst nl1,.lst nl2,.lst nl3,.lst [.ref k,.ref (k + 1),.ref (k + 2),.ref (k + 3)]]
abbrev nB (k:Nat):Hs:=[.lst nl4,.lst nl5,.lst nl6,.lst nl7,.lst [.ref (k + 5),.ref (k + 6),.ref (k + 7),.ref (k + 8)]]
abbrev nC (k:Nat):List U:=[.ref k,.ref (k + 1),.ref (k + 2),.ref (k + 3),.ref (k + 5),.ref (k + 6),.ref (k + 7),.ref (k + 8)]
theorem c_near {i:Int}:∃ r h' us,Kp hs h' /\ h'[r]? = some (.lst us) /\ us.length = 3 /\ TxM us /\ callF (tb s) (n + 1) 33 [.int i 0] hs = some (.ref r,h'):=by
 have x1:ex (tb s) (callF (tb s) n) 99 w1 [some (.int i 0),none] hs = some (.next,[some (.int i 0),some (.ref (hs.length + 4))],hs ++ nA hs.length):=by
  simp [w1,y_set,y_lst,evs,y_c,y_bd]
 have el:ev (tb s) (callF (tb s) n) 96 w3 [some (.int i 0),some (.ref (hs.length + 4))] (hs ++ nA hs.length) = some (.ref (hs.length + 9),hs ++ (nA hs.length ++ nB hs.length)):=by
  simp [w3,y_lst,evs,y_c,y_bd,Nat.add_assoc]
 have x2:ex (tb s) (callF (tb s) n) 98 w2 [some (.int i 0),some (.ref (hs.length + 4))] (hs ++ nA hs.length) = some (.next,[some (.int i 0),some (.ref (hs.length + 10))],hs ++ (nA hs.length ++ nB hs.length ++ [.lst (nC hs.length)])):=by
  rw [w2,y_set,y_op,v_var (u:=.ref (hs.length + 4)) (by rfl),y_bd,el,y_bd]
  simp only [opU,addI,atk]
  simp [catO,y_bd]
 have hC:(hs ++ (nA hs.length ++ nB hs.length ++ [O.lst (nC hs.length)]))[hs.length + 10]? = some (.lst (nC hs.length)):=atk
 obtain ⟨u,hu,eu⟩:=at_in (nC hs.length) (x:=i % 8) (by omega) (by simp only [List.length_cons,List.length_nil]; omega)
 have e3:ev (tb s) (callF (tb s) n) 96 (.ix (.var 1) (.op .Mod (.var 0) (.c (.int 8 0)))) [some (.int i 0),some (.ref (hs.length + 10))] (hs ++ (nA hs.length ++ nB hs.length ++ [O.lst (nC hs.length)])) = some (u,hs ++ (nA hs.length ++ nB hs.length ++ [O.lst (nC hs.length)])) :=
  v_atU (d:=95) (v_var (by rfl)) (v_modI (d:=94) (by decide) (v_var (by rfl)) y_c) hC eu
 have go:∀ {r:Nat} {us:List U},u = .ref r -> (hs ++ (nA hs.length ++ nB hs.length ++ [O.lst (nC hs.length)]))[r]? = some (.lst us) -> us.length = 3 -> TxM us -> ∃ r h' us,Kp hs h' /\ h'[r]? = some (.lst us) /\ us.length = 3 /\ TxM us /\ callF (tb s) (n + 1) 33 [.int i 0] hs = some (.ref r,h'):=fun {r us} hr hg hl ht => by
  subst hr
  refine ⟨r,_,us,Kp.app _ _,hg,hl,ht,?_⟩
  rw [y_callF fnL[33] rfl rfl]
  show fin (exs (tb s) (callF (tb s) n) 100 b33 [some (.int i 0),none] hs) = _
  rw [bnr_is,x_next x1,x_next x2]
  exact x_ret e3
 simp only [List.mem_cons,List.not_mem_nil,or_false] at hu
 rcases hu with h | h | h | h | h | h | h | h
 ·exact go h at0 rfl nm0
 ·exact go h atk rfl nm1
 ·exact go h atk rfl nm2
 ·exact go h atk rfl nm3
 ·exact go h atk rfl nm4
 ·exact go h atk rfl nm5
 ·exact go h atk rfl nm6
 ·exact go h atk rfl nm7
end
theorem m_mul {i j:Int} (sm:small64 i = true):mulI (.int i 0) (.int j 0) = some (.int (i * j) 0):=by simp [mulI,sm]
theorem sm1 {i:Nat} (h:i <= 1000):small64 (i:Int) = true:=by
 unfold small64
 rw [decide_eq_true (by omega),decide_eq_true (by omega)]
 rfl
theorem o_mul {i:Int} {w:U} {hs:Hs}:opU .Mult (.int i 0) w hs = (mulI (.int i 0) w).map fun r => (r,hs):=rfl
theorem v_mulI {TT:Tbl} {cf:Cf} {d:Nat} {a c:E} {i j:Int} {ρ:Rho} {h h1 h2:Hs} (sm:small64 i = true) (ea:ev TT cf d a ρ h = some (.int i 0,h1)) (ec:ev TT cf d c ρ h1 = some (.int j 0,h2)):ev TT cf (d + 1) (.op .Mult a c) ρ h = some (.int (i * j) 0,h2):=by
 rw [y_op,ea,y_bd,ec,y_bd,o_mul,m_mul sm,Option.map_some]
theorem v_mulN {TT:Tbl} {cf:Cf} {d:Nat} {a c:E} {i j:Nat} {ρ:Rho} {h h1 h2:Hs} (hi:i <= 1000) (ea:ev TT cf d a ρ h = some (.int (i:Int) 0,h1)) (ec:ev TT cf d c ρ h1 = some (.int (j:Int) 0,h2)):ev TT cf (d + 1) (.op .Mult a c) ρ h = some (.int ((i * j:Nat):Int) 0,h2):=by
 rw [Int.natCast_mul]
 exact v_mulI (sm1 hi) ea ec
theorem cut_from {α:Type} {xs:List α} {i:Nat} (h:i <= xs.length):cutU xs (some (i:Int)) none = xs.drop i:=by
 have a:cutIx xs.length 0 (some (i:Int)) = i:=by
  simp only [cutIx]
  rw [if_neg (by omega),Int.toNat_natCast]; omega
 unfold cutU
 rw [a,show cutIx xs.length xs.length none = xs.length from rfl]
 exact List.take_of_length_le (by rw [List.length_drop]; omega)
theorem cut_to {α:Type} {xs:List α} {i:Nat} (h:i <= xs.length):cutU xs none (some (i:Int)) = xs.take i:=by
 have a:cutIx xs.length xs.length (some (i:Int)) = i:=by
  simp only [cutIx]
  rw [if_neg (by omega),Int.toNat_natCast]; omega
 unfold cutU
 rw [a,show cutIx xs.length 0 none = 0 from rfl,List.drop_zero,Nat.sub_zero]
structure Pk (R:List (List Nat)) (c:Nat):Prop where
 ne:R ≠ []
 mm:∀ m ∈ R,Mk m
 le:fwl R <= (c:Int)
def Pt (h:Hs) (u:U) (x:List (List Nat) × Nat):Prop:=∃ p q,u = .ref p /\ h[p]? = some (.tup [.ref q,.int (x.2:Int) 0]) /\ h[q]? = some (.lst (stz x.1)) /\ Pk x.1 x.2
theorem Pt.keep {h h':Hs} {u:U} {x:List (List Nat) × Nat} (k:Kp h h'):Pt h u x -> Pt h' u x:=fun ⟨p,q,a,b,c,d⟩ => ⟨p,q,a,k _ _ b,k _ _ c,d⟩
def flt (Rs:List (List (List Nat) × Nat)):List (List Nat):=(Rs.map (·.1)).flatten
def cnt (Rs:List (List (List Nat) × Nat)):Nat:=(Rs.map (·.2)).sum
theorem flt_cons {x:List (List Nat) × Nat} {r:List (List (List Nat) × Nat)}:flt (x :: r) = x.1 ++ flt r:=rfl
theorem cnt_cons {x:List (List Nat) × Nat} {r:List (List (List Nat) × Nat)}:cnt (x :: r) = x.2 + cnt r:=by simp [cnt]
theorem flt_app {a b:List (List (List Nat) × Nat)}:flt (a ++ b) = flt a ++ flt b:=by simp [flt]
theorem pt_all {h:Hs} {us:List U} {Rs:List (List (List Nat) × Nat)} (p:Paired (Pt h) us Rs):∀ x ∈ Rs,Pk x.1 x.2:=by
 induction p with
 | nil => intro x hx; cases hx
 | cons a _ ih =>
  intro x hx
  rcases List.mem_cons.mp hx with rfl | hx
  ·obtain ⟨_,_,_,_,_,d⟩:=a; exact d
  ·exact ih x hx
theorem flt_mk {Rs:List (List (List Nat) × Nat)} (g:∀ x ∈ Rs,Pk x.1 x.2):∀ m ∈ flt Rs,Mk m:=fun m hm => by
 obtain ⟨R,hR,hm⟩:=List.mem_flatten.mp hm
 obtain ⟨x,hx,rfl⟩:=List.mem_map.mp hR
 exact (g x hx).mm m hm
theorem flt_ge:∀ {Rs:List (List (List Nat) × Nat)},(∀ x ∈ Rs,Pk x.1 x.2) -> Rs.length <= (flt Rs).length
 | [],_ => by simp
 | x :: r,g => by
  have:=flt_ge (Rs:=r) fun y hy => g y (List.mem_cons_of_mem _ hy)
  have l:=List.length_pos_iff.mpr (g x List.mem_cons_self).ne
  rw [flt_cons,List.length_cons,List.length_append]
  omega
theorem flt_le:∀ {Rs:List (List (List Nat) × Nat)},Rs ≠ [] -> (∀ x ∈ Rs,Pk x.1 x.2) -> flt Rs ≠ [] /\ fwl (flt Rs) <= (cnt Rs:Int)
 | [],h,_ => absurd rfl h
 | [x],_,g => by
  have p:=g x List.mem_cons_self
  rw [show flt [x] = x.1 by simp [flt],show cnt [x] = x.2 by simp [cnt]]
  exact ⟨p.ne,p.le⟩
 | x :: y :: r,_,g => by
  have p:=g x List.mem_cons_self
  obtain ⟨a,b⟩:=flt_le (Rs:=y :: r) (by simp) fun z hz => g z (List.mem_cons_of_mem _ hz)
  rw [flt_cons,cnt_cons]
  refine ⟨by simp [p.ne],?_⟩
  have:=fwl_app p.ne a
  have:=p.le
  rw [Int.natCast_add]
  omega
theorem l_acc {TT:Tbl} {cf:Cf} {d i j x l:Nat} {R:Nat -> Nat -> Option U -> Rho} (hx:∀ r c o u,(R r c o).set x (some u) = R r c (some u)) (hi:∀ r c o r',(R r c o).set i (some (.ref r')) = R r' c o) (hj:∀ r c o (c':Nat),(R r c o).set j (some (.int (c':Int) 0)) = R r c' o)
  (gi:∀ r c o,(R r c o)[i]? = some (some (.ref r))) (gj:∀ r c o,(R r c o)[j]? = some (some (.int (c:Int) 0))) (gx:∀ r c u,(R r c (some u))[x]? = some (some u))
  {us:List U} {Rs:List (List (List Nat) × Nat)} {r0 c0:Nat} {o:Option U} {h0:Hs} (hl:h0[l]? = some (.lst us)) (pr:Paired (Pt h0) us Rs) (hr:h0[r0]? = some (.lst (stz []))) (hz:(flt Rs).length <= 500) :
  ∃ r' o' h',Kp h0 h' /\ h'[r']? = some (.lst (stz (flt Rs))) /\ forU TT (.seqL (.ref l)) (.name x) (exs TT cf (d + 7) [.set i (.op .Add (.var i) (.ix (.var x) (.c (.int 0 0)))),.set j (.op .Add (.var j) (.ix (.var x) (.c (.int 1 0))))]) (us.length + 1) 0 (R r0 c0 o) h0 = some (.next,R r' (c0 + cnt Rs) o',h'):=by
 obtain ⟨ρ',h',⟨pre,post,r',o',rfl,kk,hr',pp,em⟩,lp⟩:=for_lst (T:=TT) (x:=x) (l:=l) (us:=us) (body:=exs TT cf (d + 7) [.set i (.op .Add (.var i) (.ix (.var x) (.c (.int 0 0)))),.set j (.op .Add (.var j) (.ix (.var x) (.c (.int 1 0))))])
  (fun k ρ h => ∃ pre post r o,ρ = R r (c0 + cnt pre) o /\ Kp h0 h /\ h[r]? = some (.lst (stz (flt pre))) /\ Paired (Pt h0) (us.drop k) post /\ pre ++ post = Rs)
  (fun k ρ h ⟨_,_,_,_,_,kk,_⟩ => kk _ _ hl)
  (fun k u ρ h hu ⟨pre,post,r,o,e,kk,hr,pp,em⟩ => by
   subst e
   have dr:us.drop k = u :: us.drop (k + 1):=by
    obtain ⟨lt,e⟩:=List.getElem?_eq_some_iff.mp hu
    rw [List.drop_eq_getElem_cons lt,e]
   rw [dr] at pp
   cases pp with
   | @cons _ y _ post a rest =>
    obtain ⟨p,q,rfl,hp,hq,pk⟩:=a
    have e1:flt (pre ++ [y]) = flt pre ++ y.1:=by rw [flt_app]; simp [flt]
    have e2:cnt (pre ++ [y]) = cnt pre + y.2:=by simp [cnt]
    have lz:(flt pre).length + y.1.length <= 500:=by
     rw [<- em,show pre ++ y :: post = pre ++ [y] ++ post by simp,flt_app,e1,List.length_append,List.length_append] at hz
     omega
    rw [hx]
    have ec:=v_cat (TT:=TT) (cf:=cf) (d:=d + 4) (a:=.var i) (e:=.ix (.var x) (.c (.int 0 0))) (ρ:=R r (c0 + cnt pre) (some (.ref p))) (v_var (gi _ _ _)) (v_tix (d:=d + 2) (v_var (gx _ _ _)) (kk _ _ hp) rfl) hr (kk _ _ hq) (by simp [stz]; omega)
    rw [stz_app] at ec
    have x1:=x_set (i:=i) ec
    rw [hi] at x1
    have ea:=v_add (TT:=TT) (cf:=cf) (d:=d + 3) (a:=.var j) (c:=.ix (.var x) (.c (.int 1 0))) (ρ:=R h.length (c0 + cnt pre) (some (.ref p))) (h:=h ++ [.lst (stz (flt pre ++ y.1))]) (v_var (gj _ _ _)) (v_tix (d:=d + 1) (v_var (gx _ _ _)) (keepR (kk _ _ hp)) rfl)
    rw [show ((c0 + cnt pre:Nat):Int) + (y.2:Int) = ((c0 + cnt (pre ++ [y]):Nat):Int) by rw [e2]; omega] at ea
    have x2:=x_set (i:=j) ea
    rw [hj] at x2
    refine ⟨_,h ++ [.lst (stz (flt pre ++ y.1))],⟨pre ++ [y],post,h.length,some (.ref p),rfl,kk.trans (Kp.app _ _),by rw [e1]; exact at0,rest,by rw [<- em]; simp⟩,?_⟩
    rw [x_next x1,x_next x2,y_nil])
  us.length 0 (R r0 c0 o) h0 (by simp) ⟨[],Rs,r0,o,rfl,Kp.refl _,hr,by simpa using pr,rfl⟩
 rw [List.drop_length] at pp
 cases pp
 rw [List.append_nil] at em
 subst em
 exact ⟨r',o',h',kk,hr',lp⟩
theorem v_c2 {TT:Tbl} {cf:Cf} {d f:Nat} {ρ:Rho} {h h1:Hs} {a b:E} {u v z:U} (ha:ev TT cf d a ρ h = some (u,h)) (hb:ev TT cf d b ρ h = some (v,h)) (k:cf f [u,v] h = some (z,h1)):ev TT cf (d + 1) (.call f [a,b]) ρ h = some (z,h1):=by
 simp only [y_call,evs,ha,hb,y_bd,k]
theorem v_Tand {TT:Tbl} {cf:Cf} {d:Nat} {a c:E} {ρ:Rho} {h:Hs} {x y:Bool} (ea:evT TT cf d a ρ h = some (x,h)) (ec:evT TT cf d c ρ h = some (y,h)):evT TT cf (d + 1) (.and a c) ρ h = some (x && y,h):=by
 rw [y_Tand,ea,y_bd]
 cases x with
 | true => rw [if_pos rfl,ec]; rfl
 | false => rw [if_neg (by decide)]; rfl
theorem tx_of {ws:List U} {ds:List Nat} (al:Paired (fun (v:U) (_:Nat) => ∃ m,Mk m /\ v = U.str m) ws ds):TxM ws:=by
 induction al with
 | nil => intro u hu; cases hu
 | cons p _ ih =>
  intro u hu
  rcases List.mem_cons.mp hu with rfl | hu
  ·exact p
  ·exact ih u hu
section
variable {s:List U} {n:Nat} {ns:List Int} {hs:Hs} {u:U}
def mE:E:=.op .Mod (.op .Mult (.op .Add (.op .Add (.op .Mod (.op .FloorDiv (.call 30 [(.var 0),(.var 1)]) (.c (.int 8 0))) (.op .Pow (.c (.int 10 0)) (.c (.int 9 0)))) (.op .Mult (.var 1) (.c (.int 9 0)))) (.c (.int 2 0))) (.c (.int 69621 0))) (.c (.int 2147483647 0))
def mA:S:=.ite (.cmp .Eq (.op .Mod (.call 30 [(.var 0),(.c (.int 1 0))]) (.c (.int 3 0))) (.c (.int 1 0))) [(.ret (.call 33 [(.call 30 [(.var 0),(.c (.int 2 0))])]))] []
def mB:E:=.comp (.rng (.c (.int 3 0))) false none (.call 32 [mE])
theorem bme_is:b34 = [mA,.ret mB]:=rfl
theorem v_mE {k d:Nat} {h:Hs} (c:Cl s h u ns):∃ i,ev (tb s) (callF (tb s) (n + 1)) (d + 20) mE [some u,some (.int (k:Int) 0)] h = some (.int i 0,h):=by
 obtain ⟨x,e⟩:=c_cell (s:=s) (n:=n) (k:=k) c
 have s1:small64 69621 = true:=by decide
 have s2:small64 9 = true:=by decide
 have s10:small64 10 = true:=by decide
 have ec:ev (tb s) (callF (tb s) (n + 1)) (d + 14) (.call 30 [(.var 0),(.var 1)]) [some u,some (.int (k:Int) 0)] h = some (.int x 0,h):=v_c2 (v_var (by rfl)) (v_var (by rfl)) e
 refine ⟨((x / 8 % 10 ^ 9 + (k:Int) * 9 + 2) * 69621) % 2147483647,?_⟩
 simp [mE,yy,evs,evO,srcU,turns,cmpU,eq_int,truU,subU,opU,addI,biU,biL,slU,fin,ec,modI,divI,mulI,powI,s1,s2,s10,gz]
theorem c_menu (c:Cl s hs u ns):∃ r h' us,Kp hs h' /\ h'[r]? = some (.lst us) /\ us.length = 3 /\ TxM us /\ callF (tb s) (n + 2) 34 [u] hs = some (.ref r,h'):=by
 obtain ⟨x1,e1⟩:=c_cell (s:=s) (n:=n) (k:=1) c
 obtain ⟨x2,e2⟩:=c_cell (s:=s) (n:=n) (k:=2) c
 have v0:∀ d h',ev (tb s) (callF (tb s) (n + 1)) (d + 1) (.var 0) [some u] h' = some (u,h'):=fun d h' => v_var (by rfl)
 have et:evT (tb s) (callF (tb s) (n + 1)) 98 (.cmp .Eq (.op .Mod (.call 30 [(.var 0),(.c (.int 1 0))]) (.c (.int 3 0))) (.c (.int 1 0))) [some u] hs = some (decide (x1 % 3 = 1),hs) :=
  v_Tcmp (d:=96) (v_modI (d:=95) (by decide) (v_c2 (d:=94) (v0 93 hs) y_c e1) y_c) y_c e_eqi
 by_cases z:x1 % 3 = 1
 ·rw [decide_eq_true z] at et
  obtain ⟨r,h',us,k,hr,l,t,e⟩:=c_near (s:=s) (n:=n) (hs:=hs) (i:=x2)
  refine ⟨r,h',us,k,hr,l,t,?_⟩
  have x0:ex (tb s) (callF (tb s) (n + 1)) 99 mA [some u] hs = some (.ret (.ref r),[some u],h'):=(x_ifT et).trans (x_retR (v_c1 (d:=95) (v_c2 (d:=94) (v0 93 hs) y_c e2) e))
  rw [y_callF fnL[34] rfl rfl]
  show fin (exs (tb s) (callF (tb s) (n + 1)) 100 b34 [some u] hs) = _
  rw [bme_is,x_stop x0]
  rfl
 ·rw [decide_eq_false z] at et
  obtain ⟨ws,h1,al,k1,e0⟩:=comp_rel (T:=tb s) (f:=ev (tb s) (callF (tb s) (n + 1)) 96) (ft:=evT (tb s) (callF (tb s) (n + 1)) 96) (el:=.call 32 [mE]) (ρ:=[some u]) (P:=fun (v:U) (i:Nat) => v = .int (i:Int) 0 /\ True) (Q:=fun _ v _ => ∃ m,Mk m /\ v = U.str m) (fun _ _ _ _ _ q => q) (hs0:=hs) (w_rng (T:=tb s) (lo:=0) (n:=3)) (by simp [rgN_len]) (fun v x ⟨e,_⟩ h kp => by
   subst e
   obtain ⟨i,ei⟩:=v_mE (s:=s) (n:=n) (ns:=ns) (k:=x) (d:=75) (c.keep kp)
   obtain ⟨m,mk,em⟩:=c_mark (s:=s) (n:=n) (hs:=h) (i:=i)
   exact ⟨.str m,h,⟨m,mk,rfl⟩,Kp.refl _,v_c1 (d:=95) ei em⟩) (nz (rgN 0 3)) (rgN 0 3) (pr_nz fun _ _ => trivial) 0 [] hs rfl (by simp) (by simp) (Kp.refl _)
  rw [List.nil_append] at e0
  have l3:ws.length = 3:=by rw [prLen al,rgN_len]
  have eB:ev (tb s) (callF (tb s) (n + 1)) 97 mB [some u] hs = some (.ref h1.length,h1 ++ [.lst ws]) :=
   v_comp (w:=.rng ((0:Nat):Int) 3) (h1:=hs) (s_rng (n:=3) (y_c (u:=.int 3 0)) (by omega)) (by
    have l:(nz (rgN 0 3)).length = 3:=by simp [rgN_len]
    rw [l] at e0
    exact e0)
  refine ⟨h1.length,h1 ++ [.lst ws],ws,k1.trans (Kp.app _ _),at0,l3,tx_of al,?_⟩
  rw [y_callF fnL[34] rfl rfl]
  show fin (exs (tb s) (callF (tb s) (n + 1)) 100 b34 [some u] hs) = _
  have x0:ex (tb s) (callF (tb s) (n + 1)) 99 mA [some u] hs = some (.next,[some u],hs):=x_next0 et
  rw [bme_is,x_next x0]
  exact x_ret eB
end
theorem v_single {TT:Tbl} {cf:Cf} {d menu:Nat} {e:E} {j:Int} {um:List U} {ρ:Rho} {h:Hs} (h2:ρ[2]? = some (some (.ref menu))) (hm:h[menu]? = some (.lst um)) (tm:TxM um) (ee:ev TT cf (d + 1) e ρ h = some (.int j 0,h)) (j0:0 <= j) (j1:j < um.length) :
  ∃ q pu m h',Kp h h' /\ h'[q]? = some (.lst [pu]) /\ Pt h' pu ([m],1) /\ ev TT cf (d + 5) (.lst [(.tup [(.lst [(.ix (.var 2) e)]),(.c (.int 1 0))])]) ρ h = some (.ref q,h'):=by
 obtain ⟨v,hv,ev'⟩:=at_in um j0 j1
 obtain ⟨m,mk,rfl⟩:=tm v hv
 have e1:=v_atU (TT:=TT) (cf:=cf) (d:=d + 1) (a:=.var 2) (ρ:=ρ) (v_var h2) ee hm ev'
 have e2:ev TT cf (d + 3) (.lst [(.ix (.var 2) e)]) ρ h = some (.ref h.length,h ++ [.lst [.str m]]):=by rw [y_lst,evs,e1,y_bd,evs,y_bd,y_bd]
 have e3:ev TT cf (d + 4) (.tup [(.lst [(.ix (.var 2) e)]),(.c (.int 1 0))]) ρ h = some (.ref (h ++ [O.lst [.str m]]).length,h ++ [.lst [.str m]] ++ [.tup [.ref h.length,.int 1 0]]):=by rw [y_tup,evs,e2,y_bd,evs,y_c,y_bd,evs,y_bd,y_bd,y_bd]
 have e4:ev TT cf (d + 5) (.lst [(.tup [(.lst [(.ix (.var 2) e)]),(.c (.int 1 0))])]) ρ h = some (.ref (h ++ [O.lst [.str m]] ++ [O.tup [.ref h.length,.int 1 0]]).length,h ++ [.lst [.str m]] ++ [.tup [.ref h.length,.int 1 0]] ++ [.lst [.ref (h ++ [O.lst [.str m]]).length]]):=by rw [y_lst,evs,e3,y_bd,evs,y_bd,y_bd]
 exact ⟨_,_,m,_,(Kp.app _ _).trans ((Kp.app _ _).trans (Kp.app _ _)),at0,⟨_,_,rfl,keepR at0,keepR (keepR at0),by simp,fun x hx => by simp at hx; subst hx; exact mk,by rw [fwl_one]; exact Int.le_refl _⟩,e4⟩
section
variable {s:List U} {u:U} {cf:Cf}
abbrev rP (u:U) (most menu p size:Nat) (o5 o6 o7 o8 o9 o10 o11:Option U):Rho:=[some u,some (.int (most:Int) 0),some (.ref menu),some (.ref p),some (.int (size:Int) 0),o5,o6,o7,o8,o9,o10,o11]
def pA:S:=.set 6 (.op .Mod (.var 5) (.c (.int 5 0)))
def pBt:E:=.and (.cmp .Lt (.var 6) (.c (.int 3 0))) (.cmp .Lt (.var 4) (.var 1))
def pS1:E:=.lst [(.tup [(.lst [(.ix (.var 2) (.var 6))]),(.c (.int 1 0))])]
def pB1:S:=.set 3 (.op .Add (.var 3) pS1)
def pB2:S:=.set 4 (.op .Add (.var 4) (.c (.int 1 0)))
def pC1e:E:=.bi .max [(.c (.int 0 0)),(.op .Sub (.op .Sub (.bi .len [(.var 3)]) (.c (.int 1 0))) (.op .Mod (.op .FloorDiv (.var 5) (.c (.int 5 0))) (.c (.int 4 0))))]
def pC1:S:=.set 7 pC1e
def pC4b:List S:=[.set 8 (.op .Add (.var 8) (.ix (.var 10) (.c (.int 0 0)))),.set 9 (.op .Add (.var 9) (.ix (.var 10) (.c (.int 1 0))))]
def pC4:S:=.loop (.name 10) (.seq (.sl (.var 3) (some (.var 7)) none)) pC4b
def pC5:S:=.set 11 (.op .Add (.c (.int 2 0)) (.op .Mod (.op .FloorDiv (.var 5) (.c (.int 20 0))) (.c (.int 3 0))))
def pM:E:=.op .Mult (.op .Sub (.var 11) (.c (.int 1 0))) (.bi .len [(.var 8)])
def pC6t:E:=.cmp .LtE (.op .Add (.var 4) pM) (.var 1)
def pN:E:=.lst [(.tup [(.op .Mult (.var 8) (.var 11)),(.var 9)])]
def pD1:S:=.set 3 (.op .Add (.sl (.var 3) none (some (.var 7))) pN)
def pD2:S:=.set 4 (.op .Add (.var 4) pM)
def pC6:S:=.ite pC6t [pD1,pD2] []
def pB:S:=.ite pBt [pB1,pB2] []
def pC:S:=.ite (.cmp .Gt (.var 6) (.c (.int 2 0))) [pC1,.set 8 (.lst []),.set 9 (.c (.int 1 0)),pC4,pC5,pC6] []
def pL:S:=.loop (.name 5) (.seq (.sl (.var 0) (some (.c (.int 3 0))) (some (.c (.int 87 0))))) [pA,pB,pC]
def pS0:E:=.lst [(.tup [(.lst [(.ix (.var 2) (.c (.int 0 0)))]),(.c (.int 1 0))])]
theorem bpt_is:b35 = [.set 2 (.call 34 [(.var 0)]),.set 3 pS0,.set 4 (.c (.int 1 0)),pL,.ret (.var 3)]:=rfl
structure Dr (h:Hs) (most p size:Nat) (Rs:List (List (List Nat) × Nat)):Prop where
 at':∃ us,h[p]? = some (.lst us) /\ Paired (Pt h) us Rs
 ne:Rs ≠ []
 sz:size = (flt Rs).length
 le:size <= most
theorem Dr.keep {h h':Hs} {most p size:Nat} {Rs:List (List (List Nat) × Nat)} (k:Kp h h') (d:Dr h most p size Rs):Dr h' most p size Rs:=⟨let ⟨us,a,b⟩:=d.at'; ⟨us,k _ _ a,prImp b fun _ _ => Pt.keep k⟩,d.ne,d.sz,d.le⟩
theorem Dr.of {h:Hs} {p:Nat} {us:List U} {Rs:List (List (List Nat) × Nat)} (hp:h[p]? = some (.lst us)) (pr:Paired (Pt h) us Rs):∀ {most},Rs ≠ [] -> (flt Rs).length <= most -> Dr h most p (flt Rs).length Rs:=fun ne le => ⟨⟨us,hp,pr⟩,ne,rfl,le⟩
theorem l_grow {most menu p size:Nat} {c:Int} {um:List U} {Rs:List (List (List Nat) × Nat)} {h:Hs} {o7 o8 o9 o10 o11:Option U} (hm:h[menu]? = some (.lst um)) (um3:um.length = 3) (tm:TxM um) (dr:Dr h most p size Rs) (m2:most <= 60) (w:c % 5 < 3) :
  ∃ p' size' Rs' h',Kp h h' /\ Dr h' most p' size' Rs' /\ ex (tb s) cf 93 pB (rP u most menu p size (some (.int c 0)) (some (.int (c % 5) 0)) o7 o8 o9 o10 o11) h = some (.next,rP u most menu p' size' (some (.int c 0)) (some (.int (c % 5) 0)) o7 o8 o9 o10 o11,h'):=by
 have et:evT (tb s) cf 92 pBt (rP u most menu p size (some (.int c 0)) (some (.int (c % 5) 0)) o7 o8 o9 o10 o11) h = some (decide (c % 5 < 3) && decide ((size:Int) < (most:Int)),h) :=
  v_Tand (v_Tcmp (d:=89) (v_var (i:=6) (by rfl)) (y_c (u:=.int 3 0)) e_lti) (v_Tcmp (d:=89) (v_var (i:=4) (by rfl)) (v_var (i:=1) (by rfl)) e_lti)
 rw [decide_eq_true w,Bool.true_and] at et
 by_cases z:size < most
 ·rw [decide_eq_true (by omega)] at et
  obtain ⟨us,hp,pr⟩:=dr.at'
  obtain ⟨q,pu,m,h1,k1,hq,hpt,e1⟩:=v_single (TT:=tb s) (cf:=cf) (d:=84) (e:=.var 6) (j:=c % 5) (ρ:=rP u most menu p size (some (.int c 0)) (some (.int (c % 5) 0)) o7 o8 o9 o10 o11) (by rfl) hm tm (v_var (by rfl)) (by omega) (by omega)
  have pl:=prLen pr
  have rl:=flt_ge (pt_all pr)
  have es:=dr.sz
  have ec:=v_cat (TT:=tb s) (cf:=cf) (d:=89) (a:=.var 3) (e:=pS1) (ρ:=rP u most menu p size (some (.int c 0)) (some (.int (c % 5) 0)) o7 o8 o9 o10 o11) (v_var (by rfl)) e1 (k1 _ _ hp) hq (by simp; omega)
  have x1:ex (tb s) cf 91 pB1 (rP u most menu p size (some (.int c 0)) (some (.int (c % 5) 0)) o7 o8 o9 o10 o11) h = some (.next,rP u most menu h1.length size (some (.int c 0)) (some (.int (c % 5) 0)) o7 o8 o9 o10 o11,h1 ++ [.lst (us ++ [pu])]):=x_set ec
  have x2:ex (tb s) cf 90 pB2 (rP u most menu h1.length size (some (.int c 0)) (some (.int (c % 5) 0)) o7 o8 o9 o10 o11) (h1 ++ [.lst (us ++ [pu])]) = some (.next,rP u most menu h1.length (size + 1) (some (.int c 0)) (some (.int (c % 5) 0)) o7 o8 o9 o10 o11,h1 ++ [.lst (us ++ [pu])]) :=
   x_set (i:=4) (v_add (TT:=tb s) (cf:=cf) (d:=88) (ρ:=rP u most menu h1.length size (some (.int c 0)) (some (.int (c % 5) 0)) o7 o8 o9 o10 o11) (h:=h1 ++ [.lst (us ++ [pu])]) (v_var (i:=4) (by rfl)) (y_c (u:=.int 1 0)))
  have fl:flt (Rs ++ [([m],1)]) = flt Rs ++ [m]:=by rw [flt_app]; simp [flt]
  have d2:=Dr.of (h:=h1 ++ [.lst (us ++ [pu])]) (p:=h1.length) (us:=us ++ [pu]) (Rs:=Rs ++ [([m],1)]) at0 (prPut (prImp pr fun _ _ => Pt.keep (k1.trans (Kp.app _ _))) (hpt.keep (Kp.app _ _))) (most:=most) (by simp) (by rw [fl]; simp; omega)
  have sz2:(flt (Rs ++ [([m],1)])).length = size + 1:=by rw [fl]; simp; omega
  rw [sz2] at d2
  exact ⟨h1.length,size + 1,Rs ++ [([m],1)],h1 ++ [.lst (us ++ [pu])],k1.trans (Kp.app _ _),d2,by rw [pB,x_ifT et,x_next x1,x_next x2,y_nil]⟩
 ·rw [decide_eq_false (by omega)] at et
  exact ⟨p,size,Rs,h,Kp.refl _,dr,x_next0 et⟩
end
section
variable {s:List U} {u:U} {cf:Cf}
theorem l_join {most menu p size:Nat} {c:Int} {Rs:List (List (List Nat) × Nat)} {h:Hs} {o7 o8 o9 o10 o11:Option U} (dr:Dr h most p size Rs) (m2:most <= 60) (w:¬ c % 5 < 3) :
  ∃ p' size' Rs' q7 q8 q9 q10 q11 h',Kp h h' /\ Dr h' most p' size' Rs' /\ ex (tb s) cf 92 pC (rP u most menu p size (some (.int c 0)) (some (.int (c % 5) 0)) o7 o8 o9 o10 o11) h = some (.next,rP u most menu p' size' (some (.int c 0)) (some (.int (c % 5) 0)) q7 q8 q9 q10 q11,h'):=by
 obtain ⟨us,hp,pr⟩:=dr.at'
 have pl:=prLen pr
 have pk:=pt_all pr
 have rl:=flt_ge pk
 have es:=dr.sz
 have le:=dr.le
 have rn:=List.length_pos_iff.mpr dr.ne
 have et:evT (tb s) cf 91 (.cmp .Gt (.var 6) (.c (.int 2 0))) (rP u most menu p size (some (.int c 0)) (some (.int (c % 5) 0)) o7 o8 o9 o10 o11) h = some (true,h) :=
  v_Tcmp (d:=89) (v_var (i:=6) (by rfl)) (y_c (u:=.int 2 0)) (by rw [e_gti,decide_eq_true (by omega)])
 -- where the joined parts begin
 obtain ⟨a,al,x1⟩:∃ a:Nat,a < us.length /\ ex (tb s) cf 90 pC1 (rP u most menu p size (some (.int c 0)) (some (.int (c % 5) 0)) o7 o8 o9 o10 o11) h = some (.next,rP u most menu p size (some (.int c 0)) (some (.int (c % 5) 0)) (some (.int (a:Int) 0)) o8 o9 o10 o11,h):=by
  have e1:=v_modI (TT:=tb s) (cf:=cf) (d:=86) (j:=4) (c:=.c (.int 4 0)) (by decide) (v_divE (d:=85) (j:=5) (c:=.c (.int 5 0)) (ρ:=rP u most menu p size (some (.int c 0)) (some (.int (c % 5) 0)) o7 o8 o9 o10 o11) (h:=h) (by decide) (v_var (i:=5) (by rfl)) y_c) y_c
  have e2:=v_sub (TT:=tb s) (cf:=cf) (d:=87) (v_sub (d:=86) (v_len (d:=84) (i:=3) (ρ:=rP u most menu p size (some (.int c 0)) (some (.int (c % 5) 0)) o7 o8 o9 o10 o11) (by rfl) hp) (y_c (u:=.int 1 0))) e1
  have e3:ev (tb s) cf 89 pC1e (rP u most menu p size (some (.int c 0)) (some (.int (c % 5) 0)) o7 o8 o9 o10 o11) h = some (.int (if (us.length:Int) - 1 - c / 5 % 4 > 0 then (us.length:Int) - 1 - c / 5 % 4 else 0) 0,h):=by
   rw [pC1e,y_bi,evs,y_c,y_bd,evs,e2,y_bd,evs,y_bd,y_bd,y_bd]
   rfl
  have mx:(if (us.length:Int) - 1 - c / 5 % 4 > 0 then (us.length:Int) - 1 - c / 5 % 4 else 0) = (((if (us.length:Int) - 1 - c / 5 % 4 > 0 then (us.length:Int) - 1 - c / 5 % 4 else 0).toNat:Nat):Int):=by split <;> omega
  rw [mx] at e3
  exact ⟨(if (us.length:Int) - 1 - c / 5 % 4 > 0 then (us.length:Int) - 1 - c / 5 % 4 else 0).toNat,by split <;> omega,x_set e3⟩
 have x2:ex (tb s) cf 89 (.set 8 (.lst [])) (rP u most menu p size (some (.int c 0)) (some (.int (c % 5) 0)) (some (.int (a:Int) 0)) o8 o9 o10 o11) h = some (.next,rP u most menu p size (some (.int c 0)) (some (.int (c % 5) 0)) (some (.int (a:Int) 0)) (some (.ref h.length)) o9 o10 o11,h ++ [.lst (stz [])]):=x_set (by simp only [y_lst,evs,y_bd]; rfl)
 have x3:ex (tb s) cf 88 (.set 9 (.c (.int 1 0))) (rP u most menu p size (some (.int c 0)) (some (.int (c % 5) 0)) (some (.int (a:Int) 0)) (some (.ref h.length)) o9 o10 o11) (h ++ [.lst (stz [])]) = some (.next,rP u most menu p size (some (.int c 0)) (some (.int (c % 5) 0)) (some (.int (a:Int) 0)) (some (.ref h.length)) (some (.int ((1:Nat):Int) 0)) o10 o11,h ++ [.lst (stz [])]):=x_set y_c
 have sl:=v_slc (TT:=tb s) (cf:=cf) (d:=85) (a:=.var 3) (lo:=some (.var 7)) (hi:=none) (l:=some (a:Int)) (r:=none) (ρ:=rP u most menu p size (some (.int c 0)) (some (.int (c % 5) 0)) (some (.int (a:Int) 0)) (some (.ref h.length)) (some (.int ((1:Nat):Int) 0)) o10 o11) (h:=h ++ [.lst (stz [])]) (v_var (by rfl)) (evO_int (v_var (by rfl))) (by simp only [evO]) (keepR hp)
 rw [cut_from (by omega)] at sl
 have zl:(flt (Rs.drop a)).length <= 60:=by
  have:flt Rs = flt (Rs.take a) ++ flt (Rs.drop a):=by rw [<- flt_app,List.take_append_drop]
  have:=congrArg List.length this
  rw [List.length_append] at this
  omega
 have kA:Kp h (h ++ [O.lst (stz [])] ++ [O.lst (us.drop a)]):=(Kp.app _ _).trans (Kp.app _ _)
 obtain ⟨r',q10,h2,k2,hr2,lp⟩:=l_acc (TT:=tb s) (cf:=cf) (d:=79) (i:=8) (j:=9) (x:=10) (l:=(h ++ [O.lst (stz [])]).length) (R:=fun r cc o => rP u most menu p size (some (.int c 0)) (some (.int (c % 5) 0)) (some (.int (a:Int) 0)) (some (.ref r)) (some (.int (cc:Int) 0)) o o11) (fun _ _ _ _ => rfl) (fun _ _ _ _ => rfl) (fun _ _ _ _ => rfl) (fun _ _ _ => rfl) (fun _ _ _ => rfl) (fun _ _ _ => rfl)
  (us:=us.drop a) (Rs:=Rs.drop a) (r0:=h.length) (c0:=1) (o:=o10) (h0:=h ++ [O.lst (stz [])] ++ [O.lst (us.drop a)]) at0 (prImp (pr_drop pr a) fun _ _ => Pt.keep kA) (keepR at0) (by omega)
 have x4:ex (tb s) cf 87 pC4 (rP u most menu p size (some (.int c 0)) (some (.int (c % 5) 0)) (some (.int (a:Int) 0)) (some (.ref h.length)) (some (.int ((1:Nat):Int) 0)) o10 o11) (h ++ [.lst (stz [])]) = some (.next,rP u most menu p size (some (.int c 0)) (some (.int (c % 5) 0)) (some (.int (a:Int) 0)) (some (.ref r')) (some (.int ((1 + cnt (Rs.drop a):Nat):Int) 0)) q10 o11,h2):=x_forL sl at0 lp
 have kB:=kA.trans k2
 -- how often
 obtain ⟨t,t2,t4,x5⟩:∃ t:Nat,2 <= t /\ t <= 4 /\ ex (tb s) cf 86 pC5 (rP u most menu p size (some (.int c 0)) (some (.int (c % 5) 0)) (some (.int (a:Int) 0)) (some (.ref r')) (some (.int ((1 + cnt (Rs.drop a):Nat):Int) 0)) q10 o11) h2 = some (.next,rP u most menu p size (some (.int c 0)) (some (.int (c % 5) 0)) (some (.int (a:Int) 0)) (some (.ref r')) (some (.int ((1 + cnt (Rs.drop a):Nat):Int) 0)) q10 (some (.int (t:Int) 0)),h2):=by
  have e1:=v_add (TT:=tb s) (cf:=cf) (d:=84) (y_c (u:=.int 2 0)) (v_modI (d:=83) (j:=3) (c:=.c (.int 3 0)) (by decide) (v_divE (d:=82) (j:=20) (c:=.c (.int 20 0)) (ρ:=rP u most menu p size (some (.int c 0)) (some (.int (c % 5) 0)) (some (.int (a:Int) 0)) (some (.ref r')) (some (.int ((1 + cnt (Rs.drop a):Nat):Int) 0)) q10 o11) (h:=h2) (by decide) (v_var (i:=5) (by rfl)) y_c) y_c)
  rw [show (2:Int) + c / 20 % 3 = (((2 + c / 20 % 3).toNat:Nat):Int) by omega] at e1
  exact ⟨(2 + c / 20 % 3).toNat,by omega,by omega,x_set e1⟩
 have ls:(stz (flt (Rs.drop a))).length = (flt (Rs.drop a)).length:=by simp [stz]
 have em:∀ d h',Kp h2 h' -> ∀ p',ev (tb s) cf (d + 4) pM (rP u most menu p' size (some (.int c 0)) (some (.int (c % 5) 0)) (some (.int (a:Int) 0)) (some (.ref r')) (some (.int ((1 + cnt (Rs.drop a):Nat):Int) 0)) q10 (some (.int (t:Int) 0))) h' = some (.int (((t - 1) * (flt (Rs.drop a)).length:Nat):Int) 0,h'):=fun d h' kk p' => by
  have e1:=v_sub (TT:=tb s) (cf:=cf) (d:=d + 2) (ρ:=rP u most menu p' size (some (.int c 0)) (some (.int (c % 5) 0)) (some (.int (a:Int) 0)) (some (.ref r')) (some (.int ((1 + cnt (Rs.drop a):Nat):Int) 0)) q10 (some (.int (t:Int) 0))) (h:=h') (v_var (i:=11) (by rfl)) (y_c (u:=.int 1 0))
  rw [show (t:Int) - 1 = ((t - 1:Nat):Int) by omega] at e1
  have e2:=v_len (TT:=tb s) (cf:=cf) (d:=d + 1) (i:=8) (ρ:=rP u most menu p' size (some (.int c 0)) (some (.int (c % 5) 0)) (some (.int (a:Int) 0)) (some (.ref r')) (some (.int ((1 + cnt (Rs.drop a):Nat):Int) 0)) q10 (some (.int (t:Int) 0))) (by rfl) (kk _ _ hr2)
  rw [ls] at e2
  exact v_mulN (by omega) e1 e2
 have et6:evT (tb s) cf 84 pC6t (rP u most menu p size (some (.int c 0)) (some (.int (c % 5) 0)) (some (.int (a:Int) 0)) (some (.ref r')) (some (.int ((1 + cnt (Rs.drop a):Nat):Int) 0)) q10 (some (.int (t:Int) 0))) h2 = some (decide ((size:Int) + (((t - 1) * (flt (Rs.drop a)).length:Nat):Int) <= (most:Int)),h2) :=
  v_Tcmp (d:=82) (v_add (d:=81) (v_var (i:=4) (by rfl)) (em 77 h2 (Kp.refl _) p)) (v_var (i:=1) (by rfl)) rfl
 have go:∀ {p' size':Nat} {Rs':List (List (List Nat) × Nat)} {h':Hs},Kp h2 h' -> Dr h' most p' size' Rs' -> ex (tb s) cf 85 pC6 (rP u most menu p size (some (.int c 0)) (some (.int (c % 5) 0)) (some (.int (a:Int) 0)) (some (.ref r')) (some (.int ((1 + cnt (Rs.drop a):Nat):Int) 0)) q10 (some (.int (t:Int) 0))) h2 = some (.next,rP u most menu p' size' (some (.int c 0)) (some (.int (c % 5) 0)) (some (.int (a:Int) 0)) (some (.ref r')) (some (.int ((1 + cnt (Rs.drop a):Nat):Int) 0)) q10 (some (.int (t:Int) 0)),h') ->
   ∃ p' size' Rs' q7 q8 q9 q10 q11 h',Kp h h' /\ Dr h' most p' size' Rs' /\ ex (tb s) cf 92 pC (rP u most menu p size (some (.int c 0)) (some (.int (c % 5) 0)) o7 o8 o9 o10 o11) h = some (.next,rP u most menu p' size' (some (.int c 0)) (some (.int (c % 5) 0)) q7 q8 q9 q10 q11,h'):=fun {p' size' Rs' h'} k' d' x6 =>
  ⟨p',size',Rs',_,_,_,_,_,h',kB.trans k',d',by rw [pC,x_ifT et,x_next x1,x_next x2,x_next x3,x_next x4,x_next x5,x_next x6,y_nil]⟩
 by_cases z:size + (t - 1) * (flt (Rs.drop a)).length <= most
 ·rw [decide_eq_true (by omega)] at et6
  have dn:Rs.drop a ≠ []:=fun z => by
   have:=congrArg List.length z
   rw [List.length_drop] at this
   simp at this
   omega
  obtain ⟨fn,fc⟩:=flt_le dn fun x hx => pk x (List.mem_of_mem_drop hx)
  have tl:t * (flt (Rs.drop a)).length <= 4 * 60:=Nat.mul_le_mul t4 zl
  have s1:=v_slc (TT:=tb s) (cf:=cf) (d:=80) (a:=.var 3) (lo:=none) (hi:=some (.var 7)) (l:=none) (r:=some (a:Int)) (ρ:=rP u most menu p size (some (.int c 0)) (some (.int (c % 5) 0)) (some (.int (a:Int) 0)) (some (.ref r')) (some (.int ((1 + cnt (Rs.drop a):Nat):Int) 0)) q10 (some (.int (t:Int) 0))) (h:=h2) (v_var (by rfl)) (by simp only [evO]) (evO_int (v_var (by rfl))) (kB _ _ hp)
  rw [cut_to (by omega)] at s1
  have k3:Kp h2 (h2 ++ [O.lst (us.take a)]):=Kp.app _ _
  have s2:=v_repN (TT:=tb s) (cf:=cf) (d:=78) (a:=.var 8) (e:=.var 11) (k:=t) (ρ:=rP u most menu p size (some (.int c 0)) (some (.int (c % 5) 0)) (some (.int (a:Int) 0)) (some (.ref r')) (some (.int ((1 + cnt (Rs.drop a):Nat):Int) 0)) q10 (some (.int (t:Int) 0))) (h:=h2 ++ [O.lst (us.take a)]) (v_var (by rfl)) (v_var (by rfl)) (k3 _ _ hr2) (by omega) (by rw [ls]; omega)
  rw [stz_rep] at s2
  have hT1:(h2 ++ [O.lst (us.take a)])[h2.length]? = some (.lst (us.take a)):=at0
  generalize h2.length = T1 at s1 hT1
  generalize h2 ++ [O.lst (us.take a)] = h3 at s1 k3 s2 hT1
  have s3:ev (tb s) cf 80 (.tup [(.op .Mult (.var 8) (.var 11)),(.var 9)]) (rP u most menu p size (some (.int c 0)) (some (.int (c % 5) 0)) (some (.int (a:Int) 0)) (some (.ref r')) (some (.int ((1 + cnt (Rs.drop a):Nat):Int) 0)) q10 (some (.int (t:Int) 0))) h3 = some (.ref (h3 ++ [O.lst (stz (List.replicate t (flt (Rs.drop a))).flatten)]).length,h3 ++ [.lst (stz (List.replicate t (flt (Rs.drop a))).flatten)] ++ [.tup [.ref h3.length,.int ((1 + cnt (Rs.drop a):Nat):Int) 0]]):=by
   rw [y_tup,evs,s2,y_bd,evs,v_var (u:=.int ((1 + cnt (Rs.drop a):Nat):Int) 0) (by rfl),y_bd,evs,y_bd,y_bd,y_bd]
  have hpt:Pt (h3 ++ [.lst (stz (List.replicate t (flt (Rs.drop a))).flatten)] ++ [.tup [.ref h3.length,.int ((1 + cnt (Rs.drop a):Nat):Int) 0]]) (.ref (h3 ++ [O.lst (stz (List.replicate t (flt (Rs.drop a))).flatten)]).length) ((List.replicate t (flt (Rs.drop a))).flatten,1 + cnt (Rs.drop a)):=by
   refine ⟨_,h3.length,rfl,at0,keepR at0,?_,?_,?_⟩
   ·intro z
    have:=congrArg List.length z
    rw [flat_len] at this
    have l0:=List.length_pos_iff.mpr fn
    have:1 * 1 <= t * (flt (Rs.drop a)).length:=Nat.mul_le_mul (by omega) l0
    simp at *
    omega
   ·intro m hm
    obtain ⟨l,hl,hm⟩:=List.mem_flatten.mp hm
    rw [(List.mem_replicate.mp hl).2] at hm
    exact flt_mk (fun x hx => pk x (List.mem_of_mem_drop hx)) m hm
   ·have:=fwl_rep fn t2
    show fwl (List.replicate t (flt (Rs.drop a))).flatten <= ((1 + cnt (Rs.drop a):Nat):Int)
    omega
  have k4:Kp h3 (h3 ++ [.lst (stz (List.replicate t (flt (Rs.drop a))).flatten)] ++ [.tup [.ref h3.length,.int ((1 + cnt (Rs.drop a):Nat):Int) 0]]):=(Kp.app _ _).trans (Kp.app _ _)
  generalize (h3 ++ [O.lst (stz (List.replicate t (flt (Rs.drop a))).flatten)]).length = T2 at s3 hpt
  generalize h3 ++ [O.lst (stz (List.replicate t (flt (Rs.drop a))).flatten)] ++ [O.tup [.ref h3.length,.int ((1 + cnt (Rs.drop a):Nat):Int) 0]] = h4 at s3 hpt k4
  have s4:ev (tb s) cf 81 pN (rP u most menu p size (some (.int c 0)) (some (.int (c % 5) 0)) (some (.int (a:Int) 0)) (some (.ref r')) (some (.int ((1 + cnt (Rs.drop a):Nat):Int) 0)) q10 (some (.int (t:Int) 0))) h3 = some (.ref h4.length,h4 ++ [.lst [.ref T2]]):=by
   rw [pN,y_lst,evs,s3,y_bd,evs,y_bd,y_bd]
  have s5:=v_cat (TT:=tb s) (cf:=cf) (d:=81) s1 s4 (keepR (k4 _ _ hT1)) at0 (by simp; omega)
  have x7:ex (tb s) cf 83 pD1 (rP u most menu p size (some (.int c 0)) (some (.int (c % 5) 0)) (some (.int (a:Int) 0)) (some (.ref r')) (some (.int ((1 + cnt (Rs.drop a):Nat):Int) 0)) q10 (some (.int (t:Int) 0))) h2 = some (.next,rP u most menu (h4 ++ [O.lst [.ref T2]]).length size (some (.int c 0)) (some (.int (c % 5) 0)) (some (.int (a:Int) 0)) (some (.ref r')) (some (.int ((1 + cnt (Rs.drop a):Nat):Int) 0)) q10 (some (.int (t:Int) 0)),h4 ++ [.lst [.ref T2]] ++ [.lst (us.take a ++ [.ref T2])]):=x_set s5
  have k5:Kp h4 (h4 ++ [O.lst [.ref T2]] ++ [O.lst (us.take a ++ [.ref T2])]):=(Kp.app _ _).trans (Kp.app _ _)
  have k6:=k3.trans (k4.trans k5)
  have fl:flt (Rs.take a ++ [((List.replicate t (flt (Rs.drop a))).flatten,1 + cnt (Rs.drop a))]) = flt (Rs.take a) ++ (List.replicate t (flt (Rs.drop a))).flatten:=by rw [flt_app]; simp [flt]
  have sz:(flt (Rs.take a ++ [((List.replicate t (flt (Rs.drop a))).flatten,1 + cnt (Rs.drop a))])).length = size + (t - 1) * (flt (Rs.drop a)).length:=by
   rw [fl,List.length_append,flat_len,es]
   have e1:flt Rs = flt (Rs.take a) ++ flt (Rs.drop a):=by rw [<- flt_app,List.take_append_drop]
   have e2:=congrArg List.length e1
   rw [List.length_append] at e2
   have e3:t * (flt (Rs.drop a)).length = (t - 1) * (flt (Rs.drop a)).length + (flt (Rs.drop a)).length:=by
    obtain ⟨k,rfl⟩:∃ k,t = k + 1:=⟨t - 1,by omega⟩
    rw [Nat.add_sub_cancel,Nat.add_mul,Nat.one_mul]
   omega
  have d2:=Dr.of (h:=h4 ++ [.lst [.ref T2]] ++ [.lst (us.take a ++ [.ref T2])]) (p:=(h4 ++ [O.lst [.ref T2]]).length) (us:=us.take a ++ [.ref T2]) (Rs:=Rs.take a ++ [((List.replicate t (flt (Rs.drop a))).flatten,1 + cnt (Rs.drop a))]) at0 (prPut (prImp (pr_take pr a) fun _ _ => Pt.keep (kB.trans k6)) (hpt.keep k5)) (most:=most) (by simp) (by rw [sz]; exact z)
  rw [sz] at d2
  generalize h4 ++ [O.lst [.ref T2]] ++ [O.lst (us.take a ++ [.ref T2])] = h5 at x7 d2 k6
  generalize (h4 ++ [O.lst [.ref T2]]).length = p5 at x7 d2
  have e8:=v_add (TT:=tb s) (cf:=cf) (d:=80) (v_var (i:=4) (ρ:=rP u most menu p5 size (some (.int c 0)) (some (.int (c % 5) 0)) (some (.int (a:Int) 0)) (some (.ref r')) (some (.int ((1 + cnt (Rs.drop a):Nat):Int) 0)) q10 (some (.int (t:Int) 0))) (by rfl)) (em 76 h5 k6 p5)
  rw [<- Int.natCast_add] at e8
  refine go k6 d2 ?_
  rw [pC6,x_ifT et6,x_next x7]
  exact (x_next (x_set (i:=4) e8)).trans y_nil
 ·rw [decide_eq_false (by omega)] at et6
  exact go (Kp.refl _) (dr.keep kB) (x_next0 et6)
end
section
variable {s:List U} {n:Nat} {ns:List Int} {hs:Hs} {u:U}
theorem cut_iz {lo hi:Option Int}:∃ cs:List Int,cutU (iz ns) lo hi = iz cs:=by
 unfold cutU
 exact ⟨(ns.drop (cutIx (iz ns).length 0 lo)).take (cutIx (iz ns).length (iz ns).length hi - cutIx (iz ns).length 0 lo),by rw [iz,iz,List.map_take,List.map_drop]⟩
theorem c_parts {most:Nat} (c:Cl s hs u ns) (m1:1 <= most) (m2:most <= 60):∃ r size Rs h',Kp hs h' /\ Dr h' most r size Rs /\ callF (tb s) (n + 3) 35 [u,.int (most:Int) 0] hs = some (.ref r,h'):=by
 obtain ⟨menu,h1,um,k1,hm,um3,tm,e0⟩:=c_menu (s:=s) (n:=n) c
 have x0:ex (tb s) (callF (tb s) (n + 2)) 99 (.set 2 (.call 34 [(.var 0)])) [some u,some (.int (most:Int) 0),none,none,none,none,none,none,none,none,none,none] hs = some (.next,[some u,some (.int (most:Int) 0),some (.ref menu),none,none,none,none,none,none,none,none,none],h1):=x_set (v_call (by rfl) e0)
 obtain ⟨p0,pu,m,h2,k2,hp0,hpt,e1⟩:=v_single (TT:=tb s) (cf:=callF (tb s) (n + 2)) (d:=92) (e:=.c (.int 0 0)) (j:=0) (ρ:=[some u,some (.int (most:Int) 0),some (.ref menu),none,none,none,none,none,none,none,none,none]) (by rfl) hm tm y_c (by omega) (by omega)
 have x1:ex (tb s) (callF (tb s) (n + 2)) 98 (.set 3 pS0) [some u,some (.int (most:Int) 0),some (.ref menu),none,none,none,none,none,none,none,none,none] h1 = some (.next,[some u,some (.int (most:Int) 0),some (.ref menu),some (.ref p0),none,none,none,none,none,none,none,none],h2):=x_set e1
 have x2:ex (tb s) (callF (tb s) (n + 2)) 97 (.set 4 (.c (.int 1 0))) [some u,some (.int (most:Int) 0),some (.ref menu),some (.ref p0),none,none,none,none,none,none,none,none] h2 = some (.next,rP u most menu p0 1 none none none none none none none,h2):=x_set y_c
 have d0:Dr h2 most p0 1 [([m],1)]:=⟨⟨[pu],hp0,.cons hpt .nil⟩,by simp,rfl,m1⟩
 obtain ⟨cs,ecs⟩:=cut_iz (ns:=ns) (lo:=some 3) (hi:=some 87)
 have sl:ev (tb s) (callF (tb s) (n + 2)) 95 (.sl (.var 0) (some (.c (.int 3 0))) (some (.c (.int 87 0)))) (rP u most menu p0 1 none none none none none none none) h2 = some (.ref h2.length,h2 ++ [.lst (iz cs)]):=by
  rw [y_sl,v_var (u:=u) (by rfl),y_bd]
  simp only [evO,y_c,y_bd,(c.keep (k1.trans k2)).cut,ecs]
 have hm':(h2 ++ [O.lst (iz cs)])[menu]? = some (.lst um):=keepR (k2 _ _ hm)
 obtain ⟨ρ',h',⟨p,size,Rs,o5,o6,o7,o8,o9,o10,o11,rfl,kk,dr⟩,lp⟩:=for_lst (T:=tb s) (x:=5) (l:=h2.length) (us:=iz cs) (body:=exs (tb s) (callF (tb s) (n + 2)) 95 [pA,pB,pC])
  (fun i ρ h => ∃ p size Rs o5 o6 o7 o8 o9 o10 o11,ρ = rP u most menu p size o5 o6 o7 o8 o9 o10 o11 /\ Kp (h2 ++ [O.lst (iz cs)]) h /\ Dr h most p size Rs)
  (fun i ρ h ⟨_,_,_,_,_,_,_,_,_,_,_,kk,_⟩ => kk _ _ at0)
  (fun i v ρ h hv ⟨p,size,Rs,o5,o6,o7,o8,o9,o10,o11,e,kk,dr⟩ => by
   subst e
   rw [iz,List.getElem?_map,Option.map_eq_some_iff] at hv
   obtain ⟨x,_,rfl⟩:=hv
   have xa:ex (tb s) (callF (tb s) (n + 2)) 94 pA (rP u most menu p size (some (.int x 0)) o6 o7 o8 o9 o10 o11) h = some (.next,rP u most menu p size (some (.int x 0)) (some (.int (x % 5) 0)) o7 o8 o9 o10 o11,h):=x_set (v_modI (d:=92) (by decide) (v_var (by rfl)) y_c)
   have eC:∀ {p size:Nat} {h:Hs},ex (tb s) (callF (tb s) (n + 2)) 92 pC (rP u most menu p size (some (.int x 0)) (some (.int (x % 5) 0)) o7 o8 o9 o10 o11) h = (bd (some (decide (2 < x % 5),h)) fun c h1 => if c = true then exs (tb s) (callF (tb s) (n + 2)) 91 [pC1,.set 8 (.lst []),.set 9 (.c (.int 1 0)),pC4,pC5,pC6] (rP u most menu p size (some (.int x 0)) (some (.int (x % 5) 0)) o7 o8 o9 o10 o11) h1 else exs (tb s) (callF (tb s) (n + 2)) 91 [] (rP u most menu p size (some (.int x 0)) (some (.int (x % 5) 0)) o7 o8 o9 o10 o11) h1):=fun {p size h} => by
    have et:evT (tb s) (callF (tb s) (n + 2)) 91 (.cmp .Gt (.var 6) (.c (.int 2 0))) (rP u most menu p size (some (.int x 0)) (some (.int (x % 5) 0)) o7 o8 o9 o10 o11) h = some (decide (2 < x % 5),h):=v_Tcmp (d:=89) (v_var (i:=6) (by rfl)) (y_c (u:=.int 2 0)) e_gti
    rw [pC,y_ite,et]
   by_cases w:x % 5 < 3
   ·obtain ⟨p',size',Rs',h3,k3,d3,xb⟩:=l_grow (s:=s) (u:=u) (cf:=callF (tb s) (n + 2)) (o7:=o7) (o8:=o8) (o9:=o9) (o10:=o10) (o11:=o11) (kk _ _ hm') um3 tm dr m2 w
    have xc:ex (tb s) (callF (tb s) (n + 2)) 92 pC (rP u most menu p' size' (some (.int x 0)) (some (.int (x % 5) 0)) o7 o8 o9 o10 o11) h3 = some (.next,rP u most menu p' size' (some (.int x 0)) (some (.int (x % 5) 0)) o7 o8 o9 o10 o11,h3):=by
     rw [eC,decide_eq_false (by omega),y_bd,if_neg (by decide),y_nil]
    refine ⟨_,h3,⟨p',size',Rs',some (.int x 0),some (.int (x % 5) 0),o7,o8,o9,o10,o11,rfl,kk.trans k3,d3⟩,?_⟩
    show exs (tb s) (callF (tb s) (n + 2)) 95 [pA,pB,pC] (rP u most menu p size (some (.int x 0)) o6 o7 o8 o9 o10 o11) h = _
    rw [x_next xa,x_next xb,x_next xc,y_nil]
   ·have xb:ex (tb s) (callF (tb s) (n + 2)) 93 pB (rP u most menu p size (some (.int x 0)) (some (.int (x % 5) 0)) o7 o8 o9 o10 o11) h = some (.next,rP u most menu p size (some (.int x 0)) (some (.int (x % 5) 0)) o7 o8 o9 o10 o11,h):=by
     refine x_next0 (t:=pBt) (v_Tand (x:=false) (y:=decide ((size:Int) < (most:Int))) (v_Tcmp (d:=89) (v_var (i:=6) (by rfl)) (y_c (u:=.int 3 0)) ?_) (v_Tcmp (d:=89) (v_var (i:=4) (by rfl)) (v_var (i:=1) (by rfl)) e_lti))
     rw [e_lti,decide_eq_false w]
    obtain ⟨p',size',Rs',q7,q8,q9,q10,q11,h3,k3,d3,xc⟩:=l_join (s:=s) (u:=u) (menu:=menu) (cf:=callF (tb s) (n + 2)) (o7:=o7) (o8:=o8) (o9:=o9) (o10:=o10) (o11:=o11) dr m2 w
    refine ⟨_,h3,⟨p',size',Rs',some (.int x 0),some (.int (x % 5) 0),q7,q8,q9,q10,q11,rfl,kk.trans k3,d3⟩,?_⟩
    show exs (tb s) (callF (tb s) (n + 2)) 95 [pA,pB,pC] (rP u most menu p size (some (.int x 0)) o6 o7 o8 o9 o10 o11) h = _
    rw [x_next xa,x_next xb,x_next xc,y_nil])
  (iz cs).length 0 (rP u most menu p0 1 none none none none none none none) (h2 ++ [O.lst (iz cs)]) (by simp) ⟨p0,1,[([m],1)],none,none,none,none,none,none,none,rfl,Kp.refl _,d0.keep (Kp.app _ _)⟩
 have x3:ex (tb s) (callF (tb s) (n + 2)) 96 pL (rP u most menu p0 1 none none none none none none none) h2 = some (.next,rP u most menu p size o5 o6 o7 o8 o9 o10 o11,h'):=x_forL sl at0 lp
 refine ⟨p,size,Rs,h',k1.trans (k2.trans ((Kp.app _ _).trans kk)),dr,?_⟩
 rw [y_callF fnL[35] rfl rfl]
 show fin (exs (tb s) (callF (tb s) (n + 2)) 100 b35 [some u,some (.int (most:Int) 0),none,none,none,none,none,none,none,none,none,none] hs) = _
 rw [bpt_is,x_next x0,x_next x1,x_next x2,x_next x3]
 exact x_ret (v_var (by rfl))
end
theorem y_while {T:Tbl} {cf:Cf} {d:Nat} {t:E} {body:List S} {ρ:Rho} {hs:Hs}:ex T cf (d + 1) (.while t body) ρ hs = whileU (evT T cf d t) (exs T cf d body) 1000000 ρ hs:=by rw [ex]
theorem m_div6 {i:Int}:divI (.int i 0) (.int 1000000 0) = some (.int (i / 1000000) 0):=by simp [divI]
theorem v_p6 {TT:Tbl} {cf:Cf} {d:Nat} {ρ:Rho} {h:Hs}:ev TT cf (d + 2) (.op .Pow (.c (.int 10 0)) (.c (.int 6 0))) ρ h = some (.int 1000000 0,h):=by
 have s10:small64 10 = true:=by decide
 simp [y_op,y_c,y_bd,opU,powI,s10]
section
variable {s:List U} {n:Nat} {ns:List Int}
abbrev rW (u:U) (i:Int):Rho:=[some .scr,some u,some (.int i 0)]
def kT:E:=.and (.cmp .Gt (.var 2) (.c (.int 0 0))) (.cmp .Lt (.bi .len [(.var 1)]) (.c (.int 63 0)))
def kA:S:=.expr (.bm .append (.var 1) [(.op .Mod (.var 2) (.op .Pow (.c (.int 10 0)) (.c (.int 6 0))))])
def kB:S:=.set 2 (.op .FloorDiv (.var 2) (.op .Pow (.c (.int 10 0)) (.c (.int 6 0))))
def kI:E:=.or (.cmp .Lt (.bi .len [(.var 0)]) (.c (.int 2 0))) (.cmp .Eq (.op .Mod (.op .FloorDiv (.ix (.var 0) (.c (.int 0 0))) (.c (.int 64 0))) (.c (.int 2 0))) (.c (.int 1 0)))
theorem bwi_is:b39 = [.ite kI [(.ret (.var 0))] [],.set 1 (.lst []),.set 2 (.bi .abs [(.ix (.var 0) (.c (.int 1 0)))]),.while kT [kA,kB],.ret (.op .Add (.var 1) (.sl (.var 0) (some (.c (.int 2 0))) none))]:=rfl
theorem l_wide {cf:Cf}:∀ (m:Nat) (xs:List Int) (i:Int) (f:Nat),xs.length + m = 63 -> ∃ xs' i',xs'.length <= 63 /\ whileU (evT (tb s) cf 95 kT) (exs (tb s) cf 95 [kA,kB]) (f + m + 1) (rW (.ref 0) i) [.lst (iz xs)] = some (.next,rW (.ref 0) i',[.lst (iz xs')]):=by
 have et:∀ (xs:List Int) (i:Int),evT (tb s) cf 95 kT (rW (.ref 0) i) [.lst (iz xs)] = some (decide (0 < i) && decide ((xs.length:Int) < 63),[.lst (iz xs)]):=fun xs i => by
  have el:=v_len (TT:=tb s) (cf:=cf) (d:=90) (i:=1) (ρ:=rW (.ref 0) i) (h:=[.lst (iz xs)]) (q:=0) (xs:=iz xs) (by rfl) rfl
  rw [show (iz xs).length = xs.length by simp [iz]] at el
  exact v_Tand (v_Tcmp (d:=92) (v_var (i:=2) (by rfl)) (y_c (u:=.int 0 0)) e_gti) (v_Tcmp (d:=92) el (y_c (u:=.int 63 0)) e_lti)
 intro m
 induction m with
 | zero =>
  intro xs i f hl
  refine ⟨xs,i,by omega,?_⟩
  have e:=et xs i
  rw [decide_eq_false (show ¬ (xs.length:Int) < 63 by omega),Bool.and_false] at e
  rw [whileU,e]
 | succ m ih =>
  intro xs i f hl
  by_cases z:0 < i
  ·have e:=et xs i
   rw [decide_eq_true z,decide_eq_true (show (xs.length:Int) < 63 by omega)] at e
   have em:=v_modI (TT:=tb s) (cf:=cf) (d:=91) (c:=.op .Pow (.c (.int 10 0)) (.c (.int 6 0))) (ρ:=rW (.ref 0) i) (h:=[.lst (iz xs)]) (by decide) (v_var (i:=2) (by rfl)) (v_p6 (d:=89))
   have xa:ex (tb s) cf 94 kA (rW (.ref 0) i) [.lst (iz xs)] = some (.next,rW (.ref 0) i,[.lst (iz (xs ++ [i % 1000000]))]):=by
    have:=x_app (T:=tb s) (cf:=cf) (d:=92) (p:=0) (o:=.var 1) (ρ:=rW (.ref 0) i) (h:=[.lst (iz xs)]) (v_var (by rfl)) (ys:=iz xs) rfl em (xs:=iz xs) rfl (by simp; omega)
    rw [show iz xs ++ [U.int (i % 1000000) 0] = iz (xs ++ [i % 1000000]) by simp [iz]] at this
    exact this
   have ed:ev (tb s) cf 92 (.op .FloorDiv (.var 2) (.op .Pow (.c (.int 10 0)) (.c (.int 6 0)))) (rW (.ref 0) i) [.lst (iz (xs ++ [i % 1000000]))] = some (.int (i / 1000000) 0,[.lst (iz (xs ++ [i % 1000000]))]):=by
    rw [y_op,v_var (u:=.int i 0) (by rfl),y_bd,v_p6 (d:=89),y_bd]
    simp only [opU,m_div6,Option.map_some]
   have xb:ex (tb s) cf 93 kB (rW (.ref 0) i) [.lst (iz (xs ++ [i % 1000000]))] = some (.next,rW (.ref 0) (i / 1000000),[.lst (iz (xs ++ [i % 1000000]))]):=x_set ed
   obtain ⟨xs',i',l',e'⟩:=ih (xs ++ [i % 1000000]) (i / 1000000) f (by simp; omega)
   refine ⟨xs',i',l',?_⟩
   rw [show f + (m + 1) + 1 = f + m + 1 + 1 by omega,whileU,e]
   show (match exs (tb s) cf 95 [kA,kB] (rW (.ref 0) i) [.lst (iz xs)] with
    | some (.next,ρ2,h2) => whileU (evT (tb s) cf 95 kT) (exs (tb s) cf 95 [kA,kB]) (f + m + 1) ρ2 h2
    | some (.cont,ρ2,h2) => whileU (evT (tb s) cf 95 kT) (exs (tb s) cf 95 [kA,kB]) (f + m + 1) ρ2 h2
    | some (.brk,ρ2,h2) => some (.next,ρ2,h2)
    | r => r) = _
   rw [x_next xa,x_next xb,y_nil]
   exact e'
  ·refine ⟨xs,i,by omega,?_⟩
   have e:=et xs i
   rw [decide_eq_false z,Bool.false_and] at e
   rw [whileU,e]
theorem c_wide (hs:s = iz ns) (hl:ns.length <= 63):∃ u ns' h',Cl s h' u ns' /\ callF (tb s) (n + 1) 39 [.scr] [] = some (u,h'):=by
 have c0:∀ h,Cl s h .scr ns:=fun h => .inl ⟨rfl,hs⟩
 have ln:(iz ns).length = ns.length:=by simp [iz]
 have v0:∀ d a b h,ev (tb s) (callF (tb s) n) (d + 1) (.var 0) [some .scr,a,b] h = some (.scr,h):=fun d a b h => v_var (by rfl)
 have el:evT (tb s) (callF (tb s) n) 97 (.cmp .Lt (.bi .len [(.var 0)]) (.c (.int 2 0))) [some .scr,none,none] [] = some (decide ((ns.length:Int) < 2),[]):=by
  refine v_Tcmp (d:=95) (u:=.int (ns.length:Int) 0) ?_ (y_c (u:=.int 2 0)) e_lti
  rw [y_bi,evs,v0,y_bd,evs,y_bd,y_bd]
  show (seqU (tb s) .scr []).map (fun xs => (U.int xs.length 0,([]:Hs))) = _
  rw [(c0 []).seq.1,Option.map_some,ln]
 rw [y_callF fnL[39] rfl rfl]
 show ∃ u ns' h',Cl s h' u ns' /\ fin (exs (tb s) (callF (tb s) n) 100 b39 [some .scr,none,none] []) = _
 have stop:evT (tb s) (callF (tb s) n) 98 kI [some .scr,none,none] [] = some (true,[]) -> ∃ u ns' h',Cl s h' u ns' /\ fin (exs (tb s) (callF (tb s) n) 100 b39 [some .scr,none,none] []) = some (u,h'):=fun e => by
  have x0:ex (tb s) (callF (tb s) n) 99 (.ite kI [(.ret (.var 0))] []) [some .scr,none,none] [] = some (.ret .scr,[some .scr,none,none],[]):=(x_ifT e).trans (x_retR (v0 95 none none []))
  refine ⟨.scr,ns,[],c0 [],?_⟩
  rw [bwi_is,x_stop x0]
  rfl
 by_cases z:ns.length < 2
 ·rw [decide_eq_true (by omega)] at el
  exact stop (by rw [kI,y_Tor,el,y_bd,if_pos rfl])
 rw [decide_eq_false (by omega)] at el
 obtain ⟨y0,a0⟩:∃ y,atU (iz ns) 0 = some (.int y 0):=⟨ns[0]'(by omega),at_nat (i:=0) (by simp [iz])⟩
 obtain ⟨y1,a1⟩:∃ y,atU (iz ns) 1 = some (.int y 0):=⟨ns[1]'(by omega),at_nat (i:=1) (by simp [iz])⟩
 have vi:∀ d a b h (j v:Int),atU (iz ns) j = some (.int v 0) -> ev (tb s) (callF (tb s) n) (d + 2) (.ix (.var 0) (.c (.int j 0))) [some .scr,a,b] h = some (.int v 0,h):=fun d a b h j v e => by
  rw [y_ix,v0,y_bd,y_c,y_bd,(c0 h).sub,e]
  rfl
 have e2:evT (tb s) (callF (tb s) n) 97 (.cmp .Eq (.op .Mod (.op .FloorDiv (.ix (.var 0) (.c (.int 0 0))) (.c (.int 64 0))) (.c (.int 2 0))) (.c (.int 1 0))) [some .scr,none,none] [] = some (decide (y0 / 64 % 2 = 1),[]) :=
  v_Tcmp (d:=95) (v_modI (d:=94) (c:=.c (.int 2 0)) (by decide) (v_divE (d:=93) (j:=64) (c:=.c (.int 64 0)) (by decide) (vi 91 none none [] 0 y0 a0) y_c) y_c) (y_c (u:=.int 1 0)) e_eqi
 have eI:evT (tb s) (callF (tb s) n) 98 kI [some .scr,none,none] [] = some (decide (y0 / 64 % 2 = 1),[]):=by rw [kI,y_Tor,el,y_bd,if_neg (by decide),e2]
 by_cases z2:y0 / 64 % 2 = 1
 ·rw [decide_eq_true z2] at eI
  exact stop eI
 rw [decide_eq_false z2] at eI
 have x0:ex (tb s) (callF (tb s) n) 99 (.ite kI [(.ret (.var 0))] []) [some .scr,none,none] [] = some (.next,[some .scr,none,none],[]):=x_next0 eI
 have x1:ex (tb s) (callF (tb s) n) 98 (.set 1 (.lst [])) [some .scr,none,none] [] = some (.next,[some .scr,some (.ref 0),none],[.lst (iz [])]):=x_set (by simp only [y_lst,evs,y_bd]; rfl)
 have x2:ex (tb s) (callF (tb s) n) 97 (.set 2 (.bi .abs [(.ix (.var 0) (.c (.int 1 0)))])) [some .scr,some (.ref 0),none] [.lst (iz [])] = some (.next,rW (.ref 0) (if y1 < 0 then -y1 else y1),[.lst (iz [])]):=by
  refine x_set (i:=2) (?_:ev (tb s) (callF (tb s) n) 96 _ _ _ = some (.int (if y1 < 0 then -y1 else y1) 0,[.lst (iz [])]))
  rw [y_bi,evs,vi 93 (some (.ref 0)) none [.lst (iz [])] 1 y1 a1,y_bd,evs,y_bd,y_bd]
  rfl
 generalize (if y1 < 0 then -y1 else y1) = i0 at x2
 obtain ⟨xs,i',xl,lp⟩:=l_wide (s:=s) (cf:=callF (tb s) n) 63 [] i0 999936 rfl
 have x3:ex (tb s) (callF (tb s) n) 96 (.while kT [kA,kB]) (rW (.ref 0) i0) [.lst (iz [])] = some (.next,rW (.ref 0) i',[.lst (iz xs)]):=by
  have e:(1000000:Nat) = 999936 + 63 + 1:=rfl
  rw [y_while,e]
  exact lp
 have ec:ev (tb s) (callF (tb s) n) 94 (.op .Add (.var 1) (.sl (.var 0) (some (.c (.int 2 0))) none)) (rW (.ref 0) i') [.lst (iz xs)] = some (.ref 2,[.lst (iz xs)] ++ [.lst (cutU (iz ns) (some 2) none)] ++ [.lst (iz xs ++ cutU (iz ns) (some 2) none)]):=by
  have sl:ev (tb s) (callF (tb s) n) 93 (.sl (.var 0) (some (.c (.int 2 0))) none) (rW (.ref 0) i') [.lst (iz xs)] = some (.ref 1,[.lst (iz xs)] ++ [.lst (cutU (iz ns) (some 2) none)]):=by
   rw [y_sl,v0,y_bd]
   simp only [evO,y_c,y_bd,(c0 _).cut]
   rfl
  have l2:(cutU (iz ns) (some 2) none).length <= 63:=by
   unfold cutU
   rw [List.length_take,List.length_drop]
   omega
  exact v_cat (d:=93) (p:=0) (q:=1) (a:=.var 1) (v_var (by rfl)) sl rfl rfl (by simp; omega)
 obtain ⟨cs,ecs⟩:=cut_iz (ns:=ns) (lo:=some 2) (hi:=none)
 refine ⟨.ref 2,xs ++ cs,[.lst (iz xs)] ++ [.lst (cutU (iz ns) (some 2) none)] ++ [.lst (iz xs ++ cutU (iz ns) (some 2) none)],.inr ⟨2,rfl,?_⟩,?_⟩
 ·rw [ecs]
  simp [iz]
 ·rw [bwi_is,x_next x0,x_next x1,x_next x2,x_next x3]
  exact x_ret ec
end
theorem gL {ρ:Rho} {L:Nat} {u:U} (h:ρ.length = L):(ρ ++ [some u])[L]? = some (some u):=by
 rw [List.getElem?_append_right (by omega),h,Nat.sub_self]; rfl
theorem pr_stz:∀ {ms:List (List Nat)},(∀ m ∈ ms,Mk m) -> Paired (fun (u:U) (m:List Nat) => u = .str m /\ Mk m) (stz ms) ms
 | [],_ => .nil
 | m :: _,h => .cons ⟨rfl,h m List.mem_cons_self⟩ (pr_stz fun x hx => h x (List.mem_cons_of_mem _ hx))
theorem l_row {s:List U} {n d L q j:Nat} {ms:List (List Nat)} {ρ:Rho} {hs:Hs} (hq:hs[q]? = some (.lst (stz ms))) (g:Good ms) (hj:ρ[j]? = some (some (.ref q))) (hL:ρ.length = L):∃ r h',Kp hs h' /\ Row h' r ms /\
  ev (tb s) (callF (tb s) (n + 4)) (d + 3) (.comp (.seq (.var j)) false none (.call 24 [.var L])) ρ hs = some (.ref r,h'):=by
 have gn:=g.n
 obtain ⟨ws,h',al,kp,e⟩:=c_seq (T:=tb s) (cf:=callF (tb s) (n + 4)) (d:=d + 2) (a:=.var j) (el:=.call 24 [.var L]) (ρ:=ρ) (P:=fun (u:U) (m:List Nat) => u = .str m /\ Mk m) (Q:=fun m v h => IsM h v m) (fun _ _ _ _ k i => IsM.keep k i) (hs:=hs)
  (by simp only [y_var,hj]) hq (by simp [stz]; omega) (fun u m ⟨e,mk⟩ h kp => by
   subst e
   obtain ⟨o,om,e2⟩:=c_stitch (s:=s) (n:=n) (hs:=h) mk
   exact ⟨.ref h.length,h ++ [o],⟨h.length,o,rfl,at0,om⟩,Kp.app _ _,v_call (gL hL) e2⟩) (pr_stz g.m)
 exact ⟨h'.length,h' ++ [.lst ws],kp.trans (Kp.app _ _),⟨ws,at0,al⟩,e⟩
theorem prApp {α β:Type} {P:α -> β -> Prop} {as cs:List α} {bs ds:List β} (h:Paired P as bs) (k:Paired P cs ds):Paired P (as ++ cs) (bs ++ ds):=by
 induction h with
 | nil => exact k
 | cons p _ ih => exact .cons p ih
section
variable {s:List U} {n:Nat} {ns:List Int} {hs:Hs} {u:U}
abbrev rQ (u:U) (m:Nat) (a b c d e f g i:Option U):Rho:=[some u,some (.int (m:Int) 0),a,b,c,d,e,f,g,i]
def q1:S:=.ite (.cmp .Eq (.op .Mod (.call 30 [(.var 0),(.c (.int 0 0))]) (.c (.int 8 0))) (.c (.int 3 0))) [(.set 1 (.c (.int 60 0)))] []
def q5b:List S:=[.set 3 (.op .Add (.var 3) (.ix (.var 5) (.c (.int 0 0)))),.set 4 (.op .Add (.var 4) (.ix (.var 5) (.c (.int 1 0))))]
def q8:S:=.ite (.not (.isi (.var 7) .list)) [(.ret (.c (.bl false)))] []
def q9e:E:=.call 37 [(.var 7),(.bi .len [(.var 3)])]
def q10t:E:=.or (.cmp .Is (.var 8) (.c .non)) (.or (.cmp .NotEq (.ix (.var 8) (.c (.int 0 0))) (.var 3)) (.cmp .Gt (.ix (.var 8) (.c (.int 1 0))) (.var 4)))
def q10:S:=.ite q10t [(.ret (.c (.bl false)))] []
def q12f:E:=.ix (.ix (.call 2 [(.var 6)]) (.c (.int 0 0))) (.neg (.c (.int 1 0)))
def q12t:E:=.or (.not (.call 31 [(.var 9)])) (.or (.cmp .NotEq (.var 9) (.ix (.var 8) (.c (.int 1 0)))) (.cmp .NotEq q12f (.var 9)))
def q12:S:=.ite q12t [(.ret (.c (.bl false)))] []
def q13e:E:=.op .Add (.sl (.var 6) (some (.c (.int 1 0))) none) (.sl (.var 6) none (some (.c (.int 1 0))))
def qA:E:=.cmp .Eq (.call 1 [(.call 3 [(.var 6)])]) (.var 9)
def qB:E:=.cmp .Eq (.comp (.seq (.var 6)) false none (.meth 4 (.var 10) [])) (.var 3)
theorem bas_is:b38 = [.set 1 (.c (.int 24 0)),q1,.set 2 (.call 35 [(.var 0),(.var 1)]),.set 3 (.lst []),.set 4 (.c (.int 0 0)),.loop (.name 5) (.seq (.var 2)) q5b,.set 6 (.comp (.seq (.var 3)) false none (.call 24 [(.var 10)])),.set 7 (.call 3 [(.var 6)]),q8,.set 8 q9e,q10,.set 9 (.call 1 [(.var 7)]),q12,.expr (.call 3 [q13e]),.ret (.and qA qB)]:=rfl
theorem c_asked (c:Cl s hs u ns):∃ h',callF (tb s) (n + 67) 38 [u] hs = some (.bl true,h'):=by
 obtain ⟨c0,e0⟩:=c_cell (s:=s) (n:=n + 65) (k:=0) c
 have x0:ex (tb s) (callF (tb s) (n + 66)) 99 (.set 1 (.c (.int 24 0))) [some u,none,none,none,none,none,none,none,none,none] hs = some (.next,rQ u 24 none none none none none none none none,hs):=x_set y_c
 obtain ⟨m,m1,m2,x1⟩:∃ m:Nat,1 <= m /\ m <= 60 /\ ex (tb s) (callF (tb s) (n + 66)) 98 q1 (rQ u 24 none none none none none none none none) hs = some (.next,rQ u m none none none none none none none none,hs):=by
  have et:evT (tb s) (callF (tb s) (n + 66)) 97 (.cmp .Eq (.op .Mod (.call 30 [(.var 0),(.c (.int 0 0))]) (.c (.int 8 0))) (.c (.int 3 0))) (rQ u 24 none none none none none none none none) hs = some (decide (c0 % 8 = 3),hs) :=
   v_Tcmp (d:=95) (v_modI (d:=94) (c:=.c (.int 8 0)) (by decide) (v_c2 (d:=93) (v_var (by rfl)) y_c e0) y_c) (y_c (u:=.int 3 0)) e_eqi
  by_cases z:c0 % 8 = 3
  ·rw [decide_eq_true z] at et
   exact ⟨60,by omega,by omega,(x_ifT et).trans ((x_next (x_set (d:=95) (y_c (u:=.int 60 0)))).trans y_nil)⟩
  ·rw [decide_eq_false z] at et
   exact ⟨24,by omega,by omega,x_next0 et⟩
 obtain ⟨p,size,Rs,h1,k1,dr,e2⟩:=c_parts (s:=s) (n:=n + 63) c m1 m2
 have x2:ex (tb s) (callF (tb s) (n + 66)) 97 (.set 2 (.call 35 [(.var 0),(.var 1)])) (rQ u m none none none none none none none none) hs = some (.next,rQ u m (some (.ref p)) none none none none none none none,h1):=x_set (v_c2 (d:=95) (v_var (by rfl)) (v_var (by rfl)) e2)
 have x3:ex (tb s) (callF (tb s) (n + 66)) 96 (.set 3 (.lst [])) (rQ u m (some (.ref p)) none none none none none none none) h1 = some (.next,rQ u m (some (.ref p)) (some (.ref h1.length)) none none none none none none,h1 ++ [.lst (stz [])]):=x_set (by simp only [y_lst,evs,y_bd]; rfl)
 have x4:ex (tb s) (callF (tb s) (n + 66)) 95 (.set 4 (.c (.int 0 0))) (rQ u m (some (.ref p)) (some (.ref h1.length)) none none none none none none) (h1 ++ [.lst (stz [])]) = some (.next,rQ u m (some (.ref p)) (some (.ref h1.length)) (some (.int ((0:Nat):Int) 0)) none none none none none,h1 ++ [.lst (stz [])]):=x_set y_c
 obtain ⟨us,hp,pr⟩:=dr.at'
 have pk:=pt_all pr
 have sz:=dr.sz
 have le:=dr.le
 obtain ⟨fn,fle⟩:=flt_le dr.ne pk
 obtain ⟨q,o5,h2,k2,hq,lp⟩:=l_acc (TT:=tb s) (cf:=callF (tb s) (n + 66)) (d:=86) (i:=3) (j:=4) (x:=5) (l:=p) (R:=fun r cc o => rQ u m (some (.ref p)) (some (.ref r)) (some (.int (cc:Int) 0)) o none none none none) (fun _ _ _ _ => rfl) (fun _ _ _ _ => rfl) (fun _ _ _ _ => rfl) (fun _ _ _ => rfl) (fun _ _ _ => rfl) (fun _ _ _ => rfl)
  (us:=us) (Rs:=Rs) (r0:=h1.length) (c0:=0) (o:=none) (h0:=h1 ++ [O.lst (stz [])]) (keepR hp) (prImp pr fun _ _ => Pt.keep (Kp.app _ _)) at0 (by omega)
 rw [Nat.zero_add] at lp
 have g:Good (flt Rs):=⟨by omega,flt_mk pk⟩
 have l1:1 <= (flt Rs).length:=List.length_pos_iff.mpr fn
 have l60:(flt Rs).length <= 60:=by omega
 have ff:fw (flt Rs) 0 (flt Rs).length <= (cnt Rs:Int):=fle
 have x5:ex (tb s) (callF (tb s) (n + 66)) 94 (.loop (.name 5) (.seq (.var 2)) q5b) (rQ u m (some (.ref p)) (some (.ref h1.length)) (some (.int ((0:Nat):Int) 0)) none none none none none) (h1 ++ [.lst (stz [])]) = some (.next,rQ u m (some (.ref p)) (some (.ref q)) (some (.int (cnt Rs:Int) 0)) o5 none none none none,h2):=x_forL (v_var (by rfl)) (keepR hp) lp
 generalize flt Rs = ms at hq g l1 l60 ff
 generalize cnt Rs = ct at x5 ff
 clear lp fle fn pk pr sz le
 have gn:=g.n
 have ls:(stz ms).length = ms.length:=by simp [stz]
 obtain ⟨r,h3,k3,hr,e6⟩:=l_row (s:=s) (n:=n + 62) (d:=89) (L:=10) (j:=3) (ρ:=rQ u m (some (.ref p)) (some (.ref q)) (some (.int (ct:Int) 0)) o5 none none none none) hq g rfl rfl
 have x6:ex (tb s) (callF (tb s) (n + 66)) 93 (.set 6 (.comp (.seq (.var 3)) false none (.call 24 [(.var 10)]))) (rQ u m (some (.ref p)) (some (.ref q)) (some (.int (ct:Int) 0)) o5 none none none none) h2 = some (.next,rQ u m (some (.ref p)) (some (.ref q)) (some (.int (ct:Int) 0)) o5 (some (.ref r)) none none none,h3):=x_set e6
 have sh:∀ {ms:List (List Nat)} {r:Nat} {h:Hs},Row h r ms -> Good ms -> 1 <= ms.length -> ms.length <= 60 -> ∃ v h',Told h ms 0 ms.length v h' /\ callF (tb s) (n + 66) 3 [.ref r] h = some (v,h'):=fun {ms r h} hr g l1 l6 => by
  obtain ⟨v,h',t,e⟩:=c_short (s:=s) (n:=n + 60 - ms.length) hr g l1
  rw [show n + 60 - ms.length + ms.length + 6 = n + 66 by omega] at e
  exact ⟨v,h',t,e⟩
 obtain ⟨v7,h4,⟨t,w,ts,rfl,k4,ht,pt,ew⟩,e7⟩:=sh hr g l1 l60
 rw [List.drop_zero,List.take_length] at pt
 have x7:ex (tb s) (callF (tb s) (n + 66)) 92 (.set 7 (.call 3 [(.var 6)])) (rQ u m (some (.ref p)) (some (.ref q)) (some (.int (ct:Int) 0)) o5 (some (.ref r)) none none none) h3 = some (.next,rQ u m (some (.ref p)) (some (.ref q)) (some (.int (ct:Int) 0)) o5 (some (.ref r)) (some (.ref t)) none none,h4):=x_set (v_call (by rfl) e7)
 have x8:ex (tb s) (callF (tb s) (n + 66)) 91 q8 (rQ u m (some (.ref p)) (some (.ref q)) (some (.int (ct:Int) 0)) o5 (some (.ref r)) (some (.ref t)) none none) h4 = some (.next,rQ u m (some (.ref p)) (some (.ref q)) (some (.int (ct:Int) 0)) o5 (some (.ref r)) (some (.ref t)) none none,h4) :=
  x_next0 (v_Tnot (c:=true) (v_Tisi (v_var (i:=7) (by rfl)) (isi_lst ht)))
 have kq:=k3.trans k4
 obtain ⟨t8,r8,h5,k5,ht8,hr8,e8⟩:=c_unr (s:=s) (h:=h4) 60 (n:=n + 4) (most:=ms.length) (h':=h4) l60 (by omega) (Nat.le_refl _) pt ht (Kp.refl _)
 have el:=v_len (TT:=tb s) (cf:=callF (tb s) (n + 66)) (d:=86) (i:=3) (ρ:=rQ u m (some (.ref p)) (some (.ref q)) (some (.int (ct:Int) 0)) o5 (some (.ref r)) (some (.ref t)) none none) (by rfl) (kq _ _ hq)
 rw [ls] at el
 have x9:ex (tb s) (callF (tb s) (n + 66)) 90 (.set 8 q9e) (rQ u m (some (.ref p)) (some (.ref q)) (some (.int (ct:Int) 0)) o5 (some (.ref r)) (some (.ref t)) none none) h4 = some (.next,rQ u m (some (.ref p)) (some (.ref q)) (some (.int (ct:Int) 0)) o5 (some (.ref r)) (some (.ref t)) (some (.ref t8)) none,h5):=x_set (v_c2 (d:=88) (v_var (by rfl)) el e8)
 have v8:∀ d o9 h',ev (tb s) (callF (tb s) (n + 66)) (d + 1) (.var 8) (rQ u m (some (.ref p)) (some (.ref q)) (some (.int (ct:Int) 0)) o5 (some (.ref r)) (some (.ref t)) (some (.ref t8)) o9) h' = some (.ref t8,h'):=fun d o9 h' => v_var (by rfl)
 have hq5:=k5 _ _ (kq _ _ hq)
 have x10:ex (tb s) (callF (tb s) (n + 66)) 89 q10 (rQ u m (some (.ref p)) (some (.ref q)) (some (.int (ct:Int) 0)) o5 (some (.ref r)) (some (.ref t)) (some (.ref t8)) none) h5 = some (.next,rQ u m (some (.ref p)) (some (.ref q)) (some (.int (ct:Int) 0)) o5 (some (.ref r)) (some (.ref t)) (some (.ref t8)) none,h5):=by
  refine x_next0 (t:=q10t) (v_Tor0 (v_Tcmp (d:=85) (o:=.Is) (u:=.ref t8) (w:=.non) (v8 84 none h5) y_c rfl) (v_Tor0 (v_Tcmp (d:=84) (u:=.ref r8) (w:=.ref q) (v_tix (v8 82 none h5) ht8 rfl) (v_var (by rfl)) ?_) (v_Tcmp (d:=84) (v_tix (j:=1) (u:=.int (w:Int) 0) (v8 82 none h5) ht8 rfl) (v_var (i:=4) (u:=.int (ct:Int) 0) (by rfl)) ?_)))
  ·show (eqA (tb s) (.ref r8) (.ref q) h5).map (!·) = _
   rw [eq_dec hr8 hq5 g.m g.m,decide_eq_true rfl]
   rfl
  ·rw [e_gti,decide_eq_false (by omega)]
 obtain ⟨h6,k6,e11⟩:=c_words (s:=s) (h:=h4) 60 (n:=n + 5) (h':=h5) l60 (by omega) pt ht k5
 have x11:ex (tb s) (callF (tb s) (n + 66)) 88 (.set 9 (.call 1 [(.var 7)])) (rQ u m (some (.ref p)) (some (.ref q)) (some (.int (ct:Int) 0)) o5 (some (.ref r)) (some (.ref t)) (some (.ref t8)) none) h5 = some (.next,rQ u m (some (.ref p)) (some (.ref q)) (some (.int (ct:Int) 0)) o5 (some (.ref r)) (some (.ref t)) (some (.ref t8)) (some (.int (w:Int) 0)),h6):=x_set (v_call (by rfl) e11)
 have hr6:Row h6 r ms:=hr.keep (k4.trans (k5.trans k6))
 obtain ⟨T,b,h7,_,_,k7,tb7,f7,e12⟩:=c_fewest (s:=s) (n:=n + 62) hr6 g
 have x12:ex (tb s) (callF (tb s) (n + 66)) 87 q12 (rQ u m (some (.ref p)) (some (.ref q)) (some (.int (ct:Int) 0)) o5 (some (.ref r)) (some (.ref t)) (some (.ref t8)) (some (.int (w:Int) 0))) h6 = some (.next,rQ u m (some (.ref p)) (some (.ref q)) (some (.int (ct:Int) 0)) o5 (some (.ref r)) (some (.ref t)) (some (.ref t8)) (some (.int (w:Int) 0)),h7):=by
  have ef:ev (tb s) (callF (tb s) (n + 66)) 82 q12f (rQ u m (some (.ref p)) (some (.ref q)) (some (.int (ct:Int) 0)) o5 (some (.ref r)) (some (.ref t)) (some (.ref t8)) (some (.int (w:Int) 0))) h6 = some (.int (fw ms 0 ms.length) 0,h7):=by
   have g0:((List.range ms.length).map fun i => U.ref (b + i))[0]? = some (.ref (b + 0)):=by rw [List.getElem?_map,List.getElem?_range (by omega)]; rfl
   refine v_atU (d:=81) (us:=rowv ms 0 (ms.length - 0)) (j:=-1) (v_atU (d:=80) (v_call (d:=78) (by rfl) e12) (y_c (u:=.int 0 0)) tb7 (at_nat g0)) ?_ (f7 0 (by omega)) ?_
   ·rw [y_neg,y_c,y_bd]
   ·have rl:(rowv ms 0 (ms.length - 0)).length = ms.length:=by rw [rowv_len]; omega
    unfold atU ixU
    rw [if_neg (by decide),rl,if_pos (by omega)]
    show (rowv ms 0 (ms.length - 0))[((-1:Int) + (ms.length:Int)).toNat]? = _
    rw [show ((-1:Int) + (ms.length:Int)).toNat = ms.length - 1 by omega]
    exact rowv_get l1 (by omega)
  refine x_next0 (t:=q12t) (v_Tor0 (v_Tnot (c:=true) (v_Tcall (v_call (by rfl) c_whole))) (v_Tor0 (v_Tcmp (d:=82) (u:=.int (w:Int) 0) (w:=.int (w:Int) 0) (v_var (by rfl)) (v_tix (v8 80 _ h6) (k6 _ _ ht8) rfl) ?_) (v_Tcmp (d:=82) ef (v_var (i:=9) (u:=.int (w:Int) 0) (by rfl)) ?_)))
  ·rw [e_nei,decide_eq_true rfl]; rfl
  ·rw [e_nei,decide_eq_true ew.symm]; rfl
 have hr7:=hr6.keep k7
 obtain ⟨is,hi,pi⟩:=id hr7
 have il:=prLen pi
 have s1:=v_slc (TT:=tb s) (cf:=callF (tb s) (n + 66)) (d:=82) (a:=.var 6) (lo:=some (.c (.int 1 0))) (hi:=none) (l:=some ((1:Nat):Int)) (r:=none) (ρ:=rQ u m (some (.ref p)) (some (.ref q)) (some (.int (ct:Int) 0)) o5 (some (.ref r)) (some (.ref t)) (some (.ref t8)) (some (.int (w:Int) 0))) (h:=h7) (v_var (by rfl)) (evO_int y_c) (by simp only [evO]) hi
 rw [cut_from (by omega)] at s1
 have s2:=v_slc (TT:=tb s) (cf:=callF (tb s) (n + 66)) (d:=82) (a:=.var 6) (lo:=none) (hi:=some (.c (.int 1 0))) (l:=none) (r:=some ((1:Nat):Int)) (ρ:=rQ u m (some (.ref p)) (some (.ref q)) (some (.int (ct:Int) 0)) o5 (some (.ref r)) (some (.ref t)) (some (.ref t8)) (some (.int (w:Int) 0))) (h:=h7 ++ [.lst (is.drop 1)]) (v_var (by rfl)) (by simp only [evO]) (evO_int y_c) (keepR hi)
 rw [cut_to (by omega)] at s2
 have s3:=v_cat (TT:=tb s) (cf:=callF (tb s) (n + 66)) (d:=83) s1 s2 (keepR at0) at0 (by simp; omega)
 have k8:Kp h7 (h7 ++ [.lst (is.drop 1)] ++ [.lst (is.take 1)] ++ [.lst (is.drop 1 ++ is.take 1)]):=(Kp.app _ _).trans ((Kp.app _ _).trans (Kp.app _ _))
 have hr8':Row (h7 ++ [.lst (is.drop 1)] ++ [.lst (is.take 1)] ++ [.lst (is.drop 1 ++ is.take 1)]) (h7 ++ [O.lst (is.drop 1)] ++ [O.lst (is.take 1)]).length (ms.drop 1 ++ ms.take 1):=⟨_,at0,prImp (prApp (pr_drop pi 1) (pr_take pi 1)) fun _ _ => IsM.keep k8⟩
 have lr:(ms.drop 1 ++ ms.take 1).length = ms.length:=by rw [List.length_append,List.length_drop,List.length_take]; omega
 generalize h7 ++ [O.lst (is.drop 1)] ++ [O.lst (is.take 1)] ++ [O.lst (is.drop 1 ++ is.take 1)] = h8 at s3 k8 hr8'
 generalize (h7 ++ [O.lst (is.drop 1)] ++ [O.lst (is.take 1)]).length = r9 at s3 hr8'
 obtain ⟨v13,h9,⟨_,_,_,_,k9,_⟩,e13⟩:=sh hr8' ⟨by omega,fun m hm => (List.mem_append.mp hm).elim (fun a => g.m m (List.mem_of_mem_drop a)) fun a => g.m m (List.mem_of_mem_take a)⟩ (by omega) (by omega)
 have x13:ex (tb s) (callF (tb s) (n + 66)) 86 (.expr (.call 3 [q13e])) (rQ u m (some (.ref p)) (some (.ref q)) (some (.int (ct:Int) 0)) o5 (some (.ref r)) (some (.ref t)) (some (.ref t8)) (some (.int (w:Int) 0))) h7 = some (.next,rQ u m (some (.ref p)) (some (.ref q)) (some (.int (ct:Int) 0)) o5 (some (.ref r)) (some (.ref t)) (some (.ref t8)) (some (.int (w:Int) 0)),h9):=by
  have e85:ev (tb s) (callF (tb s) (n + 66)) 85 (.call 3 [q13e]) (rQ u m (some (.ref p)) (some (.ref q)) (some (.int (ct:Int) 0)) o5 (some (.ref r)) (some (.ref t)) (some (.ref t8)) (some (.int (w:Int) 0))) h7 = some (v13,h9):=v_c1 (d:=84) s3 e13
  rw [y_expr,e85,y_bd]
 have kA:=k8.trans k9
 obtain ⟨v14,hA,⟨tA,wA,tsA,rfl,kB,htA,ptA,ewA⟩,e14⟩:=sh (hr7.keep kA) g l1 l60
 rw [List.drop_zero,List.take_length] at ptA
 have wE:wA = w:=by omega
 subst wE
 obtain ⟨hB,kC,e15⟩:=c_words (s:=s) (h:=hA) 60 (n:=n + 5) (h':=hA) l60 (by omega) ptA htA (Kp.refl _)
 have eA:ev (tb s) (callF (tb s) (n + 66)) 83 qA (rQ u m (some (.ref p)) (some (.ref q)) (some (.int (ct:Int) 0)) o5 (some (.ref r)) (some (.ref t)) (some (.ref t8)) (some (.int (wA:Int) 0))) h9 = some (.bl true,hB) :=
  v_cmp (d:=82) (v_c1 (d:=81) (v_call (d:=79) (by rfl) e14) e15) (v_var (i:=9) (by rfl)) (by rw [e_eqi,decide_eq_true rfl])
 obtain ⟨is2,hi2,pi2⟩:=((hr7.keep kA).keep kB).keep kC
 have il2:=prLen pi2
 obtain ⟨ws2,hC,al2,kD,e16⟩:=c_seq (T:=tb s) (cf:=callF (tb s) (n + 66)) (d:=81) (a:=.var 6) (el:=.meth 4 (.var 10) []) (ρ:=rQ u m (some (.ref p)) (some (.ref q)) (some (.int (ct:Int) 0)) o5 (some (.ref r)) (some (.ref t)) (some (.ref t8)) (some (.int (wA:Int) 0))) (P:=IsM hB) (Q:=fun m v h => v = U.str m) (fun _ _ _ _ _ i => i) (hs:=hB) (v_var (by rfl)) hi2 (by omega) (fun v mm ⟨p',o,e,hp',k⟩ h kp => by
  subst e
  obtain ⟨f,e1,e2⟩:=c_mrk (s:=s) (n:=n + 65) (kp _ _ hp') k
  refine ⟨_,h,rfl,Kp.refl _,?_⟩
  have e3:ev (tb s) (callF (tb s) (n + 66)) 80 (.var 10) (rQ u m (some (.ref p)) (some (.ref q)) (some (.int (ct:Int) 0)) o5 (some (.ref r)) (some (.ref t)) (some (.ref t8)) (some (.int (wA:Int) 0)) ++ [some (.ref p')]) h = some (.ref p',h):=v_var (by rfl)
  rw [y_meth,e3,y_bd,e1]
  simp only [evs,y_bd,e2]) pi2
 cases paired_map al2
 have hqC:(hC ++ [O.lst (stz ms)])[q]? = some (.lst (stz ms)):=keepR (kD _ _ (kC _ _ (kB _ _ (kA _ _ (k7 _ _ (k6 _ _ hq5))))))
 have eqB1:cmpU (tb s) .Eq (.ref hC.length) (.ref q) (hC ++ [O.lst (stz ms)]) = some true:=by
  have:=eq_dec (T:=tb s) (at0 (hs:=hC) (a:=O.lst (stz ms)) (r:=[])) hqC g.m g.m
  rw [decide_eq_true rfl] at this
  exact this
 have eB:ev (tb s) (callF (tb s) (n + 66)) 83 qB (rQ u m (some (.ref p)) (some (.ref q)) (some (.int (ct:Int) 0)) o5 (some (.ref r)) (some (.ref t)) (some (.ref t8)) (some (.int (wA:Int) 0))) hB = some (.bl true,hC ++ [O.lst (stz ms)]):=v_cmp (d:=82) e16 (v_var (by rfl)) eqB1
 refine ⟨hC ++ [O.lst (stz ms)],?_⟩
 rw [y_callF fnL[38] rfl rfl]
 show fin (exs (tb s) (callF (tb s) (n + 66)) 100 b38 [some u,none,none,none,none,none,none,none,none,none] hs) = _
 rw [bas_is,x_next x0,x_next x1,x_next x2,x_next x3,x_next x4,x_next x5,x_next x6,x_next x7,x_next x8,x_next x9,x_next x10,x_next x11,x_next x12,x_next x13]
 exact x_ret (v_andT eA eB)
end
theorem pr_int:∀ ns:List Int,Paired (fun (u:U) (i:Int) => ∃ r m,u = .int r m /\ ∃ q:Int,i = r + m * q) (iz ns) ns
 | [] => .nil
 | i :: r => .cons ⟨i,0,rfl,0,by simp⟩ (pr_int r)
theorem comp (ns:List Int) (hl:ns.length <= 63):∃ s hs',Paired (fun (u:U) (i:Int) => ∃ r m,u = .int r m /\ ∃ q:Int,i = r + m * q) s ns /\ callF (tb s) 68 40 [.scr] [] = some (.bl true,hs'):=by
 obtain ⟨u,ns',h1,c,e1⟩:=c_wide (s:=iz ns) (n:=66) rfl hl
 obtain ⟨h2,e2⟩:=c_asked (n:=0) c
 refine ⟨iz ns,h2,pr_int ns,?_⟩
 rw [y_callF fnL[40] rfl rfl]
 show fin (exs (tb (iz ns)) (callF (tb (iz ns)) 67) 100 b40 [some .scr] []) = _
 exact x_ret (d:=98) (v_c1 (v_call (by rfl) e1) e2)
theorem sc0:FnScope N0 ["number"] (defScope st0):=⟨rfl,rfl,rfl,by decide +kernel,rfl,by decide +kernel,by decide +kernel⟩
theorem sc1:FnScope N1 ["parts"] (defScope st1):=⟨rfl,rfl,rfl,by decide +kernel,rfl,by decide +kernel,by decide +kernel⟩
theorem sc2:FnScope N2 ["stitches"] (defScope st2):=⟨rfl,rfl,rfl,by decide +kernel,rfl,by decide +kernel,by decide +kernel⟩
theorem sc3:FnScope N3 ["stitches"] (defScope st3):=⟨rfl,rfl,rfl,by decide +kernel,rfl,by decide +kernel,by decide +kernel⟩
theorem sc4:FnScope N4 ["marks","table","start","length"] (defScope st4):=⟨rfl,rfl,rfl,by decide +kernel,rfl,by decide +kernel,by decide +kernel⟩
theorem sc5:FnScope N5 ["table","start","length","first"] (defScope st5):=⟨rfl,rfl,rfl,by decide +kernel,rfl,by decide +kernel,by decide +kernel⟩
theorem sc6:FnScope N6 ["marks","start","length"] (defScope st6):=⟨rfl,rfl,rfl,by decide +kernel,rfl,by decide +kernel,by decide +kernel⟩
theorem sc7:FnScope N7 ["marks","start","length","once"] (defScope st7):=⟨rfl,rfl,rfl,by decide +kernel,rfl,by decide +kernel,by decide +kernel⟩
theorem sc8:FnScope N8 ["stitches","marks","table","start","length"] (defScope st8):=⟨rfl,rfl,rfl,by decide +kernel,rfl,by decide +kernel,by decide +kernel⟩
theorem sc9:FnScope N9 ["self","side"] (defScope st9):=⟨rfl,rfl,rfl,by decide +kernel,rfl,by decide +kernel,by decide +kernel⟩
theorem sc10:FnScope N10 ["self"] (defScope st10):=⟨rfl,rfl,rfl,by decide +kernel,rfl,by decide +kernel,by decide +kernel⟩
theorem sc11:FnScope N11 ["self"] (defScope st11):=⟨rfl,rfl,rfl,by decide +kernel,rfl,by decide +kernel,by decide +kernel⟩
theorem sc12:FnScope N12 ["self"] (defScope st12):=⟨rfl,rfl,rfl,by decide +kernel,rfl,by decide +kernel,by decide +kernel⟩
theorem sc13:FnScope N13 ["self","many","way","side"] (defScope st13):=⟨rfl,rfl,rfl,by decide +kernel,rfl,by decide +kernel,by decide +kernel⟩
theorem sc14:FnScope N14 ["self"] (defScope st14):=⟨rfl,rfl,rfl,by decide +kernel,rfl,by decide +kernel,by decide +kernel⟩
theorem sc15:FnScope N15 ["self","many","side"] (defScope st15):=⟨rfl,rfl,rfl,by decide +kernel,rfl,by decide +kernel,by decide +kernel⟩
theorem sc16:FnScope N16 ["self"] (defScope st16):=⟨rfl,rfl,rfl,by decide +kernel,rfl,by decide +kernel,by decide +kernel⟩
theorem sc17:FnScope N17 ["self","first","second","way","side"] (defScope st17):=⟨rfl,rfl,rfl,by decide +kernel,rfl,by decide +kernel,by decide +kernel⟩
theorem sc18:FnScope N18 ["self"] (defScope st18):=⟨rfl,rfl,rfl,by decide +kernel,rfl,by decide +kernel,by decide +kernel⟩
theorem sc19:FnScope N19 ["self"] (defScope st19):=⟨rfl,rfl,rfl,by decide +kernel,rfl,by decide +kernel,by decide +kernel⟩
theorem sc20:FnScope N20 ["self","keeper"] (defScope st20):=⟨rfl,rfl,rfl,by decide +kernel,rfl,by decide +kernel,by decide +kernel⟩
theorem sc21:FnScope N21 ["self"] (defScope st21):=⟨rfl,rfl,rfl,by decide +kernel,rfl,by decide +kernel,by decide +kernel⟩
theorem sc22:FnScope N22 ["self","keeper"] (defScope st22):=⟨rfl,rfl,rfl,by decide +kernel,rfl,by decide +kernel,by decide +kernel⟩
theorem sc23:FnScope N23 ["self"] (defScope st23):=⟨rfl,rfl,rfl,by decide +kernel,rfl,by decide +kernel,by decide +kernel⟩
theorem sc24:FnScope N24 ["mark"] (defScope st24):=⟨rfl,rfl,rfl,by decide +kernel,rfl,by decide +kernel,by decide +kernel⟩
theorem sc25:FnScope N25 ["text"] (defScope st25):=⟨rfl,rfl,rfl,by decide +kernel,rfl,by decide +kernel,by decide +kernel⟩
theorem sc26:FnScope N26 ["sign"] (defScope st26):=⟨rfl,rfl,rfl,by decide +kernel,rfl,by decide +kernel,by decide +kernel⟩
theorem sc27:FnScope N27 ["sign","keeper"] (defScope st27):=⟨rfl,rfl,rfl,by decide +kernel,rfl,by decide +kernel,by decide +kernel⟩
theorem sc28:FnScope N28 ["sign","middle","last"] (defScope st28):=⟨rfl,rfl,rfl,by decide +kernel,rfl,by decide +kernel,by decide +kernel⟩
theorem sc29:FnScope N29 ["sign","first","way","second"] (defScope st29):=⟨rfl,rfl,rfl,by decide +kernel,rfl,by decide +kernel,by decide +kernel⟩
theorem sc30:FnScope N30 ["_law_script","_law_k"] (defScope st30):=⟨rfl,rfl,rfl,by decide +kernel,rfl,by decide +kernel,by decide +kernel⟩
theorem sc31:FnScope N31 ["_law_found"] (defScope st31):=⟨rfl,rfl,rfl,by decide +kernel,rfl,by decide +kernel,by decide +kernel⟩
theorem sc32:FnScope N32 ["_law_number"] (defScope st32):=⟨rfl,rfl,rfl,by decide +kernel,rfl,by decide +kernel,by decide +kernel⟩
theorem sc33:FnScope N33 ["_law_cell"] (defScope st33):=⟨rfl,rfl,rfl,by decide +kernel,rfl,by decide +kernel,by decide +kernel⟩
theorem sc34:FnScope N34 ["_law_script"] (defScope st34):=⟨rfl,rfl,rfl,by decide +kernel,rfl,by decide +kernel,by decide +kernel⟩
theorem sc35:FnScope N35 ["_law_script","_law_most"] (defScope st35):=⟨rfl,rfl,rfl,by decide +kernel,rfl,by decide +kernel,by decide +kernel⟩
theorem sc36:FnScope N36 ["_law_part"] (defScope st36):=⟨rfl,rfl,rfl,by decide +kernel,rfl,by decide +kernel,by decide +kernel⟩
theorem sc37:FnScope N37 ["_law_parts_here","_law_most"] (defScope st37):=⟨rfl,rfl,rfl,by decide +kernel,rfl,by decide +kernel,by decide +kernel⟩
theorem sc38:FnScope N38 ["_law_script"] (defScope st38):=⟨rfl,rfl,rfl,by decide +kernel,rfl,by decide +kernel,by decide +kernel⟩
theorem sc39:FnScope N39 ["_law_script"] (defScope st39):=⟨rfl,rfl,rfl,by decide +kernel,rfl,by decide +kernel,by decide +kernel⟩
theorem sc40:FnScope N40 ["_law_script"] (defScope st40):=⟨rfl,rfl,rfl,by decide +kernel,rfl,by decide +kernel,by decide +kernel⟩
theorem bo0 (s:List U):compSs 100 ⟨tb s,N0,(defScope st0).names,glo,bltN,false⟩ (defBody st0) = some b0:=by kernel_rfl
theorem bo1 (s:List U):compSs 100 ⟨tb s,N1,(defScope st1).names,glo,bltN,false⟩ (defBody st1) = some b1:=by kernel_rfl
theorem bo2 (s:List U):compSs 100 ⟨tb s,N2,(defScope st2).names,glo,bltN,false⟩ (defBody st2) = some b2:=by kernel_rfl
theorem bo3 (s:List U):compSs 100 ⟨tb s,N3,(defScope st3).names,glo,bltN,false⟩ (defBody st3) = some b3:=by kernel_rfl
theorem bo4 (s:List U):compSs 100 ⟨tb s,N4,(defScope st4).names,glo,bltN,false⟩ (defBody st4) = some b4:=by kernel_rfl
theorem bo5 (s:List U):compSs 100 ⟨tb s,N5,(defScope st5).names,glo,bltN,false⟩ (defBody st5) = some b5:=by kernel_rfl
theorem bo6 (s:List U):compSs 100 ⟨tb s,N6,(defScope st6).names,glo,bltN,false⟩ (defBody st6) = some b6:=by kernel_rfl
theorem bo7 (s:List U):compSs 100 ⟨tb s,N7,(defScope st7).names,glo,bltN,false⟩ (defBody st7) = some b7:=by kernel_rfl
theorem bo8 (s:List U):compSs 100 ⟨tb s,N8,(defScope st8).names,glo,bltN,false⟩ (defBody st8) = some b8:=by kernel_rfl
theorem bo9 (s:List U):compSs 100 ⟨tb s,N9,(defScope st9).names,glo,bltN,false⟩ (defBody st9) = some b9:=by kernel_rfl
theorem bo10 (s:List U):compSs 100 ⟨tb s,N10,(defScope st10).names,glo,bltN,false⟩ (defBody st10) = some b10:=by kernel_rfl
theorem bo11 (s:List U):compSs 100 ⟨tb s,N11,(defScope st11).names,glo,bltN,false⟩ (defBody st11) = some b11:=by kernel_rfl
theorem bo12 (s:List U):compSs 100 ⟨tb s,N12,(defScope st12).names,glo,bltN,false⟩ (defBody st12) = some b12:=by kernel_rfl
theorem bo13 (s:List U):compSs 100 ⟨tb s,N13,(defScope st13).names,glo,bltN,false⟩ (defBody st13) = some b13:=by kernel_rfl
theorem bo14 (s:List U):compSs 100 ⟨tb s,N14,(defScope st14).names,glo,bltN,false⟩ (defBody st14) = some b14:=by kernel_rfl
theorem bo15 (s:List U):compSs 100 ⟨tb s,N15,(defScope st15).names,glo,bltN,false⟩ (defBody st15) = some b15:=by kernel_rfl
theorem bo16 (s:List U):compSs 100 ⟨tb s,N16,(defScope st16).names,glo,bltN,false⟩ (defBody st16) = some b16:=by kernel_rfl
theorem bo17 (s:List U):compSs 100 ⟨tb s,N17,(defScope st17).names,glo,bltN,false⟩ (defBody st17) = some b17:=by kernel_rfl
theorem bo18 (s:List U):compSs 100 ⟨tb s,N18,(defScope st18).names,glo,bltN,false⟩ (defBody st18) = some b18:=by kernel_rfl
theorem bo19 (s:List U):compSs 100 ⟨tb s,N19,(defScope st19).names,glo,bltN,false⟩ (defBody st19) = some b19:=by kernel_rfl
theorem bo20 (s:List U):compSs 100 ⟨tb s,N20,(defScope st20).names,glo,bltN,false⟩ (defBody st20) = some b20:=by kernel_rfl
theorem bo21 (s:List U):compSs 100 ⟨tb s,N21,(defScope st21).names,glo,bltN,false⟩ (defBody st21) = some b21:=by kernel_rfl
theorem bo22 (s:List U):compSs 100 ⟨tb s,N22,(defScope st22).names,glo,bltN,false⟩ (defBody st22) = some b22:=by kernel_rfl
theorem bo23 (s:List U):compSs 100 ⟨tb s,N23,(defScope st23).names,glo,bltN,false⟩ (defBody st23) = some b23:=by kernel_rfl
theorem bo24 (s:List U):compSs 100 ⟨tb s,N24,(defScope st24).names,glo,bltN,false⟩ (defBody st24) = some b24:=by kernel_rfl
theorem bo25 (s:List U):compSs 100 ⟨tb s,N25,(defScope st25).names,glo,bltN,false⟩ (defBody st25) = some b25:=by kernel_rfl
theorem bo26 (s:List U):compSs 100 ⟨tb s,N26,(defScope st26).names,glo,bltN,false⟩ (defBody st26) = some b26:=by kernel_rfl
theorem bo27 (s:List U):compSs 100 ⟨tb s,N27,(defScope st27).names,glo,bltN,false⟩ (defBody st27) = some b27:=by kernel_rfl
theorem bo28 (s:List U):compSs 100 ⟨tb s,N28,(defScope st28).names,glo,bltN,false⟩ (defBody st28) = some b28:=by kernel_rfl
theorem bo29 (s:List U):compSs 100 ⟨tb s,N29,(defScope st29).names,glo,bltN,false⟩ (defBody st29) = some b29:=by kernel_rfl
theorem bo30 (s:List U):compSs 100 ⟨tb s,N30,(defScope st30).names,glo,bltN,false⟩ (defBody st30) = some b30:=by kernel_rfl
theorem bo31 (s:List U):compSs 100 ⟨tb s,N31,(defScope st31).names,glo,bltN,false⟩ (defBody st31) = some b31:=by kernel_rfl
theorem bo32 (s:List U):compSs 100 ⟨tb s,N32,(defScope st32).names,glo,bltN,false⟩ (defBody st32) = some b32:=by kernel_rfl
theorem bo33 (s:List U):compSs 100 ⟨tb s,N33,(defScope st33).names,glo,bltN,false⟩ (defBody st33) = some b33:=by kernel_rfl
theorem bo34 (s:List U):compSs 100 ⟨tb s,N34,(defScope st34).names,glo,bltN,false⟩ (defBody st34) = some b34:=by kernel_rfl
theorem bo35 (s:List U):compSs 100 ⟨tb s,N35,(defScope st35).names,glo,bltN,false⟩ (defBody st35) = some b35:=by kernel_rfl
theorem bo36 (s:List U):compSs 100 ⟨tb s,N36,(defScope st36).names,glo,bltN,false⟩ (defBody st36) = some b36:=by kernel_rfl
theorem bo37 (s:List U):compSs 100 ⟨tb s,N37,(defScope st37).names,glo,bltN,false⟩ (defBody st37) = some b37:=by kernel_rfl
theorem bo38 (s:List U):compSs 100 ⟨tb s,N38,(defScope st38).names,glo,bltN,false⟩ (defBody st38) = some b38:=by kernel_rfl
theorem bo39 (s:List U):compSs 100 ⟨tb s,N39,(defScope st39).names,glo,bltN,false⟩ (defBody st39) = some b39:=by kernel_rfl
theorem bo40 (s:List U):compSs 100 ⟨tb s,N40,(defScope st40).names,glo,bltN,true⟩ (defBody st40) = some b40:=by kernel_rfl
theorem bodies (s:List U):Bodies (tb s) glo bltN:=bodies_mk (.cons (bo0 s) (.cons (bo1 s) (.cons (bo2 s) (.cons (bo3 s) (.cons (bo4 s) (.cons (bo5 s) (.cons (bo6 s) (.cons (bo7 s) (.cons (bo8 s) (.cons (bo9 s) (.cons (bo10 s) (.cons (bo11 s) (.cons (bo12 s) (.cons (bo13 s) (.cons (bo14 s) (.cons (bo15 s) (.cons (bo16 s) (.cons (bo17 s) (.cons (bo18 s) (.cons (bo19 s) (.cons (bo20 s) (.cons (bo21 s) (.cons (bo22 s) (.cons (bo23 s) (.cons (bo24 s) (.cons (bo25 s) (.cons (bo26 s) (.cons (bo27 s) (.cons (bo28 s) (.cons (bo29 s) (.cons (bo30 s) (.cons (bo31 s) (.cons (bo32 s) (.cons (bo33 s) (.cons (bo34 s) (.cons (bo35 s) (.cons (bo36 s) (.cons (bo37 s) (.cons (bo38 s) (.cons (bo39 s) (.cons (bo40 s) .nil)))))))))))))))))))))))))))))))))))))))))
theorem all_mk {l:W.OpenLaw} {w:World} {K:W.Frag} {h:Heap} {mg:Str -> Option Value} {f0 f1 f2 f3 f4 f5 f6 f7 f8 f9 f10 f11 f12 f13 f14 f15 f16 f17 f18 f19 f20 f21 f22 f23 f24 f25 f26 f27 f28 f29 f30 f31 f32 f33 f34 f35 f36 f37 f38 f39 f40 c0 c1 c2 c3 c4 c5 c6 c7 c8 c9 fa:Addr} (X:K.In h) (G:h.Ns mainGlobals mg) (hfa:mg "law" = some (.ref fa))
  {od0 an0:Option Addr} {sl0:Array (Option Value)} {oc0 kV0 dc0 pm0 cd0 ct0:Value}
  {od1 an1:Option Addr} {sl1:Array (Option Value)} {oc1 kV1 dc1 pm1 cd1 ct1:Value}
  {od2 an2:Option Addr} {sl2:Array (Option Value)} {oc2 kV2 dc2 pm2 cd2 ct2:Value}
  {od3 an3:Option Addr} {sl3:Array (Option Value)} {oc3 kV3 dc3 pm3 cd3 ct3:Value}
  {od4 an4:Option Addr} {sl4:Array (Option Value)} {oc4 kV4 dc4 pm4 cd4 ct4:Value}
  {od5 an5:Option Addr} {sl5:Array (Option Value)} {oc5 kV5 dc5 pm5 cd5 ct5:Value}
  {od6 an6:Option Addr} {sl6:Array (Option Value)} {oc6 kV6 dc6 pm6 cd6 ct6:Value}
  {od7 an7:Option Addr} {sl7:Array (Option Value)} {oc7 kV7 dc7 pm7 cd7 ct7:Value}
  {od8 an8:Option Addr} {sl8:Array (Option Value)} {oc8 kV8 dc8 pm8 cd8 ct8:Value}
  {od9 an9:Option Addr} {sl9:Array (Option Value)} {oc9 kV9 dc9 pm9 cd9 ct9:Value}
  {od10 an10:Option Addr} {sl10:Array (Option Value)} {oc10 kV10 dc10 pm10 cd10 ct10:Value}
  {od11 an11:Option Addr} {sl11:Array (Option Value)} {oc11 kV11 dc11 pm11 cd11 ct11:Value}
  {od12 an12:Option Addr} {sl12:Array (Option Value)} {oc12 kV12 dc12 pm12 cd12 ct12:Value}
  {od13 an13:Option Addr} {sl13:Array (Option Value)} {oc13 kV13 dc13 pm13 cd13 ct13:Value}
  {od14 an14:Option Addr} {sl14:Array (Option Value)} {oc14 kV14 dc14 pm14 cd14 ct14:Value}
  {od15 an15:Option Addr} {sl15:Array (Option Value)} {oc15 kV15 dc15 pm15 cd15 ct15:Value}
  {od16 an16:Option Addr} {sl16:Array (Option Value)} {oc16 kV16 dc16 pm16 cd16 ct16:Value}
  {od17 an17:Option Addr} {sl17:Array (Option Value)} {oc17 kV17 dc17 pm17 cd17 ct17:Value}
  {od18 an18:Option Addr} {sl18:Array (Option Value)} {oc18 kV18 dc18 pm18 cd18 ct18:Value}
  {od19 an19:Option Addr} {sl19:Array (Option Value)} {oc19 kV19 dc19 pm19 cd19 ct19:Value}
  {od20 an20:Option Addr} {sl20:Array (Option Value)} {oc20 kV20 dc20 pm20 cd20 ct20:Value}
  {od21 an21:Option Addr} {sl21:Array (Option Value)} {oc21 kV21 dc21 pm21 cd21 ct21:Value}
  {od22 an22:Option Addr} {sl22:Array (Option Value)} {oc22 kV22 dc22 pm22 cd22 ct22:Value}
  {od23 an23:Option Addr} {sl23:Array (Option Value)} {oc23 kV23 dc23 pm23 cd23 ct23:Value}
  {od24 an24:Option Addr} {sl24:Array (Option Value)} {oc24 kV24 dc24 pm24 cd24 ct24:Value}
  {od25 an25:Option Addr} {sl25:Array (Option Value)} {oc25 kV25 dc25 pm25 cd25 ct25:Value}
  {od26 an26:Option Addr} {sl26:Array (Option Value)} {oc26 kV26 dc26 pm26 cd26 ct26:Value}
  {od27 an27:Option Addr} {sl27:Array (Option Value)} {oc27 kV27 dc27 pm27 cd27 ct27:Value}
  {od28 an28:Option Addr} {sl28:Array (Option Value)} {oc28 kV28 dc28 pm28 cd28 ct28:Value}
  {od29 an29:Option Addr} {sl29:Array (Option Value)} {oc29 kV29 dc29 pm29 cd29 ct29:Value}
  {od30 an30:Option Addr} {sl30:Array (Option Value)} {oc30 kV30 dc30 pm30 cd30 ct30:Value}
  {od31 an31:Option Addr} {sl31:Array (Option Value)} {oc31 kV31 dc31 pm31 cd31 ct31:Value}
  {od32 an32:Option Addr} {sl32:Array (Option Value)} {oc32 kV32 dc32 pm32 cd32 ct32:Value}
  {od33 an33:Option Addr} {sl33:Array (Option Value)} {oc33 kV33 dc33 pm33 cd33 ct33:Value}
  {od34 an34:Option Addr} {sl34:Array (Option Value)} {oc34 kV34 dc34 pm34 cd34 ct34:Value}
  {od35 an35:Option Addr} {sl35:Array (Option Value)} {oc35 kV35 dc35 pm35 cd35 ct35:Value}
  {od36 an36:Option Addr} {sl36:Array (Option Value)} {oc36 kV36 dc36 pm36 cd36 ct36:Value}
  {od37 an37:Option Addr} {sl37:Array (Option Value)} {oc37 kV37 dc37 pm37 cd37 ct37:Value}
  {od38 an38:Option Addr} {sl38:Array (Option Value)} {oc38 kV38 dc38 pm38 cd38 ct38:Value}
  {od39 an39:Option Addr} {sl39:Array (Option Value)} {oc39 kV39 dc39 pm39 cd39 ct39:Value}
  {od40 an40:Option Addr} {sl40:Array (Option Value)} {oc40 kV40 dc40 pm40 cd40 ct40:Value}
  {kk0 kk1 kk2 kk3 kk4 kk5 kk6 kk7 kk8:Addr}
  {y0_0 y0_1 y0_2 y0_3:Tok} {p0:Nat}
  {h1_0 h1_1:Int} {z1_0 y1_0 z1_1 y1_1:Tok} {p1:Nat}
  {h2_0 h2_1:Int} {z2_0 y2_0 z2_1 y2_1:Tok} {p2:Nat}
  {h3_0 h3_1:Int} {z3_0 y3_0 z3_1 y3_1:Tok} {p3:Nat}
  {h4_0 h4_1:Int} {z4_0 y4_0 z4_1 y4_1:Tok} {p4:Nat}
  {y5_0 y5_1:Tok} {p5:Nat}
  {y6_0 y6_1:Tok} {p6:Nat}
  {h7_0 h7_1 h7_2:Int} {z7_0 y7_0 z7_1 y7_1 z7_2 y7_2:Tok} {p7:Nat}
  {h8_0 h8_1 h8_2 h8_3:Int} {z8_0 y8_0 z8_1 y8_1 z8_2 y8_2 z8_3 y8_3:Tok} {p8:Nat}
  (n0:W.nsIn K mainGlobals "Stitch" = some (some (.ref c0)))
  (n1:W.nsIn K mainGlobals "Plain" = some (some (.ref c1)))
  (n2:W.nsIn K mainGlobals "Slip" = some (some (.ref c2)))
  (n3:W.nsIn K mainGlobals "Over" = some (some (.ref c3)))
  (n4:W.nsIn K mainGlobals "Lean" = some (some (.ref c4)))
  (n5:W.nsIn K mainGlobals "Grow" = some (some (.ref c5)))
  (n6:W.nsIn K mainGlobals "Cross" = some (some (.ref c6)))
  (n7:W.nsIn K mainGlobals "Off" = some (some (.ref c7)))
  (n8:W.nsIn K mainGlobals "Keep" = some (some (.ref c8)))
  (n9:W.nsIn K mainGlobals "Fetch" = some (some (.ref c9)))
  (a0:W.nsIn K mainGlobals "plain_sum" = some (some (.ref f0)))
  (l0:K.lookup f0 = some ⟨oc0,od0,.func (W.fnOf "plain_sum" "plain_sum" (defArgs st0) (defBody st0) (defScope st0) .none kV0 dc0 pm0 an0 cd0 ct0),sl0⟩)
  (e0:W.codeIn K cd0 "plain_sum" = true)
  (k0:W.keepIn K (.ref f0) = true)
  (a1:W.nsIn K mainGlobals "words" = some (some (.ref f1)))
  (l1:K.lookup f1 = some ⟨oc1,od1,.func (W.fnOf "words" "words" (defArgs st1) (defBody st1) (defScope st1) .none kV1 dc1 pm1 an1 cd1 ct1),sl1⟩)
  (e1:W.codeIn K cd1 "words" = true)
  (k1:W.keepIn K (.ref f1) = true)
  (a2:W.nsIn K mainGlobals "fewest" = some (some (.ref f2)))
  (l2:K.lookup f2 = some ⟨oc2,od2,.func (W.fnOf "fewest" "fewest" (defArgs st2) (defBody st2) (defScope st2) .none kV2 dc2 pm2 an2 cd2 ct2),sl2⟩)
  (e2:W.codeIn K cd2 "fewest" = true)
  (k2:W.keepIn K (.ref f2) = true)
  (a3:W.nsIn K mainGlobals "shortest" = some (some (.ref f3)))
  (l3:K.lookup f3 = some ⟨oc3,od3,.func (W.fnOf "shortest" "shortest" (defArgs st3) (defBody st3) (defScope st3) .none kV3 dc3 pm3 an3 cd3 ct3),sl3⟩)
  (e3:W.codeIn K cd3 "shortest" = true)
  (k3:W.keepIn K (.ref f3) = true)
  (a4:W.nsIn K mainGlobals "fewest_of_stretch" = some (some (.ref f4)))
  (l4:K.lookup f4 = some ⟨oc4,od4,.func (W.fnOf "fewest_of_stretch" "fewest_of_stretch" (defArgs st4) (defBody st4) (defScope st4) .none kV4 dc4 pm4 an4 cd4 ct4),sl4⟩)
  (e4:W.codeIn K cd4 "fewest_of_stretch" = true)
  (k4:W.keepIn K (.ref f4) = true)
  (a5:W.nsIn K mainGlobals "words_of_cut" = some (some (.ref f5)))
  (l5:K.lookup f5 = some ⟨oc5,od5,.func (W.fnOf "words_of_cut" "words_of_cut" (defArgs st5) (defBody st5) (defScope st5) .none kV5 dc5 pm5 an5 cd5 ct5),sl5⟩)
  (e5:W.codeIn K cd5 "words_of_cut" = true)
  (k5:W.keepIn K (.ref f5) = true)
  (a6:W.nsIn K mainGlobals "lengths_once" = some (some (.ref f6)))
  (l6:K.lookup f6 = some ⟨oc6,od6,.func (W.fnOf "lengths_once" "lengths_once" (defArgs st6) (defBody st6) (defScope st6) .none kV6 dc6 pm6 an6 cd6 ct6),sl6⟩)
  (e6:W.codeIn K cd6 "lengths_once" = true)
  (k6:W.keepIn K (.ref f6) = true)
  (a7:W.nsIn K mainGlobals "comes_again" = some (some (.ref f7)))
  (l7:K.lookup f7 = some ⟨oc7,od7,.func (W.fnOf "comes_again" "comes_again" (defArgs st7) (defBody st7) (defScope st7) .none kV7 dc7 pm7 an7 cd7 ct7),sl7⟩)
  (e7:W.codeIn K cd7 "comes_again" = true)
  (k7:W.keepIn K (.ref f7) = true)
  (a8:W.nsIn K mainGlobals "told_stretch" = some (some (.ref f8)))
  (l8:K.lookup f8 = some ⟨oc8,od8,.func (W.fnOf "told_stretch" "told_stretch" (defArgs st8) (defBody st8) (defScope st8) .none kV8 dc8 pm8 an8 cd8 ct8),sl8⟩)
  (e8:W.codeIn K cd8 "told_stretch" = true)
  (k8:W.keepIn K (.ref f8) = true)
  (a9:W.findIn K (.ref c1) "__init__" = some (some (.ref f9)))
  (i9:W.isFn K (.ref f9) = true)
  (l9:K.lookup f9 = some ⟨oc9,od9,.func (W.fnOf "__init__" "Plain.__init__" (defArgs st9) (defBody st9) (defScope st9) .none kV9 dc9 pm9 an9 cd9 ct9),sl9⟩)
  (e9:W.codeIn K cd9 "Plain.__init__" = true)
  (k9:W.keepIn K (.ref f9) = true)
  (a10:W.findIn K (.ref c1) "mark" = some (some (.ref f10)))
  (i10:W.isFn K (.ref f10) = true)
  (l10:K.lookup f10 = some ⟨oc10,od10,.func (W.fnOf "mark" "Plain.mark" (defArgs st10) (defBody st10) (defScope st10) .none kV10 dc10 pm10 an10 cd10 ct10),sl10⟩)
  (e10:W.codeIn K cd10 "Plain.mark" = true)
  (k10:W.keepIn K (.ref f10) = true)
  (a11:W.findIn K (.ref c2) "mark" = some (some (.ref f11)))
  (i11:W.isFn K (.ref f11) = true)
  (l11:K.lookup f11 = some ⟨oc11,od11,.func (W.fnOf "mark" "Slip.mark" (defArgs st11) (defBody st11) (defScope st11) .none kV11 dc11 pm11 an11 cd11 ct11),sl11⟩)
  (e11:W.codeIn K cd11 "Slip.mark" = true)
  (k11:W.keepIn K (.ref f11) = true)
  (a12:W.findIn K (.ref c3) "mark" = some (some (.ref f12)))
  (i12:W.isFn K (.ref f12) = true)
  (l12:K.lookup f12 = some ⟨oc12,od12,.func (W.fnOf "mark" "Over.mark" (defArgs st12) (defBody st12) (defScope st12) .none kV12 dc12 pm12 an12 cd12 ct12),sl12⟩)
  (e12:W.codeIn K cd12 "Over.mark" = true)
  (k12:W.keepIn K (.ref f12) = true)
  (a13:W.findIn K (.ref c4) "__init__" = some (some (.ref f13)))
  (i13:W.isFn K (.ref f13) = true)
  (l13:K.lookup f13 = some ⟨oc13,od13,.func (W.fnOf "__init__" "Lean.__init__" (defArgs st13) (defBody st13) (defScope st13) .none kV13 dc13 pm13 an13 cd13 ct13),sl13⟩)
  (e13:W.codeIn K cd13 "Lean.__init__" = true)
  (k13:W.keepIn K (.ref f13) = true)
  (a14:W.findIn K (.ref c4) "mark" = some (some (.ref f14)))
  (i14:W.isFn K (.ref f14) = true)
  (l14:K.lookup f14 = some ⟨oc14,od14,.func (W.fnOf "mark" "Lean.mark" (defArgs st14) (defBody st14) (defScope st14) .none kV14 dc14 pm14 an14 cd14 ct14),sl14⟩)
  (e14:W.codeIn K cd14 "Lean.mark" = true)
  (k14:W.keepIn K (.ref f14) = true)
  (a15:W.findIn K (.ref c5) "__init__" = some (some (.ref f15)))
  (i15:W.isFn K (.ref f15) = true)
  (l15:K.lookup f15 = some ⟨oc15,od15,.func (W.fnOf "__init__" "Grow.__init__" (defArgs st15) (defBody st15) (defScope st15) .none kV15 dc15 pm15 an15 cd15 ct15),sl15⟩)
  (e15:W.codeIn K cd15 "Grow.__init__" = true)
  (k15:W.keepIn K (.ref f15) = true)
  (a16:W.findIn K (.ref c5) "mark" = some (some (.ref f16)))
  (i16:W.isFn K (.ref f16) = true)
  (l16:K.lookup f16 = some ⟨oc16,od16,.func (W.fnOf "mark" "Grow.mark" (defArgs st16) (defBody st16) (defScope st16) .none kV16 dc16 pm16 an16 cd16 ct16),sl16⟩)
  (e16:W.codeIn K cd16 "Grow.mark" = true)
  (k16:W.keepIn K (.ref f16) = true)
  (a17:W.findIn K (.ref c6) "__init__" = some (some (.ref f17)))
  (i17:W.isFn K (.ref f17) = true)
  (l17:K.lookup f17 = some ⟨oc17,od17,.func (W.fnOf "__init__" "Cross.__init__" (defArgs st17) (defBody st17) (defScope st17) .none kV17 dc17 pm17 an17 cd17 ct17),sl17⟩)
  (e17:W.codeIn K cd17 "Cross.__init__" = true)
  (k17:W.keepIn K (.ref f17) = true)
  (a18:W.findIn K (.ref c6) "mark" = some (some (.ref f18)))
  (i18:W.isFn K (.ref f18) = true)
  (l18:K.lookup f18 = some ⟨oc18,od18,.func (W.fnOf "mark" "Cross.mark" (defArgs st18) (defBody st18) (defScope st18) .none kV18 dc18 pm18 an18 cd18 ct18),sl18⟩)
  (e18:W.codeIn K cd18 "Cross.mark" = true)
  (k18:W.keepIn K (.ref f18) = true)
  (a19:W.findIn K (.ref c7) "mark" = some (some (.ref f19)))
  (i19:W.isFn K (.ref f19) = true)
  (l19:K.lookup f19 = some ⟨oc19,od19,.func (W.fnOf "mark" "Off.mark" (defArgs st19) (defBody st19) (defScope st19) .none kV19 dc19 pm19 an19 cd19 ct19),sl19⟩)
  (e19:W.codeIn K cd19 "Off.mark" = true)
  (k19:W.keepIn K (.ref f19) = true)
  (a20:W.findIn K (.ref c8) "__init__" = some (some (.ref f20)))
  (i20:W.isFn K (.ref f20) = true)
  (l20:K.lookup f20 = some ⟨oc20,od20,.func (W.fnOf "__init__" "Keep.__init__" (defArgs st20) (defBody st20) (defScope st20) .none kV20 dc20 pm20 an20 cd20 ct20),sl20⟩)
  (e20:W.codeIn K cd20 "Keep.__init__" = true)
  (k20:W.keepIn K (.ref f20) = true)
  (a21:W.findIn K (.ref c8) "mark" = some (some (.ref f21)))
  (i21:W.isFn K (.ref f21) = true)
  (l21:K.lookup f21 = some ⟨oc21,od21,.func (W.fnOf "mark" "Keep.mark" (defArgs st21) (defBody st21) (defScope st21) .none kV21 dc21 pm21 an21 cd21 ct21),sl21⟩)
  (e21:W.codeIn K cd21 "Keep.mark" = true)
  (k21:W.keepIn K (.ref f21) = true)
  (a22:W.findIn K (.ref c9) "__init__" = some (some (.ref f22)))
  (i22:W.isFn K (.ref f22) = true)
  (l22:K.lookup f22 = some ⟨oc22,od22,.func (W.fnOf "__init__" "Fetch.__init__" (defArgs st22) (defBody st22) (defScope st22) .none kV22 dc22 pm22 an22 cd22 ct22),sl22⟩)
  (e22:W.codeIn K cd22 "Fetch.__init__" = true)
  (k22:W.keepIn K (.ref f22) = true)
  (a23:W.findIn K (.ref c9) "mark" = some (some (.ref f23)))
  (i23:W.isFn K (.ref f23) = true)
  (l23:K.lookup f23 = some ⟨oc23,od23,.func (W.fnOf "mark" "Fetch.mark" (defArgs st23) (defBody st23) (defScope st23) .none kV23 dc23 pm23 an23 cd23 ct23),sl23⟩)
  (e23:W.codeIn K cd23 "Fetch.mark" = true)
  (k23:W.keepIn K (.ref f23) = true)
  (a24:W.nsIn K mainGlobals "stitch" = some (some (.ref f24)))
  (l24:K.lookup f24 = some ⟨oc24,od24,.func (W.fnOf "stitch" "stitch" (defArgs st24) (defBody st24) (defScope st24) .none kV24 dc24 pm24 an24 cd24 ct24),sl24⟩)
  (e24:W.codeIn K cd24 "stitch" = true)
  (k24:W.keepIn K (.ref f24) = true)
  (a25:W.nsIn K mainGlobals "stitch_of_text" = some (some (.ref f25)))
  (l25:K.lookup f25 = some ⟨oc25,od25,.func (W.fnOf "stitch_of_text" "stitch_of_text" (defArgs st25) (defBody st25) (defScope st25) .none kV25 dc25 pm25 an25 cd25 ct25),sl25⟩)
  (e25:W.codeIn K cd25 "stitch_of_text" = true)
  (k25:W.keepIn K (.ref f25) = true)
  (a26:W.nsIn K mainGlobals "bare_stitch" = some (some (.ref f26)))
  (l26:K.lookup f26 = some ⟨oc26,od26,.func (W.fnOf "bare_stitch" "bare_stitch" (defArgs st26) (defBody st26) (defScope st26) .none kV26 dc26 pm26 an26 cd26 ct26),sl26⟩)
  (e26:W.codeIn K cd26 "bare_stitch" = true)
  (k26:W.keepIn K (.ref f26) = true)
  (a27:W.nsIn K mainGlobals "keeper_stitch" = some (some (.ref f27)))
  (l27:K.lookup f27 = some ⟨oc27,od27,.func (W.fnOf "keeper_stitch" "keeper_stitch" (defArgs st27) (defBody st27) (defScope st27) .none kV27 dc27 pm27 an27 cd27 ct27),sl27⟩)
  (e27:W.codeIn K cd27 "keeper_stitch" = true)
  (k27:W.keepIn K (.ref f27) = true)
  (a28:W.nsIn K mainGlobals "sided_stitch" = some (some (.ref f28)))
  (l28:K.lookup f28 = some ⟨oc28,od28,.func (W.fnOf "sided_stitch" "sided_stitch" (defArgs st28) (defBody st28) (defScope st28) .none kV28 dc28 pm28 an28 cd28 ct28),sl28⟩)
  (e28:W.codeIn K cd28 "sided_stitch" = true)
  (k28:W.keepIn K (.ref f28) = true)
  (a29:W.nsIn K mainGlobals "crossing" = some (some (.ref f29)))
  (l29:K.lookup f29 = some ⟨oc29,od29,.func (W.fnOf "crossing" "crossing" (defArgs st29) (defBody st29) (defScope st29) .none kV29 dc29 pm29 an29 cd29 ct29),sl29⟩)
  (e29:W.codeIn K cd29 "crossing" = true)
  (k29:W.keepIn K (.ref f29) = true)
  (a30:W.nsIn K mainGlobals "_law_cell_at" = some (some (.ref f30)))
  (l30:K.lookup f30 = some ⟨oc30,od30,.func (W.fnOf "_law_cell_at" "_law_cell_at" (defArgs st30) (defBody st30) (defScope st30) .none kV30 dc30 pm30 an30 cd30 ct30),sl30⟩)
  (e30:W.codeIn K cd30 "_law_cell_at" = true)
  (k30:W.keepIn K (.ref f30) = true)
  (a31:W.nsIn K mainGlobals "_law_whole" = some (some (.ref f31)))
  (l31:K.lookup f31 = some ⟨oc31,od31,.func (W.fnOf "_law_whole" "_law_whole" (defArgs st31) (defBody st31) (defScope st31) .none kV31 dc31 pm31 an31 cd31 ct31),sl31⟩)
  (e31:W.codeIn K cd31 "_law_whole" = true)
  (k31:W.keepIn K (.ref f31) = true)
  (a32:W.nsIn K mainGlobals "_law_mark" = some (some (.ref f32)))
  (l32:K.lookup f32 = some ⟨oc32,od32,.func (W.fnOf "_law_mark" "_law_mark" (defArgs st32) (defBody st32) (defScope st32) .none kV32 dc32 pm32 an32 cd32 ct32),sl32⟩)
  (e32:W.codeIn K cd32 "_law_mark" = true)
  (k32:W.keepIn K (.ref f32) = true)
  (a33:W.nsIn K mainGlobals "_law_near" = some (some (.ref f33)))
  (l33:K.lookup f33 = some ⟨oc33,od33,.func (W.fnOf "_law_near" "_law_near" (defArgs st33) (defBody st33) (defScope st33) .none kV33 dc33 pm33 an33 cd33 ct33),sl33⟩)
  (e33:W.codeIn K cd33 "_law_near" = true)
  (k33:W.keepIn K (.ref f33) = true)
  (a34:W.nsIn K mainGlobals "_law_menu" = some (some (.ref f34)))
  (l34:K.lookup f34 = some ⟨oc34,od34,.func (W.fnOf "_law_menu" "_law_menu" (defArgs st34) (defBody st34) (defScope st34) .none kV34 dc34 pm34 an34 cd34 ct34),sl34⟩)
  (e34:W.codeIn K cd34 "_law_menu" = true)
  (k34:W.keepIn K (.ref f34) = true)
  (a35:W.nsIn K mainGlobals "_law_parts" = some (some (.ref f35)))
  (l35:K.lookup f35 = some ⟨oc35,od35,.func (W.fnOf "_law_parts" "_law_parts" (defArgs st35) (defBody st35) (defScope st35) .none kV35 dc35 pm35 an35 cd35 ct35),sl35⟩)
  (e35:W.codeIn K cd35 "_law_parts" = true)
  (k35:W.keepIn K (.ref f35) = true)
  (a36:W.nsIn K mainGlobals "_law_formed" = some (some (.ref f36)))
  (l36:K.lookup f36 = some ⟨oc36,od36,.func (W.fnOf "_law_formed" "_law_formed" (defArgs st36) (defBody st36) (defScope st36) .none kV36 dc36 pm36 an36 cd36 ct36),sl36⟩)
  (e36:W.codeIn K cd36 "_law_formed" = true)
  (k36:W.keepIn K (.ref f36) = true)
  (a37:W.nsIn K mainGlobals "_law_unrolled" = some (some (.ref f37)))
  (l37:K.lookup f37 = some ⟨oc37,od37,.func (W.fnOf "_law_unrolled" "_law_unrolled" (defArgs st37) (defBody st37) (defScope st37) .none kV37 dc37 pm37 an37 cd37 ct37),sl37⟩)
  (e37:W.codeIn K cd37 "_law_unrolled" = true)
  (k37:W.keepIn K (.ref f37) = true)
  (a38:W.nsIn K mainGlobals "_law_asked_so" = some (some (.ref f38)))
  (l38:K.lookup f38 = some ⟨oc38,od38,.func (W.fnOf "_law_asked_so" "_law_asked_so" (defArgs st38) (defBody st38) (defScope st38) .none kV38 dc38 pm38 an38 cd38 ct38),sl38⟩)
  (e38:W.codeIn K cd38 "_law_asked_so" = true)
  (k38:W.keepIn K (.ref f38) = true)
  (a39:W.nsIn K mainGlobals "_law_wide" = some (some (.ref f39)))
  (l39:K.lookup f39 = some ⟨oc39,od39,.func (W.fnOf "_law_wide" "_law_wide" (defArgs st39) (defBody st39) (defScope st39) .none kV39 dc39 pm39 an39 cd39 ct39),sl39⟩)
  (e39:W.codeIn K cd39 "_law_wide" = true)
  (k39:W.keepIn K (.ref f39) = true)
  (a40:W.nsIn K mainGlobals "law" = some (some (.ref f40)))
  (l40:K.lookup f40 = some ⟨oc40,od40,.func (W.fnOf "law" "law" (defArgs st40) (defBody st40) (defScope st40) .none kV40 dc40 pm40 an40 cd40 ct40),sl40⟩)
  (e40:W.codeIn K cd40 "law" = true)
  (k40:W.keepIn K (.ref f40) = true)
  (hn:W.specialIn K (.builtin "object.__class__") "__get__" = some (some (.builtin "getset_descriptor.__get__")))
  (htk:W.takesIn K (.builtin "object.__class__") = some true)
  (pg0:W.plainGet K c0 Str.empty = true)
  (hd0:W.hasDictIn K c0 = true)
  (po0:W.plainOver K c0 = true)
  (sa0:W.findIn K (.ref c0) "__setattr__" = some (some (.builtin "object.__setattr__")))
  (mk0:W.makesIn K c0 = true)
  (kc0:W.keepIn K (.ref c0) = true)
  (ha0:W.findIn K (.ref c0) "__class__" = some (some (.builtin "object.__class__")))
  (hm0:W.mroIn K c0 (.type "object") = some true)
  (ii0:W.findIn K (.ref c0) "__init__" = some (some (.builtin "object.__init__")))
  (x0_0:W.findIn K (.ref c0) "side" = some none)
  (x0_1:W.findIn K (.ref c0) "many" = some none)
  (x0_2:W.findIn K (.ref c0) "way" = some none)
  (x0_3:W.findIn K (.ref c0) "first" = some none)
  (x0_4:W.findIn K (.ref c0) "second" = some none)
  (x0_5:W.findIn K (.ref c0) "keeper" = some none)
  (pg1:W.plainGet K c1 Str.empty = true)
  (hd1:W.hasDictIn K c1 = true)
  (po1:W.plainOver K c1 = true)
  (sa1:W.findIn K (.ref c1) "__setattr__" = some (some (.builtin "object.__setattr__")))
  (mk1:W.makesIn K c1 = true)
  (kc1:W.keepIn K (.ref c1) = true)
  (ha1:W.findIn K (.ref c1) "__class__" = some (some (.builtin "object.__class__")))
  (hm1:W.mroIn K c1 (.type "object") = some true)
  (x1_0:W.findIn K (.ref c1) "side" = some none)
  (x1_1:W.findIn K (.ref c1) "many" = some none)
  (x1_2:W.findIn K (.ref c1) "way" = some none)
  (x1_3:W.findIn K (.ref c1) "first" = some none)
  (x1_4:W.findIn K (.ref c1) "second" = some none)
  (x1_5:W.findIn K (.ref c1) "keeper" = some none)
  (pg2:W.plainGet K c2 Str.empty = true)
  (hd2:W.hasDictIn K c2 = true)
  (po2:W.plainOver K c2 = true)
  (sa2:W.findIn K (.ref c2) "__setattr__" = some (some (.builtin "object.__setattr__")))
  (mk2:W.makesIn K c2 = true)
  (kc2:W.keepIn K (.ref c2) = true)
  (ha2:W.findIn K (.ref c2) "__class__" = some (some (.builtin "object.__class__")))
  (hm2:W.mroIn K c2 (.type "object") = some true)
  (ii2:W.findIn K (.ref c2) "__init__" = some (some (.builtin "object.__init__")))
  (x2_0:W.findIn K (.ref c2) "side" = some none)
  (x2_1:W.findIn K (.ref c2) "many" = some none)
  (x2_2:W.findIn K (.ref c2) "way" = some none)
  (x2_3:W.findIn K (.ref c2) "first" = some none)
  (x2_4:W.findIn K (.ref c2) "second" = some none)
  (x2_5:W.findIn K (.ref c2) "keeper" = some none)
  (pg3:W.plainGet K c3 Str.empty = true)
  (hd3:W.hasDictIn K c3 = true)
  (po3:W.plainOver K c3 = true)
  (sa3:W.findIn K (.ref c3) "__setattr__" = some (some (.builtin "object.__setattr__")))
  (mk3:W.makesIn K c3 = true)
  (kc3:W.keepIn K (.ref c3) = true)
  (ha3:W.findIn K (.ref c3) "__class__" = some (some (.builtin "object.__class__")))
  (hm3:W.mroIn K c3 (.type "object") = some true)
  (ii3:W.findIn K (.ref c3) "__init__" = some (some (.builtin "object.__init__")))
  (x3_0:W.findIn K (.ref c3) "side" = some none)
  (x3_1:W.findIn K (.ref c3) "many" = some none)
  (x3_2:W.findIn K (.ref c3) "way" = some none)
  (x3_3:W.findIn K (.ref c3) "first" = some none)
  (x3_4:W.findIn K (.ref c3) "second" = some none)
  (x3_5:W.findIn K (.ref c3) "keeper" = some none)
  (pg4:W.plainGet K c4 Str.empty = true)
  (hd4:W.hasDictIn K c4 = true)
  (po4:W.plainOver K c4 = true)
  (sa4:W.findIn K (.ref c4) "__setattr__" = some (some (.builtin "object.__setattr__")))
  (mk4:W.makesIn K c4 = true)
  (kc4:W.keepIn K (.ref c4) = true)
  (ha4:W.findIn K (.ref c4) "__class__" = some (some (.builtin "object.__class__")))
  (hm4:W.mroIn K c4 (.type "object") = some true)
  (x4_0:W.findIn K (.ref c4) "side" = some none)
  (x4_1:W.findIn K (.ref c4) "many" = some none)
  (x4_2:W.findIn K (.ref c4) "way" = some none)
  (x4_3:W.findIn K (.ref c4) "first" = some none)
  (x4_4:W.findIn K (.ref c4) "second" = some none)
  (x4_5:W.findIn K (.ref c4) "keeper" = some none)
  (pg5:W.plainGet K c5 Str.empty = true)
  (hd5:W.hasDictIn K c5 = true)
  (po5:W.plainOver K c5 = true)
  (sa5:W.findIn K (.ref c5) "__setattr__" = some (some (.builtin "object.__setattr__")))
  (mk5:W.makesIn K c5 = true)
  (kc5:W.keepIn K (.ref c5) = true)
  (ha5:W.findIn K (.ref c5) "__class__" = some (some (.builtin "object.__class__")))
  (hm5:W.mroIn K c5 (.type "object") = some true)
  (x5_0:W.findIn K (.ref c5) "side" = some none)
  (x5_1:W.findIn K (.ref c5) "many" = some none)
  (x5_2:W.findIn K (.ref c5) "way" = some none)
  (x5_3:W.findIn K (.ref c5) "first" = some none)
  (x5_4:W.findIn K (.ref c5) "second" = some none)
  (x5_5:W.findIn K (.ref c5) "keeper" = some none)
  (pg6:W.plainGet K c6 Str.empty = true)
  (hd6:W.hasDictIn K c6 = true)
  (po6:W.plainOver K c6 = true)
  (sa6:W.findIn K (.ref c6) "__setattr__" = some (some (.builtin "object.__setattr__")))
  (mk6:W.makesIn K c6 = true)
  (kc6:W.keepIn K (.ref c6) = true)
  (ha6:W.findIn K (.ref c6) "__class__" = some (some (.builtin "object.__class__")))
  (hm6:W.mroIn K c6 (.type "object") = some true)
  (x6_0:W.findIn K (.ref c6) "side" = some none)
  (x6_1:W.findIn K (.ref c6) "many" = some none)
  (x6_2:W.findIn K (.ref c6) "way" = some none)
  (x6_3:W.findIn K (.ref c6) "first" = some none)
  (x6_4:W.findIn K (.ref c6) "second" = some none)
  (x6_5:W.findIn K (.ref c6) "keeper" = some none)
  (pg7:W.plainGet K c7 Str.empty = true)
  (hd7:W.hasDictIn K c7 = true)
  (po7:W.plainOver K c7 = true)
  (sa7:W.findIn K (.ref c7) "__setattr__" = some (some (.builtin "object.__setattr__")))
  (mk7:W.makesIn K c7 = true)
  (kc7:W.keepIn K (.ref c7) = true)
  (ha7:W.findIn K (.ref c7) "__class__" = some (some (.builtin "object.__class__")))
  (hm7:W.mroIn K c7 (.type "object") = some true)
  (ii7:W.findIn K (.ref c7) "__init__" = some (some (.builtin "object.__init__")))
  (x7_0:W.findIn K (.ref c7) "side" = some none)
  (x7_1:W.findIn K (.ref c7) "many" = some none)
  (x7_2:W.findIn K (.ref c7) "way" = some none)
  (x7_3:W.findIn K (.ref c7) "first" = some none)
  (x7_4:W.findIn K (.ref c7) "second" = some none)
  (x7_5:W.findIn K (.ref c7) "keeper" = some none)
  (pg8:W.plainGet K c8 Str.empty = true)
  (hd8:W.hasDictIn K c8 = true)
  (po8:W.plainOver K c8 = true)
  (sa8:W.findIn K (.ref c8) "__setattr__" = some (some (.builtin "object.__setattr__")))
  (mk8:W.makesIn K c8 = true)
  (kc8:W.keepIn K (.ref c8) = true)
  (ha8:W.findIn K (.ref c8) "__class__" = some (some (.builtin "object.__class__")))
  (hm8:W.mroIn K c8 (.type "object") = some true)
  (x8_0:W.findIn K (.ref c8) "side" = some none)
  (x8_1:W.findIn K (.ref c8) "many" = some none)
  (x8_2:W.findIn K (.ref c8) "way" = some none)
  (x8_3:W.findIn K (.ref c8) "first" = some none)
  (x8_4:W.findIn K (.ref c8) "second" = some none)
  (x8_5:W.findIn K (.ref c8) "keeper" = some none)
  (pg9:W.plainGet K c9 Str.empty = true)
  (hd9:W.hasDictIn K c9 = true)
  (po9:W.plainOver K c9 = true)
  (sa9:W.findIn K (.ref c9) "__setattr__" = some (some (.builtin "object.__setattr__")))
  (mk9:W.makesIn K c9 = true)
  (kc9:W.keepIn K (.ref c9) = true)
  (ha9:W.findIn K (.ref c9) "__class__" = some (some (.builtin "object.__class__")))
  (hm9:W.mroIn K c9 (.type "object") = some true)
  (x9_0:W.findIn K (.ref c9) "side" = some none)
  (x9_1:W.findIn K (.ref c9) "many" = some none)
  (x9_2:W.findIn K (.ref c9) "way" = some none)
  (x9_3:W.findIn K (.ref c9) "first" = some none)
  (x9_4:W.findIn K (.ref c9) "second" = some none)
  (x9_5:W.findIn K (.ref c9) "keeper" = some none)
  (s0_0:W.kitOne K (.ref c0) (.ref c0) = some true)
  (s1_0:W.kitOne K (.ref c1) (.ref c0) = some true)
  (s2_0:W.kitOne K (.ref c2) (.ref c0) = some true)
  (s3_0:W.kitOne K (.ref c3) (.ref c0) = some true)
  (s4_0:W.kitOne K (.ref c4) (.ref c0) = some true)
  (s5_0:W.kitOne K (.ref c5) (.ref c0) = some true)
  (s6_0:W.kitOne K (.ref c6) (.ref c0) = some true)
  (s7_0:W.kitOne K (.ref c7) (.ref c0) = some true)
  (s8_0:W.kitOne K (.ref c8) (.ref c0) = some true)
  (s9_0:W.kitOne K (.ref c9) (.ref c0) = some true)
  (q0:W.nsIn K mainGlobals "KEEPERS" = some (some (.ref kk0)))
  (r0:K.lookup kk0 = some ⟨.type "tuple",none,.seq #[.str (Str.ofString "w") y0_0,.str (Str.ofString "x") y0_1,.str (Str.ofString "y") y0_2,.str (Str.ofString "z") y0_3] p0,#[]⟩)
  (q1:W.nsIn K mainGlobals "SIDE_SIGNS" = some (some (.ref kk1)))
  (r1:K.lookup kk1 = some ⟨.type "dict",none,.dict #[⟨h1_0,.int 1 z1_0,.str (Str.ofString "k") y1_0⟩,⟨h1_1,.int (-1) z1_1,.str (Str.ofString "p") y1_1⟩] p1,#[]⟩)
  (g1_0:h1_0 = keyH w (Sum.inl (1):Key))
  (g1_1:h1_1 = keyH w (Sum.inl (-1):Key))
  (u1:(kk1 == sysModules) = false)
  (q2:W.nsIn K mainGlobals "CROSS_SIGNS" = some (some (.ref kk2)))
  (r2:K.lookup kk2 = some ⟨.type "dict",none,.dict #[⟨h2_0,.int 1 z2_0,.str (Str.ofString "c") y2_0⟩,⟨h2_1,.int (-1) z2_1,.str (Str.ofString "q") y2_1⟩] p2,#[]⟩)
  (g2_0:h2_0 = keyH w (Sum.inl (1):Key))
  (g2_1:h2_1 = keyH w (Sum.inl (-1):Key))
  (u2:(kk2 == sysModules) = false)
  (q3:W.nsIn K mainGlobals "SIDES" = some (some (.ref kk3)))
  (r3:K.lookup kk3 = some ⟨.type "dict",none,.dict #[⟨h3_0,.str (Str.ofString "k") z3_0,.int 1 y3_0⟩,⟨h3_1,.str (Str.ofString "p") z3_1,.int (-1) y3_1⟩] p3,#[]⟩)
  (g3_0:h3_0 = keyH w (Sum.inr (Str.ofString "k"):Key))
  (g3_1:h3_1 = keyH w (Sum.inr (Str.ofString "p"):Key))
  (u3:(kk3 == sysModules) = false)
  (q4:W.nsIn K mainGlobals "CROSS_SIDES" = some (some (.ref kk4)))
  (r4:K.lookup kk4 = some ⟨.type "dict",none,.dict #[⟨h4_0,.str (Str.ofString "c") z4_0,.int 1 y4_0⟩,⟨h4_1,.str (Str.ofString "q") z4_1,.int (-1) y4_1⟩] p4,#[]⟩)
  (g4_0:h4_0 = keyH w (Sum.inr (Str.ofString "c"):Key))
  (g4_1:h4_1 = keyH w (Sum.inr (Str.ofString "q"):Key))
  (u4:(kk4 == sysModules) = false)
  (q5:W.nsIn K mainGlobals "LEAN_WAYS" = some (some (.ref kk5)))
  (r5:K.lookup kk5 = some ⟨.type "tuple",none,.seq #[.str (Str.ofString "r") y5_0,.str (Str.ofString "l") y5_1] p5,#[]⟩)
  (q6:W.nsIn K mainGlobals "CROSS_WAYS" = some (some (.ref kk6)))
  (r6:K.lookup kk6 = some ⟨.type "tuple",none,.seq #[.str (Str.ofString "f") y6_0,.str (Str.ofString "b") y6_1] p6,#[]⟩)
  (q7:W.nsIn K mainGlobals "MANY" = some (some (.ref kk7)))
  (r7:K.lookup kk7 = some ⟨.type "dict",none,.dict #[⟨h7_0,.str (Str.ofString "2") z7_0,.int 2 y7_0⟩,⟨h7_1,.str (Str.ofString "3") z7_1,.int 3 y7_1⟩,⟨h7_2,.str (Str.ofString "4") z7_2,.int 4 y7_2⟩] p7,#[]⟩)
  (g7_0:h7_0 = keyH w (Sum.inr (Str.ofString "2"):Key))
  (g7_1:h7_1 = keyH w (Sum.inr (Str.ofString "3"):Key))
  (g7_2:h7_2 = keyH w (Sum.inr (Str.ofString "4"):Key))
  (u7:(kk7 == sysModules) = false)
  (q8:W.nsIn K mainGlobals "CROSSED" = some (some (.ref kk8)))
  (r8:K.lookup kk8 = some ⟨.type "dict",none,.dict #[⟨h8_0,.str (Str.ofString "1") z8_0,.int 1 y8_0⟩,⟨h8_1,.str (Str.ofString "2") z8_1,.int 2 y8_1⟩,⟨h8_2,.str (Str.ofString "3") z8_2,.int 3 y8_2⟩,⟨h8_3,.str (Str.ofString "4") z8_3,.int 4 y8_3⟩] p8,#[]⟩)
  (g8_0:h8_0 = keyH w (Sum.inr (Str.ofString "1"):Key))
  (g8_1:h8_1 = keyH w (Sum.inr (Str.ofString "2"):Key))
  (g8_2:h8_2 = keyH w (Sum.inr (Str.ofString "3"):Key))
  (g8_3:h8_3 = keyH w (Sum.inr (Str.ofString "4"):Key))
  (u8:(kk8 == sysModules) = false)
  (z_len:W.nsIn K mainGlobals "len" = some none)
  (z_int:W.nsIn K mainGlobals "int" = some none)
  (z_str:W.nsIn K mainGlobals "str" = some none)
  (z_tuple:W.nsIn K mainGlobals "tuple" = some none)
  (z_list:W.nsIn K mainGlobals "list" = some none)
  (z_bool:W.nsIn K mainGlobals "bool" = some none)
  (z_isinstance:W.nsIn K mainGlobals "isinstance" = some none)
  (z_range:W.nsIn K mainGlobals "range" = some none)
  (z_sum:W.nsIn K mainGlobals "sum" = some none)
  (z_max:W.nsIn K mainGlobals "max" = some none)
  (z_min:W.nsIn K mainGlobals "min" = some none)
  (z_abs:W.nsIn K mainGlobals "abs" = some none) :
  ∃ fd : FuncData, (∀ (s : Shared) (v : Value), BindsTo s fd ⟨[v], []⟩ [("_law_script", v)]) /\ ∀ base : Heap, K.In base -> base.Ns mainGlobals mg -> FnOk l.prog w K mg base CX0 (2 * 68) fa fd ["_law_script"] (spLaw K) := by
 have e:=hfa.symm.trans (W.mg_of X G a40)
 cases e
 let adr:Addr -> Adr:=fun a => ⟨fun i => [f0,f1,f2,f3,f4,f5,f6,f7,f8,f9,f10,f11,f12,f13,f14,f15,f16,f17,f18,f19,f20,f21,f22,f23,f24,f25,f26,f27,f28,f29,f30,f31,f32,f33,f34,f35,f36,f37,f38,f39,f40].getD i 0,fun i => [c0,c1,c2,c3,c4,c5,c6,c7,c8,c9].getD i 0,fun i => [kk0,kk1,kk2,kk3,kk4,kk5,kk6,kk7,kk8].getD i 0,a⟩
 have F0:=funD_mk (st:=st0) l0 e0 k0
 have B0:=bindsD F0 (ps:=["number"]) fun us hl => match us,hl with | [_],_ => rfl
 have F1:=funD_mk (st:=st1) l1 e1 k1
 have B1:=bindsD F1 (ps:=["parts"]) fun us hl => match us,hl with | [_],_ => rfl
 have F2:=funD_mk (st:=st2) l2 e2 k2
 have B2:=bindsD F2 (ps:=["stitches"]) fun us hl => match us,hl with | [_],_ => rfl
 have F3:=funD_mk (st:=st3) l3 e3 k3
 have B3:=bindsD F3 (ps:=["stitches"]) fun us hl => match us,hl with | [_],_ => rfl
 have F4:=funD_mk (st:=st4) l4 e4 k4
 have B4:=bindsD F4 (ps:=["marks","table","start","length"]) fun us hl => match us,hl with | [_,_,_,_],_ => rfl
 have F5:=funD_mk (st:=st5) l5 e5 k5
 have B5:=bindsD F5 (ps:=["table","start","length","first"]) fun us hl => match us,hl with | [_,_,_,_],_ => rfl
 have F6:=funD_mk (st:=st6) l6 e6 k6
 have B6:=bindsD F6 (ps:=["marks","start","length"]) fun us hl => match us,hl with | [_,_,_],_ => rfl
 have F7:=funD_mk (st:=st7) l7 e7 k7
 have B7:=bindsD F7 (ps:=["marks","start","length","once"]) fun us hl => match us,hl with | [_,_,_,_],_ => rfl
 have F8:=funD_mk (st:=st8) l8 e8 k8
 have B8:=bindsD F8 (ps:=["stitches","marks","table","start","length"]) fun us hl => match us,hl with | [_,_,_,_,_],_ => rfl
 have F9:=funD_mk (st:=st9) l9 e9 k9
 have B9:=bindsD F9 (ps:=["self","side"]) fun us hl => match us,hl with | [_,_],_ => rfl
 have F10:=funD_mk (st:=st10) l10 e10 k10
 have B10:=bindsD F10 (ps:=["self"]) fun us hl => match us,hl with | [_],_ => rfl
 have F11:=funD_mk (st:=st11) l11 e11 k11
 have B11:=bindsD F11 (ps:=["self"]) fun us hl => match us,hl with | [_],_ => rfl
 have F12:=funD_mk (st:=st12) l12 e12 k12
 have B12:=bindsD F12 (ps:=["self"]) fun us hl => match us,hl with | [_],_ => rfl
 have F13:=funD_mk (st:=st13) l13 e13 k13
 have B13:=bindsD F13 (ps:=["self","many","way","side"]) fun us hl => match us,hl with | [_,_,_,_],_ => rfl
 have F14:=funD_mk (st:=st14) l14 e14 k14
 have B14:=bindsD F14 (ps:=["self"]) fun us hl => match us,hl with | [_],_ => rfl
 have F15:=funD_mk (st:=st15) l15 e15 k15
 have B15:=bindsD F15 (ps:=["self","many","side"]) fun us hl => match us,hl with | [_,_,_],_ => rfl
 have F16:=funD_mk (st:=st16) l16 e16 k16
 have B16:=bindsD F16 (ps:=["self"]) fun us hl => match us,hl with | [_],_ => rfl
 have F17:=funD_mk (st:=st17) l17 e17 k17
 have B17:=bindsD F17 (ps:=["self","first","second","way","side"]) fun us hl => match us,hl with | [_,_,_,_,_],_ => rfl
 have F18:=funD_mk (st:=st18) l18 e18 k18
 have B18:=bindsD F18 (ps:=["self"]) fun us hl => match us,hl with | [_],_ => rfl
 have F19:=funD_mk (st:=st19) l19 e19 k19
 have B19:=bindsD F19 (ps:=["self"]) fun us hl => match us,hl with | [_],_ => rfl
 have F20:=funD_mk (st:=st20) l20 e20 k20
 have B20:=bindsD F20 (ps:=["self","keeper"]) fun us hl => match us,hl with | [_,_],_ => rfl
 have F21:=funD_mk (st:=st21) l21 e21 k21
 have B21:=bindsD F21 (ps:=["self"]) fun us hl => match us,hl with | [_],_ => rfl
 have F22:=funD_mk (st:=st22) l22 e22 k22
 have B22:=bindsD F22 (ps:=["self","keeper"]) fun us hl => match us,hl with | [_,_],_ => rfl
 have F23:=funD_mk (st:=st23) l23 e23 k23
 have B23:=bindsD F23 (ps:=["self"]) fun us hl => match us,hl with | [_],_ => rfl
 have F24:=funD_mk (st:=st24) l24 e24 k24
 have B24:=bindsD F24 (ps:=["mark"]) fun us hl => match us,hl with | [_],_ => rfl
 have F25:=funD_mk (st:=st25) l25 e25 k25
 have B25:=bindsD F25 (ps:=["text"]) fun us hl => match us,hl with | [_],_ => rfl
 have F26:=funD_mk (st:=st26) l26 e26 k26
 have B26:=bindsD F26 (ps:=["sign"]) fun us hl => match us,hl with | [_],_ => rfl
 have F27:=funD_mk (st:=st27) l27 e27 k27
 have B27:=bindsD F27 (ps:=["sign","keeper"]) fun us hl => match us,hl with | [_,_],_ => rfl
 have F28:=funD_mk (st:=st28) l28 e28 k28
 have B28:=bindsD F28 (ps:=["sign","middle","last"]) fun us hl => match us,hl with | [_,_,_],_ => rfl
 have F29:=funD_mk (st:=st29) l29 e29 k29
 have B29:=bindsD F29 (ps:=["sign","first","way","second"]) fun us hl => match us,hl with | [_,_,_,_],_ => rfl
 have F30:=funD_mk (st:=st30) l30 e30 k30
 have B30:=bindsD F30 (ps:=["_law_script","_law_k"]) fun us hl => match us,hl with | [_,_],_ => rfl
 have F31:=funD_mk (st:=st31) l31 e31 k31
 have B31:=bindsD F31 (ps:=["_law_found"]) fun us hl => match us,hl with | [_],_ => rfl
 have F32:=funD_mk (st:=st32) l32 e32 k32
 have B32:=bindsD F32 (ps:=["_law_number"]) fun us hl => match us,hl with | [_],_ => rfl
 have F33:=funD_mk (st:=st33) l33 e33 k33
 have B33:=bindsD F33 (ps:=["_law_cell"]) fun us hl => match us,hl with | [_],_ => rfl
 have F34:=funD_mk (st:=st34) l34 e34 k34
 have B34:=bindsD F34 (ps:=["_law_script"]) fun us hl => match us,hl with | [_],_ => rfl
 have F35:=funD_mk (st:=st35) l35 e35 k35
 have B35:=bindsD F35 (ps:=["_law_script","_law_most"]) fun us hl => match us,hl with | [_,_],_ => rfl
 have F36:=funD_mk (st:=st36) l36 e36 k36
 have B36:=bindsD F36 (ps:=["_law_part"]) fun us hl => match us,hl with | [_],_ => rfl
 have F37:=funD_mk (st:=st37) l37 e37 k37
 have B37:=bindsD F37 (ps:=["_law_parts_here","_law_most"]) fun us hl => match us,hl with | [_,_],_ => rfl
 have F38:=funD_mk (st:=st38) l38 e38 k38
 have B38:=bindsD F38 (ps:=["_law_script"]) fun us hl => match us,hl with | [_],_ => rfl
 have F39:=funD_mk (st:=st39) l39 e39 k39
 have B39:=bindsD F39 (ps:=["_law_script"]) fun us hl => match us,hl with | [_],_ => rfl
 have F40:=funD_mk (st:=st40) l40 e40 k40
 have B40:=bindsD F40 (ps:=["_law_script"]) fun us hl => match us,hl with | [_],_ => rfl
 have tp:∀ (s:List U) (a:Addr),Top (tb s) (adr a) K mg glo bltN:=fun s a => top_mk
  (.cons ⟨_,F0,B0,sc0,rfl,rfl⟩ (.cons ⟨_,F1,B1,sc1,rfl,rfl⟩ (.cons ⟨_,F2,B2,sc2,rfl,rfl⟩ (.cons ⟨_,F3,B3,sc3,rfl,rfl⟩ (.cons ⟨_,F4,B4,sc4,rfl,rfl⟩ (.cons ⟨_,F5,B5,sc5,rfl,rfl⟩ (.cons ⟨_,F6,B6,sc6,rfl,rfl⟩ (.cons ⟨_,F7,B7,sc7,rfl,rfl⟩ (.cons ⟨_,F8,B8,sc8,rfl,rfl⟩ (.cons ⟨_,F9,B9,sc9,rfl,rfl⟩ (.cons ⟨_,F10,B10,sc10,rfl,rfl⟩ (.cons ⟨_,F11,B11,sc11,rfl,rfl⟩ (.cons ⟨_,F12,B12,sc12,rfl,rfl⟩ (.cons ⟨_,F13,B13,sc13,rfl,rfl⟩ (.cons ⟨_,F14,B14,sc14,rfl,rfl⟩ (.cons ⟨_,F15,B15,sc15,rfl,rfl⟩ (.cons ⟨_,F16,B16,sc16,rfl,rfl⟩ (.cons ⟨_,F17,B17,sc17,rfl,rfl⟩ (.cons ⟨_,F18,B18,sc18,rfl,rfl⟩ (.cons ⟨_,F19,B19,sc19,rfl,rfl⟩ (.cons ⟨_,F20,B20,sc20,rfl,rfl⟩ (.cons ⟨_,F21,B21,sc21,rfl,rfl⟩ (.cons ⟨_,F22,B22,sc22,rfl,rfl⟩ (.cons ⟨_,F23,B23,sc23,rfl,rfl⟩ (.cons ⟨_,F24,B24,sc24,rfl,rfl⟩ (.cons ⟨_,F25,B25,sc25,rfl,rfl⟩ (.cons ⟨_,F26,B26,sc26,rfl,rfl⟩ (.cons ⟨_,F27,B27,sc27,rfl,rfl⟩ (.cons ⟨_,F28,B28,sc28,rfl,rfl⟩ (.cons ⟨_,F29,B29,sc29,rfl,rfl⟩ (.cons ⟨_,F30,B30,sc30,rfl,rfl⟩ (.cons ⟨_,F31,B31,sc31,rfl,rfl⟩ (.cons ⟨_,F32,B32,sc32,rfl,rfl⟩ (.cons ⟨_,F33,B33,sc33,rfl,rfl⟩ (.cons ⟨_,F34,B34,sc34,rfl,rfl⟩ (.cons ⟨_,F35,B35,sc35,rfl,rfl⟩ (.cons ⟨_,F36,B36,sc36,rfl,rfl⟩ (.cons ⟨_,F37,B37,sc37,rfl,rfl⟩ (.cons ⟨_,F38,B38,sc38,rfl,rfl⟩ (.cons ⟨_,F39,B39,sc39,rfl,rfl⟩ (.cons ⟨_,F40,B40,sc40,rfl,rfl⟩ .nil)))))))))))))))))))))))))))))))))))))))))
  (.cons (cl_mk (A:=adr a) (i:=0) ⟨pg0,hd0,po0,sa0⟩ (.cons x0_0 (.cons x0_1 (.cons x0_2 (.cons x0_3 (.cons x0_4 (.cons x0_5 .nil)))))) .nil mk0 kc0 ii0 ha0 hn htk hm0) (.cons (cl_mk (A:=adr a) (i:=1) ⟨pg1,hd1,po1,sa1⟩ (.cons x1_0 (.cons x1_1 (.cons x1_2 (.cons x1_3 (.cons x1_4 (.cons x1_5 .nil)))))) (.cons ⟨_,rfl,a10,i10,k10⟩ .nil) mk1 kc1 ⟨a9,i9⟩ ha1 hn htk hm1) (.cons (cl_mk (A:=adr a) (i:=2) ⟨pg2,hd2,po2,sa2⟩ (.cons x2_0 (.cons x2_1 (.cons x2_2 (.cons x2_3 (.cons x2_4 (.cons x2_5 .nil)))))) (.cons ⟨_,rfl,a11,i11,k11⟩ .nil) mk2 kc2 ii2 ha2 hn htk hm2) (.cons (cl_mk (A:=adr a) (i:=3) ⟨pg3,hd3,po3,sa3⟩ (.cons x3_0 (.cons x3_1 (.cons x3_2 (.cons x3_3 (.cons x3_4 (.cons x3_5 .nil)))))) (.cons ⟨_,rfl,a12,i12,k12⟩ .nil) mk3 kc3 ii3 ha3 hn htk hm3) (.cons (cl_mk (A:=adr a) (i:=4) ⟨pg4,hd4,po4,sa4⟩ (.cons x4_0 (.cons x4_1 (.cons x4_2 (.cons x4_3 (.cons x4_4 (.cons x4_5 .nil)))))) (.cons ⟨_,rfl,a14,i14,k14⟩ .nil) mk4 kc4 ⟨a13,i13⟩ ha4 hn htk hm4) (.cons (cl_mk (A:=adr a) (i:=5) ⟨pg5,hd5,po5,sa5⟩ (.cons x5_0 (.cons x5_1 (.cons x5_2 (.cons x5_3 (.cons x5_4 (.cons x5_5 .nil)))))) (.cons ⟨_,rfl,a16,i16,k16⟩ .nil) mk5 kc5 ⟨a15,i15⟩ ha5 hn htk hm5) (.cons (cl_mk (A:=adr a) (i:=6) ⟨pg6,hd6,po6,sa6⟩ (.cons x6_0 (.cons x6_1 (.cons x6_2 (.cons x6_3 (.cons x6_4 (.cons x6_5 .nil)))))) (.cons ⟨_,rfl,a18,i18,k18⟩ .nil) mk6 kc6 ⟨a17,i17⟩ ha6 hn htk hm6) (.cons (cl_mk (A:=adr a) (i:=7) ⟨pg7,hd7,po7,sa7⟩ (.cons x7_0 (.cons x7_1 (.cons x7_2 (.cons x7_3 (.cons x7_4 (.cons x7_5 .nil)))))) (.cons ⟨_,rfl,a19,i19,k19⟩ .nil) mk7 kc7 ii7 ha7 hn htk hm7) (.cons (cl_mk (A:=adr a) (i:=8) ⟨pg8,hd8,po8,sa8⟩ (.cons x8_0 (.cons x8_1 (.cons x8_2 (.cons x8_3 (.cons x8_4 (.cons x8_5 .nil)))))) (.cons ⟨_,rfl,a21,i21,k21⟩ .nil) mk8 kc8 ⟨a20,i20⟩ ha8 hn htk hm8) (.cons (cl_mk (A:=adr a) (i:=9) ⟨pg9,hd9,po9,sa9⟩ (.cons x9_0 (.cons x9_1 (.cons x9_2 (.cons x9_3 (.cons x9_4 (.cons x9_5 .nil)))))) (.cons ⟨_,rfl,a23,i23,k23⟩ .nil) mk9 kc9 ⟨a22,i22⟩ ha9 hn htk hm9) .nil))))))))))
  (show (fldN.all fun x => !(mthN.contains x)) = true by decide +kernel) (show fldN.Nodup by decide +kernel) (.cons s0_0 (.cons s1_0 (.cons s2_0 (.cons s3_0 (.cons s4_0 (.cons s5_0 (.cons s6_0 (.cons s7_0 (.cons s8_0 (.cons s9_0 .nil)))))))))) (.cons (co_tup r0 rfl rfl rfl (show 4 <= sizeLine by decide) (.cons (tv (t:=y0_0) (by decide +kernel)) (.cons (tv (t:=y0_1) (by decide +kernel)) (.cons (tv (t:=y0_2) (by decide +kernel)) (.cons (tv (t:=y0_3) (by decide +kernel)) .nil))))) (.cons trivial (.cons trivial (.cons trivial (.cons trivial (.cons (co_tup r5 rfl rfl rfl (show 2 <= sizeLine by decide) (.cons (tv (t:=y5_0) (by decide +kernel)) (.cons (tv (t:=y5_1) (by decide +kernel)) .nil))) (.cons (co_tup r6 rfl rfl rfl (show 2 <= sizeLine by decide) (.cons (tv (t:=y6_0) (by decide +kernel)) (.cons (tv (t:=y6_1) (by decide +kernel)) .nil))) (.cons trivial (.cons trivial .nil)))))))))
  .nil
  (.cons (W.mg_of X G a0) (.cons (W.mg_of X G a1) (.cons (W.mg_of X G a2) (.cons (W.mg_of X G a3) (.cons (W.mg_of X G a4) (.cons (W.mg_of X G a5) (.cons (W.mg_of X G a6) (.cons (W.mg_of X G a7) (.cons (W.mg_of X G a8) (.cons (W.mg_of X G q0) (.cons (W.mg_of X G q1) (.cons (W.mg_of X G q2) (.cons (W.mg_of X G n0) (.cons (W.mg_of X G n1) (.cons (W.mg_of X G n2) (.cons (W.mg_of X G n3) (.cons (W.mg_of X G n4) (.cons (W.mg_of X G n5) (.cons (W.mg_of X G n6) (.cons (W.mg_of X G n7) (.cons (W.mg_of X G n8) (.cons (W.mg_of X G n9) (.cons (W.mg_of X G q3) (.cons (W.mg_of X G q4) (.cons (W.mg_of X G q5) (.cons (W.mg_of X G q6) (.cons (W.mg_of X G q7) (.cons (W.mg_of X G q8) (.cons (W.mg_of X G a24) (.cons (W.mg_of X G a25) (.cons (W.mg_of X G a26) (.cons (W.mg_of X G a27) (.cons (W.mg_of X G a28) (.cons (W.mg_of X G a29) (.cons (W.mg_of X G a30) (.cons (W.mg_of X G a31) (.cons (W.mg_of X G a32) (.cons (W.mg_of X G a33) (.cons (W.mg_of X G a34) (.cons (W.mg_of X G a35) (.cons (W.mg_of X G a36) (.cons (W.mg_of X G a37) (.cons (W.mg_of X G a38) (.cons (W.mg_of X G a39) (.cons (W.mg_of X G a40) .nil))))))))))))))))))))))))))))))))))))))))))))) (.cons (W.mg_none_of X G z_len) (.cons (W.mg_none_of X G z_int) (.cons (W.mg_none_of X G z_str) (.cons (W.mg_none_of X G z_tuple) (.cons (W.mg_none_of X G z_list) (.cons (W.mg_none_of X G z_bool) (.cons (W.mg_none_of X G z_isinstance) (.cons (W.mg_none_of X G z_range) (.cons (W.mg_none_of X G z_sum) (.cons (W.mg_none_of X G z_max) (.cons (W.mg_none_of X G z_min) (.cons (W.mg_none_of X G z_abs) .nil))))))))))))
 have tab:∀ (s:List U) (a:Addr),TabOk l.prog w (tb s) (adr a) K:=fun s a k kvs e => by
  match k,e with
  | 0,e => cases e
  | 1,e =>
   cases e
   exact ⟨[((Sum.inl (1):Key),Value.str (Str.ofString "k") y1_0),((Sum.inl (-1):Key),Value.str (Str.ofString "p") y1_1)],u1,tab_mk r1 ⟨rfl,rfl,rfl⟩ rfl (.cons ⟨_,keyIs_int (1) z1_0,g1_0⟩ (.cons ⟨_,keyIs_int (-1) z1_1,g1_1⟩ .nil)) (.cons (keyIs_int (1) z1_0) rfl (.cons (keyIs_int (-1) z1_1) rfl (.nil))) (show ([Sum.inl (1),Sum.inl (-1)]:List Key).Nodup by decide +kernel),.cons ⟨rfl,tv (by decide +kernel)⟩ (.cons ⟨rfl,tv (by decide +kernel)⟩ (.nil))⟩
  | 2,e =>
   cases e
   exact ⟨[((Sum.inl (1):Key),Value.str (Str.ofString "c") y2_0),((Sum.inl (-1):Key),Value.str (Str.ofString "q") y2_1)],u2,tab_mk r2 ⟨rfl,rfl,rfl⟩ rfl (.cons ⟨_,keyIs_int (1) z2_0,g2_0⟩ (.cons ⟨_,keyIs_int (-1) z2_1,g2_1⟩ .nil)) (.cons (keyIs_int (1) z2_0) rfl (.cons (keyIs_int (-1) z2_1) rfl (.nil))) (show ([Sum.inl (1),Sum.inl (-1)]:List Key).Nodup by decide +kernel),.cons ⟨rfl,tv (by decide +kernel)⟩ (.cons ⟨rfl,tv (by decide +kernel)⟩ (.nil))⟩
  | 3,e =>
   cases e
   exact ⟨[((Sum.inr (Str.ofString "k"):Key),Value.int 1 y3_0),((Sum.inr (Str.ofString "p"):Key),Value.int (-1) y3_1)],u3,tab_mk r3 ⟨rfl,rfl,rfl⟩ rfl (.cons ⟨_,keyIs_str (Str.ofString "k") z3_0,g3_0⟩ (.cons ⟨_,keyIs_str (Str.ofString "p") z3_1,g3_1⟩ .nil)) (.cons (keyIs_str (Str.ofString "k") z3_0) rfl (.cons (keyIs_str (Str.ofString "p") z3_1) rfl (.nil))) (show ([Sum.inr (Str.ofString "k"),Sum.inr (Str.ofString "p")]:List Key).Nodup by decide +kernel),.cons ⟨(show (Sum.inr (Str.ofString "k"):Key) = Sum.inr ⟨[107].toArray⟩ by decide +kernel),tvi⟩ (.cons ⟨(show (Sum.inr (Str.ofString "p"):Key) = Sum.inr ⟨[112].toArray⟩ by decide +kernel),tvi⟩ (.nil))⟩
  | 4,e =>
   cases e
   exact ⟨[((Sum.inr (Str.ofString "c"):Key),Value.int 1 y4_0),((Sum.inr (Str.ofString "q"):Key),Value.int (-1) y4_1)],u4,tab_mk r4 ⟨rfl,rfl,rfl⟩ rfl (.cons ⟨_,keyIs_str (Str.ofString "c") z4_0,g4_0⟩ (.cons ⟨_,keyIs_str (Str.ofString "q") z4_1,g4_1⟩ .nil)) (.cons (keyIs_str (Str.ofString "c") z4_0) rfl (.cons (keyIs_str (Str.ofString "q") z4_1) rfl (.nil))) (show ([Sum.inr (Str.ofString "c"),Sum.inr (Str.ofString "q")]:List Key).Nodup by decide +kernel),.cons ⟨(show (Sum.inr (Str.ofString "c"):Key) = Sum.inr ⟨[99].toArray⟩ by decide +kernel),tvi⟩ (.cons ⟨(show (Sum.inr (Str.ofString "q"):Key) = Sum.inr ⟨[113].toArray⟩ by decide +kernel),tvi⟩ (.nil))⟩
  | 5,e => cases e
  | 6,e => cases e
  | 7,e =>
   cases e
   exact ⟨[((Sum.inr (Str.ofString "2"):Key),Value.int 2 y7_0),((Sum.inr (Str.ofString "3"):Key),Value.int 3 y7_1),((Sum.inr (Str.ofString "4"):Key),Value.int 4 y7_2)],u7,tab_mk r7 ⟨rfl,rfl,rfl⟩ rfl (.cons ⟨_,keyIs_str (Str.ofString "2") z7_0,g7_0⟩ (.cons ⟨_,keyIs_str (Str.ofString "3") z7_1,g7_1⟩ (.cons ⟨_,keyIs_str (Str.ofString "4") z7_2,g7_2⟩ .nil))) (.cons (keyIs_str (Str.ofString "2") z7_0) rfl (.cons (keyIs_str (Str.ofString "3") z7_1) rfl (.cons (keyIs_str (Str.ofString "4") z7_2) rfl (.nil)))) (show ([Sum.inr (Str.ofString "2"),Sum.inr (Str.ofString "3"),Sum.inr (Str.ofString "4")]:List Key).Nodup by decide +kernel),.cons ⟨(show (Sum.inr (Str.ofString "2"):Key) = Sum.inr ⟨[50].toArray⟩ by decide +kernel),tvi⟩ (.cons ⟨(show (Sum.inr (Str.ofString "3"):Key) = Sum.inr ⟨[51].toArray⟩ by decide +kernel),tvi⟩ (.cons ⟨(show (Sum.inr (Str.ofString "4"):Key) = Sum.inr ⟨[52].toArray⟩ by decide +kernel),tvi⟩ (.nil)))⟩
  | 8,e =>
   cases e
   exact ⟨[((Sum.inr (Str.ofString "1"):Key),Value.int 1 y8_0),((Sum.inr (Str.ofString "2"):Key),Value.int 2 y8_1),((Sum.inr (Str.ofString "3"):Key),Value.int 3 y8_2),((Sum.inr (Str.ofString "4"):Key),Value.int 4 y8_3)],u8,tab_mk r8 ⟨rfl,rfl,rfl⟩ rfl (.cons ⟨_,keyIs_str (Str.ofString "1") z8_0,g8_0⟩ (.cons ⟨_,keyIs_str (Str.ofString "2") z8_1,g8_1⟩ (.cons ⟨_,keyIs_str (Str.ofString "3") z8_2,g8_2⟩ (.cons ⟨_,keyIs_str (Str.ofString "4") z8_3,g8_3⟩ .nil)))) (.cons (keyIs_str (Str.ofString "1") z8_0) rfl (.cons (keyIs_str (Str.ofString "2") z8_1) rfl (.cons (keyIs_str (Str.ofString "3") z8_2) rfl (.cons (keyIs_str (Str.ofString "4") z8_3) rfl (.nil))))) (show ([Sum.inr (Str.ofString "1"),Sum.inr (Str.ofString "2"),Sum.inr (Str.ofString "3"),Sum.inr (Str.ofString "4")]:List Key).Nodup by decide +kernel),.cons ⟨(show (Sum.inr (Str.ofString "1"):Key) = Sum.inr ⟨[49].toArray⟩ by decide +kernel),tvi⟩ (.cons ⟨(show (Sum.inr (Str.ofString "2"):Key) = Sum.inr ⟨[50].toArray⟩ by decide +kernel),tvi⟩ (.cons ⟨(show (Sum.inr (Str.ofString "3"):Key) = Sum.inr ⟨[51].toArray⟩ by decide +kernel),tvi⟩ (.cons ⟨(show (Sum.inr (Str.ofString "4"):Key) = Sum.inr ⟨[52].toArray⟩ by decide +kernel),tvi⟩ (.nil))))⟩
  | n + 9,e => simp [tb,conL] at e
 exact ⟨_,fun s v => .of_eq rfl,fun base _ _ => law_ok (tb:=tb) (adr:=adr) (L:=40) (F:=⟨"law","law",st40,["_law_script"],N40,1,1,true,b40⟩) (fun _ => rfl) (fun _ => rfl) rfl rfl (fun _ => rfl) (fun _ => rfl) tp tab bodies F40 comp⟩
theorem walk {l:W.OpenLaw} {q:Program} {loose:List Str} {XP:(Str -> Option Value) -> Heap -> Prop} {YP:World -> Heap -> Prop} {d:DefRec} {K:Params -> W.Frag} (hn:l.most = some 63) (hdf:d.params.defaults = [])
  (hY:∀ (w:World) (h:Heap),YP w h -> (K w.params).In h)
  (F:∀ (w:World) (mg:Str -> Option Value) (fa:Addr) (h:Heap),(K w.params).In h -> h.Ns mainGlobals mg -> mg d.name = some (.ref fa) ->
   ∃ fd : FuncData, (∀ (s : Shared) (u : Value), BindsTo s fd ⟨[u], []⟩ [("_law_script", u)]) /\ ∀ base : Heap, (K w.params).In base -> base.Ns mainGlobals mg -> FnOk l.prog w (K w.params) mg base CX0 (2 * 68) fa fd ["_law_script"] (spLaw (K w.params))) :
  W.WalkO q loose XP YP l.row.toRowW d [] (fun f vs => PySem.call f vs) :=
 L2.walk_of (n:=63) (k:=2 * 68) (x:="_law_script") (CX:=fun _ => CX0) (sp:=fun w => spLaw (K w.params)) hn (by decide) hdf ⟨rfl,by decide,by decide⟩ hY F (fun _ _ a ns hl hO hS => ⟨a,ns,rfl,hS,hO,hl,fun _ => rfl⟩) fun _ _ _ _ _ z => z
end K44
open PySem PySem.W PyProof.Rows
set_option maxRecDepth 100000 in
set_option maxHeartbeats 0 in
theorem PySem.Challenge.cw_stitchroom_k44_whole_fewest_words_holds : PySem.Challenge.rw_stitchroom_k44_whole_fewest_words.Holds := by
 w_on; refine W.holds_law (by kernel_rfl) fun said => ?_
 refine holds_open (q:=K44.hq) (loose:=K44.hlo) (Xt:=K44.hXt) (XP:=XL K44.hq []) (Yf:=K44.hYf) (Ya:=K44.hYa) (YP:=Hook.says (kHook K44.K K44.KA K44.hKA)) (N:=11372) K44.hleft (Hook.of (kHook K44.K K44.KA K44.hKA)) (Hook.keeps (kHook K44.K K44.KA K44.hKA)) (fun s e => xl_of s (Bool.and_eq_true_iff.mp e).1) XL.keeps (by rfl) (by rfl) (by rfl) (fun s e => recFacts_of (Bool.and_eq_true_iff.mp e).2) (by rfl) (by first | assumption | decide +kernel) (by decide +kernel) ⟨rfl,rfl,rfl,rfl,rfl,by decide +kernel⟩ ?hw ?hc
 (case hw => w_witness2)
 k_fill
 refine K44.walk (l:=PySem.Challenge.rw_stitchroom_k44_whole_fewest_words) rfl rfl (fun w h Y => W.kIn_of Y) ?F
 case F =>
  intro w mg fa h KX G hmg
  refine' K44.all_mk KX G hmg ?n0 ?n1 ?n2 ?n3 ?n4 ?n5 ?n6 ?n7 ?n8 ?n9 ?a0 ?l0 ?e0 ?k0 ?a1 ?l1 ?e1 ?k1 ?a2 ?l2 ?e2 ?k2 ?a3 ?l3 ?e3 ?k3 ?a4 ?l4 ?e4 ?k4 ?a5 ?l5 ?e5 ?k5 ?a6 ?l6 ?e6 ?k6 ?a7 ?l7 ?e7 ?k7 ?a8 ?l8 ?e8 ?k8 ?a9 ?i9 ?l9 ?e9 ?k9 ?a10 ?i10 ?l10 ?e10 ?k10 ?a11 ?i11 ?l11 ?e11 ?k11 ?a12 ?i12 ?l12 ?e12 ?k12 ?a13 ?i13 ?l13 ?e13 ?k13 ?a14 ?i14 ?l14 ?e14 ?k14 ?a15 ?i15 ?l15 ?e15 ?k15 ?a16 ?i16 ?l16 ?e16 ?k16 ?a17 ?i17 ?l17 ?e17 ?k17 ?a18 ?i18 ?l18 ?e18 ?k18 ?a19 ?i19 ?l19 ?e19 ?k19 ?a20 ?i20 ?l20 ?e20 ?k20 ?a21 ?i21 ?l21 ?e21 ?k21 ?a22 ?i22 ?l22 ?e22 ?k22 ?a23 ?i23 ?l23 ?e23 ?k23 ?a24 ?l24 ?e24 ?k24 ?a25 ?l25 ?e25 ?k25 ?a26 ?l26 ?e26 ?k26 ?a27 ?l27 ?e27 ?k27 ?a28 ?l28 ?e28 ?k28 ?a29 ?l29 ?e29 ?k29 ?a30 ?l30 ?e30 ?k30 ?a31 ?l31 ?e31 ?k31 ?a32 ?l32 ?e32 ?k32 ?a33 ?l33 ?e33 ?k33 ?a34 ?l34 ?e34 ?k34 ?a35 ?l35 ?e35 ?k35 ?a36 ?l36 ?e36 ?k36 ?a37 ?l37 ?e37 ?k37 ?a38 ?l38 ?e38 ?k38 ?a39 ?l39 ?e39 ?k39 ?a40 ?l40 ?e40 ?k40 ?hn ?htk ?pg0 ?hd0 ?po0 ?sa0 ?mk0 ?kc0 ?ha0 ?hm0 ?ii0 ?x0_0 ?x0_1 ?x0_2 ?x0_3 ?x0_4 ?x0_5 ?pg1 ?hd1 ?po1 ?sa1 ?mk1 ?kc1 ?ha1 ?hm1 ?x1_0 ?x1_1 ?x1_2 ?x1_3 ?x1_4 ?x1_5 ?pg2 ?hd2 ?po2 ?sa2 ?mk2 ?kc2 ?ha2 ?hm2 ?ii2 ?x2_0 ?x2_1 ?x2_2 ?x2_3 ?x2_4 ?x2_5 ?pg3 ?hd3 ?po3 ?sa3 ?mk3 ?kc3 ?ha3 ?hm3 ?ii3 ?x3_0 ?x3_1 ?x3_2 ?x3_3 ?x3_4 ?x3_5 ?pg4 ?hd4 ?po4 ?sa4 ?mk4 ?kc4 ?ha4 ?hm4 ?x4_0 ?x4_1 ?x4_2 ?x4_3 ?x4_4 ?x4_5 ?pg5 ?hd5 ?po5 ?sa5 ?mk5 ?kc5 ?ha5 ?hm5 ?x5_0 ?x5_1 ?x5_2 ?x5_3 ?x5_4 ?x5_5 ?pg6 ?hd6 ?po6 ?sa6 ?mk6 ?kc6 ?ha6 ?hm6 ?x6_0 ?x6_1 ?x6_2 ?x6_3 ?x6_4 ?x6_5 ?pg7 ?hd7 ?po7 ?sa7 ?mk7 ?kc7 ?ha7 ?hm7 ?ii7 ?x7_0 ?x7_1 ?x7_2 ?x7_3 ?x7_4 ?x7_5 ?pg8 ?hd8 ?po8 ?sa8 ?mk8 ?kc8 ?ha8 ?hm8 ?x8_0 ?x8_1 ?x8_2 ?x8_3 ?x8_4 ?x8_5 ?pg9 ?hd9 ?po9 ?sa9 ?mk9 ?kc9 ?ha9 ?hm9 ?x9_0 ?x9_1 ?x9_2 ?x9_3 ?x9_4 ?x9_5 ?s0_0 ?s1_0 ?s2_0 ?s3_0 ?s4_0 ?s5_0 ?s6_0 ?s7_0 ?s8_0 ?s9_0 ?q0 ?r0 ?q1 ?r1 ?g1_0 ?g1_1 ?u1 ?q2 ?r2 ?g2_0 ?g2_1 ?u2 ?q3 ?r3 ?g3_0 ?g3_1 ?u3 ?q4 ?r4 ?g4_0 ?g4_1 ?u4 ?q5 ?r5 ?q6 ?r6 ?q7 ?r7 ?g7_0 ?g7_1 ?g7_2 ?u7 ?q8 ?r8 ?g8_0 ?g8_1 ?g8_2 ?g8_3 ?u8 ?z_len ?z_int ?z_str ?z_tuple ?z_list ?z_bool ?z_isinstance ?z_range ?z_sum ?z_max ?z_min ?z_abs
  case n0 | n1 | n2 | n3 | n4 | n5 | n6 | n7 | n8 | n9 | a0 | l0 | e0 | k0 | a1 | l1 | e1 | k1 | a2 | l2 | e2 | k2 | a3 | l3 | e3 | k3 | a4 | l4 | e4 | k4 | a5 | l5 | e5 | k5 | a6 | l6 | e6 | k6 | a7 | l7 | e7 | k7 | a8 | l8 | e8 | k8 | a9 | i9 | l9 | e9 | k9 | a10 | i10 | l10 | e10 | k10 | a11 | i11 | l11 | e11 | k11 | a12 | i12 | l12 | e12 | k12 | a13 | i13 | l13 | e13 | k13 | a14 | i14 | l14 | e14 | k14 | a15 | i15 | l15 | e15 | k15 | a16 | i16 | l16 | e16 | k16 | a17 | i17 | l17 | e17 | k17 | a18 | i18 | l18 | e18 | k18 | a19 | i19 | l19 | e19 | k19 | a20 | i20 | l20 | e20 | k20 | a21 | i21 | l21 | e21 | k21 | a22 | i22 | l22 | e22 | k22 | a23 | i23 | l23 | e23 | k23 | a24 | l24 | e24 | k24 | a25 | l25 | e25 | k25 | a26 | l26 | e26 | k26 | a27 | l27 | e27 | k27 | a28 | l28 | e28 | k28 | a29 | l29 | e29 | k29 | a30 | l30 | e30 | k30 | a31 | l31 | e31 | k31 | a32 | l32 | e32 | k32 | a33 | l33 | e33 | k33 | a34 | l34 | e34 | k34 | a35 | l35 | e35 | k35 | a36 | l36 | e36 | k36 | a37 | l37 | e37 | k37 | a38 | l38 | e38 | k38 | a39 | l39 | e39 | k39 | a40 | l40 | e40 | k40 | hn | htk | pg0 | hd0 | po0 | sa0 | mk0 | kc0 | ha0 | hm0 | ii0 | x0_0 | x0_1 | x0_2 | x0_3 | x0_4 | x0_5 | pg1 | hd1 | po1 | sa1 | mk1 | kc1 | ha1 | hm1 | x1_0 | x1_1 | x1_2 | x1_3 | x1_4 | x1_5 | pg2 | hd2 | po2 | sa2 | mk2 | kc2 | ha2 | hm2 | ii2 | x2_0 | x2_1 | x2_2 | x2_3 | x2_4 | x2_5 | pg3 | hd3 | po3 | sa3 | mk3 | kc3 | ha3 | hm3 | ii3 | x3_0 | x3_1 | x3_2 | x3_3 | x3_4 | x3_5 | pg4 | hd4 | po4 | sa4 | mk4 | kc4 | ha4 | hm4 | x4_0 | x4_1 | x4_2 | x4_3 | x4_4 | x4_5 | pg5 | hd5 | po5 | sa5 | mk5 | kc5 | ha5 | hm5 | x5_0 | x5_1 | x5_2 | x5_3 | x5_4 | x5_5 | pg6 | hd6 | po6 | sa6 | mk6 | kc6 | ha6 | hm6 | x6_0 | x6_1 | x6_2 | x6_3 | x6_4 | x6_5 | pg7 | hd7 | po7 | sa7 | mk7 | kc7 | ha7 | hm7 | ii7 | x7_0 | x7_1 | x7_2 | x7_3 | x7_4 | x7_5 | pg8 | hd8 | po8 | sa8 | mk8 | kc8 | ha8 | hm8 | x8_0 | x8_1 | x8_2 | x8_3 | x8_4 | x8_5 | pg9 | hd9 | po9 | sa9 | mk9 | kc9 | ha9 | hm9 | x9_0 | x9_1 | x9_2 | x9_3 | x9_4 | x9_5 => k_is
  case s0_0 | s1_0 | s2_0 | s3_0 | s4_0 | s5_0 | s6_0 | s7_0 | s8_0 | s9_0 => kit_is
  case q0 | r0 | q1 | r1 => k_is
  case g1_0 | g1_1 | u1 => rfl
  case q2 | r2 => k_is
  case g2_0 | g2_1 | u2 => rfl
  case q3 | r3 => k_is
  case g3_0 | g3_1 | u3 => rfl
  case q4 | r4 => k_is
  case g4_0 | g4_1 | u4 => rfl
  case q5 | r5 | q6 | r6 | q7 | r7 => k_is
  case g7_0 | g7_1 | g7_2 | u7 => rfl
  case q8 | r8 => k_is
  case g8_0 | g8_1 | g8_2 | g8_3 | u8 => rfl
  case z_len | z_int | z_str | z_tuple | z_list | z_bool | z_isinstance | z_range | z_sum | z_max | z_min | z_abs => k_is
