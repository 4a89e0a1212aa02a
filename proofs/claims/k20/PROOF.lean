import PyProof.Rows.All
import Wide.All
import OpenK.AllK
import Wide.FinOn
import PyProof.EqAt
import PyProof.EqKinds
import PyProof.TupleCall
import PySem.Challenge.RW_stitchroom_k20_unrolled
set_option Elab.async false
set_option linter.all false
set_option maxRecDepth 100000
set_option maxHeartbeats 4000000
namespace L2
open PySem PySem.Spec PyProof.Rows
abbrev Key := Sum Int Str
def keyIs : Key → Value → Bool
  | .inl k, v => Value.isInt k v
  | .inr x, v => Value.isStrOf x v
def keyH (w : World) : Key → Int
  | .inl k => hashInt k
  | .inr x => hashStr w x
theorem keyIs_shape : ∀ {k : Key} {v : Value}, keyIs k v = true → (∃ i t, k = Sum.inl i ∧ v = Value.int i t) ∨ (∃ x t, k = Sum.inr x ∧ v = Value.str x t)
  | .inl i, v, h => by
    obtain ⟨t, e⟩ := Value.isInt_shape (k := i) (v := v) h
    exact .inl ⟨i, t, rfl, e⟩
  | .inr x, v, h => by
    obtain ⟨t, e⟩ := Value.isStrOf_shape (x := x) (v := v) h
    exact .inr ⟨x, t, rfl, e⟩
theorem keyIs_int (i : Int) (t : Tok) : keyIs (.inl i) (.int i t) = true := by simp [keyIs, Value.isInt]
theorem keyIs_str (x : Str) (t : Tok) : keyIs (.inr x) (.str x t) = true := by simp [keyIs, Value.isStrOf]
theorem key_ll (a b : Int) : decide ((Sum.inl a : Key) = Sum.inl b) = (a == b) := by
  by_cases e : a = b
  · subst e; simp
  · have h : ¬ (Sum.inl a : Key) = Sum.inl b := fun q => e (Sum.inl.inj q)
    rw [decide_eq_false h]
    exact (beq_eq_false_iff_ne.mpr e).symm
theorem key_rr (a b : Str) : decide ((Sum.inr a : Key) = Sum.inr b) = decide (a = b) := by
  by_cases e : a = b
  · subst e; simp
  · have h : ¬ (Sum.inr a : Key) = Sum.inr b := fun q => e (Sum.inr.inj q)
    rw [decide_eq_false h, decide_eq_false e]
theorem key_lr (a : Int) (b : Str) : decide ((Sum.inl a : Key) = Sum.inr b) = false := decide_eq_false (fun q => nomatch q)
theorem key_rl (a : Str) (b : Int) : decide ((Sum.inr a : Key) = Sum.inl b) = false := decide_eq_false (fun q => nomatch q)
def mixKind (prog : Program) (w : World) : PySem.KeyKind prog w Key where
  is := keyIs
  hash := keyH w
  inj := fun v a b ha hb => by
    rcases keyIs_shape ha with ⟨i, t, rfl, rfl⟩ | ⟨x, t, rfl, rfl⟩
    · rcases keyIs_shape hb with ⟨j, u, rfl, e⟩ | ⟨y, u, rfl, e⟩
      · injection e with e1 _; rw [e1]
      · exact nomatch e
    · rcases keyIs_shape hb with ⟨j, u, rfl, e⟩ | ⟨y, u, rfl, e⟩
      · exact nomatch e
      · injection e with e1 _; rw [e1]
  byValue := fun k v h => by
    rcases keyIs_shape h with ⟨i, t, rfl, rfl⟩ | ⟨x, t, rfl, rfl⟩ <;> rfl
  pyHash := fun hv h => by
    rcases keyIs_shape hv with ⟨i, t, rfl, rfl⟩ | ⟨x, t, rfl, rfl⟩
    · exact wpAny_pyHash_int h
    · exact wpAny_pyHash_str h
  eqBool := fun hu hv h => by
    rcases keyIs_shape hu with ⟨i, t, rfl, rfl⟩ | ⟨x, t, rfl, rfl⟩
    · rcases keyIs_shape hv with ⟨j, u, rfl, rfl⟩ | ⟨y, u, rfl, rfl⟩
      · rw [key_ll] at h; exact wpAny_eqBool_int h
      · rw [key_lr] at h; exact SeqAt.EqAt.int_str i t y u _ _ _ _ h
    · rcases keyIs_shape hv with ⟨j, u, rfl, rfl⟩ | ⟨y, u, rfl, rfl⟩
      · rw [key_rl] at h; exact SeqAt.EqAt.str_int x t j u _ _ _ _ h
      · rw [key_rr] at h; exact wpAny_eqBool_str h
  «strs» := fun k x t v h => by
    rcases keyIs_shape h with ⟨i, u, rfl, e⟩ | ⟨y, u, rfl, e⟩
    · exact nomatch e
    · injection e with e1 _
      subst e1
      cases v <;> rfl
theorem mixKind_int (prog : Program) (w : World) (i : Int) (t : Tok) : (mixKind prog w).is (.inl i) (.int i t) = true := keyIs_int i t
theorem mixKind_str (prog : Program) (w : World) (x : Str) (t : Tok) : (mixKind prog w).is (.inr x) (.str x t) = true := keyIs_str x t
end L2
namespace L2
open PySem PySem.Spec PyProof.Rows
inductive V where
  | non | bl (b : Bool) | int (i : Int) | str (x : Str) | byt (b : Array UInt8) | flt (b : UInt64) | ref (a : Addr) | ty (n : String)
  deriving DecidableEq
def RelV : V → Value → Prop
  | .non, u => u = Value.none
  | .bl b, u => u = Value.bool b
  | .int i, u => ∃ t, u = Value.int i t
  | .str x, u => ∃ t, u = Value.str x t
  | .byt b, u => ∃ t, u = Value.bytes b t
  | .flt b, u => ∃ t, u = Value.float b t
  | .ref a, u => u = Value.ref a
  | .ty n, u => u = Value.type n
abbrev Vals : List V → List Value → Prop := Paired RelV
theorem Vals.length {xs : List V} {us : List Value} (r : Vals xs us) : xs.length = us.length := Paired.length r
theorem Vals.get : ∀ {xs : List V} {us : List Value} {i : Nat} {x : V}, Vals xs us → xs[i]? = some x → ∃ u, us[i]? = some u ∧ RelV x u
  | _, _, _, _, .nil, e => by simp at e
  | _, _, 0, _, .cons r _, e => by simp at e; subst e; exact ⟨_, rfl, r⟩
  | _, _, i + 1, x, .cons _ t, e => by
    obtain ⟨u, h1, h2⟩ := Vals.get (i := i) (x := x) t (by simpa using e)
    exact ⟨u, by simpa using h1, h2⟩
theorem Vals.append : ∀ {xs ys : List V} {us ws : List Value}, Vals xs us → Vals ys ws → Vals (xs ++ ys) (us ++ ws)
  | _, _, _, _, .nil, s => s
  | _, _, _, _, .cons r t, s => .cons r (Vals.append t s)
theorem Vals.take : ∀ {xs : List V} {us : List Value} (n : Nat), Vals xs us → Vals (xs.take n) (us.take n)
  | _, _, 0, _ => .nil
  | _, _, _ + 1, .nil => .nil
  | _, _, n + 1, .cons r t => .cons r (Vals.take n t)
theorem Vals.drop : ∀ {xs : List V} {us : List Value} (n : Nat), Vals xs us → Vals (xs.drop n) (us.drop n)
  | _, _, 0, r => r
  | _, _, _ + 1, .nil => .nil
  | _, _, n + 1, .cons _ t => Vals.drop n t
def RelO : Option V → Option Value → Prop
  | some v, some u => RelV v u
  | none, none => True
  | _, _ => False
def KV {κ : Type} : List (κ × V) → List (κ × Value) → Prop := Paired fun (p : κ × V) (q : κ × Value) => p.1 = q.1 ∧ RelV p.2 q.2
def kV : Key → V
  | .inl i => .int i
  | .inr x => .str x
inductive HO where
  /-- a list -/
  | lst (xs : List V)
  /-- a tuple (never changes) -/
  | tup (xs : List V)
  /-- a dict whose keys are ints and texts; one whose keys are tuples of ints and texts (the empty one is both) -/
  | dK (kvs : List (Key × V)) | dT (kvs : List (List Key × V))
  /-- a set of ints: its members, its size -/
  | set (S : Int → Bool) (n : Nat)
  /-- an instance of the class at C, its dict at dx, its attributes -/
  | ins (C dx : Addr) (fs : List (Str × V))
  /-- the dict of the instance at x -/
  | own (x : Addr)
  /-- the dict of an exception -/
  | xd (fs : List (Str × V))
  /-- a bound method, f of x -/
  | met (f x : Addr)
  /-- a range object lo, lo + 1, .. below hi -/
  | rng (lo hi : Int)
  /-- a thing that is known to the object (the script; a dict while a loop walks it): read, never written while it is so -/
  | frz (o : Obj) (u : HO)
  /-- a code object's table -/
  | tbl (ps : Array Value)
  /-- any other thing, by what is true of its one object (a def of one's own: SetO a S n := HO.ext fun h => ..) -/
  | ext (φ : Heap → Prop)
abbrev Hp := Addr → Option HO
def upd (H : Hp) (a : Addr) (o : HO) : Hp := fun b => if b = a then some o else H b
theorem upd_same {H : Hp} {a : Addr} {o : HO} : upd H a o a = some o := by unfold upd; rw [if_pos rfl]
theorem upd_ne {H : Hp} {a b : Addr} {o : HO} (h : b ≠ a) : upd H a o b = H b := by unfold upd; rw [if_neg h]
theorem ne_of_none {H : Hp} {a b : Addr} {o : HO} (h : H a = some o) (h' : H b = none) : a ≠ b := by
  intro e; subst e; rw [h] at h'; cases h'
section
variable (P : Program) (w : World)
def ObjOk (H : Hp) (h : Heap) (a : Addr) : HO → Prop
  | .lst xs => xs.length ≤ sizeLine ∧ ∃ (its : List Value) (n : Nat), Vals xs its ∧ h.get? a = some { cls := .type "list", data := .seq its.toArray n }
  | .tup xs => xs.length ≤ sizeLine ∧ ∃ its : List Value, Vals xs its ∧ IsTup h a its.toArray
  | .dK kvs => kvs.length ≤ sizeLine ∧ (a == sysModules) = false ∧ ∃ vs, KV kvs vs ∧ h.DictOf (mixKind P w) a vs
  | .dT kvs => kvs.length ≤ sizeLine ∧ (a == sysModules) = false ∧ ∃ xs : List (List Key × Addr × Value),
      Paired (fun (p : List Key × V) (q : List Key × Addr × Value) => p.1 = q.1 ∧ H q.2.1 = some (.tup (p.1.map kV)) ∧ RelV p.2 q.2.2) kvs xs ∧
      ∃ o es ep, h.get? a = some o ∧ o.ExactDict ∧ o.data = .dict es ep ∧ es.toList = xs.map (entryOfKey (tupleKind (mixKind P w))) ∧ (xs.map (·.1)).Nodup
  | .set S n => h.SetOf (intKind P w) a S n
  | .ins C dx fs => H dx = some (.own a) ∧ fs.length ≤ 1000 ∧ dx ≠ a ∧ h.get? a = some (PySem.W.instObj C dx) ∧
      ∃ mA, h.Ns1 dx mA ∧ (∀ f, RelO (fs.lookup f) (mA f)) ∧ PySem.Within mA (fs.map (·.1))
  | .own _ => ∃ o, h.get? a = some o
  | .xd fs => ∃ mA, h.Ns1 a mA ∧ ∀ f, RelO (fs.lookup f) (mA f)
  | .rng lo hi => ∃ t u v, h.get? a = some { cls := .type "range", data := .fields #[.int lo t, .int hi u, .int 1 v] }
  | .frz o u => h.get? a = some o ∧ ObjOk H h a u
  | .tbl ps => h.get? a = some { cls := .none, data := .fields ps }
  | .met f x => h.get? a = some (PySem.W.methodObj (.ref f) (.ref x))
  | .ext φ => φ h ∧ (∃ o, h.get? a = some o) ∧ ∀ h1 h2 : Heap, φ h1 → (∀ o, h1.get? a = some o → h2.get? a = some o) → φ h2
def HOk (H : Hp) (h : Heap) : Prop := ∀ a o, H a = some o → ObjOk P w H h a o
end
section
variable {P : Program} {w : World} {H H' : Hp} {h h' : Heap} {a : Addr} {o : HO}
theorem ObjOk.lt (x : ObjOk P w H h a o) : a < h.objs.size := by
  cases o with
  | lst xs => obtain ⟨_, _, _, _, e⟩ := x; exact Heap.lt_size e
  | tup xs => obtain ⟨_, _, _, p⟩ := x; exact p.lt
  | dK kvs => obtain ⟨_, _, _, _, o, _, _, e, _⟩ := x; exact Heap.lt_size e
  | dT kvs => obtain ⟨_, _, _, _, o, _, _, e, _⟩ := x; exact Heap.lt_size e
  | set S n => obtain ⟨o, _, _, _, e, _⟩ := x; exact Heap.lt_size e
  | ins C dx fs => obtain ⟨_, _, _, e, _⟩ := x; exact Heap.lt_size e
  | own y => obtain ⟨_, e⟩ := x; exact Heap.lt_size e
  | xd fs => obtain ⟨_, ⟨_, _, _, e, _⟩, _⟩ := x; exact Heap.lt_size e
  | rng lo hi => obtain ⟨_, _, _, e⟩ := x; exact Heap.lt_size e
  | frz ob u => obtain ⟨e, _⟩ := x; exact Heap.lt_size e
  | tbl ps => exact Heap.lt_size (show h.get? a = some _ from x)
  | met f y => exact Heap.lt_size (show h.get? a = some _ from x)
  | ext φ => obtain ⟨_, ⟨_, e⟩, _⟩ := x; exact Heap.lt_size e
theorem Paired.mapP {α β : Type} {F G : α → β → Prop} : ∀ {l₁ : List α} {l₂ : List β}, Paired F l₁ l₂ → (∀ a b, F a b → G a b) → Paired G l₁ l₂
  | _, _, .nil, _ => .nil
  | _, _, .cons r t, f => .cons (f _ _ r) (Paired.mapP t f)
theorem ObjOk.stay (x : ObjOk P w H h a o) (k : ∀ b u, (b = a ∨ H b = some (.own a)) → h.get? b = some u → h'.get? b = some u)
    (ho : ∀ b, H b = some (.own a) → H' b = some (.own a)) (ht : ∀ b xs, H b = some (.tup xs) → H' b = some (.tup xs)) : ObjOk P w H' h' a o := by
  induction o with
  | lst xs => obtain ⟨z, its, n, r, e⟩ := x; exact ⟨z, its, n, r, k _ _ (.inl rfl) e⟩
  | tup xs => obtain ⟨z, its, r, ob, e, c⟩ := x; exact ⟨z, its, r, ob, k _ _ (.inl rfl) e, c⟩
  | dK kvs => obtain ⟨z, y, vs, r, ob, es, ep, e, c⟩ := x; exact ⟨z, y, vs, r, ob, es, ep, k _ _ (.inl rfl) e, c⟩
  | dT kvs =>
    obtain ⟨z, y, xs, r, ob, es, ep, e, c⟩ := x
    exact ⟨z, y, xs, Paired.mapP r fun p q z => ⟨z.1, ht _ _ z.2.1, z.2.2⟩, ob, es, ep, k _ _ (.inl rfl) e, c⟩
  | set S n => obtain ⟨ob, es, ep, t, e, c⟩ := x; exact ⟨ob, es, ep, t, k _ _ (.inl rfl) e, c⟩
  | ins C dx fs =>
    obtain ⟨d, z, ne, e, mA, ⟨od, es, ep, e2, c⟩, r⟩ := x
    exact ⟨ho _ d, z, ne, k _ _ (.inl rfl) e, mA, ⟨od, es, ep, k _ _ (.inr d) e2, c⟩, r⟩
  | own y => obtain ⟨ob, e⟩ := x; exact ⟨ob, k _ _ (.inl rfl) e⟩
  | xd fs => obtain ⟨mA, ⟨od, es, ep, e, c⟩, r⟩ := x; exact ⟨mA, ⟨od, es, ep, k _ _ (.inl rfl) e, c⟩, r⟩
  | rng lo hi => obtain ⟨t, u, v, e⟩ := x; exact ⟨t, u, v, k _ _ (.inl rfl) e⟩
  | frz ob u ih => obtain ⟨e, q⟩ := x; exact ⟨k _ _ (.inl rfl) e, ih q⟩
  | tbl ps =>
    have e : h.get? a = some { cls := .none, data := .fields ps } := x
    show h'.get? a = some { cls := .none, data := .fields ps }
    exact k a _ (.inl rfl) e
  | met f y =>
    have e : h.get? a = some (PySem.W.methodObj (.ref f) (.ref y)) := x
    show h'.get? a = some (PySem.W.methodObj (.ref f) (.ref y))
    exact k a _ (.inl rfl) e
  | ext φ => obtain ⟨p, ⟨o, e⟩, st⟩ := x; exact ⟨st _ _ p fun o q => k _ _ (.inl rfl) q, ⟨o, k _ _ (.inl rfl) e⟩, st⟩
theorem HOk.lt (x : HOk P w H h) (e : H a = some o) : a < h.objs.size := (x a o e).lt
theorem HOk.fresh (x : HOk P w H h) (e : h.objs.size ≤ a) : H a = none := by
  cases q : H a with
  | none => rfl
  | some u => exact absurd (Nat.lt_of_lt_of_le (x.lt q) e) (Nat.lt_irrefl _)
theorem HOk.kept (x : HOk P w H h) (k : ∀ b u, h.get? b = some u → h'.get? b = some u) : HOk P w H h' := fun a o e =>
  (x a o e).stay (fun b u _ q => k b u q) (fun _ q => q) fun _ _ q => q
theorem HOk.laid (x : HOk P w H h) (k : ∀ b u, h.get? b = some u → h'.get? b = some u) (hp : h.objs.size ≤ a) (new : ObjOk P w (upd H a o) h' a o) : HOk P w (upd H a o) h' := fun b u e => by
  have hn := x.fresh hp
  by_cases hb : b = a
  · subst hb; rw [upd_same] at e; cases e; exact new
  · rw [upd_ne hb] at e
    exact (x b u e).stay (fun c v _ q => k c v q) (fun c q => by rw [upd_ne (ne_of_none q hn)]; exact q) fun c xs q => by rw [upd_ne (ne_of_none q hn)]; exact q
end
def Rd (H : Hp) (a : Addr) (u : HO) : Prop := H a = some u ∨ ∃ o, H a = some (.frz o u)
theorem Rd.ok {P : Program} {w : World} {H : Hp} {h : Heap} {a : Addr} {u : HO} (r : Rd H a u) (x : HOk P w H h) : ObjOk P w H h a u := by
  rcases r with r | ⟨o, r⟩
  · exact x a u r
  · obtain ⟨_, q⟩ := x a _ r
    exact q
def Mut : Option HO → Prop
  | some (.lst _) => True
  | some (.dK _) => True
  | some (.dT _) => True
  | some (.set _ _) => True
  | some (.ins _ _ _) => True
  | some (.ext _) => True
  | _ => False
section
variable {P : Program} {w : World} {H : Hp} {h h' : Heap} {x e : Addr} {o' : HO}
theorem HOk.write (ok : HOk P w H h) (mu : Mut (H x)) (he : e = x ∨ H e = some (.own x)) (k : ∀ b u, b ≠ e → h.get? b = some u → h'.get? b = some u) (heo : ∃ u, h'.get? e = some u)
    (new : ObjOk P w (upd H x o') h' x o') : HOk P w (upd H x o') h' := fun b u q => by
  have nown : ∀ c y, H c = some (.own y) → c ≠ x := fun c y r z => by subst z; rw [r] at mu; exact mu
  have ntup : ∀ c xs, H c = some (.tup xs) → c ≠ x := fun c xs r z => by subst z; rw [r] at mu; exact mu
  by_cases hb : b = x
  · subst hb; rw [upd_same] at q; cases q; exact new
  · rw [upd_ne hb] at q
    by_cases hbe : b = e
    · have q' : H b = some (.own x) := by
        rcases he with z | z
        · exact absurd (hbe.trans z) hb
        · rw [hbe]; exact z
      rw [q] at q'; cases q'
      obtain ⟨v, hv⟩ := heo
      exact ⟨v, by rw [hbe]; exact hv⟩
    · refine (ok b u q).stay (fun c v hc r => k c v ?_ r) (fun c r => by rw [upd_ne (nown c b r)]; exact r) fun c xs r => by rw [upd_ne (ntup c xs r)]; exact r
      rcases hc with rfl | hc
      · exact hbe
      · rintro rfl
        rcases he with z | z
        · exact nown c b hc z
        · rw [hc] at z; cases z; exact hb rfl
end
structure Un (fs ex : List Addr) (H H' : Hp) (h h' : Heap) : Prop where
  keep : ∀ b o, h.get? b = some o → H b = none → b ∉ fs → b ∉ ex → h'.get? b = some o
  slot : ∀ b o, h.get? b = some o → H b = none → b ∈ fs → b ∉ ex → ∃ sl, h'.get? b = some { o with slots := sl }
  free : ∀ b o, h.get? b = some o → H b = none → b ∉ ex → H' b = none
  there : ∀ b o, h.get? b = some o → b ∉ ex → ∃ o', h'.get? b = some o'
  tups : ∀ b xs, H b = some (.tup xs) → H' b = some (.tup xs)
  frzs : ∀ b o u, H b = some (.frz o u) → H' b = some (.frz o u)
  tbls : ∀ b ps, H b = some (.tbl ps) → ∃ more, H' b = some (.tbl (ps ++ more))
section
variable {fs fs' ex ex' : List Addr} {H H1 H2 : Hp} {h h1 h2 h' : Heap} {a x e : Addr} {o : HO}
theorem Un.any (u : Un fs ex H H1 h h1) {b : Addr} {ob : Obj} (q : h.get? b = some ob) (n : H b = none) (hx : b ∉ ex) : ∃ sl, h1.get? b = some { ob with slots := sl } := by
  by_cases hb : b ∈ fs
  · exact u.slot b ob q n hb hx
  · exact ⟨ob.slots, u.keep b ob q n hb hx⟩
theorem Un.kept (k : ∀ b u, h.get? b = some u → h'.get? b = some u) : Un fs ex H H h h' :=
  ⟨fun b ob q _ _ _ => k b ob q, fun b ob q _ _ _ => ⟨ob.slots, k b ob q⟩, fun _ _ _ n _ => n, fun b ob q _ => ⟨ob, k b ob q⟩, fun _ _ q => q, fun _ _ _ q => q, fun _ ps q => ⟨#[], by rw [q]; simp⟩⟩
theorem Un.refl : Un fs ex H H h h := Un.kept fun _ _ q => q
theorem Un.laid (k : ∀ b u, h.get? b = some u → h'.get? b = some u) (hp : h.objs.size ≤ a) (hn : H a = none) : Un fs ex H (upd H a o) h h' where
  keep := fun b u q _ _ _ => k b u q
  slot := fun b u q _ _ _ => ⟨u.slots, k b u q⟩
  free := fun b u q n _ => by rw [upd_ne (Nat.ne_of_lt (Nat.lt_of_lt_of_le (Heap.lt_size q) hp))]; exact n
  there := fun b u q _ => ⟨u, k b u q⟩
  tups := fun b xs q => by rw [upd_ne (ne_of_none q hn)]; exact q
  frzs := fun b u xs q => by rw [upd_ne (ne_of_none q hn)]; exact q
  tbls := fun b ps q => ⟨#[], by rw [upd_ne (ne_of_none q hn), q]; simp⟩
theorem Un.write (mu : Mut (H x)) (he : e = x ∨ H e = some (.own x)) (k : ∀ b u, b ≠ e → h.get? b = some u → h'.get? b = some u) (heo : ∃ u, h'.get? e = some u) : Un fs ex H (upd H x o) h h' := by
  have hx : ∀ b, H b = none → b ≠ x := fun b n z => by subst z; rw [n] at mu; exact mu
  have hb : ∀ b, H b = none → b ≠ e := fun b n z => by
    subst z
    rcases he with r | r
    · exact hx b n r
    · rw [n] at r; cases r
  have hm : ∀ b u, H b = some u → ¬ Mut (some u) → b ≠ x := fun b u q nm z => by subst z; rw [q] at mu; exact nm mu
  refine ⟨fun b u q n _ _ => k b u (hb b n) q, fun b u q n _ _ => ⟨u.slots, k b u (hb b n) q⟩, fun b u q n _ => by rw [upd_ne (hx b n)]; exact n, fun b u q _ => ?_,
    fun b xs q => by rw [upd_ne (hm b _ q fun z => z)]; exact q, fun b u xs q => by rw [upd_ne (hm b _ q fun z => z)]; exact q, fun b ps q => ⟨#[], by rw [upd_ne (hm b _ q fun z => z), q]; simp⟩⟩
  by_cases hbe : b = e
  · subst hbe; exact heo
  · exact ⟨u, k b u hbe q⟩
end
def trk (h : Heap) (H : Hp) : List Addr := (List.range h.objs.size).filter fun a => (H a).isSome
def hidT (h : Heap) (H : Hp) : Heap := PySem.W.hideAll h (trk h H)
theorem hidT_size (h : Heap) (H : Hp) : (hidT h H).objs.size = h.objs.size := PySem.W.hideAll_size _ _
theorem hidT_get {h : Heap} {H : Hp} {b : Addr} {o : Obj} (e : h.get? b = some o) (n : H b = none) : (hidT h H).get? b = some o :=
  PySem.W.hideAll_get _ e fun hm => by
    have q : (H b).isSome = true := (List.mem_filter.mp hm).2
    rw [n] at q; simp at q
theorem of_hidT {h : Heap} {H : Hp} {b : Addr} {o : Obj} (e : (hidT h H).get? b = some o) : h.get? b = some o ∧ H b = none := by
  have e' : h.get? b = some o := PySem.W.of_hideAll (trk h H) e
  refine ⟨e', ?_⟩
  cases q : H b with
  | none => rfl
  | some x =>
    have hm : b ∈ trk h H := List.mem_filter.mpr ⟨List.mem_range.mpr (Heap.lt_size e'), by simp [q]⟩
    have z : (hidT h H).get? b = none := PySem.W.hideAll_none (trk h H) hm
    rw [z] at e; cases e
end L2
namespace L2
open PySem PySem.Spec PyProof.Rows
structure Mod (K : PySem.W.Frag) (mg : Str → Option Value) (base : Heap) : Prop where
  kin : K.In base
  glob : base.Ns mainGlobals mg
  blt : ∃ mb, base.Ns builtinsNs mb ∧ ∀ x : Str, x ≠ "__name__" → mb x = bootBuiltins x
  nolimit : base.NoLimit
structure Cx where
  prog : Program
  w : World
  K : PySem.W.Frag
  mg : Str → Option Value
  base : Heap
  A : Around
  N : List Str
  s₀ : Shared
  H₀ : Hp
  env : Env
  outer : List Env
  stack : List Env
  ex : List Addr
  fn : Str → Bool
  calm : Bool
  pn : List (Addr × Obj)
  xe : Value → Shared → Prop
def frs (l : List Env) : List Addr := l.filterMap (·.frame)
abbrev Cx.fs (X : Cx) : List Addr := frs X.outer
def Vis (sc : Scope) (x : Str) : Prop := sc.names.lookup x = some .local ∨ sc.names.lookup x = some .cell ∨ sc.names.lookup x = some .free
def Loc (sc : Scope) (x : Str) : Prop := sc.names.lookup x = some .local ∨ sc.names.lookup x = some .cell
def Look (env : Env) (h : Heap) (m : Str → Option Value) (x : Str) (u : Value) : Prop :=
  (env.kindOf x = some .local ∧ m x = some u) ∨ ((env.kindOf x = some .cell ∨ env.kindOf x = some .free) ∧ ∃ c, env.cells.lookup x = some c ∧ h.IsCell c (some u))
structure Cx.Ok (X : Cx) : Prop where
  mod : Mod X.K X.mg X.base
  kind : X.env.scope.kind = .function
  glob : X.env.globals = mainGlobals
  blt : X.env.builtins = builtinsNs
  above : X.s₀.heap.objs.size ≤ X.env.locals
  inj : ∀ x y c, X.env.cells.lookup x = some c → X.env.cells.lookup y = some c → x = y
  has : ∀ x, (X.env.kindOf x = some .cell ∨ X.env.kindOf x = some .free) → ∃ c, X.env.cells.lookup x = some c
  cab : ∀ x c, X.fn x = true → X.env.cells.lookup x = some c → X.s₀.heap.objs.size ≤ c
  hd : X.calm = true → X.A.handled = none
  frames : X.A.frames = some X.stack
  stk : X.stack = X.outer ∨ (X.stack = X.env :: X.outer ∧ X.env.frame = some X.env.locals)
  exf : ∀ b ∈ X.ex, b ≠ X.env.locals ∧ ∀ x c, X.env.cells.lookup x = some c → c ≠ b
  bs : ∀ b o, X.base.get? b = some o → X.s₀.heap.get? b = some o ∧ X.H₀ b = none
  bsz : X.base.objs.size ≤ X.s₀.heap.objs.size
  noex : ∀ b o, X.base.get? b = some o → b ∉ X.ex
  exfs : ∀ b ∈ X.ex, b ∉ X.fs
  funs : X.s₀.heap.FunFrames X.base X.outer
  frf : ∀ b ∈ X.fs, X.H₀ b = none
structure Inv (X : Cx) (pins : List (Addr × Obj)) (σ : List (Option V)) (H : Hp) (s : Shared) : Prop where
  ok : X.Ok
  os : s.os = X.s₀.os
  bare : AllBare s.gens
  base : Un X.fs X.ex X.H₀ H X.s₀.heap s.heap
  loc : ∃ m, s.heap.Ns X.env.locals m ∧ ∀ (i : Nat) (x : Str) (v : V), X.N[i]? = some x → σ[i]? = some (some v) → Vis X.env.scope x → ∃ u, RelV v u ∧ Look X.env s.heap m x u
  cell : ∀ x c, X.env.cells.lookup x = some c → ∃ v, s.heap.IsCell c v
  free : H X.env.locals = none
  freeC : ∀ x c, X.env.cells.lookup x = some c → H c = none
  pin : ∀ p ∈ X.pn ++ pins, s.heap.get? p.1 = some p.2 ∧ H p.1 = none ∧ p.1 ≠ X.env.locals ∧ p.1 ∉ X.fs ∧ ∀ v, p.2.data ≠ .cell v
  hok : HOk X.prog X.w H s.heap
  len : σ.length = X.N.length
section
variable {X : Cx} {pins : List (Addr × Obj)} {σ : List (Option V)} {H H' : Hp} {s : Shared} {h' : Heap}
theorem Cx.Ok.nofr (ok : X.Ok) {b : Addr} {o : Obj} (e : X.base.get? b = some o) : b ∉ X.fs := fun hb => by
  have := (ok.funs.mem hb).1
  rw [e] at this; cases this
theorem Inv.bs (I : Inv X pins σ H s) : ∀ b o, X.base.get? b = some o → s.heap.get? b = some o ∧ H b = none := fun b o e =>
  ⟨I.base.keep b o (I.ok.bs b o e).1 (I.ok.bs b o e).2 (I.ok.nofr e) (I.ok.noex b o e), I.base.free b o (I.ok.bs b o e).1 (I.ok.bs b o e).2 (I.ok.noex b o e)⟩
theorem Inv.bk (I : Inv X pins σ H s) : ∀ b o, X.base.get? b = some o → s.heap.get? b = some o := fun b o e => (I.bs b o e).1
theorem Inv.mod (I : Inv X pins σ H s) : Mod X.K X.mg X.base := I.ok.mod
theorem Inv.kIn (I : Inv X pins σ H s) : X.K.In s.heap := I.ok.mod.kin.keeps I.bk
theorem Inv.lt (I : Inv X pins σ H s) : X.env.locals < s.heap.objs.size := let ⟨_, hn, _⟩ := I.loc; hn.lt
theorem Inv.sz (I : Inv X pins σ H s) : X.s₀.heap.objs.size ≤ s.heap.objs.size := Nat.le_trans I.ok.above (Nat.le_of_lt I.lt)
theorem Inv.nofs (I : Inv X pins σ H s) {a : Addr} (h : s.heap.objs.size ≤ a) : a ∉ X.fs := fun hb => by
  obtain ⟨_, o, ho, _⟩ := I.ok.funs.mem hb
  exact absurd (Nat.lt_of_lt_of_le (Heap.lt_size ho) (Nat.le_trans I.sz h)) (Nat.lt_irrefl _)
theorem Inv.cne (I : Inv X pins σ H s) : ∀ x c, X.env.cells.lookup x = some c → c ≠ X.env.locals := fun x c e z => by
  obtain ⟨v, o, ho, hd⟩ := I.cell x c e
  obtain ⟨m, ⟨o', es, ep, ho', hd', _⟩, _⟩ := I.loc
  rw [z, ho'] at ho; cases ho; rw [hd'] at hd; cases hd
theorem Inv.funs (I : Inv X pins σ H s) : s.heap.FunFrames X.base X.outer := by
  have all : ∀ (l : List Env), (∀ b ∈ frs l, b ∈ X.fs) → X.s₀.heap.FunFrames X.base l → s.heap.FunFrames X.base l := by
    intro l
    induction l with
    | nil => intro _ _; trivial
    | cons env r ih =>
      intro hs hl
      obtain ⟨hk, ⟨L, o, hf, hn, ho, hd⟩, hr⟩ := hl
      have hL : L ∈ X.fs := hs L (by unfold frs; rw [List.filterMap_cons, hf]; exact List.mem_cons_self)
      obtain ⟨sl, e⟩ := I.base.slot L o ho (I.ok.frf L hL) hL fun z => I.ok.exfs L z hL
      exact ⟨hk, ⟨L, _, hf, hn, e, hd⟩, ih (fun b hb => hs b (by unfold frs; rw [List.filterMap_cons, hf]; exact List.mem_cons_of_mem _ hb)) hr⟩
  exact all X.outer (fun _ hb => hb) I.ok.funs
theorem Inv.stack (I : Inv X pins σ H s) : s.heap.FunFrames X.base X.stack := by
  rcases I.ok.stk with e | ⟨e, hf⟩
  · rw [e]; exact I.funs
  · rw [e]
    obtain ⟨m, hn, _⟩ := I.loc
    refine .cons (by rw [I.ok.kind]; decide) hf hn ?_ I.funs
    exact Heap.get?_none_of_le (Nat.le_trans I.ok.bsz I.ok.above)
theorem Inv.stkSub (I : Inv X pins σ H s) : ∀ b ∈ frs X.stack, b ∈ X.env.locals :: X.fs := fun b hb => by
  rcases I.ok.stk with e | ⟨e, hf⟩
  · rw [e] at hb; exact List.mem_cons_of_mem _ hb
  · rw [e] at hb
    unfold frs at hb
    rw [List.filterMap_cons, hf] at hb
    exact hb
theorem Inv.stkFree (I : Inv X pins σ H s) : ∀ b ∈ frs X.stack, H b = none := fun b hb => by
  rcases List.mem_cons.mp (I.stkSub b hb) with e | hb
  · rw [e]; exact I.free
  · obtain ⟨_, o, ho, _⟩ := I.ok.funs.mem hb
    exact I.base.free b o ho (I.ok.frf b hb) fun z => I.ok.exfs b z hb
theorem Inv.step {g' : Array GenState} {t' : Nat} {d' : Drawn} {ch : List Addr} (I : Inv X pins σ H s)
    (hch : ∀ b ∈ ch, (b ∈ X.ex ∨ X.s₀.heap.objs.size ≤ b) ∧ b ≠ X.env.locals ∧ (∀ x c, X.env.cells.lookup x = some c → c ≠ b) ∧ ∀ p ∈ X.pn ++ pins, p.1 ≠ b)
    (keep : ∀ b o, b ≠ X.env.locals → b ∉ X.fs → b ∉ ch → s.heap.get? b = some o → H b = none → h'.get? b = some o)
    (slot : ∀ b o, b ≠ X.env.locals → b ∈ X.fs → b ∉ ch → s.heap.get? b = some o → H b = none → ∃ sl, h'.get? b = some { o with slots := sl }) (free : ∀ b o, b ∉ ch → s.heap.get? b = some o → H b = none → H' b = none)
    (there : ∀ b o, b ∉ ch → s.heap.get? b = some o → ∃ o', h'.get? b = some o')
    (tups : ∀ b xs, H b = some (.tup xs) → H' b = some (.tup xs)) (frzs : ∀ b o u, H b = some (.frz o u) → H' b = some (.frz o u)) (tbls : ∀ b ps, H b = some (.tbl ps) → ∃ more, H' b = some (.tbl (ps ++ more)))
    (ns : ∀ m, s.heap.Ns X.env.locals m → h'.Ns X.env.locals m) (hok : HOk X.prog X.w H' h') (hg : AllBare g') :
    Inv X pins σ H' { s with heap := h', gens := g', drawn := d', toks := t' } := by
  have neL : ∀ b o, X.s₀.heap.get? b = some o → b ≠ X.env.locals := fun b o e => Nat.ne_of_lt (Nat.lt_of_lt_of_le (Heap.lt_size e) I.ok.above)
  have neC : ∀ b o, X.s₀.heap.get? b = some o → b ∉ X.ex → b ∉ ch := fun b o e hx hb => by
    rcases (hch b hb).1 with z | z
    · exact hx z
    · exact absurd (Nat.lt_of_lt_of_le (Heap.lt_size e) z) (Nat.lt_irrefl _)
  have cellK : ∀ x c, X.env.cells.lookup x = some c → ∀ v, s.heap.IsCell c v → h'.IsCell c v := fun x c e v ⟨o, ho, hd⟩ => by
    have nch : c ∉ ch := fun z => (hch c z).2.2.1 x c e rfl
    by_cases hc : c ∈ X.fs
    · obtain ⟨sl, q⟩ := slot c o (I.cne x c e) hc nch ho (I.freeC x c e)
      exact ⟨_, q, hd⟩
    · exact ⟨o, keep c o (I.cne x c e) hc nch ho (I.freeC x c e), hd⟩
  refine ⟨I.ok, I.os, hg, ⟨fun b o e n hb hx => ?_, fun b o e n hb hx => ?_, fun b o e n hx => ?_, fun b o e hx => ?_, fun b xs e => tups b xs (I.base.tups b xs e), fun b o xs e => frzs b o xs (I.base.frzs b o xs e), fun b ps e => ?_⟩, ?_, fun x c e => ?_, ?_, fun x c e => ?_, fun p hp => ?_, hok, I.len⟩
  · exact keep b o (neL b o e) hb (neC b o e hx) (I.base.keep b o e n hb hx) (I.base.free b o e n hx)
  · obtain ⟨sl, e1⟩ := I.base.slot b o e n hb hx
    obtain ⟨sl', e2⟩ := slot b _ (neL b o e) hb (neC b o e hx) e1 (I.base.free b o e n hx)
    exact ⟨sl', e2⟩
  · obtain ⟨o', e1⟩ := I.base.there b o e hx
    exact free b o' (neC b o e hx) e1 (I.base.free b o e n hx)
  · obtain ⟨o', e1⟩ := I.base.there b o e hx
    exact there b o' (neC b o e hx) e1
  · obtain ⟨m1, e1⟩ := I.base.tbls b ps e
    obtain ⟨m2, e2⟩ := tbls b _ e1
    exact ⟨m1 ++ m2, by rw [e2, Array.append_assoc]⟩
  · obtain ⟨m, hn, hl⟩ := I.loc
    refine ⟨m, ns m hn, fun i x v e1 e2 e3 => ?_⟩
    obtain ⟨u, r, l⟩ := hl i x v e1 e2 e3
    refine ⟨u, r, ?_⟩
    rcases l with l | ⟨k, c, e, z⟩
    · exact .inl l
    · exact .inr ⟨k, c, e, cellK x c e _ z⟩
  · obtain ⟨v, z⟩ := I.cell x c e
    exact ⟨v, cellK x c e v z⟩
  · obtain ⟨m, ⟨o, _, _, ho, _⟩, _⟩ := I.loc
    exact free _ o (fun z => (hch _ z).2.1 rfl) ho I.free
  · obtain ⟨v, o, ho, hd⟩ := I.cell x c e
    exact free c o (fun z => (hch c z).2.2.1 x c e rfl) ho (I.freeC x c e)
  · obtain ⟨e, n, ne, nf, d⟩ := I.pin p hp
    have nch : p.1 ∉ ch := fun z => (hch p.1 z).2.2.2 p hp rfl
    exact ⟨keep p.1 p.2 ne nf nch e n, free p.1 p.2 nch e n, ne, nf, d⟩
theorem Inv.un {t' : Nat} (I : Inv X pins σ H s) (u : Un X.fs [] H H' s.heap h') (hok : HOk X.prog X.w H' h') : Inv X pins σ H' { s with heap := h', toks := t' } := by
  obtain ⟨m, ⟨o, es, ep, ho, r⟩, _⟩ := id I.loc
  obtain ⟨sl, hL⟩ := u.any ho I.free (by simp)
  exact I.step (g' := s.gens) (d' := s.drawn) (ch := []) (fun _ z => nomatch z) (fun b o _ hb _ e n => u.keep b o e n hb (by simp)) (fun b o _ hb _ e n => u.slot b o e n hb (by simp)) (fun b o _ e n => u.free b o e n (by simp)) (fun b o _ e => u.there b o e (by simp)) u.tups u.frzs u.tbls (fun m' hm => by
    obtain ⟨o', es', ep', ho', r'⟩ := hm
    rw [ho] at ho'; cases ho'
    exact ⟨_, es', ep', hL, r'⟩) hok I.bare
theorem Inv.call {g' : Array GenState} {t' : Nat} {d' : Drawn} {ch : List Addr} (I : Inv X pins σ H s) (u : Un (frs X.stack) ch H H' s.heap h') (hok : HOk X.prog X.w H' h') (hg : AllBare g')
    (hch : ∀ b ∈ ch, (b ∈ X.ex ∨ X.s₀.heap.objs.size ≤ b) ∧ b ≠ X.env.locals ∧ (∀ x c, X.env.cells.lookup x = some c → c ≠ b) ∧ ∀ p ∈ X.pn ++ pins, p.1 ≠ b) :
    Inv X pins σ H' { s with heap := h', gens := g', drawn := d', toks := t' } := by
  obtain ⟨m, ⟨o, es, ep, ho, r⟩, _⟩ := id I.loc
  obtain ⟨sl, hL⟩ := u.any ho I.free fun z => (hch _ z).2.1 rfl
  exact I.step (ch := ch) hch (fun b o hL hb hc e n => u.keep b o e n (fun z => (List.mem_cons.mp (I.stkSub b z)).elim hL hb) hc) (fun b o _ _ hc e n => u.any e n hc) (fun b o hc e n => u.free b o e n hc) (fun b o hc e => u.there b o e hc) u.tups u.frzs u.tbls (fun m' hm => by
    obtain ⟨o', es', ep', ho', r'⟩ := hm
    rw [ho] at ho'; cases ho'
    exact ⟨_, es', ep', hL, r'⟩) hok hg
theorem Inv.turned {t' : Nat} {it : Addr} (I : Inv X pins σ H s) (k : ∀ b o, b ≠ it → s.heap.get? b = some o → h'.get? b = some o) (hn : H it = none) (hL : it ≠ X.env.locals)
    (h1 : it ∈ X.ex ∨ X.s₀.heap.objs.size ≤ it) (h2 : ∀ x c, X.env.cells.lookup x = some c → c ≠ it) (h3 : ∀ p ∈ X.pn ++ pins, p.1 ≠ it) : Inv X pins σ H { s with heap := h', toks := t' } := by
  have nit : ∀ b u, H b = some u → b ≠ it := fun b u e z => by rw [z, hn] at e; cases e
  refine I.step (g' := s.gens) (d' := s.drawn) (ch := [it]) (fun b hb => ?_) (fun b o _ _ hc e _ => k b o (fun z => hc (by simp [z])) e) (fun b o _ _ hc e _ => ⟨o.slots, k b o (fun z => hc (by simp [z])) e⟩) (fun _ _ _ _ n => n)
    (fun b o hc e => ⟨o, k b o (fun z => hc (by simp [z])) e⟩) (fun _ _ e => e) (fun _ _ _ e => e) (fun b ps e => ⟨#[], by rw [e]; simp⟩) (fun m hm => ?_) (fun b u e => ?_) I.bare
  · have e : b = it := by simpa using hb
    subst e
    exact ⟨h1, hL, h2, h3⟩
  · obtain ⟨o, es, ep, ho, r⟩ := hm
    exact ⟨o, es, ep, k _ o (Ne.symm hL) ho, r⟩
  · refine (I.hok b u e).stay (fun c v hc q => k c v ?_ q) (fun _ q => q) fun _ _ q => q
    rcases hc with z | z
    · rw [z]; exact nit b u e
    · exact nit c _ z
theorem Inv.tok (I : Inv X pins σ H s) (t : Nat) : Inv X pins σ H { s with toks := t } := I.un (h' := s.heap) (t' := t) Un.refl I.hok
theorem Inv.kept {t' : Nat} (I : Inv X pins σ H s) (k : ∀ b u, s.heap.get? b = some u → h'.get? b = some u) : Inv X pins σ H { s with heap := h', toks := t' } := I.un (Un.kept k) (I.hok.kept k)
theorem Inv.laid {a : Addr} {o : HO} {t' : Nat} (I : Inv X pins σ H s) (k : ∀ b u, s.heap.get? b = some u → h'.get? b = some u) (hp : s.heap.objs.size ≤ a) (new : ObjOk X.prog X.w (upd H a o) h' a o) :
    Inv X pins σ (upd H a o) { s with heap := h', toks := t' } := I.un (Un.laid k hp (I.hok.fresh hp)) (I.hok.laid k hp new)
theorem Inv.write {x e : Addr} {o : HO} {t' : Nat} (I : Inv X pins σ H s) (mu : Mut (H x)) (he : e = x ∨ H e = some (.own x)) (k : ∀ b u, b ≠ e → s.heap.get? b = some u → h'.get? b = some u) (heo : ∃ u, h'.get? e = some u)
    (new : ObjOk X.prog X.w (upd H x o) h' x o) : Inv X pins σ (upd H x o) { s with heap := h', toks := t' } := I.un (Un.write mu he k heo) (I.hok.write mu he k heo new)
theorem Inv.pins_of {pins' : List (Addr × Obj)} (I : Inv X pins σ H s) (h : ∀ p ∈ pins', s.heap.get? p.1 = some p.2 ∧ H p.1 = none ∧ p.1 ≠ X.env.locals ∧ p.1 ∉ X.fs ∧ ∀ v, p.2.data ≠ .cell v) : Inv X pins' σ H s :=
  ⟨I.ok, I.os, I.bare, I.base, I.loc, I.cell, I.free, I.freeC, fun p hp => (List.mem_append.mp hp).elim (fun z => I.pin p (List.mem_append_left _ z)) (h p), I.hok, I.len⟩
theorem nodup_ix {N : List Str} (hN : N.Nodup) {i j : Nat} {x : Str} (a : N[i]? = some x) (b : N[j]? = some x) : i = j := by
  obtain ⟨h1, e1⟩ := List.getElem?_eq_some_iff.mp a
  obtain ⟨h2, e2⟩ := List.getElem?_eq_some_iff.mp b
  exact (List.getElem_inj hN).mp (e1.trans e2.symm)
theorem store_ok2 {M : Model} {A : Around} {E : Value → Shared → Prop} {i : Nat} {x : Str} {v : V} {u : Value} {Q : Unit → Shared → Prop} (I : Inv X pins σ H s) (hN : X.N.Nodup) (hi : X.N[i]? = some x) (hx : Loc X.env.scope x) (r : RelV v u)
    (h : ∀ s', Inv X pins (σ.set i (some v)) H s' → (∃ a, Heap.SameBut a s.heap s'.heap ∧ (a = X.env.locals ∨ X.env.cells.lookup x = some a)) → Q () s') (hf : X.fn x = true ∨ X.env.scope.names.lookup x = some .local := by first | exact .inl rfl | exact .inr rfl | assumption) : wpAny M A (storeName X.env x u) Q E s := by
  obtain ⟨m, hn, hl⟩ := id I.loc
  have hcls : (X.env.scope.kind == .class || (X.env.scope.kind == .module && X.env.locals != X.env.globals)) = false := by rw [I.ok.kind]; rfl
  have hiσ : i < σ.length := by rw [I.len]; exact (List.getElem?_eq_some_iff.mp hi).1
  have cne := I.cne
  have tracked : ∀ {a : Addr} {h' : Heap}, (∃ o, s.heap.get? a = some o ∧ H a = none) → Heap.SameBut a s.heap h' → HOk X.prog X.w H h' := fun {a h'} ha hs b ob e => by
    obtain ⟨_, _, hfree⟩ := ha
    refine (I.hok b ob e).stay (fun c w' hc q => (hs.2 c ?_).trans q) (fun _ q => q) fun _ _ q => q
    rintro rfl
    rcases hc with rfl | hc
    · rw [hfree] at e; cases e
    · rw [hfree] at hc; cases hc
  rcases hx with hk | hk
  · refine wpAny_storeName_local hk hn (fun h' hn' hs => ?_) hcls
    obtain ⟨oL, _, _, hoL, _⟩ := id hn
    refine h _ ⟨I.ok, I.os, I.bare, ⟨fun b o e n hb hx => ?_, fun b o e n hb hx => ?_, I.base.free, fun b o e hx => ?_, I.base.tups, I.base.frzs, I.base.tbls⟩, ⟨_, hn', fun j y v' e1 e2 e3 => ?_⟩, fun y c e => ?_, I.free, I.freeC, fun p hp => ?_, tracked ⟨oL, hoL, I.free⟩ hs, by simpa using I.len⟩ ⟨_, hs, .inl rfl⟩
    · exact (hs.2 b (Nat.ne_of_lt (Nat.lt_of_lt_of_le (Heap.lt_size e) I.ok.above))).trans (I.base.keep b o e n hb hx)
    · obtain ⟨sl, e1⟩ := I.base.slot b o e n hb hx
      exact ⟨sl, (hs.2 b (Nat.ne_of_lt (Nat.lt_of_lt_of_le (Heap.lt_size e) I.ok.above))).trans e1⟩
    · obtain ⟨o', e1⟩ := I.base.there b o e hx
      exact ⟨o', (hs.2 b (Nat.ne_of_lt (Nat.lt_of_lt_of_le (Heap.lt_size e) I.ok.above))).trans e1⟩
    · by_cases hj : j = i
      · subst hj
        rw [hi] at e1; cases e1
        rw [List.getElem?_set_self hiσ] at e2
        cases e2
        exact ⟨u, r, .inl ⟨hk, by simp⟩⟩
      · rw [List.getElem?_set_ne (Ne.symm hj)] at e2
        obtain ⟨u', r', q⟩ := hl j y v' e1 e2 e3
        refine ⟨u', r', ?_⟩
        rcases q with ⟨k, e⟩ | ⟨k, c, e, z⟩
        · refine .inl ⟨k, ?_⟩
          have : y ≠ x := fun e => hj (nodup_ix hN e1 (e ▸ hi))
          simp [this, e]
        · exact .inr ⟨k, c, e, z.sameBut hs (cne y c e)⟩
    · obtain ⟨w', z⟩ := I.cell y c e
      exact ⟨w', z.sameBut hs (cne y c e)⟩
    · obtain ⟨e, n, ne, nf, d⟩ := I.pin p hp
      exact ⟨(hs.2 p.1 ne).trans e, n, ne, nf, d⟩
  · have hfn : X.fn x = true := by
      rcases hf with z | z
      · exact z
      · rw [z] at hk; cases hk
    obtain ⟨c, hc⟩ := I.ok.has x (.inl hk)
    obtain ⟨w', z⟩ := I.cell x c hc
    refine wpAny_storeName_cell I.ok.kind hk hc z (fun h' hc' hs => ?_)
    obtain ⟨oc, hoc, hocd⟩ := id z
    refine h { s with heap := h' } ⟨I.ok, I.os, I.bare, ⟨fun b o e n hb hx => ?_, fun b o e n hb hx => ?_, I.base.free, fun b o e hx => ?_, I.base.tups, I.base.frzs, I.base.tbls⟩, ⟨m, hn.sameBut hs (Ne.symm (cne x c hc)), fun j y v' e1 e2 e3 => ?_⟩, fun y c' e => ?_, I.free, I.freeC, fun p hp => ?_, tracked ⟨oc, hoc, I.freeC x c hc⟩ hs, by simpa using I.len⟩ ⟨c, hs, .inr hc⟩
    · exact (hs.2 b (Nat.ne_of_lt (Nat.lt_of_lt_of_le (Heap.lt_size e) (I.ok.cab x c hfn hc)))).trans (I.base.keep b o e n hb hx)
    · obtain ⟨sl, e1⟩ := I.base.slot b o e n hb hx
      exact ⟨sl, (hs.2 b (Nat.ne_of_lt (Nat.lt_of_lt_of_le (Heap.lt_size e) (I.ok.cab x c hfn hc)))).trans e1⟩
    · obtain ⟨o', e1⟩ := I.base.there b o e hx
      exact ⟨o', (hs.2 b (Nat.ne_of_lt (Nat.lt_of_lt_of_le (Heap.lt_size e) (I.ok.cab x c hfn hc)))).trans e1⟩
    · by_cases hj : j = i
      · subst hj
        rw [hi] at e1; cases e1
        rw [List.getElem?_set_self hiσ] at e2
        cases e2
        exact ⟨u, r, .inr ⟨.inl hk, c, hc, hc'⟩⟩
      · rw [List.getElem?_set_ne (Ne.symm hj)] at e2
        obtain ⟨u', r', q⟩ := hl j y v' e1 e2 e3
        refine ⟨u', r', ?_⟩
        rcases q with q | ⟨k, c', e, z'⟩
        · exact .inl q
        · refine .inr ⟨k, c', e, z'.sameBut hs ?_⟩
          rintro rfl
          exact hj (nodup_ix hN e1 (I.ok.inj _ _ _ e hc ▸ hi))
    · by_cases hcc : c' = c
      · subst hcc; exact ⟨_, hc'⟩
      · obtain ⟨w2, z2⟩ := I.cell y c' e
        exact ⟨w2, z2.sameBut hs hcc⟩
    · obtain ⟨e, n, ne, nf, d⟩ := I.pin p hp
      refine ⟨(hs.2 p.1 ?_).trans e, n, ne, nf, d⟩
      intro q
      rw [q, hoc] at e
      have q' : oc = p.2 := Option.some.inj e
      exact d w' (by rw [← q']; exact hocd)
theorem store_ok {M : Model} {A : Around} {E : Value → Shared → Prop} {i : Nat} {x : Str} {v : V} {u : Value} {Q : Unit → Shared → Prop} (I : Inv X pins σ H s) (hN : X.N.Nodup) (hi : X.N[i]? = some x) (hx : Loc X.env.scope x) (r : RelV v u)
    (h : ∀ s', Inv X pins (σ.set i (some v)) H s' → Q () s') (hf : X.fn x = true ∨ X.env.scope.names.lookup x = some .local := by first | exact .inl rfl | exact .inr rfl | assumption) : wpAny M A (storeName X.env x u) Q E s :=
  store_ok2 I hN hi hx r (fun s' I' _ => h s' I') hf
theorem Inv.call' {s' : Shared} {ch : List Addr} (I : Inv X pins σ H s) (ho : s'.os = s.os) (u : Un (frs X.stack) ch H H' s.heap s'.heap) (hok : HOk X.prog X.w H' s'.heap) (hg : AllBare s'.gens)
    (hch : ∀ b ∈ ch, (b ∈ X.ex ∨ X.s₀.heap.objs.size ≤ b) ∧ b ≠ X.env.locals ∧ (∀ x c, X.env.cells.lookup x = some c → c ≠ b) ∧ ∀ p ∈ X.pn ++ pins, p.1 ≠ b) : Inv X pins σ H' s' := by
  obtain ⟨h', g', d', t', o'⟩ := s'
  have e : o' = s.os := ho
  subst e
  exact I.call (g' := g') (t' := t') (d' := d') u hok hg hch
end
abbrev XK := Value → Option Addr → Hp → Prop
abbrev St := List (Option V)
abbrev VK := V → Hp → Prop
abbrev TE := St → Hp → VK → Prop
abbrev TT := St → Hp → (Bool → Hp → Prop) → Prop
abbrev TA := St → Hp → (List V → Hp → Prop) → Prop
structure Ends where
  nx : St → Hp → Prop
  rt : VK
  bk : St → Hp → Prop := fun _ _ => False
  ct : St → Hp → Prop := fun _ _ => False
abbrev TS := Ends → St → Hp → Prop
def EP (X : Cx) (pins : List (Addr × Obj)) (σ : St) (Q : VK) (u : Value) (s' : Shared) : Prop := ∃ v H', Inv X pins σ H' s' ∧ RelV v u ∧ Q v H'
def TP (X : Cx) (pins : List (Addr × Obj)) (σ : St) (Q : Bool → Hp → Prop) (b : Bool) (s' : Shared) : Prop := ∃ H', Inv X pins σ H' s' ∧ Q b H'
def AP (X : Cx) (pins : List (Addr × Obj)) (σ : St) (Q : List V → Hp → Prop) (us : List Value) (s' : Shared) : Prop := ∃ vs H', Inv X pins σ H' s' ∧ Vals vs us ∧ Q vs H'
def SP (X : Cx) (pins : List (Addr × Obj)) (D : Ends) (f : Flow) (s' : Shared) : Prop :=
  match f with
  | .next => ∃ σ' H', Inv X pins σ' H' s' ∧ D.nx σ' H'
  | .brk => ∃ σ' H', Inv X pins σ' H' s' ∧ D.bk σ' H'
  | .cont => ∃ σ' H', Inv X pins σ' H' s' ∧ D.ct σ' H'
  | .ret u => ∃ v σ' H', Inv X pins σ' H' s' ∧ RelV v u ∧ D.rt v H'
def PE (X : Cx) (e : Expr) (t : TE) : Prop :=
  ∀ (pins : List (Addr × Obj)) (s : Shared) (σ : St) (H : Hp) (Q : VK), Inv X pins σ H s → t σ H Q → wpAny (model X.prog X.w) X.A (eval e X.env) (EP X pins σ Q) X.xe s
def PT (X : Cx) (e : Expr) (t : TT) : Prop :=
  ∀ (pins : List (Addr × Obj)) (s : Shared) (σ : St) (H : Hp) (Q : Bool → Hp → Prop), Inv X pins σ H s → t σ H Q → wpAny (model X.prog X.w) X.A (isTrue e X.env (eval e X.env)) (TP X pins σ Q) X.xe s
def PW (X : Cx) (e : Expr) (t : TT) : Prop :=
  ∀ (whole : Sem Value) (pins : List (Addr × Obj)) (s : Shared) (σ : St) (H : Hp) (Q : Bool → Hp → Prop), Inv X pins σ H s → t σ H Q → wpAny (model X.prog X.w) X.A (isTrue e X.env whole) (TP X pins σ Q) X.xe s
theorem PW.pt {X : Cx} {e : Expr} {t : TT} (h : PW X e t) : PT X e t := h _
def PA (X : Cx) (es : List Expr) (t : TA) : Prop :=
  ∀ (pos : Pos) (pins : List (Addr × Obj)) (s : Shared) (σ : St) (H : Hp) (Q : List V → Hp → Prop), Inv X pins σ H s → t σ H Q → wpAny (model X.prog X.w) X.A (spliced (backTo pos (starEach es X.env))) (AP X pins σ Q) X.xe s
def PS (X : Cx) (st : Stmt) (t : TS) : Prop :=
  ∀ (pins : List (Addr × Obj)) (s : Shared) (σ : St) (H : Hp) (D : Ends), Inv X pins σ H s → t D σ H → wpAny (model X.prog X.w) X.A (exec st X.env) (SP X pins D) X.xe s
def PSs (X : Cx) (st : List Stmt) (t : TS) : Prop :=
  ∀ (pins : List (Addr × Obj)) (s : Shared) (σ : St) (H : Hp) (D : Ends), Inv X pins σ H s → t D σ H → wpAny (model X.prog X.w) X.A (execs st X.env) (SP X pins D) X.xe s
theorem thn {α : Type} {t : Sem α} {Q Q' : α → Shared → Prop} {M : Model} {A : Around} {E : Value → Shared → Prop} {s : Shared} (h : wpAny M A t Q E s) (hQ : ∀ a s, Q a s → Q' a s) : wpAny M A t Q' E s := wpAny_mono h hQ fun _ _ x => x
end L2
namespace L2
open PySem PySem.Spec PyProof.Rows
section
variable {X : Cx}
def tVar (i : Nat) : TE := fun σ H Q => ∃ v, σ[i]? = some (some v) ∧ Q v H
def tC (v : V) : TE := fun _ H Q => Q v H
theorem pe_var {i : Nat} {x : Str} {pos : Pos} (hN : X.N[i]? = some x) (hv : Vis X.env.scope x) (hd : (x == ("__debug__" : Str)) = false := by decide) (hcd : (x == ("__classdict__" : Str)) = false := by decide) : PE X (.Name x pos) (tVar i) := by
  intro pins s σ H Q I h
  obtain ⟨v, e, h⟩ := h
  obtain ⟨m, hn, hl⟩ := I.loc
  obtain ⟨u, r, l⟩ := hl i x v hN e hv
  have fin : EP X pins σ Q u s := ⟨v, H, I, r, h⟩
  rcases l with ⟨hk, hm⟩ | ⟨hk, c, hc, hcell⟩
  · exact wpAny_Name (wpAny_loadName_local I.ok.kind hk hn hm fin) hd
  · rcases hk with hk | hk
    · exact wpAny_Name (wpAny_loadName_cell I.ok.kind hk hc hcell fin) hd
    · exact wpAny_Name (wpAny_loadName_free I.ok.kind hk hc hcell fin hcd) hd
theorem pe_int {i j pos} : PE X (.Constant (.int i) j pos) (tC (.int i)) := fun _ _ _ H _ I h => wpAny_Constant_int ⟨.int i, H, I.tok _, ⟨_, rfl⟩, h⟩
theorem pe_bl {b j pos} : PE X (.Constant (.bool b) j pos) (tC (.bl b)) := fun _ _ _ H _ I h => Constant_bool ⟨.bl b, H, I, rfl, h⟩
theorem pe_non {j pos} : PE X (.Constant .none j pos) (tC .non) := fun _ _ _ H _ I h => Constant_none ⟨.non, H, I, rfl, h⟩
theorem pe_str {x j pos} : PE X (.Constant (.str x) j pos) (tC (.str x)) := fun _ _ _ H _ I h => Calls.Constant_str ⟨.str x, H, I.tok _, ⟨_, rfl⟩, h⟩
def Gl (X : Cx) (x : Str) : Prop := X.env.kindOf x = some .globalImplicit
theorem ld_glob {E : Value → Shared → Prop} {pins : List (Addr × Obj)} {s : Shared} {σ : St} {H : Hp} {x : Str} {u : Value} {pos : Pos} {Q : Value → Shared → Prop} (I : Inv X pins σ H s) (hg : Gl X x) (hm : X.mg x = some u) (h : Q u s)
    (hd : (x == ("__debug__" : Str)) = false := by decide) : wpAny (model X.prog X.w) X.A (eval (.Name x pos) X.env) Q E s :=
  Calls.Name_function_global I.ok.kind hg (Calls.loadGlobal_global (by rw [I.ok.glob]; exact I.mod.glob.keeps I.bk) hm h) hd
theorem ld_blt {E : Value → Shared → Prop} {pins : List (Addr × Obj)} {s : Shared} {σ : St} {H : Hp} {x : Str} {u : Value} {pos : Pos} {Q : Value → Shared → Prop} (I : Inv X pins σ H s) (hg : Gl X x) (hm : X.mg x = none) (hv : bootBuiltins x = some u) (h : Q u s)
    (hn : x ≠ "__name__" := by decide) (hd : (x == ("__debug__" : Str)) = false := by decide) : wpAny (model X.prog X.w) X.A (eval (.Name x pos) X.env) Q E s := by
  obtain ⟨mb, h1, h2⟩ := I.mod.blt
  exact Calls.Name_function_global I.ok.kind hg (Calls.loadGlobal_builtin (by rw [I.ok.glob]; exact I.mod.glob.keeps I.bk) hm (by rw [I.ok.blt]; exact h1.keeps I.bk) ((h2 x hn).trans hv) h) hd
theorem pe_glob {x : Str} {v : V} {u : Value} {pos : Pos} (hg : Gl X x) (hm : X.mg x = some u) (r : RelV v u) (hd : (x == ("__debug__" : Str)) = false := by decide) : PE X (.Name x pos) (tC v) :=
  fun _ _ _ H _ I h => ld_glob I hg hm ⟨v, H, I, r, h⟩ hd
theorem pe_bltn {x : Str} {v : V} {u : Value} {pos : Pos} (hg : Gl X x) (hm : X.mg x = none) (hv : bootBuiltins x = some u) (r : RelV v u) (hn : x ≠ "__name__" := by decide) (hd : (x == ("__debug__" : Str)) = false := by decide) : PE X (.Name x pos) (tC v) :=
  fun _ _ _ H _ I h => ld_blt I hg hm hv ⟨v, H, I, r, h⟩ hn hd
variable {a b : Expr} {ta tb : TE} {pos : Pos}
variable {tA tB' : TT} {rest : List Expr}
def tAnd (t u : TT) : TT := fun σ H Q => t σ H fun c H1 => if c = true then u σ H1 Q else Q false H1
def tOr (t u : TT) : TT := fun σ H Q => t σ H fun c H1 => if c = true then Q true H1 else u σ H1 Q
def tNot (t : TT) : TT := fun σ H Q => t σ H fun c H1 => Q (!c) H1
theorem pw_and1 (ha : PT X a tA) : PW X (.BoolOp .And [a] pos) tA := by
  intro wh pins s σ H Q I h
  refine isTrue_and (thn (ha pins s σ H Q I h) fun c s1 e => ?_)
  cases c with
  | true => exact isTrue_and_nil e
  | false => exact e
theorem pw_or1 (ha : PT X a tA) : PW X (.BoolOp .Or [a] pos) tA := by
  intro wh pins s σ H Q I h
  refine isTrue_or (thn (ha pins s σ H Q I h) fun c s1 e => ?_)
  cases c with
  | false => exact isTrue_or_nil e
  | true => exact e
theorem pw_and (ha : PT X a tA) (hb : PW X (.BoolOp .And (b :: rest) pos) tB') : PW X (.BoolOp .And (a :: b :: rest) pos) (tAnd tA tB') := by
  intro wh pins s σ H Q I h
  refine isTrue_and (thn (ha pins s σ H _ I h) fun c s1 ⟨H1, I1, q1⟩ => ?_)
  cases c with
  | true => exact hb wh pins s1 σ H1 Q I1 q1
  | false => exact ⟨H1, I1, q1⟩
theorem pw_or (ha : PT X a tA) (hb : PW X (.BoolOp .Or (b :: rest) pos) tB') : PW X (.BoolOp .Or (a :: b :: rest) pos) (tOr tA tB') := by
  intro wh pins s σ H Q I h
  refine isTrue_or (thn (ha pins s σ H _ I h) fun c s1 ⟨H1, I1, q1⟩ => ?_)
  cases c with
  | true => exact ⟨H1, I1, q1⟩
  | false => exact hb wh pins s1 σ H1 Q I1 q1
theorem pt_not (ha : PT X a tA) : PT X (.UnaryOp .Not a pos) (tNot tA) := by
  intro pins s σ H Q I h
  exact isTrue_not (ha pins s σ H (fun c H1 => Q (!c) H1) I h)
def tAndV (ta tb : TE) : TE := fun σ H Q => ta σ H fun x H1 => ∃ c, x = .bl c ∧ if c = true then tb σ H1 Q else Q (.bl false) H1
def tOrV (ta tb : TE) : TE := fun σ H Q => ta σ H fun x H1 => ∃ c, x = .bl c ∧ if c = true then Q (.bl true) H1 else tb σ H1 Q
theorem pe_one {op} {t : TE} (h : PE X a t) : PE X (.BoolOp op [a] pos) t := fun pins s σ H Q I hw => BoolOp_one (h pins s σ H Q I hw)
theorem pe_and (ha : PE X a ta) (hb : PE X (.BoolOp .And (b :: rest) pos) tb) : PE X (.BoolOp .And (a :: b :: rest) pos) (tAndV ta tb) := by
  intro pins s σ H Q I h
  refine BoolOp_and (thn (ha pins s σ H _ I h) fun v s1 ⟨x, H1, I1, r1, q1⟩ => ?_)
  obtain ⟨c, rfl, q1⟩ := q1
  cases r1
  refine wpAny_truthy_bool ?_
  cases c with
  | true => exact hb pins s1 σ H1 Q I1 q1
  | false => exact ⟨.bl false, H1, I1, rfl, q1⟩
theorem pe_or (ha : PE X a ta) (hb : PE X (.BoolOp .Or (b :: rest) pos) tb) : PE X (.BoolOp .Or (a :: b :: rest) pos) (tOrV ta tb) := by
  intro pins s σ H Q I h
  refine BoolOp_or (thn (ha pins s σ H _ I h) fun v s1 ⟨x, H1, I1, r1, q1⟩ => ?_)
  obtain ⟨c, rfl, q1⟩ := q1
  cases r1
  refine wpAny_truthy_bool ?_
  cases c with
  | false => exact hb pins s1 σ H1 Q I1 q1
  | true => exact ⟨.bl true, H1, I1, rfl, q1⟩
def tIf (t : TT) (ta tb : TE) : TE := fun σ H Q => t σ H fun c H1 => if c = true then ta σ H1 Q else tb σ H1 Q
theorem pe_ifExp {c : Expr} (hc : PT X c tA) (ha : PE X a ta) (hb : PE X b tb) : PE X (.IfExp c a b pos) (tIf tA ta tb) := by
  intro pins s σ H Q I h
  refine wpAny_IfExp (thn (hc pins s σ H _ I h) fun d s1 ⟨H1, I1, q1⟩ => ?_)
  cases d with
  | true => exact ha pins s1 σ H1 Q I1 q1
  | false => exact hb pins s1 σ H1 Q I1 q1
end
end L2
namespace L2
open PySem PySem.Spec PyProof.Rows
def SqL (K : PySem.W.Frag) (H : Hp) (a : Addr) (xs : List V) : Prop :=
  Rd H a (.lst xs) ∨
    ∃ (o : Obj) (its : Array Value) (n : Nat), K.lookup a = some o ∧ o.cls = .type "list" ∧ o.dict = none ∧ o.data = .seq its n ∧ its.size ≤ sizeLine ∧ Vals xs its.toList
def SqT (K : PySem.W.Frag) (H : Hp) (a : Addr) (xs : List V) : Prop :=
  Rd H a (.tup xs) ∨
    ∃ (o : Obj) (its : Array Value) (n : Nat), K.lookup a = some o ∧ o.cls = .type "tuple" ∧ o.data = .seq its n ∧ its.size ≤ sizeLine ∧ Vals xs its.toList
def absV : Value → Option V
  | .none => some .non
  | .bool b => some (.bl b)
  | .int i _ => some (.int i)
  | .str x _ => some (.str x)
  | .bytes b _ => some (.byt b)
  | .float b _ => some (.flt b)
  | .ref a => some (.ref a)
  | .type n => some (.ty n)
  | _ => none
theorem RelV.abs {x : V} {u : Value} (r : RelV x u) : absV u = some x := by
  cases x with
  | non => cases r; rfl
  | bl _ => cases r; rfl
  | int _ => obtain ⟨t, rfl⟩ := r; rfl
  | str _ => obtain ⟨t, rfl⟩ := r; rfl
  | byt _ => obtain ⟨t, rfl⟩ := r; rfl
  | flt _ => obtain ⟨t, rfl⟩ := r; rfl
  | ref _ => cases r; rfl
  | ty _ => cases r; rfl
theorem RelV.inj {x y : V} {u : Value} (r : RelV x u) (q : RelV y u) : x = y := Option.some.inj (r.abs.symm.trans q.abs)
theorem Vals.inj : ∀ {xs ys : List V} {us : List Value}, Vals xs us → Vals ys us → xs = ys
  | _, _, _, .nil, .nil => rfl
  | _, _, _, .cons r t, .cons r' t' => by rw [r.inj r', Vals.inj t t']
section
variable {X : Cx} {pins : List (Addr × Obj)} {σ : St} {H : Hp} {s : Shared} {a : Addr} {xs ys : List V}
theorem SqL.of {K : PySem.W.Frag} (h : H a = some (.lst xs)) : SqL K H a xs := .inl (.inl h)
theorem SqT.of {K : PySem.W.Frag} (h : H a = some (.tup xs)) : SqT K H a xs := .inl (.inl h)
theorem Inv.list (I : Inv X pins σ H s) (h : SqL X.K H a xs) : ∃ its : List Value, Vals xs its ∧ PlainL s.heap a its.toArray ∧ xs.length ≤ sizeLine := by
  rcases h with h | ⟨o, its, n, hk, hc, hd, hs, hz, r⟩
  · obtain ⟨z, its, n, r, e⟩ := h.ok I.hok
    exact ⟨its, r, ⟨_, n, e, rfl, rfl, rfl⟩, z⟩
  · refine ⟨its.toList, r, ⟨o, n, I.kIn a o hk, hc, hd, by simpa using hs⟩, ?_⟩
    have e := r.length
    simp only [Array.length_toList] at e
    omega
theorem Inv.tuple (I : Inv X pins σ H s) (h : SqT X.K H a xs) : ∃ its : List Value, Vals xs its ∧ IsTup s.heap a its.toArray ∧ xs.length ≤ sizeLine := by
  rcases h with h | ⟨o, its, n, hk, hc, hs, hz, r⟩
  · obtain ⟨z, its, r, p⟩ := h.ok I.hok
    exact ⟨its, r, p, z⟩
  · refine ⟨its.toList, r, ⟨o, I.kIn a o hk, hc, n, by simpa using hs⟩, ?_⟩
    have e := r.length
    simp only [Array.length_toList] at e
    omega
theorem Inv.list_inj (I : Inv X pins σ H s) (h : SqL X.K H a xs) (h' : SqL X.K H a ys) : xs = ys := by
  obtain ⟨its, r, ⟨o, n, e, _, _, d⟩, _⟩ := I.list h
  obtain ⟨its', r', ⟨o', n', e', _, _, d'⟩, _⟩ := I.list h'
  rw [e] at e'; cases e'
  rw [d] at d'
  injection d' with d1 _
  have : its = its' := by simpa using congrArg Array.toList d1
  subst this
  exact r.inj r'
theorem Inv.tuple_inj (I : Inv X pins σ H s) (h : SqT X.K H a xs) (h' : SqT X.K H a ys) : xs = ys := by
  obtain ⟨its, r, ⟨o, e, _, n, d⟩, _⟩ := I.tuple h
  obtain ⟨its', r', ⟨o', e', _, n', d'⟩, _⟩ := I.tuple h'
  rw [e] at e'; cases e'
  rw [d] at d'
  injection d' with d1 _
  have : its = its' := by simpa using congrArg Array.toList d1
  subst this
  exact r.inj r'
end
abbrev Cx.wish (X : Cx) (E : Value → Shared → Prop) : Cx := { X with xe := E }
abbrev Cx.nox (X : Cx) : Cx := X.wish fun _ _ => False
theorem Cx.Ok.wish {X : Cx} (ok : X.Ok) (E : Value → Shared → Prop) : (X.wish E).Ok :=
  ⟨ok.mod, ok.kind, ok.glob, ok.blt, ok.above, ok.inj, ok.has, ok.cab, ok.hd, ok.frames, ok.stk, ok.exf, ok.bs, ok.bsz, ok.noex, ok.exfs, ok.funs, ok.frf⟩
theorem Cx.Ok.unwish {X : Cx} {E : Value → Shared → Prop} (ok : (X.wish E).Ok) : X.Ok :=
  ⟨ok.mod, ok.kind, ok.glob, ok.blt, ok.above, ok.inj, ok.has, ok.cab, ok.hd, ok.frames, ok.stk, ok.exf, ok.bs, ok.bsz, ok.noex, ok.exfs, ok.funs, ok.frf⟩
section
variable {X : Cx} {pins : List (Addr × Obj)} {σ : St} {H : Hp} {s : Shared} {E : Value → Shared → Prop}
theorem Inv.wish (I : Inv X pins σ H s) (E : Value → Shared → Prop) : Inv (X.wish E) pins σ H s := ⟨I.ok.wish E, I.os, I.bare, I.base, I.loc, I.cell, I.free, I.freeC, I.pin, I.hok, I.len⟩
theorem Inv.unwish (I : Inv (X.wish E) pins σ H s) : Inv X pins σ H s := ⟨I.ok.unwish, I.os, I.bare, I.base, I.loc, I.cell, I.free, I.freeC, I.pin, I.hok, I.len⟩
theorem SP.unwish {D : Ends} {f : Flow} {s' : Shared} (h : SP (X.wish E) pins D f s') : SP X pins D f s' := by
  cases f with
  | next => obtain ⟨σ', H', I, q⟩ := h; exact ⟨σ', H', I.unwish, q⟩
  | brk => obtain ⟨σ', H', I, q⟩ := h; exact ⟨σ', H', I.unwish, q⟩
  | cont => obtain ⟨σ', H', I, q⟩ := h; exact ⟨σ', H', I.unwish, q⟩
  | ret u => obtain ⟨v, σ', H', I, r, q⟩ := h; exact ⟨v, σ', H', I.unwish, r, q⟩
theorem PSs.nox {st : List Stmt} {t : TS} (h : PSs X.nox st t) : PSs X st t := fun pins s σ H D I hw =>
  wpAny_mono (h pins s σ H D (I.wish _) hw) (fun _ _ q => q.unwish) fun _ _ z => False.elim z
end
section
variable {X : Cx} {st : Stmt} {rest : List Stmt} {t u : TS} {e : Expr} {te : TE} {pos : Pos}
def tNext : TS := fun D σ H => D.nx σ H
def tSeq (t u : TS) : TS := fun D σ H => t { D with nx := u D } σ H
theorem pss_nil : PSs X [] tNext := fun _ _ σ H _ I h => wpAny_execs_nil ⟨σ, H, I, h⟩
theorem pss_cons (h1 : PS X st t) (h2 : PSs X rest u) : PSs X (st :: rest) (tSeq t u) := by
  intro pins s σ H D I h
  refine wpAny_execs_cons (thn (h1 pins s σ H { D with nx := u D } I h) fun f s1 q => ?_)
  cases f with
  | next =>
    obtain ⟨σ', H', I', q⟩ := q
    exact h2 pins s1 σ' H' D I' q
  | ret v => exact q
  | brk => exact q
  | cont => exact q
def tBreak : TS := fun D σ H => D.bk σ H
def tCont : TS := fun D σ H => D.ct σ H
theorem ps_pass : PS X (.Pass pos) tNext := fun _ _ σ H _ I h => wpAny_Pass ⟨σ, H, I, h⟩
theorem ps_break : PS X (.Break pos) tBreak := fun _ _ σ H _ I h => wpAny_Break ⟨σ, H, I, h⟩
theorem ps_continue : PS X (.Continue pos) tCont := fun _ _ σ H _ I h => wpAny_Continue ⟨σ, H, I, h⟩
theorem Inv.quiet {pins : List (Addr × Obj)} {σ : St} {H : Hp} {s : Shared} (I : Inv X pins σ H s) : interactive X.env = false := by simp [interactive, I.ok.kind]
theorem ps_doc {x j pos pos'} : PS X (.Expr (.Constant (.str x) j pos) pos') tNext := fun _ s σ H _ I h => wpAny_Expr (Calls.Constant_str (show SP X _ _ .next { s with toks := s.toks + 1 } from ⟨σ, H, I.tok _, h⟩)) I.quiet
def tDrop (te : TE) : TS := fun D σ H => te σ H fun _ H1 => D.nx σ H1
theorem ps_expr (he : PE X e te) (hs : swapsWith e none pos.line X.env = pure false := by rfl) : PS X (.Expr e pos) (tDrop te) := by
  intro pins s σ H D I h
  exact wpAny_Expr_any (thn (he pins s σ H _ I h) fun v s1 ⟨x, H1, I1, r1, q1⟩ => ⟨σ, H1, I1, q1⟩) I.quiet hs
def tRet (te : TE) : TS := fun D σ H => te σ H D.rt
theorem ps_ret (he : PE X e te) : PS X (.Return (some e) pos) (tRet te) := by
  intro pins s σ H D I h
  exact wpAny_Return_some (thn (he pins s σ H _ I h) fun v s1 ⟨x, H1, I1, r1, q1⟩ => ⟨x, σ, H1, I1, r1, q1⟩)
def tRetN : TS := fun D _ H => D.rt .non H
theorem ps_retN : PS X (.Return none pos) tRetN := fun _ _ σ H _ I h => wpAny_Return_none ⟨.non, σ, H, I, rfl, h⟩
def tIfS (c : TT) (t u : TS) : TS := fun D σ H => c σ H fun b H1 => if b = true then t D σ H1 else u D σ H1
theorem ps_if {c : Expr} {a b : List Stmt} {tc : TT} (hc : PT X c tc) (ha : PSs X a t) (hb : PSs X b u) : PS X (.If c a b pos) (tIfS tc t u) := by
  intro pins s σ H D I h
  refine wpAny_If (thn (hc pins s σ H _ I h) fun d s1 ⟨H1, I1, q1⟩ => ?_)
  cases d with
  | true => exact ha pins s1 σ H1 D I1 q1
  | false => exact hb pins s1 σ H1 D I1 q1
end
abbrev TG := V → St → Hp → (St → Hp → Prop) → Prop
abbrev TGs := List V → St → Hp → (St → Hp → Prop) → Prop
def PG (X : Cx) (target : Expr) (t : TG) : Prop :=
  ∀ (pins : List (Addr × Obj)) (s : Shared) (σ : St) (H : Hp) (v : V) (u : Value) (Q : St → Hp → Prop), Inv X pins σ H s → RelV v u → t v σ H Q →
    wpAny (model X.prog X.w) X.A (assign target X.env u) (fun _ s' => ∃ σ' H', Inv X pins σ' H' s' ∧ Q σ' H') X.xe s
def PGs (X : Cx) (ts : List Expr) (t : TGs) : Prop :=
  ∀ (pins : List (Addr × Obj)) (s : Shared) (σ : St) (H : Hp) (vs : List V) (us : List Value) (Q : St → Hp → Prop), Inv X pins σ H s → Vals vs us → t vs σ H Q →
    wpAny (model X.prog X.w) X.A (assignInOrder ((assignEach ts X.env).map (·.2)) us) (fun _ s' => ∃ σ' H', Inv X pins σ' H' s' ∧ Q σ' H') X.xe s
abbrev TSet := V → V → V → Hp → (Hp → Prop) → Prop
abbrev TIp := V → V → Hp → VK → Prop
section
variable {X : Cx} {pos : Pos}
def gName (i : Nat) : TG := fun v σ H Q => Q (σ.set i (some v)) H
theorem pg_name {i : Nat} {x : Str} (hN : X.N.Nodup) (hi : X.N[i]? = some x) (hx : Loc X.env.scope x) (hf : X.fn x = true ∨ X.env.scope.names.lookup x = some .local := by first | exact .inl rfl | exact .inr rfl | assumption) : PG X (.Name x pos) (gName i) := by
  intro pins s σ H v u Q I r h
  exact wpAny_assign_Name (store_ok I hN hi hx r (fun s' I' => ⟨_, H, I', h⟩) hf)
def gNil : TGs := fun vs σ H Q => vs = [] ∧ Q σ H
def gCons (t : TG) (u : TGs) : TGs := fun vs σ H Q => ∃ v r, vs = v :: r ∧ t v σ H fun σ' H' => u r σ' H' Q
theorem pgs_nil : PGs X [] gNil := by
  intro pins s σ H vs us Q I r h
  obtain ⟨e, h⟩ := h
  subst e
  cases r
  exact assignInOrder_nil ⟨σ, H, I, h⟩
theorem pgs_cons {e : Expr} {es : List Expr} {t : TG} {u : TGs} (h1 : PG X e t) (h2 : PGs X es u)
    (hs : (assignEach (e :: es) X.env).map (·.2) = assign e X.env :: (assignEach es X.env).map (·.2) := by rfl) : PGs X (e :: es) (gCons t u) := by
  intro pins s σ H vs us Q I r h
  obtain ⟨v, vr, e1, h⟩ := h
  subst e1
  cases r with
  | cons r rr =>
    rw [hs]
    refine assignInOrder_cons (thn (h1 pins s σ H _ _ _ I r h) fun _ s1 ⟨σ1, H1, I1, q1⟩ => ?_)
    exact h2 pins s1 σ1 H1 _ _ Q I1 rr q1
def gTup (K : PySem.W.Frag) (n : Nat) (t : TGs) : TG := fun v σ H Q => ∃ a xs, v = .ref a ∧ SqT K H a xs ∧ xs.length = n ∧ t xs σ H Q
theorem pg_tup {es : List Expr} {k : Nat} {t : TGs} {n : Nat} (hc : X.calm = true) (h : PGs X es t)
    (hn : (assignEach es X.env).length = n := by rfl) (hst : (assignEach es X.env).findIdx? (·.1) = none := by rfl) : PG X (.Tuple es k pos) (gTup X.K n t) := by
  intro pins s σ H v u Q I r hw
  obtain ⟨a, xs, e1, hq, hl, hw⟩ := hw
  subst e1
  cases r
  obtain ⟨its, rv, ht, hz⟩ := I.tuple hq
  refine assign_Tuple_tuple (I.ok.hd hc) ht (by simp [hn, ← hl, rv.length]) hst fun h' hx => ?_
  have I1 : Inv X pins σ H { s with heap := h' } := I.kept (t' := s.toks) fun b o e => hx b o (Nat.ne_of_lt (Heap.lt_size e)) e
  exact h pins _ σ H xs _ Q I1 (by simpa using rv) hw
def tAsg (te : TE) (g : TG) : TS := fun D σ H => te σ H fun x H1 => g x σ H1 D.nx
theorem ps_asg {tg e : Expr} {te : TE} {g : TG} (he : PE X e te) (hg : PG X tg g) (hs : swapsWithSole [tg] e pos.line X.env = pure false := by rfl) (hw : swappedStores [tg] e X.env = pure none := by rfl)
    (h1 : (assignEach [tg] X.env).map (·.2) = [assign tg X.env] := by rfl) : PS X (.Assign [tg] e pos) (tAsg te g) := by
  intro pins s σ H D I h
  refine wpAny_Assign_stores (thn (he pins s σ H _ I h) fun v s1 ⟨x, H1, I1, r1, q1⟩ => ?_) hs hw
  rw [h1]
  exact thn (hg pins s1 σ H1 x v _ I1 r1 q1) fun _ s2 q => q
theorem ps_set {i : Nat} {x : Str} {e : Expr} {te : TE} {pos' : Pos} (hN : X.N.Nodup) (hi : X.N[i]? = some x) (hx : Loc X.env.scope x) (he : PE X e te) (hs : swapsWith e (some (.Name x pos')) pos.line X.env = pure false := by rfl) (hf : X.fn x = true ∨ X.env.scope.names.lookup x = some .local := by first | exact .inl rfl | exact .inr rfl | assumption) :
    PS X (.Assign [.Name x pos'] e pos) (tAsg te (gName i)) := by
  intro pins s σ H D I h
  refine wpAny_Assign_Name (thn (he pins s σ H _ I h) fun v s1 ⟨y, H1, I1, r1, q1⟩ => ?_) hs
  exact store_ok I1 hN hi hx r1 (fun s2 I2 => ⟨_, H1, I2, q1⟩) hf
end
section
variable {X : Cx} {pos : Pos}
end
structure It where
  go : Nat → Hp → Prop
  yld : Nat → Hp → V → Hp → Prop
  stop : Nat → Hp → Prop
def FpOk (X : Cx) (pins : List (Addr × Obj)) (H : Hp) (b : Addr) : Prop :=
  H b = none ∧ b ≠ X.env.locals ∧ b ∉ X.fs ∧ (b ∈ X.ex ∨ X.s₀.heap.objs.size ≤ b) ∧ (∀ x c, X.env.cells.lookup x = some c → c ≠ b) ∧ ∀ p ∈ X.pn ++ pins, p.1 ≠ b
theorem Inv.fpOk {X : Cx} {pins : List (Addr × Obj)} {σ : St} {H H' : Hp} {s : Shared} {b : Addr} (I : Inv X pins σ H s) (hb : s.heap.objs.size ≤ b) (hn : H' b = none) : FpOk X pins H' b := by
  refine ⟨hn, Nat.ne_of_gt (Nat.lt_of_lt_of_le I.lt hb), I.nofs hb, .inr (Nat.le_trans I.sz hb), fun x c e z => ?_, fun p hp z => ?_⟩
  · obtain ⟨v, q⟩ := I.cell x c e
    exact absurd (Nat.lt_of_lt_of_le q.lt (by rw [z]; exact hb)) (Nat.lt_irrefl _)
  · exact absurd (Nat.lt_of_lt_of_le (Heap.lt_size (I.pin p hp).1) (by rw [z]; exact hb)) (Nat.lt_irrefl _)
structure Turn (P : Program) (w : World) (K : PySem.W.Frag) (tg : Expr) (J : It) (fp : List Addr) (it : Addr) (tn : Nat → Heap → Prop) : Prop where
  mem : it ∈ fp
  obj : ∀ i h, tn i h → ∀ b ∈ fp, ∃ o, h.get? b = some o ∧ ∀ v, o.data ≠ .cell v
  keep : ∀ i h h', tn i h → (∀ b ∈ fp, ∀ o, h.get? b = some o → h'.get? b = some o) → tn i h'
  item : ∀ (X : Cx), X.prog = P → X.w = w → X.K = K → X.calm = true → ∀ (i : Nat) (pins : List (Addr × Obj)) (s : Shared) (σ : St) (H : Hp) (E : Value → Shared → Prop), Inv X pins σ H s → (∀ b ∈ fp, FpOk X pins H b) → tn i s.heap → J.go i H →
    wpAny (model P w) X.A (pyNext (.ref it)) (fun r s1 => ∃ u, r = some u ∧
      wpAny (model P w) X.A (letOwnedTupleGo tg (.ref it) u) (fun _ s2 => ∃ x H', Inv X pins σ H' s2 ∧ RelV x u ∧ J.yld i H x H' ∧ tn (i + 1) s2.heap ∧ ∀ b ∈ fp, H' b = none) E s1) E s
  done : ∀ (X : Cx), X.prog = P → X.w = w → X.K = K → X.calm = true → ∀ (i : Nat) (pins : List (Addr × Obj)) (s : Shared) (σ : St) (H : Hp) (E : Value → Shared → Prop), Inv X pins σ H s → (∀ b ∈ fp, FpOk X pins H b) → tn i s.heap → J.stop i H →
    wpAny (model P w) X.A (pyNext (.ref it)) (fun r s1 => r = none ∧ Inv X pins σ H s1) E s
  self : ∀ (A : Around) (i : Nat) (s : Shared) (Q : Value → Shared → Prop) (E : Value → Shared → Prop), tn i s.heap → Q (.ref it) s → wpAny (model P w) A (pyIter (.ref it)) Q E s
abbrev TI := St → Hp → (It → Hp → Prop) → Prop
def PIE (X : Cx) (pins : List (Addr × Obj)) (σ : St) (tg : Expr) (R : It → Hp → Prop) (itv : Value) (s2 : Shared) : Prop :=
  ∃ (it : Addr) (fp : List Addr) (tn : Nat → Heap → Prop) (J : It) (H' : Hp), itv = .ref it ∧ Inv X pins σ H' s2 ∧ Turn X.prog X.w X.K tg J fp it tn ∧ tn 0 s2.heap ∧ (∀ b ∈ fp, FpOk X pins H' b) ∧ R J H'
def PI (X : Cx) (tg iter : Expr) (wi : TI) : Prop :=
  ∀ (pins : List (Addr × Obj)) (s : Shared) (σ : St) (H : Hp) (R : It → Hp → Prop), Inv X pins σ H s → wi σ H R →
    wpAny (model X.prog X.w) X.A (eval iter X.env) (fun v s1 => wpAny (model X.prog X.w) X.A (pyIter v) (PIE X pins σ tg R) X.xe s1) X.xe s
theorem go_of {M : Model} {A : Around} {E : Value → Shared → Prop} {s : Shared} {tg : Expr} {it : Addr} {u : Value} {o : Obj} {n : String} {vs : Array Value} {Q : Unit → Shared → Prop} (ho : s.heap.get? it = some o) (hc : o.cls = .type n) (hd : o.data = .fields vs)
    (hn : ["enumerate", "zip", "dict_itemiterator", "dict_reverseitemiterator", "odict_iterator", "itertools.zip_longest", "itertools.pairwise"].contains n = false) (hQ : Q () s) : wpAny M A (letOwnedTupleGo tg (.ref it) u) Q E s := by
  unfold letOwnedTupleGo
  cases tg <;> first
    | exact wpAny_pure hQ
    | (cases u <;> first
        | exact wpAny_pure hQ
        | (refine wpAny_bind (wpAny_load ho ?_)
           rw [hc, hd]
           show wpAny M A (if (["enumerate", "zip", "dict_itemiterator", "dict_reverseitemiterator", "odict_iterator", "itertools.zip_longest", "itertools.pairwise"].contains n && vs[0]? == some (rawInt _)) = true then _ else _) Q E s
           rw [if_neg (by intro h; rw [hn, Bool.false_and] at h; cases h)]
           exact wpAny_pure hQ))
def Itl (K : PySem.W.Frag) (a : Addr) : It :=
  ⟨fun i H => ∃ xs x, SqL K H a xs ∧ xs[i]? = some x, fun i H x H' => H' = H ∧ ∀ xs, SqL K H a xs → xs[i]? = some x, fun i H => ∃ xs, SqL K H a xs ∧ xs.length ≤ i⟩
def Itt (K : PySem.W.Frag) (a : Addr) : It :=
  ⟨fun i H => ∃ xs x, SqT K H a xs ∧ xs[i]? = some x, fun i H x H' => H' = H ∧ ∀ xs, SqT K H a xs → xs[i]? = some x, fun i H => ∃ xs, SqT K H a xs ∧ xs.length ≤ i⟩
def Itr (lo : Int) (n : Nat) : It := ⟨fun i _ => i < n, fun i H x H' => H' = H ∧ x = .int (lo + i), fun i _ => n ≤ i⟩
theorem turn_list {P : Program} {w : World} {K : PySem.W.Frag} {tg : Expr} (a it : Addr) : Turn P w K tg (Itl K a) [it] it (fun i h => h.IsListIter it a i) where
  mem := by simp
  obj := fun i h st b hb => by
    have e : b = it := by simpa using hb
    subst e
    obtain ⟨o, e, c, d⟩ := st
    exact ⟨o, e, fun v z => by rw [d] at z; cases z⟩
  keep := fun i h h' st k => st.at fun o e => k it (by simp) o e
  item := by
    intro X hP hw hK hc i pins s σ H E I hf st hg
    subst hP hw hK
    obtain ⟨xs, x, hq, hx⟩ := hg
    obtain ⟨its, rv, p, hz⟩ := I.list hq
    obtain ⟨u, hu, ru⟩ := rv.get hx
    obtain ⟨f0, f1, f2, f3, f4, f5⟩ := hf it (by simp)
    refine wpAny_pyNext_list_item st p.isList (x := u) (by simpa using hu) fun h' st' sb => ?_
    have I1 : Inv X pins σ H { s with heap := h' } := I.turned (t' := s.toks) (fun b o hb e => (sb.2 b hb).trans e) f0 f1 f3 f4 f5
    obtain ⟨o, e, c, d⟩ := id st'
    exact ⟨u, rfl, go_of (s := { s with heap := h' }) e c d (by decide) ⟨x, H, I1, ru, ⟨rfl, fun ys hy => by rw [I.list_inj hy hq]; exact hx⟩, st', fun b hb => (hf b hb).1⟩⟩
  done := by
    intro X hP hw hK hc i pins s σ H E I hf st hg
    subst hP hw hK
    obtain ⟨xs, hq, hx⟩ := hg
    obtain ⟨its, rv, p, hz⟩ := I.list hq
    obtain ⟨f0, f1, f2, f3, f4, f5⟩ := hf it (by simp)
    have hl := rv.length
    exact wpAny_pyNext_list_end (I.ok.hd hc) st p.isList (by simp; omega) fun h' eb => ⟨rfl, I.turned (t' := s.toks) (fun b o hb e => eb b o hb e) f0 f1 f3 f4 f5⟩
  self := fun _ _ _ _ _ st h => wpAny_pyIter_listiter st h
theorem turn_tuple {P : Program} {w : World} {K : PySem.W.Frag} {tg : Expr} (a it : Addr) : Turn P w K tg (Itt K a) [it] it (fun i h => h.IsTupleIter it a i) where
  mem := by simp
  obj := fun i h st b hb => by
    have e : b = it := by simpa using hb
    subst e
    obtain ⟨o, e, c, d⟩ := st
    exact ⟨o, e, fun v z => by rw [d] at z; cases z⟩
  keep := fun i h h' st k => st.at fun o e => k it (by simp) o e
  item := by
    intro X hP hw hK hc i pins s σ H E I hf st hg
    subst hP hw hK
    obtain ⟨xs, x, hq, hx⟩ := hg
    obtain ⟨its, rv, p, hz⟩ := I.tuple hq
    obtain ⟨u, hu, ru⟩ := rv.get hx
    obtain ⟨f0, f1, f2, f3, f4, f5⟩ := hf it (by simp)
    refine wpAny_pyNext_tuple_item st (show s.heap.IsTuple a its.toArray from p) (x := u) (by simpa using hu) fun h' st' sb => ?_
    have I1 : Inv X pins σ H { s with heap := h' } := I.turned (t' := s.toks) (fun b o hb e => (sb.2 b hb).trans e) f0 f1 f3 f4 f5
    obtain ⟨o, e, c, d⟩ := id st'
    exact ⟨u, rfl, go_of (s := { s with heap := h' }) e c d (by decide) ⟨x, H, I1, ru, ⟨rfl, fun ys hy => by rw [I.tuple_inj hy hq]; exact hx⟩, st', fun b hb => (hf b hb).1⟩⟩
  done := by
    intro X hP hw hK hc i pins s σ H E I hf st hg
    subst hP hw hK
    obtain ⟨xs, hq, hx⟩ := hg
    obtain ⟨its, rv, p, hz⟩ := I.tuple hq
    obtain ⟨f0, f1, f2, f3, f4, f5⟩ := hf it (by simp)
    have hl := rv.length
    exact wpAny_pyNext_tuple_end (I.ok.hd hc) st (show s.heap.IsTuple a its.toArray from p) (by simp; omega) fun h' eb => ⟨rfl, I.turned (t' := s.toks) (fun b o hb e => eb b o hb e) f0 f1 f3 f4 f5⟩
  self := fun _ _ _ _ _ st h => wpAny_pyIter_tupleiter st h
theorem turn_range {P : Program} {w : World} {K : PySem.W.Frag} {tg : Expr} (it : Addr) (lo : Int) (n : Nat) : Turn P w K tg (Itr lo n) [it] it (fun i h => IsRangeIter h it (lo + (i : Nat) * 1) ((n : Int) - (i : Nat)) 1) where
  mem := by simp
  obj := fun i h st b hb => by
    have e : b = it := by simpa using hb
    subst e
    exact ⟨_, st, fun v z => by
      have z' : Data.fields _ = Data.cell v := z
      cases z'⟩
  keep := fun i h h' st k => k it (by simp) _ st
  item := by
    intro X hP hw hK hc i pins s σ H E I hf st hg
    subst hP hw hK
    obtain ⟨f0, f1, f2, f3, f4, f5⟩ := hf it (by simp)
    have W := Walks.range (prog := X.prog) (w := X.w) (I.ok.hd hc) it lo 1 n
    refine W.item i s _ _ hg st fun v h' tk hv st' kk => ?_
    obtain ⟨t, rfl⟩ := hv
    have I1 : Inv X pins σ H { s with heap := h', toks := tk } := I.turned (fun b o hb e => kk b o (by simpa using hb) e) f0 f1 f3 f4 f5
    refine ⟨_, rfl, go_of (s := { s with heap := h', toks := tk }) (n := "range_iterator") st' rfl rfl (by decide) ⟨.int (lo + i), H, I1, ⟨t, ?_⟩, ⟨rfl, rfl⟩, st', fun b hb => (hf b hb).1⟩⟩
    rw [Int.mul_one]
  done := by
    intro X hP hw hK hc i pins s σ H E I hf st hg
    subst hP hw hK
    obtain ⟨f0, f1, f2, f3, f4, f5⟩ := hf it (by simp)
    exact wpAny_pyNext_range_end (I.ok.hd hc) st (by have : n ≤ i := hg; omega) fun h' eb => ⟨rfl, I.turned (t' := s.toks) (fun b o hb e => eb b o hb e) f0 f1 f3 f4 f5⟩
  self := fun _ _ _ _ _ st h => wpAny_pyIter_rangeiter st h
end L2
namespace L2
open PySem PySem.Spec PyProof.Rows
section
variable {X : Cx} {tg : Expr}
def iList (K : PySem.W.Frag) (tl : TE) : TI := fun σ H R => tl σ H fun x H1 => ∃ a, x = .ref a ∧ (∃ xs, SqL K H1 a xs) ∧ R (Itl K a) H1
def iTup (K : PySem.W.Frag) (tl : TE) : TI := fun σ H R => tl σ H fun x H1 => ∃ a, x = .ref a ∧ (∃ xs, SqT K H1 a xs) ∧ R (Itt K a) H1
theorem pi_list {l : Expr} {tl : TE} (hl : PE X l tl) : PI X tg l (iList X.K tl) := by
  intro pins s σ H R I h
  refine thn (hl pins s σ H _ I h) fun v s1 ⟨x, H1, I1, r1, q1⟩ => ?_
  obtain ⟨a, e, ⟨xs, hq⟩, q⟩ := q1
  subst e
  cases r1
  obtain ⟨its, rv, p, hz⟩ := I1.list hq
  refine wpAny_pyIter_list p.isList ?_
  refine ⟨s1.heap.objs.size, [s1.heap.objs.size], _, _, H1, rfl, I1.kept (t' := s1.toks) fun b o e => Heap.get?_push_of_some _ e, turn_list a _, ⟨_, Heap.get?_push_size _ rfl, rfl, rfl⟩, fun b hb => ?_, q⟩
  have e : b = s1.heap.objs.size := by simpa using hb
  subst e
  exact I1.fpOk (Nat.le_refl _) (I1.hok.fresh (Nat.le_refl _))
theorem pi_tup {l : Expr} {tl : TE} (hl : PE X l tl) : PI X tg l (iTup X.K tl) := by
  intro pins s σ H R I h
  refine thn (hl pins s σ H _ I h) fun v s1 ⟨x, H1, I1, r1, q1⟩ => ?_
  obtain ⟨a, e, ⟨xs, hq⟩, q⟩ := q1
  subst e
  cases r1
  obtain ⟨its, rv, p, hz⟩ := I1.tuple hq
  refine wpAny_pyIter_tuple (show s1.heap.IsTuple a its.toArray from p) ?_
  refine ⟨s1.heap.objs.size, [s1.heap.objs.size], _, _, H1, rfl, I1.kept (t' := s1.toks) fun b o e => Heap.get?_push_of_some _ e, turn_tuple a _, ⟨_, Heap.get?_push_size _ rfl, rfl, rfl⟩, fun b hb => ?_, q⟩
  have e : b = s1.heap.objs.size := by simpa using hb
  subst e
  exact I1.fpOk (Nat.le_refl _) (I1.hok.fresh (Nat.le_refl _))
theorem range_it {pins : List (Addr × Obj)} {σ : St} {H : Hp} {s : Shared} {R : It → Hp → Prop} {E : Value → Shared → Prop} {lo hi : Int} {t u v : Tok} {tk : Nat} (I : Inv X pins σ H s) (h1 : -(2 ^ 62) ≤ lo) (h2 : lo < 2 ^ 62) (h3 : -(2 ^ 62) ≤ hi) (h4 : hi < 2 ^ 62)
    (q : R (Itr lo (hi - lo).toNat) H) : wpAny (model X.prog X.w) X.A (pyIter (.ref s.heap.objs.size)) (PIE X pins σ tg R) E { s with heap := s.heap.push { cls := .type "range", data := .fields #[.int lo t, .int hi u, .int 1 v] }, toks := tk } := by
  refine wpAny_pyIter_range (IsRange.new ..) (small_one h1 h2 h3 h4) ?_
  have I1 : Inv X pins σ H { s with heap := s.heap.push { cls := .type "range", data := .fields #[.int lo t, .int hi u, .int 1 v] }, toks := tk } := I.kept fun b o e => Heap.get?_push_of_some _ e
  refine ⟨(s.heap.push { cls := .type "range", data := .fields #[.int lo t, .int hi u, .int 1 v] }).objs.size, [(s.heap.push { cls := .type "range", data := .fields #[.int lo t, .int hi u, .int 1 v] }).objs.size], _, _, H, rfl,
    I1.kept (t' := tk) fun b o e => Heap.get?_push_of_some _ e, turn_range _ lo (hi - lo).toNat, ?_, fun b hb => ?_, q⟩
  · have e1 : lo + ((0 : Nat) : Int) * 1 = lo := by simp
    have e2 : (((hi - lo).toNat : Nat) : Int) - ((0 : Nat) : Int) = Builtin.Range.rangeSize lo hi 1 := by rw [rangeSize_one]; split <;> omega
    show IsRangeIter _ _ (lo + ((0 : Nat) : Int) * 1) ((((hi - lo).toNat : Nat) : Int) - ((0 : Nat) : Int)) 1
    rw [e1, e2]
    exact Heap.get?_push_size _ rfl
  · have e : b = (s.heap.push { cls := .type "range", data := .fields #[.int lo t, .int hi u, .int 1 v] }).objs.size := by simpa using hb
    subst e
    exact I1.fpOk (Nat.le_refl _) (I1.hok.fresh (Nat.le_refl _))
def iRng1 (ta : TA) : TI := fun σ H R => ta σ H fun vs H1 => ∃ j : Int, vs = [.int j] ∧ -(2 ^ 62) ≤ j ∧ j < 2 ^ 62 ∧ R (Itr 0 j.toNat) H1
def iRng2 (ta : TA) : TI := fun σ H R => ta σ H fun vs H1 => ∃ i j : Int, vs = [.int i, .int j] ∧ (-(2 ^ 62) ≤ i ∧ i < 2 ^ 62 ∧ -(2 ^ 62) ≤ j ∧ j < 2 ^ 62) ∧ R (Itr i (j - i).toNat) H1
theorem pi_range1 {a : Expr} {ta : TA} {p pos : Pos} (hg : Gl X "range") (hm : X.mg "range" = none) (ha : PA X [a] ta) (hs : starEach [a] X.env = [(false, eval a X.env)] := by rfl) : PI X tg (.Call (.Name "range" p) [a] [] pos) (iRng1 ta) := by
  intro pins s σ H R I h
  refine Call_ (ld_blt I hg hm boot_range (PyProof.Rows.callWith_type1 (thn (ha pos pins s σ H _ I h) fun us s1 ⟨vs, H1, I1, r1, q1⟩ => ?_) hs rfl))
  obtain ⟨j, e, q1, q2, q⟩ := q1
  subst e
  cases r1 with
  | cons r rr =>
    cases rr
    obtain ⟨t, rfl⟩ := r
    exact call_range_1 (range_it I1 (by omega) (by omega) q1 q2 (by simpa using q))
theorem pi_range2 {a b : Expr} {ta : TA} {p pos : Pos} (hg : Gl X "range") (hm : X.mg "range" = none) (ha : PA X [a, b] ta) (hs : starEach [a, b] X.env = [(false, eval a X.env), (false, eval b X.env)] := by rfl) (hs2 : starEach [b] X.env = [(false, eval b X.env)] := by rfl) :
    PI X tg (.Call (.Name "range" p) [a, b] [] pos) (iRng2 ta) := by
  intro pins s σ H R I h
  refine Call_ (ld_blt I hg hm boot_range (PyProof.Rows.callWith_type1 (thn (ha pos pins s σ H _ I h) fun us s1 ⟨vs, H1, I1, r1, q1⟩ => ?_) (by rw [hs, hs2]) (by rw [hs2]; rfl)))
  obtain ⟨i, j, e, ⟨q1, q2, q3, q4⟩, q⟩ := q1
  subst e
  cases r1 with
  | cons r rr =>
    cases rr with
    | cons r' rr =>
      cases rr
      obtain ⟨t, rfl⟩ := r
      obtain ⟨t', rfl⟩ := r'
      exact call_range_2 (range_it I1 q1 q2 q3 q4 q)
def tFor (wi : TI) (g : TG) (tb : TS) : TS := fun D σ H => wi σ H fun J H1 => ∃ W : Nat → Nat → St → Hp → Prop, (∃ m, W 0 m σ H1) ∧ ∀ i m σ H, W i m σ H →
  (J.stop i H ∧ D.nx σ H) ∨ (J.go i H ∧ ∃ N : St → Hp → Prop, (∀ σ' H', N σ' H' → ∃ m', m' < m ∧ W (i + 1) m' σ' H') ∧ ∀ x H', J.yld i H x H' → g x σ H' fun σ2 H2 => tb { D with nx := N, ct := N, bk := D.nx } σ2 H2)
def pinsAt (fp : List Addr) (h : Heap) : List (Addr × Obj) := fp.filterMap fun b => (h.get? b).map fun o => (b, o)
theorem mem_pinsAt {fp : List Addr} {h : Heap} {b : Addr} {o : Obj} (hb : b ∈ fp) (e : h.get? b = some o) : (b, o) ∈ pinsAt fp h := List.mem_filterMap.mpr ⟨b, hb, by rw [e]; rfl⟩
theorem of_pinsAt {fp : List Addr} {h : Heap} {p : Addr × Obj} (hp : p ∈ pinsAt fp h) : p.1 ∈ fp ∧ h.get? p.1 = some p.2 := by
  obtain ⟨b, hb, e⟩ := List.mem_filterMap.mp hp
  cases q : h.get? b with
  | none => rw [q] at e; cases e
  | some o =>
    rw [q] at e
    have e' : (b, o) = p := Option.some.inj e
    subst e'
    exact ⟨hb, q⟩
theorem Inv.pinned {pins : List (Addr × Obj)} {σ : St} {H : Hp} {s : Shared} {fp : List Addr} (I : Inv X pins σ H s) (hf : ∀ b ∈ fp, FpOk X pins H b) (ho : ∀ b ∈ fp, ∃ o, s.heap.get? b = some o ∧ ∀ v, o.data ≠ .cell v) : Inv X (pins ++ pinsAt fp s.heap) σ H s :=
  I.pins_of fun p hp => (List.mem_append.mp hp).elim (fun z => I.pin p (List.mem_append_right _ z)) fun z => by
    obtain ⟨hb, e⟩ := of_pinsAt z
    obtain ⟨f0, f1, f2, _⟩ := hf p.1 hb
    obtain ⟨o, e', d⟩ := ho p.1 hb
    rw [e] at e'; cases e'
    exact ⟨e, f0, f1, f2, d⟩
theorem Inv.unpinned {pins pl : List (Addr × Obj)} {σ : St} {H : Hp} {s : Shared} (I : Inv X (pins ++ pl) σ H s) : Inv X pins σ H s := I.pins_of fun p hp => I.pin p (List.mem_append_right _ (List.mem_append_left _ hp))
theorem ps_for {iter : Expr} {body : List Stmt} {wi : TI} {g : TG} {tb : TS} {pos : Pos} (hp : PassesOwn (model X.prog X.w) X.A X.env X.xe) (hc : X.calm = true) (hi : PI X tg iter wi) (hg : PG X tg g) (hb : PSs X body tb)
    (hs : ∀ x, foldedSetIterable iter X.env x = pure x := by intro _; rfl) : PS X (.For tg iter body [] pos) (tFor wi g tb) := by
  intro pins s σ H D I h
  refine wpAny_For (thn (hi pins s σ H _ I h) fun v s1 h1 => thn h1 fun itv s2 h2 => ?_) hs
  obtain ⟨it, fp, tn, J, H2, e, I2, T, st2, f2, W, ⟨m0, w0⟩, turn⟩ := h2
  subst e
  -- what stays true of the iterator's objects through the loop
  have stat : ∀ {H' : Hp}, (∀ b ∈ fp, H' b = none) → ∀ b ∈ fp, FpOk X pins H' b := fun hn b hb => ⟨hn b hb, (f2 b hb).2⟩
  refine codeAny_forLoop_any (fun n s' => ∃ i σ' H', Inv X pins σ' H' s' ∧ tn i s'.heap ∧ (∀ b ∈ fp, H' b = none) ∧ W i n σ' H') ?_ m0 ⟨0, σ, H2, I2, st2, fun b hb => (f2 b hb).1, w0⟩
  rintro n s3 ⟨i, σ3, H3, I3, st3, fr3, w3⟩
  rcases turn i n σ3 H3 w3 with ⟨stop, qn⟩ | ⟨go, N, hN, step⟩
  · refine wpAny_passesOwn hp (thn (T.done X rfl rfl rfl hc i pins s3 σ3 H3 X.xe I3 (stat fr3) st3 stop) fun r s4 ⟨hr, I4⟩ => ?_)
    subst hr
    exact wpAny_execs_nil ⟨σ3, H3, I4, qn⟩
  · refine wpAny_passesOwn hp (thn (T.item X rfl rfl rfl hc i pins s3 σ3 H3 X.xe I3 (stat fr3) st3 go) fun r s4 ⟨u, hr, h4⟩ => ?_)
    subst hr
    refine wpAny_passesOwn hp (thn h4 fun _ s5 ⟨x, H5, I5, r5, y5, st5, fr5⟩ => ?_)
    have I5' := I5.pinned (stat fr5) (T.obj _ _ st5)
    refine wpAny_passesOwn hp (thn (hg _ s5 σ3 H5 x u _ I5' r5 (step x H5 y5)) fun _ s6 ⟨σ6, H6, I6, q6⟩ => ?_)
    refine wpAny_passesOwn hp (thn (hb _ s6 σ6 H6 _ I6 q6) fun f s7 q7 => ?_)
    have again : ∀ {σ7 : St} {H7 : Hp}, Inv X (pins ++ pinsAt fp s5.heap) σ7 H7 s7 → N σ7 H7 → ∃ m, m < n ∧ ∃ i σ' H', Inv X pins σ' H' s7 ∧ tn i s7.heap ∧ (∀ b ∈ fp, H' b = none) ∧ W i m σ' H' := fun {σ7 H7} I7 n7 => by
      obtain ⟨m', hm, w7⟩ := hN σ7 H7 n7
      refine ⟨m', hm, i + 1, σ7, H7, I7.unpinned, T.keep _ _ _ st5 fun b hb o e => (I7.pin (b, o) (List.mem_append_right _ (List.mem_append_right _ (mem_pinsAt hb e)))).1, fun b hb => ?_, w7⟩
      obtain ⟨o, e, d⟩ := T.obj _ _ st5 b hb
      exact (I7.pin (b, o) (List.mem_append_right _ (List.mem_append_right _ (mem_pinsAt hb e)))).2.1
    cases f with
    | next => obtain ⟨σ7, H7, I7, n7⟩ := q7; exact again I7 n7
    | cont => obtain ⟨σ7, H7, I7, n7⟩ := q7; exact again I7 n7
    | brk => obtain ⟨σ7, H7, I7, q7⟩ := q7; exact ⟨σ7, H7, I7.unpinned, q7⟩
    | ret v => obtain ⟨x7, σ7, H7, I7, r7, q7⟩ := q7; exact ⟨x7, σ7, H7, I7.unpinned, r7, q7⟩
end
end L2
namespace L2
open PySem PySem.Spec PyProof.Rows
abbrev R2 := V → V → Hp → VK → Prop
def OpR (X : Cx) (f : Value → Value → Sem Value) (r : R2) : Prop :=
  ∀ (pins : List (Addr × Obj)) (s : Shared) (σ : St) (H : Hp) (x y : V) (v u : Value) (Q : VK), Inv X pins σ H s → RelV x v → RelV y u → r x y H Q →
    wpAny (model X.prog X.w) X.A (f v u) (EP X pins σ Q) X.xe s
def UnR (X : Cx) (f : Value → Sem Value) (r : V → Hp → VK → Prop) : Prop :=
  ∀ (pins : List (Addr × Obj)) (s : Shared) (σ : St) (H : Hp) (x : V) (v : Value) (Q : VK), Inv X pins σ H s → RelV x v → r x H Q →
    wpAny (model X.prog X.w) X.A (f v) (EP X pins σ Q) X.xe s
def CallR (X : Cx) (f : Value) (r : List V → Hp → VK → Prop) : Prop :=
  ∀ (pins : List (Addr × Obj)) (s : Shared) (σ : St) (H : Hp) (xs : List V) (us : List Value) (Q : VK), Inv X pins σ H s → Vals xs us → r xs H Q →
    wpAny (model X.prog X.w) X.A (call f us) (EP X pins σ Q) X.xe s
def TruR (X : Cx) (r : V → Hp → (Bool → Hp → Prop) → Prop) : Prop :=
  ∀ (pins : List (Addr × Obj)) (s : Shared) (σ : St) (H : Hp) (x : V) (v : Value) (Q : Bool → Hp → Prop), Inv X pins σ H s → RelV x v → r x H Q →
    wpAny (model X.prog X.w) X.A (truthy v) (TP X pins σ Q) X.xe s
def tOp (r : R2) (ta tb : TE) : TE := fun σ H Q => ta σ H fun x H1 => tb σ H1 fun y H2 => r x y H2 Q
def tUn (r : V → Hp → VK → Prop) (ta : TE) : TE := fun σ H Q => ta σ H fun x H1 => r x H1 Q
def rI (C : Int → Int → Prop) (g : Int → Int → V) : R2 := fun x y H Q => ∃ i j, x = .int i ∧ y = .int j ∧ C i j ∧ Q (g i j) H
def rI0 (g : Int → Int → V) : R2 := fun x y H Q => ∃ i j, x = .int i ∧ y = .int j ∧ Q (g i j) H
def rU (g : Int → V) : V → Hp → VK → Prop := fun x H Q => ∃ i, x = .int i ∧ Q (g i) H
section
variable {X : Cx} {a b c : Expr} {ta tb tc : TE} {pos : Pos}
theorem binT (ha : PE X a ta) (hb : PE X b tb) {pins : List (Addr × Obj)} {s : Shared} {σ : St} {H : Hp} {R : V → V → Hp → Prop} (I : Inv X pins σ H s)
    (h : ta σ H fun x H1 => tb σ H1 fun y H2 => R x y H2) {Q : Value → Shared → Prop} {f : Value → Value → Sem Value}
    (hf : ∀ v u s2 x y H2, Inv X pins σ H2 s2 → RelV x v → RelV y u → R x y H2 → wpAny (model X.prog X.w) X.A (f v u) Q X.xe s2) :
    wpAny (model X.prog X.w) X.A (eval a X.env) (fun v s₁ => wpAny (model X.prog X.w) X.A (eval b X.env) (fun u s₂ => wpAny (model X.prog X.w) X.A (f v u) Q X.xe s₂) X.xe s₁) X.xe s := by
  refine thn (ha pins s σ H _ I h) fun v s1 ⟨x, H1, I1, r1, q1⟩ => ?_
  refine thn (hb pins s1 σ H1 _ I1 q1) fun u s2 ⟨y, H2, I2, r2, q2⟩ => ?_
  exact hf v u s2 x y H2 I2 r1 r2 q2
theorem pe_op {op : Operator} {r : R2} (ho : OpR X (binaryOp op) r) (ha : PE X a ta) (hb : PE X b tb) : PE X (.BinOp a op b pos) (tOp r ta tb) := by
  intro pins s σ H Q I h
  exact wpAny_BinOp (binT ha hb I h fun v u s2 x y H2 I2 rx ry q => ho pins s2 σ H2 x y v u Q I2 rx ry q)
theorem pe_un {op : UnaryOp} {r : V → Hp → VK → Prop} (ho : UnR X (unaryOp op) r) (ha : PE X a ta) : PE X (.UnaryOp op a pos) (tUn r ta) := by
  intro pins s σ H Q I h
  exact UnaryOp_ (thn (ha pins s σ H _ I h) fun v s1 ⟨x, H1, I1, r1, q1⟩ => ho pins s1 σ H1 x v Q I1 r1 q1)
theorem opI {f : Value → Value → Sem Value} {C : Int → Int → Prop} {g : Int → Int → Int}
    (rule : ∀ (i j : Int) (t u : Tok) (s : Shared) (Q : Value → Shared → Prop) (E : Value → Shared → Prop), C i j → Q (.int (g i j) s.toks) { s with toks := s.toks + 1 } → wpAny (model X.prog X.w) X.A (f (.int i t) (.int j u)) Q E s) :
    OpR X f (rI C fun i j => .int (g i j)) := by
  intro pins s σ H x y v u Q I rx ry h
  obtain ⟨i, j, rfl, rfl, hc, q⟩ := h
  obtain ⟨t, rfl⟩ := rx
  obtain ⟨t', rfl⟩ := ry
  exact rule i j t t' s _ _ hc ⟨.int (g i j), H, I.tok _, ⟨_, rfl⟩, q⟩
theorem opI0 {f : Value → Value → Sem Value} {g : Int → Int → Int}
    (rule : ∀ (i j : Int) (t u : Tok) (s : Shared) (Q : Value → Shared → Prop) (E : Value → Shared → Prop), Q (.int (g i j) s.toks) { s with toks := s.toks + 1 } → wpAny (model X.prog X.w) X.A (f (.int i t) (.int j u)) Q E s) :
    OpR X f (rI0 fun i j => .int (g i j)) := by
  intro pins s σ H x y v u Q I rx ry h
  obtain ⟨i, j, rfl, rfl, q⟩ := h
  obtain ⟨t, rfl⟩ := rx
  obtain ⟨t', rfl⟩ := ry
  exact rule i j t t' s _ _ ⟨.int (g i j), H, I.tok _, ⟨_, rfl⟩, q⟩
theorem opB0 {f : Value → Value → Sem Value} {g : Int → Int → Bool}
    (rule : ∀ (i j : Int) (t u : Tok) (s : Shared) (Q : Value → Shared → Prop) (E : Value → Shared → Prop), Q (.bool (g i j)) s → wpAny (model X.prog X.w) X.A (f (.int i t) (.int j u)) Q E s) :
    OpR X f (rI0 fun i j => .bl (g i j)) := by
  intro pins s σ H x y v u Q I rx ry h
  obtain ⟨i, j, rfl, rfl, q⟩ := h
  obtain ⟨t, rfl⟩ := rx
  obtain ⟨t', rfl⟩ := ry
  exact rule i j t t' s _ _ ⟨.bl (g i j), H, I, rfl, q⟩
def CPow (i j : Int) : Prop := 0 ≤ j ∧ j ≤ 1000000 ∧ i.natAbs < 2 ^ 64
def CMul (i j : Int) : Prop := (-(2 ^ 64) < i ∧ i < 2 ^ 64) ∨ (-(2 ^ 64) < j ∧ j < 2 ^ 64)
theorem CMul.ok {i j : Int} (h : CMul i j) : IntMulOk i j := by
  rcases h with ⟨h1, h2⟩ | ⟨h1, h2⟩
  · exact .of_left (intBits_le_64 h1 h2)
  · exact .of_right (intBits_le_64 h1 h2)
theorem op_add : OpR X (binaryOp .Add) (rI0 fun i j => .int (i + j)) := opI0 fun _ _ _ _ _ _ _ q => add_int q
theorem op_sub : OpR X (binaryOp .Sub) (rI0 fun i j => .int (i - j)) := opI0 fun _ _ _ _ _ _ _ q => sub_int q
theorem op_mod : OpR X (binaryOp .Mod) (rI (fun _ j => 0 < j) fun i j => .int (i % j)) := opI fun i j _ _ _ _ _ hc q => by
  have h1 : (0 : Int) < j := hc
  exact mod_int' (by omega) (by rw [Int.fmod_eq_emod_of_nonneg i (by omega)]; exact q)
theorem op_pow : OpR X (binaryOp .Pow) (rI CPow fun i j => .int (i ^ j.toNat)) := opI fun _ _ _ _ _ _ _ hc q => pow_int_small hc.1 hc.2.1 hc.2.2 q
theorem unI {f : Value → Sem Value} {g : Int → Int}
    (rule : ∀ (i : Int) (t : Tok) (s : Shared) (Q : Value → Shared → Prop) (E : Value → Shared → Prop), Q (.int (g i) s.toks) { s with toks := s.toks + 1 } → wpAny (model X.prog X.w) X.A (f (.int i t)) Q E s) :
    UnR X f (rU fun i => .int (g i)) := by
  intro pins s σ H x v Q I rx h
  obtain ⟨i, rfl, q⟩ := h
  obtain ⟨t, rfl⟩ := rx
  exact rule i t s _ _ ⟨.int (g i), H, I.tok _, ⟨_, rfl⟩, q⟩
theorem un_neg : UnR X (unaryOp .USub) (rU fun i => .int (-i)) := unI fun _ _ _ _ _ q => neg_int q
end
def scal : V → V → Bool
  | .non, .non => true | .non, .int _ => true | .int _, .non => true | .non, .bl _ => true | .bl _, .non => true | .non, .str _ => true | .str _, .non => true
  | .int _, .int _ => true | .bl _, .bl _ => true | .str _, .str _ => true | .byt _, .byt _ => true
  | .int _, .str _ => true | .str _, .int _ => true | .bl _, .str _ => true | .str _, .bl _ => true
  | _, _ => false
def rEq : R2 := fun x y H Q => scal x y = true ∧ Q (.bl (decide (x = y))) H
def rNe : R2 := fun x y H Q => scal x y = true ∧ Q (.bl (!decide (x = y))) H
theorem dec_int {i j : Int} : decide (V.int i = V.int j) = (i == j) := by
  rw [Bool.eq_iff_iff]
  simp
theorem dec_bl {i j : Bool} : decide (V.bl i = V.bl j) = (i == j) := by
  rw [Bool.eq_iff_iff]
  simp
theorem dec_str {i j : Str} : decide (V.str i = V.str j) = (i == j) := by
  rw [Bool.eq_iff_iff]
  simp
theorem dec_byt {i j : Array UInt8} : decide (V.byt i = V.byt j) = (i.toList == j.toList) := by
  rw [Bool.eq_iff_iff]
  cases i
  cases j
  simp
section
variable {X : Cx} {a b c : Expr} {ta tb tc : TE} {pos : Pos}
theorem fin_bl {pins : List (Addr × Obj)} {σ : St} {H : Hp} {s : Shared} {Q : VK} {k k' : Bool} (I : Inv X pins σ H s) (q : Q (.bl k) H) (e : k = k') : EP X pins σ Q (.bool k') s := by
  subst e
  exact ⟨.bl k, H, I, rfl, q⟩
theorem op_eq : OpR X (compareOp .Eq) rEq := by
  intro pins s σ H x y v u Q I rx ry h
  obtain ⟨hs, q⟩ := h
  cases x with
  | non =>
    cases rx
    cases y with
    | non => cases ry; exact PySem.EqNone.eq_none_none (fin_bl I q (by simp))
    | bl j => cases ry; exact PySem.EqNone.eq_none_bool (fin_bl I q (by simp))
    | int j => obtain ⟨t', rfl⟩ := ry; exact PySem.EqNone.eq_none_int (fin_bl I q (by simp))
    | str j => obtain ⟨t', rfl⟩ := ry; exact PySem.EqNone.eq_none_str (fin_bl I q (by simp))
    | _ => exact absurd (show false = true from hs) Bool.false_ne_true
  | bl i =>
    cases rx
    cases y with
    | non => cases ry; exact PySem.EqNone.eq_bool_none (fin_bl I q (by simp))
    | bl j => cases ry; exact eq_bool (fin_bl I q dec_bl)
    | str j => obtain ⟨t', rfl⟩ := ry; exact PySem.EqMixed.eq_bool_str (fin_bl I q (by simp))
    | _ => exact absurd (show false = true from hs) Bool.false_ne_true
  | int i =>
    obtain ⟨t, rfl⟩ := rx
    cases y with
    | non => cases ry; exact PySem.EqNone.eq_int_none (fin_bl I q (by simp))
    | int j => obtain ⟨t', rfl⟩ := ry; exact eq_int (fin_bl I q dec_int)
    | str j => obtain ⟨t', rfl⟩ := ry; exact PySem.EqMixed.eq_int_str (fin_bl I q (by simp))
    | _ => exact absurd (show false = true from hs) Bool.false_ne_true
  | str i =>
    obtain ⟨t, rfl⟩ := rx
    cases y with
    | non => cases ry; exact PySem.EqNone.eq_str_none (fin_bl I q (by simp))
    | bl j => cases ry; exact PySem.EqMixed.eq_str_bool (fin_bl I q (by simp))
    | int j => obtain ⟨t', rfl⟩ := ry; exact PySem.EqMixed.eq_str_int (fin_bl I q (by simp))
    | str j => obtain ⟨t', rfl⟩ := ry; exact eq_str (fin_bl I q dec_str)
    | _ => exact absurd (show false = true from hs) Bool.false_ne_true
  | byt i =>
    obtain ⟨t, rfl⟩ := rx
    cases y with
    | byt j => obtain ⟨t', rfl⟩ := ry; exact PySem.W.eq_bytes (fin_bl I q dec_byt)
    | _ => exact absurd (show false = true from hs) Bool.false_ne_true
  | _ => cases y <;> exact absurd (show false = true from hs) Bool.false_ne_true
theorem op_ne : OpR X (compareOp .NotEq) rNe := by
  intro pins s σ H x y v u Q I rx ry h
  obtain ⟨hs, q⟩ := h
  cases x with
  | non =>
    cases rx
    cases y with
    | non => cases ry; exact PySem.EqNone.ne_none_none (fin_bl I q (by simp))
    | bl j => cases ry; exact PySem.EqNone.ne_none_bool (fin_bl I q (by simp))
    | int j => obtain ⟨t', rfl⟩ := ry; exact PySem.EqNone.ne_none_int (fin_bl I q (by simp))
    | str j => obtain ⟨t', rfl⟩ := ry; exact PySem.EqNone.ne_none_str (fin_bl I q (by simp))
    | _ => exact absurd (show false = true from hs) Bool.false_ne_true
  | bl i =>
    cases rx
    cases y with
    | non => cases ry; exact PySem.EqNone.ne_bool_none (fin_bl I q (by simp))
    | bl j => cases ry; exact ne_bool (fin_bl I q (congrArg not dec_bl))
    | str j => obtain ⟨t', rfl⟩ := ry; exact PySem.EqMixed.ne_bool_str (fin_bl I q (by simp))
    | _ => exact absurd (show false = true from hs) Bool.false_ne_true
  | int i =>
    obtain ⟨t, rfl⟩ := rx
    cases y with
    | non => cases ry; exact PySem.EqNone.ne_int_none (fin_bl I q (by simp))
    | int j => obtain ⟨t', rfl⟩ := ry; exact ne_int (fin_bl I q (congrArg not dec_int))
    | str j => obtain ⟨t', rfl⟩ := ry; exact PySem.EqMixed.ne_int_str (fin_bl I q (by simp))
    | _ => exact absurd (show false = true from hs) Bool.false_ne_true
  | str i =>
    obtain ⟨t, rfl⟩ := rx
    cases y with
    | non => cases ry; exact PySem.EqNone.ne_str_none (fin_bl I q (by simp))
    | bl j => cases ry; exact PySem.EqMixed.ne_str_bool (fin_bl I q (by simp))
    | int j => obtain ⟨t', rfl⟩ := ry; exact PySem.EqMixed.ne_str_int (fin_bl I q (by simp))
    | str j => obtain ⟨t', rfl⟩ := ry; exact ne_str (fin_bl I q (congrArg not dec_str))
    | _ => exact absurd (show false = true from hs) Bool.false_ne_true
  | byt i =>
    obtain ⟨t, rfl⟩ := rx
    cases y with
    | byt j => obtain ⟨t', rfl⟩ := ry; exact PySem.W.ne_bytes (fin_bl I q (congrArg not dec_byt))
    | _ => exact absurd (show false = true from hs) Bool.false_ne_true
  | _ => cases y <;> exact absurd (show false = true from hs) Bool.false_ne_true
theorem op_lt : OpR X (compareOp .Lt) (rI0 fun i j => .bl (decide (i < j))) := opB0 fun _ _ _ _ _ _ _ q => lt_int q
theorem op_le : OpR X (compareOp .LtE) (rI0 fun i j => .bl (decide (i ≤ j))) := opB0 fun _ _ _ _ _ _ _ q => le_int q
theorem op_gt : OpR X (compareOp .Gt) (rI0 fun i j => .bl (decide (j < i))) := opB0 fun _ _ _ _ _ _ _ q => gt_int q
theorem op_ge : OpR X (compareOp .GtE) (rI0 fun i j => .bl (decide (j ≤ i))) := opB0 fun _ _ _ _ _ _ _ q => ge_int q
theorem op_in_str : OpR X (compareOp .In) (fun x y H Q => ∃ i j, x = .str i ∧ y = .str j ∧ Q (.bl (!(Builtin.Str.occurrences j i 0 j.length 1).isEmpty)) H) := by
  intro pins s σ H x y v u Q I rx ry h
  obtain ⟨i, j, rfl, rfl, q⟩ := h
  obtain ⟨t, rfl⟩ := rx
  obtain ⟨t', rfl⟩ := ry
  exact in_str (fin_bl I q rfl)
theorem op_isN : OpR X (compareOp .Is) (fun x y H Q => y = .non ∧ Q (.bl (decide (x = .non))) H) := by
  intro pins s σ H x y v u Q I rx ry h
  obtain ⟨rfl, q⟩ := h
  cases ry
  refine is_none_gen (fin_bl I q ?_)
  cases x <;> first
    | (cases rx; rfl)
    | (obtain ⟨t, rfl⟩ := rx; rfl)
theorem op_notN : OpR X (compareOp .IsNot) (fun x y H Q => y = .non ∧ Q (.bl (!decide (x = .non))) H) := by
  intro pins s σ H x y v u Q I rx ry h
  obtain ⟨rfl, q⟩ := h
  cases ry
  refine isnot_none_gen (fin_bl I q ?_)
  cases x <;> first
    | (cases rx; rfl)
    | (obtain ⟨t, rfl⟩ := rx; rfl)
theorem op_notin_str : OpR X (compareOp .NotIn) (fun x y H Q => ∃ i j, x = .str i ∧ y = .str j ∧ Q (.bl (!(!(Builtin.Str.occurrences j i 0 j.length 1).isEmpty))) H) := by
  intro pins s σ H x y v u Q I rx ry h
  obtain ⟨i, j, rfl, rfl, q⟩ := h
  obtain ⟨t, rfl⟩ := rx
  obtain ⟨t', rfl⟩ := ry
  exact notIn_str (fin_bl I q rfl)
theorem OpR.or {f : Value → Value → Sem Value} {r r' : R2} (h : OpR X f r) (h' : OpR X f r') : OpR X f (fun x y H Q => r x y H Q ∨ r' x y H Q) := by
  intro pins s σ H x y v u Q I rx ry q
  rcases q with q | q
  · exact h pins s σ H x y v u Q I rx ry q
  · exact h' pins s σ H x y v u Q I rx ry q
theorem pe_cmpR {op : CmpOp} {r : R2} (ho : OpR X (compareOp op) r) (ha : PE X a ta) (hb : PE X b tb) (hm : behindInMarks op b = false) : PE X (.Compare a [op] [b] pos) (tOp r ta tb) := by
  intro pins s σ H Q I h
  exact wpAny_Compare1 (binT ha hb I h fun v u s2 x y H2 I2 rx ry q => ho pins s2 σ H2 x y v u Q I2 rx ry q) hm
def tTest (t : TE) : TT := fun σ H Q => t σ H fun x H' => ∃ k, x = .bl k ∧ Q k H'
theorem pt_cmpR {op : CmpOp} {r : R2} (ho : OpR X (compareOp op) r) (ha : PE X a ta) (hb : PE X b tb) (hm : behindInMarks op b = false) : PT X (.Compare a [op] [b] pos) (tTest (tOp r ta tb)) := by
  intro pins s σ H Q I h
  refine wpAny_isTrue_Compare1 (thn (ha pins s σ H _ I h) fun v s1 ⟨x, H1, I1, r1, q1⟩ => thn (hb pins s1 σ H1 _ I1 q1) fun u s2 ⟨y, H2, I2, r2, q2⟩ =>
    thn (ho pins s2 σ H2 x y v u _ I2 r1 r2 q2) fun c s3 ⟨z, H3, I3, r3, k, e, q3⟩ => ?_) hm
  subst e
  cases r3
  exact wpAny_truthy_bool ⟨H3, I3, q3⟩
def TruV (K : PySem.W.Frag) (x : V) (H : Hp) (k : Bool) : Prop :=
  match x with
  | .non => k = false
  | .bl b => k = b
  | .int i => k = (i != 0)
  | .str y => y.length ≤ sizeLine ∧ k = ((y.length : Int) != 0)
  | .byt y => y.size ≤ sizeLine ∧ k = ((y.size : Int) != 0)
  | .ref p => (∃ xs, SqL K H p xs ∧ k = !xs.isEmpty) ∨ (∃ xs, SqT K H p xs ∧ k = !xs.isEmpty) ∨ ∃ kvs, H p = some (.dK kvs) ∧ k = !kvs.isEmpty
  | _ => False
theorem isEmpty_kv {κ : Type} {kvs : List (κ × V)} {vs : List (κ × Value)} (r : KV kvs vs) : (!vs.isEmpty) = !kvs.isEmpty := by
  cases r <;> rfl
theorem isEmpty_of {xs : List V} {its : List Value} (r : Vals xs its) : (!its.toArray.isEmpty) = !xs.isEmpty := by
  cases r <;> simp
theorem line63 : (sizeLine : Nat) < 2 ^ 63 := by rw [sizeLine_eq]; decide
theorem tru_ok : TruR X (fun x H Q => ∃ k, TruV X.K x H k ∧ Q k H) := by
  intro pins s σ H x v Q I rx h
  obtain ⟨k, e, q⟩ := h
  have hl := line63
  have hs : sizeLine = 16777216 := sizeLine_eq
  cases x with
  | non =>
    cases rx
    have e' : k = false := e
    subst e'
    exact truthy_none ⟨H, I, q⟩
  | bl b =>
    cases rx
    have e' : k = b := e
    subst e'
    exact wpAny_truthy_bool ⟨H, I, q⟩
  | int i =>
    obtain ⟨t, rfl⟩ := rx
    have e' : k = (i != 0) := e
    subst e'
    exact PySem.P.truthy_int ⟨H, I, q⟩
  | str y =>
    obtain ⟨t, rfl⟩ := rx
    obtain ⟨hy, e'⟩ : y.length ≤ sizeLine ∧ k = ((y.length : Int) != 0) := e
    subst e'
    exact PySem.P.truthy_str (by omega) ⟨H, I.tok _, q⟩
  | byt y =>
    obtain ⟨t, rfl⟩ := rx
    obtain ⟨hy, e'⟩ : y.size ≤ sizeLine ∧ k = ((y.size : Int) != 0) := e
    subst e'
    exact PySem.W.truthy_bytes (by omega) ⟨H, I.tok _, q⟩
  | ref p =>
    cases rx
    have e' : (∃ xs, SqL X.K H p xs ∧ k = !xs.isEmpty) ∨ (∃ xs, SqT X.K H p xs ∧ k = !xs.isEmpty) ∨ ∃ kvs, H p = some (.dK kvs) ∧ k = !kvs.isEmpty := e
    rcases e' with ⟨xs, hx, e'⟩ | ⟨xs, hx, e'⟩ | ⟨kvs, hx, e'⟩
    · subst e'
      obtain ⟨its, r, pl, hz⟩ := I.list hx
      have hlen := r.length
      exact wpAny_truthy_list pl.isList (by simp only [List.size_toArray]; omega) ⟨H, I.tok _, by rw [isEmpty_of r]; exact q⟩
    · subst e'
      obtain ⟨its, r, pl, hz⟩ := I.tuple hx
      have hlen := r.length
      exact truthy_tuple pl (by simp only [List.size_toArray]; omega) ⟨H, I.tok _, by rw [isEmpty_of r]; exact q⟩
    · subst e'
      obtain ⟨hz, hS, vs, r, m⟩ : kvs.length ≤ sizeLine ∧ (p == sysModules) = false ∧ ∃ vs, KV kvs vs ∧ s.heap.DictOf (mixKind X.prog X.w) p vs := I.hok p _ hx
      have hlen : kvs.length = vs.length := Paired.length r
      exact wpAny_truthy_dict hS m (by omega) ⟨H, I.tok _, by rw [isEmpty_kv r]; exact q⟩
  | _ => exact (show False from e).elim
theorem pt_truth (ha : PE X a ta) (he : ∀ whole, isTrue a X.env whole = (do let v ← whole; standAt a.pos; holding [v] (truthy v))) :
    PT X a (fun σ H Q => ta σ H fun x H' => ∃ k, TruV X.K x H' k ∧ Q k H') := by
  intro pins s σ H Q I h
  exact isTrue_plain (thn (ha pins s σ H _ I h) fun v s1 ⟨x, H1, I1, r1, q1⟩ => tru_ok pins s1 σ H1 x v Q I1 r1 q1) (he _)
theorem op_add_str : OpR X (binaryOp .Add) (fun x y H Q => ∃ i j, x = .str i ∧ y = .str j ∧ i.length + j.length ≤ sizeLine ∧ Q (.str (i ++ j)) H) := by
  intro pins s σ H x y v u Q I rx ry h
  obtain ⟨i, j, rfl, rfl, hz, q⟩ := h
  obtain ⟨t, rfl⟩ := rx
  obtain ⟨t', rfl⟩ := ry
  exact add_str (fun t' tk => ⟨.str (i ++ j), H, I.tok _, ⟨_, rfl⟩, q⟩) hz
theorem vals1 {x : V} {us : List Value} (r : Vals [x] us) : ∃ u, us = [u] ∧ RelV x u := by
  cases r with
  | cons r1 r2 => cases r2; exact ⟨_, rfl, r1⟩
theorem vals2 {x y : V} {us : List Value} (r : Vals [x, y] us) : ∃ u w', us = [u, w'] ∧ RelV x u ∧ RelV y w' := by
  cases r with
  | cons r1 r2 =>
    cases r2 with
    | cons r3 r4 => cases r4; exact ⟨_, _, rfl, r1, r3⟩
theorem call_max2 (hc : X.calm = true) : CallR X (.builtin "max") (fun xs H Q => ∃ i j, xs = [.int i, .int j] ∧ Q (.int (if j > i then j else i)) H) := by
  intro pins s σ H xs us Q I r h
  obtain ⟨i, j, rfl, q⟩ := h
  obtain ⟨u, w', rfl, ⟨t, rfl⟩, ⟨t', rfl⟩⟩ := vals2 r
  refine max_two_ints (I.ok.hd hc) fun h' tk k => ⟨_, H, I.kept k, ?_, q⟩
  by_cases hj : j > i
  · rw [if_pos hj, if_pos hj]; exact ⟨_, rfl⟩
  · rw [if_neg hj, if_neg hj]; exact ⟨_, rfl⟩
theorem call_min2 (hc : X.calm = true) : CallR X (.builtin "min") (fun xs H Q => ∃ i j, xs = [.int i, .int j] ∧ Q (.int (if j < i then j else i)) H) := by
  intro pins s σ H xs us Q I r h
  obtain ⟨i, j, rfl, q⟩ := h
  obtain ⟨u, w', rfl, ⟨t, rfl⟩, ⟨t', rfl⟩⟩ := vals2 r
  refine min_two_ints (I.ok.hd hc) fun h' tk k => ⟨_, H, I.kept k, ?_, q⟩
  by_cases hj : j < i
  · rw [if_pos hj, if_pos hj]; exact ⟨_, rfl⟩
  · rw [if_neg hj, if_neg hj]; exact ⟨_, rfl⟩
theorem call_str_int : CallR X (.type "str") (fun xs H Q => ∃ i, xs = [.int i] ∧ i.natAbs.log2 < 1920 ∧ Q (.str (toString i)) H) := by
  intro pins s σ H xs us Q I r h
  obtain ⟨i, rfl, hz, q⟩ := h
  obtain ⟨u, rfl, t, rfl⟩ := vals1 r
  exact PySem.P.str_of_int hz ⟨.str _, H, I.tok _, ⟨_, rfl⟩, q⟩
end
end L2
namespace L2
open PySem PySem.Spec PyProof.Rows
structure ObjM (h : Heap) (x dx C : Addr) (mA : Str → Option Value) : Prop where
  obj : h.get? x = some (PySem.W.instObj C dx)
  ns : h.Ns1 dx mA
  ne : dx ≠ x
theorem lookIn_ns {h : Heap} {dx : Addr} {mA : Str → Option Value} (n : h.Ns1 dx mA) : ∃ od, h.get? dx = some od ∧ ∀ name, PySem.W.lookIn name od = some (mA name) := by
  obtain ⟨o, es, ep, ho, hd, hk, _, hm⟩ := n
  refine ⟨o, ho, fun name => ?_⟩
  have e := hm name
  unfold nsFind findBy at e
  rw [← Array.find?_toList] at e
  unfold PySem.W.lookIn
  rw [hd]
  dsimp only
  split
  · rename_i y q
    rw [q] at e
    exact congrArg some e
  · rename_i q
    rw [q] at e
    have a : es.toList.any (·.refKey) = false := by
      rw [List.any_eq_false]
      intro y hy
      obtain ⟨z, t, hkey⟩ := hk y (Array.mem_toList_iff.mp hy)
      simp [DictEntry.refKey, hkey]
    have a' : ¬ es.toList.any (·.refKey) = true := by rw [a]; exact Bool.false_ne_true
    rw [if_neg a']
    exact congrArg some e
theorem ObjM.look {h : Heap} {x dx C : Addr} {mA : Str → Option Value} (I : ObjM h x dx C mA) : ∃ od, PySem.W.InstAt h x (PySem.W.instObj C dx) C (some od) ∧ ∀ name, PySem.W.lookIn name od = some (mA name) :=
  let ⟨od, ho, hl⟩ := lookIn_ns I.ns
  ⟨od, ⟨I.obj, rfl, rfl, ho⟩, hl⟩
section
variable {prog : Program} {w : World} {A : Around} {E : Value → Shared → Prop} {s : Shared} {K : PySem.W.Frag} {x dx C f : Addr} {mA : Str → Option Value} {name : Str} {v : Value}
theorem get_map {expr : Bool} {Q : Value → Shared → Prop} (X : K.In s.heap) (I : ObjM s.heap x dx C mA) (hg : PySem.W.plainGet K C name = true) (hh : PySem.W.hasDictIn K C = true)
    (ha : PySem.W.findIn K (.ref C) name = some none) (hv : mA name = some v) (hv' : PySem.W.handedIn v = true) (h : Q v { s with toks := s.toks + 1 }) :
    wpAny (model prog w) A (getAttr (.ref x) name expr) Q E s := by
  obtain ⟨od, J, hl⟩ := I.look
  exact PySem.W.get_value X J (PySem.W.plainGet_of hg).1 (PySem.W.findObj_own hh ha rfl (by rw [hl, hv])) hv' h
theorem get_meth {pl : Sem Bool} {Q : Value × List Value → Shared → Prop} (X : K.In s.heap) (I : ObjM s.heap x dx C mA) (hg : PySem.W.plainGet K C name = true)
    (hf : PySem.W.findIn K (.ref C) name = some (some (.ref f))) (ht : PySem.W.isFn K (.ref f) = true) (hv : mA name = none) (h : Q (.ref f, [.ref x]) s) :
    wpAny (model prog w) A (getMethod (.ref x) name pl) Q E s := by
  obtain ⟨od, J, hl⟩ := I.look
  exact PySem.W.method_fn X J (PySem.W.plainGet_of hg).1 (PySem.W.plainGet_of hg).2 hf (beq_iff_eq.mp ht) (by show (PySem.W.lookIn name od).map (·.isSome) = some false; rw [hl, hv]; rfl) h
theorem set_map {ns : List Str} {Q : Unit → Shared → Prop} (X : K.In s.heap) (I : ObjM s.heap x dx C mA)
    (hs : PySem.W.findIn K (.ref C) "__setattr__" = some (some (.builtin "object.__setattr__"))) (hp : PySem.W.plainOver K C = true) (ht : PySem.W.takerIn K C name = some none) (hh : PySem.W.hasDictIn K C = true)
    (hw : PySem.Within mA ns) (hsz : ns.length ≤ sizeLine)
    (h : ∀ h', ObjM h' x dx C (fun y => if y = name then some v else mA y) → Heap.SameBut dx s.heap h' → Q () { s with heap := h', toks := s.toks + 2 }) :
    wpAny (model prog w) A (setAttr (.ref x) name v) Q E s := by
  obtain ⟨od, J, hl⟩ := I.look
  refine PySem.W.set_plain X J hs (PySem.W.osa_open (s := { s with toks := s.toks + 1 }) (r := none) X J hp ht fun b => ?_)
  obtain ⟨cd, hc, hd'⟩ := PySem.W.any_some hh
  have hx : s.heap.get? x = some ⟨.ref C, some dx, .plain, #[]⟩ := I.obj
  refine wpAny_bind (wpAny_pure (wpAny_bind (wpAny_bind (wpAny_loadPart hx (wpAny_bind (PySem.W.Looks.here (s := { s with toks := s.toks + 1 }) (PySem.W.looks_clsIn X hc) ?_))))))
  rw [hd']
  refine wpAny_pure (a := some dx) (wpAny_bind (wpAny_pure (wpAny_bind ?_)))
  refine wpAny_nsSet1 (s := { s with toks := s.toks + 1 }) I.ns fun h' hn2 hs2 => ?_
  obtain ⟨oD, esD, epD, hoD, hdD, hcD⟩ := hn2.count (PySem.Within.cons name v hw)
  refine wpAny_bind (wpAny_lookBehind hoD (by rw [hdD]; exact pastItsLine_dict (Nat.le_trans hcD (by rw [List.length_cons]; omega))) ?_)
  exact wpAny_pure (h _ ⟨(hs2.2 _ (Ne.symm I.ne)).trans I.obj, hn2, I.ne⟩ hs2)
theorem make_map {R : Result → Shared → Prop} {vs : List Value} {kw : List (Str × Value)} (X : K.In s.heap) (hm : PySem.W.makesIn K C = true)
    (hi : PySem.W.findIn K (.ref C) "__init__" = some (some (.ref f))) (hf : PySem.W.typeIn K (.ref f) = some (.type "function"))
    (h : codeAny (model prog w) (A.under (.builtin "type.__call__" ⟨.ref C :: vs, kw⟩)) (.call (.ref f) ⟨.ref (s.heap.objs.size + 1) :: vs, kw⟩) (PySem.W.InitBack (s.heap.objs.size + 1) R)
      { s with heap := (s.heap.push PySem.W.emptyDict).push (PySem.W.instObj C s.heap.objs.size) }) :
    codeAny (model prog w) A (.call (.ref C) ⟨vs, kw⟩) R s := by
  obtain ⟨hh, g, d, t, os⟩ := s
  exact PySem.W.make_core (PySem.W.makes_of X hm) (PySem.W.looks_findIn X hi) (fun self => PySem.W.bind_fn X self hf) (.inl rfl) h
theorem make_map0 {R : Result → Shared → Prop} (X : K.In s.heap) (hm : PySem.W.makesIn K C = true)
    (hi : PySem.W.findIn K (.ref C) "__init__" = some (some (.builtin "object.__init__")))
    (hb : ∀ self, PySem.W.Looks (model prog w) s.heap (bindSpecial (.builtin "object.__init__") self) (.builtin "object.__init__", [self]))
    (h : codeAny (model prog w) (A.under (.builtin "type.__call__" ⟨[.ref C], []⟩)) (.call (.builtin "object.__init__") ⟨[.ref (s.heap.objs.size + 1)], []⟩) (PySem.W.InitBack (s.heap.objs.size + 1) R)
      { s with heap := (s.heap.push PySem.W.emptyDict).push (PySem.W.instObj C s.heap.objs.size) }) :
    codeAny (model prog w) A (.call (.ref C) ⟨[], []⟩) R s := by
  obtain ⟨hh, g, d, t, os⟩ := s
  exact PySem.W.make_core (PySem.W.makes_of X hm) (PySem.W.looks_findIn X hi) hb (.inr ⟨rfl, rfl⟩) h
end
def putF (f : Str) (v : V) : List (Str × V) → List (Str × V)
  | [] => [(f, v)]
  | (g, x) :: r => if g = f then (g, v) :: r else (g, x) :: putF f v r
theorem lookup_putF (f g : Str) (v : V) : ∀ fs : List (Str × V), (putF f v fs).lookup g = if g = f then some v else fs.lookup g
  | [] => by
    show List.lookup g [(f, v)] = _
    by_cases h : g = f
    · have hb : (g == f) = true := beq_iff_eq.mpr h
      simp only [List.lookup, hb, if_pos h]
    · have hb : (g == f) = false := beq_eq_false_iff_ne.mpr h
      simp only [List.lookup, hb, if_neg h]
  | (k, x) :: r => by
    have ih := lookup_putF f g v r
    rw [show putF f v ((k, x) :: r) = (if k = f then (k, v) :: r else (k, x) :: putF f v r) from rfl]
    by_cases hk : k = f
    · rw [if_pos hk]
      by_cases h : g = k
      · have hb : (g == k) = true := beq_iff_eq.mpr h
        simp only [List.lookup, hb, if_pos (h.trans hk)]
      · have hb : (g == k) = false := beq_eq_false_iff_ne.mpr h
        simp only [List.lookup, hb, if_neg (fun e : g = f => h (e.trans hk.symm))]
    · rw [if_neg hk]
      by_cases h : g = k
      · have hb : (g == k) = true := beq_iff_eq.mpr h
        simp only [List.lookup, hb, if_neg (fun e : g = f => hk (h.symm.trans e))]
      · have hb : (g == k) = false := beq_eq_false_iff_ne.mpr h
        simp only [List.lookup, hb]
        exact ih
theorem keys_putF (f : Str) (v : V) : ∀ fs : List (Str × V), f ∈ (putF f v fs).map (·.1) ∧ ∀ g, g ∈ fs.map (·.1) → g ∈ (putF f v fs).map (·.1)
  | [] => ⟨by simp [putF], fun g h => by simp at h⟩
  | (k, x) :: r => by
    obtain ⟨i1, i2⟩ := keys_putF f v r
    rw [show putF f v ((k, x) :: r) = (if k = f then (k, v) :: r else (k, x) :: putF f v r) from rfl]
    by_cases hk : k = f
    · rw [if_pos hk]
      subst hk
      exact ⟨by simp, fun g h => by simpa using h⟩
    · rw [if_neg hk]
      refine ⟨?_, fun g h => ?_⟩
      · rw [List.map_cons]
        exact List.mem_cons_of_mem _ i1
      · rw [List.map_cons] at h ⊢
        rcases List.mem_cons.mp h with e | e
        · exact List.mem_cons.mpr (.inl e)
        · exact List.mem_cons_of_mem _ (i2 g e)
theorem length_putF (f : Str) (v : V) : ∀ fs : List (Str × V), (putF f v fs).length ≤ fs.length + 1
  | [] => by simp [putF]
  | (k, x) :: r => by
    have ih := length_putF f v r
    rw [show putF f v ((k, x) :: r) = (if k = f then (k, v) :: r else (k, x) :: putF f v r) from rfl]
    by_cases hk : k = f
    · rw [if_pos hk, List.length_cons, List.length_cons]; omega
    · rw [if_neg hk, List.length_cons, List.length_cons]; omega
theorem RelO.some_of {v : V} {o : Option Value} (r : RelO (some v) o) : ∃ u, o = some u ∧ RelV v u := by
  cases o with
  | none => exact (show False from r).elim
  | some u => exact ⟨u, rfl, r⟩
theorem RelO.none_of {o : Option Value} (r : RelO none o) : o = none := by
  cases o with
  | none => rfl
  | some u => exact (show False from r).elim
theorem handed_of {v : V} {u : Value} (r : RelV v u) : PySem.W.handedIn u = true := by
  cases v with
  | non => cases (show u = Value.none from r); rfl
  | bl b => cases (show u = Value.bool b from r); rfl
  | int i => obtain ⟨t, e⟩ := (show ∃ t, u = Value.int i t from r); cases e; rfl
  | str x => obtain ⟨t, e⟩ := (show ∃ t, u = Value.str x t from r); cases e; rfl
  | byt b => obtain ⟨t, e⟩ := (show ∃ t, u = Value.bytes b t from r); cases e; rfl
  | flt b => obtain ⟨t, e⟩ := (show ∃ t, u = Value.float b t from r); cases e; rfl
  | ref a => cases (show u = Value.ref a from r); rfl
  | ty n => cases (show u = Value.type n from r); rfl
section
variable {P : Program} {w : World} {H H' : Hp} {h h' : Heap} {a C dx : Addr} {fs fs' : List (Str × V)}
theorem ins_get (hok : HOk P w H h) (e : H a = some (.ins C dx fs)) : ∃ mA, ObjM h a dx C mA ∧ (∀ f, RelO (fs.lookup f) (mA f)) ∧ PySem.Within mA (fs.map (·.1)) ∧ fs.length ≤ 1000 ∧ H dx = some (.own a) := by
  obtain ⟨d, z, ne, ob, mA, n, r, q⟩ := (show ObjOk P w H h a (.ins C dx fs) from hok a _ e)
  exact ⟨mA, ⟨ob, n, ne⟩, r, q, z, d⟩
end
structure Cls (K : PySem.W.Frag) (C : Addr) : Prop where
  pg : PySem.W.plainGet K C Str.empty = true
  hd : PySem.W.hasDictIn K C = true
  po : PySem.W.plainOver K C = true
  sa : PySem.W.findIn K (.ref C) "__setattr__" = some (some (.builtin "object.__setattr__"))
theorem Cls.get {K : PySem.W.Frag} {C : Addr} (c : Cls K C) (f : Str) : PySem.W.plainGet K C f = true := c.pg
def NoAttr (K : PySem.W.Frag) (C : Addr) (f : Str) : Prop := PySem.W.findIn K (.ref C) f = some none
theorem NoAttr.taker {K : PySem.W.Frag} {C : Addr} {f : Str} (n : NoAttr K C f) : PySem.W.takerIn K C f = some none := by
  unfold PySem.W.takerIn
  rw [show PySem.W.findIn K (.ref C) f = some none from n]
  rfl
structure Meth (K : PySem.W.Frag) (C : Addr) (m : Str) (f : Addr) : Prop where
  at_ : PySem.W.findIn K (.ref C) m = some (some (.ref f))
  fn : PySem.W.isFn K (.ref f) = true
  kp : PySem.W.keepIn K (.ref f) = true
section
variable {X : Cx} {pins : List (Addr × Obj)} {σ : St} {H : Hp} {s : Shared} {a C dx : Addr} {fs : List (Str × V)} {f : Str} {v : V} {A : Around} {E : Value → Shared → Prop}
theorem getattr_ok {b : Bool} {Q : Value → Shared → Prop} (I : Inv X pins σ H s) (e : H a = some (.ins C dx fs)) (c : Cls X.K C) (n : NoAttr X.K C f) (l : fs.lookup f = some v)
    (h : ∀ u s', Inv X pins σ H s' → RelV v u → Q u s') : wpAny (model X.prog X.w) A (getAttr (.ref a) f b) Q E s := by
  obtain ⟨mA, O, r, _, _, _⟩ := ins_get I.hok e
  obtain ⟨u, hu, ru⟩ := RelO.some_of (v := v) (o := mA f) (by rw [← l]; exact r f)
  exact get_map I.kIn O (c.get f) c.hd n hu (handed_of ru) (h u _ (I.tok _) ru)
theorem getmeth_ok {m : Str} {g : Addr} {pl : Sem Bool} {Q : Value × List Value → Shared → Prop} (I : Inv X pins σ H s) (e : H a = some (.ins C dx fs)) (c : Cls X.K C) (k : Meth X.K C m g) (l : fs.lookup m = none)
    (h : Q (.ref g, [.ref a]) s) : wpAny (model X.prog X.w) A (getMethod (.ref a) m pl) Q E s := by
  obtain ⟨mA, O, r, _, _, _⟩ := ins_get I.hok e
  have hn : mA m = none := RelO.none_of (by rw [← l]; exact r m)
  exact get_meth I.kIn O (c.get m) k.at_ k.fn hn h
theorem setattr_ok {y : V} {u : Value} {Q : Unit → Shared → Prop} (I : Inv X pins σ H s) (e : H a = some (.ins C dx fs)) (c : Cls X.K C) (n : NoAttr X.K C f) (hl : fs.length < 1000) (ry : RelV y u)
    (h : ∀ s', Inv X pins σ (upd H a (.ins C dx (putF f y fs))) s' → Q () s') : wpAny (model X.prog X.w) A (setAttr (.ref a) f u) Q E s := by
  obtain ⟨mA, O, r, wi, _, ho⟩ := ins_get I.hok e
  have hz : (fs.map (·.1)).length ≤ sizeLine := by rw [List.length_map, sizeLine_eq]; omega
  refine set_map I.kIn O c.sa c.po n.taker c.hd wi hz fun h' O' sb => h _ ?_
  have hd : ∃ o, h'.get? dx = some o := let ⟨o, _, _, e', _⟩ := O'.ns; ⟨o, e'⟩
  refine I.write (x := a) (e := dx) (by rw [e]; exact True.intro) (.inr ho) (fun b q hb z => (sb.2 b hb).trans z) hd ?_
  refine ⟨by rw [upd_ne O.ne]; exact ho, ?_, O.ne, O'.obj, _, O'.ns, fun g => ?_, fun g hg => ?_⟩
  · have := length_putF f y fs; omega
  · show RelO ((putF f y fs).lookup g) (if g = f then some u else mA g)
    rw [lookup_putF]
    by_cases q : g = f
    · rw [if_pos q, if_pos q]; exact ry
    · rw [if_neg q, if_neg q]; exact r g
  · by_cases q : g = f
    · rw [q]; exact (keys_putF f y fs).1
    · refine (keys_putF f y fs).2 g (wi g fun z => hg ?_)
      show (if g = f then some u else mA g) = none
      rw [if_neg q]; exact z
theorem Inv.made (I : Inv X pins σ H s) : Inv X pins σ (upd (upd H s.heap.objs.size (.own (s.heap.objs.size + 1))) (s.heap.objs.size + 1) (.ins C s.heap.objs.size []))
    { s with heap := (s.heap.push PySem.W.emptyDict).push (PySem.W.instObj C s.heap.objs.size) } := by
  have e1 : (s.heap.push PySem.W.emptyDict).get? s.heap.objs.size = some PySem.W.emptyDict := Heap.get?_push_size s.heap rfl
  have e2 : ((s.heap.push PySem.W.emptyDict).push (PySem.W.instObj C s.heap.objs.size)).get? (s.heap.objs.size + 1) = some (PySem.W.instObj C s.heap.objs.size) := by
    have := Heap.get?_push_size (s.heap.push PySem.W.emptyDict) (o := PySem.W.instObj C s.heap.objs.size) rfl
    rwa [Heap.size_push] at this
  have e3 : (s.heap.push PySem.W.emptyDict).Ns s.heap.objs.size (fun _ => none) := ⟨PySem.W.emptyDict, #[], _, e1, rfl, (fun e he => absurd he (by simp)), fun _ => rfl⟩
  have I1 := I.laid (a := s.heap.objs.size) (o := .own (s.heap.objs.size + 1)) (h' := s.heap.push PySem.W.emptyDict) (t' := s.toks) (fun b u q => Heap.get?_push_of_some _ q) (Nat.le_refl _) ⟨_, e1⟩
  refine I1.laid (a := s.heap.objs.size + 1) (o := .ins C s.heap.objs.size []) (t' := s.toks) (fun b u q => Heap.get?_push_of_some _ q) (Nat.le_of_eq (Heap.size_push _ _)) ?_
  have ne : s.heap.objs.size ≠ s.heap.objs.size + 1 := Nat.ne_of_lt (Nat.lt_succ_self _)
  refine ⟨by rw [upd_ne ne, upd_same], Nat.zero_le _, ne, e2, fun _ => none, (Heap.Ns1.of_empty e3).at fun o q => Heap.get?_push_of_some _ q, fun _ => True.intro, fun y hy => absurd rfl hy⟩
theorem attr_of {prog : Program} {w : World} {env : Env} {e : Expr} {f : Str} {pos : Pos} {s : Shared} {Q : Value → Shared → Prop} (hb : attributeBase e f env (eval e env) = eval e env)
    (h : wpAny (model prog w) A (eval e env) (fun o s₁ => wpAny (model prog w) A (getAttr o f true) Q E s₁) E s) : wpAny (model prog w) A (eval (.Attribute e f pos) env) Q E s :=
  Attribute_any_ h (by rw [arm_eval_Attribute, hb])
end
def tFld (K : PySem.W.Frag) (ta : TE) (f : Str) : TE := fun σ H Q => ta σ H fun x H1 => ∃ a C dx fs v, x = .ref a ∧ H1 a = some (.ins C dx fs) ∧ Cls K C ∧ NoAttr K C f ∧ fs.lookup f = some v ∧ Q v H1
def sFld (K : PySem.W.Frag) (ta tv : TE) (f : Str) : TS := fun D σ H => tv σ H fun y H1 => ta σ H1 fun x H2 => ∃ a C dx fs, x = .ref a ∧ H2 a = some (.ins C dx fs) ∧ Cls K C ∧ NoAttr K C f ∧ fs.length < 1000 ∧
  D.nx σ (upd H2 a (.ins C dx (putF f y fs)))
section
variable {X : Cx} {o e value : Expr} {f : Str} {pos pos' tpos : Pos} {ta tv : TE}
theorem pe_fld (he : PE X e ta) (hb : attributeBase e f X.env (eval e X.env) = eval e X.env) : PE X (.Attribute e f pos) (tFld X.K ta f) := by
  intro pins s σ H Q I h
  refine attr_of hb (thn (he pins s σ H _ I h) fun u s1 ⟨x, H1, I1, rx, a, C, dx, fs, v, ex, ea, c, n, l, q⟩ => ?_)
  subst ex
  obtain rfl : u = Value.ref a := rx
  exact getattr_ok I1 ea c n l fun u' s2 I2 ru => ⟨v, H1, I2, ru, q⟩
theorem ps_fld (ha : PE X o ta) (hv : PE X value tv) (hs : swapsWith value (some (.Attribute o f pos')) pos.line X.env = pure false) : PS X (.Assign [.Attribute o f pos'] value pos) (sFld X.K ta tv f) := by
  intro pins s σ H D I h
  refine plainObj_wpAny_Assign_Attribute (thn (hv pins s σ H _ I h) fun u s1 ⟨y, H1, I1, ry, q⟩ => thn (ha pins s1 σ H1 _ I1 q) fun ov s2 ⟨x, H2, I2, rx, a, C, dx, fs, ex, ea, c, n, l, q2⟩ => ?_) hs
  subst ex
  obtain rfl : ov = Value.ref a := rx
  exact setattr_ok I2 ea c n l ry fun s3 I3 => ⟨σ, _, I3, q2⟩
end
section
variable {X : Cx} {pins : List (Addr × Obj)} {σ : St} {H : Hp} {s : Shared} {A : Around} {E : Value → Shared → Prop} {Q : Value → Shared → Prop} {c : Value} {b : Bool}
inductive TyOf (K : PySem.W.Frag) (H : Hp) : V → Value → Prop where
  | non : TyOf K H .non (.type "NoneType")
  | bl (x : Bool) : TyOf K H (.bl x) (.type "bool")
  | int (i : Int) : TyOf K H (.int i) (.type "int")
  | str (x : Str) : TyOf K H (.str x) (.type "str")
  | flt (x : UInt64) : TyOf K H (.flt x) (.type "float")
  | lst {a : Addr} {xs : List V} (e : H a = some (.lst xs)) : TyOf K H (.ref a) (.type "list")
  | frz {a : Addr} {o : Obj} {xs : List V} (e : H a = some (.frz o (.lst xs))) : TyOf K H (.ref a) (.type "list")
  | tup {a : Addr} {xs : List V} (e : H a = some (.tup xs)) : TyOf K H (.ref a) (.type "tuple")
  | dK {a : Addr} {kvs : List (Key × V)} (e : H a = some (.dK kvs)) : TyOf K H (.ref a) (.type "dict")
  | dT {a : Addr} {kvs : List (List Key × V)} (e : H a = some (.dT kvs)) : TyOf K H (.ref a) (.type "dict")
  | ins {a C dx : Addr} {fs : List (Str × V)} (e : H a = some (.ins C dx fs)) (cl : Cls K C) (ha : PySem.W.findIn K (.ref C) "__class__" = some (some (.builtin "object.__class__")))
      (hn : PySem.W.specialIn K (.builtin "object.__class__") "__get__" = some (some (.builtin "getset_descriptor.__get__"))) (htk : PySem.W.takesIn K (.builtin "object.__class__") = some true)
      (hm : PySem.W.mroIn K C (.type "object") = some true) : TyOf K H (.ref a) (.ref C)
theorem isinst_ok {x : V} {u t : Value} (I : Inv X pins σ H s) (rx : RelV x u) (ty : TyOf X.K H x t) (e : PySem.W.kitOne X.K t c = some b) (h : ∀ tk, Q (.bool b) { s with toks := tk }) :
    wpAny (model X.prog X.w) A (call (.builtin "isinstance") [u, c]) Q E s := by
  cases ty with
  | non => cases (show u = Value.none from rx); exact PySem.W.kia_one PySem.W.kitx_none I.kIn True.intro e (fun z => nomatch z) h
  | bl y => cases (show u = Value.bool y from rx); exact PySem.W.kia_one PySem.W.kitx_bool I.kIn True.intro e (fun z => nomatch z) h
  | int i => obtain ⟨t, q⟩ := (show ∃ t, u = Value.int i t from rx); cases q; exact PySem.W.kia_one PySem.W.kitx_int I.kIn True.intro e (fun z => nomatch z) h
  | str y => obtain ⟨t, q⟩ := (show ∃ t, u = Value.str y t from rx); cases q; exact PySem.W.kia_one PySem.W.kitx_str I.kIn True.intro e (fun z => nomatch z) h
  | flt y => obtain ⟨t, q⟩ := (show ∃ t, u = Value.float y t from rx); cases q; exact PySem.W.kia_one PySem.W.kitx_float I.kIn True.intro e (fun z => nomatch z) h
  | @lst a xs ea =>
    cases (show u = Value.ref a from rx)
    obtain ⟨_, _, n, _, h1⟩ := (show ObjOk X.prog X.w H s.heap a (.lst xs) from I.hok a _ ea)
    exact PySem.W.kia_one PySem.W.kitx_list I.kIn ⟨_, h1, rfl⟩ e (fun z => nomatch z) h
  | @frz a ob xs ea =>
    cases (show u = Value.ref a from rx)
    obtain ⟨_, _, _, n, _, h1⟩ := (show ObjOk X.prog X.w H s.heap a (.frz ob (.lst xs)) from I.hok a _ ea)
    exact PySem.W.kia_one PySem.W.kitx_list I.kIn ⟨_, h1, rfl⟩ e (fun z => nomatch z) h
  | @tup a xs ea =>
    cases (show u = Value.ref a from rx)
    obtain ⟨_, _, _, p⟩ := (show ObjOk X.prog X.w H s.heap a (.tup xs) from I.hok a _ ea)
    obtain ⟨o, h1, h2, _⟩ := p
    exact PySem.W.kia_one PySem.W.kitx_tuple I.kIn ⟨o, h1, h2⟩ e (fun z => nomatch z) h
  | @dK a kvs ea =>
    cases (show u = Value.ref a from rx)
    obtain ⟨_, _, vs, _, p⟩ := (show ObjOk X.prog X.w H s.heap a (.dK kvs) from I.hok a _ ea)
    obtain ⟨o, es, ep, h1, h2, _⟩ := p
    exact PySem.W.kia_one PySem.W.kitx_dict I.kIn ⟨o, h1, h2.1⟩ e (fun z => nomatch z) h
  | @dT a kvs ea =>
    cases (show u = Value.ref a from rx)
    obtain ⟨_, _, xs, _, o, es, ep, h1, h2, _⟩ := (show ObjOk X.prog X.w H s.heap a (.dT kvs) from I.hok a _ ea)
    exact PySem.W.kia_one PySem.W.kitx_dict I.kIn ⟨o, h1, h2.1⟩ e (fun z => nomatch z) h
  | @ins a C dx fs ea cl ha hn htk hm =>
    cases (show u = Value.ref a from rx)
    obtain ⟨mA, O, _⟩ := ins_get I.hok ea
    obtain ⟨od, J, _⟩ := O.look
    exact PySem.W.kia_one (PySem.W.kitx_own (cl.get _) cl.hd ha hn htk hm) I.kIn J e (fun z => nomatch z) h
end
end L2
namespace L2
open PySem PySem.Spec PyProof.Rows
structure Room (k : Nat) (A : Around) : Prop where
  hd : A.handled = none
  dp : A.depth + 3 * k + 5 < recursionLimit
  un : A.units + 16 * k + 200 < cLine
theorem Room.mono {j k : Nat} {A : Around} (r : Room k A) (h : j ≤ k) : Room j A := ⟨r.hd, by have := r.dp; omega, by have := r.un; omega⟩
theorem Room.deeper {k : Nat} {A : Around} (r : Room (k + 1) A) (env : Env) : Room k (A.deeper env) :=
  ⟨r.hd, by have := r.dp; show A.depth + 1 + 3 * k + 5 < _; omega, by have := r.un; show A.units + 3 + 16 * k + 200 < _; omega⟩
theorem make_depth {A : Around} {C : Addr} {us : List Value} {kw : List (Str × Value)} : (A.under (.builtin "type.__call__" ⟨.ref C :: us, kw⟩)).depth = A.depth + 1 := by
  first | rfl | simp [Around.under, Code.weight, Code.isCreation, Code.isGuard, Code.isCaller, Code.frames, Code.isFrame, guardIds]
theorem make_units {A : Around} {C : Addr} {us : List Value} {kw : List (Str × Value)} : (A.under (.builtin "type.__call__" ⟨.ref C :: us, kw⟩)).units = A.units + 1 := by
  first | rfl | simp [Around.under, Code.cUnits, Code.frames, Code.isFrame]
theorem Room.make {k : Nat} {A : Around} (r : Room (k + 1) A) (C : Addr) (us : List Value) (kw : List (Str × Value)) : Room k (A.under (.builtin "type.__call__" ⟨.ref C :: us, kw⟩)) :=
  ⟨r.hd, by have := r.dp; rw [make_depth]; omega, by have := r.un; rw [make_units]; omega⟩
theorem Room.depth {k : Nat} {A : Around} (r : Room k A) : A.depth < recursionLimit := by have := r.dp; omega
theorem Room.units {k : Nat} {A : Around} (r : Room k A) : A.units + 64 < cLine := by have := r.un; omega
def tNil : TA := fun _ H Q => Q [] H
def tCons (ta : TE) (tr : TA) : TA := fun σ H Q => ta σ H fun x H1 => tr σ H1 fun xs H2 => Q (x :: xs) H2
section
variable {X : Cx} {e : Expr} {es : List Expr} {te : TE} {t : TA} {pos : Pos}
theorem pa_nil : PA X [] tNil := fun _ _ _ _ H Q I h => Calls.spliced_nil ⟨[], H, I, .nil, h⟩
theorem pa_cons (ha : PE X e te) (hr : PA X es t) (hs : starEach (e :: es) X.env = (false, eval e X.env) :: starEach es X.env := by rfl) : PA X (e :: es) (tCons te t) := by
  intro pos pins s σ H Q I h
  rw [hs]
  show wpAny _ _ (spliced ((false, eval e X.env) :: backTo pos (starEach es X.env))) _ _ s
  refine Calls.spliced_cons (thn (ha pins s σ H _ I h) fun u s1 ⟨x, H1, I1, r1, q1⟩ => ?_)
  exact thn (hr pos pins s1 σ H1 _ I1 q1) fun us s2 ⟨xs, H2, I2, r2, q2⟩ => ⟨x :: xs, H2, I2, .cons r1 r2, q2⟩
def tTup (t : TA) : TE := fun σ H Q => t σ H fun xs H1 => xs.length ≤ sizeLine ∧ ∀ p, H1 p = none → Q (.ref p) (upd H1 p (.tup xs))
def tLst (t : TA) : TE := fun σ H Q => t σ H fun xs H1 => xs.length ≤ sizeLine ∧ ∀ p, H1 p = none → Q (.ref p) (upd H1 p (.lst xs))
theorem pe_tup {x1} (h : PA X es t) : PE X (.Tuple es x1 pos) (tTup t) := by
  intro pins s σ H Q I hq
  refine wpAny_Tuple_spliced (thn (h pos pins s σ H _ I hq) fun us s1 ⟨xs, H1, I1, r, z, q⟩ => ⟨by rw [← r.length]; exact z, ?_⟩)
  have hf : H1 s1.heap.objs.size = none := I1.hok.fresh (Nat.le_refl _)
  refine ⟨.ref s1.heap.objs.size, upd H1 s1.heap.objs.size (.tup xs), I1.laid (t' := s1.toks) (fun b u e => Heap.get?_push_of_some _ e) (Nat.le_refl _) ?_, rfl, q _ hf⟩
  exact ⟨z, us, r, ⟨_, Heap.get?_push_size _ rfl, rfl, _, rfl⟩⟩
theorem pe_lst (h : PA X es t) : PE X (.List es pos) (tLst t) := by
  intro pins s σ H Q I hq
  refine wpAny_List_spliced (thn (h pos pins s σ H _ I hq) fun us s1 ⟨xs, H1, I1, r, z, q⟩ => ⟨by rw [← r.length]; exact z, ?_⟩)
  have hf : H1 s1.heap.objs.size = none := I1.hok.fresh (Nat.le_refl _)
  refine ⟨.ref s1.heap.objs.size, upd H1 s1.heap.objs.size (.lst xs), I1.laid (t' := s1.toks) (fun b u e => Heap.get?_push_of_some _ e) (Nat.le_refl _) ?_, rfl, q _ hf⟩
  exact ⟨z, us, 0, r, Heap.get?_push_size _ rfl⟩
end
abbrev Sp := List V → Hp → VK → XK → Prop
abbrev CXT := List Env → Hp → Shared → XK → Value → Shared → Prop
structure Env0 (P : Program) (w : World) (K : PySem.W.Frag) (mg : Str → Option Value) (base : Heap) (A : Around) (outer : List Env) (s : Shared) (H : Hp) : Prop where
  frames : A.frames = some outer
  mod : Mod K mg base
  bs : ∀ b o, base.get? b = some o → s.heap.get? b = some o ∧ H b = none
  bsz : base.objs.size ≤ s.heap.objs.size
  funs : s.heap.FunFrames base outer
  frf : ∀ b ∈ frs outer, H b = none
  hok : HOk P w H s.heap
  bare : AllBare s.gens
def CE (outer : List Env) (P : Program) (w : World) (H : Hp) (s : Shared) (Q : VK) (u : Value) (s' : Shared) : Prop :=
  ∃ v H', s'.os = s.os ∧ AllBare s'.gens ∧ Un (frs outer) [] H H' s.heap s'.heap ∧ HOk P w H' s'.heap ∧ RelV v u ∧ Q v H'
def CR (CX : CXT) (outer : List Env) (P : Program) (w : World) (H : Hp) (s : Shared) (Q : VK) (E : XK) (r : Result) (s' : Shared) : Prop :=
  match r with
  | .ok (.ret u) => CE outer P w H s Q u s'
  | .ok _ => False
  | .error e => CX outer H s E e s'
structure FnOk (P : Program) (w : World) (K : PySem.W.Frag) (mg : Str → Option Value) (base : Heap) (CX : CXT) (k : Nat) (f : Addr) (fd : FuncData) (ps : List Str) (sp : Sp) : Prop where
  len : ∀ vs H Q E, sp vs H Q E → vs.length = ps.length
  run : ∀ (A : Around) (outer : List Env) (s : Shared) (H : Hp) (args : Args) (us : List Value) (vs : List V) (Q : VK) (E : XK), Room k A → Env0 P w K mg base A outer s H → BindsTo s fd args (ps.zip us) → Vals vs us → sp vs H Q E →
    codeAny (model P w) A (.call (.ref f) args) (CR CX outer P w H s Q E) s
theorem Env0.make {P : Program} {w : World} {K : PySem.W.Frag} {mg : Str → Option Value} {base : Heap} {A : Around} {outer : List Env} {s : Shared} {H : Hp} (e : Env0 P w K mg base A outer s H) (C : Addr) (us : List Value) (kw : List (Str × Value)) :
    Env0 P w K mg base (A.under (.builtin "type.__call__" ⟨.ref C :: us, kw⟩)) outer s H := ⟨by first | exact e.frames | (simpa [Around.under, Code.envs, Code.isFrame, pushEnvs] using e.frames), e.mod, e.bs, e.bsz, e.funs, e.frf, e.hok, e.bare⟩
section
variable {X : Cx} {pins : List (Addr × Obj)} {σ : St} {H : Hp} {s s' : Shared}
theorem Inv.env0 (I : Inv X pins σ H s) : Env0 X.prog X.w X.K X.mg X.base X.A X.stack s H :=
  ⟨I.ok.frames, I.ok.mod, I.bs, Nat.le_trans I.ok.bsz I.sz, I.stack, I.stkFree, I.hok, I.bare⟩
theorem Inv.after {Q : VK} {u : Value} (I : Inv X pins σ H s) (h : CE X.stack X.prog X.w H s Q u s') : EP X pins σ Q u s' := by
  obtain ⟨v, H', os, bare, un, hok, r, q⟩ := h
  obtain ⟨hh, g, d, t, os'⟩ := s'
  obtain rfl : os' = s.os := os
  exact ⟨v, H', I.call (h' := hh) (g' := g) (d' := d) (t' := t) (ch := []) un hok bare (fun b z => absurd z (by simp)), r, q⟩
end
def tCall (sp : Sp) (dvs : List V) (E : XK) (t : TA) : TE := fun σ H Q => t σ H fun vs H1 => sp (vs ++ dvs) H1 Q E
def tMake (C : Addr) (sp : Sp) (dvs : List V) (E : XK) (t : TA) : TE := fun σ H Q => t σ H fun vs H1 => ∀ x dx, H1 x = none → H1 dx = none → dx ≠ x →
  sp (.ref x :: (vs ++ dvs)) (upd (upd H1 dx (.own x)) x (.ins C dx [])) (fun v H2 => v = .non ∧ Q (.ref x) H2) E
def Binds (K : PySem.W.Frag) (fd : FuncData) (ps : List Str) (ds : List Value) : Prop :=
  ∀ (s : Shared) (us : List Value), K.In s.heap → (us ++ ds).length = ps.length → BindsTo s fd ⟨us, []⟩ (ps.zip (us ++ ds))
theorem Binds.all {K : PySem.W.Frag} {fd : FuncData} {ps : List Str} (h : ∀ us : List Value, us.length = ps.length → bindArgs fd ⟨us, []⟩ = pure (ps.zip us)) : Binds K fd ps [] := fun s us _ hl => by
  rw [List.append_nil] at hl ⊢
  exact .of_eq (h us hl)
def Passes (CX : CXT) (X : Cx) (E : XK) : Prop := ∀ (pins : List (Addr × Obj)) (σ : St) (H : Hp) (s : Shared) (e : Value) (s' : Shared), Inv X pins σ H s → CX X.stack H s E e s' → X.xe e s'
section
variable {X : Cx} {CX : CXT} {k : Nat} {f C : Addr} {fd : FuncData} {ps : List Str} {sp : Sp} {dvs : List V} {ds : List Value} {E : XK} {x m : Str} {p pos apos : Pos} {e o : Expr} {es : List Expr} {ta : TE} {t : TA}
theorem run_fn {pins : List (Addr × Obj)} {σ : St} {H : Hp} {s : Shared} {Q : VK} {us : List Value} {vs : List V} (F : FnOk X.prog X.w X.K X.mg X.base CX k f fd ps sp) (hr : Room k X.A) (hb : Binds X.K fd ps ds) (hd : Vals dvs ds) (hx : Passes CX X E)
    (I : Inv X pins σ H s) (r : Vals vs us) (h : sp (vs ++ dvs) H Q E) : wpAny (model X.prog X.w) X.A (call (.ref f) us) (EP X pins σ Q) X.xe s := by
  have r2 : Vals (vs ++ dvs) (us ++ ds) := r.append hd
  have hl : (us ++ ds).length = ps.length := by rw [← r2.length]; exact F.len _ _ _ _ h
  refine wpAny_call (codeAny_mono (F.run X.A X.stack s H ⟨us, []⟩ (us ++ ds) (vs ++ dvs) Q E hr I.env0 (hb s us I.kIn hl) r2 h) fun r s' hq => ?_)
  cases r with
  | error e => exact hx pins σ H s e s' I hq
  | ok fl =>
    cases fl with
    | ret u => exact I.after hq
    | next => exact False.elim hq
    | brk => exact False.elim hq
    | cont => exact False.elim hq
theorem pe_call (F : FnOk X.prog X.w X.K X.mg X.base CX k f fd ps sp) (hr : Room k X.A) (hg : Gl X x) (hm : X.mg x = some (.ref f)) (hk : PySem.W.keepIn X.K (.ref f) = true) (hb : Binds X.K fd ps ds) (hd : Vals dvs ds) (hx : Passes CX X E)
    (ha : PA X (e :: es) t) (hdb : (x == ("__debug__" : Str)) = false := by decide) (he : starEach (e :: es) X.env = (false, eval e X.env) :: starEach es X.env := by rfl) (hpl : (backTo pos (starEach es X.env)).any (·.1) = false := by rfl) :
    PE X (.Call (.Name x p) (e :: es) [] pos) (tCall sp dvs E t) := by
  intro pins s σ H Q I h
  refine wpAny_Call_Name_kw (ld_glob I hg hm ?_ hdb)
  refine PySem.W.callWith_K (h₀ := X.base) I.ok.mod.kin hk (thn (ha pos pins s σ H _ I h) fun us s1 ⟨vs, H1, I1, r, q⟩ => ⟨I1.kIn, ?_⟩) he hpl
  exact run_fn F hr hb hd hx I1 r q
theorem pe_call0 (F : FnOk X.prog X.w X.K X.mg X.base CX k f fd ps sp) (hr : Room k X.A) (hg : Gl X x) (hm : X.mg x = some (.ref f)) (hk : PySem.W.keepIn X.K (.ref f) = true) (hb : Binds X.K fd ps ds) (hd : Vals dvs ds) (hx : Passes CX X E)
    (hdb : (x == ("__debug__" : Str)) = false := by decide) : PE X (.Call (.Name x p) [] [] pos) (tCall sp dvs E tNil) := by
  intro pins s σ H Q I h
  refine wpAny_Call_Name_kw (ld_glob I hg hm ?_ hdb)
  exact PySem.W.callWith_K0 I.kIn hk (run_fn (us := []) F hr hb hd hx I .nil h)
structure Mk (K : PySem.W.Frag) (C f : Addr) : Prop where
  makes : PySem.W.makesIn K C = true
  init : PySem.W.findIn K (.ref C) "__init__" = some (some (.ref f))
  fn : PySem.W.isFn K (.ref f) = true
  kp : PySem.W.keepIn K (.ref C) = true
theorem run_make {pins : List (Addr × Obj)} {σ : St} {H : Hp} {s : Shared} {Q : VK} {us : List Value} {vs : List V} (M : Mk X.K C f) (F : FnOk X.prog X.w X.K X.mg X.base CX k f fd ps sp) (hr : Room (k + 1) X.A) (hb : Binds X.K fd ps ds) (hd : Vals dvs ds)
    (hx : Passes CX X E) (I : Inv X pins σ H s) (r : Vals vs us)
    (h : ∀ x dx, H x = none → H dx = none → dx ≠ x → sp (.ref x :: (vs ++ dvs)) (upd (upd H dx (.own x)) x (.ins C dx [])) (fun v H2 => v = .non ∧ Q (.ref x) H2) E) :
    wpAny (model X.prog X.w) X.A (call (.ref C) us) (EP X pins σ Q) X.xe s := by
  have hq := h (s.heap.objs.size + 1) s.heap.objs.size (I.hok.fresh (Nat.le_succ _)) (I.hok.fresh (Nat.le_refl _)) (Nat.ne_of_lt (Nat.lt_succ_self _))
  have I2 := Inv.made (C := C) I
  have r2 : Vals (V.ref (s.heap.objs.size + 1) :: (vs ++ dvs)) (Value.ref (s.heap.objs.size + 1) :: (us ++ ds)) := .cons rfl (r.append hd)
  have hl : (Value.ref (s.heap.objs.size + 1) :: us ++ ds).length = ps.length := by
    have e := r2.length
    rw [F.len _ _ _ _ hq] at e
    exact e.symm
  refine wpAny_call (make_map (f := f) I.kIn M.makes M.init (beq_iff_eq.mp M.fn) (codeAny_mono (F.run _ X.stack _ _ ⟨Value.ref (s.heap.objs.size + 1) :: us, []⟩ (Value.ref (s.heap.objs.size + 1) :: (us ++ ds)) _ _ E (hr.make C us [])
    (I2.env0.make C us []) (hb _ (Value.ref (s.heap.objs.size + 1) :: us) I2.kIn hl) r2 hq) fun r s' hq' => ?_))
  cases r with
  | error e => exact hx pins σ _ _ e s' I2 hq'
  | ok fl =>
    cases fl with
    | ret u =>
      obtain ⟨v, H', I3, rv, ev, q3⟩ := I2.after hq'
      subst ev
      exact ⟨rv, ⟨V.ref (s.heap.objs.size + 1), H', I3, rfl, q3⟩⟩
    | next => exact False.elim hq'
    | brk => exact False.elim hq'
    | cont => exact False.elim hq'
theorem pe_make (M : Mk X.K C f) (F : FnOk X.prog X.w X.K X.mg X.base CX k f fd ps sp) (hr : Room (k + 1) X.A) (hg : Gl X x) (hm : X.mg x = some (.ref C)) (hb : Binds X.K fd ps ds) (hd : Vals dvs ds) (hx : Passes CX X E)
    (ha : PA X (e :: es) t) (hdb : (x == ("__debug__" : Str)) = false := by decide) (he : starEach (e :: es) X.env = (false, eval e X.env) :: starEach es X.env := by rfl) (hpl : (backTo pos (starEach es X.env)).any (·.1) = false := by rfl) :
    PE X (.Call (.Name x p) (e :: es) [] pos) (tMake C sp dvs E t) := by
  intro pins s σ H Q I h
  refine wpAny_Call_Name_kw (ld_glob I hg hm ?_ hdb)
  refine PySem.W.callWith_K (h₀ := X.base) I.ok.mod.kin M.kp (thn (ha pos pins s σ H _ I h) fun us s1 ⟨vs, H1, I1, r, q⟩ => ⟨I1.kIn, ?_⟩) he hpl
  exact run_make M F hr hb hd hx I1 r q
theorem pe_make0 (M : Mk X.K C f) (F : FnOk X.prog X.w X.K X.mg X.base CX k f fd ps sp) (hr : Room (k + 1) X.A) (hg : Gl X x) (hm : X.mg x = some (.ref C)) (hb : Binds X.K fd ps ds) (hd : Vals dvs ds) (hx : Passes CX X E)
    (hdb : (x == ("__debug__" : Str)) = false := by decide) : PE X (.Call (.Name x p) [] [] pos) (tMake C sp dvs E tNil) := by
  intro pins s σ H Q I h
  refine wpAny_Call_Name_kw (ld_glob I hg hm ?_ hdb)
  exact PySem.W.callWith_K0 I.kIn M.kp (run_make (us := []) M F hr hb hd hx I .nil h)
end
def PK (X : Cx) (kws : List Keyword) (t : TA) : Prop :=
  ∀ (pos : Pos) (pins : List (Addr × Obj)) (s : Shared) (σ : St) (H : Hp) (Q : List V → Hp → Prop), Inv X pins σ H s → t σ H Q → wpAny (model X.prog X.w) X.A (evalAll ((backToKw pos (keywordEach kws X.env)).map (·.2))) (AP X pins σ Q) X.xe s
section
variable {X : Cx} {CX : CXT} {k : Nat} {f C : Addr} {fd : FuncData} {ps ks : List Str} {sp : Sp} {E : XK} {x m : Str} {p pos apos kpos : Pos} {e o : Expr} {es : List Expr} {kws : List Keyword} {te ta : TE} {t tk : TA} {nm : Option Str}
theorem pk_nil : PK X [] tNil := fun _ _ _ _ H Q I h => wpAny_evalAll_nil ⟨[], H, I, .nil, h⟩
theorem pk_cons (ha : PE X e te) (hr : PK X kws t) : PK X (⟨nm, e, kpos⟩ :: kws) (tCons te t) := by
  intro pos pins s σ H Q I h
  show wpAny _ _ (evalAll ((do let v ← eval e X.env; standAt pos; pure v) :: (backToKw pos (keywordEach kws X.env)).map (·.2))) _ _ s
  refine wpAny_evalAll_cons (wpAny_bind (thn (ha pins s σ H _ I h) fun u s1 ⟨x, H1, I1, r1, q1⟩ => wpAny_bind (wpAny_standAt (wpAny_pure ?_))))
  exact thn (hr pos pins s1 σ H1 _ I1 q1) fun us s2 ⟨xs, H2, I2, r2, q2⟩ => ⟨x :: xs, H2, I2, .cons r1 r2, q2⟩
structure KBinds (K : PySem.W.Frag) (fd : FuncData) (ps ks : List Str) (g : List Value → List Value → List Value) (gV : List V → List V → List V) : Prop where
  to : ∀ (s : Shared) (us ws : List Value), K.In s.heap → (g us ws).length = ps.length → BindsTo s fd ⟨us, ks.zip ws⟩ (ps.zip (g us ws))
  rel : ∀ {vs : List V} {us : List Value} {zs : List V} {ws : List Value}, Vals vs us → Vals zs ws → Vals (gV vs zs) (g us ws)
def tCallK (sp : Sp) (gV : List V → List V → List V) (E : XK) (t tk : TA) : TE := fun σ H Q => t σ H fun vs H1 => tk σ H1 fun zs H2 => sp (gV vs zs) H2 Q E
variable {g : List Value → List Value → List Value} {gV : List V → List V → List V}
theorem run_fnk {pins : List (Addr × Obj)} {σ : St} {H : Hp} {s : Shared} {Q : VK} {us ws : List Value} {vs zs : List V} (F : FnOk X.prog X.w X.K X.mg X.base CX k f fd ps sp) (hr : Room k X.A) (hb : KBinds X.K fd ps ks g gV) (hx : Passes CX X E)
    (I : Inv X pins σ H s) (r : Vals vs us) (rz : Vals zs ws) (h : sp (gV vs zs) H Q E) : wpAny (model X.prog X.w) X.A (call (.ref f) us (ks.zip ws)) (EP X pins σ Q) X.xe s := by
  have r2 := hb.rel r rz
  have hl : (g us ws).length = ps.length := by rw [← r2.length]; exact F.len _ _ _ _ h
  refine wpAny_call (codeAny_mono (F.run X.A X.stack s H ⟨us, ks.zip ws⟩ (g us ws) (gV vs zs) Q E hr I.env0 (hb.to s us ws I.kIn hl) r2 h) fun r s' hq => ?_)
  cases r with
  | error e => exact hx pins σ H s e s' I hq
  | ok fl =>
    cases fl with
    | ret u => exact I.after hq
    | next => exact False.elim hq
    | brk => exact False.elim hq
    | cont => exact False.elim hq
theorem pe_callK (F : FnOk X.prog X.w X.K X.mg X.base CX k f fd ps sp) (hr : Room k X.A) (hg : Gl X x) (hm : X.mg x = some (.ref f)) (hk : PySem.W.keepIn X.K (.ref f) = true) (hb : KBinds X.K fd ps ks g gV) (hx : Passes CX X E)
    (ha : PA X (e :: es) t) (hkw : PK X kws tk) (hall : (backToKw pos (keywordEach kws X.env)).all (·.1.isSome) = true := by rfl) (hks : (backToKw pos (keywordEach kws X.env)).filterMap (·.1) = ks := by rfl)
    (hdb : (x == ("__debug__" : Str)) = false := by decide) (he : starEach (e :: es) X.env = (false, eval e X.env) :: starEach es X.env := by rfl)
    (hpl : ((backTo pos (starEach (e :: es) X.env)).any (·.1) || (backToKw pos (keywordEach kws X.env)).any (·.1.isNone)) = false := by rfl) :
    PE X (.Call (.Name x p) (e :: es) kws pos) (tCallK sp gV E t tk) := by
  intro pins s σ H Q I h
  refine wpAny_Call_Name_kw (ld_glob I hg hm ?_ hdb)
  refine PySem.W.callWith_KW (h₀ := X.base) I.ok.mod.kin hk hall (thn (ha pos pins s σ H _ I h) fun us s1 ⟨vs, H1, I1, r, q⟩ => ?_) hpl he
  refine thn (hkw pos pins s1 σ H1 _ I1 q) fun ws s2 ⟨zs, H2, I2, rz, q2⟩ => ⟨I2.kIn, ?_⟩
  rw [hks]
  exact run_fnk F hr hb hx I2 r rz q2
end
structure FnScope (N P : List Str) (sc : Scope) : Prop where
  kind : sc.kind = .function
  co : sc.isCoroutine = false
  gen : sc.isGenerator = false
  nd : N.Nodup
  pre : N.take P.length = P
  par : ∀ x ∈ P, sc.names.lookup x = some .local ∨ sc.names.lookup x = some .cell
  nofree : ∀ y ∈ sc.names, y.2 ≠ .free
theorem bindL_out {kindOf : Str → Option NameKind} {x : Str} : ∀ {binds : List (Str × Value)} {m : Str → Option Value}, (∀ v, (x, v) ∉ binds) → bindL kindOf binds m x = m x
  | [], _, _ => rfl
  | (n, v) :: r, m, h => by
    unfold bindL
    rw [bindL_out fun w hw => h w (List.mem_cons_of_mem _ hw)]
    split
    · have : x ≠ n := by rintro rfl; exact h v List.mem_cons_self
      simp [this]
    · rfl
theorem bindC_out {kindOf : Str → Option NameKind} {x : Str} : ∀ {binds : List (Str × Value)} {m : Str → Option Value}, (∀ v, (x, v) ∉ binds) → bindC kindOf binds m x = m x
  | [], _, _ => rfl
  | (n, v) :: r, m, h => by
    unfold bindC
    rw [bindC_out fun w hw => h w (List.mem_cons_of_mem _ hw)]
    split
    · rfl
    · have : x ≠ n := by rintro rfl; exact h v List.mem_cons_self
      simp [this]
theorem bindL_get {kindOf : Str → Option NameKind} {x : Str} {v : Value} : ∀ {P : List Str} {vs : List Value} {i : Nat} {m : Str → Option Value}, P.Nodup → P[i]? = some x → vs[i]? = some v → kindOf x = some .local →
    bindL kindOf (P.zip vs) m x = some v
  | [], _, _, _, _, h, _, _ => by simp at h
  | _ :: _, [], _, _, _, _, h, _ => by simp at h
  | p :: P, w :: vs, 0, m, nd, h1, h2, hk => by
    simp at h1 h2; subst h1; subst h2
    show bindL kindOf ((p, w) :: P.zip vs) m p = _
    unfold bindL
    rw [bindL_out fun v hv => (List.nodup_cons.mp nd).1 (List.of_mem_zip hv).1, if_pos hk]
    simp
  | p :: P, w :: vs, i + 1, m, nd, h1, h2, hk => by
    show bindL kindOf ((p, w) :: P.zip vs) m x = _
    unfold bindL
    exact bindL_get (i := i) (List.nodup_cons.mp nd).2 (by simpa using h1) (by simpa using h2) hk
theorem bindC_get {kindOf : Str → Option NameKind} {x : Str} {v : Value} : ∀ {P : List Str} {vs : List Value} {i : Nat} {m : Str → Option Value}, P.Nodup → P[i]? = some x → vs[i]? = some v → kindOf x ≠ some .local →
    bindC kindOf (P.zip vs) m x = some v
  | [], _, _, _, _, h, _, _ => by simp at h
  | _ :: _, [], _, _, _, _, h, _ => by simp at h
  | p :: P, w :: vs, 0, m, nd, h1, h2, hk => by
    simp at h1 h2; subst h1; subst h2
    show bindC kindOf ((p, w) :: P.zip vs) m p = _
    unfold bindC
    rw [bindC_out fun v hv => (List.nodup_cons.mp nd).1 (List.of_mem_zip hv).1, if_neg hk]
    simp
  | p :: P, w :: vs, i + 1, m, nd, h1, h2, hk => by
    show bindC kindOf ((p, w) :: P.zip vs) m x = _
    unfold bindC
    exact bindC_get (i := i) (List.nodup_cons.mp nd).2 (by simpa using h1) (by simpa using h2) hk
def start (N : List Str) (vs : List V) : St := vs.map some ++ List.replicate (N.length - vs.length) none
def cxOf (CX : CXT) (P : Program) (w : World) (K : PySem.W.Frag) (mg : Str → Option Value) (base : Heap) (N : List Str) (qual : Str) (scope : Scope) (f : Addr) (cd : Value) (A : Around) (outer : List Env) (s : Shared) (H : Hp) (E : XK) : Cx where
  prog := P
  w := w
  K := K
  mg := mg
  base := base
  A := A.deeper (envOfC qual scope s.heap.objs.size f cd)
  N := N
  s₀ := s
  H₀ := H
  env := envOfC qual scope s.heap.objs.size f cd
  outer := outer
  stack := envOfC qual scope s.heap.objs.size f cd :: outer
  ex := []
  calm := true
  fn := fun _ => true
  pn := []
  xe := fun e s' => wpAny (model P w) (A.deeper (envOfC qual scope s.heap.objs.size f cd)) (leaving (envOfC qual scope s.heap.objs.size f cd) e) (fun _ s'' => CX outer H s E e s'') (fun e' s'' => CX outer H s E e' s'') s'
theorem cell_has {sc : Scope} {n : Nat} {x : Str} (h : sc.names.lookup x = some .cell) : ∃ c, (cellsFrom n sc.names []).lookup x = some c := by
  have q := PySem.W.cellsFrom_some sc.names n [] (.inl h)
  exact Option.isSome_iff_exists.mp q
theorem inv_start {CX : CXT} {P : Program} {w : World} {K : PySem.W.Frag} {mg : Str → Option Value} {base : Heap} {N ps : List Str} {qual : Str} {scope : Scope} {f : Addr} {cd : Value} {A : Around} {outer : List Env} {s s1 : Shared} {H : Hp} {E : XK} {us : List Value} {vs : List V}
    (S : FnScope N ps scope) (hd : A.handled = none) (e0 : Env0 P w K mg base A outer s H) (hl : vs.length = ps.length) (r : Vals vs us)
    (x : InCallC s s.heap.objs.size (bindL (envOfC qual scope s.heap.objs.size f cd).kindOf (ps.zip us) fun _ => none) (cellsFrom (s.heap.objs.size + 1) scope.names []) (bindC (envOfC qual scope s.heap.objs.size f cd).kindOf (ps.zip us) fun _ => none) s1) :
    Inv (cxOf CX P w K mg base N qual scope f cd A outer s H E) [] (start N vs) H s1 := by
  have hpl : ps.length ≤ N.length := by have := congrArg List.length S.pre; rw [List.length_take] at this; omega
  obtain ⟨h1, tk, rfl, hk⟩ := x.done
  have noA : ∀ b : Addr, b ∉ (cxOf CX P w K mg base N qual scope f cd A outer s H E).ex := fun b z => absurd (show b ∈ ([] : List Addr) from z) (by simp)
  refine ⟨⟨e0.mod, S.kind, rfl, rfl, Nat.le_refl _, fun y z c h1 h2 => ?_, fun y hy => ?_, fun y c _ h => ?_, fun _ => hd, Around.frames_deeper e0.frames, .inr ⟨rfl, rfl⟩, fun b z => absurd z (noA b), e0.bs, e0.bsz, fun b _ _ => noA b, fun b z => absurd z (noA b), e0.funs, e0.frf⟩,
    rfl, e0.bare, Un.kept hk, ⟨_, x.toInCall.ns, fun i y v h1 h2 h3 => ?_⟩, fun y c h => ⟨_, x.cell y c h⟩, e0.hok.fresh (Nat.le_refl _), fun y c h => ?_, fun p hp => absurd (show p ∈ ([] : List (Addr × Obj)) from hp) (by simp), e0.hok.kept hk, ?_⟩
  · exact name_of_addr x.apart (PySem.mem_of_lookup h1) (PySem.mem_of_lookup h2)
  · have hy : scope.names.lookup y = some .cell ∨ scope.names.lookup y = some .free := hy
    rcases hy with hy | hy
    · exact cell_has hy
    · exact absurd rfl (S.nofree _ (PySem.mem_of_lookup hy))
  · exact Nat.le_of_lt (x.above y c (PySem.mem_of_lookup h))
  · have hi : i < vs.length := by
      unfold start at h2
      by_cases hi : i < vs.length
      · exact hi
      · rw [List.getElem?_append_right (by simpa using hi)] at h2
        rw [List.getElem?_replicate] at h2
        split at h2 <;> cases h2
    have ha : vs[i]? = some v := by
      unfold start at h2
      rw [List.getElem?_append_left (by simpa using hi), List.getElem?_map] at h2
      cases e : vs[i]? with
      | none => rw [e] at h2; cases h2
      | some a => rw [e] at h2; cases h2; rfl
    obtain ⟨u, hu, rv⟩ := r.get ha
    have hp : ps[i]? = some y := by
      rw [← S.pre, List.getElem?_take_of_lt (by omega)]; exact h1
    have ndP : ps.Nodup := by rw [← S.pre]; exact S.nd.sublist (List.take_sublist _ _)
    refine ⟨u, rv, ?_⟩
    rcases S.par y (List.mem_of_getElem? hp) with k | k
    · exact .inl ⟨k, bindL_get ndP hp hu k⟩
    · obtain ⟨c, e⟩ := cell_has (n := s.heap.objs.size + 1) k
      refine .inr ⟨.inl k, c, e, ?_⟩
      have q := x.cell y c e
      rw [bindC_get ndP hp hu (by show scope.names.lookup y ≠ _; rw [k]; decide)] at q
      exact q
  · exact e0.hok.fresh (Nat.le_of_lt (x.above y c (PySem.mem_of_lookup h)))
  · unfold start
    show _ = N.length
    rw [List.length_append, List.length_map, List.length_replicate]
    omega
theorem fn_of {CX : CXT} {P : Program} {w : World} {K : PySem.W.Frag} {mg : Str → Option Value} {base : Heap} {k : Nat} {f : Addr} {name qual : Str} {params : Arguments} {body : List Stmt} {scope : Scope} {dV kV doc pm cdv ct oc : Value} {an od : Option Addr}
    {osl : Array (Option Value)} {N ps : List Str} {sp : Sp} (lk : K.lookup f = some ⟨oc, od, .func (PySem.W.fnOf name qual params body scope dV kV doc pm an cdv ct), osl⟩) (hcd : PySem.W.codeIn K cdv qual = true) (S : FnScope N ps scope)
    (len : ∀ vs H Q E, sp vs H Q E → vs.length = ps.length)
    (hbody : ∀ (A : Around) (outer : List Env) (s : Shared) (H : Hp) (vs : List V) (Q : VK) (E : XK), Room k (A.deeper (envOfC qual scope s.heap.objs.size f cdv)) → sp vs H Q E →
      ∃ t, PSs (cxOf CX P w K mg base N qual scope f cdv A outer s H E) body t ∧ t { nx := fun _ H' => Q .non H', rt := Q } (start N vs) H) :
    FnOk P w K mg base CX (k + 1) f (PySem.W.fnOf name qual params body scope dV kV doc pm an cdv ct) ps sp := by
  refine ⟨len, fun A outer s H args us vs Q E hr e0 hb r hsp => ?_⟩
  have hl := len _ _ _ _ hsp
  have KX : K.In s.heap := e0.mod.kin.keeps fun b o e => (e0.bs b o e).1
  have lim : s.heap.NoLimit := e0.mod.nolimit.keeps fun b o e => (e0.bs b o e).1
  have hkind : ∀ y ∈ ps.zip us, scope.names.lookup y.1 = some .local ∨ (scope.names.lookup y.1 = some .cell ∧ ((cellsFrom (s.heap.objs.size + 1) scope.names []).lookup y.1).isSome = true) := fun ⟨n, v⟩ hy => by
    rcases S.par n (List.of_mem_zip hy).1 with q | q
    · exact .inl q
    · exact .inr ⟨q, PySem.W.cellsFrom_some _ _ _ (.inl q)⟩
  refine codeAny_call_function hr.depth (KX _ _ lk) rfl S.co S.gen rfl (PySem.W.codeRec_of KX hcd) (hb _ _ _ _ ?_)
  refine wpAny_newFunctionEnv_cells S.kind hkind fun env he s1 x => ?_
  subst he
  refine ⟨lim.keeps x.toInCall.keep, codeAny_func ?_⟩
  obtain ⟨t, ht, hq⟩ := hbody A outer s H vs Q E (hr.deeper _) hsp
  have I : Inv (cxOf CX P w K mg base N qual scope f cdv A outer s H E) [] (start N vs) H s1 := inv_start S hr.hd e0 hl r x
  refine wpAny_mono (ht [] s1 (start N vs) H _ I hq) (fun fl s' hs => ?_) fun e s' hs => hs
  have fin : ∀ {σ' : St} {H' : Hp} {v : V} {u : Value}, Inv (cxOf CX P w K mg base N qual scope f cdv A outer s H E) [] σ' H' s' → RelV v u → Q v H' → CE outer P w H s Q u s' :=
    fun {σ' H' v u} J rv q => ⟨v, H', J.os, J.bare, J.base, J.hok, rv, q⟩
  cases fl with
  | ret u =>
    obtain ⟨v, σ', H', J, rv, q⟩ := hs
    exact fin J rv q
  | next =>
    obtain ⟨σ', H', J, q⟩ := hs
    exact fin (v := V.non) (u := Value.none) J rfl q
  | brk =>
    obtain ⟨_, _, _, q⟩ := hs
    exact False.elim q
  | cont =>
    obtain ⟨_, _, _, q⟩ := hs
    exact False.elim q
end L2
namespace L2
open PySem PySem.Spec PyProof.Rows
section
variable {X : Cx} {x : Str} {p pos : Pos} {e : Expr} {es : List Expr} {t : TA} {id T : String} {r : List V → Hp → VK → Prop}
def tCB (r : List V → Hp → VK → Prop) (t : TA) : TE := fun σ H Q => t σ H fun vs H1 => r vs H1 Q
theorem pe_callB (hc : CallR X (.builtin id) r) (hg : Gl X x) (hm : X.mg x = none) (hv : bootBuiltins x = some (.builtin id)) (ha : PA X (e :: es) t) (hn : x ≠ "__name__" := by decide) (hdb : (x == ("__debug__" : Str)) = false := by decide)
    (he : starEach (e :: es) X.env = (false, eval e X.env) :: starEach es X.env := by rfl) (hpl : (backTo pos (starEach es X.env)).any (·.1) = false := by rfl) : PE X (.Call (.Name x p) (e :: es) [] pos) (tCB r t) := by
  intro pins s σ H Q I h
  refine wpAny_Call_Name_kw (ld_blt I hg hm hv ?_ hn hdb)
  exact PyProof.Rows.callWith_builtin1 (thn (ha pos pins s σ H _ I h) fun us s1 ⟨vs, H1, I1, r1, q1⟩ => hc pins s1 σ H1 vs us Q I1 r1 q1) he hpl
theorem pe_callTy (hc : CallR X (.type T) r) (hg : Gl X x) (hm : X.mg x = none) (hv : bootBuiltins x = some (.type T)) (ha : PA X (e :: es) t) (hn : x ≠ "__name__" := by decide) (hdb : (x == ("__debug__" : Str)) = false := by decide)
    (he : starEach (e :: es) X.env = (false, eval e X.env) :: starEach es X.env := by rfl) (hpl : (backTo pos (starEach es X.env)).any (·.1) = false := by rfl) : PE X (.Call (.Name x p) (e :: es) [] pos) (tCB r t) := by
  intro pins s σ H Q I h
  refine wpAny_Call_Name_kw (ld_blt I hg hm hv ?_ hn hdb)
  exact PyProof.Rows.callWith_type1 (thn (ha pos pins s σ H _ I h) fun us s1 ⟨vs, H1, I1, r1, q1⟩ => hc pins s1 σ H1 vs us Q I1 r1 q1) he hpl
end
end L2
namespace HT
open PySem PyProof.Rows
section
open PySem.SeqAt
open PySem.AutoSeq1 (wpAny_loadPart')
open PySem.MeetsSeq PySem.MeetsSeq2 PySem.MeetsSeq3
end
section
variable {prog : Program} {w : World} {A : Around} {E : Value → Shared → Prop} {s : Shared}
theorem cat_tup {t b : Addr} {vs ws : List Value} {Q : Value → Shared → Prop} (ht : IsTup s.heap t vs.toArray) (hb : IsTup s.heap b ws.toArray) (hv : vs ≠ [])
    (h1 : ws = [] → Q (.ref t) s) (h2 : ws ≠ [] → Q (.ref s.heap.objs.size) { s with heap := s.heap.push { cls := .type "tuple", data := .seq (vs ++ ws).toArray } })
    (hsz : vs.length + ws.length ≤ sizeLine) : wpAny (model prog w) A (binaryOp .Add (.ref t) (.ref b)) Q E s := by
  obtain ⟨⟨cls, dd, data, sl⟩, ho, hc, n, hd⟩ := id ht
  obtain ⟨⟨cls2, dd2, data2, sl2⟩, ho2, hc2, n2, hd2⟩ := id hb
  simp only at hc hd hc2 hd2
  subst hc hd hc2 hd2
  have e : vs.toArray ++ ws.toArray = (vs ++ ws).toArray := by simp
  by_cases hw : ws = []
  · exact concat_meets ⟨_, ho, rfl⟩ ⟨_, ho2, rfl⟩ noFill_tuple_add seq_tuple_add PySem.F.slot_tuple_add PySem.F.entry_tuple_add (PySem.F.args_tuple_add_2 _ _)
      (tuple_addW1 t b vs.toArray ws.toArray n n2 dd dd2 sl sl2 (by simpa using hv) (by simp [hw])) ⟨ho, ho2, h1 hw⟩
  · refine concat_meets ⟨_, ho, rfl⟩ ⟨_, ho2, rfl⟩ noFill_tuple_add seq_tuple_add PySem.F.slot_tuple_add PySem.F.entry_tuple_add (PySem.F.args_tuple_add_2 _ _)
      (tuple_addW2 t b vs.toArray ws.toArray n n2 dd dd2 sl sl2 (by simpa using hv) (by simpa using hw) (by rw [List.size_toArray, List.size_toArray]; exact hsz)) ⟨ho, ho2, ?_⟩
    rw [e]
    exact h2 hw
def sIx (n d : Nat) : Option Int → Nat
  | none => d
  | some v => if v < 0 then (v + (n : Int)).toNat else min v.toNat n
theorem sIx_le (n d : Nat) (hd : d ≤ n) (o : Option Int) : sIx n d o ≤ n := by
  cases o with
  | none => exact hd
  | some v =>
    show (if v < 0 then (v + (n : Int)).toNat else min v.toNat n) ≤ n
    by_cases hv : v < 0
    · rw [if_pos hv]; omega
    · rw [if_neg hv]; exact Nat.min_le_right _ _
theorem clip_eq (v : Int) (n d : Nat) : (if v < 0 then max (v + (n : Int)) 0 else min v (n : Int)) = ((sIx n d (some v) : Nat) : Int) := by
  show (if v < 0 then max (v + (n : Int)) 0 else min v (n : Int)) = (((if v < 0 then (v + (n : Int)).toNat else min v.toNat n) : Nat) : Int)
  by_cases hv : v < 0
  · simp only [if_pos hv]; omega
  · simp only [if_neg hv]; omega
theorem adjust_gen (lo hi : Option Int) (n : Nat) : Builtin.Slice.sliceAdjust lo hi 1 (n : Int) = (((sIx n 0 lo : Nat) : Int), ((sIx n n hi : Nat) : Int)) := by
  have h1 : ¬ ((1 : Int) < 0) := by omega
  unfold Builtin.Slice.sliceAdjust
  simp only [h1, if_false]
  refine Prod.ext ?_ ?_
  · cases lo with
    | none => rfl
    | some v => exact clip_eq v n 0
  · cases hi with
    | none => rfl
    | some v => exact clip_eq v n n
theorem places_gen (i j : Nat) : Builtin.Slice.slicePlaces (i : Int) (j : Int) 1 = j - i := by
  unfold Builtin.Slice.slicePlaces
  have h1 : (1 : Int) > 0 := by omega
  simp only [h1, if_true, Int.ediv_one]
  split <;> omega
theorem slicePart_ {v : Value} {o : Option Int} {Q : Option Int → Shared → Prop} (p : IsPart v o) (h : Q o s) : wpAny (model prog w) A (Builtin.Slice.slicePartIndex v) Q E s := by
  cases p with
  | none => exact slicePart_none h
  | int i t => exact slicePart_int h
theorem sliceApplied_gen {sl : Addr} {vl vu : Value} {lo hi : Option Int} {n : Nat} {Q : Int × Int × Nat → Shared → Prop} (hs : s.heap.IsSliceOf sl vl vu .none) (pl : IsPart vl lo) (pu : IsPart vu hi)
    (h : Q (((sIx n 0 lo : Nat) : Int), 1, sIx n n hi - sIx n 0 lo) s) : wpAny (model prog w) A (Builtin.Slice.sliceApplied (.ref sl) (pure (n : Int))) Q E s := by
  obtain ⟨os, hos, hcs, hds⟩ := id hs
  unfold Builtin.Slice.sliceApplied Builtin.Slice.sliceFields
  refine wpAny_bind (wpAny_bind (wpAny_field hos hds (x := vl) rfl (wpAny_bind (wpAny_field hos hds (x := vu) rfl (wpAny_bind (wpAny_field hos hds (x := .none) rfl (wpAny_pure ?_)))))))
  refine wpAny_bind (slicePart_none ?_)
  show wpAny _ _ (if ((1 : Int) == 0) = true then _ else _) _ _ s
  rw [if_neg (by decide)]
  refine wpAny_bind (slicePart_ pl (wpAny_bind (slicePart_ pu (wpAny_bind (wpAny_pure ?_)))))
  show wpAny _ _ (match Builtin.Slice.sliceAdjust lo hi 1 (n : Int) with | (lo, hi) => pure (lo, (1 : Int), Builtin.Slice.slicePlaces lo hi 1)) _ _ s
  rw [adjust_gen lo hi n]
  show wpAny _ _ (pure (((sIx n 0 lo : Nat) : Int), (1 : Int), Builtin.Slice.slicePlaces ((sIx n 0 lo : Nat) : Int) ((sIx n n hi : Nat) : Int) 1)) _ _ s
  rw [places_gen]
  exact wpAny_pure h
theorem pick_gen (xs : Array Value) (i k : Nat) : ((List.range k).filterMap fun (m : Nat) => xs[((i : Int) + (m : Int) * 1).toNat]?).toArray = ((xs.toList.drop i).take k).toArray := by
  have e : (fun (m : Nat) => xs[((i : Int) + (m : Int) * 1).toNat]?) = fun m => xs[i + m]? := by
    funext m
    have : ((i : Int) + (m : Int) * 1).toNat = i + m := by omega
    rw [this]
  rw [e]
  have := pick_run xs i k
  rw [List.filterMap_map] at this
  have e2 : ((fun x => xs[x]?) ∘ fun x => i + x) = fun m => xs[i + m]? := rfl
  rw [e2] at this
  rw [this]
theorem getItem_tuple_cut {t sl : Addr} {items : Array Value} {vl vu : Value} {lo hi : Option Int} {Q : Value → Shared → Prop} (ht : IsTup s.heap t items) (hs : s.heap.IsSliceOf sl vl vu .none) (pl : IsPart vl lo) (pu : IsPart vu hi)
    (hw : ¬ (sIx items.size 0 lo = 0 ∧ sIx items.size items.size hi = items.size))
    (h : Q (.ref s.heap.objs.size) { s with heap := s.heap.push { cls := .type "tuple", data := .seq ((items.toList.drop (sIx items.size 0 lo)).take (sIx items.size items.size hi - sIx items.size 0 lo)).toArray } })
    (hsz : items.size ≤ sizeLine) : wpAny (model prog w) A (getItem (.ref t) (.ref sl)) Q E s := by
  have htake : sizeOk (.seq ((items.toList.drop (sIx items.size 0 lo)).take (sIx items.size items.size hi - sIx items.size 0 lo)).toArray) := by
    show ((items.toList.drop (sIx items.size 0 lo)).take (sIx items.size items.size hi - sIx items.size 0 lo)).toArray.size ≤ sizeLine
    rw [List.size_toArray, List.length_take, List.length_drop, Array.length_toList]
    omega
  have hj : sIx items.size items.size hi ≤ items.size := sIx_le _ _ (Nat.le_refl _) hi
  obtain ⟨os, hos, hcs, hds⟩ := id hs
  have hTs : s.TypeIs (.ref sl) "slice" := ⟨os, hos, hcs⟩
  unfold getItem
  try with_reducible refine wpAny_holding ?_
  first | refine wpAny_bind (wpAny_pure ?_) | skip
  refine wpAny_bind (wpAny_sequenceKey ht.typeIs (by decide) ?_)
  refine wpAny_bind (wpAny_callSpecial?_slot (name := Str.ofString "__getitem__") ht.typeIs PyProof.Rows.slot_tuple_getitem
    (wpAny_call_entry PyProof.Rows.slot_tuple_getitem ht.typeIs entry_tuple_getitem ?_ (args_tuple_getitem _ _)))
  show wpAny _ _ (Builtin.Tuple.tupleItemsOf (.ref t) >>= _) _ _ s
  refine wpAny_bind (tupleItemsOf_ ht ?_)
  refine wpAny_bind (wpAny_typeOf hTs ?_)
  rw [if_pos (by decide)]
  refine wpAny_bind (sliceApplied_gen hs pl pu ?_)
  have hno : ¬ ((((sIx items.size 0 lo : Nat) : Int) == 0 && (1 : Int) == 1 && (sIx items.size items.size hi - sIx items.size 0 lo) == items.size) = true) := by
    intro q
    rw [Bool.and_eq_true, Bool.and_eq_true] at q
    have q1 : ((sIx items.size 0 lo : Nat) : Int) = 0 := eq_of_beq q.1.1
    have q2 : sIx items.size items.size hi - sIx items.size 0 lo = items.size := eq_of_beq q.2
    exact hw ⟨by omega, by omega⟩
  show wpAny _ _ (if (((sIx items.size 0 lo : Nat) : Int) == 0 && (1 : Int) == 1 && (sIx items.size items.size hi - sIx items.size 0 lo) == items.size) = true then _ else _) _ _ s
  rw [if_neg hno, pick_gen]
  first
    | exact wpAny_bind (m := Builtin.Tuple.tupleExact _) (wpAny_newObj_type (wpAny_pure ⟨_, rfl, wpAny_pure h⟩) htake)
    | exact wpAny_bind (m := Builtin.Tuple.tupleExact _) (wpAny_newObj_type (wpAny_bind (wpAny_pure (wpAny_pure ⟨_, rfl, wpAny_pure h⟩))) htake)
    | exact wpAny_bind (wpAny_bind (m := Builtin.Tuple.tupleExact _) (wpAny_newObj_type (wpAny_pure (wpAny_pure ⟨_, rfl, wpAny_pure h⟩)) htake))
    | exact wpAny_bind (wpAny_bind (m := Builtin.Tuple.tupleExact _) (wpAny_newObj_type (wpAny_pure ⟨_, rfl, wpAny_pure h⟩) htake))
end
end HT
namespace L2
open PySem PySem.Spec PyProof.Rows
abbrev TO := St → Hp → (Option Int → Hp → Prop) → Prop
def PO (X : Cx) (e : Option Expr) (t : TO) : Prop :=
  ∀ (pins : List (Addr × Obj)) (s : Shared) (σ : St) (H : Hp) (Q : Option Int → Hp → Prop), Inv X pins σ H s → t σ H Q →
    wpAny (model X.prog X.w) X.A (evalPart e X.env) (fun u s' => ∃ o H', Inv X pins σ H' s' ∧ IsPart u o ∧ Q o H') X.xe s
def tNoPart : TO := fun _ H Q => Q none H
def tPart (t : TE) : TO := fun σ H Q => t σ H fun x H1 => ∃ i, x = .int i ∧ Q (some i) H1
theorem intsAre_of {ns : List Int} : ∀ {us : List Value}, Vals (ns.map V.int) us → IntsAre us ns := by
  induction ns with
  | nil => intro us r; rw [List.map_nil] at r; cases r; exact .nil
  | cons n ns ih =>
    intro us r
    rw [List.map_cons] at r
    cases r with
    | cons r1 r2 =>
      obtain ⟨t, e⟩ := r1
      subst e
      exact .cons n t (ih r2)
section
variable {X : Cx} {e : Expr} {te : TE} {lo hi : Option Expr} {tl th : TO} {pos p2 : Pos}
theorem po_none : PO X none tNoPart := by
  intro pins s σ H Q I h
  rw [evalPart_none]
  exact wpAny_pure ⟨none, H, I, .none, h⟩
theorem po_some (h : PE X e te) : PO X (some e) (tPart te) := by
  intro pins s σ H Q I hw
  rw [evalPart_some]
  refine thn (h pins s σ H _ I hw) fun u s1 ⟨x, H1, I1, r1, q1⟩ => ?_
  obtain ⟨i, rfl, q⟩ := q1
  obtain ⟨t, rfl⟩ := r1
  exact ⟨some i, H1, I1, .int i t, q⟩
def SlR (X : Cx) (r : V → Option Int → Option Int → Hp → VK → Prop) : Prop :=
  ∀ (pins : List (Addr × Obj)) (s : Shared) (σ : St) (H : Hp) (x : V) (v vl vu : Value) (lo hi : Option Int) (sl : Addr) (Q : VK), Inv X pins σ H s → RelV x v → s.heap.IsSliceOf sl vl vu .none → IsPart vl lo → IsPart vu hi → r x lo hi H Q →
    ∃ T id, typeLookup (.type T) "__getitem__" = pure (some (.builtin id)) ∧ s.TypeIs v T ∧ wpAny (model X.prog X.w) X.A (getItem v (.ref sl)) (EP X pins σ Q) X.xe s
theorem SlR.or {r r' : V → Option Int → Option Int → Hp → VK → Prop} (h : SlR X r) (h' : SlR X r') : SlR X (fun x lo hi H Q => r x lo hi H Q ∨ r' x lo hi H Q) := by
  intro pins s σ H x v vl vu lo hi sl Q I rx hs pl pu q
  rcases q with q | q
  · exact h pins s σ H x v vl vu lo hi sl Q I rx hs pl pu q
  · exact h' pins s σ H x v vl vu lo hi sl Q I rx hs pl pu q
def tSl (r : V → Option Int → Option Int → Hp → VK → Prop) (te : TE) (tl th : TO) : TE := fun σ H Q => te σ H fun x H1 => tl σ H1 fun l H2 => th σ H2 fun u H3 => r x l u H3 Q
theorem pe_slice {r : V → Option Int → Option Int → Hp → VK → Prop} (hr : SlR X r) (he : PE X e te) (hl : PO X lo tl) (hu : PO X hi th) : PE X (.Subscript e (.Slice lo hi none p2) pos) (tSl r te tl th) := by
  intro pins s σ H Q I h
  refine Subscript_ (thn (he pins s σ H _ I h) fun v s1 ⟨x, H1, I1, r1, q1⟩ => ?_)
  refine wpAny_Slice (thn (hl pins s1 σ H1 _ I1 q1) fun vl s2 ⟨l, H2, I2, pl, q2⟩ => thn (hu pins s2 σ H2 _ I2 q2) fun vu s3 ⟨u, H3, I3, pu, q3⟩ => ?_)
  rw [evalPart_none]
  refine wpAny_pure ?_
  have I4 : Inv X pins σ H3 { s3 with heap := s3.heap.push { cls := .type "slice", data := .fields #[vl, vu, .none] } } := I3.kept (t' := s3.toks) fun b ob q => Heap.get?_push_of_some _ q
  obtain ⟨T, id, hT, ht, hg⟩ := hr pins { s3 with heap := s3.heap.push { cls := .type "slice", data := .fields #[vl, vu, .none] } } σ H3 x v vl vu l u s3.heap.objs.size Q I4 r1 (Heap.IsSliceOf.new ..) pl pu q3
  show wpAny (model X.prog X.w) X.A (subscriptTail e (.Slice lo hi none p2) v (.ref s3.heap.objs.size)) (EP X pins σ Q) X.xe { s3 with heap := s3.heap.push { cls := .type "slice", data := .fields #[vl, vu, .none] } }
  exact tail_any (ops := [.ref s3.heap.objs.size, v]) ht hT hg (by with_unfolding_all rfl)
def cutV (xs : List V) (lo hi : Option Int) : List V := (xs.drop (HT.sIx xs.length 0 lo)).take (HT.sIx xs.length xs.length hi - HT.sIx xs.length 0 lo)
theorem cutV_length (xs : List V) (lo hi : Option Int) : (cutV xs lo hi).length ≤ xs.length := by
  unfold cutV
  rw [List.length_take, List.length_drop]
  omega
def rSlT (K : PySem.W.Frag) : V → Option Int → Option Int → Hp → VK → Prop := fun x lo hi H Q => ∃ a xs, x = .ref a ∧ SqT K H a xs ∧
  ¬ (HT.sIx xs.length 0 lo = 0 ∧ HT.sIx xs.length xs.length hi = xs.length) ∧ ∀ p, H p = none → Q (.ref p) (upd H p (.tup (cutV xs lo hi)))
theorem sl_tup : SlR X (rSlT X.K) := by
  intro pins s σ H x v vl vu lo hi sl Q I rx hs pl pu h
  obtain ⟨a, xs, rfl, hx, hw, q⟩ := h
  cases rx
  obtain ⟨its, r, ht, hz⟩ := I.tuple hx
  have hlen : its.toArray.size = xs.length := by rw [List.size_toArray]; exact r.length.symm
  refine ⟨"tuple", _, PyProof.Rows.slot_tuple_getitem.lookup, ht.typeIs, ?_⟩
  refine HT.getItem_tuple_cut ht hs pl pu (by rw [hlen]; exact hw) ?_ (by rw [hlen]; exact hz)
  rw [hlen]
  refine ⟨.ref s.heap.objs.size, _, I.laid (t' := s.toks) (o := .tup (cutV xs lo hi)) (fun b ob q => Heap.get?_push_of_some _ q) (Nat.le_refl _) ?_, rfl, q _ (I.hok.fresh (Nat.le_refl _))⟩
  exact ⟨Nat.le_trans (cutV_length xs lo hi) hz, _, (r.drop (HT.sIx xs.length 0 lo)).take (HT.sIx xs.length xs.length hi - HT.sIx xs.length 0 lo), IsTup.new _ _⟩
def rCatT (K : PySem.W.Frag) : R2 := fun x y H Q => ∃ a b xs ys, x = .ref a ∧ y = .ref b ∧ SqT K H a xs ∧ SqT K H b ys ∧ xs ≠ [] ∧ xs.length + ys.length ≤ sizeLine ∧
  (ys = [] → Q (.ref a) H) ∧ (ys ≠ [] → ∀ p, H p = none → Q (.ref p) (upd H p (.tup (xs ++ ys))))
theorem Vals.nil_iff {xs : List V} {us : List Value} (r : Vals xs us) : us = [] ↔ xs = [] := by
  cases r with
  | nil => simp
  | cons _ _ => simp
theorem op_catT : OpR X (binaryOp .Add) (rCatT X.K) := by
  intro pins s σ H x y v u Q I rx ry h
  obtain ⟨a, b, xs, ys, rfl, rfl, ha, hb, hx, hz, q1, q2⟩ := h
  cases rx
  cases ry
  obtain ⟨its, r1, p1, _⟩ := I.tuple ha
  obtain ⟨its2, r2, p2, _⟩ := I.tuple hb
  refine HT.cat_tup p1 p2 (fun z => hx (r1.nil_iff.mp z)) (fun z => ⟨.ref a, H, I, rfl, q1 (r2.nil_iff.mp z)⟩) (fun z => ?_) (by rw [← r1.length, ← r2.length]; exact hz)
  refine ⟨.ref s.heap.objs.size, _, I.laid (t' := s.toks) (o := .tup (xs ++ ys)) (fun b ob q => Heap.get?_push_of_some _ q) (Nat.le_refl _) ?_, rfl, q2 (fun w => z (r2.nil_iff.mpr w)) _ (I.hok.fresh (Nat.le_refl _))⟩
  exact ⟨by rw [List.length_append]; exact hz, _, r1.append r2, IsTup.new _ _⟩
end
end L2
namespace L2
open PySem PySem.Spec PyProof.Rows
def ixN (n : Nat) (i : Int) : Option Nat := if 0 ≤ i then (if i < n then some i.toNat else none) else if -(n : Int) ≤ i then some (i + n).toNat else none
def atI {α : Type} (xs : List α) (i : Int) : Option α := (ixN xs.length i).bind fun j => xs[j]?
theorem ixN_seq {n : Nat} {i : Int} {j : Nat} (h : ixN n i = some j) : seqIndex? i n = some j ∧ j < n ∧ -(n : Int) ≤ i ∧ i < n := by
  unfold ixN at h
  by_cases h0 : 0 ≤ i
  · rw [if_pos h0] at h
    by_cases h1 : i < n
    · rw [if_pos h1] at h
      have e : i.toNat = j := Option.some.inj h
      exact ⟨by rw [seqIndex_of h0 h1, e], by omega, by omega, h1⟩
    · rw [if_neg h1] at h; cases h
  · rw [if_neg h0] at h
    by_cases h1 : -(n : Int) ≤ i
    · rw [if_pos h1] at h
      have e : (i + n).toNat = j := Option.some.inj h
      exact ⟨by rw [seqIndex_neg (by omega) h1, e], by omega, h1, by omega⟩
    · rw [if_neg h1] at h; cases h
theorem atI_get {α : Type} {xs : List α} {i : Int} {v : α} (h : atI xs i = some v) : ∃ j, seqIndex? i xs.length = some j ∧ xs[j]? = some v ∧ j < xs.length ∧ -(xs.length : Int) ≤ i ∧ i < xs.length := by
  unfold atI at h
  cases e : ixN xs.length i with
  | none => rw [e] at h; cases h
  | some j =>
    rw [e] at h
    obtain ⟨h1, h2, h3, h4⟩ := ixN_seq e
    exact ⟨j, h1, h, h2, h3, h4⟩
def PlainIx (b : Expr) : Prop := ∀ o i, subscripted b false o i = operate [o, i] (getItem o i)
def IxR (X : Cx) (r : R2) : Prop :=
  ∀ (value slice : Expr) (pins : List (Addr × Obj)) (s : Shared) (σ : St) (H : Hp) (x y : V) (v u : Value) (Q : VK), Inv X pins σ H s → RelV x v → RelV y u → r x y H Q →
    subscripted slice false v u = operate [v, u] (getItem v u) → wpAny (model X.prog X.w) X.A (subscriptTail value slice v u) (EP X pins σ Q) X.xe s
def MtR (X : Cx) (id : String) (r : V → List V → Hp → VK → Prop) : Prop :=
  ∀ (pins : List (Addr × Obj)) (s : Shared) (σ : St) (H : Hp) (x : V) (xs : List V) (v : Value) (us : List Value) (Q : VK), Inv X pins σ H s → RelV x v → Vals xs us → r x xs H Q →
    wpAny (model X.prog X.w) X.A (call (.builtin id) (v :: us)) (EP X pins σ Q) X.xe s
section
variable {X : Cx} {a b : Expr} {ta tb : TE} {pos : Pos}
theorem IxR.or {r r' : R2} (h : IxR X r) (h' : IxR X r') : IxR X (fun x y H Q => r x y H Q ∨ r' x y H Q) := by
  intro value slice pins s σ H x y v u Q I rx ry q hs
  rcases q with q | q
  · exact h value slice pins s σ H x y v u Q I rx ry q hs
  · exact h' value slice pins s σ H x y v u Q I rx ry q hs
theorem pe_ix {r : R2} (hr : IxR X r) (ha : PE X a ta) (hb : PE X b tb) (hs : PlainIx b) : PE X (.Subscript a b pos) (tOp r ta tb) := by
  intro pins s σ H Q I h
  exact Subscript_ (binT ha hb I h fun v u s2 x y H2 I2 rx ry q => hr a b pins s2 σ H2 x y v u Q I2 rx ry q (hs _ _))
def rIxL (K : PySem.W.Frag) : R2 := fun x y H Q => ∃ p xs i v, x = .ref p ∧ y = .int i ∧ SqL K H p xs ∧ atI xs i = some v ∧ Q v H
def rIxT (K : PySem.W.Frag) : R2 := fun x y H Q => ∃ p xs i v, x = .ref p ∧ y = .int i ∧ SqT K H p xs ∧ atI xs i = some v ∧ Q v H
def rIxS : R2 := fun x y H Q => ∃ z i c, x = .str z ∧ y = .int i ∧ z.length ≤ sizeLine ∧ atI z.cps.toList i = some c ∧ Q (.str ⟨#[c]⟩) H
theorem ix_list : IxR X (rIxL X.K) := by
  intro value slice pins s σ H x y v u Q I rx ry h hs
  obtain ⟨p, xs, i, z, rfl, rfl, hq, he, q⟩ := h
  cases rx
  obtain ⟨t, rfl⟩ := ry
  obtain ⟨its, r, pl, hz⟩ := I.list hq
  obtain ⟨j, h1, h2, h3, h4, h5⟩ := atI_get he
  obtain ⟨w, ew, rw'⟩ := r.get h2
  have hl := r.length
  have hn := line63
  have fin : EP X pins σ Q w s := ⟨z, H, I, rw', q⟩
  by_cases h0 : 0 ≤ i
  · have hj : i.toNat = j := by
      rw [seqIndex_of h0 h5] at h1
      exact Option.some.inj h1
    exact item_listR pl.isList h0 (by omega) (by rw [hj]; simpa using ew) fin hs
  · have hj : (i + (its.toArray.size : Int)).toNat = j := by
      rw [seqIndex_neg (by omega) h4] at h1
      rw [List.size_toArray, ← hl]
      exact Option.some.inj h1
    exact subscriptTail_builtinR (x := w) pl.isList.typeIs slot_list_getitem.lookup
      (wpAny_getItem_list_neg (Q := fun r s' => r = w ∧ EP X pins σ Q r s') pl.isList (by omega) (by rw [List.size_toArray] <;> omega) (by omega) (by rw [hj]; simpa using ew) ⟨rfl, fin⟩) hs
theorem ix_tup : IxR X (rIxT X.K) := by
  intro value slice pins s σ H x y v u Q I rx ry h hs
  obtain ⟨p, xs, i, z, rfl, rfl, hq, he, q⟩ := h
  cases rx
  obtain ⟨t, rfl⟩ := ry
  obtain ⟨its, r, pl, hz⟩ := I.tuple hq
  obtain ⟨j, h1, h2, h3, h4, h5⟩ := atI_get he
  obtain ⟨w, ew, rw'⟩ := r.get h2
  have hl := r.length
  have hn := line63
  have fin : EP X pins σ Q w s := ⟨z, H, I, rw', q⟩
  exact subscriptTail_builtinR (x := w) pl.typeIs slot_tuple_getitem.lookup
    (getItem_tuple (j := j) (Q := fun r s' => r = w ∧ EP X pins σ Q r s') pl (by omega) (by omega) (by rw [List.size_toArray, ← hl]; exact h1) (by simpa using ew) ⟨rfl, fin⟩) hs
theorem ix_str : IxR X rIxS := by
  intro value slice pins s σ H x y v u Q I rx ry h hs
  obtain ⟨z, i, c, rfl, rfl, hz, he, q⟩ := h
  obtain ⟨t, rfl⟩ := rx
  obtain ⟨t', rfl⟩ := ry
  obtain ⟨j, h1, h2, h3, h4, h5⟩ := atI_get he
  have hl : z.cps.toList.length = z.length := by simp [Str.length]
  rw [hl] at h1 h4 h5
  have hn := line63
  exact tail_any (typeIs_str s z t) slot_str_getitem.lookup (getItem_str (c := c) (by
    have e1 : decide (i < -(2 ^ 63 : Int)) = false := decide_eq_false (by omega)
    have e2 : decide (i ≥ 2 ^ 63) = false := decide_eq_false (by omega)
    rw [e1, e2, Bool.or_false]) (by rw [h1]; simpa using h2) ⟨.str ⟨#[c]⟩, H, I.tok _, ⟨_, rfl⟩, q⟩) hs
def rIx (K : PySem.W.Frag) : R2 := fun x y H Q => rIxL K x y H Q ∨ rIxT K x y H Q ∨ rIxS x y H Q
theorem ix_seq : IxR X (rIx X.K) := ix_list.or (ix_tup.or ix_str)
theorem slice_bounds (lo hi : Option Int) (n : Nat) : (sliceBounds lo hi none n).1 = ((HT.sIx n 0 lo : Nat) : Int) ∧ (sliceBounds lo hi none n).2.1 = ((HT.sIx n n hi : Nat) : Int) ∧ (sliceBounds lo hi none n).2.2 = 1 := by
  refine ⟨?_, ?_, rfl⟩
  · cases lo with
    | none => simp [sliceBounds, HT.sIx]
    | some i =>
      simp only [sliceBounds, HT.sIx, Option.getD_none, show (1 : Int) > 0 by decide, if_true]
      by_cases h : i < 0
      · simp only [h, if_true] <;> omega
      · simp only [h, if_false] <;> omega
  · cases hi with
    | none => simp [sliceBounds, HT.sIx]
    | some i =>
      simp only [sliceBounds, HT.sIx, Option.getD_none, show (1 : Int) > 0 by decide, if_true]
      by_cases h : i < 0
      · simp only [h, if_true] <;> omega
      · simp only [h, if_false] <;> omega
theorem slicePick_cut (its : List Value) (lo hi : Option Int) : slicePick its.toArray lo hi none = ((its.drop (HT.sIx its.length 0 lo)).take (HT.sIx its.length its.length hi - HT.sIx its.length 0 lo)).toArray := by
  obtain ⟨h1, h2, h3⟩ := slice_bounds lo hi its.toArray.size
  unfold slicePick
  rw [h1, h2, h3]
  simp only [sliceRange_one, pick_run, List.size_toArray] <;> rfl
def rSlL (K : PySem.W.Frag) : V → Option Int → Option Int → Hp → VK → Prop := fun x lo hi H Q => ∃ a xs, x = .ref a ∧ SqL K H a xs ∧ ∀ p, H p = none → Q (.ref p) (upd H p (.lst (cutV xs lo hi)))
theorem sl_list : SlR X (rSlL X.K) := by
  intro pins s σ H x v vl vu lo hi sl Q I rx hs pl pu h
  obtain ⟨a, xs, rfl, hx, q⟩ := h
  cases rx
  obtain ⟨its, r, ht, hz⟩ := I.list hx
  have hlen := r.length
  refine ⟨"list", _, slot_list_getitem.lookup, ht.isList.typeIs, ?_⟩
  refine wpAny_getItem_list_slice ht.isList hs pl pu .none (by simp) ?_ (by rw [List.size_toArray] <;> omega)
  rw [slicePick_cut, ← hlen]
  refine ⟨.ref s.heap.objs.size, _, I.laid (t' := s.toks) (o := .lst (cutV xs lo hi)) (fun b ob q => Heap.get?_push_of_some _ q) (Nat.le_refl _) ?_, rfl, q _ (I.hok.fresh (Nat.le_refl _))⟩
  exact ⟨Nat.le_trans (cutV_length xs lo hi) hz, _, 0, (r.drop (HT.sIx xs.length 0 lo)).take (HT.sIx xs.length xs.length hi - HT.sIx xs.length 0 lo), Heap.get?_push_size _ rfl⟩
def flatV : V → Bool
  | .non => true
  | .bl _ => true
  | .int _ => true
  | .str _ => true
  | _ => false
def eqV : V → V → Bool
  | .non, .non => true
  | .bl a, .bl b => a == b
  | .bl a, .int b => (if a then 1 else 0) == b
  | .int a, .bl b => a == (if b then 1 else 0)
  | .int a, .int b => a == b
  | .str a, .str b => a == b
  | _, _ => false
theorem eqAt_V {A : Around} {s : Shared} {y x : V} {u v : Value} (ry : RelV y u) (rx : RelV x v) (fy : flatV y = true) (fx : flatV x = true) : SeqAt.EqAt A s u v (eqV y x) := by
  cases y with
  | non =>
    cases ry
    cases x with
    | non => cases rx; exact SeqAt.EqAt.same _
    | bl b => cases rx; exact SeqAt.EqAt.none_bool b
    | int b => obtain ⟨t, rfl⟩ := rx; exact SeqAt.EqAt.none_int b t
    | str b => obtain ⟨t, rfl⟩ := rx; exact SeqAt.EqAt.none_str b t
    | _ => exact absurd (show false = true from fx) Bool.false_ne_true
  | bl a =>
    cases ry
    cases x with
    | non => cases rx; exact SeqAt.EqAt.bool_none a
    | bl b => cases rx; exact SeqAt.EqAt.bool_bool a b
    | int b => obtain ⟨t, rfl⟩ := rx; exact SeqAt.EqAt.bool_int a b t
    | str b => obtain ⟨t, rfl⟩ := rx; exact SeqAt.EqAt.bool_str a b t
    | _ => exact absurd (show false = true from fx) Bool.false_ne_true
  | int a =>
    obtain ⟨t', rfl⟩ := ry
    cases x with
    | non => cases rx; exact SeqAt.EqAt.int_none a t'
    | bl b => cases rx; exact SeqAt.EqAt.int_bool a t' b
    | int b => obtain ⟨t, rfl⟩ := rx; exact SeqAt.EqAt.int_int a t' b t
    | str b => obtain ⟨t, rfl⟩ := rx; exact SeqAt.EqAt.int_str a t' b t
    | _ => exact absurd (show false = true from fx) Bool.false_ne_true
  | str a =>
    obtain ⟨t', rfl⟩ := ry
    cases x with
    | non => cases rx; exact SeqAt.EqAt.str_none a t'
    | bl b => cases rx; exact SeqAt.EqAt.str_bool a t' b
    | int b => obtain ⟨t, rfl⟩ := rx; exact SeqAt.EqAt.str_int a t' b t
    | str b => obtain ⟨t, rfl⟩ := rx; exact SeqAt.EqAt.str_str a t' b t
    | _ => exact absurd (show false = true from fx) Bool.false_ne_true
  | _ => exact absurd (show false = true from fy) Bool.false_ne_true
def eqU (x : V) (u : Value) : Bool := match u with
  | .none => eqV .non x
  | .bool b => eqV (.bl b) x
  | .int i _ => eqV (.int i) x
  | .str z _ => eqV (.str z) x
  | _ => false
theorem eqU_of {x y : V} {u : Value} (r : RelV y u) (f : flatV y = true) : eqU x u = eqV y x := by
  cases y with
  | non => cases r; rfl
  | bl b => cases r; rfl
  | int i => obtain ⟨t, rfl⟩ := r; rfl
  | str z => obtain ⟨t, rfl⟩ := r; rfl
  | _ => exact absurd (show false = true from f) Bool.false_ne_true
theorem any_eqU {x : V} : ∀ {xs : List V} {us : List Value}, Vals xs us → xs.all flatV = true → us.any (eqU x) = xs.any fun y => eqV y x
  | _, _, .nil, _ => rfl
  | y :: xs, u :: us, .cons r t, f => by
    rw [List.all_cons, Bool.and_eq_true] at f
    rw [List.any_cons, List.any_cons, eqU_of r f.1, any_eqU t f.2]
theorem mem_eqAt {A : Around} {s : Shared} {x : V} {v : Value} (rx : RelV x v) (fx : flatV x = true) : ∀ {xs : List V} {us : List Value}, Vals xs us → xs.all flatV = true → ∀ u ∈ us, SeqAt.EqAt A s u v (eqU x u)
  | _, _, .nil, _ => fun u hu => by cases hu
  | y :: xs, u :: us, .cons r t, f => fun u' hu => by
    rw [List.all_cons, Bool.and_eq_true] at f
    rcases List.mem_cons.mp hu with rfl | hu
    · rw [eqU_of r f.1]; exact eqAt_V r rx f.1 fx
    · exact mem_eqAt rx fx t f.2 u' hu
def inV (x : V) (xs : List V) : Bool := xs.any fun y => eqV y x
def rIn (K : PySem.W.Frag) (neg : Bool) : R2 := fun x y H Q => ∃ p xs, y = .ref p ∧ (SqL K H p xs ∨ SqT K H p xs) ∧ flatV x = true ∧ xs.all flatV = true ∧ Q (.bl (if neg then !inV x xs else inV x xs)) H
theorem op_in_seq : OpR X (compareOp .In) (rIn X.K false) := by
  intro pins s σ H x y v u Q I rx ry h
  obtain ⟨p, xs, rfl, hq, fx, fs, q⟩ := h
  cases ry
  rcases hq with hq | hq
  · obtain ⟨its, r, pl, hz⟩ := I.list hq
    refine SeqAt.in_listAt (eqU x) pl.isList (fun w hw => mem_eqAt rx fx r fs w (by simpa using hw)) ⟨.bl _, H, I, rfl, ?_⟩
    rw [show its.toArray.any (eqU x) = its.any (eqU x) by simp, any_eqU r fs]
    exact q
  · obtain ⟨its, r, pl, hz⟩ := I.tuple hq
    refine SeqAt.in_tupleAt (eqU x) pl (fun w hw => mem_eqAt rx fx r fs w (by simpa using hw)) ⟨.bl _, H, I, rfl, ?_⟩
    rw [show its.toArray.any (eqU x) = its.any (eqU x) by simp, any_eqU r fs]
    exact q
theorem op_notIn_seq : OpR X (compareOp .NotIn) (rIn X.K true) := by
  intro pins s σ H x y v u Q I rx ry h
  obtain ⟨p, xs, rfl, hq, fx, fs, q⟩ := h
  cases ry
  rcases hq with hq | hq
  · obtain ⟨its, r, pl, hz⟩ := I.list hq
    refine SeqAt.notIn_listAt (eqU x) pl.isList (fun w hw => mem_eqAt rx fx r fs w (by simpa using hw)) ⟨.bl _, H, I, rfl, ?_⟩
    rw [show its.toArray.any (eqU x) = its.any (eqU x) by simp, any_eqU r fs]
    exact q
  · obtain ⟨its, r, pl, hz⟩ := I.tuple hq
    refine SeqAt.notIn_tupleAt (eqU x) pl (fun w hw => mem_eqAt rx fx r fs w (by simpa using hw)) ⟨.bl _, H, I, rfl, ?_⟩
    rw [show its.toArray.any (eqU x) = its.any (eqU x) by simp, any_eqU r fs]
    exact q
theorem call_len_seq : CallR X (.builtin "len") (fun xs H Q => ∃ p ys, xs = [.ref p] ∧ (SqL X.K H p ys ∨ SqT X.K H p ys) ∧ Q (.int ys.length) H) := by
  intro pins s σ H xs us Q I r h
  obtain ⟨p, ys, rfl, hq, q⟩ := h
  obtain ⟨u, rfl, rx⟩ := vals1 r
  cases rx
  have hn := line63
  rcases hq with hq | hq
  · obtain ⟨its, r', pl, hz⟩ := I.list hq
    have hlen := r'.length
    exact Calls.call_len_list pl.isList (by simp only [List.size_toArray] <;> omega) ⟨.int ys.length, H, I.tok _, ⟨s.toks + 1, by rw [List.size_toArray, hlen]⟩, q⟩
  · obtain ⟨its, r', pl, hz⟩ := I.tuple hq
    have hlen := r'.length
    exact len_tuple pl (by simp only [List.size_toArray] <;> omega) ⟨.int ys.length, H, I.tok _, ⟨s.toks + 1, by rw [List.size_toArray, hlen]⟩, q⟩
theorem call_len_str : CallR X (.builtin "len") (fun xs H Q => ∃ z, xs = [.str z] ∧ z.length ≤ sizeLine ∧ Q (.int z.length) H) := by
  intro pins s σ H xs us Q I r h
  obtain ⟨z, rfl, hz, q⟩ := h
  obtain ⟨u, rfl, t, rfl⟩ := vals1 r
  have hn := line63
  exact len_str (by omega) ⟨.int z.length, H, I.tok _, ⟨_, rfl⟩, q⟩
theorem CallR.or {f : Value} {r r' : List V → Hp → VK → Prop} (h : CallR X f r) (h' : CallR X f r') : CallR X f (fun xs H Q => r xs H Q ∨ r' xs H Q) := by
  intro pins s σ H xs us Q I rs q
  rcases q with q | q
  · exact h pins s σ H xs us Q I rs q
  · exact h' pins s σ H xs us Q I rs q
theorem call_list_of : CallR X (.type "list") (fun xs H Q => ∃ p ys, xs = [.ref p] ∧ (SqL X.K H p ys ∨ SqT X.K H p ys) ∧ ∀ l, H l = none → Q (.ref l) (upd H l (.lst ys))) := by
  intro pins s σ H xs us Q I r h
  obtain ⟨p, ys, rfl, hq, q⟩ := h
  obtain ⟨u, rfl, rx⟩ := vals1 r
  cases rx
  have fin : ∀ (its : List Value), Vals ys its → ys.length ≤ sizeLine → ∀ (h' : Heap) (c' : Nat), (∀ b o', s.heap.get? b = some o' → h'.get? b = some o') →
      h'.get? s.heap.objs.size = some { cls := .type "list", dict := none, data := .seq its.toArray c', slots := #[] } → EP X pins σ Q (.ref s.heap.objs.size) { s with heap := h' } := fun its r' hz h' c' kp e =>
    ⟨.ref s.heap.objs.size, _, I.laid (t' := s.toks) kp (Nat.le_refl _) (show ObjOk X.prog X.w _ h' _ (.lst ys) from ⟨hz, its, c', r', e⟩), rfl, q _ (I.hok.fresh (Nat.le_refl _))⟩
  rcases hq with hq | hq
  · obtain ⟨its, r', pl, hz⟩ := I.list hq
    have hlen := r'.length
    obtain ⟨o, ho, hc, n, hd⟩ := pl.isList
    exact call_list_seq p (.inl rfl) ho hc hd (fun h' c' kp e => fin its r' hz h' c' kp e) (by simp only [List.size_toArray] <;> omega)
  · obtain ⟨its, r', pl, hz⟩ := I.tuple hq
    have hlen := r'.length
    obtain ⟨o, ho, hc, n, hd⟩ := pl
    exact call_list_seq p (.inr rfl) ho hc hd (fun h' c' kp e => fin its r' hz h' c' kp e) (by simp only [List.size_toArray] <;> omega)
def tyV (K : PySem.W.Frag) (T : String) (x : V) (H : Hp) : Prop := match x with
  | .str _ => T = "str"
  | .int _ => T = "int"
  | .ref p => (T = "list" ∧ ∃ xs, SqL K H p xs) ∨ (T = "tuple" ∧ ∃ o, K.lookup p = some o ∧ o.cls = .type "tuple" ∧ o.dict = none) ∨
      (T = "dict" ∧ ((∃ kvs, H p = some (.dK kvs)) ∨ ∃ kvs, H p = some (.dT kvs))) ∨ (T = "set" ∧ ∃ S n, H p = some (.set S n))
  | _ => False
theorem tyV_is {pins : List (Addr × Obj)} {σ : St} {H : Hp} {s : Shared} {T : String} {x : V} {v : Value} (I : Inv X pins σ H s) (r : RelV x v) (ty : tyV X.K T x H) :
    s.TypeIs v T ∧ ∀ a, v = .ref a → ∃ ob, s.heap.get? a = some ob ∧ ob.dict = none := by
  cases x with
  | str z =>
    obtain ⟨t, rfl⟩ := r
    cases (show T = "str" from ty)
    exact ⟨typeIs_str s z t, fun _ e => nomatch e⟩
  | int i =>
    obtain ⟨t, rfl⟩ := r
    cases (show T = "int" from ty)
    exact ⟨typeIs_int s i t, fun _ e => nomatch e⟩
  | ref p =>
    cases r
    rcases ty with ⟨rfl, xs, hq⟩ | ⟨rfl, o, hk, hc, hd⟩ | ⟨rfl, hk⟩ | ⟨rfl, S, n, hk⟩
    · obtain ⟨its, _, pl, _⟩ := I.list hq
      refine ⟨pl.isList.typeIs, fun a e => ?_⟩
      cases e
      obtain ⟨o, n, e, c, hd, _⟩ := pl
      exact ⟨o, e, hd⟩
    · refine ⟨⟨o, I.kIn p o hk, hc⟩, fun a e => ?_⟩
      cases e
      exact ⟨o, I.kIn _ o hk, hd⟩
    · have z : ∃ o, s.heap.get? p = some o ∧ o.ExactDict := by
        rcases hk with ⟨kvs, hk⟩ | ⟨kvs, hk⟩
        · obtain ⟨_, _, _, _, o, _, _, e, ex, _⟩ := I.hok p _ hk
          exact ⟨o, e, ex⟩
        · obtain ⟨_, _, _, _, o, _, _, e, ex, _⟩ := I.hok p _ hk
          exact ⟨o, e, ex⟩
      obtain ⟨o, e, ex⟩ := z
      refine ⟨⟨o, e, ex.1⟩, fun a e2 => ?_⟩
      cases e2
      exact ⟨o, e, ex.2.1⟩
    · obtain ⟨o, _, _, _, e, ex, _⟩ := I.hok p _ hk
      refine ⟨⟨o, e, ex.1⟩, fun a e2 => ?_⟩
      cases e2
      exact ⟨o, e, ex.2.1⟩
  | _ => exact False.elim ty
def tBM0 (K : PySem.W.Frag) (T : String) (r : V → List V → Hp → VK → Prop) (to : TE) : TE := fun σ H Q => to σ H fun x H1 => tyV K T x H1 ∧ r x [] H1 Q
def tBM (K : PySem.W.Frag) (T : String) (r : V → List V → Hp → VK → Prop) (to : TE) (t : TA) : TE := fun σ H Q => to σ H fun x H1 => tyV K T x H1 ∧ t σ H1 fun xs H2 => r x xs H2 Q
variable {o e : Expr} {es : List Expr} {to : TE} {t : TA} {name : Str} {apos cpos : Pos} {T id : String} {r : V → List V → Hp → VK → Prop}
theorem pe_bm0 (pa : PlainAttrs T) (slot : Slot T name id) (hty : typeOf (.builtin id) = pure (.type "method_descriptor")) (hm : MtR X id r) (ho : PE X o to)
    (hbase : attributeBase o name X.env (eval o X.env) = eval o X.env := by rfl) (hline : (apos.endLine == cpos.line) = true := by rfl) : PE X (.Call (.Attribute o name apos) [] [] cpos) (tBM0 X.K T r to) := by
  intro pins s σ H Q I h
  refine wpAny_Call_method0_late hbase hline (thn (ho pins s σ H _ I h) fun v s1 ⟨x, H1, I1, r1, ty, q1⟩ => ?_)
  obtain ⟨h1, h2⟩ := tyV_is I1 r1 ty
  exact ⟨T, id, pa, slot, hty, h1, h2, Calls.callWith_builtin rfl (PySem.evalArgs_none (hm pins s1 σ H1 x [] v [] Q I1 r1 .nil q1))⟩
theorem pe_bm (pa : PlainAttrs T) (slot : Slot T name id) (hty : typeOf (.builtin id) = pure (.type "method_descriptor")) (hm : MtR X id r) (ho : PE X o to) (ha : PA X (e :: es) t)
    (hbase : attributeBase o name X.env (eval o X.env) = eval o X.env := by rfl)
    (hfew : ((backTo cpos (starEach (e :: es) X.env)).all (fun x => !x.1) && (backToKw cpos (keywordEach [] X.env)).all (fun x => x.1.isSome)
      && decide ((e :: es).length + ([] : List Keyword).length + (if ([] : List Keyword).isEmpty then 0 else 1) < 30)) = true := by rfl)
    (hline : (apos.endLine == cpos.line) = true := by rfl) (hs : starEach (e :: es) X.env = (false, eval e X.env) :: starEach es X.env := by rfl) (hplain : (backTo cpos (starEach es X.env)).any (·.1) = false := by rfl) :
    PE X (.Call (.Attribute o name apos) (e :: es) [] cpos) (tBM X.K T r to t) := by
  intro pins s σ H Q I h
  refine wpAny_Call_method_late hbase hfew hline rfl (thn (ho pins s σ H _ I h) fun v s1 ⟨x, H1, I1, r1, ty, q1⟩ => ?_)
  obtain ⟨h1, h2⟩ := tyV_is I1 r1 ty
  refine ⟨T, id, pa, slot, hty, h1, h2, ?_⟩
  have hA := ha cpos pins s1 σ H1 _ I1 q1
  rw [hs] at hA ⊢
  refine Calls.callWith_builtin (by show (false || (backTo cpos (starEach es X.env)).any (·.1)) = false; rw [hplain] <;> rfl) (Calls.evalArgs_plain ?_)
  exact thn hA fun us s2 ⟨vs, H2, I2, r2, q2⟩ => hm pins s2 σ H2 x vs v us Q I2 r1 r2 q2
end
end L2
namespace L2
open PySem PySem.Spec PyProof.Rows
def MtM (X : Cx) (id : String) (r : V → List V → Hp → VK → Prop) : Prop :=
  ∀ (pins : List (Addr × Obj)) (s : Shared) (σ : St) (H : Hp) (x : V) (xs : List V) (v : Value) (us : List Value) (Q : VK), Inv X pins σ H s → RelV x v → Vals xs us → r x xs H Q →
    wpAny (model X.prog X.w) X.A (call (.builtin id) (v :: us)) (EP X pins σ Q) X.xe s
theorem Vals.one : ∀ {x : V} {us : List Value}, Vals [x] us → ∃ u, us = [u] ∧ RelV x u
  | _, _, .cons r .nil => ⟨_, rfl, r⟩
theorem Vals.zero : ∀ {us : List Value}, Vals [] us → us = []
  | _, .nil => rfl
theorem Vals.reverse {xs : List V} {us : List Value} (h : Vals xs us) : Vals xs.reverse us.reverse := by
  induction h with
  | nil => exact .nil
  | cons r t ih => rw [List.reverse_cons, List.reverse_cons]; exact Vals.append ih (.cons r .nil)
theorem Vals.rep {xs : List V} {us : List Value} (h : Vals xs us) : ∀ k : Nat, Vals (List.replicate k xs).flatten (List.replicate k us).flatten
  | 0 => .nil
  | k + 1 => by
    rw [List.replicate_succ, List.replicate_succ, List.flatten_cons, List.flatten_cons]
    exact Vals.append h (Vals.rep h k)
theorem foldl_rep (its : List Value) : ∀ (k : Nat) (acc : List Value),
    List.foldl (fun x1 x2 => x1 ++ x2) acc.toArray (List.replicate k its.toArray) = (acc ++ (List.replicate k its).flatten).toArray
  | 0, acc => by simp
  | k + 1, acc => by
    have e : acc.toArray ++ its.toArray = (acc ++ its).toArray := by simp
    have e2 : (acc ++ its) ++ (List.replicate k its).flatten = acc ++ (List.replicate (k + 1) its).flatten := by
      rw [List.replicate_succ, List.flatten_cons, List.append_assoc]
    rw [← e2, ← foldl_rep its k (acc ++ its), ← e, List.replicate_succ, List.foldl_cons]
section
variable {X : Cx} {pins : List (Addr × Obj)} {σ : St} {H : Hp} {s : Shared} {l b : Addr} {xs ys zs : List V}
theorem Inv.lset {its its' : List Value} {n : Nat} {f : Array Value → Array Value} {t' : Nat} (I : Inv X pins σ H s) (hH : H l = some (.lst xs))
    (e : s.heap.get? l = some { cls := .type "list", data := .seq its.toArray n }) (hf : f its.toArray = its'.toArray) (hv : Vals ys its') (hz : ys.length ≤ sizeLine) :
    Inv X pins σ (upd H l (.lst ys)) { s with heap := s.heap.update l (Obj.mapSeq f), toks := t' } := by
  have q := PySem.IsL.update e f
  rw [hf] at q
  refine I.write (x := l) (e := l) (by rw [hH]; exact trivial) (.inl rfl) (fun b' u hb hu => (Heap.get?_update_other s.heap (Obj.mapSeq f) (Ne.symm hb)).trans hu) ⟨_, q⟩ ?_
  exact ⟨hz, its', _, hv, q⟩
theorem Inv.lnew {its : List Value} {t' : Nat} (I : Inv X pins σ H s) (hv : Vals ys its) (hz : ys.length ≤ sizeLine) :
    Inv X pins σ (upd H s.heap.objs.size (.lst ys)) { s with heap := s.heap.push { cls := .type "list", data := .seq its.toArray }, toks := t' } :=
  I.laid (fun _ _ q => Heap.get?_push_of_some _ q) (Nat.le_refl _) ⟨hz, its, 0, hv, Heap.get?_push_size _ rfl⟩
theorem Inv.fresh (I : Inv X pins σ H s) : H s.heap.objs.size = none := I.hok.fresh (Nat.le_refl _)
theorem Inv.lstM (I : Inv X pins σ H s) (hH : H l = some (.lst xs)) : xs.length ≤ sizeLine ∧ ∃ (its : List Value) (n : Nat), Vals xs its ∧ xs.length = its.length ∧ s.heap.get? l = some { cls := .type "list", data := .seq its.toArray n } := by
  obtain ⟨z, its, n, r, e⟩ := I.hok l _ hH
  exact ⟨z, its, n, r, r.length, e⟩
theorem notLongL {n : Nat} (h : n ≤ sizeLine) : Builtin.List.listTooLong n = false := by
  unfold Builtin.List.listTooLong
  exact decide_eq_false (by omega)
end
section
variable {X : Cx}
def rAppend : V → List V → Hp → VK → Prop := fun x vs H Q => ∃ l xs y, x = .ref l ∧ vs = [y] ∧ H l = some (.lst xs) ∧ xs.length < sizeLine ∧ Q .non (upd H l (.lst (xs ++ [y])))
theorem mt_append : MtM X "list.append" rAppend := by
  intro pins s σ H x vs v us Q I rx rv h
  obtain ⟨l, xs, y, rfl, rfl, hH, hz, q⟩ := h
  cases rx
  obtain ⟨u, rfl, ru⟩ := rv.one
  obtain ⟨z, its, n, r, hl, e⟩ := I.lstM hH
  refine call_meets F.slot_list_append ⟨_, e, rfl⟩ F.entry_list_append (F.args_list_append_2 _ _) (PySem.list_append l its.toArray n u (by rw [List.size_toArray]; omega)) ⟨e, ?_⟩
  refine ⟨.non, _, I.lset (its' := its ++ [u]) hH e (by simp) (r.append (.cons ru .nil)) ?_, rfl, q⟩
  rw [List.length_append, List.length_singleton]
  omega
def rExtend : V → List V → Hp → VK → Prop := fun x vs H Q => ∃ l b xs zs, x = .ref l ∧ vs = [.ref b] ∧ H l = some (.lst xs) ∧ H b = some (.lst zs) ∧ xs.length + zs.length ≤ sizeLine ∧ Q .non (upd H l (.lst (xs ++ zs)))
theorem mt_extend : MtM X "list.extend" rExtend := by
  intro pins s σ H x vs v us Q I rx rv h
  obtain ⟨l, b, xs, zs, rfl, rfl, hH, hB, hz, q⟩ := h
  cases rx
  obtain ⟨u, rfl, ru⟩ := rv.one
  cases ru
  obtain ⟨z, its, n, r, hl, e⟩ := I.lstM hH
  obtain ⟨z2, its2, n2, r2, hl2, e2⟩ := I.lstM hB
  have hsz : its.toArray.size + its2.toArray.size ≤ sizeLine := by rw [List.size_toArray, List.size_toArray]; omega
  have hlong : ¬ (!its.toArray.isEmpty && Builtin.List.listTooLong (its.toArray.size + its2.toArray.size)) = true := by
    rw [notLongL hsz, Bool.and_false]
    exact Bool.false_ne_true
  refine call_meets F.slot_list_extend ⟨_, e, rfl⟩ F.entry_list_extend (F.args_list_extend_2 _ _)
    (AutoSeq1.list_extend_list_list_0 l its.toArray n b its2.toArray n2 hlong (by rw [List.size_toArray]; omega) (by omega)) ⟨e, e2, ?_⟩
  refine ⟨.non, _, I.lset (its' := its ++ its2) hH e (by simp) (r.append r2) ?_, rfl, q⟩
  rw [List.length_append]
  omega
def rClear : V → List V → Hp → VK → Prop := fun x vs H Q => ∃ l xs, x = .ref l ∧ vs = [] ∧ H l = some (.lst xs) ∧ Q .non (upd H l (.lst []))
theorem mt_clear : MtM X "list.clear" rClear := by
  intro pins s σ H x vs v us Q I rx rv h
  obtain ⟨l, xs, rfl, rfl, hH, q⟩ := h
  cases rx
  have hus := rv.zero
  subst hus
  obtain ⟨z, its, n, r, hl, e⟩ := I.lstM hH
  refine call_meets F.slot_list_clear ⟨_, e, rfl⟩ F.entry_list_clear (F.args_list_clear_1 _) (AutoSeq1.list_clear_list_0 l its.toArray n (by rw [List.size_toArray]; omega)) ⟨e, ?_⟩
  exact ⟨.non, _, I.lset (its' := []) (ys := []) hH e rfl .nil (Nat.zero_le _), rfl, q⟩
def rCat : R2 := fun x y H Q => ∃ l b xs zs, x = .ref l ∧ y = .ref b ∧ H l = some (.lst xs) ∧ H b = some (.lst zs) ∧ xs.length + zs.length ≤ sizeLine ∧ ∀ p, H p = none → Q (.ref p) (upd H p (.lst (xs ++ zs)))
theorem op_cat : OpR X (binaryOp .Add) rCat := by
  intro pins s σ H x y v u Q I rx ry h
  obtain ⟨l, b, xs, zs, rfl, rfl, hH, hB, hz, q⟩ := h
  cases rx
  cases ry
  obtain ⟨z, its, n, r, hl, e⟩ := I.lstM hH
  obtain ⟨z2, its2, n2, r2, hl2, e2⟩ := I.lstM hB
  refine PySem.P.add_list e e2 ?_ (by rw [List.size_toArray, List.size_toArray]; omega)
  have ea : its.toArray ++ its2.toArray = (its ++ its2).toArray := by simp
  rw [ea]
  exact ⟨.ref _, _, I.lnew (t' := s.toks) (r.append r2) (by rw [List.length_append]; omega), rfl, q _ I.fresh⟩
def rRep : R2 := fun x y H Q => ∃ l k xs, x = .ref l ∧ y = .int k ∧ H l = some (.lst xs) ∧ -(2 ^ 63) ≤ k ∧ k < 2 ^ 63 ∧ xs.length * k.toNat ≤ sizeLine ∧
  ∀ p, H p = none → Q (.ref p) (upd H p (.lst (List.replicate k.toNat xs).flatten))
theorem len_rep {α : Type} (xs : List α) (k : Nat) : (List.replicate k xs).flatten.length = k * xs.length := by
  induction k with
  | zero => simp
  | succ k ih => rw [List.replicate_succ, List.flatten_cons, List.length_append, ih, Nat.succ_mul, Nat.add_comm]
theorem op_rep : OpR X (binaryOp .Mult) rRep := by
  intro pins s σ H x y v u Q I rx ry h
  obtain ⟨l, k, xs, rfl, rfl, hH, h1, h2, hz, q⟩ := h
  cases rx
  obtain ⟨t, rfl⟩ := ry
  obtain ⟨z, its, n, r, hl, e⟩ := I.lstM hH
  have hlen : its.toArray.size * k.toNat ≤ sizeLine := by rw [List.size_toArray, ← hl]; exact hz
  have hcap : ¬ its.toArray.size * k.toNat > (2 ^ 63 - 1) / 8 := by
    have : (sizeLine : Nat) ≤ (2 ^ 63 - 1) / 8 := by decide
    omega
  have hfit : ¬ (!Builtin.List.listFitsIndex k) = true := by
    rw [fitsIndex_both h1 h2]
    exact Bool.false_ne_true
  have hlong : ¬ Builtin.List.listTooLong (its.toArray.size * k.toNat) = true := by
    rw [notLongL hlen]
    exact Bool.false_ne_true
  have hnew : List.foldl (fun x1 x2 => x1 ++ x2) #[] (List.replicate (if its.toArray.isEmpty = true then 0 else k.toNat) its.toArray) = (List.replicate k.toNat its).flatten.toArray := by
    have f0 : ∀ m : Nat, List.foldl (fun x1 x2 => x1 ++ x2) #[] (List.replicate m its.toArray) = (List.replicate m its).flatten.toArray := fun m => by
      have := foldl_rep its m []
      rw [List.nil_append] at this
      exact this
    rw [f0]
    cases its with
    | nil => simp
    | cons a r' => rw [if_neg (by simp)]
  refine wpAny_binaryOp_repeat_ref (T := "list") (U := "int") (by decide) ⟨_, e, rfl⟩ (fun s' => typeIs_int s' k t) noFill_list_mul F.fills_int_mul F.slot_int_rmul repeat_list F.slot_int_index.lookup
    (call_meets F.slot_int_rmul (typeIs_int s k t) F.entry_int_rmul (F.args_int_rmul_2 _ _) (int___rmul___int_list k t l its.toArray n)
      ⟨e, rfl, ⟨_, e, rfl⟩, call_meets F.slot_list_mul ⟨_, e, rfl⟩ F.entry_list_mul (F.args_list_mul_2 _ _) (AutoListH.list___mul___list_int_3 l its.toArray n k t hfit hcap hlong) ⟨e, ?_⟩⟩)
  rw [hnew]
  exact ⟨.ref _, _, I.lnew (t' := s.toks) (r.rep k.toNat) (by rw [len_rep, Nat.mul_comm]; exact hz), rfl, q _ I.fresh⟩
end
section
variable {prog : Program} {w : World} {A : Around} {E : Value → Shared → Prop} {s : Shared}
set_option maxRecDepth 100000 in
end
section
variable {X : Cx}
end
end L2
namespace L2
open PySem PySem.Spec PyProof.Rows
section
variable {κ : Type} [DecidableEq κ]
end
theorem kV_is {P : Program} {w : World} {k : Key} {u : Value} (r : RelV (kV k) u) : (mixKind P w).is k u = true := by
  cases k with
  | inl i => obtain ⟨t, e⟩ := (show ∃ t, u = Value.int i t from r); subst e; exact mixKind_int P w i t
  | inr x => obtain ⟨t, e⟩ := (show ∃ t, u = Value.str x t from r); subst e; exact mixKind_str P w x t
abbrev KT (H : Hp) : List (List Key × V) → List (List Key × Addr × Value) → Prop := Paired fun p q => p.1 = q.1 ∧ H q.2.1 = some (.tup (p.1.map kV)) ∧ RelV p.2 q.2.2
section
variable {P : Program} {w : World} {H : Hp} {h : Heap} {a : Addr}
end
section
variable {X : Cx} {pins : List (Addr × Obj)} {σ : St} {H : Hp} {s : Shared} {a : Addr} {y v : V} {u r : Value} {o : Option V} {A : Around} {E : Value → Shared → Prop}
theorem Inv.big (I : Inv X pins σ H s) : sysModules < s.heap.objs.size := by
  have h : mainGlobals < s.heap.objs.size := (I.mod.glob.keeps I.bk).lt
  exact Nat.lt_trans (by decide) h
end
section
variable {X : Cx} {pins : List (Addr × Obj)} {σ : St} {H : Hp} {s : Shared} {a : Addr} {kvs : List (Key × V)} {k : Key} {u : Value} {A : Around} {E : Value → Shared → Prop}
end
def NoSl (i : Expr) : Prop := ∀ ov iv, subscripted i false ov iv = operate [ov, iv] (getItem ov iv)
theorem subD_of {prog : Program} {w : World} {A : Around} {E : Value → Shared → Prop} {s : Shared} {env : Env} {value slice : Expr} {pos : Pos} {T id : String} {Q : Value → Shared → Prop}
    (hl : typeLookup (.type T) "__getitem__" = pure (some (.builtin id))) (hs : NoSl slice)
    (h : wpAny (model prog w) A (eval value env) (fun o s₁ => wpAny (model prog w) A (eval slice env) (fun i s₂ => s₂.TypeIs o T ∧ wpAny (model prog w) A (getItem o i) Q E s₂) E s₁) E s) :
    wpAny (model prog w) A (eval (.Subscript value slice pos) env) Q E s := by
  refine Subscript_ (wpAny_mono h (fun o s₁ h₁ => wpAny_mono h₁ (fun i s₂ h₂ => ?_) fun _ _ x => x) fun _ _ x => x)
  obtain ⟨hT, h₂⟩ := h₂
  unfold subscriptTail
  refine wpAny_bind ?_
  rw [getitemInPython_of_ne hT.not_modules]
  refine wpAny_bind (wpAny_specialOf hT hl ?_)
  have fin : wpAny (model prog w) A (subscripted slice false o i) (fun r s₃ => wpAny (model prog w) A (letTemporaryGo value o r >>= fun _ => pure r) Q E s₃) E s₂ := by
    rw [hs o i]
    exact wpAny_operating (wpAny_mono h₂ (fun r s₃ h₃ => wpAny_bind (wpAny_letTemporaryGo (wpAny_pure h₃))) fun _ _ x => x)
  first
    | exact wpAny_pure (wpAny_bind fin)
    | exact wpAny_bind (wpAny_pure (wpAny_bind fin))
    | exact wpAny_bind fin
section
variable {X : Cx} {o i e value : Expr} {pos pos' tpos : Pos} {td ty tv : TE}
end
theorem dk_empty {P : Program} {w : World} {H : Hp} (h : Heap) (hb : sysModules < h.objs.size) : ObjOk P w H (h.push { cls := .type "dict", data := .dict #[] }) h.objs.size (.dK []) :=
  ⟨Nat.zero_le _, beq_eq_false_iff_ne.mpr (Ne.symm (Nat.ne_of_lt hb)), [], .nil, Heap.DictOf.new h⟩
def tDNewK : TE := fun _ H Q => ∀ p, H p = none → Q (.ref p) (upd H p (.dK []))
section
variable {X : Cx} {pos : Pos}
theorem pe_dnewK : PE X (.Dict [] [] pos) tDNewK := fun pins s σ H Q I h =>
  wpAny_Dict_empty ⟨.ref s.heap.objs.size, _, I.laid (a := s.heap.objs.size) (o := .dK []) (t' := s.toks) (fun _ _ q => Heap.get?_push_of_some _ q) (Nat.le_refl _) (dk_empty s.heap I.big), rfl, h _ (I.hok.fresh (Nat.le_refl _))⟩
end
abbrev VV : List (V × V) → List (Value × Value) → Prop := Paired fun p q => RelV p.1 q.1 ∧ RelV p.2 q.2
section
variable {X : Cx} {pins : List (Addr × Obj)} {σ : St} {H : Hp} {s : Shared} {a : Addr} {y d : V} {u r : Value} {o : Option V} {A : Around} {E : Value → Shared → Prop}
end
section
variable {X : Cx} {o e f : Expr} {apos cpos : Pos} {td ty tx : TE}
end
section
variable {X : Cx} {pins : List (Addr × Obj)} {σ : St} {H : Hp} {s : Shared} {a : Addr} {kvs : List (Key × V)} {A : Around} {E : Value → Shared → Prop}
end
section
variable {X : Cx} {pins : List (Addr × Obj)} {σ : St} {H : Hp} {s : Shared} {a : Addr} {y : V} {u : Value} {A : Around} {E : Value → Shared → Prop}
end
end L2
namespace Att
open PySem PySem.W PySem.Calls PyProof.Rows
theorem ints_of_wellAll {P : Params} {h : Heap} : ∀ (ns : List Int) (vs : List Value), WellAll P h vs (ns.map WData.int) → IntsAre vs ns := by
  intro ns
  induction ns with
  | nil =>
    intro vs w
    rw [List.map_nil] at w
    cases w
    exact .nil
  | cons n ns ih =>
    intro vs w
    rw [List.map_cons] at w
    cases w with
    | cons a b =>
      cases a
      exact .cons _ _ (ih _ b)
theorem script_of {l : OpenLaw} {n : Nat} (hn : l.most = some n) {P : Params} {h : Heap} {args : List WData} {vals : List Value}
    (hpre : l.row.toRowW.claim.pre args = true) (hwl : WellAll P h vals args) :
    ∃ a vs ns, vals = [Value.ref a] ∧ args = [WData.list (ns.map WData.int)] ∧ h.get? a = some { cls := .type "list", data := .seq vs.toArray } ∧ IntsAre vs ns ∧ ns.length ≤ n := by
  have hsh : WShape.hasAll [] args [.list .int] = true := (pre_splitW hpre).1
  have hc : l.pre.holds [] { args := args } = true := (pre_splitW hpre).2
  obtain ⟨d, r, rfl, h1, h2⟩ := hasAllW_cons hsh
  obtain rfl := hasAllW_nil h2
  obtain ⟨xs, rfl, h3⟩ := hasW_list h1
  obtain ⟨ns, rfl⟩ := items_int h3
  have hlen : ns.length ≤ n := by
    unfold OpenLaw.pre at hc
    have h4 : (WTm.not (.lt (.lit (.int (n : Int))) (.len (.arg 0)))).holds [] { args := [.list (ns.map .int)] } = true := by
      have h4 := (holds_andW hc).1
      rw [hn] at h4
      exact h4
    have h5 := condW_of h4 (w_not (w_lt w_lit (w_len_list (w_arg rfl))))
    rw [List.length_map] at h5
    refine Nat.le_of_not_lt fun q => ?_
    have q' : (n : Int) < ((ns.length : Nat) : Int) := by omega
    first
      | (rw [decide_eq_true q'] at h5; exact absurd h5 (by decide))
      | (simp at h5; omega)
  cases hwl with
  | cons w1 w2 =>
    cases w2
    cases w1 with
    | list ho hall => exact ⟨_, _, ns, rfl, rfl, ho, ints_of_wellAll ns _ hall, hlen⟩
theorem post_true (l : OpenLaw) (args : List WData) : l.row.toRowW.claim.post args (.bool true) args = true :=
  postW_of (r := l.row.toRowW) (X := (true == true))
    (show WShape.has [] (.bool true) .bool = true by first | rfl | decide | simp [WShape.has, WShape.arms, WShape.armsAll])
    (show (WTm.eq .res (.lit (.bool true))).value [] { args := args, res := some (.bool true), after := args } = some (.bool (true == true)) from w_eq_bool (w_res rfl) w_lit) rfl
theorem attach_call {l : OpenLaw} {n : Nat} {q : Program} {loose : List Str} {XP : (Str → Option Value) → Heap → Prop} {YP : World → Heap → Prop} {d : DefRec}
    (hn : l.most = some n) (hdf : d.params.defaults = [])
    (call : ∀ (w : World) (s₀ s₁ : Shared) (mg mb : Str → Option Value) (fa : Addr) (o : Obj) (pm cd doc : Value) (a : Addr) (vs : List Value) (ns : List Int),
      Ground q loose [] XP w s₀ mg mb s₁.heap → YP w s₁.heap →
      s₁.heap.get? fa = some o → o.data = .func (docDef d.name d.params d.body d.scope pm cd doc) → s₁.heap.CodeRec cd d.name → mg d.name = some (.ref fa) →
      s₁.heap.get? a = some { cls := .type "list", data := .seq vs.toArray } → IntsAre vs ns → ns.length ≤ n → s₁.gens = #[] →
      codeAny (model l.prog w) callerA (.call (.ref fa) ⟨[.ref a], []⟩) (fun r s' => r = .ok (.ret (.bool true)) ∧ OldK s₁.heap s'.heap ∧ s'.os = s₁.os ∧ AllBare s'.gens) s₁) :
    WalkO q loose XP YP l.row.toRowW d [] (fun f vs => PySem.call f vs) := by
  intro w s₀ s₁ mg mb G Y fa o pm cd doc dV kV ho hd hcd hD hmg hg args vals as hpre hlay hrd hwl hlo
  obtain rfl : dV = .none := Dflts.none hD hdf
  obtain rfl : kV = .none := Dflts.noKw hD
  obtain ⟨a, vs, ns, rfl, rfl, hobj, hints, hlen⟩ := script_of hn hpre hwl
  refine enter_call (codeAny_mono (call w s₀ s₁ mg mb fa o pm cd doc a vs ns G Y ho (fd_plain hd) hcd hmg hobj hints hlen hg) fun r s' hq => ?_)
  obtain ⟨rfl, h2, h3, h4⟩ := hq
  exact ⟨.inl ⟨.bool true, .bool true, [], rfl, fun _ => rfl, .bool true, post_true l _, fun _ => ⟨List.Pairwise.nil, fun _ hm => (nomatch hm)⟩⟩, h2, h3, h4⟩
section
variable {prog : Program} {w : World} {A : Around} {E : Value → Shared → Prop} {s : Shared} {K : Frag}
end
end Att
namespace L2
open PySem PySem.Spec PyProof.Rows
theorem vals_ints : ∀ {vs : List Value} {ns : List Int}, IntsAre vs ns → Vals (ns.map V.int) vs
  | _, _, .nil => .nil
  | _, _, .cons n t h => .cons ⟨t, rfl⟩ (vals_ints h)
def Only (H : Hp) : Prop := ∀ b, H b = none ∨ ∃ o xs, H b = some (.frz o (.lst xs))
theorem law_call {P : Program} {w : World} {K : PySem.W.Frag} {mg mb : Str → Option Value} {CX : CXT} {k : Nat} {fa a : Addr} {fd : FuncData} {x : Str} {sp : Sp} {s₁ : Shared} {vs : List Value} {ns : List Int}
    (KX : K.In s₁.heap) (hns : s₁.heap.Ns mainGlobals mg) (hb : s₁.heap.Ns builtinsNs mb) (hbb : ∀ x : Str, x ≠ "__name__" → mb x = bootBuiltins x) (hlim : s₁.heap.NoLimit) (hg : s₁.gens = #[])
    (ha : s₁.heap.get? a = some { cls := .type "list", data := .seq vs.toArray }) (hi : IntsAre vs ns) (hl : ns.length ≤ sizeLine) (hr : Room k callerA)
    (F : ∀ base : Heap, K.In base → base.Ns mainGlobals mg → FnOk P w K mg base CX k fa fd [x] sp) (hbind : ∀ (s : Shared) (u : Value), BindsTo s fd ⟨[u], []⟩ [(x, u)])
    (hsp : ∀ H : Hp, Only H → SqL K H a (ns.map V.int) → sp [.ref a] H (fun v _ => v = .bl true) fun _ _ _ => False)
    (hCX : ∀ H e s', CX [] H s₁ (fun _ _ _ => False) e s' → False) :
    codeAny (model P w) callerA (.call (.ref fa) ⟨[.ref a], []⟩) (fun r s' => r = .ok (.ret (.bool true)) ∧ OldK s₁.heap s'.heap ∧ s'.os = s₁.os ∧ AllBare s'.gens) s₁ := by
  have rv := vals_ints hi
  have lenV := hi.length
  -- from an abstract heap in which nothing but the script may be tracked
  have core : ∀ H : Hp, Only H → SqL K H a (ns.map V.int) → HOk P w H s₁.heap → (∀ b, H b ≠ none → b = a) → (H a ≠ none → K.lookup a = none) →
      codeAny (model P w) callerA (.call (.ref fa) ⟨[.ref a], []⟩) (fun r s' => r = .ok (.ret (.bool true)) ∧ OldK s₁.heap s'.heap ∧ s'.os = s₁.os ∧ AllBare s'.gens) s₁ := by
    intro H hO hS hok hA hK
    have base_of : ∀ {b : Addr} {o : Obj}, s₁.heap.get? b = some o → H b = none → (hidT s₁.heap H).get? b = some o := fun e n => hidT_get e n
    have noA : ∀ {b : Addr} {o : Obj} {es : Array DictEntry} {ep : Nat}, s₁.heap.get? b = some o → o.data = .dict es ep → H b = none := fun {b o es ep} e d => by
      cases q : H b with
      | none => rfl
      | some u =>
        have e' : b = a := hA b (by rw [q]; simp)
        subst e'
        rw [ha] at e; cases e
        have d' : Data.seq vs.toArray _ = Data.dict es ep := d
        cases d'
    have nsK : ∀ {b : Addr} {m : Str → Option Value}, s₁.heap.Ns b m → (hidT s₁.heap H).Ns b m := fun {b m} ⟨o, es, ep, e, d, r⟩ => ⟨o, es, ep, base_of e (noA e d), d, r⟩
    have hKb : K.In (hidT s₁.heap H) := fun b o e => base_of (KX b o e) (by
      cases q : H b with
      | none => rfl
      | some u =>
        have e' : b = a := hA b (by rw [q]; simp)
        subst e'
        rw [hK (by rw [q]; simp)] at e; cases e)
    have hM : Mod K mg (hidT s₁.heap H) := ⟨hKb, nsK hns, ⟨mb, nsK hb, hbb⟩, let ⟨mc, h1, h2⟩ := hlim; ⟨mc, nsK h1, h2⟩⟩
    have e0 : Env0 P w K mg (hidT s₁.heap H) callerA [] s₁ H := ⟨rfl, hM, fun b o e => of_hidT e, Nat.le_of_eq (hidT_size _ _), trivial, fun b hb => absurd (show b ∈ ([] : List Addr) from hb) (by simp), hok, .of_eq hg⟩
    refine codeAny_mono ((F _ hKb (nsK hns)).run callerA [] s₁ H ⟨[.ref a], []⟩ [.ref a] [.ref a] _ _ hr e0 (hbind s₁ (.ref a)) (.cons rfl .nil) (hsp H hO hS)) fun r s' h => ?_
    cases r with
    | error e => exact (hCX H e s' h).elim
    | ok fl =>
      cases fl with
      | next => exact False.elim h
      | brk => exact False.elim h
      | cont => exact False.elim h
      | ret u =>
        obtain ⟨v, H', os, bare, un, hok', r', q⟩ := h
        have q' : v = .bl true := q
        subst q'
        obtain rfl : u = Value.bool true := r'
        refine ⟨rfl, OldK.of_keep fun b o e => ?_, os, bare⟩
        cases q : H b with
        | none => exact un.keep b o e q (by intro z; exact absurd (show b ∈ ([] : List Addr) from z) (by simp)) (by simp)
        | some u =>
          rcases hO b with z | ⟨ob, xs, z⟩
          · rw [q] at z; cases z
          · have z2 := un.frzs b ob _ z
            obtain ⟨e1, _⟩ := hok b _ z
            obtain ⟨e2, _⟩ := hok' b _ z2
            rw [e] at e1; cases e1
            exact e2
  cases hk : K.lookup a with
  | some o =>
    -- the script is one of the module's own objects
    have e := KX a o hk
    rw [ha] at e
    cases e
    refine core (fun _ => none) (fun _ => .inl rfl) (.inr ⟨_, vs.toArray, _, hk, rfl, rfl, rfl, by rw [List.size_toArray, lenV]; exact hl, by simpa using rv⟩) (fun b u z => by have z' : (none : Option HO) = some u := z; cases z') (fun b z => absurd rfl z) fun z => absurd rfl z
  | none =>
    refine core (fun b => if b = a then some (.frz { cls := .type "list", data := .seq vs.toArray } (.lst (ns.map V.int))) else none) (fun b => ?_) (.inl (.inr ⟨{ cls := .type "list", data := .seq vs.toArray }, if_pos rfl⟩)) (fun b u z => ?_) (fun b z => ?_) fun _ => hk
    · by_cases hb : b = a
      · exact .inr ⟨_, _, if_pos hb⟩
      · exact .inl (if_neg hb)
    · by_cases hb : b = a
      · have z' := (if_pos hb).symm.trans z
        cases z'
        subst hb
        exact ⟨ha, by rw [List.length_map]; exact hl, vs, _, rv, ha⟩
      · have z' := (if_neg hb).symm.trans z
        cases z'
    · by_cases hb : b = a
      · exact hb
      · exact absurd (if_neg hb) z
end L2
namespace L2
open PySem PySem.Spec PyProof.Rows
abbrev KOf {K : PySem.W.Frag} {h : Heap} (_ : K.In h) : PySem.W.Frag := K
theorem walk_of {l : PySem.W.OpenLaw} {n k : Nat} {q : Program} {loose : List Str} {XP : (Str → Option Value) → Heap → Prop} {YP : World → Heap → Prop} {d : DefRec} {K : Params → PySem.W.Frag} {CX : World → CXT} {sp : World → Sp} {x : Str}
    (hn : l.most = some n) (hn2 : n ≤ sizeLine) (hdf : d.params.defaults = []) (hr : Room k callerA)
    (hY : ∀ (w : World) (h : Heap), YP w h → (K w.params).In h)
    (F : ∀ (w : World) (mg : Str → Option Value) (fa : Addr) (h : Heap), (K w.params).In h → h.Ns mainGlobals mg → mg d.name = some (.ref fa) →
      ∃ fd : FuncData, (∀ (s : Shared) (u : Value), BindsTo s fd ⟨[u], []⟩ [(x, u)]) ∧
        ∀ base : Heap, (K w.params).In base → base.Ns mainGlobals mg → FnOk l.prog w (K w.params) mg base (CX w) k fa fd [x] (sp w))
    (hsp : ∀ (w : World) (H : Hp) (a : Addr) (ns : List Int), ns.length ≤ n → Only H → SqL (K w.params) H a (ns.map V.int) → sp w [.ref a] H (fun v _ => v = .bl true) fun _ _ _ => False)
    (hCX : ∀ (w : World) (H : Hp) (s : Shared) (e : Value) (s' : Shared), CX w [] H s (fun _ _ _ => False) e s' → False) :
    PySem.W.WalkO q loose XP YP l.row.toRowW d [] (fun f vs => PySem.call f vs) := by
  refine Att.attach_call hn hdf fun w s₀ s₁ mg mb fa o pm cd doc a vs ns G Y ho hd hcd hmg hobj hints hlen hg => ?_
  have KX := hY w _ Y
  obtain ⟨fd, hb, hF⟩ := F w mg fa _ KX G.T.g hmg
  exact law_call KX G.T.g G.T.b G.T.builtins G.T.nolimit hg hobj hints (Nat.le_trans hlen hn2) hr hF hb (fun H hO hS => hsp w H a ns hlen hO hS) fun H e s' => hCX w H s₁ e s'
end L2
namespace L2
open PySem PySem.Spec PyProof.Rows
def inClass (s : Stmt) (j : Nat) : Stmt := match s with
  | .ClassDef _ _ _ body _ _ _ _ _ _ _ => body.getD j (.Pass ⟨0, 0, 0, 0⟩)
  | _ => .Pass ⟨0, 0, 0, 0⟩
def defArgs (s : Stmt) : Arguments := match s with
  | .FunctionDef _ a _ _ _ _ _ _ _ _ => a
  | _ => { posonlyargs := [], args := [], vararg := none, kwonlyargs := [], kw_defaults := [], kwarg := none, defaults := [] }
def defBody (s : Stmt) : List Stmt := match s with
  | .FunctionDef _ _ b _ _ _ _ _ _ _ => b
  | _ => []
def defScope (s : Stmt) : Scope := match s with
  | .FunctionDef _ _ _ _ _ _ sc _ _ _ => sc
  | _ => { kind := .function, names := [], isGenerator := false, isCoroutine := false }
abbrev CX0 : CXT := fun _ _ _ _ _ _ => False
abbrev E0 : XK := fun _ _ _ => False
theorem pass0 {X : Cx} : Passes CX0 X E0 := fun _ _ _ _ _ _ _ h => h.elim
section
variable {P : Program} {w : World} {K : PySem.W.Frag} {mg : Str → Option Value} {base : Heap}
end
theorem hu_of {A : Around} {k : Nat} (hr : Room k A) : A.units + 1 < cLine := Nat.lt_of_le_of_lt (Nat.add_le_add_left (by decide : 1 ≤ 64) _) hr.units
section
variable {X : Cx}
end
section
variable {κ : Type} [DecidableEq κ]
end
end L2
namespace Iv
open PySem
def joinU (sep : List Nat) : List (List Nat) → List Nat
  | [] => []
  | [x] => x
  | x :: y :: r => x ++ sep ++ joinU sep (y :: r)
def splitU (c : Nat) : List Nat → List (List Nat)
  | [] => [[]]
  | a :: r => if a = c then [] :: splitU c r else match splitU c r with
    | [] => [[a]]
    | p :: ps => (a :: p) :: ps
theorem pickL {β : Type} (l : List β) (a : Nat) : ∀ k : Nat, (List.range k).filterMap (fun m => l[a + m]?) = (l.drop a).take k
  | 0 => rfl
  | k + 1 => by
    rw [List.range_succ, List.filterMap_append, pickL l a k, List.take_add_one, List.getElem?_drop]
    cases e : l[a + k]? <;> simp [e]
end Iv
namespace L2
open PySem PySem.Spec PyProof.Rows Builtin Builtin.Str
section
variable {X : Cx}
theorem slice_idx (lo hi : Option Int) (n : Nat) : strSliceIndices lo hi 1 n = (List.range (HT.sIx n n hi - HT.sIx n 0 lo)).map (HT.sIx n 0 lo + ·) := by
  have cl : ∀ (v : Option Int) (d : Nat), (match v with | none => ((d : Nat) : Int) | some i => max 0 (min (if i < 0 then i + (n : Int) else i) (n : Int))) = ((HT.sIx n d v : Nat) : Int) := fun v d => by
    cases v with
    | none => rfl
    | some i =>
      rw [← HT.clip_eq i n d]
      simp only
      split <;> omega
  have e1 : (match lo with | none => (0 : Int) | some i => max 0 (min (if i < 0 then i + (n : Int) else i) (n : Int))) = ((HT.sIx n 0 lo : Nat) : Int) := by
    rw [← cl lo 0]; cases lo <;> rfl
  have c2 := cl hi n
  have key : ∀ L U : Int, L = ((HT.sIx n 0 lo : Nat) : Int) → U = ((HT.sIx n n hi : Nat) : Int) → sliceRange L U 1 = (List.range (HT.sIx n n hi - HT.sIx n 0 lo)).map (HT.sIx n 0 lo + ·) := by
    rintro L U rfl rfl
    unfold sliceRange
    have e2 : (if (1 : Int) > 0 then (if ((HT.sIx n 0 lo : Nat) : Int) < ((HT.sIx n n hi : Nat) : Int) then (((HT.sIx n n hi : Nat) : Int) - ((HT.sIx n 0 lo : Nat) : Int) + 1 - 1) / 1 else 0) else (if ((HT.sIx n 0 lo : Nat) : Int) > ((HT.sIx n n hi : Nat) : Int) then (((HT.sIx n 0 lo : Nat) : Int) - ((HT.sIx n n hi : Nat) : Int) - 1 - 1) / (-1) else 0)).toNat = HT.sIx n n hi - HT.sIx n 0 lo := by
      rw [if_pos (by decide)]
      split <;> omega
    simp only [e2]
    refine List.map_congr_left fun k _ => ?_
    omega
  exact key _ _ e1 c2
theorem slice_cut (x : Str) (lo hi : Option Int) : (Txt.slice x lo hi).cps.toList = (x.cps.toList.drop (HT.sIx x.length 0 lo)).take (HT.sIx x.length x.length hi - HT.sIx x.length 0 lo) := by
  have hl : x.cps.toList.length = x.length := by simp [Str.length]
  unfold Txt.slice
  split
  · rename_i h
    rw [Bool.and_eq_true] at h
    have h := eq_of_beq h.2
    rw [slice_idx, List.length_map, List.length_range] at h
    have a := HT.sIx_le (n := x.length) (d := x.length) (Nat.le_refl _) hi
    have e1 : HT.sIx x.length 0 lo = 0 := by
      by_cases hx : x.length = 0
      · have := HT.sIx_le (n := x.length) (d := 0) (Nat.zero_le _) lo
        omega
      · omega
    rw [e1, List.drop_zero, List.take_of_length_le (by omega)]
  · rw [slice_idx, List.filterMap_map]
    show (List.filterMap (fun m => x.cps[HT.sIx x.length 0 lo + m]?) _) = _
    have e : (fun m => x.cps[HT.sIx x.length 0 lo + m]?) = fun m => x.cps.toList[HT.sIx x.length 0 lo + m]? := by
      funext m
      exact Array.getElem?_toList.symm
    rw [e]
    exact Iv.pickL _ _ _
def rSlS : V → Option Int → Option Int → Hp → VK → Prop := fun x lo hi H Q => ∃ y, x = .str y ∧ y.length ≤ sizeLine ∧ Q (.str (Txt.slice y lo hi)) H
theorem sl_str : SlR X rSlS := by
  intro pins s σ H x v vl vu lo hi sl Q I rx hs pl pu h
  obtain ⟨y, rfl, hz, q⟩ := h
  obtain ⟨t, rfl⟩ := rx
  refine ⟨"str", _, F.slot_str_getitem.lookup, typeIs_str _ _ _, ?_⟩
  have fin : ∀ (l u : Option (Int × Tok)), l.map (·.1) = lo → u.map (·.1) = hi → s.heap.IsSlice sl l u none → wpAny (model X.prog X.w) X.A (getItem (.str y t) (.ref sl)) (EP X pins σ Q) X.xe s := by
    rintro l u rfl rfl his
    refine wpAny_getItem_str_slice (l := l) (u := u) (st := none) his rfl ?_
    exact post_val_or_str ⟨Nat.le_trans (Txt.slice_le y _ _) hz, fun t' k => ⟨.str _, H, I.kept (t' := k) fun _ _ e => e, ⟨_, rfl⟩, q⟩⟩
  cases pl with
  | none => cases pu with
    | none => exact fin none none rfl rfl hs
    | int j tj => exact fin none (some (j, tj)) rfl rfl hs
  | int i ti => cases pu with
    | none => exact fin (some (i, ti)) none rfl rfl hs
    | int j tj => exact fin (some (i, ti)) (some (j, tj)) rfl rfl hs
end
end L2
namespace L2
open PySem PySem.Spec PyProof.Rows
section
variable {X : Cx}
theorem ints_get : ∀ {ns : List Int} {us : List Value}, Vals (ns.map V.int) us → ∀ (i : Nat) v, us[i]? = some v → ∃ t, v = .int (ns.getD i 0) t
  | [], us, r, i, v, e => by rw [List.map_nil] at r; cases r; simp at e
  | n :: ns, us, r, i, v, e => by
    rw [List.map_cons] at r
    cases r with
    | cons h t =>
      obtain ⟨k, rfl⟩ := h
      cases i with
      | zero => simp at e; exact ⟨k, e.symm⟩
      | succ i => simpa using ints_get t i v (by simpa using e)
theorem preSum_list : ∀ (ns : List Int), preSum (fun i => ns.getD i 0) ns.length = ns.sum := by
  have go : ∀ (k : Nat) (ns : List Int), preSum (fun i => ns.getD i 0) k = (ns.take k).sum := by
    intro k
    induction k with
    | zero => intro ns; simp [preSum]
    | succ k ih =>
      intro ns
      rw [show preSum (fun i => ns.getD i 0) (k + 1) = preSum (fun i => ns.getD i 0) k + ns.getD k 0 from rfl, ih, List.take_add_one, List.sum_append]
      cases e : ns[k]? with
      | none => simp [List.getD, e]
      | some v => simp [List.getD, e]
  intro ns
  rw [go, List.take_of_length_le (Nat.le_refl _)]
theorem call_sumL (hc : X.calm = true) : CallR X (.builtin "sum") (fun xs H Q => ∃ (a : Addr) (ns : List Int), xs = [.ref a] ∧ SqL X.K H a (ns.map V.int) ∧ Q (.int ns.sum) H) := by
  intro pins s σ H xs us Q I r h
  obtain ⟨a, ns, rfl, hq, q⟩ := h
  obtain ⟨u, rfl, rx⟩ := vals1 r
  cases rx
  obtain ⟨its, rr, pl, hz⟩ := I.list hq
  have hl := pl.isList
  have hlt : a < s.heap.objs.size := by obtain ⟨_, e, _⟩ := hl; exact Heap.lt_size e
  have hlen := rr.length
  rw [List.length_map] at hlen
  refine call_sum_walkG (wpAny_pyIter_list hl ?_)
  refine ⟨s.heap.objs.size, [s.heap.objs.size, a], [s.heap.objs.size], its.toArray.size, _, _, fun i => ns.getD i 0, rfl, Walks.list (A := X.A.in1) (I.ok.hd hc) _ a (Nat.ne_of_lt hlt) its.toArray,
    ⟨⟨_, Heap.get?_push_size _ rfl, rfl, rfl⟩, hl.push _⟩, fun b hb => ?_, fun i v hP => ints_get rr i v (by simpa using hP), fun h' tk t' hk => ?_⟩
  · have sz : (s.heap.push { cls := .type "list_iterator", data := .fields #[.ref a, .int 0 0] }).objs.size = s.heap.objs.size + 1 := Heap.size_push ..
    rcases List.mem_cons.mp hb with rfl | hb
    · show _ < (s.heap.push _).objs.size
      rw [Heap.size_push]; exact Nat.lt_succ_self _
    · obtain rfl := List.mem_singleton.mp hb
      show _ < (s.heap.push _).objs.size
      rw [Heap.size_push]; exact Nat.lt_succ_of_lt hlt
  · have e : preSum (fun i => ns.getD i 0) its.toArray.size = ns.sum := by
      rw [List.size_toArray, ← hlen]; exact preSum_list ns
    rw [e]
    exact ⟨.int _, H, I.kept (t' := tk) (LSm.kept_iter hk), ⟨_, rfl⟩, q⟩
theorem call_maxL (hc : X.calm = true) : CallR X (.builtin "max") (fun xs H Q => ∃ (a : Addr) (ns : List Int), xs = [.ref a] ∧ SqL X.K H a (ns.map V.int) ∧ 0 < ns.length ∧ ∀ m, m ∈ ns → (∀ b ∈ ns, b ≤ m) → Q (.int m) H) := by
  intro pins s σ H xs us Q I r h
  obtain ⟨a, ns, rfl, hq, hz0, q⟩ := h
  obtain ⟨u, rfl, rx⟩ := vals1 r
  cases rx
  obtain ⟨its, rr, pl, hz⟩ := I.list hq
  have hl := pl.isList
  have hi := intsAre_of rr
  obtain ⟨xs, e⟩ := hi.allInts.items
  have hns : ns = xs.toList.map (·.1) := by
    rw [← hi.numsOf, ← nums_intItems, ← e]
  have hsz : 0 < xs.size := by
    have h3 := hz0; rw [hns, List.length_map, Array.length_toList] at h3; exact h3
  rw [e] at hl
  refine max_intList (I.ok.hd hc) hl hsz fun v h' tk hv hk => ?_
  obtain ⟨t, rfl⟩ := intItems_at hv
  obtain ⟨h1, h2⟩ := argBest_gt (numAt xs) (xs.size - 1)
  refine ⟨.int _, H, I.kept hk, ⟨_, rfl⟩, q _ ?_ fun b hb => ?_⟩
  · rw [hns, numAt_eq]; exact getD_mem (by rw [List.length_map, Array.length_toList]; omega)
  · rw [hns] at hb
    obtain ⟨j, hj, rfl⟩ := mem_getD hb
    rw [List.length_map, Array.length_toList] at hj
    rw [← numAt_eq]; exact h2 j (by omega)
end
end L2
namespace L2
open PySem
def clOf (cells : List (Str × Addr)) : List (Str × NameKind) → List (Str × Addr) → List (Str × Addr)
  | [], cs => cs
  | (n, k) :: r, cs => clOf cells r (if (k == .free) = true then (match cells.lookup n with | some c => (n, c) :: cs | none => cs) else cs)
theorem closure_is {scope : Scope} {env : Env} (h : ∀ y ∈ scope.names, y.2 = .free → ∃ c, env.cells.lookup y.1 = some c) : closureFor scope env = pure (clOf env.cells scope.names []) := by
  have all : ∀ (l : List (Str × NameKind)) (cs : List (Str × Addr)), (∀ y ∈ l, y.2 = .free → ∃ c, env.cells.lookup y.1 = some c) →
      (forIn l cs fun (x : Str × NameKind) (r : List (Str × Addr)) => match x with | (name, kind) => if (kind == NameKind.free) = true then (do let y ← cellOf env name; pure (ForInStep.yield ((name, y) :: r))) else (pure (ForInStep.yield r) : Sem _)) = (pure (clOf env.cells l cs) : Sem _) := by
    intro l
    induction l with
    | nil => intro cs _; simp only [List.forIn_nil]; rfl
    | cons p r ih =>
      obtain ⟨n, k⟩ := p
      intro cs hy
      rw [List.forIn_cons]
      by_cases hk : (k == NameKind.free) = true
      · obtain ⟨c, hc⟩ := hy (n, k) List.mem_cons_self (by simpa using hk)
        have hc : env.cells.lookup n = some c := hc
        have e : cellOf env n = pure c := by unfold cellOf; rw [hc]
        simp only [hk, if_true, e, pure_bind]
        rw [ih _ fun y m => hy y (List.mem_cons_of_mem _ m)]
        simp only [clOf, hk, if_true, hc]
      · simp only [hk, Bool.false_eq_true, if_false, pure_bind]
        rw [ih _ fun y m => hy y (List.mem_cons_of_mem _ m)]
        simp only [clOf, hk, Bool.false_eq_true, if_false]
  have := all scope.names [] h
  unfold closureFor
  simp only [bind_pure_comp] at this ⊢
  rw [this]
  rfl
theorem clOf_look {cells : List (Str × Addr)} {x : Str} {c : Addr} : ∀ {l : List (Str × NameKind)} {cs : List (Str × Addr)}, (clOf cells l cs).lookup x = some c → cs.lookup x = some c ∨ cells.lookup x = some c
  | [], _, h => .inl h
  | (n, k) :: r, cs, h => by
    have h : (clOf cells r (if (k == NameKind.free) = true then (match cells.lookup n with | some c => (n, c) :: cs | none => cs) else cs)).lookup x = some c := h
    rcases clOf_look h with h1 | h1
    · clear h
      by_cases hk : (k == NameKind.free) = true
      · rw [if_pos hk] at h1
        cases hc : cells.lookup n with
        | none => rw [hc] at h1; exact .inl h1
        | some c' =>
          rw [hc] at h1
          have h2 : List.lookup x ((n, c') :: cs) = some c := h1
          clear h1
          rw [List.lookup_cons] at h2
          cases hx : x == n with
          | true =>
            rw [hx] at h2
            have e := eq_of_beq hx
            subst e
            exact .inr (hc.trans h2)
          | false => rw [hx] at h2; exact .inl h2
      · rw [if_neg hk] at h1
        exact .inl h1
    · exact .inr h1
theorem clOf_has {cells : List (Str × Addr)} {x : Str} {c : Addr} (hc : cells.lookup x = some c) : ∀ {l : List (Str × NameKind)} {cs : List (Str × Addr)}, ((x, NameKind.free) ∈ l ∨ cs.lookup x = some c) → (clOf cells l cs).lookup x = some c
  | [], _, h => by
    rcases h with h | h
    · cases h
    · exact h
  | (n, k) :: r, cs, h => by
    show (clOf cells r (if (k == NameKind.free) = true then (match cells.lookup n with | some c => (n, c) :: cs | none => cs) else cs)).lookup x = some c
    refine clOf_has (l := r) hc ?_
    rcases h with h | h
    · rcases List.mem_cons.mp h with e | h
      · cases e
        refine .inr ?_
        rw [if_pos (by decide), hc]
        simp [List.lookup_cons]
      · exact .inl h
    · refine .inr ?_
      split
      · split
        · rename_i c' h'
          rw [List.lookup_cons]
          split
          · rename_i e
            have e := eq_of_beq e
            subst e
            exact h'.symm.trans hc
          · exact h
        · exact h
      · exact h
def mang (x : Str) : Str := ⟨x.cps.push 33⟩
def hideN (xs N : List Str) : List Str := N.map fun y => if xs.contains y then mang y else y
theorem hide_len {xs N : List Str} : (hideN xs N).length = N.length := by unfold hideN; rw [List.length_map]
theorem hide_get {xs N : List Str} {i : Nat} {y : Str} (h : (hideN xs N)[i]? = some y) : ∃ z, N[i]? = some z ∧ ((z ∈ xs ∧ y = mang z) ∨ (z ∉ xs ∧ y = z)) := by
  unfold hideN at h
  rw [List.getElem?_map, Option.map_eq_some_iff] at h
  obtain ⟨z, h1, h2⟩ := h
  refine ⟨z, h1, ?_⟩
  by_cases c : xs.contains z = true
  · rw [if_pos c] at h2
    exact .inl ⟨List.contains_iff_mem.mp c, h2.symm⟩
  · rw [if_neg c] at h2
    exact .inr ⟨fun m => c (List.contains_iff_mem.mpr m), h2.symm⟩
def relN (outer : List (Str × NameKind)) (names : List (Str × NameKind)) : List (Str × NameKind) := names.map fun (n, k) => if (k == .free && outer.lookup n == some .cell) = true then (n, .cell) else (n, k)
theorem relabel_names {scope : Scope} {env : Env} (h : env.scope.kind = .function) : (relabel scope env).names = relN env.scope.names scope.names := by
  unfold relabel relN
  refine List.map_congr_left fun p _ => ?_
  obtain ⟨n, k⟩ := p
  simp only [h, beq_self_eq_true, Bool.and_true]
  rfl
theorem relN_look {outer : List (Str × NameKind)} {x : Str} : ∀ {l : List (Str × NameKind)}, (relN outer l).lookup x = (l.lookup x).map fun k => if (k == .free && outer.lookup x == some .cell) = true then .cell else k
  | [] => rfl
  | (n, k) :: r => by
    have ih := @relN_look outer x r
    show List.lookup x ((if (k == NameKind.free && outer.lookup n == some .cell) = true then (n, NameKind.cell) else (n, k)) :: relN outer r) = _
    rw [List.lookup_cons (as := r)]
    cases hx : x == n with
    | true =>
      have e := eq_of_beq hx
      subst e
      simp only [List.lookup_cons_self, Option.map_some]
      by_cases z : (k == NameKind.free && outer.lookup x == some .cell) = true
      · rw [if_pos z, if_pos z, List.lookup_cons_self]
      · rw [if_neg z, if_neg z, List.lookup_cons_self]
    | false =>
      split
      · simp [List.lookup_cons, hx, ih]
      · simp [List.lookup_cons, hx, ih]
theorem lookup_mem {κ β : Type} [BEq κ] [LawfulBEq κ] {l : List (κ × β)} {k : κ} {b : β} (h : l.lookup k = some b) : (k, b) ∈ l := by
  induction l with
  | nil => simp at h
  | cons p r ih =>
    obtain ⟨a, c⟩ := p
    rw [List.lookup_cons] at h
    split at h
    · rename_i e
      have e := eq_of_beq e
      subst e
      cases h
      exact List.mem_cons_self
    · exact List.mem_cons_of_mem _ (ih h)
section
variable {prog : Program} {w : World} {A : Around} {R : Result → Shared → Prop} {s : Shared}
theorem wp_tests {E : Value → Shared → Prop} {env : Env} {tl : Option Expr} {Q : Bool → Shared → Prop} (h : match tl with | none => Q true s | some c => wpAny (model prog w) A (isTrue c env (eval c env)) Q E s) :
    wpAny (model prog w) A (forIn tl.toList true fun c r => if r = true then do let ok ← isTrue c env (eval c env); pure (ForInStep.yield ok) else pure (ForInStep.yield r)) Q E s := by
  cases tl with
  | none => exact wpAny_tests_nil h
  | some c => exact wpAny_tests_one h
theorem compLoop_go {elt target iter : Expr} {tl : Option Expr} {scope : Scope} {pos : Pos} {it acc : Value} {env : Env} (I : Nat → Shared → Prop)
    (turn : ∀ n s, I n s → wpAny (model prog w) A (pyNext it) (fun r s₁ => match r with
      | none => R (.ok .next) s₁
      | some v => wpAny (model prog w) A (letOwnedTupleGo target it v) (fun _ s₁' => wpAny (model prog w) A (assign target env v) (fun _ s₂ =>
          wpAny (model prog w) A (forIn tl.toList true fun c r => if r = true then do let ok ← isTrue c env (eval c env); pure (ForInStep.yield ok) else pure (ForInStep.yield r)) (fun ok s₃ => if ok = true then
            wpAny (model prog w) A (eval elt env) (fun x s₄ =>
              wpAny (model prog w) A (call (.builtin "list.append") [acc, x]) (fun _ s₅ => ∃ m, m < n ∧ I m s₅) (notedBy (model prog w) A env fun e s' => R (.error e) s') s₄) (notedBy (model prog w) A env fun e s' => R (.error e) s') s₃
            else ∃ m, m < n ∧ I m s₃) (notedBy (model prog w) A env fun e s' => R (.error e) s') s₂)
                (notedBy (model prog w) A env fun e s' => R (.error e) s') s₁') (notedBy (model prog w) A env fun e s' => R (.error e) s') s₁) (notedBy (model prog w) A env fun e s' => R (.error e) s') s)
    (n : Nat) (h : I n s) : codeAny (model prog w) A (.compLoop (.ListComp elt [⟨target, iter, tl.toList, 0⟩] scope pos) 0 it acc env) R s := by
  refine codeAny_loop rfl I (fun n s hI => ?_) n h
  show wpAny _ A ((compTurn (.ListComp elt [⟨target, iter, tl.toList, 0⟩] scope pos) 0 it acc env).onRaise (fun x => do noteFrame x env; theTreesLotGoes x)) _ _ s
  refine wpAny_noted ?_
  rw [compTurn_list]
  refine wpAny_bind (wpAny_standAt (wpAny_bind (wpAny_mono (turn n s hI) (fun r s₁ h₁ => ?_) fun _ _ h' => h')))
  cases r with
  | none => exact wpAny_pure h₁
  | some v =>
    refine wpAny_bind (wpAny_mono h₁ (fun _ s₁' h₁' => ?_) fun _ _ h' => h')
    refine wpAny_bind (wpAny_mono h₁' (fun _ s₂ h₂ => wpAny_bind (wpAny_mono h₂ (fun ok s₃ h₃ => ?_) fun _ _ h' => h')) fun _ _ h' => h')
    cases ok with
    | true =>
      rw [if_pos rfl] at h₃
      exact wpAny_bind (wpAny_bind (wpAny_mono h₃ (fun x s₄ h₄ => wpAny_bind (wpAny_mono h₄ (fun _ s₅ h₅ => wpAny_pure (wpAny_pure ⟨rfl, h₅⟩)) fun _ _ h' => h')) fun _ _ h' => h'))
    | false =>
      rw [if_neg Bool.false_ne_true] at h₃
      exact wpAny_bind (wpAny_pure (wpAny_pure ⟨rfl, h₃⟩))
end
end L2
namespace Iv
open PySem
inductive U where
  | non | bl (b : Bool) | int (i : Int) (m : Nat) | str (x : List Nat) | ref (n : Nat) | con (k : Nat) | scr
  deriving DecidableEq, Repr, Inhabited
inductive O where
  | lst (xs : List U) | tup (xs : List U) | ins (C : Nat) (fs : List (Nat × U)) | dic (kvs : List (U × U))
  deriving Repr, Inhabited
abbrev Hs := List O
abbrev Rho := List (Option U)
inductive Bi where
  | len | int | str | tuple | list | sum | any | all | max | min | abs
  deriving DecidableEq, Repr, Inhabited
inductive Bm where
  | append | pop | clear | reverse | extend | setdef | join | split | find | insert | index
  deriving DecidableEq, Repr, Inhabited
inductive Ty where
  | non | bool | int | str | list | tuple | dict | cls (c : Nat)
  deriving DecidableEq, Repr, Inhabited
mutual
inductive E where
  | c (u : U) | var (i : Nat) | con (k : Nat)
  | op (o : Operator) (a b : E) | neg (a : E) | cmp (o : CmpOp) (a b : E)
  | and (a b : E) | or (a b : E) | not (a : E) | ife (t a b : E)
  | tup (es : List E) | lst (es : List E) | dis (kvs : List (U × U)) (b : E)
  | ix (a b : E) | tab (k : Nat) (b : E) | sl (a : E) (lo hi : Option E) | rev (a : E) | tupR (es : List E)
  | fld (a : E) (f : Nat)
  | call (f : Nat) (es : List E) | meth (m : Nat) (o : E) (es : List E) | make (k : Nat) (es : List E)
  | bi (b : Bi) (es : List E) | isi (a : E) (t : Ty) | bm (b : Bm) (o : E) (es : List E)
  | comp (s : Src) (b : Bool) (t : Option E) (el : E) | dnew | chain (o o' : CmpOp) (a b c : E)
inductive Src where
  | seq (e : E) | rng (a : E) | rng2 (a b : E) | rngA (es : List E) | zip (a b : E) | revd (e : E) | enm (e : E)
inductive Tg where
  | name (i : Nat) | pair (i j : Nat)
end
inductive S where
  | pass | expr (e : E) | set (i : Nat) (e : E) | fld (o : E) (f : Nat) (e : E) | ret (e : E) | retN
  | ite (t : E) (a b : List S) | loop (t : Tg) (s : Src) (body : List S) | loopC (i : Nat) (e : E) (body : List S) | while (t : E) (body : List S)
  | brk | cont
  | aug (i : Nat) (o : Operator) (e : E) | bad
  | put (o i e : E) | unp (i j : Nat) (e : E) | par (i j : Nat) (a b : E)
inductive Fl where
  | next | brk | cont | ret (u : U)
structure Fn where
  name : Str
  qual : Str
  st : Stmt
  ps : List Str
  N : List Str
  np : Nat
  nN : Nat
  lc : Bool
  body : List S
structure Cl where
  name : Str
  init : Option Nat
  meths : List (Nat × Nat)
  subs : List Nat
inductive Co where
  | tup (xs : List U) | lst (xs : List U) | tab (kvs : List (U × U))
  deriving Repr, Inhabited
structure Df where
  ps : List Str
  np : Nat
  last : Str
  ds : List U
structure Tbl where
  fns : List Fn
  cls : List Cl
  cons : List Co
  fns' : List Str
  mns : List Str
  scr : List U
  isi : List ((Ty × Ty) × Bool)
  dfl : List (Nat × Df)
def bd {α β : Type} (o : Option (α × Hs)) (f : α → Hs → Option β) : Option β := match o with
  | none => none
  | some (a, h) => f a h
theorem bd_some {α β : Type} {o : Option (α × Hs)} {f : α → Hs → Option β} {r : β} (h : bd o f = some r) : ∃ a h', o = some (a, h') ∧ f a h' = some r := by
  unfold bd at h
  cases o with
  | none => cases h
  | some p => exact ⟨p.1, p.2, rfl, h⟩
def gz : Nat → Nat → Nat
  | 0, n => n
  | m + 1, n => Nat.gcd (m + 1) n
def small64 (i : Int) : Bool := decide (-(2 ^ 64) < i) && decide (i < 2 ^ 64)
def bigOk (i : Int) : Bool := decide (i.natAbs < 2 ^ 4096)
def subI : U → U → Option U
  | .int i m, .int j n => some (.int (i - j) (gz m n))
  | _, _ => none
def mulI : U → U → Option U
  | .int i 0, .int j 0 => if small64 i || small64 j || (bigOk i && bigOk j) then some (.int (i * j) 0) else none
  | .int i (m + 1), .int j 0 => if small64 j then some (.int (i * j) ((m + 1) * j.natAbs)) else none
  | _, _ => none
def divI : U → U → Option U
  | .int i 0, .int j 0 => if 0 < j && decide (j < 1606938044258990275541962092341162602522202993782792835301376) then some (.int (i / j) 0) else none
  | .int i (m + 1), .int j 0 => if 0 < j && decide (j < 1606938044258990275541962092341162602522202993782792835301376) && decide ((m + 1) % j.toNat = 0) then some (.int (i / j) ((m + 1) / j.toNat)) else none
  | _, _ => none
def modI : U → U → Option U
  | .int i 0, .int j 0 => if 0 < j then some (.int (i % j) 0) else none
  | .int i (m + 1), .int j 0 => if 0 < j && decide ((m + 1) % j.toNat = 0) then some (.int (i % j) 0) else none
  | _, _ => none
def powI : U → U → Option U
  | .int i 0, .int j 0 => if 0 ≤ j && decide (j ≤ 1000) && small64 i then some (.int (i ^ j.toNat) 0) else none
  | _, _ => none
def catO (a b : Nat) (x y : O) (hs : Hs) : Option (U × Hs) := match x, y with
  | .lst xs, .lst ys => if xs.length + ys.length ≤ 1000000 then some (.ref hs.length, hs ++ [.lst (xs ++ ys)]) else none
  | .tup xs, .tup ys => if xs.isEmpty then some (.ref b, hs) else if xs.length + ys.length ≤ 1000000 then (if ys.isEmpty then some (.ref a, hs) else some (.ref hs.length, hs ++ [.tup (xs ++ ys)])) else none
  | _, _ => none
def addI (u w : U) (hs : Hs) : Option (U × Hs) := match u, w with
  | .int i m, .int j n => some (.int (i + j) (gz m n), hs)
  | .str x, .str y => if x.length + y.length ≤ 1000000 then some (.str (x ++ y), hs) else none
  | .ref a, .ref b => match hs[a]?, hs[b]? with
    | some x, some y => catO a b x y hs
    | _, _ => none
  | _, _ => none
def repI (a : Nat) (w : U) (hs : Hs) : Option (U × Hs) := match hs[a]?, w with
  | some (.lst xs), .int k 0 => if -9223372036854775808 ≤ k ∧ k < 9223372036854775808 ∧ xs.length * k.toNat ≤ 1000000 then some (.ref hs.length, hs ++ [.lst (List.replicate k.toNat xs).flatten]) else none
  | _, _ => none
def opU (o : Operator) (u w : U) (hs : Hs) : Option (U × Hs) := match o with
  | .Add => addI u w hs
  | .Sub => (subI u w).map fun r => (r, hs)
  | .Mult => (match u with
    | .ref a => repI a w hs
    | u => (mulI u w).map fun r => (r, hs))
  | .FloorDiv => (divI u w).map fun r => (r, hs)
  | .Mod => (modI u w).map fun r => (r, hs)
  | .Pow => (powI u w).map fun r => (r, hs)
  | _ => none
def eqS : U → U → Option Bool
  | .int i 0, .int j 0 => some (decide (i = j))
  | .str x, .str y => some (decide (x = y))
  | .bl a, .bl b => some (decide (a = b))
  | .non, .non => some true
  | .non, .int _ _ => some false | .int _ _, .non => some false | .non, .bl _ => some false | .bl _, .non => some false | .non, .str _ => some false | .str _, .non => some false
  | .int _ _, .str _ => some false | .str _, .int _ _ => some false | .bl _, .str _ => some false | .str _, .bl _ => some false
  | _, _ => none
def seqU (T : Tbl) (u : U) (hs : Hs) : Option (List U) := match u with
  | .ref n => match hs[n]? with
    | some (.lst xs) => some xs
    | some (.tup xs) => some xs
    | _ => none
  | .con k => match T.cons[k]? with
    | some (.lst xs) => some xs
    | some (.tup xs) => some xs
    | _ => none
  | .scr => some T.scr
  | _ => none
def flatU : U → Bool
  | .int _ 0 => true
  | .str _ => true
  | .non => true
  | _ => false
def eqF : U → U → Bool
  | .int i _, .int j _ => decide (i = j)
  | .str x, .str y => decide (x = y)
  | .non, .non => true
  | _, _ => false
def inU (x : U) (ys : List U) : Option Bool := if flatU x && ys.all flatU then some (ys.any fun y => eqF y x) else none
def lstU (T : Tbl) (u : U) (hs : Hs) : Option (List U) := match u with
  | .ref n => match hs[n]? with
    | some (.lst xs) => some xs
    | _ => none
  | .con k => match T.cons[k]? with
    | some (.lst xs) => some xs
    | _ => none
  | .scr => some T.scr
  | _ => none
def tupU (T : Tbl) (u : U) (hs : Hs) : Option (List U) := match u with
  | .ref n => match hs[n]? with
    | some (.tup xs) => some xs
    | _ => none
  | .con k => match T.cons[k]? with
    | some (.tup xs) => some xs
    | _ => none
  | _ => none
def okW (T : Tbl) : Nat → U → Hs → Bool
  | 0, _, _ => false
  | n + 1, u, hs => match lstU T u hs with
    | some xs => xs.all fun x => okW T n x hs
    | none => match tupU T u hs with
      | some xs => xs.all fun x => okW T n x hs
      | none => match u with
        | .non => true
        | .bl _ => true
        | .int _ m => m == 0
        | .str x => x.all fun c => decide (c < 128)
        | _ => false
def eqB : U → U → Bool
  | .non, .non => true
  | .bl a, .bl b => a == b
  | .bl a, .int j _ => (if a then 1 else 0) == j
  | .int i _, .bl b => i == (if b then 1 else 0)
  | .int i _, .int j _ => i == j
  | .str x, .str y => x == y
  | _, _ => false
def eqW (T : Tbl) : Nat → U → U → Hs → Bool
  | 0, _, _, _ => false
  | n + 1, u, w, hs => match lstU T u hs with
    | some xs => (match lstU T w hs with
      | some ys => (xs.length == ys.length) && (xs.zip ys).all fun p => eqW T n p.1 p.2 hs
      | none => false)
    | none => match tupU T u hs with
      | some xs => (match lstU T w hs with
        | some _ => false
        | none => match tupU T w hs with
          | some ys => (xs.length == ys.length) && (xs.zip ys).all fun p => eqW T n p.1 p.2 hs
          | none => false)
      | none => (match lstU T w hs with
        | some _ => false
        | none => match tupU T w hs with
          | some _ => false
          | none => eqB u w)
def lenNe (T : Tbl) (u w : U) (hs : Hs) : Bool := match lstU T u hs, lstU T w hs with
  | some xs, some ys => decide (xs.length ≠ ys.length)
  | _, _ => false
def sameR (T : Tbl) (u w : U) (hs : Hs) : Bool := match lstU T u hs, lstU T w hs with
  | some xs, some ys => decide (xs = ys) && xs.all fun x => match x with | .ref _ => true | _ => false
  | _, _ => false
def eqA (T : Tbl) (u w : U) (hs : Hs) : Option Bool := match eqS u w with
  | some b => some b
  | none => if lenNe T u w hs = true then some false else if sameR T u w hs = true then some true else if okW T 20 u hs && okW T 20 w hs then some (eqW T 20 u w hs) else none
def lookU (kvs : List (U × U)) (k : U) : Option U := match kvs with
  | [] => none
  | (x, v) :: r => if x = k then some v else lookU r k
def keyU : U → Bool
  | .int _ 0 => true
  | .str _ => true
  | _ => false
def inS (x y : List Nat) : Bool := !(Builtin.Str.occurrences ⟨y.toArray⟩ ⟨x.toArray⟩ 0 (Str.length ⟨y.toArray⟩) 1).isEmpty
def tbIn (T : Tbl) (w u : U) : Option Bool := match w with
  | .con k => (match T.cons[k]? with
    | some (.tab kvs) => if keyU u = true then some (lookU kvs u).isSome else none
    | _ => none)
  | .str y => (match u with
    | .str x => some (inS x y)
    | _ => none)
  | _ => none
def cmpU (T : Tbl) (o : CmpOp) (u w : U) (hs : Hs) : Option Bool := match o with
  | .Eq => eqA T u w hs
  | .NotEq => (eqA T u w hs).map (!·)
  | .Lt => match u, w with | .int i 0, .int j 0 => some (decide (i < j)) | _, _ => none
  | .LtE => match u, w with | .int i 0, .int j 0 => some (decide (i ≤ j)) | _, _ => none
  | .Gt => match u, w with | .int i 0, .int j 0 => some (decide (j < i)) | _, _ => none
  | .GtE => match u, w with | .int i 0, .int j 0 => some (decide (j ≤ i)) | _, _ => none
  | .In => match seqU T w hs with | some xs => inU u xs | none => tbIn T w u
  | .NotIn => match seqU T w hs with | some xs => (inU u xs).map (!·) | none => (tbIn T w u).map (!·)
  | .Is => match w with | .non => some (decide (u = .non)) | _ => none
  | .IsNot => match w with | .non => some (!decide (u = .non)) | _ => none
def truU (T : Tbl) (u : U) (hs : Hs) : Option Bool := match u with
  | .non => some false
  | .bl b => some b
  | .int i 0 => some (decide (i ≠ 0))
  | .str x => if x.length ≤ 1000000 then some (!x.isEmpty) else none
  | u => (seqU T u hs).map fun xs => !xs.isEmpty
def ixU (n : Nat) (i : Int) : Option Nat := if 0 ≤ i then (if i < n then some i.toNat else none) else if -(n : Int) ≤ i then some (i + n).toNat else none
def atU {α : Type} (xs : List α) (i : Int) : Option α := match ixU xs.length i with
  | some j => xs[j]?
  | none => none
def subU (T : Tbl) (u w : U) (hs : Hs) : Option U := match u, w with
  | .str x, .int i 0 => if x.length ≤ 1000000 then (atU x i).map fun c => .str [c] else none
  | .ref n, w => match hs[n]?, w with
    | some (.lst xs), .int i 0 => atU xs i
    | some (.tup xs), .int i 0 => atU xs i
    | _, _ => none
  | u, .int i 0 => match seqU T u hs with
    | some xs => atU xs i
    | none => none
  | _, _ => none
def tabU (T : Tbl) (k : Nat) (w : U) : Option U := match T.cons[k]? with
  | some (.tab kvs) => if keyU w then lookU kvs w else none
  | _ => none
def cutIx (n d : Nat) : Option Int → Nat
  | none => d
  | some v => if v < 0 then (v + (n : Int)).toNat else min v.toNat n
def cutU {α : Type} (xs : List α) (lo hi : Option Int) : List α := (xs.drop (cutIx xs.length 0 lo)).take (cutIx xs.length xs.length hi - cutIx xs.length 0 lo)
def slU (T : Tbl) (u : U) (lo hi : Option Int) (hs : Hs) : Option (U × Hs) := match u with
  | .scr => some (.ref hs.length, hs ++ [.lst (cutU T.scr lo hi)])
  | .ref n => match hs[n]? with
    | some (.lst xs) => some (.ref hs.length, hs ++ [.lst (cutU xs lo hi)])
    | some (.tup xs) => if cutIx xs.length 0 lo = 0 ∧ cutIx xs.length xs.length hi = xs.length then none else some (.ref hs.length, hs ++ [.tup (cutU xs lo hi)])
    | _ => none
  | .str x => if x.length ≤ 1000000 then some (.str (cutU x lo hi), hs) else none
  | _ => none
def digs (n : Nat) : List Nat := (Nat.toDigits 10 n).map Char.toNat
def dgOk (x : List Nat) : Bool := x.all (fun c => decide (48 ≤ c) && decide (c ≤ 57)) && !x.isEmpty && decide (x.length ≤ 640)
def dgVal (x : List Nat) : Nat := x.foldl (fun acc c => acc * 10 + (c - 48)) 0
def intsU : List U → Option (List Int)
  | [] => some []
  | .int i 0 :: r => (intsU r).map (i :: ·)
  | _ => none
def boolsU : List U → Option (List Bool)
  | [] => some []
  | .bl b :: r => (boolsU r).map (b :: ·)
  | _ => none
def maxI : List Int → Int → Int
  | [], z => z
  | a :: r, z => maxI r (if a > z then a else z)
def maxU : List Int → Option Int
  | [] => none
  | z :: r => some (maxI r z)
theorem maxI_ge : ∀ (r : List Int) (z : Int), z ≤ maxI r z ∧ ∀ a ∈ r, a ≤ maxI r z
  | [], z => ⟨Int.le_refl _, fun a h => by cases h⟩
  | a :: r, z => by
    have ih := maxI_ge r (if a > z then a else z)
    unfold maxI
    refine ⟨?_, fun b hb => ?_⟩
    · have := ih.1
      split at this <;> rename_i c <;> simp only [c, if_true, if_false] <;> omega
    · rcases List.mem_cons.mp hb with rfl | hb
      · have := ih.1
        split at this <;> rename_i c <;> simp only [c, if_true, if_false] <;> omega
      · exact ih.2 b hb
theorem maxI_mem : ∀ (r : List Int) (z : Int), maxI r z = z ∨ maxI r z ∈ r
  | [], z => .inl rfl
  | a :: r, z => by
    have ih := maxI_mem r (if a > z then a else z)
    unfold maxI
    rcases ih with e | m
    · rw [e]
      split
      · exact .inr List.mem_cons_self
      · exact .inl rfl
    · exact .inr (List.mem_cons_of_mem _ m)
theorem maxU_is {ns : List Int} {m M : Int} (h : maxU ns = some m) (h1 : M ∈ ns) (h2 : ∀ a ∈ ns, a ≤ M) : M = m := by
  cases ns with
  | nil => cases h
  | cons z r =>
    simp only [maxU, Option.some.injEq] at h
    subst h
    have g := maxI_ge r z
    have a : M ≤ maxI r z := by
      rcases List.mem_cons.mp h1 with rfl | hb
      · exact g.1
      · exact g.2 M hb
    have b : maxI r z ≤ M := by
      rcases maxI_mem r z with e | e
      · rw [e]; exact h2 z List.mem_cons_self
      · exact h2 _ (List.mem_cons_of_mem _ e)
    omega
def biL (T : Tbl) (b : Bi) (us : List U) (hs : Hs) : Option (U × Hs) := match b, us with
  | .sum, [u] => (lstU T u hs).bind fun xs => (intsU xs).map fun ns => (.int ns.sum 0, hs)
  | .any, [u] => (lstU T u hs).bind fun xs => (boolsU xs).map fun bs => (.bl (bs.any id), hs)
  | .all, [u] => (lstU T u hs).bind fun xs => (boolsU xs).map fun bs => (.bl (bs.all id), hs)
  | .max, [u] => (lstU T u hs).bind fun xs => (intsU xs).bind fun ns => (maxU ns).map fun m => (.int m 0, hs)
  | .max, [.int i 0, .int j 0] => some (.int (if j > i then j else i) 0, hs)
  | .min, [.int i 0, .int j 0] => some (.int (if j < i then j else i) 0, hs)
  | .abs, [.int i 0] => some (.int (if i < 0 then -i else i) 0, hs)
  | _, _ => none
def biU (T : Tbl) (b : Bi) (us : List U) (hs : Hs) : Option (U × Hs) := match b, us with
  | .len, [.str x] => if x.length ≤ 1000000 then some (.int x.length 0, hs) else none
  | .len, [u] => (seqU T u hs).map fun xs => (.int xs.length 0, hs)
  | .int, [.int i m] => some (.int i m, hs)
  | .int, [.bl b] => some (.int (if b then 1 else 0) 0, hs)
  | .int, [.str x] => if dgOk x then some (.int (dgVal x : Nat) 0, hs) else none
  | .str, [.int i 0] => if 0 ≤ i && decide (i.natAbs.log2 < 1920) then some (.str (digs i.toNat), hs) else none
  | .tuple, [.ref n] => match hs[n]? with
    | some (.lst xs) => some (.ref hs.length, hs ++ [.tup xs])
    | some (.tup _) => some (.ref n, hs)
    | _ => none
  | .list, [u] => (seqU T u hs).map fun xs => (.ref hs.length, hs ++ [.lst xs])
  | .len, _ => none
  | .int, _ => none
  | .str, _ => none
  | .tuple, _ => none
  | .list, _ => none
  | b, us => biL T b us hs
def kindU (u : U) (hs : Hs) : Option Ty := match u with
  | .non => some .non
  | .bl _ => some .bool
  | .int _ _ => some .int
  | .str _ => some .str
  | .ref n => match hs[n]? with
    | some (.lst _) => some .list
    | some (.tup _) => some .tuple
    | some (.dic _) => none
    | some (.ins c _) => some (.cls c)
    | none => none
  | _ => none
def isiB (k t : Ty) : Option Bool := match k, t with
  | .cls _, _ => none
  | _, .cls _ => none
  | .bool, .int => some true
  | k, t => some (decide (k = t))
def isiU (T : Tbl) (t : Ty) (u : U) (hs : Hs) : Option Bool := match kindU u hs with
  | none => none
  | some k => match isiB k t with
    | some b => some b
    | none => T.isi.lookup (k, t)
def strsU : List U → Option (List (List Nat))
  | [] => some []
  | .str x :: r => (strsU r).map (x :: ·)
  | _ => none
def findU (x y : List Nat) : Int := match Builtin.Str.occurrences ⟨x.toArray⟩ ⟨y.toArray⟩ 0 x.length 1 with
  | i :: _ => (i : Int)
  | [] => -1
def bmL (b : Bm) (n : Nat) (xs : List U) (us : List U) (hs : Hs) : Option (U × Hs) := match b, us with
  | .append, [u] => if xs.length < 1000000 then some (.non, hs.set n (.lst (xs ++ [u]))) else none
  | .pop, [] => match xs[xs.length - 1]? with
    | some y => some (y, hs.set n (.lst xs.dropLast))
    | none => none
  | .clear, [] => some (.non, hs.set n (.lst []))
  | .reverse, [] => some (.non, hs.set n (.lst xs.reverse))
  | .extend, [.ref m] => (match hs[m]? with
    | some (.lst ys) => if xs.length + ys.length ≤ 1000000 then some (.non, hs.set n (.lst (xs ++ ys))) else none
    | _ => none)
  | .insert, [.int i 0, u] => if i = 0 ∧ xs.length < 1000000 then some (.non, hs.set n (.lst (u :: xs))) else none
  | _, _ => none
def bmS (T : Tbl) (b : Bm) (x : List Nat) (us : List U) (hs : Hs) : Option (U × Hs) := match b, us with
  | .join, [w] => match lstU T w hs with
    | some ys => match strsU ys with
      | some ts => if ts.length * x.length + (ts.map List.length).sum ≤ 1000000 then some (.str (joinU x ts), hs) else none
      | none => none
    | none => none
  | .split, [.str [c]] => if x.length ≤ 1000000 then some (.ref hs.length, hs ++ [.lst ((splitU c x).map .str)]) else none
  | .find, [.str y] => some (.int (findU x y) 0, hs)
  | .index, [.str y] => (match Builtin.Str.occurrences ⟨x.toArray⟩ ⟨y.toArray⟩ 0 (Str.length ⟨x.toArray⟩) 1 with
    | i :: _ => some (.int (i : Int) 0, hs)
    | [] => none)
  | _, _ => none
def bmD (b : Bm) (n : Nat) (kvs : List (U × U)) (us : List U) (hs : Hs) : Option (U × Hs) := match b, us with
  | .setdef, [k, v] => if keyU k = true ∧ kvs.length < 1000000 then (match lookU kvs k with
    | some x => some (x, hs)
    | none => some (v, hs.set n (.dic (kvs ++ [(k, v)])))) else none
  | _, _ => none
def bmU (T : Tbl) (b : Bm) (o : U) (us : List U) (hs : Hs) : Option (U × Hs) := match o with
  | .ref n => match hs[n]? with
    | some (.lst xs) => bmL b n xs us hs
    | some (.dic kvs) => bmD b n kvs us hs
    | _ => none
  | .str x => bmS T b x us hs
  | _ => none
def bL : Bm → Bool
  | .setdef => false | .join => false | .split => false | .find => false | .index => false | _ => true
def bS : Bm → Bool
  | .join => true | .split => true | .find => true | .index => true | _ => false
def bD : Bm → Bool
  | .setdef => true | _ => false
def rcvU (b : Bm) (u : U) (hs : Hs) : Bool := match u with
  | .ref n => match hs[n]? with
    | some (.lst _) => bL b
    | some (.dic _) => bD b
    | _ => false
  | .str _ => bS b
  | _ => false
def putU (f : Nat) (u : U) : List (Nat × U) → List (Nat × U)
  | [] => [(f, u)]
  | (g, x) :: r => if g = f then (g, u) :: r else (g, x) :: putU f u r
inductive Wk where
  | seqL (u : U) | seqT (u : U) | rng (lo : Int) (n : Nat) | zipB (b c : Bool) (x y : U) | revL (u : U) (n : Nat) | rngC (lo c : Int) (n : Nat) | enmL (u : U)
inductive Im where
  | one (u : U) | two (u w : U)
def sqU (T : Tbl) (b : Bool) (u : U) (hs : Hs) : Option (List U) := if b then lstU T u hs else tupU T u hs
def two (xs ys : List U) (i : Nat) : Option Im := match xs[i]?, ys[i]? with
  | some x, some y => some (.two x y)
  | _, _ => none
def itm (T : Tbl) (k : Wk) (i : Nat) (hs : Hs) : Option (Option Im) := match k with
  | .seqL u => (lstU T u hs).map fun xs => (xs[i]?).map .one
  | .seqT u => (tupU T u hs).map fun xs => (xs[i]?).map .one
  | .rng lo n => some (if i < n then some (.one (.int (lo + i) 0)) else none)
  | .zipB b c x y => match sqU T b x hs, sqU T c y hs with
    | some xs, some ys => some (two xs ys i)
    | _, _ => none
  | .revL u n => match lstU T u hs with
    | some xs => if i < n then (match xs[n - 1 - i]? with | some x => some (some (.one x)) | none => none) else if i = n then some none else none
    | none => none
  | .rngC lo c n => some (if i < n then some (.one (.int (lo + i * c) 0)) else none)
  | .enmL u => (lstU T u hs).map fun xs => (xs[i]?).map fun x => .two (.int i 0) x
def rngCU (a b c : Int) : Nat := if a < b then ((b - a - 1) / c + 1).toNat else 0
def turns (T : Tbl) (k : Wk) (hs : Hs) : Nat := match k with
  | .seqL u => ((lstU T u hs).getD []).length + 1
  | .seqT u => ((tupU T u hs).getD []).length + 1
  | .rng _ n => n + 1
  | .zipB b _ x _ => ((sqU T b x hs).getD []).length + 1
  | .revL _ n => n + 1
  | .rngC _ _ n => n + 1
  | .enmL u => ((lstU T u hs).getD []).length + 1
def tgt (t : Tg) (x : Im) (ρ : Rho) (hs : Hs) : Option Rho := match t, x with
  | .name i, .one u => some (ρ.set i (some u))
  | .pair i j, .two u w => some ((ρ.set i (some u)).set j (some w))
  | .pair i j, .one (.ref n) => match hs[n]? with
    | some (.tup [u, w]) => some ((ρ.set i (some u)).set j (some w))
    | _ => none
  | _, _ => none
abbrev Cf := Nat → List U → Hs → Option (U × Hs)
abbrev Ev := E → Rho → Hs → Option (U × Hs)
def evs (f : Ev) (ρ : Rho) : List E → Hs → Option (List U × Hs)
  | [], hs => some ([], hs)
  | e :: es, hs => bd (f e ρ hs) fun u h1 => bd (evs f ρ es h1) fun us h2 => some (u :: us, h2)
def evO (f : Ev) (ρ : Rho) : Option E → Hs → Option (Option Int × Hs)
  | none, hs => some (none, hs)
  | some e, hs => bd (f e ρ hs) fun u h1 => match u with | .int i 0 => some (some i, h1) | _ => none
def wkS (T : Tbl) (u : U) (hs : Hs) : Option Wk := match lstU T u hs with
  | some _ => some (.seqL u)
  | none => match tupU T u hs with
    | some _ => some (.seqT u)
    | none => none
def wkZ (T : Tbl) (u w : U) (hs : Hs) : Option Wk :=
  let b := (lstU T u hs).isSome
  let c := (lstU T w hs).isSome
  if (sqU T b u hs).isSome && (sqU T c w hs).isSome then some (.zipB b c u w) else none
def srcU (T : Tbl) (f : Ev) (ρ : Rho) : Src → Hs → Option (Wk × Hs)
  | .seq e, hs => bd (f e ρ hs) fun u h1 => (wkS T u h1).map fun k => (k, h1)
  | .rng a, hs => bd (f a ρ hs) fun u h1 => match u with | .int i 0 => if small64 (i * 4) then some (.rng 0 i.toNat, h1) else none | _ => none
  | .rng2 a b, hs => bd (f a ρ hs) fun u h1 => bd (f b ρ h1) fun w h2 => match u, w with | .int i 0, .int j 0 => if small64 (i * 4) && small64 (j * 4) then some (.rng i (j - i).toNat, h2) else none | _, _ => none
  | .rngA es, hs => bd (evs f ρ es hs) fun us h1 => match us with
    | [.int i 0, .int j 0, .int c 0] => if small64 (i * 16) && small64 (j * 16) && decide (0 < c) && decide (c < 1073741824) then some (.rngC i c (rngCU i j c), h1) else none
    | _ => none
  | .zip a b, hs => bd (f a ρ hs) fun u h1 => bd (f b ρ h1) fun w h2 => (wkZ T u w h2).map fun k => (k, h2)
  | .revd e, hs => bd (f e ρ hs) fun u h1 => match lstU T u h1 with | some xs => some (.revL u xs.length, h1) | none => none
  | .enm e, hs => bd (f e ρ hs) fun u h1 => match lstU T u h1 with | some _ => some (.enmL u, h1) | none => none
def makeU (T : Tbl) (cf : Cf) (c : Nat) (us : List U) (hs : Hs) : Option (U × Hs) := match T.cls[c]? with
  | none => none
  | some C => match C.init with
    | none => if us = [] then some (.ref hs.length, hs ++ [.ins c []]) else none
    | some f => match cf f (.ref hs.length :: us) (hs ++ [.ins c []]) with
      | some (.non, h2) => some (.ref hs.length, h2)
      | _ => none
def methL (T : Tbl) (m : Nat) (o : U) (hs : Hs) : Option Nat := match o with
  | .ref n => match hs[n]? with
    | some (.ins c _) => match T.cls[c]? with
      | some C => C.meths.lookup m
      | none => none
    | _ => none
  | _ => none
def tgN (b : Bool) (n : Nat) : Tg := if b then .pair n (n + 1) else .name n
def padN (b : Bool) : Rho := if b then [none, none] else [none]
def compU (T : Tbl) (f : Ev) (ft : Rho → Hs → Option (Bool × Hs)) (w : Wk) (b : Bool) (el : E) (ρ : Rho) : Nat → Nat → List U → Hs → Option (List U × Hs)
  | 0, _, _, _ => none
  | k + 1, i, acc, hs => match itm T w i hs with
    | none => none
    | some none => some (acc, hs)
    | some (some x) => match tgt (tgN b ρ.length) x (ρ ++ padN b) hs with
      | none => none
      | some ρ' => if acc.length < 1000000 then bd (ft ρ' hs) fun c h1 => if c = true then bd (f el ρ' h1) fun u h2 => compU T f ft w b el ρ k (i + 1) (acc ++ [u]) h2 else compU T f ft w b el ρ k (i + 1) acc h1 else none
def evTO (ft : E → Rho → Hs → Option (Bool × Hs)) (t : Option E) (ρ : Rho) (hs : Hs) : Option (Bool × Hs) := match t with
  | none => some (true, hs)
  | some e => ft e ρ hs
def rngL (a b c : Int) : Option (List U) := if small64 (a * 4) && small64 (b * 4) && (decide (c = 1) || decide (c = -1)) then
    (let n := if c = 1 then (b - a).toNat else (a - b).toNat
     if n ≤ 1000000 then some ((List.range n).map fun i : Nat => .int (a + (i : Int) * c) 0) else none) else none
def rngU : List U → Option (List U)
  | [.int b 0] => rngL 0 b 1
  | [.int a 0, .int b 0] => rngL a b 1
  | [.int a 0, .int b 0, .int c 0] => rngL a b c
  | _ => none
mutual
def ev (T : Tbl) (cf : Cf) : Nat → Ev
  | 0, _, _, _ => none
  | d + 1, e, ρ, hs => match e with
    | .c u => some (u, hs)
    | .con k => some (.con k, hs)
    | .var i => match ρ[i]? with
      | some (some u) => some (u, hs)
      | _ => none
    | .op o a b => bd (ev T cf d a ρ hs) fun u h1 => bd (ev T cf d b ρ h1) fun w h2 => opU o u w h2
    | .neg a => bd (ev T cf d a ρ hs) fun u h1 => match u with | .int i m => some (.int (-i) m, h1) | _ => none
    | .cmp o a b => bd (ev T cf d a ρ hs) fun u h1 => bd (ev T cf d b ρ h1) fun w h2 => (cmpU T o u w h2).map fun c => (.bl c, h2)
    | .and a b => bd (ev T cf d a ρ hs) fun u h1 => match u with | .bl true => ev T cf d b ρ h1 | .bl false => some (.bl false, h1) | _ => none
    | .or a b => bd (ev T cf d a ρ hs) fun u h1 => match u with | .bl true => some (.bl true, h1) | .bl false => ev T cf d b ρ h1 | _ => none
    | .not a => bd (ev T cf d a ρ hs) fun u h1 => (truU T u h1).map fun c => (.bl (!c), h1)
    | .ife t a b => bd (evT T cf d t ρ hs) fun c h1 => if c = true then ev T cf d a ρ h1 else ev T cf d b ρ h1
    | .tup es => bd (evs (ev T cf d) ρ es hs) fun us h1 => some (.ref h1.length, h1 ++ [.tup us])
    | .lst es => bd (evs (ev T cf d) ρ es hs) fun us h1 => some (.ref h1.length, h1 ++ [.lst us])
    | .dis kvs b => bd (ev T cf d b ρ hs) fun w h1 => if keyU w = true then (lookU kvs w).map fun x => (x, h1) else none
    | .ix a b => bd (ev T cf d a ρ hs) fun u h1 => bd (ev T cf d b ρ h1) fun w h2 => (subU T u w h2).map fun x => (x, h2)
    | .tab k b => bd (ev T cf d b ρ hs) fun w h1 => (tabU T k w).map fun x => (x, h1)
    | .sl a lo hi => bd (ev T cf d a ρ hs) fun u h1 => bd (evO (ev T cf d) ρ lo h1) fun l h2 => bd (evO (ev T cf d) ρ hi h2) fun r h3 => slU T u l r h3
    | .rev a => bd (ev T cf d a ρ hs) fun u h1 => match lstU T u h1 with | some xs => some (.ref h1.length, h1 ++ [.lst xs.reverse]) | none => none
    | .tupR es => bd (evs (ev T cf d) ρ es hs) fun us h1 => match rngU us with | some xs => some (.ref h1.length, h1 ++ [.tup xs]) | none => none
    | .fld a f => bd (ev T cf d a ρ hs) fun u h1 => match u with
      | .ref n => match h1[n]? with
        | some (.ins _ fs) => (fs.lookup f).map fun x => (x, h1)
        | _ => none
      | _ => none
    | .call f es => bd (evs (ev T cf d) ρ es hs) fun us h1 => cf f us h1
    | .meth m o es => bd (ev T cf d o ρ hs) fun u h1 => match methL T m u h1 with
      | some f => bd (evs (ev T cf d) ρ es h1) fun us h2 => cf f (u :: us) h2
      | none => none
    | .make c es => bd (evs (ev T cf d) ρ es hs) fun us h1 => makeU T cf c us h1
    | .bi b es => bd (evs (ev T cf d) ρ es hs) fun us h1 => biU T b us h1
    | .isi a t => bd (ev T cf d a ρ hs) fun u h1 => (isiU T t u h1).map fun b => (.bl b, h1)
    | .bm b o es => bd (ev T cf d o ρ hs) fun u h1 => if rcvU b u h1 = true then bd (evs (ev T cf d) ρ es h1) fun us h2 => bmU T b u us h2 else none
    | .comp s b t el => bd (srcU T (ev T cf d) ρ s hs) fun w h1 => bd (compU T (ev T cf d) (evTO (evT T cf d) t) w b el ρ (turns T w h1) 0 [] h1) fun us h2 => some (.ref h2.length, h2 ++ [.lst us])
    | .dnew => some (.ref hs.length, hs ++ [.dic []])
    | .chain o o' a b c => bd (ev T cf d a ρ hs) fun u h1 => bd (ev T cf d b ρ h1) fun w h2 => match cmpU T o u w h2 with
      | some true => bd (ev T cf d c ρ h2) fun x h3 => (cmpU T o' w x h3).map fun k => (.bl k, h3)
      | some false => some (.bl false, h2)
      | none => none
def evT (T : Tbl) (cf : Cf) : Nat → E → Rho → Hs → Option (Bool × Hs)
  | 0, _, _, _ => none
  | d + 1, e, ρ, hs => match e with
    | .not a => bd (evT T cf d a ρ hs) fun c h1 => some (!c, h1)
    | .and a b => bd (evT T cf d a ρ hs) fun c h1 => if c = true then evT T cf d b ρ h1 else some (false, h1)
    | .or a b => bd (evT T cf d a ρ hs) fun c h1 => if c = true then some (true, h1) else evT T cf d b ρ h1
    | e => bd (ev T cf d e ρ hs) fun u h1 => (truU T u h1).map fun b => (b, h1)
end
abbrev Ex := Rho → Hs → Option (Fl × Rho × Hs)
def forU (T : Tbl) (w : Wk) (t : Tg) (body : Ex) : Nat → Nat → Ex
  | 0, _, _, _ => none
  | k + 1, i, ρ, hs => match itm T w i hs with
    | none => none
    | some none => some (.next, ρ, hs)
    | some (some x) => match tgt t x ρ hs with
      | none => none
      | some ρ' => match body ρ' hs with
        | some (.next, ρ2, h2) => forU T w t body k (i + 1) ρ2 h2
        | some (.cont, ρ2, h2) => forU T w t body k (i + 1) ρ2 h2
        | some (.brk, ρ2, h2) => some (.next, ρ2, h2)
        | r => r
def scalU : U → Bool
  | .ref _ => false
  | _ => true
def frg1 : Option U → Option U
  | some (.ref _) => none
  | o => o
def frg (ρ : Rho) : Rho := ρ.map frg1
def forC (i : Nat) (body : Ex) : List U → Rho → Option (Fl × Rho)
  | [], ρ => some (.next, ρ)
  | x :: xs, ρ => match body (ρ.set i (some x)) [] with
    | some (.next, ρ2, _) => forC i body xs (frg ρ2)
    | some (.cont, ρ2, _) => forC i body xs (frg ρ2)
    | some (.brk, ρ2, _) => some (.next, frg ρ2)
    | some (.ret u, ρ2, _) => if scalU u = true then some (.ret u, frg ρ2) else none
    | none => none
def whileU (test : Rho → Hs → Option (Bool × Hs)) (body : Ex) : Nat → Ex
  | 0, _, _ => none
  | k + 1, ρ, hs => match test ρ hs with
    | none => none
    | some (false, h1) => some (.next, ρ, h1)
    | some (true, h1) => match body ρ h1 with
      | some (.next, ρ2, h2) => whileU test body k ρ2 h2
      | some (.cont, ρ2, h2) => whileU test body k ρ2 h2
      | some (.brk, ρ2, h2) => some (.next, ρ2, h2)
      | r => r
def augU (o : Operator) (u w : U) : Option U := match o with
  | .Add => (match u, w with | .int i 0, .int j 0 => some (.int (i + j) 0) | _, _ => none)
  | .Sub => (match u, w with | .int i 0, .int j 0 => some (.int (i - j) 0) | _, _ => none)
  | _ => none
def putI (x k u : U) (hs : Hs) : Option Hs := match x, k with
  | .ref n, .int j 0 => match hs[n]? with
    | some (.lst xs) => (ixU xs.length j).map fun p => hs.set n (.lst (xs.set p u))
    | _ => none
  | _, _ => none
mutual
def ex (T : Tbl) (cf : Cf) : Nat → S → Ex
  | 0, _, _, _ => none
  | d + 1, s, ρ, hs => match s with
    | .pass => some (.next, ρ, hs)
    | .bad => none
    | .aug i o e => match ρ[i]? with
      | some (some u) => bd (ev T cf d e ρ hs) fun w h1 => (augU o u w).map fun r => (.next, ρ.set i (some r), h1)
      | _ => none
    | .brk => some (.brk, ρ, hs)
    | .cont => some (.cont, ρ, hs)
    | .expr e => bd (ev T cf d e ρ hs) fun _ h1 => some (.next, ρ, h1)
    | .set i e => bd (ev T cf d e ρ hs) fun u h1 => some (.next, ρ.set i (some u), h1)
    | .fld o f e => bd (ev T cf d e ρ hs) fun u h1 => bd (ev T cf d o ρ h1) fun x h2 => match x with
      | .ref n => match h2[n]? with
        | some (.ins c fs) => if fs.length < 500 then some (.next, ρ, h2.set n (.ins c (putU f u fs))) else none
        | _ => none
      | _ => none
    | .ret e => bd (ev T cf d e ρ hs) fun u h1 => some (.ret u, ρ, h1)
    | .retN => some (.ret .non, ρ, hs)
    | .ite t a b => match evT T cf d t ρ hs with
      | some (true, h1) => exs T cf d a ρ h1
      | some (false, h1) => exs T cf d b ρ h1
      | none => none
    | .loop t s body => bd (srcU T (ev T cf d) ρ s hs) fun w h1 => forU T w t (exs T cf d body) (turns T w h1) 0 ρ h1
    | .loopC i e body => bd (ev T cf d e ρ hs) fun u h1 => match lstU T u h1 with
      | some xs => if xs.all scalU = true then (match forC i (exs T cf d body) xs (frg ρ) with
        | some (fl, ρ') => some (fl, ρ', h1)
        | none => none) else none
      | none => none
    | .while t body => whileU (evT T cf d t) (exs T cf d body) 1000000 ρ hs
    | .put o i e => bd (ev T cf d e ρ hs) fun u h1 => bd (ev T cf d o ρ h1) fun x h2 => bd (ev T cf d i ρ h2) fun k h3 => (putI x k u h3).map fun h4 => (.next, ρ, h4)
    | .unp i j e => bd (ev T cf d e ρ hs) fun u h1 => (tgt (.pair i j) (.one u) ρ h1).map fun ρ' => (.next, ρ', h1)
    | .par i j a b => bd (ev T cf d a ρ hs) fun u h1 => bd (ev T cf d b ρ h1) fun w h2 => some (.next, (ρ.set i (some u)).set j (some w), h2)
def exs (T : Tbl) (cf : Cf) : Nat → List S → Ex
  | 0, _, _, _ => none
  | d + 1, ss, ρ, hs => match ss with
    | [] => some (.next, ρ, hs)
    | s :: r => match ex T cf d s ρ hs with
      | some (.next, ρ1, h1) => exs T cf d r ρ1 h1
      | x => x
end
def dd : Nat := 100
def fin : Option (Fl × Rho × Hs) → Option (U × Hs)
  | some (.ret u, _, h) => some (u, h)
  | some (.next, _, h) => some (.non, h)
  | _ => none
def rho0 (us : List U) (n : Nat) : Rho := us.map some ++ List.replicate (n - us.length) none
def callF (T : Tbl) : Nat → Cf
  | 0, _, _, _ => none
  | n + 1, f, us, hs => match T.fns[f]? with
    | none => none
    | some F => if us.length = F.np then fin (exs T (callF T n) dd F.body (rho0 us F.nN) hs) else none
end Iv
namespace Iv
open PySem
end Iv
namespace Iv
open PySem
inductive G where
  | fn (i : Nat) | cls (i : Nat) | con (k : Nat) | txt (x : List Nat)
structure Ctx where
  T : Tbl
  N : List Str
  names : List (Str × NameKind)
  gl : List (Str × G)
  bl : List Str
  lc : Bool := false
def idx (x : Str) : List Str → Option Nat
  | [] => none
  | y :: r => if y = x then some 0 else (idx x r).map (· + 1)
def isVis (C : Ctx) (x : Str) : Bool := match C.names.lookup x with
  | some .local => true | some .cell => true | some .free => true | _ => false
def isLoc (C : Ctx) (x : Str) : Bool := match C.names.lookup x with
  | some .local => true | some .cell => true | _ => false
def isGl (C : Ctx) (x : Str) : Bool := match C.names.lookup x with
  | some .globalImplicit => true | _ => false
def noSuper : Expr → Bool
  | .Call (.Name _ _) [] [] _ => false
  | _ => true
def notSlice : Expr → Bool
  | .Slice .. => false
  | _ => true
def tyOf (C : Ctx) (x : Str) : Option Ty := match C.gl.lookup x with
  | some (.cls i) => some (.cls i)
  | some _ => none
  | none => if C.bl.contains x = false then none else if x = "int" then some .int else if x = "str" then some .str else if x = "bool" then some .bool else if x = "list" then some .list else if x = "tuple" then some .tuple else if x = "dict" then some .dict else none
def biOf (C : Ctx) (x : Str) : Option Bi := match C.gl.lookup x with
  | some _ => none
  | none => if C.bl.contains x = false then none else if x = "len" then some .len else if x = "str" then some .str else if x = "list" then some .list else if x = "sum" then some .sum else if x = "max" then some .max else if x = "min" then some .min else none
def bmOf (x : Str) : Option Bm := if x = "append" then some .append else if x = "clear" then some .clear else if x = "extend" then some .extend else none
def plainE : E → Bool
  | .and _ _ => false
  | .or _ _ => false
  | .not _ => false
  | _ => true
def okT : Expr → E → Bool
  | .BoolOp .., _ => true
  | .UnaryOp .Not .., _ => true
  | .Compare .., _ => true
  | _, ir => plainE ir
def rngArgs (C : Ctx) (f : Str) (args : List Expr) : Option (List Expr) := none
def conOf : Expr → Option U
  | .Constant (.int i) _ _ => some (.int i 0)
  | .Constant (.str x) _ _ => some (.str x.cps.toList)
  | _ => none
def disL : List (Option Expr) → List Expr → Option (List (U × U))
  | [], [] => some []
  | some k :: ks, v :: vs => (conOf k).bind fun k' => (conOf v).bind fun v' => (disL ks vs).bind fun r => if r.any (fun p => decide (p.1 = k')) then none else some ((k', v') :: r)
  | _, _ => none
def Ctx.inner (C : Ctx) (xs : List Str) (scope : Scope) : Ctx := { C with N := L2.hideN xs C.N ++ xs, names := L2.relN C.names scope.names, lc := false }
def compOk (C : Ctx) (xs : List Str) (scope : Scope) : Bool := (scope.kind == .function) && xs.all (fun x => (scope.names.lookup x == some .local) && (scope.names.lookup (L2.mang x) == none)) && decide (L2.hideN xs C.N ++ xs).Nodup && scope.names.all (fun y => match y.2 with
    | .local => (xs.contains y.1 || decide (y.1 = ".0")) && (scope.names.lookup y.1 == some .local)
    | .free => (C.names.lookup y.1 == some .cell) || (C.names.lookup y.1 == some .free)
    | .cell => false
    | _ => true) && !(C.N.contains ".0")
def isPr : Src → Bool
  | .zip _ _ => true
  | .enm _ => true
  | _ => false
def okSrc : Src → Tg → Bool
  | .zip _ _, .name _ => false
  | .enm _, .name _ => false
  | .revd _, .pair _ _ => false
  | _, _ => true
def tgOf : Expr → Option (Bool × List Str)
  | .Name x _ => some (false, [x])
  | .Tuple es _ _ => (match es with
    | [a, b] => (match a, b with
      | .Name x _, .Name y _ => some (true, [x, y])
      | _, _ => none)
    | _ => none)
  | _ => none
def ifOf : List Expr → Option (Option Expr)
  | [] => some none
  | [t] => some (some t)
  | _ => none
structure Gn where
  b : Bool
  xs : List Str
  iter : Expr
  tl : Option Expr
def genOf : List Comprehension → Option Gn
  | [g] => if g.is_async = 0 then (tgOf g.target).bind fun t => (ifOf g.ifs).map fun tl => ⟨t.1, t.2, g.iter, tl⟩ else none
  | _ => none
def TgIs (tg : Expr) (b : Bool) (xs : List Str) : Prop := (b = false ∧ ∃ x p, tg = .Name x p ∧ xs = [x]) ∨ (b = true ∧ ∃ x p y q k pt, tg = .Tuple [.Name x p, .Name y q] k pt ∧ xs = [x, y])
theorem tgOf_is {tg : Expr} {b : Bool} {xs : List Str} (h : tgOf tg = some (b, xs)) : TgIs tg b xs := by
  unfold tgOf at h
  split at h
  · cases h; exact .inl ⟨rfl, _, _, rfl, rfl⟩
  · split at h
    · split at h
      · cases h; exact .inr ⟨rfl, _, _, _, _, _, _, rfl, rfl⟩
      · cases h
    · cases h
  · cases h
theorem genOf_some {gens : List Comprehension} {g : Gn} (h : genOf gens = some g) : ∃ tg, gens = [⟨tg, g.iter, g.tl.toList, 0⟩] ∧ TgIs tg g.b g.xs := by
  unfold genOf at h
  split at h
  · rename_i c
    split at h
    · rename_i e
      simp only [Option.bind_eq_some_iff, Option.map_eq_some_iff] at h
      obtain ⟨⟨b, xs⟩, h1, tl, h2, rfl⟩ := h
      obtain ⟨tg, iter, ifs, ia⟩ := c
      simp only at e h1 h2
      subst e
      refine ⟨tg, ?_, tgOf_is h1⟩
      have : ifs = tl.toList := by
        unfold ifOf at h2
        split at h2 <;> cases h2 <;> rfl
      rw [this]
    · cases h
  · cases h
inductive Sl where
  | cut (lo hi : Option Expr) | rev | bad
def isM1 : Expr → Bool
  | .UnaryOp .USub (.Constant (.int 1) _ _) _ => true
  | _ => false
def slOf : Expr → Option Sl
  | .Slice lo hi st _ => (match st with
    | none => some (.cut lo hi)
    | some e => if isM1 e && lo.isNone && hi.isNone then some .rev else some .bad)
  | _ => none
inductive He where
  | tab (ks : List (Option Expr)) (vs : List Expr) | nm (x : Str) | any
def heOf : Expr → He
  | .Name x _ => .nm x
  | _ => .any
def tabOf (C : Ctx) (x : Str) : Option Nat := if isGl C x && decide (x ≠ "__debug__") then (match C.gl.lookup x with
  | some (.con k) => (match C.T.cons[k]? with | some (.tab _) => some k | _ => none)
  | _ => none) else none
def padC (C : Ctx) (i : Nat) (es : List E) : Option E := match C.T.dfl.lookup i with
  | none => some (.call i es)
  | some D => if es.length ≤ D.np ∧ D.np ≤ es.length + D.ds.length then some (.call i (es ++ (D.ds.drop (D.ds.length - (D.np - es.length))).map .c)) else none
def kwC (C : Ctx) (f : Str) (n : Nat) (k : Option Str) : Option Nat := if f = "__debug__" ∨ f = "__name__" ∨ isGl C f = false then none else match C.gl.lookup f with
  | some (.fn i) => (match C.T.dfl.lookup i with
    | some D => if k = some D.last ∧ n + 1 = D.np then some i else none
    | none => none)
  | _ => none
mutual
def compE : Nat → Ctx → Expr → Option E
  | 0, _, _ => none
  | m + 1, C, e => match e with
    | .Constant (.int i) _ _ => some (.c (.int i 0))
    | .Constant (.bool b) _ _ => some (.c (.bl b))
    | .Constant .none _ _ => some (.c .non)
    | .Constant (.str x) _ _ => some (.c (.str x.cps.toList))
    | .Name x _ => if x = "__debug__" ∨ x = "__classdict__" then none else if isVis C x then (idx x C.N).map .var else if isGl C x then (match C.gl.lookup x with | some (.con k) => some (.con k) | some (.txt t) => some (.c (.str t)) | _ => none) else none
    | .BinOp a o b _ => (compE m C a).bind fun a' => (compE m C b).bind fun b' => some (.op o a' b')
    | .UnaryOp .USub a _ => (compE m C a).bind fun a' => some (.neg a')
    | .UnaryOp .Not a _ => (compT m C a).bind fun a' => some (.not a')
    | .BoolOp .And (a :: r) p => compAnd m C a r p
    | .BoolOp .Or (a :: r) p => compOr m C a r p
    | .Compare a [o] [b] _ => (compE m C a).bind fun a' => (compE m C b).bind fun b' => some (.cmp o a' b')
    | .IfExp t a b _ => (compT m C t).bind fun t' => (compE m C a).bind fun a' => (compE m C b).bind fun b' => some (.ife t' a' b')
    | .Tuple es _ _ => if es.length ≤ 1000000 then (compA m C es).bind fun es' => some (.tup es') else none
    | .List es _ => if es.length ≤ 1000000 then (compA m C es).bind fun es' => some (.lst es') else none
    | .Subscript a b _ => match slOf b with
      | some (.cut lo hi) => (compE m C a).bind fun a' => (compO m C lo).bind fun l => (compO m C hi).bind fun h => some (.sl a' l h)
      | some .rev => (compE m C a).bind fun a' => some (.rev a')
      | some .bad => none
      | none => (compE m C b).bind fun b' => match heOf a with
        | .tab ks vs => if decide (ks.length ≤ 15) && !ks.isEmpty then (disL ks vs).bind fun kvs => some (.dis kvs b') else none
        | .nm x => (match tabOf C x with | some k => some (.tab k b') | none => (compE m C a).bind fun a' => some (.ix a' b'))
        | .any => (compE m C a).bind fun a' => some (.ix a' b')
    | .Attribute a f _ => if noSuper a then (compE m C a).bind fun a' => (idx f C.T.fns').bind fun k => some (.fld a' k) else none
    | .Call (.Name f _) args [] _ => if f = "__debug__" ∨ f = "__name__" ∨ isGl C f = false then none else match C.gl.lookup f with
      | some (.fn i) => (compA m C args).bind fun es => padC C i es
      | some (.cls i) => (compA m C args).bind fun es => some (.make i es)
      | some (.con _) => none
      | some (.txt _) => none
      | none => if C.bl.contains f = false then none else if f = "isinstance" then (match args with
          | [a, .Name t _] => if isGl C t ∧ t ≠ "__debug__" ∧ t ≠ "__name__" then (compE m C a).bind fun a' => (tyOf C t).bind fun ty => some (.isi a' ty) else none
          | _ => none)
        else match rngArgs C f args with
          | some ra => (compA m C ra).bind fun es => some (.tupR es)
          | none => (biOf C f).bind fun b => (compA m C args).bind fun es => some (.bi b es)
    | .Call (.Name f _) (a :: args) [kw] _ => (kwC C f (args.length + 1) kw.arg).bind fun i => (compA m C (a :: args)).bind fun es => (compE m C kw.value).bind fun e' => some (.call i (es ++ [e']))
    | .Call (.Attribute o x p) args [] q => if noSuper o && (p.endLine == q.line) && decide (args.length < 29) then match idx x C.T.mns with
      | some k => (compE m C o).bind fun o' => (compA m C args).bind fun es => some (.meth k o' es)
      | none => (bmOf x).bind fun b => (compE m C o).bind fun o' => (compA m C args).bind fun es => some (.bm b o' es) else none
    | .ListComp elt gens scope _ => (match genOf gens with
      | some g => if compOk C g.xs scope then (compSrc m C g.iter).bind fun src => if okSrc src (tgN g.b 0) then (compTO m (C.inner g.xs scope) g.tl).bind fun t => (compE m (C.inner g.xs scope) elt).bind fun el => some (.comp src g.b t el) else none else none
      | none => none)
    | .Dict [] [] _ => some .dnew
    | _ => none
def compT : Nat → Ctx → Expr → Option E
  | 0, _, _ => none
  | m + 1, C, e => match e with
    | .IfExp .. => none
    | .NamedExpr .. => none
    | e => (compE m C e).bind fun ir => if okT e ir then some ir else none
def compTO : Nat → Ctx → Option Expr → Option (Option E)
  | 0, _, _ => none
  | m + 1, C, none => some none
  | m + 1, C, some e => (compT m C e).bind fun e' => some (some e')
def compAnd : Nat → Ctx → Expr → List Expr → Pos → Option E
  | 0, _, _, _, _ => none
  | m + 1, C, a, r, p => match r with
    | [] => compT m C a
    | b :: r => (compT m C a).bind fun a' => (compAnd m C b r p).bind fun b' => some (.and a' b')
def compOr : Nat → Ctx → Expr → List Expr → Pos → Option E
  | 0, _, _, _, _ => none
  | m + 1, C, a, r, p => match r with
    | [] => compT m C a
    | b :: r => (compT m C a).bind fun a' => (compOr m C b r p).bind fun b' => some (.or a' b')
def compA : Nat → Ctx → List Expr → Option (List E)
  | 0, _, _ => none
  | m + 1, C, es => match es with
    | [] => some []
    | e :: r => (compE m C e).bind fun e' => (compA m C r).bind fun r' => some (e' :: r')
def compO : Nat → Ctx → Option Expr → Option (Option E)
  | 0, _, _ => none
  | m + 1, C, none => some none
  | m + 1, C, some e => (compE m C e).bind fun e' => some (some e')
def compSrc : Nat → Ctx → Expr → Option Src
  | 0, _, _ => none
  | m + 1, C, e => match e with
    | .Call (.Name f p) args [] q => if isGl C f then (match C.gl.lookup f with
      | some _ => (compE m C (.Call (.Name f p) args [] q)).map .seq
      | none => if C.bl.contains f = false then none else if f = "range" then (match args with
          | [a] => (compE m C a).map .rng
          | [a, b] => (compE m C a).bind fun a' => (compE m C b).map fun b' => .rng2 a' b'
          | _ => none)
        else if f = "zip" then (match args with
          | [a, b] => (compE m C a).bind fun a' => (compE m C b).map fun b' => .zip a' b'
          | _ => none)
        else (compE m C (.Call (.Name f p) args [] q)).map .seq) else none
    | e => (compE m C e).map .seq
end
def compTg (C : Ctx) : Expr → Option Tg
  | .Name x _ => if isLoc C x then (idx x C.N).map .name else none
  | .Tuple [.Name x _, .Name y _] _ _ => if isLoc C x && isLoc C y && decide (x ≠ y) then (idx x C.N).bind fun i => (idx y C.N).map fun j => .pair i j else none
  | _ => none
def exOf : Expr → Option Bool
  | .Constant c _ _ => (match c with | .str _ => some true | _ => none)
  | .ListComp .. => some false
  | _ => none
inductive As where
  | nm (x : Str) | at (o : Expr) (f : Str) | sub (o i : Expr) | two (x : Str) (p : Pos) (y : Str) (q : Pos)
def twoOf : Expr → Expr → Option As
  | .Name x p, .Name y q => some (.two x p y q)
  | _, _ => none
def as1 : Expr → Option As
  | .Name x _ => some (.nm x)
  | .Attribute o f _ => some (.at o f)
  | .Subscript o i _ => some (.sub o i)
  | .Tuple es _ _ => (match es with | [a, b] => twoOf a b | _ => none)
  | _ => none
def asOf : List Expr → Option As
  | [t] => as1 t
  | _ => none
def isLoc1 (C : Ctx) (x : Str) : Bool := match C.names.lookup x with
  | some .local => true | _ => false
def pairOf : Expr → Option (Expr × Expr)
  | .Tuple es _ _ => (match es with | [a, b] => some (a, b) | _ => none)
  | _ => none
def notTup : Expr → Bool
  | .Tuple .. => false
  | _ => true
mutual
def compS : Nat → Ctx → Stmt → Option S
  | 0, _, _ => none
  | m + 1, C, s => match s with
    | .Pass _ => some .pass
    | .Break _ => some .brk
    | .Continue _ => some .cont
    | .Expr e _ => (match exOf e with
      | some true => some .pass
      | some false => none
      | none => (compE m C e).map .expr)
    | .Return v _ => (match v with
      | none => some .retN
      | some e => (compE m C e).map .ret)
    | .Assign ts e _ => (match asOf ts with
      | some (.nm x) => if isLoc C x then (idx x C.N).bind fun i => (compE m C e).bind fun e' => some (.set i e') else none
      | some (.at o f) => if noSuper o then (compE m C e).bind fun e' => (compE m C o).bind fun o' => (idx f C.T.fns').bind fun k => some (.fld o' k e') else none
      | some (.sub _ _) => none
      | some (.two x p y q) => if isLoc1 C x && isLoc1 C y && decide (x ≠ y) then (idx x C.N).bind fun i => (idx y C.N).bind fun j => (match pairOf e with
          | some _ => none
          | none => if notTup e then (compE m C e).map (.unp i j) else none) else none
      | none => none)
    | .Raise _ _ _ => some .bad
    | .If t a b _ => (compT m C t).bind fun t' => (compSs m C a).bind fun a' => (compSs m C b).bind fun b' => some (.ite t' a' b')
    | .For tg it a [] _ => (compTg C tg).bind fun tg' => (compSrc m C it).bind fun it' => if okSrc it' tg' then (compSs m C a).bind fun a' => some (.loop tg' it' a') else none
    | _ => none
def compSs : Nat → Ctx → List Stmt → Option (List S)
  | 0, _, _ => none
  | m + 1, C, ss => match ss with
    | [] => some []
    | s :: r => (compS m C s).bind fun s' => (compSs m C r).bind fun r' => some (s' :: r')
end
end Iv
namespace L2
open PySem PySem.Spec PyProof.Rows
section
variable {X : Cx}
def rCatT0 (K : PySem.W.Frag) : R2 := fun x y H Q => ∃ a b ys, x = .ref a ∧ y = .ref b ∧ SqT K H a [] ∧ SqT K H b ys ∧ Q (.ref b) H
theorem op_catT0 : OpR X (binaryOp .Add) (rCatT0 X.K) := by
  intro pins s σ H x y v u Q I rx ry h
  obtain ⟨a, b, ys, rfl, rfl, ha, hb, q⟩ := h
  cases rx
  cases ry
  obtain ⟨i1, r1, ht, _⟩ := I.tuple ha
  obtain ⟨i2, r2, hb, _⟩ := I.tuple hb
  cases r1
  obtain ⟨⟨cls, dd, data, sl⟩, ho, hc, n, hd⟩ := id ht
  obtain ⟨⟨cls2, dd2, data2, sl2⟩, ho2, hc2, n2, hd2⟩ := id hb
  simp only at hc hd hc2 hd2
  subst hc hd hc2 hd2
  exact concat_meets ⟨_, ho, rfl⟩ ⟨_, ho2, rfl⟩ noFill_tuple_add seq_tuple_add PySem.F.slot_tuple_add PySem.F.entry_tuple_add (PySem.F.args_tuple_add_2 _ _)
    (tuple_addW0 a b _ _ n n2 dd dd2 sl sl2 (by simp)) ⟨ho, ho2, ⟨.ref b, H, I.tok _, rfl, q⟩⟩
structure Mk0 (K : PySem.W.Frag) (C : Addr) : Prop where
  makes : PySem.W.makesIn K C = true
  init : PySem.W.findIn K (.ref C) "__init__" = some (some (.builtin "object.__init__"))
  kp : PySem.W.keepIn K (.ref C) = true
def tMake00 (C : Addr) : TE := fun _ H Q => ∀ x dx, H x = none → H dx = none → dx ≠ x → Q (.ref x) (upd (upd H dx (.own x)) x (.ins C dx []))
theorem run_make00 {pins : List (Addr × Obj)} {σ : St} {H : Hp} {s : Shared} {Q : VK} {C : Addr} (M : Mk0 X.K C) (I : Inv X pins σ H s)
    (h : ∀ x dx, H x = none → H dx = none → dx ≠ x → Q (.ref x) (upd (upd H dx (.own x)) x (.ins C dx []))) :
    wpAny (model X.prog X.w) X.A (call (.ref C) []) (EP X pins σ Q) X.xe s := by
  have hq := h (s.heap.objs.size + 1) s.heap.objs.size (I.hok.fresh (Nat.le_succ _)) (I.hok.fresh (Nat.le_refl _)) (Nat.ne_of_lt (Nat.lt_succ_self _))
  have I2 := Inv.made (C := C) I
  have Y := PySem.W.makes_of (M := model X.prog X.w) I.kIn M.makes
  have hob : ((s.heap.push PySem.W.emptyDict).push (PySem.W.instObj C s.heap.objs.size)).get? (s.heap.objs.size + 1) = some (PySem.W.instObj C s.heap.objs.size) := by
    have e : (s.heap.push PySem.W.emptyDict).objs.size = s.heap.objs.size + 1 := Heap.size_push ..
    rw [← e]
    exact Heap.get?_push_size _ rfl
  have t1 : PySem.W.Looks (model X.prog X.w) ((s.heap.push PySem.W.emptyDict).push (PySem.W.instObj C s.heap.objs.size)) (typeOf (.ref (s.heap.objs.size + 1))) (.ref C) := (PySem.W.Looks.ld hob).andThen .now
  have t2 : PySem.W.Looks (model X.prog X.w) ((s.heap.push PySem.W.emptyDict).push (PySem.W.instObj C s.heap.objs.size)) (isInstance (.ref (s.heap.objs.size + 1)) (.type "object")) true :=
    t1.andThen (Y.top.keeps fun b o e => Heap.get?_push_of_some _ (Heap.get?_push_of_some _ e))
  refine wpAny_call (make_map0 I.kIn M.makes M.init (fun self => PySem.W.Looks.of_pure (PySem.W.oi_bind self)) ?_)
  obtain ⟨hh, g, d, t, os⟩ := s
  refine codeAny_call_builtin PySem.W.oi_plain PySem.W.entry_oi (@PySem.W.check_slot (model X.prog X.w) _ _ _ "object.__init__" "object" "__init__" (.ref (hh.objs.size + 1)) [] [] _ PySem.W.oi_kind PySem.W.oi_split t2 (PySem.W.oi_args (.ref (hh.objs.size + 1))) ?_)
  rw [PySem.W.oi_run]
  exact wpAny_pure (And.intro rfl ⟨V.ref (hh.objs.size + 1), _, I2, rfl, hq⟩)
theorem pe_make00 {C : Addr} {x : Str} {p pos : Pos} (M : Mk0 X.K C) (hg : Gl X x) (hm : X.mg x = some (.ref C)) (hdb : (x == ("__debug__" : Str)) = false := by decide) : PE X (.Call (.Name x p) [] [] pos) (tMake00 C) := by
  intro pins s σ H Q I h
  refine wpAny_Call_Name_kw (ld_glob I hg hm ?_ hdb)
  exact PySem.W.callWith_K0 I.kIn M.kp (run_make00 M I h)
def clsV : V → Option Value
  | .ty n => some (.type n)
  | .ref a => some (.ref a)
  | _ => none
theorem call_isi : CallR X (.builtin "isinstance") (fun xs H Q => ∃ x c cv t b, xs = [x, c] ∧ clsV c = some cv ∧ TyOf X.K H x t ∧ PySem.W.kitOne X.K t cv = some b ∧ Q (.bl b) H) := by
  intro pins s σ H xs us Q I r h
  obtain ⟨x, c, cv, t, b, rfl, hc, ty, e, q⟩ := h
  obtain ⟨u, w', rfl, rx, rc⟩ := vals2 r
  have ec : w' = cv := by
    cases c with
    | ty n => cases (show w' = Value.type n from rc); exact Option.some.inj hc
    | ref a => cases (show w' = Value.ref a from rc); exact Option.some.inj hc
    | _ => cases hc
  subst ec
  exact isinst_ok I rx ty e fun tk => ⟨.bl b, H, I.tok tk, rfl, q⟩
end
end L2
namespace Iv
open PySem PySem.Spec PyProof.Rows L2
abbrev St := L2.St
structure Adr where
  f : Nat → Addr
  c : Nat → Addr
  k : Nat → Addr
  s : Addr
def Cg (i r : Int) (m : Nat) : Prop := ∃ q : Int, i = r + m * q
theorem Cg.exact {i r : Int} (h : Cg i r 0) : i = r := by obtain ⟨q, e⟩ := h; simpa using e
theorem Cg.refl (i : Int) (m : Nat) : Cg i i m := ⟨0, by simp⟩
def RU (A : Adr) (α : List Addr) : U → V → Prop
  | .non, v => v = .non
  | .bl b, v => v = .bl b
  | .int r m, v => ∃ i, v = .int i ∧ Cg i r m
  | .str x, v => v = .str ⟨x.toArray⟩
  | .ref n, v => ∃ a, α[n]? = some a ∧ v = .ref a
  | .con k, v => v = .ref (A.k k)
  | .scr, v => v = .ref A.s
abbrev RUs (A : Adr) (α : List Addr) : List U → List V → Prop := Paired (RU A α)
def RF (T : Tbl) (A : Adr) (α : List Addr) : List (Nat × U) → List (Str × V) → Prop := Paired fun p q => T.fns'[p.1]? = some q.1 ∧ RU A α p.2 q.2
def RK : U → Key → Prop
  | .int i m, k => m = 0 ∧ k = Sum.inl i
  | .str x, k => k = Sum.inr ⟨x.toArray⟩
  | _, _ => False
def RD (A : Adr) (α : List Addr) : List (U × U) → List (Key × V) → Prop := Paired fun p q => RK p.1 q.1 ∧ RU A α p.2 q.2
def RO (T : Tbl) (A : Adr) (α : List Addr) (H : Hp) (a : Addr) : O → Prop
  | .lst xs => ∃ vs, H a = some (.lst vs) ∧ RUs A α xs vs
  | .tup xs => ∃ vs, H a = some (.tup vs) ∧ RUs A α xs vs
  | .ins c fs => ∃ dx fv, H a = some (.ins (A.c c) dx fv) ∧ RF T A α fs fv ∧ c < T.cls.length
  | .dic kvs => ∃ kv, H a = some (.dK kv) ∧ RD A α kvs kv
structure RH (T : Tbl) (A : Adr) (α : List Addr) (hs : Hs) (H : Hp) : Prop where
  len : α.length = hs.length
  nd : α.Nodup
  ob : ∀ (n : Nat) a o, α[n]? = some a → hs[n]? = some o → RO T A α H a o
def ScrOk (K : PySem.W.Frag) (H : Hp) (a : Addr) (xs : List V) : Prop := (∃ o, H a = some (.frz o (.lst xs))) ∨
  ∃ (o : Obj) (its : Array Value) (n : Nat), K.lookup a = some o ∧ o.cls = .type "list" ∧ o.dict = none ∧ o.data = .seq its n ∧ its.size ≤ sizeLine ∧ Vals xs its.toList
def Scr (T : Tbl) (A : Adr) (K : PySem.W.Frag) (H : Hp) : Prop := ∃ vs, RUs A [] T.scr vs ∧ ScrOk K H A.s vs
structure Rep (T : Tbl) (A : Adr) (K : PySem.W.Frag) (α : List Addr) (hs : Hs) (H : Hp) : Prop where
  h : RH T A α hs H
  s : Scr T A K H
structure Ext (α α' : List Addr) (H H' : Hp) : Prop where
  pre : ∀ (n : Nat) a, α[n]? = some a → α'[n]? = some a
  new : ∀ (n : Nat) a, α'[n]? = some a → α.length ≤ n → H a = none
  keep : ∀ b o, H b = some o → b ∉ α → H' b = some o
structure RS (A : Adr) (α : List Addr) (ρ : Rho) (σ : St) : Prop where
  len : ρ.length = σ.length
  val : ∀ (i : Nat) u, ρ[i]? = some (some u) → ∃ v, σ[i]? = some (some v) ∧ RU A α u v
section
variable {T : Tbl} {A : Adr} {K : PySem.W.Frag} {α α' α1 α2 : List Addr} {hs hs' h1 h2 : Hs} {H H' H1 H2 : Hp} {u : U} {v : V} {us : List U} {vs : List V} {ρ : Rho} {σ : St}
theorem RU.mono (p : ∀ (n : Nat) a, α[n]? = some a → α'[n]? = some a) (h : RU A α u v) : RU A α' u v := by
  cases u with
  | ref n => obtain ⟨a, e, r⟩ := h; exact ⟨a, p _ _ e, r⟩
  | _ => exact h
theorem RUs.mono (p : ∀ (n : Nat) a, α[n]? = some a → α'[n]? = some a) (h : RUs A α us vs) : RUs A α' us vs := Paired.mapP h fun _ _ r => RU.mono p r
theorem RF.mono {fs : List (Nat × U)} {fv : List (Str × V)} (p : ∀ (n : Nat) a, α[n]? = some a → α'[n]? = some a) (h : RF T A α fs fv) : RF T A α' fs fv := Paired.mapP h fun _ _ r => ⟨r.1, r.2.mono p⟩
theorem RD.mono {fs : List (U × U)} {fv : List (Key × V)} (p : ∀ (n : Nat) a, α[n]? = some a → α'[n]? = some a) (h : RD A α fs fv) : RD A α' fs fv := Paired.mapP h fun _ _ r => ⟨r.1, r.2.mono p⟩
theorem RS.mono (p : ∀ (n : Nat) a, α[n]? = some a → α'[n]? = some a) (h : RS A α ρ σ) : RS A α' ρ σ := ⟨h.len, fun i u e => let ⟨v, e1, r⟩ := h.val i u e; ⟨v, e1, r.mono p⟩⟩
theorem Ext.refl : Ext α α H H := ⟨fun _ _ e => e, fun n a e l => by
  have := (List.getElem?_eq_some_iff.mp e).1
  omega, fun _ _ e _ => e⟩
theorem getElem?_lt {n : Nat} {a : Addr} (e : α[n]? = some a) : n < α.length := (List.getElem?_eq_some_iff.mp e).1
theorem nodup_at (h : α.Nodup) {i j : Nat} {a : Addr} (e1 : α[i]? = some a) (e2 : α[j]? = some a) : i = j := by
  obtain ⟨l1, q1⟩ := List.getElem?_eq_some_iff.mp e1
  obtain ⟨l2, q2⟩ := List.getElem?_eq_some_iff.mp e2
  exact (List.getElem_inj h).mp (q1.trans q2.symm)
theorem Ext.trans (a : Ext α α1 H H1) (b : Ext α1 α2 H1 H2) (R : RH T A α2 h2 H2) : Ext α α2 H H2 where
  pre := fun n x e => b.pre n x (a.pre n x e)
  new := fun n x e l => by
    by_cases hn : n < α1.length
    · have e1 : α1[n]? = some α1[n] := List.getElem?_eq_getElem hn
      have e2 := b.pre n _ e1
      rw [e] at e2
      cases e2
      exact a.new n _ e1 l
    · cases q : H x with
      | none => rfl
      | some o =>
        by_cases hx : x ∈ α
        · obtain ⟨m, hm⟩ := List.getElem?_of_mem hx
          have := nodup_at R.nd (b.pre m x (a.pre m x hm)) e
          have := getElem?_lt hm
          omega
        · have := a.keep x o q hx
          rw [b.new n x e (by omega)] at this
          cases this
  keep := fun c o e hc => b.keep c o (a.keep c o e hc) fun hm => by
    obtain ⟨n, hn⟩ := List.getElem?_of_mem hm
    by_cases l : n < α.length
    · have e1 : α[n]? = some α[n] := List.getElem?_eq_getElem l
      have := a.pre n _ e1
      rw [hn] at this
      cases this
      exact hc (List.getElem_mem l)
    · rw [a.new n c hn (by omega)] at e
      cases e
theorem RO.trk {a : Addr} {o : O} (h : RO T A α H a o) : ∃ x, H a = some x ∧ ∀ ob u, x ≠ .frz ob u := by
  cases o with
  | lst xs => obtain ⟨vs, e, _⟩ := h; exact ⟨_, e, fun _ _ z => nomatch z⟩
  | tup xs => obtain ⟨vs, e, _⟩ := h; exact ⟨_, e, fun _ _ z => nomatch z⟩
  | ins c fs => obtain ⟨dx, fv, e, _⟩ := h; exact ⟨_, e, fun _ _ z => nomatch z⟩
  | dic _ => obtain ⟨kv, e, _⟩ := h; exact ⟨_, e, fun _ _ z => nomatch z⟩
theorem RH.trk (R : RH T A α hs H) {n : Nat} {a : Addr} (e : α[n]? = some a) : ∃ o, hs[n]? = some o ∧ RO T A α H a o := by
  have l := getElem?_lt e
  rw [R.len] at l
  exact ⟨hs[n], List.getElem?_eq_getElem l, R.ob n a _ e (List.getElem?_eq_getElem l)⟩
theorem RH.notIn (R : RH T A α hs H) {p : Addr} (h : H p = none) : p ∉ α := fun m => by
  obtain ⟨n, e⟩ := List.getElem?_of_mem m
  obtain ⟨o, _, r⟩ := R.trk e
  obtain ⟨x, e, _⟩ := r.trk
  rw [h] at e
  cases e
theorem RO.keep {a : Addr} {o : O} (h : RO T A α H a o) (p : ∀ (n : Nat) a, α[n]? = some a → α'[n]? = some a) (k : ∀ x, H a = some x → H' a = some x) : RO T A α' H' a o := by
  cases o with
  | lst xs => obtain ⟨vs, e, r⟩ := h; exact ⟨vs, k _ e, RUs.mono p r⟩
  | tup xs => obtain ⟨vs, e, r⟩ := h; exact ⟨vs, k _ e, RUs.mono p r⟩
  | ins c fs => obtain ⟨dx, fv, e, r, l⟩ := h; exact ⟨dx, fv, k _ e, RF.mono p r, l⟩
  | dic _ => obtain ⟨kv, e, r⟩ := h; exact ⟨kv, k _ e, RD.mono p r⟩
theorem Scr.keep (h : Scr T A K H) (k : ∀ x, H A.s = some x → (∃ o u, x = .frz o u) → H' A.s = some x) : Scr T A K H' := by
  obtain ⟨vs, r, q | q⟩ := h
  · obtain ⟨o, e⟩ := q
    exact ⟨vs, r, .inl ⟨o, k _ e ⟨_, _, rfl⟩⟩⟩
  · exact ⟨vs, r, .inr q⟩
theorem Scr.sq (h : Scr T A K H) : ∃ vs, RUs A α T.scr vs ∧ SqL K H A.s vs := by
  obtain ⟨vs, r, q⟩ := h
  refine ⟨vs, RUs.mono (fun n a e => by simp at e) r, ?_⟩
  rcases q with ⟨o, e⟩ | q
  · exact .inl (.inr ⟨o, e⟩)
  · exact .inr q
theorem snoc_at {p : Addr} : (α ++ [p])[α.length]? = some p := by simp
theorem snoc_pre {p : Addr} : ∀ (n : Nat) a, α[n]? = some a → (α ++ [p])[n]? = some a := fun n a e => by
  rw [List.getElem?_append_left (getElem?_lt e)]
  exact e
theorem snoc_cases {β : Type} {l : List β} {p a : β} {n : Nat} (e : (l ++ [p])[n]? = some a) : l[n]? = some a ∨ (n = l.length ∧ a = p) := by
  by_cases h : n < l.length
  · rw [List.getElem?_append_left h] at e
    exact .inl e
  · rw [List.getElem?_append_right (by omega)] at e
    have : n - l.length = 0 := by
      cases q : n - l.length with
      | zero => rfl
      | succ k => rw [q] at e; simp at e
    rw [this] at e
    simp at e
    exact .inr ⟨by omega, e.symm⟩
theorem nodup_snoc {l : List Addr} {p : Addr} (h : l.Nodup) (n : p ∉ l) : (l ++ [p]).Nodup := by
  induction l with
  | nil => simp
  | cons a r ih =>
    obtain ⟨h1, h2⟩ := List.nodup_cons.mp h
    rw [List.cons_append]
    refine List.nodup_cons.mpr ⟨fun m => ?_, ih h2 fun m => n (List.mem_cons_of_mem _ m)⟩
    rcases List.mem_append.mp m with m | m
    · exact h1 m
    · exact n (List.mem_cons.mpr (.inl (List.mem_singleton.mp m).symm))
theorem Rep.new {p : Addr} {o : O} {ho : HO} (R : Rep T A K α hs H) (hp : H p = none) (r : RO T A (α ++ [p]) (upd H p ho) p o) : Rep T A K (α ++ [p]) (hs ++ [o]) (upd H p ho) ∧ Ext α (α ++ [p]) H (upd H p ho) := by
  have ne : ∀ b x, H b = some x → b ≠ p := fun b x e z => by rw [z, hp] at e; cases e
  refine ⟨⟨⟨by simp [R.h.len], nodup_snoc R.h.nd (R.h.notIn hp), fun n a ob e1 e2 => ?_⟩, R.s.keep fun x e _ => by rw [upd_ne (ne _ _ e)]; exact e⟩, ⟨snoc_pre, fun n a e l => ?_, fun b x e _ => by rw [upd_ne (ne _ _ e)]; exact e⟩⟩
  · rcases snoc_cases e1 with q | ⟨q1, q2⟩
    · rcases snoc_cases e2 with z | ⟨z, _⟩
      · exact RO.keep (R.h.ob n a ob q z) snoc_pre fun x e => by rw [upd_ne (ne _ _ e)]; exact e
      · have := getElem?_lt q
        rw [R.h.len] at this
        omega
    · subst q2
      rcases snoc_cases e2 with z | ⟨_, z⟩
      · have := (List.getElem?_eq_some_iff.mp z).1
        rw [← R.h.len] at this
        omega
      · subst z
        exact r
  · rcases snoc_cases e with q | ⟨_, q⟩
    · have := getElem?_lt q
      omega
    · rw [q]; exact hp
theorem Rep.put {n : Nat} {a : Addr} {o : O} {ho : HO} (R : Rep T A K α hs H) (ha : α[n]? = some a) (r : RO T A α (upd H a ho) a o) : Rep T A K α (hs.set n o) (upd H a ho) ∧ Ext α α H (upd H a ho) := by
  have ta := R.h.trk ha
  obtain ⟨o0, _, r0⟩ := ta
  obtain ⟨x0, e0, nf⟩ := r0.trk
  refine ⟨⟨⟨by simp [R.h.len], R.h.nd, fun m b ob e1 e2 => ?_⟩, R.s.keep fun x e z => ?_⟩, ⟨fun _ _ e => e, fun m b e l => by have := getElem?_lt e; omega, fun b x e hb => ?_⟩⟩
  · by_cases hm : m = n
    · subst hm
      rw [ha] at e1
      cases e1
      have l : m < hs.length := by rw [← R.h.len]; exact getElem?_lt ha
      rw [List.getElem?_set_self l] at e2
      cases e2
      exact r
    · rw [List.getElem?_set_ne (Ne.symm hm)] at e2
      have hb : b ≠ a := fun z => hm (nodup_at R.h.nd (z ▸ e1) ha)
      exact RO.keep (R.h.ob m b ob e1 e2) (fun _ _ e => e) fun x e => by rw [upd_ne hb]; exact e
  · obtain ⟨ob, u, z⟩ := z
    have hb : A.s ≠ a := fun q => by rw [q, e0] at e; cases e; exact nf _ _ z
    rw [upd_ne hb]
    exact e
  · have hb' : b ≠ a := fun z => hb (z ▸ List.mem_of_getElem? ha)
    rw [upd_ne hb']
    exact e
theorem RS.get (R : RS A α ρ σ) {i : Nat} {u : U} (e : ρ[i]? = some (some u)) : ∃ v, σ[i]? = some (some v) ∧ RU A α u v := R.val i u e
theorem RS.set (R : RS A α ρ σ) (i : Nat) (r : RU A α u v) : RS A α (ρ.set i (some u)) (σ.set i (some v)) := by
  refine ⟨by simp [R.len], fun j w e => ?_⟩
  by_cases h : j = i
  · subst h
    have l : j < ρ.length := by
      have := (List.getElem?_eq_some_iff.mp e).1
      simpa using this
    rw [List.getElem?_set_self l] at e
    cases e
    exact ⟨v, List.getElem?_set_self (by rw [← R.len]; exact l), r⟩
  · rw [List.getElem?_set_ne (Ne.symm h)] at e
    rw [List.getElem?_set_ne (Ne.symm h)]
    exact R.val j w e
end
def flE (A : Adr) (α : List Addr) (D : Ends) (σ : St) (H : Hp) : Fl → Prop
  | .next => D.nx σ H
  | .brk => D.bk σ H
  | .cont => D.ct σ H
  | .ret u => ∀ v, RU A α u v → D.rt v H
section
variable (T : Tbl) (A : Adr) (K : PySem.W.Frag)
def TI (f : Rho → Hs → Option (U × Hs)) : TE := fun σ H Q => ∃ α ρ hs u hs', RS A α ρ σ ∧ Rep T A K α hs H ∧ f ρ hs = some (u, hs') ∧
  ∀ α' v H', Ext α α' H H' → Rep T A K α' hs' H' → RU A α' u v → Q v H'
def TIT (f : Rho → Hs → Option (Bool × Hs)) : TT := fun σ H Q => ∃ α ρ hs u hs', RS A α ρ σ ∧ Rep T A K α hs H ∧ f ρ hs = some (u, hs') ∧
  ∀ α' H', Ext α α' H H' → Rep T A K α' hs' H' → Q u H'
def TIA (f : Rho → Hs → Option (List U × Hs)) : TA := fun σ H Q => ∃ α ρ hs us hs', RS A α ρ σ ∧ Rep T A K α hs H ∧ f ρ hs = some (us, hs') ∧
  ∀ α' vs H', Ext α α' H H' → Rep T A K α' hs' H' → RUs A α' us vs → Q vs H'
def TIS (f : Ex) : TS := fun D σ H => ∃ α ρ hs fl ρ' hs', RS A α ρ σ ∧ Rep T A K α hs H ∧ f ρ hs = some (fl, ρ', hs') ∧
  ∀ α' σ' H', Ext α α' H H' → Rep T A K α' hs' H' → RS A α' ρ' σ' → flE A α' D σ' H' fl
end
section
variable {T : Tbl} {A : Adr} {K : PySem.W.Frag} {α : List Addr} {ρ : Rho} {σ : St} {hs h1 : Hs} {H : Hp}
theorem TI.run {f : Rho → Hs → Option (U × Hs)} {u : U} {Q : VK} (rs : RS A α ρ σ) (rp : Rep T A K α hs H) (h : f ρ hs = some (u, h1))
    (k : ∀ α1 v H1, Ext α α1 H H1 → Rep T A K α1 h1 H1 → RU A α1 u v → RS A α1 ρ σ → Q v H1) : TI T A K f σ H Q :=
  ⟨α, ρ, hs, u, h1, rs, rp, h, fun α1 v H1 e r q => k α1 v H1 e r q (rs.mono e.pre)⟩
theorem TIT.run {f : Rho → Hs → Option (Bool × Hs)} {u : Bool} {Q : Bool → Hp → Prop} (rs : RS A α ρ σ) (rp : Rep T A K α hs H) (h : f ρ hs = some (u, h1))
    (k : ∀ α1 H1, Ext α α1 H H1 → Rep T A K α1 h1 H1 → RS A α1 ρ σ → Q u H1) : TIT T A K f σ H Q :=
  ⟨α, ρ, hs, u, h1, rs, rp, h, fun α1 H1 e r => k α1 H1 e r (rs.mono e.pre)⟩
theorem TIA.run {f : Rho → Hs → Option (List U × Hs)} {us : List U} {Q : List V → Hp → Prop} (rs : RS A α ρ σ) (rp : Rep T A K α hs H) (h : f ρ hs = some (us, h1))
    (k : ∀ α1 vs H1, Ext α α1 H H1 → Rep T A K α1 h1 H1 → RUs A α1 us vs → RS A α1 ρ σ → Q vs H1) : TIA T A K f σ H Q :=
  ⟨α, ρ, hs, us, h1, rs, rp, h, fun α1 v H1 e r q => k α1 v H1 e r q (rs.mono e.pre)⟩
end
section
variable {X : Cx}
theorem PEimp {e : Expr} {t t' : TE} (h : PE X e t) (i : ∀ σ H Q, t' σ H Q → t σ H Q) : PE X e t' := fun pins s σ H Q I q => h pins s σ H Q I (i σ H Q q)
theorem PTimp {e : Expr} {t t' : TT} (h : PT X e t) (i : ∀ σ H Q, t' σ H Q → t σ H Q) : PT X e t' := fun pins s σ H Q I q => h pins s σ H Q I (i σ H Q q)
theorem PWimp {e : Expr} {t t' : TT} (h : PW X e t) (i : ∀ σ H Q, t' σ H Q → t σ H Q) : PW X e t' := fun wh pins s σ H Q I q => h wh pins s σ H Q I (i σ H Q q)
theorem PAimp {es : List Expr} {t t' : TA} (h : PA X es t) (i : ∀ σ H Q, t' σ H Q → t σ H Q) : PA X es t' := fun pos pins s σ H Q I q => h pos pins s σ H Q I (i σ H Q q)
theorem PSimp {st : Stmt} {t t' : TS} (h : PS X st t) (i : ∀ D σ H, t' D σ H → t D σ H) : PS X st t' := fun pins s σ H D I q => h pins s σ H D I (i D σ H q)
theorem PSsimp {st : List Stmt} {t t' : TS} (h : PSs X st t) (i : ∀ D σ H, t' D σ H → t D σ H) : PSs X st t' := fun pins s σ H D I q => h pins s σ H D I (i D σ H q)
end
end Iv
namespace Iv
open PySem PySem.Spec PyProof.Rows L2
def tyV : Ty → String
  | .non => "NoneType" | .bool => "bool" | .int => "int" | .str => "str" | .list => "list" | .tuple => "tuple" | .dict => "dict" | .cls _ => "object"
def tyW (A : Adr) : Ty → Value
  | .cls c => .ref (A.c c)
  | t => .type (tyV t)
structure ClOk (T : Tbl) (A : Adr) (K : PySem.W.Frag) (i : Nat) (C : Cl) : Prop where
  cls : Cls K (A.c i)
  nf : ∀ x ∈ T.fns', NoAttr K (A.c i) x
  me : ∀ m f, C.meths.lookup m = some f → ∃ x, T.mns[m]? = some x ∧ Meth K (A.c i) x (A.f f)
  mks : PySem.W.makesIn K (A.c i) = true
  kp : PySem.W.keepIn K (.ref (A.c i)) = true
  ini : match C.init with
    | some f => PySem.W.findIn K (.ref (A.c i)) "__init__" = some (some (.ref (A.f f))) ∧ PySem.W.isFn K (.ref (A.f f)) = true
    | none => PySem.W.findIn K (.ref (A.c i)) "__init__" = some (some (.builtin "object.__init__"))
  ty : ∀ (H : Hp) (a dx : Addr) (fs : List (Str × V)), H a = some (.ins (A.c i) dx fs) → TyOf K H (.ref a) (.ref (A.c i))
structure FunD (K : PySem.W.Frag) (x qual : Str) (st : Stmt) (f : Addr) (fd : FuncData) : Prop where
  ex : ∃ (oc : Value) (od : Option Addr) (dV kV doc pm : Value) (an : Option Addr) (cdv ct : Value) (osl : Array (Option Value)),
    fd = PySem.W.fnOf x qual (defArgs st) (defBody st) (defScope st) dV kV doc pm an cdv ct ∧ K.lookup f = some ⟨oc, od, .func fd, osl⟩ ∧ PySem.W.codeIn K cdv qual = true
  kp : PySem.W.keepIn K (.ref f) = true
theorem FunD.ok {P : Program} {w : World} {K : PySem.W.Frag} {mg : Str → Option Value} {base : Heap} {x qual : Str} {st : Stmt} {f : Addr} {fd : FuncData} {N ps : List Str} {k : Nat} {sp : Sp} (F : FunD K x qual st f fd) (S : FnScope N ps (defScope st)) (len : ∀ vs H Q E, sp vs H Q E → vs.length = ps.length)
    (hbody : ∀ (cdv : Value) (A : Around) (outer : List Env) (s : Shared) (H : Hp) (vs : List V) (Q : VK) (E : XK), Room k (A.deeper (envOfC qual (defScope st) s.heap.objs.size f cdv)) → sp vs H Q E →
      ∃ t, PSs (cxOf CX0 P w K mg base N qual (defScope st) f cdv A outer s H E).nox (defBody st) t ∧ t { nx := fun _ H' => Q .non H', rt := Q } (start N vs) H) : FnOk P w K mg base CX0 (k + 1) f fd ps sp := by
  obtain ⟨oc, od, dV, kV, doc, pm, an, cdv, ct, osl, rfl, lk, hcd⟩ := F.ex
  refine fn_of lk hcd S len fun A outer s H vs Q E hr hsp => ?_
  obtain ⟨t, h, q⟩ := hbody cdv A outer s H vs Q E hr hsp
  exact ⟨t, h.nox, q⟩
theorem FunD.same {K : PySem.W.Frag} {x y q q' : Str} {st st' : Stmt} {f : Addr} {fd fd' : FuncData} (a : FunD K x q st f fd) (b : FunD K y q' st' f fd') : fd = fd' := by
  obtain ⟨_, _, _, _, _, _, _, _, _, _, _, l1, _⟩ := a.ex
  obtain ⟨_, _, _, _, _, _, _, _, _, _, _, l2, _⟩ := b.ex
  rw [l1] at l2
  cases l2
  rfl
def kg {β : Type} (us ws : List β) : List β := us ++ ws.take 1
def DfOk (A : Adr) (K : PySem.W.Frag) (fd : FuncData) (D : Df) : Prop := ∃ (ds : List Value) (dvs : List V), RUs A [] D.ds dvs ∧ Vals dvs ds ∧ (∀ n, Binds K fd D.ps (ds.drop n)) ∧ KBinds K fd D.ps [D.last] kg kg
structure Txt (T : Tbl) (A : Adr) (K : PySem.W.Frag) (mg : Str → Option Value) : Prop where
  fn : ∀ i F, T.fns[i]? = some F → ∃ fd, FunD K F.name F.qual F.st (A.f i) fd ∧ Binds K fd F.ps [] ∧ FnScope F.N F.ps (defScope F.st) ∧ F.ps.length = F.np ∧ F.N.length = F.nN
  df : ∀ i D, T.dfl.lookup i = some D → ∃ fd x q st, FunD K x q st (A.f i) fd ∧ DfOk A K fd D ∧ ∀ F, T.fns[i]? = some F → F.ps = D.ps ∧ F.np = D.np
  cl : ∀ i C, T.cls[i]? = some C → ClOk T A K i C
  fm : ∀ x ∈ T.fns', x ∉ T.mns
  fd : T.fns'.Nodup
  isi : ∀ k t b, T.isi.lookup (k, t) = some b → PySem.W.kitOne K (tyW A k) (tyW A t) = some b
  co : ∀ k c, T.cons[k]? = some c → match c with
    | Co.tup xs => ∃ vs, RUs A [] xs vs ∧ ∀ H, SqT K H (A.k k) vs
    | Co.lst xs => ∃ vs, RUs A [] xs vs ∧ ∀ H, SqL K H (A.k k) vs
    | Co.tab _ => True
def keyR : U → Key → Prop
  | .int i 0, k => k = .inl i
  | .str x, k => k = .inr ⟨x.toArray⟩
  | _, _ => False
def TabOk (P : Program) (w : World) (T : Tbl) (A : Adr) (K : PySem.W.Frag) : Prop := ∀ k kvs, T.cons[k]? = some (.tab kvs) →
  ∃ vs : List (Key × Value), (A.k k == sysModules) = false ∧ (∀ h : Heap, K.In h → h.DictOf (mixKind P w) (A.k k) vs) ∧ Paired (fun (p : U × U) (q : Key × Value) => keyR p.1 q.1 ∧ ∃ v, RU A [] p.2 v ∧ RelV v q.2) kvs vs
structure GX (T : Tbl) (A : Adr) (C : Ctx) (X : Cx) : Prop where
  CT : C.T = T
  N : X.N = C.N
  nd : X.N.Nodup
  sc : X.env.scope.names = C.names
  calm : X.calm = true
  kind : X.env.scope.kind = .function
  xe : X.xe = fun _ _ => False
  gfn : ∀ x i, C.gl.lookup x = some (.fn i) → X.mg x = some (.ref (A.f i))
  gcl : ∀ x i, C.gl.lookup x = some (.cls i) → X.mg x = some (.ref (A.c i))
  gco : ∀ x k, C.gl.lookup x = some (.con k) → X.mg x = some (.ref (A.k k))
  gtx : ∀ x t, C.gl.lookup x = some (.txt t) → ∃ k, X.mg x = some (.str ⟨t.toArray⟩ k)
  blt : ∀ x, ¬ C.bl.contains x = false → X.mg x = none
  txt : Txt T A X.K X.mg
  tab : TabOk X.prog X.w T A X.K
def spC (T : Tbl) (A : Adr) (K : PySem.W.Frag) (cf : Cf) (f : Nat) : Sp := fun vs H Q _ => ∃ α us hs u hs', RUs A α us vs ∧ Rep T A K α hs H ∧ cf f us hs = some (u, hs') ∧ (∃ F, T.fns[f]? = some F ∧ us.length = F.np) ∧
  ∀ α' v H', Ext α α' H H' → Rep T A K α' hs' H' → RU A α' u v → Q v H'
theorem idx_get {x : Str} : ∀ {N : List Str} {i : Nat}, idx x N = some i → N[i]? = some x
  | [], _, h => by simp [idx] at h
  | y :: r, i, h => by
    unfold idx at h
    split at h
    · rename_i e
      cases h
      simp [e]
    · cases q : idx x r with
      | none => rw [q] at h; cases h
      | some j =>
        rw [q] at h
        cases h
        simpa using idx_get q
theorem vis_of {T : Tbl} {A : Adr} {C : Ctx} {X : Cx} {x : Str} (g : GX T A C X) (h : isVis C x = true) : Vis X.env.scope x := by
  unfold isVis at h
  unfold Vis
  rw [g.sc]
  split at h <;> simp_all
theorem loc_of {T : Tbl} {A : Adr} {C : Ctx} {X : Cx} {x : Str} (g : GX T A C X) (h : isLoc C x = true) : L2.Loc X.env.scope x := by
  unfold isLoc at h
  unfold L2.Loc
  rw [g.sc]
  split at h <;> simp_all
theorem gl_of {T : Tbl} {A : Adr} {C : Ctx} {X : Cx} {x : Str} (g : GX T A C X) (h : isGl C x = true) : Gl X x := by
  unfold isGl at h
  show X.env.scope.names.lookup x = some .globalImplicit
  rw [g.sc]
  split at h
  · assumption
  · cases h
theorem ne_beq {x y : Str} (h : x ≠ y) : (x == y) = false := by simpa using h
theorem noSuper_base {o : Expr} {f : Str} {env : Env} {w : Sem Value} (h : noSuper o = true) : attributeBase o f env w = w := by
  unfold attributeBase
  split
  · cases h
  · rfl
theorem plainIx_of {b : Expr} (h : notSlice b = true) : PlainIx b := by
  intro o i
  cases b <;> first | rfl | cases h
theorem star_cons {e : Expr} {es : List Expr} {env : Env} (h : ∀ x p, e ≠ .Starred x p) : starEach (e :: es) env = (false, eval e env) :: starEach es env := by
  cases e <;> first | rfl | exact absurd rfl (h _ _)
def NoStar (es : List Expr) : Prop := ∀ e ∈ es, ∀ x p, e ≠ .Starred x p
theorem star_any {env : Env} {pos : Pos} : ∀ {es : List Expr}, NoStar es → (backTo pos (starEach es env)).any (·.1) = false
  | [], _ => rfl
  | e :: r, h => by
    rw [star_cons (h e (List.mem_cons_self ..))]
    have ih := star_any (env := env) (pos := pos) (es := r) fun x hx => h x (List.mem_cons_of_mem _ hx)
    unfold backTo at ih ⊢
    rw [List.map_cons, List.any_cons, ih]
    rfl
theorem compE_noStar {m : Nat} {C : Ctx} {e : Expr} {ir : E} (h : compE m C e = some ir) : ∀ x p, e ≠ .Starred x p := by
  rintro x p rfl
  cases m <;> simp [compE] at h
theorem compA_noStar {C : Ctx} : ∀ {m : Nat} {es : List Expr} {irs : List E}, compA m C es = some irs → NoStar es
  | 0, _, _, h => by simp [compA] at h
  | m + 1, [], _, _ => fun _ h => nomatch h
  | m + 1, e :: r, irs, h => by
    simp only [compA, Option.bind_eq_some_iff] at h
    obtain ⟨e', he, r', hr, _⟩ := h
    intro x hx
    rcases List.mem_cons.mp hx with rfl | hx
    · exact compE_noStar he
    · exact compA_noStar hr x hx
section
variable {T : Tbl} {A : Adr} {K : PySem.W.Frag} {α : List Addr} {hs hs' : Hs} {H : Hp} {u w : U} {v y : V}
theorem RUs.length {us : List U} {vs : List V} (r : RUs A α us vs) : us.length = vs.length := Paired.length r
theorem RUs.get : ∀ {us : List U} {vs : List V} {i : Nat} {u : U}, RUs A α us vs → us[i]? = some u → ∃ v, vs[i]? = some v ∧ RU A α u v
  | _, _, _, _, .nil, e => by simp at e
  | _, _, 0, _, .cons r _, e => by simp at e; subst e; exact ⟨_, rfl, r⟩
  | _, _, i + 1, u, .cons _ t, e => by
    obtain ⟨v, h1, h2⟩ := RUs.get (i := i) (u := u) t (by simpa using e)
    exact ⟨v, by simpa using h1, h2⟩
theorem RUs.append : ∀ {us ws : List U} {vs ys : List V}, RUs A α us vs → RUs A α ws ys → RUs A α (us ++ ws) (vs ++ ys)
  | _, _, _, _, .nil, s => s
  | _, _, _, _, .cons r t, s => .cons r (RUs.append t s)
theorem seqU_ok {xs : List U} {K' : PySem.W.Frag} {mg : Str → Option Value} (tx : Txt T A K mg) (R : Rep T A K α hs H) (h : seqU T u hs = some xs) (r : RU A α u v) : ∃ a vs, v = .ref a ∧ RUs A α xs vs ∧ (SqL K H a vs ∨ SqT K H a vs) := by
  cases u with
  | ref n =>
    obtain ⟨a, ha, rfl⟩ := r
    simp only [seqU] at h
    split at h
    · rename_i ys e
      cases h
      obtain ⟨vs, q, rr⟩ := R.h.ob n a _ ha e
      exact ⟨a, vs, rfl, rr, .inl (SqL.of q)⟩
    · rename_i ys e
      cases h
      obtain ⟨vs, q, rr⟩ := R.h.ob n a _ ha e
      exact ⟨a, vs, rfl, rr, .inr (SqT.of q)⟩
    · cases h
  | con k =>
    simp only [seqU] at h
    split at h
    · rename_i ys e
      cases h
      obtain ⟨vs, rr, q⟩ := tx.co k _ e
      exact ⟨_, vs, r, RUs.mono (fun n a e => by simp at e) rr, .inl (q H)⟩
    · rename_i ys e
      cases h
      obtain ⟨vs, rr, q⟩ := tx.co k _ e
      exact ⟨_, vs, r, RUs.mono (fun n a e => by simp at e) rr, .inr (q H)⟩
    · cases h
  | scr =>
    simp only [seqU] at h
    cases h
    obtain ⟨vs, rr, q⟩ := R.s.sq (α := α)
    exact ⟨_, vs, r, rr, .inl q⟩
  | _ => simp [seqU] at h
theorem cps_str (x : List Nat) : ({ cps := x.toArray } : Str).length = x.length := by simp [Str.length]
theorem big : (1000000 : Nat) ≤ sizeLine := by decide
theorem truU_ok {b : Bool} {mg : Str → Option Value} (tx : Txt T A K mg) (R : Rep T A K α hs H) (h : truU T u hs = some b) (r : RU A α u v) : TruV K v H b := by
  have sq : ∀ {xs : List U}, seqU T u hs = some xs → b = !xs.isEmpty → TruV K v H b := fun {xs} e1 e2 => by
    obtain ⟨a, vs, rfl, rr, q⟩ := seqU_ok (K' := K) tx R e1 r
    have e3 : b = !vs.isEmpty := by
      rw [e2]
      cases rr <;> rfl
    rcases q with q | q
    · exact .inl ⟨vs, q, e3⟩
    · exact .inr (.inl ⟨vs, q, e3⟩)
  cases u with
  | non => simp only [truU] at h; cases h; cases r; rfl
  | bl c => simp only [truU] at h; cases h; cases r; rfl
  | int i m =>
    cases m with
    | zero =>
      simp only [truU] at h
      cases h
      obtain ⟨j, rfl, c⟩ := r
      cases c.exact
      show decide (i ≠ 0) = (i != 0)
      by_cases q : i = 0 <;> simp [q]
    | succ m => simp [truU, seqU] at h
  | str x =>
    simp only [truU] at h
    split at h
    · rename_i l
      cases h
      cases (show v = .str ⟨x.toArray⟩ from r)
      refine ⟨by rw [cps_str]; exact Nat.le_trans l big, ?_⟩
      rw [cps_str]
      cases x <;> simp
      omega
    · cases h
  | ref n =>
    simp only [truU, Option.map_eq_some_iff] at h
    obtain ⟨xs, e1, e2⟩ := h
    exact sq e1 e2.symm
  | con n =>
    simp only [truU, Option.map_eq_some_iff] at h
    obtain ⟨xs, e1, e2⟩ := h
    exact sq e1 e2.symm
  | scr =>
    simp only [truU, Option.map_eq_some_iff] at h
    obtain ⟨xs, e1, e2⟩ := h
    exact sq e1 e2.symm
end
end Iv
namespace Iv
open PySem PySem.Spec PyProof.Rows L2
theorem cg_add {i' i j' j : Int} {m n : Nat} (a : Cg i' i m) (b : Cg j' j n) : Cg (i' + j') (i + j) (gz m n) := by
  obtain ⟨p, rfl⟩ := a
  obtain ⟨q, rfl⟩ := b
  cases m with
  | zero => exact ⟨q, by simp [gz]; omega⟩
  | succ m =>
    obtain ⟨x, hx⟩ := Nat.gcd_dvd_left (m + 1) n
    obtain ⟨y, hy⟩ := Nat.gcd_dvd_right (m + 1) n
    refine ⟨x * p + y * q, ?_⟩
    have e1 : ((m + 1 : Nat) : Int) = (Nat.gcd (m + 1) n : Int) * (x : Int) := by
      have := congrArg (fun z : Nat => (z : Int)) hx
      simpa using this
    have e2 : (n : Int) = (Nat.gcd (m + 1) n : Int) * (y : Int) := by
      have := congrArg (fun z : Nat => (z : Int)) hy
      simpa using this
    show i + ((m + 1 : Nat) : Int) * p + (j + (n : Int) * q) = i + j + (Nat.gcd (m + 1) n : Int) * (x * p + y * q)
    rw [Int.mul_add, ← Int.mul_assoc, ← Int.mul_assoc, ← e1, ← e2]
    omega
theorem cg_neg {i' i : Int} {m : Nat} (a : Cg i' i m) : Cg (-i') (-i) m := by
  obtain ⟨p, rfl⟩ := a
  exact ⟨-p, by rw [Int.mul_neg]; omega⟩
theorem cg_sub {i' i j' j : Int} {m n : Nat} (a : Cg i' i m) (b : Cg j' j n) : Cg (i' - j') (i - j) (gz m n) := by
  have := cg_add a (cg_neg b)
  rw [Int.sub_eq_add_neg, Int.sub_eq_add_neg]
  exact this
theorem cg_mul {i' i j : Int} {m : Nat} (a : Cg i' i m) : Cg (i' * j) (i * j) (m * j.natAbs) := by
  obtain ⟨p, rfl⟩ := a
  rcases Int.natAbs_eq j with e | e
  · refine ⟨p, ?_⟩
    rw [Int.add_mul, Int.natCast_mul, ← e, Int.mul_right_comm]
  · refine ⟨-p, ?_⟩
    have e' : (j.natAbs : Int) = -j := by omega
    rw [Int.add_mul, Int.natCast_mul, e', Int.mul_neg, Int.mul_neg, Int.neg_mul, Int.neg_neg, Int.mul_right_comm]
theorem cg_div {i' i j : Int} {m : Nat} (a : Cg i' i m) (hj : 0 < j) (hd : m % j.toNat = 0) : Cg (i' / j) (i / j) (m / j.toNat) := by
  obtain ⟨p, rfl⟩ := a
  have e : (m : Int) = j * ((m / j.toNat : Nat) : Int) := by
    have h := Nat.div_add_mod m j.toNat
    rw [hd, Nat.add_zero] at h
    have h2 := congrArg (fun z : Nat => (z : Int)) h
    have h3 : ((j.toNat : Nat) : Int) = j := by omega
    simp only [Int.natCast_mul, h3] at h2
    exact h2.symm
  refine ⟨p, ?_⟩
  rw [e, Int.mul_assoc, Int.add_mul_ediv_left _ _ (by omega)]
theorem cg_mod {i' i j : Int} {m : Nat} (a : Cg i' i m) (hj : 0 < j) (hd : m % j.toNat = 0) : i' % j = i % j := by
  obtain ⟨p, rfl⟩ := a
  have e : (m : Int) = j * ((m / j.toNat : Nat) : Int) := by
    have h := Nat.div_add_mod m j.toNat
    rw [hd, Nat.add_zero] at h
    have h2 := congrArg (fun z : Nat => (z : Int)) h
    have h3 : ((j.toNat : Nat) : Int) = j := by omega
    simp only [Int.natCast_mul, h3] at h2
    exact h2.symm
  rw [e, Int.mul_assoc, Int.add_mul_emod_self_left]
theorem small64_of {i : Int} (h : small64 i = true) : -(2 ^ 64) < i ∧ i < 2 ^ 64 := by
  unfold small64 at h
  rw [Bool.and_eq_true, decide_eq_true_eq, decide_eq_true_eq] at h
  exact h
theorem str_app (x y : List Nat) : ({ cps := x.toArray } : Str) ++ ({ cps := y.toArray } : Str) = { cps := (x ++ y).toArray } := by
  show Str.append _ _ = _
  simp [Str.append]
def OpS (X : Cx) (T : Tbl) (A : Adr) (o : Operator) : Prop := ∃ r, OpR X (binaryOp o) r ∧ ∀ {α : List Addr} {u w u' : U} {hs hs' : Hs} {v y : V} {H : Hp} {Q : VK}, opU o u w hs = some (u', hs') → RU A α u v → RU A α w y → Rep T A X.K α hs H →
  (∀ α' v' H', Ext α α' H H' → Rep T A X.K α' hs' H' → RU A α' u' v' → Q v' H') → r v y H Q
section
variable {X : Cx} {T : Tbl} {A : Adr}
theorem opS_none {o : Operator} (h : ∀ u w hs, opU o u w hs = none) : OpS X T A o := ⟨fun _ _ _ _ => False, fun _ _ _ _ _ _ _ _ _ _ _ _ h => h.elim, fun e => by rw [h] at e; cases e⟩
theorem opS_by {o : Operator} {f : U → U → Option U} {r : R2} (ho : OpR X (binaryOp o) r) (hf : ∀ u w hs, opU o u w hs = (f u w).map fun z => (z, hs))
    (h : ∀ {α : List Addr} {u w z : U} {v y : V} {H : Hp} {Q : VK}, f u w = some z → RU A α u v → RU A α w y → (∀ v', RU A α z v' → Q v' H) → r v y H Q) : OpS X T A o := by
  refine ⟨r, ho, ?_⟩
  intro α u w u' hs hs' v y H Q e ru rw R k
  rw [hf, Option.map_eq_some_iff] at e
  obtain ⟨z, e, q⟩ := e
  cases q
  exact h e ru rw fun v' r' => k α v' H Ext.refl R r'
theorem exactU {α : List Addr} {i : Int} {v : V} (r : RU A α (.int i 0) v) : v = .int i := by
  obtain ⟨j, rfl, c⟩ := r
  cases c.exact
  rfl
theorem opS_sub : OpS X T A .Sub := opS_by op_sub (fun _ _ _ => rfl) fun {α u w z v y H Q} h ru rw k => by
  unfold subI at h
  split at h
  · cases h
    obtain ⟨i', rfl, a⟩ := ru
    obtain ⟨j', rfl, b⟩ := rw
    exact ⟨i', j', rfl, rfl, k _ ⟨_, rfl, cg_sub a b⟩⟩
  · cases h
theorem op_mulB : OpR X (binaryOp .Mult) (rI IntMulOk fun i j => .int (i * j)) := opI fun _ _ _ _ _ _ _ hc q => mul_int q hc
theorem bits_of {i : Int} (h : bigOk i = true) : Builtin.Int.intBits i ≤ 4096 := by
  have h := of_decide_eq_true h
  unfold Builtin.Int.intBits
  split
  · omega
  · rename_i z
    have n0 : i.natAbs ≠ 0 := by simpa using z
    exact Nat.succ_le_of_lt ((Nat.log2_lt n0).mpr h)
theorem mul_ok {i j : Int} (h : (small64 i || small64 j || (bigOk i && bigOk j)) = true) : IntMulOk i j := by
  rw [Bool.or_eq_true, Bool.or_eq_true, Bool.and_eq_true] at h
  rcases h with (h | h) | h
  · exact CMul.ok (.inl (small64_of h))
  · exact CMul.ok (.inr (small64_of h))
  · have h1 := bits_of h.1
    have h2 := bits_of h.2
    unfold IntMulOk
    have : Builtin.Int.intTooBig (Builtin.Int.intBits i + Builtin.Int.intBits j) = false := by
      unfold Builtin.Int.intTooBig
      rw [bitsLine_eq]
      exact decide_eq_false (by omega)
    rw [this]
    simp
theorem RUs.rep {α : List Addr} {us : List U} {vs : List V} (r : RUs A α us vs) : ∀ n : Nat, RUs A α (List.replicate n us).flatten (List.replicate n vs).flatten
  | 0 => .nil
  | n + 1 => by
    rw [List.replicate_succ, List.replicate_succ, List.flatten_cons, List.flatten_cons]
    exact RUs.append r (RUs.rep r n)
theorem opS_mul : OpS X T A .Mult := by
  refine ⟨_, OpR.or op_mulB op_rep, ?_⟩
  intro α u w u' hs hs' v y H Q e ru rw R k
  by_cases isr : ∃ a, u = .ref a
  · obtain ⟨a, rfl⟩ := isr
    simp only [opU] at e
    unfold repI at e
    split at e
    · rename_i xs j e1
      split at e
      · rename_i c
        cases e
        cases exactU rw
        obtain ⟨pa, ha, rfl⟩ := ru
        obtain ⟨vs, q1, r1⟩ := R.h.ob _ pa _ ha e1
        refine .inr ⟨pa, j, vs, rfl, rfl, q1, c.1, c.2.1, ?_, fun p hp => ?_⟩
        · rw [← r1.length]; exact Nat.le_trans c.2.2 big
        · obtain ⟨R', E'⟩ := R.new (o := .lst (List.replicate j.toNat xs).flatten) hp ⟨_, upd_same, RUs.mono snoc_pre (r1.rep j.toNat)⟩
          exact k _ _ _ E' R' ⟨p, by rw [← R.h.len]; exact snoc_at, rfl⟩
      · cases e
    · cases e
  have e : (mulI u w).map (fun r => (r, hs)) = some (u', hs') := by
    cases u with
    | ref a => exact absurd ⟨a, rfl⟩ isr
    | _ => exact e
  rw [Option.map_eq_some_iff] at e
  obtain ⟨z, h, q⟩ := e
  cases q
  refine .inl ?_
  have k : ∀ v', RU A α u' v' → Q v' H := fun v' r' => k α v' H Ext.refl R r'
  unfold mulI at h
  split at h
  · split at h
    · rename_i c
      cases h
      cases exactU ru
      cases exactU rw
      exact ⟨_, _, rfl, rfl, mul_ok c, k _ ⟨_, rfl, Cg.refl _ _⟩⟩
    · cases h
  · split at h
    · rename_i c
      cases h
      obtain ⟨i', rfl, a⟩ := ru
      cases exactU rw
      exact ⟨i', _, rfl, rfl, CMul.ok (.inr (small64_of c)), k _ ⟨_, rfl, cg_mul a⟩⟩
    · cases h
  · cases h
def CDivL (i j : Int) : Prop := 0 < j ∧ j < 1606938044258990275541962092341162602522202993782792835301376
theorem op_fdivL {X : Cx} : OpR X (binaryOp .FloorDiv) (rI CDivL fun i j => .int (i / j)) := opI fun i j _ _ _ _ _ hc q => by
  have h1 : (0 : Int) < j := hc.1
  have h2 : j < 1606938044258990275541962092341162602522202993782792835301376 := hc.2
  have h3 : j.natAbs.log2 < 9000 := by
    have h4 : j.natAbs < 2 ^ 9000 := Nat.lt_of_lt_of_le (show j.natAbs < 2 ^ 200 by omega) (Nat.pow_le_pow_right (by decide) (by decide))
    rcases Nat.eq_zero_or_pos j.natAbs with z | z
    · rw [z]; decide
    · exact (Nat.log2_lt (by omega)).mpr h4
  exact floordiv_int (by omega) (by rw [Int.fdiv_eq_ediv_of_nonneg i (by omega)]; exact q) (.inl (PyProof.noPylong_of_log2 h3))
theorem opS_fdiv : OpS X T A .FloorDiv := opS_by op_fdivL (fun _ _ _ => rfl) fun {α u w z v y H Q} h ru rw k => by
  unfold divI at h
  split at h
  · split at h
    · rename_i c
      cases h
      cases exactU ru
      cases exactU rw
      simp only [Bool.and_eq_true, decide_eq_true_eq] at c
      exact ⟨_, _, rfl, rfl, c, k _ ⟨_, rfl, Cg.refl _ _⟩⟩
    · cases h
  · split at h
    · rename_i c
      cases h
      obtain ⟨i', rfl, a⟩ := ru
      cases exactU rw
      simp only [Bool.and_eq_true, decide_eq_true_eq] at c
      exact ⟨i', _, rfl, rfl, c.1, k _ ⟨_, rfl, cg_div a c.1.1 c.2⟩⟩
    · cases h
  · cases h
theorem opS_mod : OpS X T A .Mod := opS_by op_mod (fun _ _ _ => rfl) fun {α u w z v y H Q} h ru rw k => by
  unfold modI at h
  split at h
  · split at h
    · rename_i c
      cases h
      cases exactU ru
      cases exactU rw
      exact ⟨_, _, rfl, rfl, c, k _ ⟨_, rfl, Cg.refl _ _⟩⟩
    · cases h
  · split at h
    · rename_i c
      cases h
      obtain ⟨i', rfl, a⟩ := ru
      cases exactU rw
      simp only [Bool.and_eq_true, decide_eq_true_eq] at c
      exact ⟨i', _, rfl, rfl, c.1, k _ ⟨_, rfl, by rw [cg_mod a c.1 c.2]; exact Cg.refl _ _⟩⟩
    · cases h
  · cases h
theorem opS_pow : OpS X T A .Pow := opS_by op_pow (fun _ _ _ => rfl) fun {α u w z v y H Q} h ru rw k => by
  unfold powI at h
  split at h
  · split at h
    · rename_i i j c
      cases h
      cases exactU ru
      cases exactU rw
      simp only [Bool.and_eq_true, decide_eq_true_eq] at c
      obtain ⟨h1, h2⟩ := small64_of c.2
      exact ⟨_, _, rfl, rfl, ⟨c.1.1, by omega, by omega⟩, k _ ⟨_, rfl, Cg.refl _ _⟩⟩
    · cases h
  · cases h
theorem opS_add : OpS X T A .Add := by
  refine ⟨_, OpR.or op_add (OpR.or op_add_str (OpR.or op_cat (OpR.or op_catT0 op_catT))), ?_⟩
  intro α u w u' hs hs' v y H Q h ru rw R k
  have h : addI u w hs = some (u', hs') := h
  unfold addI at h
  split at h
  · cases h
    obtain ⟨i', rfl, a⟩ := ru
    obtain ⟨j', rfl, b⟩ := rw
    exact .inl ⟨i', j', rfl, rfl, k α _ H Ext.refl R ⟨_, rfl, cg_add a b⟩⟩
  · split at h
    · rename_i c
      cases h
      cases (show v = _ from ru)
      cases (show y = _ from rw)
      refine .inr (.inl ⟨_, _, rfl, rfl, ?_, k α _ H Ext.refl R ?_⟩)
      · rw [cps_str, cps_str]; exact Nat.le_trans c big
      · rw [str_app]; rfl
    · cases h
  · rename_i a b
    obtain ⟨pa, ha, rfl⟩ := ru
    obtain ⟨pb, hb, rfl⟩ := rw
    split at h
    · rename_i ox oy e1 e2
      have o1 := R.h.ob _ pa _ ha e1
      have o2 := R.h.ob _ pb _ hb e2
      unfold catO at h
      split at h
      · rename_i xs ys
        split at h
        · rename_i c
          cases h
          obtain ⟨vs, q1, r1⟩ := o1
          obtain ⟨ws, q2, r2⟩ := o2
          refine .inr (.inr (.inl ⟨pa, pb, vs, ws, rfl, rfl, q1, q2, ?_, fun p hp => ?_⟩))
          · rw [← r1.length, ← r2.length]; exact Nat.le_trans c big
          · obtain ⟨R', E'⟩ := R.new (o := .lst (xs ++ ys)) hp ⟨_, upd_same, RUs.mono snoc_pre (r1.append r2)⟩
            exact k _ _ _ E' R' ⟨p, by rw [← R.h.len]; exact snoc_at, rfl⟩
        · cases h
      · rename_i xs ys
        obtain ⟨vs, q1, r1⟩ := o1
        obtain ⟨ws, q2, r2⟩ := o2
        split at h
        · rename_i z
          cases h
          have z := List.isEmpty_iff.mp z
          subst z
          cases r1
          exact .inr (.inr (.inr (.inl ⟨pa, pb, ws, rfl, rfl, SqT.of q1, SqT.of q2, k α _ H Ext.refl R ⟨pb, hb, rfl⟩⟩)))
        · rename_i nx
          have nv : vs ≠ [] := fun z => nx (by rw [z] at r1; cases r1; rfl)
          split at h
          · rename_i c
            have sz : vs.length + ws.length ≤ sizeLine := by
              rw [← r1.length, ← r2.length]
              exact Nat.le_trans c big
            split at h
            · rename_i z
              cases h
              have z := List.isEmpty_iff.mp z
              subst z
              cases r2
              exact .inr (.inr (.inr (.inr ⟨pa, pb, vs, [], rfl, rfl, SqT.of q1, SqT.of q2, nv, sz, fun _ => k α _ H Ext.refl R ⟨pa, ha, rfl⟩, fun z => absurd rfl z⟩)))
            · rename_i ny
              cases h
              refine .inr (.inr (.inr (.inr ⟨pa, pb, vs, ws, rfl, rfl, SqT.of q1, SqT.of q2, nv, sz, fun z => absurd (by rw [z] at r2; cases r2; rfl) ny, fun _ p hp => ?_⟩)))
              obtain ⟨R', E'⟩ := R.new (o := .tup (xs ++ ys)) hp ⟨_, upd_same, RUs.mono snoc_pre (r1.append r2)⟩
              exact k _ _ _ E' R' ⟨p, by rw [← R.h.len]; exact snoc_at, rfl⟩
          · cases h
      · cases h
    · cases h
  · cases h
theorem opS (o : Operator) : OpS X T A o := by
  cases o with
  | Add => exact opS_add
  | Sub => exact opS_sub
  | Mult => exact opS_mul
  | FloorDiv => exact opS_fdiv
  | Mod => exact opS_mod
  | Pow => exact opS_pow
  | _ => exact opS_none fun u w hs => rfl
end
end Iv
namespace Iv
open PySem PySem.Spec PyProof.Rows L2
section
variable {X : Cx} {T : Tbl} {A : Adr} {α : List Addr} {hs : Hs} {H : Hp} {u w : U} {v y : V}
theorem lstU_ok {xs : List U} (tx : Txt T A X.K X.mg) (R : Rep T A X.K α hs H) (h : lstU T u hs = some xs) (r : RU A α u v) : ∃ a vs, v = .ref a ∧ RUs A α xs vs ∧ SqL X.K H a vs := by
  cases u with
  | ref n =>
    obtain ⟨a, ha, rfl⟩ := r
    simp only [lstU] at h
    split at h
    · rename_i ys e
      cases h
      obtain ⟨vs, q, rr⟩ := R.h.ob n a _ ha e
      exact ⟨a, vs, rfl, rr, SqL.of q⟩
    · cases h
  | con k =>
    simp only [lstU] at h
    split at h
    · rename_i ys e
      cases h
      obtain ⟨vs, rr, q⟩ := tx.co k _ e
      exact ⟨_, vs, r, RUs.mono (fun n a e => by simp at e) rr, q H⟩
    · cases h
  | scr =>
    simp only [lstU] at h
    cases h
    obtain ⟨vs, rr, q⟩ := R.s.sq (α := α)
    exact ⟨_, vs, r, rr, q⟩
  | _ => simp [lstU] at h
theorem tupU_ok {xs : List U} (tx : Txt T A X.K X.mg) (R : Rep T A X.K α hs H) (h : tupU T u hs = some xs) (r : RU A α u v) : ∃ a vs, v = .ref a ∧ RUs A α xs vs ∧ SqT X.K H a vs := by
  cases u with
  | ref n =>
    obtain ⟨a, ha, rfl⟩ := r
    simp only [tupU] at h
    split at h
    · rename_i ys e
      cases h
      obtain ⟨vs, q, rr⟩ := R.h.ob n a _ ha e
      exact ⟨a, vs, rfl, rr, SqT.of q⟩
    · cases h
  | con k =>
    simp only [tupU] at h
    split at h
    · rename_i ys e
      cases h
      obtain ⟨vs, rr, q⟩ := tx.co k _ e
      exact ⟨_, vs, r, RUs.mono (fun n a e => by simp at e) rr, q H⟩
    · cases h
  | _ => simp [tupU] at h
def scP : U → PyData
  | .bl b => .bool b
  | .int i _ => .int i
  | .str x => .str ⟨x.toArray⟩
  | _ => .none
def toP (T : Tbl) : Nat → U → Hs → PyData
  | 0, _, _ => .none
  | n + 1, u, hs => match lstU T u hs with
    | some xs => .list (xs.map fun x => toP T n x hs)
    | none => match tupU T u hs with
      | some xs => .tuple (xs.map fun x => toP T n x hs)
      | none => scP u
theorem reads_all {h : Heap} {f : U → PyData} : ∀ {xs : List U} {vs : List V} {its : List Value}, RUs A α xs vs → Vals vs its → (∀ x ∈ xs, ∀ v u, RU A α x v → RelV v u → ∃ as, Reads h u (f x) as) → ∃ as, ReadsAll h its (xs.map f) as
  | _, _, _, .nil, .nil, _ => ⟨[], .nil⟩
  | _, _, _, .cons (a := x) r t, .cons q p, k => by
    obtain ⟨as, h1⟩ := k x List.mem_cons_self _ _ r q
    obtain ⟨bs, h2⟩ := reads_all t p fun x m => k x (List.mem_cons_of_mem _ m)
    exact ⟨as ++ bs, .cons h1 h2⟩
theorem reads_ok {pins : List (Addr × Obj)} {s : Shared} {σ : L2.St} (tx : Txt T A X.K X.mg) (I : Inv X pins σ H s) (R : Rep T A X.K α hs H) : ∀ (n : Nat) {u : U} {v : V} {z : Value}, okW T n u hs = true → RU A α u v → RelV v z → ∃ as, Reads s.heap z (toP T n u hs) as
  | 0, _, _, _, h, _, _ => by cases h
  | n + 1, u, v, z, h, r, q => by
    have ih := fun {u : U} {v : V} {z : Value} => reads_ok tx I R n (u := u) (v := v) (z := z)
    simp only [okW, toP] at h ⊢
    cases el : lstU T u hs with
    | some xs =>
      rw [el] at h
      have h := List.all_eq_true.mp h
      obtain ⟨a, vs, rfl, rr, sq⟩ := lstU_ok tx R el r
      cases q
      obtain ⟨its, rv, pl, _⟩ := I.list sq
      obtain ⟨o, ho, hc, m, hd⟩ := pl.isList
      obtain ⟨as, ra⟩ := reads_all (h := s.heap) (f := fun x => toP T n x hs) rr rv fun x m v u h1 h2 => ih (h x m) h1 h2
      exact ⟨_, .list ho hc hd ra⟩
    | none =>
      rw [el] at h
      cases et : tupU T u hs with
      | some xs =>
        rw [et] at h
        have h := List.all_eq_true.mp h
        obtain ⟨a, vs, rfl, rr, sq⟩ := tupU_ok tx R et r
        cases q
        obtain ⟨its, rv, pl, _⟩ := I.tuple sq
        obtain ⟨o, ho, hc, m, hd⟩ := pl
        obtain ⟨as, ra⟩ := reads_all (h := s.heap) (f := fun x => toP T n x hs) rr rv fun x m v u h1 h2 => ih (h x m) h1 h2
        exact ⟨_, .tuple ho hc hd ra⟩
      | none =>
        rw [et] at h
        cases u with
        | non => cases (show v = _ from r); cases q; exact ⟨[], .none⟩
        | bl b => cases (show v = _ from r); cases q; exact ⟨[], .bool b⟩
        | int i m =>
          have h : (m == 0) = true := h
          have h := eq_of_beq h
          subst h
          cases exactU r
          obtain ⟨t, rfl⟩ := q
          exact ⟨[], .int i t⟩
        | str x => cases (show v = _ from r); obtain ⟨t, rfl⟩ := q; exact ⟨[], .str _ t⟩
        | _ => cases h
theorem lay_all {f : U → PyData} {n : Nat} : ∀ {xs : List U}, (∀ x ∈ xs, (f x).canLay0 = true ∧ (f x).depth ≤ n) → PyData.canLayAll0 (xs.map f) = true ∧ PyData.depthAll (xs.map f) ≤ n
  | [], _ => ⟨rfl, Nat.zero_le _⟩
  | x :: r, h => by
    obtain ⟨h1, h2⟩ := h x List.mem_cons_self
    obtain ⟨h3, h4⟩ := lay_all (xs := r) fun y m => h y (List.mem_cons_of_mem _ m)
    refine ⟨?_, ?_⟩
    · show ((f x).canLay0 && PyData.canLayAll0 (r.map f)) = true
      rw [h1, h3]
      rfl
    · show max (f x).depth (PyData.depthAll (r.map f)) ≤ n
      omega
theorem lay_ok : ∀ (n : Nat) {u : U}, okW T n u hs = true → (toP T n u hs).canLay0 = true ∧ (toP T n u hs).depth ≤ n
  | 0, _, h => by cases h
  | n + 1, u, h => by
    have ih := fun (u : U) => lay_ok n (u := u)
    simp only [okW, toP] at h ⊢
    cases el : lstU T u hs with
    | some xs =>
      rw [el] at h
      obtain ⟨h1, h2⟩ := lay_all (f := fun x => toP T n x hs) (n := n) fun x m => ih x (List.all_eq_true.mp h x m)
      exact ⟨h1, Nat.succ_le_succ h2⟩
    | none =>
      rw [el] at h
      cases et : tupU T u hs with
      | some xs =>
        rw [et] at h
        obtain ⟨h1, h2⟩ := lay_all (f := fun x => toP T n x hs) (n := n) fun x m => ih x (List.all_eq_true.mp h x m)
        exact ⟨h1, Nat.succ_le_succ h2⟩
      | none =>
        rw [et] at h
        cases u with
        | str x =>
          refine ⟨?_, Nat.zero_le _⟩
          show PyData.strOk ⟨x.toArray⟩ = true
          unfold PyData.strOk
          have h := List.all_eq_true.mp h
          rw [Array.all_eq_true']
          intro c hc
          have := of_decide_eq_true (h c (by simpa using hc))
          exact decide_eq_true (by omega)
        | non => exact ⟨rfl, Nat.zero_le _⟩
        | bl b => exact ⟨rfl, Nat.zero_le _⟩
        | int i m => exact ⟨rfl, Nat.zero_le _⟩
        | _ => cases h
theorem eqv_all {f : U → PyData} {g : U → U → Bool} : ∀ {xs ys : List U}, (∀ x ∈ xs, ∀ y ∈ ys, PyData.eqv (f x) (f y) = g x y) → PyData.eqvAll (xs.map f) (ys.map f) = ((xs.length == ys.length) && (xs.zip ys).all fun p => g p.1 p.2)
  | [], [], _ => rfl
  | [], _ :: _, _ => rfl
  | _ :: _, [], _ => rfl
  | x :: r, y :: t, h => by
    have h1 := h x List.mem_cons_self y List.mem_cons_self
    have h2 := eqv_all (xs := r) (ys := t) fun a ma b mb => h a (List.mem_cons_of_mem _ ma) b (List.mem_cons_of_mem _ mb)
    show (PyData.eqv (f x) (f y) && PyData.eqvAll (r.map f) (t.map f)) = _
    rw [h1, h2]
    simp only [List.length_cons, List.zip_cons_cons, List.all_cons]
    have e : (r.length + 1 == t.length + 1) = (r.length == t.length) := by simp
    rw [e]
    cases g x y <;> cases (r.length == t.length) <;> simp
theorem str_eqv {x y : List Nat} : ((⟨x.toArray⟩ : Str) == ⟨y.toArray⟩) = (x == y) := by
  by_cases h : x = y
  · subst h; simp
  · have : (⟨x.toArray⟩ : Str) ≠ ⟨y.toArray⟩ := fun z => h (by
      have := congrArg (fun s : Str => s.cps.toList) z
      simpa using this)
    rw [beq_eq_false_iff_ne.mpr this, beq_eq_false_iff_ne.mpr h]
theorem eqv_ok : ∀ (n : Nat) {u w : U}, okW T n u hs = true → okW T n w hs = true → PyData.eqv (toP T n u hs) (toP T n w hs) = eqW T n u w hs
  | 0, _, _, h, _ => by cases h
  | n + 1, u, w, h, h' => by
    have ih := fun (u w : U) => eqv_ok n (u := u) (w := w)
    simp only [okW, toP, eqW] at h h' ⊢
    cases el : lstU T u hs with
    | some xs =>
      rw [el] at h
      cases el' : lstU T w hs with
      | some ys =>
        rw [el'] at h'
        exact eqv_all (g := fun a b => eqW T n a b hs) fun x mx y my => ih x y (List.all_eq_true.mp h x mx) (List.all_eq_true.mp h' y my)
      | none =>
        rw [el'] at h'
        cases et' : tupU T w hs with
        | some ys => rfl
        | none => rw [et'] at h'; cases w <;> first | rfl | (cases h'; done)
    | none =>
      rw [el] at h
      cases et : tupU T u hs with
      | some xs =>
        rw [et] at h
        cases el' : lstU T w hs with
        | some ys => rfl
        | none =>
          rw [el'] at h'
          cases et' : tupU T w hs with
          | some ys =>
            rw [et'] at h'
            exact eqv_all (g := fun a b => eqW T n a b hs) fun x mx y my => ih x y (List.all_eq_true.mp h x mx) (List.all_eq_true.mp h' y my)
          | none => rw [et'] at h'; cases w <;> first | rfl | (cases h'; done)
      | none =>
        rw [et] at h
        cases el' : lstU T w hs with
        | some ys => cases u <;> first | rfl | (cases h; done)
        | none =>
          rw [el'] at h'
          cases et' : tupU T w hs with
          | some ys => cases u <;> first | rfl | (cases h; done)
          | none =>
            rw [et'] at h'
            cases u <;> first | (cases h; done) | (cases w <;> first | (cases h'; done) | rfl | exact str_eqv)
def rDat (T : Tbl) (A : Adr) (K : PySem.W.Frag) (neg : Bool) : R2 := fun x y H Q => ∃ α u w hs, RU A α u x ∧ RU A α w y ∧ Rep T A K α hs H ∧ okW T 20 u hs = true ∧ okW T 20 w hs = true ∧ Q (.bl (if neg then !(eqW T 20 u w hs) else eqW T 20 u w hs)) H
theorem shaped_of {d : PyData} {n : Nat} (h : d.canLay0 = true ∧ d.depth ≤ n) (hn : n ≤ 64) : SeqAt.shaped d = true := by
  unfold SeqAt.shaped
  rw [h.1, Bool.true_and]
  exact decide_eq_true (Nat.le_trans h.2 hn)
theorem op_eqD (tx : Txt T A X.K X.mg) (hu : X.A.units + 64 < cLine) : OpR X (compareOp .Eq) (rDat T A X.K false) := by
  intro pins s σ H x y v u Q I rx ry h
  obtain ⟨α, u1, w1, hs, r1, r2, R, o1, o2, q⟩ := h
  obtain ⟨as, ra⟩ := reads_ok tx I R 20 o1 r1 rx
  obtain ⟨bs, rb⟩ := reads_ok tx I R 20 o2 r2 ry
  refine eq_dataH ra rb (shaped_of (lay_ok 20 o1) (by decide)) (shaped_of (lay_ok 20 o2) (by decide)) hu ?_
  rw [eqv_ok 20 o1 o2]
  exact ⟨.bl _, H, I, rfl, q⟩
def rLen (T : Tbl) (A : Adr) (K : PySem.W.Frag) (b : Bool) : R2 := fun x y H Q => ∃ α u w hs, RU A α u x ∧ RU A α w y ∧ Rep T A K α hs H ∧ lenNe T u w hs = true ∧ Q (.bl b) H
theorem lenNe_ok {pins : List (Addr × Obj)} {s : Shared} {σ : L2.St} {H : Hp} {α : List Addr} {hs : Hs} {u w : U} {x y : V} {v z : Value} (tx : Txt T A X.K X.mg) (I : Inv X pins σ H s) (R : Rep T A X.K α hs H) (h : lenNe T u w hs = true) (r1 : RU A α u x) (r2 : RU A α w y) (rx : RelV x v) (ry : RelV y z) :
    ∃ (a b : Addr) (i1 i2 : List Value), v = .ref a ∧ z = .ref b ∧ s.heap.IsList a i1.toArray ∧ s.heap.IsList b i2.toArray ∧ (i1.toArray.size != i2.toArray.size) = true := by
  unfold lenNe at h
  split at h
  · rename_i xs ys e1 e2
    obtain ⟨a, vs, rfl, rr, sq⟩ := lstU_ok tx R e1 r1
    obtain ⟨b, ws, rfl, rr', sq'⟩ := lstU_ok tx R e2 r2
    obtain ⟨i1, q1, p1, _⟩ := I.list sq
    obtain ⟨i2, q2, p2, _⟩ := I.list sq'
    cases rx
    cases ry
    have l1 := rr.length
    have l2 := rr'.length
    have l3 := q1.length
    have l4 := q2.length
    have h := of_decide_eq_true h
    refine ⟨a, b, i1, i2, rfl, rfl, p1.isList, p2.isList, ?_⟩
    simp only [List.size_toArray, bne_iff_ne, ne_eq]
    omega
  · cases h
theorem op_eqL (tx : Txt T A X.K X.mg) (hu : X.A.units + 64 < cLine) : OpR X (compareOp .Eq) (rLen T A X.K false) := by
  intro pins s σ H x y v u Q I rx ry h
  obtain ⟨α, u1, w1, hs, r1, r2, R, o1, q⟩ := h
  obtain ⟨a, b, i1, i2, rfl, rfl, p1, p2, z⟩ := lenNe_ok tx I R o1 r1 r2 rx ry
  exact SeqAt.RcAt.lists_lengths p1 p2 z (by omega) _ _ _ _ ⟨.bl _, H, I, rfl, q⟩
theorem op_neL (tx : Txt T A X.K X.mg) (hu : X.A.units + 64 < cLine) : OpR X (compareOp .NotEq) (rLen T A X.K true) := by
  intro pins s σ H x y v u Q I rx ry h
  obtain ⟨α, u1, w1, hs, r1, r2, R, o1, q⟩ := h
  obtain ⟨a, b, i1, i2, rfl, rfl, p1, p2, z⟩ := lenNe_ok tx I R o1 r1 r2 rx ry
  exact SeqAt.RcNeAt.lists_lengths p1 p2 z (by omega) _ _ _ _ ⟨.bl _, H, I, rfl, q⟩
def rSame (T : Tbl) (A : Adr) (K : PySem.W.Frag) (b : Bool) : R2 := fun x y H Q => ∃ α u w hs, RU A α u x ∧ RU A α w y ∧ Rep T A K α hs H ∧ sameR T u w hs = true ∧ Q (.bl b) H
theorem vals_refs {α : List Addr} : ∀ {xs : List U} {vs ws : List V} {i1 i2 : List Value}, (xs.all fun x => match x with | .ref _ => true | _ => false) = true → RUs A α xs vs → RUs A α xs ws → Vals vs i1 → Vals ws i2 → i1 = i2
  | [], _, _, _, _, _, r1, r2, q1, q2 => by cases r1; cases r2; cases q1; cases q2; rfl
  | x :: xs, _, _, _, _, h, .cons a r1, .cons b r2, .cons c q1, .cons d q2 => by
    rw [List.all_cons, Bool.and_eq_true] at h
    cases x with
    | ref n =>
      obtain ⟨p, hp, rfl⟩ := a
      obtain ⟨p', hp', rfl⟩ := b
      rw [hp] at hp'
      cases hp'
      cases c
      cases d
      rw [vals_refs h.2 r1 r2 q1 q2]
    | _ => exact absurd h.1 (by simp)
theorem sameR_ok {pins : List (Addr × Obj)} {s : Shared} {σ : L2.St} {H : Hp} {α : List Addr} {hs : Hs} {u w : U} {x y : V} {v z : Value} (tx : Txt T A X.K X.mg) (I : Inv X pins σ H s) (R : Rep T A X.K α hs H) (h : sameR T u w hs = true) (r1 : RU A α u x) (r2 : RU A α w y) (rx : RelV x v) (ry : RelV y z) :
    ∃ (a b : Addr) (i1 : List Value), v = .ref a ∧ z = .ref b ∧ s.heap.IsList a i1.toArray ∧ s.heap.IsList b i1.toArray := by
  unfold sameR at h
  split at h
  · rename_i xs ys e1 e2
    rw [Bool.and_eq_true] at h
    obtain ⟨h0, h⟩ := h
    have h0 := of_decide_eq_true h0
    subst h0
    obtain ⟨a, vs, rfl, rr, sq⟩ := lstU_ok tx R e1 r1
    obtain ⟨b, ws, rfl, rr', sq'⟩ := lstU_ok tx R e2 r2
    obtain ⟨i1, q1, p1, _⟩ := I.list sq
    obtain ⟨i2, q2, p2, _⟩ := I.list sq'
    cases rx
    cases ry
    cases vals_refs h rr rr' q1 q2
    exact ⟨a, b, i1, rfl, rfl, p1.isList, p2.isList⟩
  · cases h
theorem op_eqR (tx : Txt T A X.K X.mg) (hu : X.A.units + 64 < cLine) : OpR X (compareOp .Eq) (rSame T A X.K true) := by
  intro pins s σ H x y v u Q I rx ry h
  obtain ⟨α, u1, w1, hs, r1, r2, R, o1, q⟩ := h
  obtain ⟨a, b, i1, rfl, rfl, p1, p2⟩ := sameR_ok tx I R o1 r1 r2 rx ry
  have rc := SeqAt.RcAt.lists (A := X.A) (e := fun _ => true) p1 p2 rfl (by omega) fun j h1 h2 => SeqAt.EqAt.same _
  have al : (List.range i1.toArray.size).all (fun _ => true) = true := by simp
  rw [al] at rc
  exact rc _ _ _ _ ⟨.bl _, H, I, rfl, q⟩
theorem op_neR (tx : Txt T A X.K X.mg) (hu : X.A.units + 64 < cLine) : OpR X (compareOp .NotEq) (rSame T A X.K false) := by
  intro pins s σ H x y v u Q I rx ry h
  obtain ⟨α, u1, w1, hs, r1, r2, R, o1, q⟩ := h
  obtain ⟨a, b, i1, rfl, rfl, p1, p2⟩ := sameR_ok tx I R o1 r1 r2 rx ry
  have rc := SeqAt.RcNeAt.lists (A := X.A) (e := fun _ => true) p1 p2 rfl (by omega) fun j h1 h2 => SeqAt.EqAt.same _
  have al : (!(List.range i1.toArray.size).all (fun _ => true)) = false := by simp
  rw [al] at rc
  exact rc _ _ _ _ ⟨.bl _, H, I, rfl, q⟩
theorem op_neD (tx : Txt T A X.K X.mg) (hu : X.A.units + 64 < cLine) : OpR X (compareOp .NotEq) (rDat T A X.K true) := by
  intro pins s σ H x y v u Q I rx ry h
  obtain ⟨α, u1, w1, hs, r1, r2, R, o1, o2, q⟩ := h
  obtain ⟨as, ra⟩ := reads_ok tx I R 20 o1 r1 rx
  obtain ⟨bs, rb⟩ := reads_ok tx I R 20 o2 r2 ry
  refine ne_dataH ra rb (shaped_of (lay_ok 20 o1) (by decide)) (shaped_of (lay_ok 20 o2) (by decide)) hu ?_
  rw [eqv_ok 20 o1 o2]
  exact ⟨.bl _, H, I, rfl, q⟩
end
end Iv
namespace Iv
open PySem PySem.Spec PyProof.Rows L2
section
variable {X : Cx} {T : Tbl} {A : Adr}
theorem dec_i {i j : Int} : decide (V.int i = V.int j) = decide (i = j) := by
  by_cases e : i = j
  · subst e; simp
  · have : ¬ V.int i = V.int j := fun q => e (V.int.inj q)
    rw [decide_eq_false this, decide_eq_false e]
theorem dec_s {x y : List Nat} : decide (V.str ⟨x.toArray⟩ = V.str ⟨y.toArray⟩) = decide (x = y) := by
  by_cases e : x = y
  · subst e; simp
  · have : ¬ V.str ⟨x.toArray⟩ = V.str ⟨y.toArray⟩ := fun q => e (by
      have q1 := V.str.inj q
      have q2 := congrArg (fun s : Str => s.cps.toList) q1
      simpa using q2)
    rw [decide_eq_false this, decide_eq_false e]
theorem dec_b {x y : Bool} : decide (V.bl x = V.bl y) = decide (x = y) := by cases x <;> cases y <;> rfl
theorem eqS_ok {α : List Addr} {u w : U} {v y : V} {c : Bool} (h : eqS u w = some c) (ru : RU A α u v) (rw' : RU A α w y) : scal v y = true ∧ decide (v = y) = c := by
  cases u with
  | non =>
    cases (show v = _ from ru)
    cases w with
    | non => cases (show y = _ from rw'); cases h; exact ⟨rfl, rfl⟩
    | bl b => cases (show y = _ from rw'); cases h; exact ⟨rfl, rfl⟩
    | int j n => obtain ⟨_, rfl, _⟩ := rw'; cases h; exact ⟨rfl, rfl⟩
    | str x => cases (show y = _ from rw'); cases h; exact ⟨rfl, rfl⟩
    | _ => simp [eqS] at h
  | bl b =>
    cases (show v = _ from ru)
    cases w with
    | non => cases (show y = _ from rw'); cases h; exact ⟨rfl, rfl⟩
    | bl b => cases (show y = _ from rw'); cases h; exact ⟨rfl, dec_b⟩
    | str x => cases (show y = _ from rw'); cases h; exact ⟨rfl, rfl⟩
    | _ => simp [eqS] at h
  | str x =>
    cases (show v = _ from ru)
    cases w with
    | non => cases (show y = _ from rw'); cases h; exact ⟨rfl, rfl⟩
    | bl b => cases (show y = _ from rw'); cases h; exact ⟨rfl, rfl⟩
    | int j n => obtain ⟨_, rfl, _⟩ := rw'; cases h; exact ⟨rfl, rfl⟩
    | str z => cases (show y = _ from rw'); cases h; exact ⟨rfl, dec_s⟩
    | _ => simp [eqS] at h
  | int i m =>
    obtain ⟨i', rfl, a⟩ := ru
    cases w with
    | non => cases (show y = _ from rw'); cases m <;> cases h <;> exact ⟨rfl, rfl⟩
    | str x => cases (show y = _ from rw'); cases m <;> cases h <;> exact ⟨rfl, rfl⟩
    | int j n =>
      obtain ⟨j', rfl, b⟩ := rw'
      cases m with
      | succ m => simp [eqS] at h
      | zero =>
        cases n with
        | succ n => simp [eqS] at h
        | zero => cases a.exact; cases b.exact; cases h; exact ⟨rfl, dec_i⟩
    | _ => cases m <;> simp [eqS] at h
  | _ => cases w <;> simp [eqS] at h
theorem flat_ok {α : List Addr} {x : U} {v : V} (h : flatU x = true) (r : RU A α x v) : flatV v = true := by
  cases x with
  | non => cases (show v = _ from r); rfl
  | int i m => obtain ⟨_, rfl, _⟩ := r; rfl
  | str z => cases (show v = _ from r); rfl
  | _ => cases h
theorem eqF_ok {α : List Addr} {x y : U} {v w : V} (hx : flatU x = true) (hy : flatU y = true) (rx : RU A α x v) (ry : RU A α y w) : eqV w v = eqF y x := by
  cases y with
  | non =>
    cases (show w = _ from ry)
    cases x with
    | non => cases (show v = _ from rx); rfl
    | int i m => obtain ⟨_, rfl, _⟩ := rx; rfl
    | str z => cases (show v = _ from rx); rfl
    | _ => cases hx
  | str z =>
    cases (show w = _ from ry)
    cases x with
    | non => cases (show v = _ from rx); rfl
    | int i m => obtain ⟨_, rfl, _⟩ := rx; rfl
    | str z' =>
      cases (show v = _ from rx)
      show (({ cps := z.toArray } : Str) == { cps := z'.toArray }) = decide (z = z')
      by_cases e : z = z'
      · subst e; simp
      · rw [decide_eq_false e, beq_eq_false_iff_ne]
        intro q
        have q2 := congrArg (fun s : Str => s.cps.toList) q
        exact e (by simpa using q2)
    | _ => cases hx
  | int j n =>
    obtain ⟨j', rfl, b⟩ := ry
    cases n with
    | succ n => cases hy
    | zero =>
      cases b.exact
      cases x with
      | non => cases (show v = _ from rx); rfl
      | str z => cases (show v = _ from rx); rfl
      | int i m =>
        obtain ⟨i', rfl, a⟩ := rx
        cases m with
        | succ m => cases hx
        | zero =>
          cases a.exact
          show (j == i) = decide (j = i)
          by_cases e : j = i <;> simp [e]
      | _ => cases hx
  | _ => cases hy
theorem inU_ok {α : List Addr} {x : U} {v : V} (hx : flatU x = true) (rx : RU A α x v) : ∀ {ys : List U} {ws : List V}, RUs A α ys ws → ys.all flatU = true → ws.all flatV = true ∧ inV v ws = ys.any fun y => eqF y x
  | _, _, .nil, _ => ⟨rfl, rfl⟩
  | _, _, .cons (a := y) (b := w) r t, h => by
    rw [List.all_cons, Bool.and_eq_true] at h
    obtain ⟨h1, h2⟩ := inU_ok hx rx t h.2
    refine ⟨by rw [List.all_cons, h1, flat_ok h.1 r]; rfl, ?_⟩
    show (eqV w v || inV v _) = (eqF y x || _)
    rw [h2, eqF_ok hx h.1 rx r]
theorem tab_has {vs : List (Key × Value)} {y : U} {yv : V} {α : List Addr} (ky : keyU y = true) (ry : RU A α y yv) : ∀ {kvs : List (U × U)}, Paired (fun (p : U × U) (q : Key × Value) => keyR p.1 q.1 ∧ ∃ v, RU A [] p.2 v ∧ RelV v q.2) kvs vs →
    ∃ key, yv = kV key ∧ (valueAt vs key).isSome = (lookU kvs y).isSome := by
  obtain ⟨key, hy, hk⟩ : ∃ key, yv = kV key ∧ keyR y key := by
    cases y with
    | int i m =>
      cases m with
      | zero => obtain ⟨j, rfl, c⟩ := ry; cases c.exact; exact ⟨.inl i, rfl, rfl⟩
      | succ m => cases ky
    | str z => cases (show yv = _ from ry); exact ⟨.inr ⟨z.toArray⟩, rfl, rfl⟩
    | _ => cases ky
  have inj : ∀ {p : U} {q : Key}, keyR p q → (p = y ↔ q = key) := by
    intro p q hp
    cases y with
    | int i m =>
      cases m with
      | succ m => cases ky
      | zero =>
        cases (show key = _ from hk)
        cases p with
        | int j n =>
          cases n with
          | succ n => exact (show False from hp).elim
          | zero => cases (show q = _ from hp); exact ⟨fun e => (by cases e; rfl), fun e => (by cases e; rfl)⟩
        | str z => cases (show q = _ from hp); exact ⟨fun e => (by cases e), fun e => (by cases e)⟩
        | _ => exact (show False from hp).elim
    | str z =>
      cases (show key = _ from hk)
      cases p with
      | int j n =>
        cases n with
        | succ n => exact (show False from hp).elim
        | zero => cases (show q = _ from hp); exact ⟨fun e => (by cases e), fun e => (by cases e)⟩
      | str z' =>
        cases (show q = _ from hp)
        refine ⟨fun e => (by cases e; rfl), fun e => ?_⟩
        have e1 := Sum.inr.inj e
        have e2 := congrArg (fun s : Str => s.cps.toList) e1
        have e3 : z' = z := by simpa using e2
        rw [e3]
      | _ => exact (show False from hp).elim
    | _ => cases ky
  intro kvs r
  refine ⟨key, hy, ?_⟩
  induction r with
  | nil => rfl
  | @cons p q ps qs hpq t ih =>
    obtain ⟨pk, pv⟩ := p
    obtain ⟨qk, qv⟩ := q
    obtain ⟨h1, v, h2, h3⟩ := hpq
    simp only [lookU]
    by_cases e : pk = y
    · have e2 : qk = key := (inj h1).mp e
      rw [if_pos e]
      simp [valueAt, e2]
    · have e2 : ¬ qk = key := fun z => e ((inj h1).mpr z)
      rw [if_neg e, ← ih]
      simp only [valueAt, List.find?_cons]
      rw [decide_eq_false e2]
def rTab (P : Program) (w : World) (K : PySem.W.Frag) (neg : Bool) : R2 := fun x y H Q => ∃ a vs key, y = .ref a ∧ (a == sysModules) = false ∧ x = kV key ∧ (∀ h : Heap, K.In h → h.DictOf (mixKind P w) a vs) ∧ Q (.bl (if neg then !(valueAt vs key).isSome else (valueAt vs key).isSome)) H
theorem op_in_tab : OpR X (compareOp .In) (rTab X.prog X.w X.K false) := by
  intro pins s σ H x y v u Q I rx ry h
  obtain ⟨a, vs, key, rfl, ns, rfl, hd, q⟩ := h
  cases ry
  exact wpAny_in_of (kV_is rx) ns (hd s.heap I.kIn).mapOf ⟨.bl _, H, I.tok _, rfl, q⟩
theorem op_notIn_tab : OpR X (compareOp .NotIn) (rTab X.prog X.w X.K true) := by
  intro pins s σ H x y v u Q I rx ry h
  obtain ⟨a, vs, key, rfl, ns, rfl, hd, q⟩ := h
  cases ry
  exact wpAny_notIn_of (kV_is rx) ns (hd s.heap I.kIn).mapOf ⟨.bl _, H, I.tok _, rfl, q⟩
theorem op_or {f : Value → Value → Sem Value} {r r' : R2} (h : OpR X f r) (h' : OpR X f r') : OpR X f (fun x y H Q => r x y H Q ∨ r' x y H Q) := fun pins s σ H x y v u Q I rx ry q => q.elim (h pins s σ H x y v u Q I rx ry) (h' pins s σ H x y v u Q I rx ry)
theorem tbIn_ok {neg : Bool} {α : List Addr} {u w : U} {v y : V} {H : Hp} {Q : VK} {c : Bool} (tab : TabOk X.prog X.w T A X.K) (h : tbIn T w u = some c) (ru : RU A α u v) (rw' : RU A α w y) (q : Q (.bl (if neg then !c else c)) H) : rTab X.prog X.w X.K neg v y H Q ∨ ∃ i j, v = .str i ∧ y = .str j ∧ Q (.bl (if neg then !(!(Builtin.Str.occurrences j i 0 j.length 1).isEmpty) else !(Builtin.Str.occurrences j i 0 j.length 1).isEmpty)) H := by
  unfold tbIn at h
  split at h
  case h_3 => cases h
  case h_2 =>
    split at h
    · rename_i y' x'
      cases h
      cases (show v = _ from ru)
      cases (show y = _ from rw')
      exact .inr ⟨_, _, rfl, rfl, q⟩
    · cases h
  rename_i k
  refine .inl ?_
  split at h
  case h_2 => cases h
  rename_i kvs ec
  split at h
  case isFalse => cases h
  rename_i ky
  cases h
  obtain ⟨vs, ns, hd, hp⟩ := tab k kvs ec
  obtain ⟨key, ev, e⟩ := tab_has ky ru hp
  cases (show y = _ from rw')
  exact ⟨_, vs, key, rfl, ns, ev, hd, by rw [e]; exact q⟩
def CmpS (X : Cx) (T : Tbl) (A : Adr) (o : CmpOp) : Prop := ∃ r, OpR X (compareOp o) r ∧ ∀ {α : List Addr} {u w : U} {hs : Hs} {v y : V} {H : Hp} {Q : VK} {c : Bool}, cmpU T o u w hs = some c → RU A α u v → RU A α w y → Rep T A X.K α hs H → Q (.bl c) H → r v y H Q
theorem cmpS_I {o : CmpOp} {p : Int → Int → Bool} (ho : OpR X (compareOp o) (rI0 fun i j => .bl (p i j))) (hc : ∀ u w hs, cmpU T o u w hs = match u, w with | .int i 0, .int j 0 => some (p i j) | _, _ => none) : CmpS X T A o := by
  refine ⟨_, ho, ?_⟩
  intro α u w hs v y H Q c h ru rw' R q
  rw [hc] at h
  split at h
  · cases h
    obtain ⟨i', rfl, a⟩ := ru
    obtain ⟨j', rfl, b⟩ := rw'
    cases a.exact
    cases b.exact
    exact ⟨_, _, rfl, rfl, q⟩
  · cases h
theorem cmpS (tx : Txt T A X.K X.mg) (tab : TabOk X.prog X.w T A X.K) (hu : X.A.units + 64 < cLine) (o : CmpOp) : CmpS X T A o := by
  cases o with
  | Eq =>
    refine ⟨_, OpR.or op_eq (OpR.or (op_eqL tx hu) (OpR.or (op_eqR tx hu) (op_eqD tx hu))), ?_⟩
    intro α u w hs v y H Q c h ru rw' R q
    simp only [cmpU, eqA] at h
    split at h
    · rename_i b e
      cases h
      obtain ⟨h1, h2⟩ := eqS_ok e ru rw'
      exact .inl ⟨h1, by rw [h2]; exact q⟩
    · split at h
      · rename_i c
        cases h
        exact .inr (.inl ⟨α, u, w, hs, ru, rw', R, c, q⟩)
      · split at h
        · rename_i c
          cases h
          exact .inr (.inr (.inl ⟨α, u, w, hs, ru, rw', R, c, q⟩))
        · split at h
          · rename_i c
            cases h
            rw [Bool.and_eq_true] at c
            exact .inr (.inr (.inr ⟨α, u, w, hs, ru, rw', R, c.1, c.2, q⟩))
          · cases h
  | NotEq =>
    refine ⟨_, OpR.or op_ne (OpR.or (op_neL tx hu) (OpR.or (op_neR tx hu) (op_neD tx hu))), ?_⟩
    intro α u w hs v y H Q c h ru rw' R q
    simp only [cmpU, Option.map_eq_some_iff, eqA] at h
    obtain ⟨d, h, e⟩ := h
    split at h
    · rename_i b eb
      cases h
      obtain ⟨h1, h2⟩ := eqS_ok eb ru rw'
      exact .inl ⟨h1, by rw [h2, e]; exact q⟩
    · split at h
      · rename_i cc
        cases h
        refine .inr (.inl ⟨α, u, w, hs, ru, rw', R, cc, ?_⟩)
        rw [show (true : Bool) = c from e]
        exact q
      · split at h
        · rename_i cc
          cases h
          refine .inr (.inr (.inl ⟨α, u, w, hs, ru, rw', R, cc, ?_⟩))
          rw [show (false : Bool) = c from e]
          exact q
        · split at h
          · rename_i cc
            cases h
            rw [Bool.and_eq_true] at cc
            refine .inr (.inr (.inr ⟨α, u, w, hs, ru, rw', R, cc.1, cc.2, ?_⟩))
            rw [if_pos rfl, e]
            exact q
          · cases h
  | Lt => exact cmpS_I op_lt fun _ _ _ => rfl
  | LtE => exact cmpS_I op_le fun _ _ _ => rfl
  | Gt => exact cmpS_I op_gt fun _ _ _ => rfl
  | GtE => exact cmpS_I op_ge fun _ _ _ => rfl
  | Is =>
    refine ⟨_, op_isN, ?_⟩
    intro α u w hs v y H Q c h ru rw' R q
    simp only [cmpU] at h
    split at h
    · cases h
      refine ⟨rw', ?_⟩
      have e : decide (v = .non) = decide (u = .non) := by
        cases u with
        | non => cases (show v = _ from ru); rfl
        | bl b => cases (show v = _ from ru); rfl
        | int i m => obtain ⟨_, rfl, _⟩ := ru; rfl
        | str x => cases (show v = _ from ru); rfl
        | ref n => obtain ⟨_, _, rfl⟩ := ru; rfl
        | con k => cases (show v = _ from ru); rfl
        | scr => cases (show v = _ from ru); rfl
      rw [e]
      exact q
    · cases h
  | IsNot =>
    refine ⟨_, op_notN, ?_⟩
    intro α u w hs v y H Q c h ru rw' R q
    simp only [cmpU] at h
    split at h
    · cases h
      refine ⟨rw', ?_⟩
      have e : decide (v = .non) = decide (u = .non) := by
        cases u with
        | non => cases (show v = _ from ru); rfl
        | bl b => cases (show v = _ from ru); rfl
        | int i m => obtain ⟨_, rfl, _⟩ := ru; rfl
        | str x => cases (show v = _ from ru); rfl
        | ref n => obtain ⟨_, _, rfl⟩ := ru; rfl
        | con k => cases (show v = _ from ru); rfl
        | scr => cases (show v = _ from ru); rfl
      rw [e]
      exact q
    · cases h
  | In =>
    refine ⟨_, op_or op_in_seq (op_or op_in_tab op_in_str), ?_⟩
    intro α u w hs v y H Q c h ru rw' R q
    simp only [cmpU] at h
    split at h
    · rename_i xs e
      obtain ⟨a, vs, rfl, rr, sq⟩ := seqU_ok (K' := X.K) tx R e rw'
      unfold inU at h
      split at h
      · rename_i f
        cases h
        rw [Bool.and_eq_true] at f
        obtain ⟨h1, h2⟩ := inU_ok f.1 ru rr f.2
        exact .inl ⟨a, vs, rfl, sq, flat_ok f.1 ru, h1, by rw [h2]; exact q⟩
      · cases h
    · exact .inr (tbIn_ok (neg := false) tab h ru rw' q)
  | NotIn =>
    refine ⟨_, op_or op_notIn_seq (op_or op_notIn_tab op_notin_str), ?_⟩
    intro α u w hs v y H Q c h ru rw' R q
    simp only [cmpU] at h
    split at h
    · rename_i xs e
      obtain ⟨a, vs, rfl, rr, sq⟩ := seqU_ok (K' := X.K) tx R e rw'
      simp only [Option.map_eq_some_iff] at h
      obtain ⟨d, h, e2⟩ := h
      unfold inU at h
      split at h
      · rename_i f
        cases h
        rw [Bool.and_eq_true] at f
        obtain ⟨h1, h2⟩ := inU_ok f.1 ru rr f.2
        exact .inl ⟨a, vs, rfl, sq, flat_ok f.1 ru, h1, by rw [h2]; simp only [if_true]; rw [e2]; exact q⟩
      · cases h
    · simp only [Option.map_eq_some_iff] at h
      obtain ⟨d, h, e2⟩ := h
      exact .inr (tbIn_ok (neg := true) tab h ru rw' (by simp only [if_true]; rw [e2]; exact q))
theorem atU_ok {α : List Addr} {us : List U} {vs : List V} {i : Int} {u : U} (r : RUs A α us vs) (h : atU us i = some u) : ∃ v, atI vs i = some v ∧ RU A α u v := by
  unfold atU at h
  split at h
  · rename_i j e
    obtain ⟨v, h1, h2⟩ := r.get h
    refine ⟨v, ?_, h2⟩
    have e' : ixN vs.length i = some j := by rw [← r.length]; exact e
    unfold atI
    rw [e']
    exact h1
  · cases h
theorem atU_n {xs : List Nat} {i : Int} {c : Nat} (h : atU xs i = some c) : atI xs i = some c := by
  unfold atU at h
  split at h
  · rename_i j e
    have e' : ixN xs.length i = some j := e
    unfold atI
    rw [e']
    exact h
  · cases h
theorem subU_ok {α : List Addr} {u w x : U} {hs : Hs} {v y : V} {H : Hp} {Q : VK} (tx : Txt T A X.K X.mg) (h : subU T u w hs = some x) (ru : RU A α u v) (rw' : RU A α w y) (R : Rep T A X.K α hs H) (k : ∀ z, RU A α x z → Q z H) : rIx X.K v y H Q := by
  have seq : ∀ {xs : List U} {i : Int}, seqU T u hs = some xs → w = .int i 0 → atU xs i = some x → rIx X.K v y H Q := fun {xs i} e1 e2 e3 => by
    subst e2
    obtain ⟨j, rfl, c⟩ := rw'
    cases c.exact
    obtain ⟨a, vs, rfl, rr, sq⟩ := seqU_ok (K' := X.K) tx R e1 ru
    obtain ⟨z, h1, h2⟩ := atU_ok rr e3
    rcases sq with sq | sq
    · exact .inl ⟨a, vs, i, z, rfl, rfl, sq, h1, k z h2⟩
    · exact .inr (.inl ⟨a, vs, i, z, rfl, rfl, sq, h1, k z h2⟩)
  cases u with
  | str z =>
    cases w with
    | int i m =>
      cases m with
      | succ m => simp [subU, seqU] at h
      | zero =>
        simp only [subU] at h
        split at h
        · rename_i l
          simp only [Option.map_eq_some_iff] at h
          obtain ⟨c, e, rfl⟩ := h
          cases (show v = _ from ru)
          obtain ⟨j, rfl, q⟩ := rw'
          cases q.exact
          exact .inr (.inr ⟨_, i, c, rfl, rfl, by rw [cps_str]; exact Nat.le_trans l big, by simpa using atU_n e, k _ (by show _ = _; rfl)⟩)
        · cases h
    | _ => simp [subU, seqU] at h
  | ref n =>
    simp only [subU] at h
    split at h
    · rename_i xs i e
      exact seq (by simp only [seqU, e]) rfl h
    · rename_i xs i e
      exact seq (by simp only [seqU, e]) rfl h
    · cases h
  | con n =>
    cases w with
    | int i m =>
      cases m with
      | succ m => simp [subU] at h
      | zero =>
        simp only [subU] at h
        split at h
        · rename_i xs e
          exact seq e rfl h
        · cases h
    | _ => simp [subU] at h
  | scr =>
    cases w with
    | int i m =>
      cases m with
      | succ m => simp [subU] at h
      | zero =>
        simp only [subU] at h
        split at h
        · rename_i xs e
          exact seq e rfl h
        · cases h
    | _ => simp [subU] at h
  | _ =>
    cases w with
    | int i m => cases m <;> simp [subU, seqU] at h
    | _ => simp [subU] at h
theorem RUs.drop {α : List Addr} : ∀ (n : Nat) {us : List U} {vs : List V}, RUs A α us vs → RUs A α (us.drop n) (vs.drop n)
  | 0, _, _, r => r
  | _ + 1, _, _, .nil => .nil
  | n + 1, _, _, .cons _ t => RUs.drop n t
theorem RUs.take {α : List Addr} : ∀ (n : Nat) {us : List U} {vs : List V}, RUs A α us vs → RUs A α (us.take n) (vs.take n)
  | 0, _, _, _ => .nil
  | _ + 1, _, _, .nil => .nil
  | n + 1, _, _, .cons r t => .cons r (RUs.take n t)
theorem cutIx_eq (n d : Nat) (o : Option Int) : cutIx n d o = HT.sIx n d o := by cases o <;> rfl
theorem RUs.cut {α : List Addr} {us : List U} {vs : List V} (r : RUs A α us vs) (lo hi : Option Int) : RUs A α (cutU us lo hi) (cutV vs lo hi) := by
  unfold cutU cutV
  rw [cutIx_eq, cutIx_eq, r.length]
  exact RUs.take _ (RUs.drop _ r)
theorem cutU_str (x : List Nat) (lo hi : Option Int) : (Txt.slice ⟨x.toArray⟩ lo hi) = ⟨(cutU x lo hi).toArray⟩ := by
  have h := slice_cut ⟨x.toArray⟩ lo hi
  have e : (⟨x.toArray⟩ : Str).length = x.length := by simp [Str.length]
  rw [e] at h
  apply Str.ext'
  apply Array.toList_inj.mp
  rw [h]
  simp only [cutU, cutIx_eq]
theorem slU_ok {α : List Addr} {u x : U} {hs hs' : Hs} {v : V} {H : Hp} {Q : VK} {lo hi : Option Int} (h : slU T u lo hi hs = some (x, hs')) (ru : RU A α u v) (R : Rep T A X.K α hs H) (k : ∀ α' z H', Ext α α' H H' → Rep T A X.K α' hs' H' → RU A α' x z → Q z H') : rSlL X.K v lo hi H Q ∨ (rSlT X.K v lo hi H Q ∨ rSlS v lo hi H Q) := by
  cases u with
  | scr =>
    simp only [slU] at h
    cases h
    obtain ⟨vs, rr, q⟩ := R.s.sq (α := α)
    refine .inl ⟨_, vs, ru, q, fun p hp => ?_⟩
    obtain ⟨R', E'⟩ := R.new (o := .lst (cutU T.scr lo hi)) hp ⟨_, upd_same, RUs.mono snoc_pre (rr.cut lo hi)⟩
    exact k _ _ _ E' R' ⟨p, by rw [← R.h.len]; exact snoc_at, rfl⟩
  | ref n =>
    simp only [slU] at h
    split at h
    · rename_i xs e
      cases h
      obtain ⟨a, ha, rfl⟩ := ru
      obtain ⟨vs, q, rr⟩ := R.h.ob n a _ ha e
      refine .inl ⟨_, vs, rfl, SqL.of q, fun p hp => ?_⟩
      obtain ⟨R', E'⟩ := R.new (o := .lst (cutU xs lo hi)) hp ⟨_, upd_same, RUs.mono snoc_pre (rr.cut lo hi)⟩
      exact k _ _ _ E' R' ⟨p, by rw [← R.h.len]; exact snoc_at, rfl⟩
    · rename_i xs e
      split at h
      · cases h
      rename_i hw
      cases h
      obtain ⟨a, ha, rfl⟩ := ru
      obtain ⟨vs, q, rr⟩ := R.h.ob n a _ ha e
      refine .inr (.inl ⟨_, vs, rfl, SqT.of q, ?_, fun p hp => ?_⟩)
      · rw [cutIx_eq, cutIx_eq, rr.length] at hw
        exact hw
      obtain ⟨R', E'⟩ := R.new (o := .tup (cutU xs lo hi)) hp ⟨_, upd_same, RUs.mono snoc_pre (rr.cut lo hi)⟩
      exact k _ _ _ E' R' ⟨p, by rw [← R.h.len]; exact snoc_at, rfl⟩
    · cases h
  | str y =>
    simp only [slU] at h
    split at h
    · rename_i l
      cases h
      cases (show v = _ from ru)
      refine .inr (.inr ⟨_, rfl, by rw [cps_str]; exact Nat.le_trans l big, ?_⟩)
      rw [cutU_str]
      exact k α _ H Ext.refl R rfl
    · cases h
  | _ => simp [slU] at h
end
end Iv
namespace Iv
open PySem PySem.Spec PyProof.Rows L2
section
variable {X : Cx} {T : Tbl} {A : Adr} {C : Ctx}
theorem PEfalse {e : Expr} {t : TE} (h : ∀ σ H Q, ¬ t σ H Q) : PE X e t := fun _ _ σ H Q _ q => (h σ H Q q).elim
theorem kit_b (K : PySem.W.Frag) {k t : Ty} {b : Bool} (h : isiB k t = some b) (A : Adr) : PySem.W.kitOne K (tyW A k) (tyW A t) = some b := by
  cases k <;> cases t <;> simp only [isiB] at h <;> first | (cases h; done) | (cases h; rfl) | (cases h; kernel_rfl)
theorem kind_ok {α : List Addr} {u : U} {hs : Hs} {v : V} {H : Hp} {k : Ty} (tx : Txt T A X.K X.mg) (h : kindU u hs = some k) (r : RU A α u v) (R : Rep T A X.K α hs H) : TyOf X.K H v (tyW A k) := by
  cases u with
  | non => cases h; cases (show v = _ from r); exact .non
  | bl b => cases h; cases (show v = _ from r); exact .bl b
  | int i m => cases h; obtain ⟨j, rfl, _⟩ := r; exact .int j
  | str x => cases h; cases (show v = _ from r); exact .str _
  | ref n =>
    obtain ⟨a, ha, rfl⟩ := r
    simp only [kindU] at h
    split at h
    · rename_i xs e
      cases h
      obtain ⟨vs, q, _⟩ := R.h.ob n a _ ha e
      exact .lst q
    · rename_i xs e
      cases h
      obtain ⟨vs, q, _⟩ := R.h.ob n a _ ha e
      exact .tup q
    · cases h
    · rename_i c fs e
      cases h
      obtain ⟨dx, fv, q, _, l⟩ := R.h.ob n a _ ha e
      exact (tx.cl c _ (List.getElem?_eq_getElem l)).ty H a dx fv q
    · cases h
  | _ => simp [kindU] at h
theorem isi_ok {α : List Addr} {u : U} {hs : Hs} {v : V} {H : Hp} {t : Ty} {b : Bool} (tx : Txt T A X.K X.mg) (h : isiU T t u hs = some b) (r : RU A α u v) (R : Rep T A X.K α hs H) : ∃ tv, TyOf X.K H v tv ∧ PySem.W.kitOne X.K tv (tyW A t) = some b := by
  unfold isiU at h
  split at h
  · cases h
  · rename_i k e
    refine ⟨tyW A k, kind_ok tx e r R, ?_⟩
    split at h
    · rename_i b' e'
      cases h
      exact kit_b X.K e' A
    · exact tx.isi k t b h
theorem vals_cons {α : List Addr} {u : U} {us : List U} {vs : List V} (r : RUs A α (u :: us) vs) : ∃ v ws, vs = v :: ws ∧ RU A α u v ∧ RUs A α us ws := by cases r with | cons a b => exact ⟨_, _, rfl, a, b⟩
theorem vals_nil {α : List Addr} {vs : List V} (r : RUs A α [] vs) : vs = [] := by cases r; rfl
theorem digs_str (n : Nat) : ((toString (n : Int) : String) : Str) = ⟨(digs n).toArray⟩ := by
  apply Str.ext'
  apply Array.toList_inj.mp
  exact PySem.W.KIN.signs_num n
def BiS (X : Cx) (T : Tbl) (A : Adr) (b : Bi) (f : Value) : Prop := ∃ r, CallR X f r ∧ ∀ {α : List Addr} {us : List U} {u' : U} {hs hs' : Hs} {vs : List V} {H : Hp} {Q : VK}, biU T b us hs = some (u', hs') → RUs A α us vs → Rep T A X.K α hs H →
  (∀ α' v' H', Ext α α' H H' → Rep T A X.K α' hs' H' → RU A α' u' v' → Q v' H') → r vs H Q
theorem biS_len (tx : Txt T A X.K X.mg) : BiS X T A .len (.builtin "len") := by
  refine ⟨_, CallR.or call_len_seq call_len_str, ?_⟩
  intro α us u' hs hs' vs H Q h r R k
  have seq : ∀ {u : U} {xs : List U}, us = [u] → seqU T u hs = some xs → (u', hs') = (U.int xs.length 0, hs) → (∃ p ys, vs = [V.ref p] ∧ (SqL X.K H p ys ∨ SqT X.K H p ys) ∧ Q (.int ys.length) H) := fun {u xs} e1 e2 e3 => by
    subst e1
    cases e3
    obtain ⟨v, ws, rfl, ru, rn⟩ := vals_cons r
    cases vals_nil rn
    obtain ⟨a, ys, rfl, rr, sq⟩ := seqU_ok (K' := X.K) tx R e2 ru
    exact ⟨a, ys, rfl, sq, k α _ H Ext.refl R ⟨_, rfl, by rw [rr.length]; exact Cg.refl _ _⟩⟩
  cases us with
  | nil => simp [biU] at h
  | cons u t =>
    cases t with
    | cons _ _ => cases u <;> simp [biU] at h
    | nil =>
      cases u with
      | str x =>
        simp only [biU] at h
        split at h
        · rename_i l
          cases h
          obtain ⟨v, ws, rfl, ru, rn⟩ := vals_cons r
          cases vals_nil rn
          cases (show v = _ from ru)
          refine .inr ⟨_, rfl, by rw [cps_str]; exact Nat.le_trans l big, k α _ H Ext.refl R ⟨_, rfl, ?_⟩⟩
          rw [cps_str]
          exact Cg.refl _ _
        · cases h
      | ref n => simp only [biU, Option.map_eq_some_iff] at h; obtain ⟨xs, e, q⟩ := h; exact .inl (seq rfl e q.symm)
      | con n => simp only [biU, Option.map_eq_some_iff] at h; obtain ⟨xs, e, q⟩ := h; exact .inl (seq rfl e q.symm)
      | scr => simp only [biU, Option.map_eq_some_iff] at h; obtain ⟨xs, e, q⟩ := h; exact .inl (seq rfl e q.symm)
      | _ => simp [biU, seqU] at h
theorem biS_str : BiS X T A .str (.type "str") := by
  refine ⟨_, call_str_int, ?_⟩
  intro α us u' hs hs' vs H Q h r R k
  cases us with
  | nil => simp [biU] at h
  | cons u t =>
    cases t with
    | cons _ _ => cases u <;> simp [biU] at h
    | nil =>
      obtain ⟨v, ws, rfl, ru, rn⟩ := vals_cons r
      cases vals_nil rn
      cases u with
      | int i m =>
        cases m with
        | succ m => simp [biU] at h
        | zero =>
          simp only [biU] at h
          split at h
          · rename_i c
            cases h
            obtain ⟨j, rfl, q⟩ := ru
            cases q.exact
            simp only [Bool.and_eq_true, decide_eq_true_eq] at c
            obtain ⟨n, rfl⟩ := Int.eq_ofNat_of_zero_le c.1
            exact ⟨(n : Int), rfl, c.2, k α _ H Ext.refl R (congrArg V.str (digs_str n))⟩
          · cases h
      | _ => simp [biU] at h
theorem biS_list (tx : Txt T A X.K X.mg) : BiS X T A .list (.type "list") := by
  refine ⟨_, call_list_of, ?_⟩
  intro α us u' hs hs' vs H Q h r R k
  cases us with
  | nil => simp [biU] at h
  | cons u t =>
    cases t with
    | cons _ _ => cases u <;> simp [biU] at h
    | nil =>
      obtain ⟨v, ws, rfl, ru, rn⟩ := vals_cons r
      cases vals_nil rn
      simp only [biU, Option.map_eq_some_iff] at h
      obtain ⟨xs, e, q⟩ := h
      cases q
      obtain ⟨a, ys, rfl, rr, sq⟩ := seqU_ok (K' := X.K) tx R e ru
      refine ⟨a, ys, rfl, sq, fun p hp => ?_⟩
      obtain ⟨R', E'⟩ := R.new (o := .lst xs) hp ⟨_, upd_same, RUs.mono snoc_pre rr⟩
      exact k _ _ _ E' R' ⟨p, by rw [← R.h.len]; exact snoc_at, rfl⟩
theorem intsU_ok {α : List Addr} : ∀ {ys : List U} {ns : List Int} {vs : List V}, intsU ys = some ns → RUs A α ys vs → vs = ns.map V.int
  | [], _, _, h, r => by cases h; cases vals_nil r; rfl
  | u :: ys, ns, vs, h, r => by
    cases u with
    | int i m =>
      cases m with
      | succ m => simp [intsU] at h
      | zero =>
        simp only [intsU, Option.map_eq_some_iff] at h
        obtain ⟨ns', h, rfl⟩ := h
        obtain ⟨v, ws, rfl, ru, rn⟩ := vals_cons r
        obtain ⟨j, rfl, c⟩ := ru
        cases c.exact
        rw [intsU_ok h rn]
        rfl
    | _ => simp [intsU] at h
theorem exactI {α : List Addr} {i : Int} {v : V} (r : RU A α (.int i 0) v) : v = .int i := by
  obtain ⟨j, rfl, c⟩ := r
  cases c.exact
  rfl
theorem biS_sum (tx : Txt T A X.K X.mg) (hc : X.calm = true) : BiS X T A .sum (.builtin "sum") := by
  refine ⟨_, call_sumL hc, ?_⟩
  intro α us u' hs hs' vs H Q h r R k
  have h : biL T .sum us hs = some (u', hs') := h
  unfold biL at h
  split at h <;> try contradiction
  · simp only [Option.bind_eq_some_iff, Option.map_eq_some_iff] at h
    obtain ⟨xs, el, ns, en, h⟩ := h
    cases h
    obtain ⟨v, ws, rfl, ru, rn⟩ := vals_cons r
    cases vals_nil rn
    obtain ⟨a, vs, rfl, rr, sq⟩ := lstU_ok tx R el ru
    cases intsU_ok en rr
    exact ⟨a, ns, rfl, sq, k α _ H Ext.refl R ⟨_, rfl, Cg.refl _ _⟩⟩
theorem CallR.or {f : Value} {r1 r2 : List V → Hp → VK → Prop} (h1 : CallR X f r1) (h2 : CallR X f r2) : CallR X f (fun xs H Q => r1 xs H Q ∨ r2 xs H Q) := by
  intro pins s σ H xs us Q I r h
  rcases h with h | h
  · exact h1 pins s σ H xs us Q I r h
  · exact h2 pins s σ H xs us Q I r h
theorem biS_max (tx : Txt T A X.K X.mg) (hc : X.calm = true) : BiS X T A .max (.builtin "max") := by
  refine ⟨_, CallR.or (call_maxL hc) (call_max2 hc), ?_⟩
  intro α us u' hs hs' vs H Q h r R k
  have h : biL T .max us hs = some (u', hs') := h
  unfold biL at h
  split at h <;> try contradiction
  · simp only [Option.bind_eq_some_iff, Option.map_eq_some_iff] at h
    obtain ⟨xs, el, ns, en, m, em, h⟩ := h
    cases h
    obtain ⟨v, ws, rfl, ru, rn⟩ := vals_cons r
    cases vals_nil rn
    obtain ⟨a, vs, rfl, rr, sq⟩ := lstU_ok tx R el ru
    cases intsU_ok en rr
    refine .inl ⟨a, ns, rfl, sq, ?_, fun M h1 h2 => ?_⟩
    · cases ns with
      | nil => cases em
      | cons _ _ => exact Nat.succ_pos _
    · cases maxU_is em h1 h2
      exact k α _ H Ext.refl R ⟨_, rfl, Cg.refl _ _⟩
  · refine .inr ?_
    cases h
    obtain ⟨v, ws, rfl, ru, rn⟩ := vals_cons r
    obtain ⟨v2, ws, rfl, ru2, rn⟩ := vals_cons rn
    cases vals_nil rn
    cases exactI ru
    cases exactI ru2
    exact ⟨_, _, rfl, k α _ H Ext.refl R ⟨_, rfl, Cg.refl _ _⟩⟩
theorem biS_min (hc : X.calm = true) : BiS X T A .min (.builtin "min") := by
  refine ⟨_, call_min2 hc, ?_⟩
  intro α us u' hs hs' vs H Q h r R k
  have h : biL T .min us hs = some (u', hs') := h
  unfold biL at h
  split at h <;> try contradiction
  · cases h
    obtain ⟨v, ws, rfl, ru, rn⟩ := vals_cons r
    obtain ⟨v2, ws, rfl, ru2, rn⟩ := vals_cons rn
    cases vals_nil rn
    cases exactI ru
    cases exactI ru2
    exact ⟨_, _, rfl, k α _ H Ext.refl R ⟨_, rfl, Cg.refl _ _⟩⟩
def BmS (X : Cx) (T : Tbl) (A : Adr) (b : Bm) (id : String) : Prop := ∃ r, MtR X id r ∧ ∀ {α : List Addr} {o u' : U} {us : List U} {hs hs' : Hs} {x : V} {vs : List V} {H : Hp} {Q : VK}, bmU T b o us hs = some (u', hs') → RU A α o x → RUs A α us vs → Rep T A X.K α hs H →
  (∀ α' v' H', Ext α α' H H' → Rep T A X.K α' hs' H' → RU A α' u' v' → Q v' H') → r x vs H Q
theorem bmS_ref {b : Bm} {o u' : U} {us : List U} {hs hs' : Hs} (h : bmU T b o us hs = some (u', hs')) (hb : ∀ x, bmS T b x us hs = none) (hd : ∀ n kvs, bmD b n kvs us hs = none) : ∃ n xs, o = .ref n ∧ hs[n]? = some (.lst xs) := by
  cases o with
  | ref n =>
    simp only [bmU] at h
    split at h
    · rename_i xs e
      exact ⟨n, xs, rfl, e⟩
    · rw [hd] at h; cases h
    · cases h
  | str x =>
    simp only [bmU] at h
    rw [hb] at h
    cases h
  | _ => simp [bmU] at h
theorem bmS_append : BmS X T A .append "list.append" := by
  refine ⟨_, mt_append, ?_⟩
  intro α o u' us hs hs' x vs H Q h ro r R k
  obtain ⟨n, xs, rfl, e⟩ := bmS_ref h (fun _ => rfl) (fun _ _ => rfl)
  obtain ⟨a, ha, rfl⟩ := ro
  cases us with
  | nil => simp [bmU, bmL, e] at h
  | cons u t =>
    cases t with
    | cons _ _ => simp [bmU, bmL, e] at h
    | nil =>
      simp only [bmU, bmL, e] at h
      split at h
      · rename_i l
        cases h
        obtain ⟨v, ws, rfl, ru, rn⟩ := vals_cons r
        cases vals_nil rn
        obtain ⟨ys, q, rr⟩ := R.h.ob n a _ ha e
        refine ⟨a, ys, v, rfl, rfl, q, ?_, ?_⟩
        · rw [← rr.length]; exact Nat.lt_of_lt_of_le l big
        · obtain ⟨R', E'⟩ := R.put (o := .lst (xs ++ [u])) ha ⟨_, upd_same, rr.append (.cons ru .nil)⟩
          exact k _ _ _ E' R' rfl
      · cases h
theorem RUs.reverse {α : List Addr} : ∀ {us : List U} {vs : List V}, RUs A α us vs → RUs A α us.reverse vs.reverse
  | _, _, .nil => .nil
  | _, _, .cons r t => by
    rw [List.reverse_cons, List.reverse_cons]
    exact RUs.append (RUs.reverse t) (.cons r .nil)
theorem bmS_clear : BmS X T A .clear "list.clear" := by
  refine ⟨_, mt_clear, ?_⟩
  intro α o u' us hs hs' x vs H Q h ro r R k
  obtain ⟨n, xs, rfl, e⟩ := bmS_ref h (fun _ => rfl) (fun _ _ => rfl)
  obtain ⟨a, ha, rfl⟩ := ro
  cases us with
  | cons u t => simp [bmU, bmL, e] at h
  | nil =>
    simp only [bmU, bmL, e] at h
    cases h
    cases vals_nil r
    obtain ⟨ys, q, rr⟩ := R.h.ob n a _ ha e
    refine ⟨a, ys, rfl, rfl, q, ?_⟩
    obtain ⟨R', E'⟩ := R.put (o := .lst []) ha ⟨_, upd_same, .nil⟩
    exact k _ _ _ E' R' rfl
theorem bmS_extend : BmS X T A .extend "list.extend" := by
  refine ⟨_, mt_extend, ?_⟩
  intro α o u' us hs hs' x vs H Q h ro r R k
  obtain ⟨n, xs, rfl, e⟩ := bmS_ref h (fun _ => rfl) (fun _ _ => rfl)
  obtain ⟨a, ha, rfl⟩ := ro
  cases us with
  | nil => simp [bmU, bmL, e] at h
  | cons u t =>
    cases t with
    | cons _ _ => cases u <;> simp [bmU, bmL, e] at h
    | nil =>
      cases u with
      | ref m =>
        simp only [bmU, bmL, e] at h
        split at h
        · rename_i ys e2
          split at h
          · rename_i l
            cases h
            obtain ⟨v, ws, rfl, ru, rn⟩ := vals_cons r
            cases vals_nil rn
            obtain ⟨b, hb, rfl⟩ := ru
            obtain ⟨zs, q, rr⟩ := R.h.ob n a _ ha e
            obtain ⟨zt, q2, rr2⟩ := R.h.ob m b _ hb e2
            refine ⟨a, b, zs, zt, rfl, rfl, q, q2, ?_, ?_⟩
            · rw [← rr.length, ← rr2.length]; exact Nat.le_trans l big
            · obtain ⟨R', E'⟩ := R.put (o := .lst (xs ++ ys)) ha ⟨_, upd_same, rr.append rr2⟩
              exact k _ _ _ E' R' rfl
          · cases h
        · cases h
      | _ => simp [bmU, bmL, e] at h
end
end Iv
namespace Iv
open PySem PySem.Spec PyProof.Rows L2
def TIO (T : Tbl) (A : Adr) (K : PySem.W.Frag) (f : Rho → Hs → Option (Option Int × Hs)) : TO := fun σ H Q => ∃ α ρ hs u hs', RS A α ρ σ ∧ Rep T A K α hs H ∧ f ρ hs = some (u, hs') ∧
  ∀ α' H', Ext α α' H H' → Rep T A K α' hs' H' → Q u H'
structure Fc (X : Cx) (T : Tbl) (A : Adr) (cf : Cf) (k : Nat) : Prop where
  ok : ∀ f F, T.fns[f]? = some F → ∃ fd, FnOk X.prog X.w X.K X.mg X.base CX0 k (A.f f) fd F.ps (spC T A X.K cf f) ∧ Binds X.K fd F.ps [] ∧ PySem.W.keepIn X.K (.ref (A.f f)) = true
  some : ∀ f us hs r, cf f us hs = some r → ∃ F, T.fns[f]? = some F ∧ us.length = F.np
  df : ∀ i D F, T.dfl.lookup i = Option.some D → T.fns[i]? = Option.some F → ∃ fd, FnOk X.prog X.w X.K X.mg X.base CX0 k (A.f i) fd D.ps (spC T A X.K cf i) ∧ PySem.W.keepIn X.K (.ref (A.f i)) = true ∧ DfOk A X.K fd D
structure Snd (T : Tbl) (A : Adr) (C : Ctx) (X : Cx) (cf : Cf) (m : Nat) : Prop where
  e : ∀ d e ir, compE m C e = some ir → PE X e (TI T A X.K (ev T cf d ir))
  t : ∀ d e ir, compT m C e = some ir → PT X e (TIT T A X.K (evT T cf d ir)) ∧ PE X e (TI T A X.K (ev T cf d ir))
  an : ∀ d a r p ir, compAnd m C a r p = some ir → PW X (.BoolOp .And (a :: r) p) (TIT T A X.K (evT T cf d ir)) ∧ PE X (.BoolOp .And (a :: r) p) (TI T A X.K (ev T cf d ir))
  orr : ∀ d a r p ir, compOr m C a r p = some ir → PW X (.BoolOp .Or (a :: r) p) (TIT T A X.K (evT T cf d ir)) ∧ PE X (.BoolOp .Or (a :: r) p) (TI T A X.K (ev T cf d ir))
  a : ∀ d es irs, compA m C es = some irs → PA X es (TIA T A X.K (fun ρ hs => evs (ev T cf d) ρ irs hs))
  o : ∀ d e ir, compO m C e = some ir → PO X e (TIO T A X.K (fun ρ hs => evO (ev T cf d) ρ ir hs))
section
variable {X : Cx} {T : Tbl} {A : Adr} {C : Ctx} {cf : Cf} {m : Nat}
theorem PTfalse {e : Expr} {t : TT} (h : ∀ σ H Q, ¬ t σ H Q) : PT X e t := fun _ _ σ H Q _ q => (h σ H Q q).elim
theorem PWfalse {e : Expr} {t : TT} (h : ∀ σ H Q, ¬ t σ H Q) : PW X e t := fun _ _ _ σ H Q _ q => (h σ H Q q).elim
theorem no_ev {K : PySem.W.Frag} {ir : E} : ∀ σ H Q, ¬ TI T A K (ev T cf 0 ir) σ H Q := fun _ _ _ ⟨_, _, _, _, _, _, _, h, _⟩ => nomatch h
theorem no_evT {K : PySem.W.Frag} {ir : E} : ∀ σ H Q, ¬ TIT T A K (evT T cf 0 ir) σ H Q := fun _ _ _ ⟨_, _, _, _, _, _, _, h, _⟩ => nomatch h
theorem pe_cases {e : Expr} {ir : E} {d : Nat} (h : ∀ d', PE X e (TI T A X.K (ev T cf (d' + 1) ir))) : PE X e (TI T A X.K (ev T cf d ir)) := by
  cases d with
  | zero => exact PEfalse no_ev
  | succ d => exact h d
theorem s_const {c : Const} {k : Nat} {p : Pos} {d : Nat} {ir : E} (h : compE (m + 1) C (.Constant c k p) = some ir) : PE X (.Constant c k p) (TI T A X.K (ev T cf d ir)) := by
  refine pe_cases fun d => ?_
  cases c with
  | int i => cases h; exact PEimp pe_int fun σ H Q ⟨α, ρ, hs, u, hs', rs, R, e, q⟩ => by cases e; exact q α _ H Ext.refl R ⟨i, rfl, Cg.refl _ _⟩
  | bool b => cases h; exact PEimp pe_bl fun σ H Q ⟨α, ρ, hs, u, hs', rs, R, e, q⟩ => by cases e; exact q α _ H Ext.refl R rfl
  | none => cases h; exact PEimp pe_non fun σ H Q ⟨α, ρ, hs, u, hs', rs, R, e, q⟩ => by cases e; exact q α _ H Ext.refl R rfl
  | str x => cases h; exact PEimp pe_str fun σ H Q ⟨α, ρ, hs, u, hs', rs, R, e, q⟩ => by cases e; exact q α _ H Ext.refl R rfl
  | _ => simp [compE] at h
theorem s_name {x : Str} {p : Pos} {d : Nat} {ir : E} (g : GX T A C X) (h : compE (m + 1) C (.Name x p) = some ir) : PE X (.Name x p) (TI T A X.K (ev T cf d ir)) := by
  refine pe_cases fun d => ?_
  simp only [compE] at h
  split at h
  · cases h
  · rename_i hn
    have n1 : (x == ("__debug__" : Str)) = false := ne_beq fun z => hn (.inl z)
    have n2 : (x == ("__classdict__" : Str)) = false := ne_beq fun z => hn (.inr z)
    split at h
    · rename_i hv
      simp only [Option.map_eq_some_iff] at h
      obtain ⟨i, hi, rfl⟩ := h
      refine PEimp (pe_var (i := i) (by rw [g.N]; exact idx_get hi) (vis_of g hv) n1 n2) ?_
      rintro σ H Q ⟨α, ρ, hs, u, hs', rs, R, e, q⟩
      simp only [ev] at e
      split at e
      · rename_i w e'
        cases e
        obtain ⟨v, h1, h2⟩ := rs.get e'
        exact ⟨v, h1, q α v H Ext.refl R h2⟩
      · cases e
    · split at h
      · rename_i hg
        split at h
        · rename_i k hk
          cases h
          refine PEimp (pe_glob (gl_of g hg) (g.gco x k hk) (v := .ref (A.k k)) rfl n1) ?_
          rintro σ H Q ⟨α, ρ, hs, u, hs', rs, R, e, q⟩
          cases e
          exact q α _ H Ext.refl R rfl
        · rename_i t hk
          cases h
          obtain ⟨k, hm⟩ := g.gtx x t hk
          refine PEimp (pe_glob (gl_of g hg) hm (v := .str ⟨t.toArray⟩) ⟨_, rfl⟩ n1) ?_
          rintro σ H Q ⟨α, ρ, hs, u, hs', rs, R, e, q⟩
          simp only [ev] at e
          cases e
          exact q α _ H Ext.refl R rfl
        · cases h
      · cases h
theorem s_bin {a b : Expr} {o : Operator} {p : Pos} {d : Nat} {ir : E} (S : Snd T A C X cf m) (h : compE (m + 1) C (.BinOp a o b p) = some ir) : PE X (.BinOp a o b p) (TI T A X.K (ev T cf d ir)) := by
  refine pe_cases fun d => ?_
  simp only [compE, Option.bind_eq_some_iff] at h
  obtain ⟨a', ha, b', hb, h⟩ := h
  cases h
  obtain ⟨r, ho, hr⟩ := opS (X := X) (T := T) (A := A) o
  refine PEimp (pe_op ho (S.e d a a' ha) (S.e d b b' hb)) ?_
  rintro σ H Q ⟨α, ρ, hs, u, hs', rs, R, e, q⟩
  simp only [ev] at e
  obtain ⟨u1, h1, e1, e⟩ := bd_some e
  obtain ⟨u2, h2, e2, e⟩ := bd_some e
  refine TI.run rs R e1 fun α1 x H1 E1 R1 r1 rs1 => ?_
  refine TI.run rs1 R1 e2 fun α2 y H2 E2 R2 r2 rs2 => ?_
  exact hr e (r1.mono E2.pre) r2 R2 fun α3 v H3 E3 R3 r3 => q α3 v H3 ((E1.trans E2 R2.h).trans E3 R3.h) R3 r3
theorem s_neg {a : Expr} {p : Pos} {d : Nat} {ir : E} (S : Snd T A C X cf m) (h : compE (m + 1) C (.UnaryOp .USub a p) = some ir) : PE X (.UnaryOp .USub a p) (TI T A X.K (ev T cf d ir)) := by
  refine pe_cases fun d => ?_
  simp only [compE, Option.bind_eq_some_iff] at h
  obtain ⟨a', ha, h⟩ := h
  cases h
  refine PEimp (pe_un un_neg (S.e d a a' ha)) ?_
  rintro σ H Q ⟨α, ρ, hs, u, hs', rs, R, e, q⟩
  simp only [ev] at e
  obtain ⟨u1, h1, e1, e⟩ := bd_some e
  refine TI.run rs R e1 fun α1 x H1 E1 R1 r1 rs1 => ?_
  split at e
  · cases e
    obtain ⟨i, rfl, c⟩ := r1
    exact ⟨i, rfl, q α1 _ H1 E1 R1 ⟨_, rfl, cg_neg c⟩⟩
  · cases e
theorem s_not {a : Expr} {p : Pos} {d : Nat} {ir : E} (tx : Txt T A X.K X.mg) (S : Snd T A C X cf m) (h : compE (m + 1) C (.UnaryOp .Not a p) = some ir) : PE X (.UnaryOp .Not a p) (TI T A X.K (ev T cf d ir)) ∧ PT X (.UnaryOp .Not a p) (TIT T A X.K (evT T cf d ir)) := by
  simp only [compE, Option.bind_eq_some_iff] at h
  obtain ⟨a', ha, h⟩ := h
  cases h
  constructor
  · refine pe_cases fun d => ?_
    intro pins s σ H Q I hw
    obtain ⟨α, ρ, hs, u, hs', rs, R, e, q⟩ := hw
    simp only [ev] at e
    obtain ⟨u1, h1, e1, e⟩ := bd_some e
    simp only [Option.map_eq_some_iff] at e
    obtain ⟨c, e2, e⟩ := e
    cases e
    refine UnaryOp_ (thn ((S.t d a a' ha).2 pins s σ H (fun v H' => TruV X.K v H' c ∧ Q (.bl (!c)) H') I ⟨α, ρ, hs, u1, _, rs, R, e1, fun α' v H' E' R' r' => ⟨truU_ok tx R' e2 r', q α' _ H' E' R' rfl⟩⟩) fun v s1 ⟨x, H1, I1, r1, q1, q2⟩ => ?_)
    exact not_of (thn (tru_ok pins s1 σ H1 x v (fun b H' => b = c ∧ H' = H1) I1 r1 ⟨c, q1, rfl, rfl⟩) fun b s2 ⟨H2, I2, eb, eH⟩ => ⟨.bl (!c), H2, I2, by rw [eb]; rfl, by rw [eH]; exact q2⟩)
  · cases d with
    | zero => exact PTfalse no_evT
    | succ d =>
      refine PTimp (pt_not (S.t d a a' ha).1) ?_
      rintro σ H Q ⟨α, ρ, hs, u, hs', rs, R, e, q⟩
      simp only [evT] at e
      obtain ⟨c, h1, e1, e⟩ := bd_some e
      cases e
      exact TIT.run rs R e1 fun α1 H1 E1 R1 rs1 => q α1 H1 E1 R1
end
end Iv
namespace Iv
open PySem PySem.Spec PyProof.Rows L2
section
variable {X : Cx} {T : Tbl} {A : Adr} {C : Ctx} {cf : Cf} {m : Nat}
theorem pt_cases {e : Expr} {ir : E} {d : Nat} (h : ∀ d', PT X e (TIT T A X.K (evT T cf (d' + 1) ir))) : PT X e (TIT T A X.K (evT T cf d ir)) := by
  cases d with
  | zero => exact PTfalse no_evT
  | succ d => exact h d
theorem pw_cases {e : Expr} {ir : E} {d : Nat} (h : ∀ d', PW X e (TIT T A X.K (evT T cf (d' + 1) ir))) : PW X e (TIT T A X.K (evT T cf d ir)) := by
  cases d with
  | zero => exact PWfalse no_evT
  | succ d => exact h d
theorem s_and (S : Snd T A C X cf m) (d : Nat) (a : Expr) (r : List Expr) (p : Pos) (ir : E) (h : compAnd (m + 1) C a r p = some ir) :
    PW X (.BoolOp .And (a :: r) p) (TIT T A X.K (evT T cf d ir)) ∧ PE X (.BoolOp .And (a :: r) p) (TI T A X.K (ev T cf d ir)) := by
  cases r with
  | nil => exact ⟨pw_and1 (S.t d a ir h).1, pe_one (S.t d a ir h).2⟩
  | cons b r =>
    simp only [compAnd, Option.bind_eq_some_iff] at h
    obtain ⟨a', ha, b', hb, h⟩ := h
    cases h
    constructor
    · refine pw_cases fun d => ?_
      refine PWimp (pw_and (S.t d a a' ha).1 (S.an d b r p b' hb).1) ?_
      rintro σ H Q ⟨α, ρ, hs, u, hs', rs, R, e, q⟩
      simp only [evT] at e
      obtain ⟨c, h1, e1, e⟩ := bd_some e
      refine TIT.run rs R e1 fun α1 H1 E1 R1 rs1 => ?_
      cases c with
      | true => exact TIT.run rs1 R1 e fun α2 H2 E2 R2 rs2 => q α2 H2 (E1.trans E2 R2.h) R2
      | false => cases e; exact q α1 H1 E1 R1
    · refine pe_cases fun d => ?_
      refine PEimp (pe_and (S.t d a a' ha).2 (S.an d b r p b' hb).2) ?_
      rintro σ H Q ⟨α, ρ, hs, u, hs', rs, R, e, q⟩
      simp only [ev] at e
      obtain ⟨u1, h1, e1, e⟩ := bd_some e
      refine TI.run rs R e1 fun α1 x H1 E1 R1 r1 rs1 => ?_
      split at e
      · cases (show x = _ from r1)
        exact ⟨true, rfl, TI.run rs1 R1 e fun α2 v H2 E2 R2 r2 rs2 => q α2 v H2 (E1.trans E2 R2.h) R2 r2⟩
      · cases (show x = _ from r1)
        cases e
        exact ⟨false, rfl, q α1 _ H1 E1 R1 rfl⟩
      · cases e
theorem s_or (S : Snd T A C X cf m) (d : Nat) (a : Expr) (r : List Expr) (p : Pos) (ir : E) (h : compOr (m + 1) C a r p = some ir) :
    PW X (.BoolOp .Or (a :: r) p) (TIT T A X.K (evT T cf d ir)) ∧ PE X (.BoolOp .Or (a :: r) p) (TI T A X.K (ev T cf d ir)) := by
  cases r with
  | nil => exact ⟨pw_or1 (S.t d a ir h).1, pe_one (S.t d a ir h).2⟩
  | cons b r =>
    simp only [compOr, Option.bind_eq_some_iff] at h
    obtain ⟨a', ha, b', hb, h⟩ := h
    cases h
    constructor
    · refine pw_cases fun d => ?_
      refine PWimp (pw_or (S.t d a a' ha).1 (S.orr d b r p b' hb).1) ?_
      rintro σ H Q ⟨α, ρ, hs, u, hs', rs, R, e, q⟩
      simp only [evT] at e
      obtain ⟨c, h1, e1, e⟩ := bd_some e
      refine TIT.run rs R e1 fun α1 H1 E1 R1 rs1 => ?_
      cases c with
      | false => exact TIT.run rs1 R1 e fun α2 H2 E2 R2 rs2 => q α2 H2 (E1.trans E2 R2.h) R2
      | true => cases e; exact q α1 H1 E1 R1
    · refine pe_cases fun d => ?_
      refine PEimp (pe_or (S.t d a a' ha).2 (S.orr d b r p b' hb).2) ?_
      rintro σ H Q ⟨α, ρ, hs, u, hs', rs, R, e, q⟩
      simp only [ev] at e
      obtain ⟨u1, h1, e1, e⟩ := bd_some e
      refine TI.run rs R e1 fun α1 x H1 E1 R1 r1 rs1 => ?_
      split at e
      · cases (show x = _ from r1)
        cases e
        exact ⟨true, rfl, q α1 _ H1 E1 R1 rfl⟩
      · cases (show x = _ from r1)
        exact ⟨false, rfl, TI.run rs1 R1 e fun α2 v H2 E2 R2 r2 rs2 => q α2 v H2 (E1.trans E2 R2.h) R2 r2⟩
      · cases e
theorem noSet {b : Expr} {b' : E} {o : CmpOp} (h : compE m C b = some b') : behindInMarks o b = false := by
  cases b <;> first | rfl | skip
  cases m <;> simp [compE] at h
theorem s_cmp {a b : Expr} {o : CmpOp} {p : Pos} {d : Nat} {ir : E} (tx : Txt T A X.K X.mg) (tab : TabOk X.prog X.w T A X.K) (hu : X.A.units + 64 < cLine) (S : Snd T A C X cf m) (h : compE (m + 1) C (.Compare a [o] [b] p) = some ir) :
    PE X (.Compare a [o] [b] p) (TI T A X.K (ev T cf d ir)) ∧ PT X (.Compare a [o] [b] p) (TIT T A X.K (evT T cf d ir)) := by
  simp only [compE, Option.bind_eq_some_iff] at h
  obtain ⟨a', ha, b', hb, h⟩ := h
  cases h
  obtain ⟨r, ho, hr⟩ := cmpS (X := X) (T := T) (A := A) tx tab hu o
  have key : ∀ (d : Nat) (σ : St) (H : Hp) (Q : VK) (α : List Addr) (ρ : Rho) (hs hs' : Hs) (u : U), RS A α ρ σ → Rep T A X.K α hs H → ev T cf (d + 1) (.cmp o a' b') ρ hs = some (u, hs') →
      (∀ α' c H', u = .bl c → Ext α α' H H' → Rep T A X.K α' hs' H' → Q (.bl c) H') → tOp r (TI T A X.K (ev T cf d a')) (TI T A X.K (ev T cf d b')) σ H Q := by
    intro d σ H Q α ρ hs hs' u rs R e q
    simp only [ev] at e
    obtain ⟨u1, h1, e1, e⟩ := bd_some e
    obtain ⟨u2, h2, e2, e⟩ := bd_some e
    simp only [Option.map_eq_some_iff] at e
    obtain ⟨c, e3, e⟩ := e
    cases e
    refine TI.run rs R e1 fun α1 x H1 E1 R1 r1 rs1 => ?_
    refine TI.run rs1 R1 e2 fun α2 y H2 E2 R2 r2 rs2 => ?_
    exact hr e3 (r1.mono E2.pre) r2 R2 (q α2 c H2 rfl (E1.trans E2 R2.h) R2)
  constructor
  · refine pe_cases fun d => ?_
    refine PEimp (pe_cmpR ho (S.e d a a' ha) (S.e d b b' hb) (noSet hb)) ?_
    rintro σ H Q ⟨α, ρ, hs, u, hs', rs, R, e, q⟩
    exact key d σ H Q α ρ hs hs' u rs R e fun α' c H' eu E' R' => q α' _ H' E' R' (by rw [eu]; rfl)
  · refine pt_cases fun d => ?_
    cases d with
    | zero => exact PTfalse fun _ _ _ ⟨_, _, _, _, _, _, _, h, _⟩ => by simp [evT, ev, bd] at h
    | succ d =>
      refine PTimp (pt_cmpR ho (S.e d a a' ha) (S.e d b b' hb) (noSet hb)) ?_
      rintro σ H Q ⟨α, ρ, hs, u, hs', rs, R, e, q⟩
      simp only [evT] at e
      obtain ⟨u1, h1, e1, e⟩ := bd_some e
      simp only [Option.map_eq_some_iff] at e
      obtain ⟨c, e3, e⟩ := e
      cases e
      refine key d σ H _ α ρ hs _ u1 rs R e1 fun α' c' H' eu E' R' => ⟨c', rfl, ?_⟩
      rw [eu] at e3
      cases e3
      exact q α' H' E' R'
theorem s_ifexp {t a b : Expr} {p : Pos} {d : Nat} {ir : E} (S : Snd T A C X cf m) (h : compE (m + 1) C (.IfExp t a b p) = some ir) : PE X (.IfExp t a b p) (TI T A X.K (ev T cf d ir)) := by
  refine pe_cases fun d => ?_
  simp only [compE, Option.bind_eq_some_iff] at h
  obtain ⟨t', ht, a', ha, b', hb, h⟩ := h
  cases h
  refine PEimp (pe_ifExp (S.t d t t' ht).1 (S.e d a a' ha) (S.e d b b' hb)) ?_
  rintro σ H Q ⟨α, ρ, hs, u, hs', rs, R, e, q⟩
  simp only [ev] at e
  obtain ⟨c, h1, e1, e⟩ := bd_some e
  refine TIT.run rs R e1 fun α1 H1 E1 R1 rs1 => ?_
  cases c with
  | true => exact TI.run rs1 R1 e fun α2 v H2 E2 R2 r2 rs2 => q α2 v H2 (E1.trans E2 R2.h) R2 r2
  | false => exact TI.run rs1 R1 e fun α2 v H2 E2 R2 r2 rs2 => q α2 v H2 (E1.trans E2 R2.h) R2 r2
theorem evs_len {f : Ev} {ρ : Rho} : ∀ {es : List E} {hs hs' : Hs} {us : List U}, evs f ρ es hs = some (us, hs') → us.length = es.length
  | [], _, _, _, h => by cases h; rfl
  | e :: r, hs, hs', us, h => by
    simp only [evs] at h
    obtain ⟨u, h1, e1, h⟩ := bd_some h
    obtain ⟨ws, h2, e2, h⟩ := bd_some h
    cases h
    simp [evs_len e2]
theorem compA_len {C : Ctx} : ∀ {m : Nat} {es : List Expr} {irs : List E}, compA m C es = some irs → irs.length = es.length
  | 0, _, _, h => by simp [compA] at h
  | m + 1, [], _, h => by cases h; rfl
  | m + 1, e :: r, irs, h => by
    simp only [compA, Option.bind_eq_some_iff] at h
    obtain ⟨e', he, r', hr, h⟩ := h
    cases h
    simp [compA_len hr]
theorem s_args (S : Snd T A C X cf m) (d : Nat) (es : List Expr) (irs : List E) (h : compA (m + 1) C es = some irs) : PA X es (TIA T A X.K (fun ρ hs => evs (ev T cf d) ρ irs hs)) := by
  cases es with
  | nil =>
    cases h
    refine PAimp pa_nil ?_
    rintro σ H Q ⟨α, ρ, hs, u, hs', rs, R, e, q⟩
    cases e
    exact q α [] H Ext.refl R .nil
  | cons e r =>
    simp only [compA, Option.bind_eq_some_iff] at h
    obtain ⟨e', he, r', hr, h⟩ := h
    cases h
    refine PAimp (pa_cons (S.e d e e' he) (S.a d r r' hr) (star_cons (compE_noStar he))) ?_
    rintro σ H Q ⟨α, ρ, hs, u, hs', rs, R, e, q⟩
    simp only [evs] at e
    obtain ⟨u1, h1, e1, e⟩ := bd_some e
    obtain ⟨us, h2, e2, e⟩ := bd_some e
    cases e
    refine TI.run rs R e1 fun α1 x H1 E1 R1 r1 rs1 => ?_
    exact TIA.run rs1 R1 e2 fun α2 xs H2 E2 R2 r2 rs2 => q α2 _ H2 (E1.trans E2 R2.h) R2 (.cons (r1.mono E2.pre) r2)
theorem s_opt (S : Snd T A C X cf m) (d : Nat) (e : Option Expr) (ir : Option E) (h : compO (m + 1) C e = some ir) : PO X e (TIO T A X.K (fun ρ hs => evO (ev T cf d) ρ ir hs)) := by
  cases e with
  | none =>
    cases h
    intro pins s σ H Q I hw
    refine po_none pins s σ H Q I ?_
    obtain ⟨α, ρ, hs, u, hs', rs, R, e, q⟩ := hw
    cases e
    exact q α H Ext.refl R
  | some e =>
    simp only [compO, Option.bind_eq_some_iff] at h
    obtain ⟨e', he, h⟩ := h
    cases h
    intro pins s σ H Q I hw
    refine po_some (S.e d e e' he) pins s σ H Q I ?_
    obtain ⟨α, ρ, hs, u, hs', rs, R, e, q⟩ := hw
    simp only [evO] at e
    obtain ⟨u1, h1, e1, e⟩ := bd_some e
    refine TI.run rs R e1 fun α1 x H1 E1 R1 r1 rs1 => ?_
    split at e
    · cases e
      obtain ⟨i, rfl, c⟩ := r1
      cases c.exact
      exact ⟨_, rfl, q α1 H1 E1 R1⟩
    · cases e
theorem TIO.run {T : Tbl} {A : Adr} {K : PySem.W.Frag} {α : List Addr} {ρ : Rho} {σ : St} {hs h1 : Hs} {H : Hp} {f : Rho → Hs → Option (Option Int × Hs)} {u : Option Int} {Q : Option Int → Hp → Prop} (rs : RS A α ρ σ) (rp : Rep T A K α hs H) (h : f ρ hs = some (u, h1))
    (k : ∀ α1 H1, Ext α α1 H H1 → Rep T A K α1 h1 H1 → RS A α1 ρ σ → Q u H1) : TIO T A K f σ H Q :=
  ⟨α, ρ, hs, u, h1, rs, rp, h, fun α1 H1 e r => k α1 H1 e r (rs.mono e.pre)⟩
theorem s_tuple {es : List Expr} {k : Nat} {p : Pos} {d : Nat} {ir : E} (S : Snd T A C X cf m) (h : compE (m + 1) C (.Tuple es k p) = some ir) : PE X (.Tuple es k p) (TI T A X.K (ev T cf d ir)) := by
  refine pe_cases fun d => ?_
  simp only [compE] at h
  split at h
  case isFalse => cases h
  rename_i hz
  simp only [Option.bind_eq_some_iff] at h
  obtain ⟨es', he, h⟩ := h
  cases h
  refine PEimp (pe_tup (S.a d es es' he)) ?_
  rintro σ H Q ⟨α, ρ, hs, u, hs', rs, R, e, q⟩
  simp only [ev] at e
  obtain ⟨us, h1, e1, e⟩ := bd_some e
  cases e
  refine TIA.run rs R e1 fun α1 vs H1 E1 R1 r1 rs1 => ⟨?_, fun p hp => ?_⟩
  · rw [← r1.length, evs_len e1, compA_len he]; exact Nat.le_trans hz big
  · obtain ⟨R', E'⟩ := R1.new (o := .tup us) hp ⟨_, upd_same, RUs.mono snoc_pre r1⟩
    exact q _ _ _ (E1.trans E' R'.h) R' ⟨p, by rw [← R1.h.len]; exact snoc_at, rfl⟩
theorem s_list {es : List Expr} {p : Pos} {d : Nat} {ir : E} (S : Snd T A C X cf m) (h : compE (m + 1) C (.List es p) = some ir) : PE X (.List es p) (TI T A X.K (ev T cf d ir)) := by
  refine pe_cases fun d => ?_
  simp only [compE] at h
  split at h
  case isFalse => cases h
  rename_i hz
  simp only [Option.bind_eq_some_iff] at h
  obtain ⟨es', he, h⟩ := h
  cases h
  refine PEimp (pe_lst (S.a d es es' he)) ?_
  rintro σ H Q ⟨α, ρ, hs, u, hs', rs, R, e, q⟩
  simp only [ev] at e
  obtain ⟨us, h1, e1, e⟩ := bd_some e
  cases e
  refine TIA.run rs R e1 fun α1 vs H1 E1 R1 r1 rs1 => ⟨?_, fun p hp => ?_⟩
  · rw [← r1.length, evs_len e1, compA_len he]; exact Nat.le_trans hz big
  · obtain ⟨R', E'⟩ := R1.new (o := .lst us) hp ⟨_, upd_same, RUs.mono snoc_pre r1⟩
    exact q _ _ _ (E1.trans E' R'.h) R' ⟨p, by rw [← R1.h.len]; exact snoc_at, rfl⟩
theorem s_slice {a : Expr} {lo hi : Option Expr} {p p2 : Pos} {d : Nat} {ir : E} (S : Snd T A C X cf m) (h : ((compE m C a).bind fun a' => (compO m C lo).bind fun l => (compO m C hi).bind fun h => some (E.sl a' l h)) = some ir) : PE X (.Subscript a (.Slice lo hi none p2) p) (TI T A X.K (ev T cf d ir)) := by
  refine pe_cases fun d => ?_
  simp only [Option.bind_eq_some_iff] at h
  obtain ⟨a', ha, l', hl, h', hh, h⟩ := h
  cases h
  refine PEimp (pe_slice (sl_list.or (sl_tup.or sl_str)) (S.e d a a' ha) (S.o d lo l' hl) (S.o d hi h' hh)) ?_
  rintro σ H Q ⟨α, ρ, hs, u, hs', rs, R, e, q⟩
  simp only [ev] at e
  obtain ⟨u1, h1, e1, e⟩ := bd_some e
  obtain ⟨u2, h2, e2, e⟩ := bd_some e
  obtain ⟨u3, h3, e3, e⟩ := bd_some e
  refine TI.run rs R e1 fun α1 x H1 E1 R1 r1 rs1 => ?_
  refine TIO.run rs1 R1 e2 fun α2 H2 E2 R2 rs2 => ?_
  refine TIO.run rs2 R2 e3 fun α3 H3 E3 R3 rs3 => ?_
  exact slU_ok e ((r1.mono E2.pre).mono E3.pre) R3 fun α4 z H4 E4 R4 r4 => q α4 z H4 (((E1.trans E2 R2.h).trans E3 R3.h).trans E4 R4.h) R4 r4
theorem ix_core {a b : Expr} {a' b' : E} {p : Pos} {d : Nat} (tx : Txt T A X.K X.mg) (ha : PE X a (TI T A X.K (ev T cf d a'))) (hb : PE X b (TI T A X.K (ev T cf d b'))) (hs : notSlice b = true) : PE X (.Subscript a b p) (TI T A X.K (ev T cf (d + 1) (.ix a' b'))) := by
  refine PEimp (pe_ix ix_seq ha hb (plainIx_of hs)) ?_
  rintro σ H Q ⟨α, ρ, hs, u, hs', rs, R, e, q⟩
  simp only [ev] at e
  obtain ⟨u1, h1, e1, e⟩ := bd_some e
  obtain ⟨u2, h2, e2, e⟩ := bd_some e
  simp only [Option.map_eq_some_iff] at e
  obtain ⟨x, e3, e⟩ := e
  cases e
  refine TI.run rs R e1 fun α1 x H1 E1 R1 r1 rs1 => ?_
  refine TI.run rs1 R1 e2 fun α2 y H2 E2 R2 r2 rs2 => ?_
  exact subU_ok tx e3 (r1.mono E2.pre) r2 R2 fun z rz => q α2 z H2 (E1.trans E2 R2.h) R2 rz
theorem RF.look {α : List Addr} {x : Str} {k : Nat} {u : U} (hk : T.fns'[k]? = some x) (nd : T.fns'.Nodup) : ∀ {fs : List (Nat × U)} {fv : List (Str × V)}, RF T A α fs fv → fs.lookup k = some u → ∃ v, fv.lookup x = some v ∧ RU A α u v
  | _, _, .nil, h => by cases h
  | _, _, .cons (a := p) (b := q) r t, h => by
    obtain ⟨pk, pu⟩ := p
    obtain ⟨qx, qv⟩ := q
    rw [List.lookup_cons] at h ⊢
    by_cases e : k = pk
    · subst e
      rw [beq_self_eq_true] at h
      cases h
      have e2 : x = qx := Option.some.inj (hk.symm.trans r.1)
      subst e2
      rw [beq_self_eq_true]
      exact ⟨qv, rfl, r.2⟩
    · have n1 : (k == pk) = false := by simpa using e
      rw [n1] at h
      have n2 : (x == qx) = false := by
        rw [beq_eq_false_iff_ne]
        rintro rfl
        obtain ⟨l1, q1⟩ := List.getElem?_eq_some_iff.mp hk
        obtain ⟨l2, q2⟩ := List.getElem?_eq_some_iff.mp r.1
        exact e ((List.getElem_inj nd).mp (q1.trans q2.symm))
      rw [n2]
      exact RF.look hk nd t h
theorem s_attr {a : Expr} {f : Str} {p : Pos} {d : Nat} {ir : E} (g : GX T A C X) (S : Snd T A C X cf m) (h : compE (m + 1) C (.Attribute a f p) = some ir) : PE X (.Attribute a f p) (TI T A X.K (ev T cf d ir)) := by
  refine pe_cases fun d => ?_
  simp only [compE] at h
  split at h
  · rename_i hn
    simp only [Option.bind_eq_some_iff] at h
    obtain ⟨a', ha, k, hk, h⟩ := h
    cases h
    have hk' : T.fns'[k]? = some f := by rw [← g.CT]; exact idx_get hk
    refine PEimp (pe_fld (S.e d a a' ha) (noSuper_base hn)) ?_
    rintro σ H Q ⟨α, ρ, hs, u, hs', rs, R, e, q⟩
    simp only [ev] at e
    obtain ⟨u1, h1, e1, e⟩ := bd_some e
    refine TI.run rs R e1 fun α1 x H1 E1 R1 r1 rs1 => ?_
    split at e
    · rename_i n
      obtain ⟨pa, hpa, rfl⟩ := r1
      split at e
      · rename_i c fs eo
        simp only [Option.map_eq_some_iff] at e
        obtain ⟨w, el, e⟩ := e
        cases e
        obtain ⟨dx, fv, q1, rf, lc⟩ := R1.h.ob n pa _ hpa eo
        obtain ⟨v, l1, rv⟩ := RF.look hk' g.txt.fd rf el
        have cl := g.txt.cl c _ (List.getElem?_eq_getElem lc)
        exact ⟨pa, A.c c, dx, fv, v, rfl, q1, cl.cls, cl.nf f (List.mem_of_getElem? hk'), l1, q α1 v H1 E1 R1 rv⟩
      · cases e
    · cases e
  · cases h
end
end Iv
namespace Iv
open PySem PySem.Spec PyProof.Rows L2
section
variable {X : Cx} {T : Tbl} {A : Adr} {C : Ctx} {cf : Cf} {m k : Nat}
theorem tab_look {vs : List (Key × Value)} {y : U} {x : U} {yv : V} {α : List Addr} (ky : keyU y = true) (ry : RU A α y yv) : ∀ {kvs : List (U × U)}, Paired (fun (p : U × U) (q : Key × Value) => keyR p.1 q.1 ∧ ∃ v, RU A [] p.2 v ∧ RelV v q.2) kvs vs → lookU kvs y = some x →
    ∃ key v u, yv = kV key ∧ valueAt vs key = some u ∧ RU A [] x v ∧ RelV v u := by
  obtain ⟨key, hy, hk⟩ : ∃ key, yv = kV key ∧ keyR y key := by
    cases y with
    | int i m =>
      cases m with
      | zero => obtain ⟨j, rfl, c⟩ := ry; cases c.exact; exact ⟨.inl i, rfl, rfl⟩
      | succ m => cases ky
    | str z => cases (show yv = _ from ry); exact ⟨.inr ⟨z.toArray⟩, rfl, rfl⟩
    | _ => cases ky
  have inj : ∀ {p : U} {q : Key}, keyR p q → (p = y ↔ q = key) := by
    intro p q hp
    cases y with
    | int i m =>
      cases m with
      | succ m => cases ky
      | zero =>
        cases (show key = _ from hk)
        cases p with
        | int j n =>
          cases n with
          | succ n => exact (show False from hp).elim
          | zero => cases (show q = _ from hp); exact ⟨fun e => (by cases e; rfl), fun e => (by cases e; rfl)⟩
        | str z => cases (show q = _ from hp); exact ⟨fun e => (by cases e), fun e => (by cases e)⟩
        | _ => exact (show False from hp).elim
    | str z =>
      cases (show key = _ from hk)
      cases p with
      | int j n =>
        cases n with
        | succ n => exact (show False from hp).elim
        | zero => cases (show q = _ from hp); exact ⟨fun e => (by cases e), fun e => (by cases e)⟩
      | str z' =>
        cases (show q = _ from hp)
        refine ⟨fun e => (by cases e; rfl), fun e => ?_⟩
        have e1 := Sum.inr.inj e
        have e2 := congrArg (fun s : Str => s.cps.toList) e1
        have e3 : z' = z := by simpa using e2
        rw [e3]
      | _ => exact (show False from hp).elim
    | _ => cases ky
  intro kvs r
  induction r with
  | nil => intro h; cases h
  | @cons p q ps qs hpq t ih =>
    intro h
    obtain ⟨pk, pv⟩ := p
    obtain ⟨qk, qv⟩ := q
    obtain ⟨h1, v, h2, h3⟩ := hpq
    simp only [lookU] at h
    by_cases e : pk = y
    · rw [if_pos e] at h
      cases h
      have e2 : qk = key := (inj h1).mp e
      exact ⟨key, v, qv, hy, by simp [valueAt, e2], h2, h3⟩
    · rw [if_neg e] at h
      obtain ⟨key', v', u', g1, g2, g3, g4⟩ := ih h
      have e1 : key' = key := by
        rw [hy] at g1
        cases key <;> cases key' <;> simp_all [kV]
      subst e1
      have e2 : ¬ qk = key' := fun z => e ((inj h1).mpr z)
      refine ⟨key', v', u', g1, ?_, g3, g4⟩
      simp only [valueAt, List.find?_cons]
      rw [decide_eq_false e2]
      exact g2
theorem s_tab {x : Str} {b : Expr} {p pos : Pos} {i d : Nat} {b' : E} (g : GX T A C X) (hb : PE X b (TI T A X.K (ev T cf d b'))) (hs : notSlice b = true) (hg : isGl C x = true) (hn : x ≠ "__debug__") (hx : C.gl.lookup x = some (.con i)) :
    PE X (.Subscript (.Name x p) b pos) (TI T A X.K (ev T cf (d + 1) (.tab i b'))) := by
  intro pins s σ H Q I h
  obtain ⟨α, ρ, hs', u, hs2, rs, R, e, q⟩ := h
  simp only [ev] at e
  obtain ⟨w, h1, e1, e⟩ := bd_some e
  simp only [Option.map_eq_some_iff] at e
  obtain ⟨z, e2, e⟩ := e
  cases e
  unfold tabU at e2
  split at e2
  case h_2 => cases e2
  rename_i kvs ec
  split at e2
  case isFalse => cases e2
  rename_i ky
  obtain ⟨vs, _, hd, hp⟩ := g.tab i kvs ec
  refine subD_of PySem.F.slot_dict_getitem.lookup (plainIx_of hs) (ld_glob I (gl_of g hg) (g.gco x i hx) ?_ (ne_beq hn))
  refine thn (hb pins s σ H (fun y H1 => ∃ α1, Ext α α1 H H1 ∧ Rep T A X.K α1 hs2 H1 ∧ RU A α1 w y) I (TI.run rs R e1 fun α1 y H1 E1 R1 r1 rs1 => ⟨α1, E1, R1, r1⟩)) fun iv s1 ⟨y, H1, I1, ry, α1, E1, R1, r1⟩ => ?_
  obtain ⟨key, v, u', ey, ev', rv, rl⟩ := tab_look ky r1 hp e2
  have dd := hd s1.heap I1.kIn
  subst ey
  exact ⟨dd.typeIs, wpAny_getItem_of (kV_is ry) dd.mapOf ev' ⟨v, H1, I1.tok _, rl, q α1 v H1 E1 R1 (RU.mono (fun n a e => by simp at e) rv)⟩⟩
theorem spC_of {α : List Addr} {us : List U} {vs : List V} {hs hs' : Hs} {H : Hp} {u : U} {f : Nat} {Q : VK} {E : XK} (F : Fc X T A cf k) (r : RUs A α us vs) (R : Rep T A X.K α hs H) (e : cf f us hs = some (u, hs'))
    (q : ∀ α' v H', Ext α α' H H' → Rep T A X.K α' hs' H' → RU A α' u v → Q v H') : spC T A X.K cf f vs H Q E := ⟨α, us, hs, u, hs', r, R, e, F.some f us hs _ e, q⟩
theorem s_call {x : Str} {args : List Expr} {p pos : Pos} {i d : Nat} {es : List E} (g : GX T A C X) (F : Fc X T A cf k) (hr : Room k X.A) (S : Snd T A C X cf m) (hg : isGl C x = true) (hn : x ≠ "__debug__") (hx : C.gl.lookup x = some (.fn i)) (ha : compA m C args = some es) :
    PE X (.Call (.Name x p) args [] pos) (TI T A X.K (ev T cf (d + 1) (.call i es))) := by
  cases hF : T.fns[i]? with
  | none =>
    refine PEfalse ?_
    rintro σ H Q ⟨α, ρ, hs, u, hs', rs, R, e, q⟩
    simp only [ev] at e
    obtain ⟨us, h1, e1, e⟩ := bd_some e
    obtain ⟨F', h, _⟩ := F.some _ _ _ _ e
    rw [hF] at h
    cases h
  | some Fn =>
    obtain ⟨fd, G, b, kp⟩ := F.ok i Fn hF
    have pa := S.a d args es ha
    have key : ∀ σ H Q, TI T A X.K (ev T cf (d + 1) (.call i es)) σ H Q → tCall (spC T A X.K cf i) [] E0 (TIA T A X.K (fun ρ hs => evs (ev T cf d) ρ es hs)) σ H Q := by
      rintro σ H Q ⟨α, ρ, hs, u, hs', rs, R, e, q⟩
      simp only [ev] at e
      obtain ⟨us, h1, e1, e⟩ := bd_some e
      refine TIA.run rs R e1 fun α1 vs H1 E1 R1 r1 rs1 => ?_
      rw [List.append_nil]
      exact spC_of F r1 R1 e fun α2 v H2 E2 R2 r2 => q α2 v H2 (E1.trans E2 R2.h) R2 r2
    cases args with
    | nil =>
      have ee : es = [] := by
        have := compA_len ha
        simpa using this
      subst ee
      refine PEimp (pe_call0 G hr (gl_of g hg) (g.gfn x i hx) kp b .nil pass0 (ne_beq hn)) fun σ H Q h => ?_
      have h2 := key σ H Q h
      obtain ⟨α, ρ, hs, us, hs', rs, R, e, q⟩ := h2
      cases e
      exact q α [] H Ext.refl R .nil
    | cons a r => exact PEimp (pe_call G hr (gl_of g hg) (g.gfn x i hx) kp b .nil pass0 pa (ne_beq hn) (star_cons (compA_noStar ha a (List.mem_cons_self ..))) (star_any fun z hz => compA_noStar ha z (List.mem_cons_of_mem _ hz))) key
theorem evs_app {f : Ev} {ρ : Rho} : ∀ {a b : List E} {us : List U} {hs h2 : Hs}, evs f ρ (a ++ b) hs = some (us, h2) → ∃ ua ub h1, evs f ρ a hs = some (ua, h1) ∧ evs f ρ b h1 = some (ub, h2) ∧ us = ua ++ ub
  | [], b, us, hs, h2, h => ⟨[], us, hs, rfl, h, rfl⟩
  | e :: a, b, us, hs, h2, h => by
    have h : bd (f e ρ hs) (fun u h1 => bd (evs f ρ (a ++ b) h1) fun us h2 => some (u :: us, h2)) = some (us, h2) := h
    obtain ⟨u, h1, e1, h⟩ := bd_some h
    obtain ⟨ws, h3, e2, h⟩ := bd_some h
    cases h
    obtain ⟨ua, ub, h4, e3, e4, rfl⟩ := evs_app e2
    refine ⟨u :: ua, ub, h4, ?_, e4, rfl⟩
    show bd (f e ρ hs) (fun u h1 => bd (evs f ρ a h1) fun us h2 => some (u :: us, h2)) = _
    rw [e1]
    show bd (evs f ρ a h1) _ = _
    rw [e3]
    rfl
theorem evs_con {d : Nat} {ρ : Rho} : ∀ {cs us : List U} {hs h2 : Hs}, evs (ev T cf d) ρ (cs.map .c) hs = some (us, h2) → us = cs ∧ h2 = hs
  | [], us, hs, h2, h => by cases h; exact ⟨rfl, rfl⟩
  | c :: cs, us, hs, h2, h => by
    have h : bd (ev T cf d (.c c) ρ hs) (fun u h1 => bd (evs (ev T cf d) ρ (cs.map .c) h1) fun us h2 => some (u :: us, h2)) = some (us, h2) := h
    obtain ⟨u, h1, e1, h⟩ := bd_some h
    obtain ⟨ws, h3, e2, h⟩ := bd_some h
    cases h
    cases d with
    | zero => simp [ev] at e1
    | succ d =>
      simp only [ev] at e1
      cases e1
      obtain ⟨rfl, rfl⟩ := evs_con e2
      exact ⟨rfl, rfl⟩
theorem RUs.app {α : List Addr} {us ws : List U} {vs zs : List V} (a : RUs A α us vs) (b : RUs A α ws zs) : RUs A α (us ++ ws) (vs ++ zs) := a.append b
theorem Vals.dropN {vs : List V} {us : List Value} (r : Vals vs us) : ∀ n, Vals (vs.drop n) (us.drop n) := fun n => by
  induction r generalizing n with
  | nil => simp; exact .nil
  | cons a t ih =>
    cases n with
    | zero => exact .cons a t
    | succ n => exact ih n
theorem s_callP {x : Str} {args : List Expr} {p pos : Pos} {i d : Nat} {es : List E} {ir : E} (g : GX T A C X) (F : Fc X T A cf k) (hr : Room k X.A) (S : Snd T A C X cf m) (hg : isGl C x = true) (hn : x ≠ "__debug__") (hx : C.gl.lookup x = some (.fn i)) (ha : compA m C args = some es) (h : padC C i es = some ir) :
    PE X (.Call (.Name x p) args [] pos) (TI T A X.K (ev T cf (d + 1) ir)) := by
  unfold padC at h
  rw [g.CT] at h
  split at h
  · cases h
    exact s_call g F hr S hg hn hx ha
  rename_i D hD
  split at h
  case isFalse => cases h
  cases h
  generalize D.ds.length - (D.np - es.length) = n
  cases hF : T.fns[i]? with
  | none =>
    refine PEfalse ?_
    rintro σ H Q ⟨α, ρ, hs, u, hs', rs, R, e, q⟩
    simp only [ev] at e
    obtain ⟨us, h1, e1, e⟩ := bd_some e
    obtain ⟨F', h, _⟩ := F.some _ _ _ _ e
    rw [hF] at h
    cases h
  | some Fn =>
    obtain ⟨fd, G, kp, ds, dvs, rd, vd, hb, _⟩ := F.df i D Fn hD hF
    have pa := S.a d args es ha
    have key : ∀ σ H Q, TI T A X.K (ev T cf (d + 1) (.call i (es ++ (D.ds.drop n).map .c))) σ H Q → tCall (spC T A X.K cf i) (dvs.drop n) E0 (TIA T A X.K (fun ρ hs => evs (ev T cf d) ρ es hs)) σ H Q := by
      rintro σ H Q ⟨α, ρ, hs, u, hs', rs, R, e, q⟩
      simp only [ev] at e
      obtain ⟨us, h1, e1, e⟩ := bd_some e
      obtain ⟨ua, ub, h2, e2, e3, rfl⟩ := evs_app e1
      obtain ⟨rfl, rfl⟩ := evs_con e3
      refine TIA.run rs R e2 fun α1 vs H1 E1 R1 r1 rs1 => ?_
      exact spC_of F (r1.app (RUs.mono (fun n a e => by simp at e) (RUs.drop n rd))) R1 e fun α2 v H2 E2 R2 r2 => q α2 v H2 (E1.trans E2 R2.h) R2 r2
    cases args with
    | nil =>
      have ee : es = [] := by
        have := compA_len ha
        simpa using this
      subst ee
      refine PEimp (pe_call0 G hr (gl_of g hg) (g.gfn x i hx) kp (hb n) (Vals.dropN vd n) pass0 (ne_beq hn)) fun σ H Q h => ?_
      have h2 := key σ H Q h
      obtain ⟨α, ρ, hs, us, hs', rs, R, e, q⟩ := h2
      cases e
      exact q α [] H Ext.refl R .nil
    | cons a r => exact PEimp (pe_call G hr (gl_of g hg) (g.gfn x i hx) kp (hb n) (Vals.dropN vd n) pass0 pa (ne_beq hn) (star_cons (compA_noStar ha a (List.mem_cons_self ..))) (star_any fun z hz => compA_noStar ha z (List.mem_cons_of_mem _ hz))) key
theorem s_callK {x : Str} {a : Expr} {args : List Expr} {kw : Keyword} {p pos : Pos} {i d : Nat} {es : List E} {e' : E} (g : GX T A C X) (F : Fc X T A cf k) (hr : Room k X.A) (S : Snd T A C X cf m) (hk : kwC C x (args.length + 1) kw.arg = some i) (ha : compA m C (a :: args) = some es) (he : compE m C kw.value = some e') :
    PE X (.Call (.Name x p) (a :: args) [kw] pos) (TI T A X.K (ev T cf (d + 1) (.call i (es ++ [e'])))) := by
  unfold kwC at hk
  split at hk
  · cases hk
  rename_i hn
  have n1 : x ≠ "__debug__" := fun z => hn (.inl z)
  have hg : isGl C x = true := by
    cases q : isGl C x with
    | true => rfl
    | false => exact absurd (.inr (.inr q)) hn
  split at hk
  case h_2 => cases hk
  rename_i j hx
  split at hk
  case h_2 => cases hk
  rename_i D hD
  rw [g.CT] at hD
  split at hk
  case isFalse => cases hk
  rename_i c
  cases hk
  obtain ⟨ka, kv, kp⟩ := kw
  simp only at c he
  obtain ⟨rfl, c2⟩ := c
  cases hF : T.fns[i]? with
  | none =>
    refine PEfalse ?_
    rintro σ H Q ⟨α, ρ, hs, u, hs', rs, R, e, q⟩
    simp only [ev] at e
    obtain ⟨us, h1, e1, e⟩ := bd_some e
    obtain ⟨F', h, _⟩ := F.some _ _ _ _ e
    rw [hF] at h
    cases h
  | some Fn =>
    obtain ⟨fd, G, kp', ds, dvs, rd, vd, hb, hkb⟩ := F.df i D Fn hD hF
    have pa := S.a d (a :: args) es ha
    have pe := S.e d kv e' he
    have hns := compA_noStar ha
    refine PEimp (pe_callK (kws := [⟨some D.last, kv, kp⟩]) G hr (gl_of g hg) (g.gfn x i hx) kp' hkb pass0 pa (pk_cons pe pk_nil) rfl rfl (ne_beq n1) (star_cons (hns a (List.mem_cons_self ..))) ?_) ?_
    · rw [star_any hns]
      rfl
    rintro σ H Q ⟨α, ρ, hs, u, hs', rs, R, e, q⟩
    simp only [ev] at e
    obtain ⟨us, h1, e1, e⟩ := bd_some e
    obtain ⟨ua, ub, h2, e2, e3, rfl⟩ := evs_app e1
    have e3 : bd (ev T cf d e' ρ h2) (fun u h1 => bd (evs (ev T cf d) ρ [] h1) fun us h2 => some (u :: us, h2)) = some (ub, h1) := e3
    obtain ⟨w, h3, e4, e3⟩ := bd_some e3
    cases e3
    refine TIA.run rs R e2 fun α1 vs H1 E1 R1 r1 rs1 => ?_
    refine TI.run rs1 R1 e4 fun α2 z H2 E2 R2 r2 rs2 => ?_
    show spC T A X.K cf i (kg vs [z]) H2 Q E0
    exact spC_of F ((RUs.mono E2.pre r1).app (.cons r2 .nil)) R2 e fun α3 v H3 E3 R3 r3 => q α3 v H3 ((E1.trans E2 R2.h).trans E3 R3.h) R3 r3
theorem s_make {x : Str} {args : List Expr} {p pos : Pos} {i d : Nat} {es : List E} (g : GX T A C X) (F : Fc X T A cf k) (hr : Room (k + 1) X.A) (S : Snd T A C X cf m) (hg : isGl C x = true) (hn : x ≠ "__debug__") (hx : C.gl.lookup x = some (.cls i)) (ha : compA m C args = some es) :
    PE X (.Call (.Name x p) args [] pos) (TI T A X.K (ev T cf (d + 1) (.make i es))) := by
  cases hC : T.cls[i]? with
  | none =>
    refine PEfalse ?_
    rintro σ H Q ⟨α, ρ, hs, u, hs', rs, R, e, q⟩
    simp only [ev] at e
    obtain ⟨us, h1, e1, e⟩ := bd_some e
    simp [makeU, hC] at e
  | some Cl =>
    have cl := g.txt.cl i Cl hC
    have li : i < T.cls.length := (List.getElem?_eq_some_iff.mp hC).1
    have pa := S.a d args es ha
    -- the new instance
    have new : ∀ {α : List Addr} {hs : Hs} {H : Hp} (R : Rep T A X.K α hs H) (x dx : Addr), H x = none → H dx = none → dx ≠ x →
        Rep T A X.K (α ++ [x]) (hs ++ [.ins i []]) (upd (upd H dx (.own x)) x (.ins (A.c i) dx [])) ∧ Ext α (α ++ [x]) H (upd (upd H dx (.own x)) x (.ins (A.c i) dx [])) := by
      intro α hs H R x dx hx hd hne
      have ne : ∀ b y, H b = some y → b ≠ dx := fun b y e z => by rw [z, hd] at e; cases e
      have R0 : Rep T A X.K α hs (upd H dx (.own x)) := ⟨⟨R.h.len, R.h.nd, fun n a o e1 e2 => RO.keep (R.h.ob n a o e1 e2) (fun _ _ e => e) fun y e => by rw [upd_ne (ne _ _ e)]; exact e⟩, R.s.keep fun y e _ => by rw [upd_ne (ne _ _ e)]; exact e⟩
      obtain ⟨R1, E1⟩ := R0.new (p := x) (o := .ins i []) (ho := .ins (A.c i) dx []) (by rw [upd_ne (Ne.symm hne)]; exact hx) ⟨dx, [], upd_same, .nil, li⟩
      refine ⟨R1, ⟨E1.pre, fun n a e l => ?_, fun b o e hb => E1.keep b o (by rw [upd_ne (ne _ _ e)]; exact e) hb⟩⟩
      rcases snoc_cases e with z | ⟨_, z⟩
      · have := getElem?_lt z; omega
      · rw [z]; exact hx
    cases hi : Cl.init with
    | none =>
      have ini := cl.ini
      rw [hi] at ini
      cases args with
      | cons a r =>
        refine PEfalse ?_
        rintro σ H Q ⟨α, ρ, hs, u, hs', rs, R, e, q⟩
        simp only [ev] at e
        obtain ⟨us, h1, e1, e⟩ := bd_some e
        have l1 := evs_len e1
        rw [compA_len ha] at l1
        simp only [makeU, hC, hi] at e
        split at e
        · rename_i z
          rw [z] at l1
          simp at l1
        · cases e
      | nil =>
        refine PEimp (pe_make00 (C := A.c i) ⟨cl.mks, ini, cl.kp⟩ (gl_of g hg) (g.gcl x i hx) (ne_beq hn)) ?_
        rintro σ H Q ⟨α, ρ, hs, u, hs', rs, R, e, q⟩
        have ee : es = [] := by
          have := compA_len ha
          simpa using this
        subst ee
        simp only [ev, evs, bd, makeU, hC, hi, if_true] at e
        cases e
        intro y dx h1 h2 h3
        obtain ⟨R1, E1⟩ := new R y dx h1 h2 h3
        exact q _ _ _ E1 R1 ⟨y, by rw [← R.h.len]; exact snoc_at, rfl⟩
    | some f =>
      have ini := cl.ini
      rw [hi] at ini
      have key : ∀ σ H Q, TI T A X.K (ev T cf (d + 1) (.make i es)) σ H Q → TIA T A X.K (fun ρ hs => evs (ev T cf d) ρ es hs) σ H fun vs H1 => ∀ x dx, H1 x = none → H1 dx = none → dx ≠ x →
          spC T A X.K cf f (.ref x :: (vs ++ [])) (upd (upd H1 dx (.own x)) x (.ins (A.c i) dx [])) (fun v H2 => v = .non ∧ Q (.ref x) H2) E0 := by
        rintro σ H Q ⟨α, ρ, hs, u, hs', rs, R, e, q⟩
        simp only [ev] at e
        obtain ⟨us, h1, e1, e⟩ := bd_some e
        simp only [makeU, hC, hi] at e
        split at e
        case h_2 => cases e
        rename_i h2 e2
        cases e
        refine TIA.run rs R e1 fun α1 vs H1 E1 R1 r1 rs1 => ?_
        intro y dx g1 g2 g3
        obtain ⟨R2, E2⟩ := new R1 y dx g1 g2 g3
        rw [List.append_nil]
        have at1 : (α1 ++ [y])[h1.length]? = some y := by rw [← R1.h.len]; exact snoc_at
        refine spC_of F (us := .ref h1.length :: us) (.cons ⟨y, at1, rfl⟩ (RUs.mono E2.pre r1)) R2 e2 fun α3 v H3 E3 R3 r3 => ⟨r3, ?_⟩
        exact q α3 _ H3 (((E1.trans E2 R2.h)).trans E3 R3.h) R3 ⟨y, E3.pre _ _ at1, rfl⟩
      cases hF : T.fns[f]? with
      | none =>
        refine PEfalse ?_
        rintro σ H Q ⟨α, ρ, hs, u, hs', rs, R, e, q⟩
        simp only [ev] at e
        obtain ⟨us, h1, e1, e⟩ := bd_some e
        simp only [makeU, hC, hi] at e
        split at e
        case h_2 => cases e
        rename_i h2 e2
        obtain ⟨F', h, _⟩ := F.some _ _ _ _ e2
        rw [hF] at h
        cases h
      | some Fn =>
        obtain ⟨fd, G, b, kp⟩ := F.ok f Fn hF
        have M : Mk X.K (A.c i) (A.f f) := ⟨cl.mks, ini.1, ini.2, cl.kp⟩
        cases args with
        | nil =>
          have ee : es = [] := by
            have := compA_len ha
            simpa using this
          subst ee
          refine PEimp (pe_make0 M G hr (gl_of g hg) (g.gcl x i hx) b .nil pass0 (ne_beq hn)) fun σ H Q h => ?_
          obtain ⟨α, ρ, hs, us, hs', rs, R, e, q⟩ := key σ H Q h
          cases e
          exact q α [] H Ext.refl R .nil
        | cons a r => exact PEimp (pe_make M G hr (gl_of g hg) (g.gcl x i hx) b .nil pass0 pa (ne_beq hn) (star_cons (compA_noStar ha a (List.mem_cons_self ..))) (star_any fun z hz => compA_noStar ha z (List.mem_cons_of_mem _ hz))) key
end
end Iv
namespace Iv
open PySem PySem.Spec PyProof.Rows L2
section
variable {X : Cx} {T : Tbl} {A : Adr} {C : Ctx} {cf : Cf} {m k : Nat}
theorem star_all {env : Env} {pos : Pos} : ∀ {es : List Expr}, NoStar es → (backTo pos (starEach es env)).all (fun x => !x.1) = true
  | [], _ => rfl
  | e :: r, h => by
    rw [star_cons (h e (List.mem_cons_self ..))]
    have ih := star_all (env := env) (pos := pos) (es := r) fun x hx => h x (List.mem_cons_of_mem _ hx)
    unfold backTo at ih ⊢
    rw [List.map_cons, List.all_cons, ih]
    rfl
theorem form_of {env : Env} {pos : Pos} {args : List Expr} (hn : NoStar args) (hl : args.length < 29) : methodCallForm (args.length + ([] : List Keyword).length) (backTo pos (starEach args env)) (backToKw pos (keywordEach [] env)) = true := by
  unfold methodCallForm
  rw [star_all hn]
  have : (args.length + ([] : List Keyword).length + (if (backToKw pos (keywordEach [] env)).isEmpty then 0 else 1) < 30) := by
    simp only [List.length_nil]
    split <;> omega
  simp only [decide_eq_true this, Bool.and_true, Bool.true_and]
  rfl
theorem meth_eq {o : Expr} {x : Str} {p q : Pos} {args : List Expr} {env : Env} (h1 : noSuper o = true) (h2 : (p.endLine == q.line) = true) (h3 : args.length < 29) (h4 : NoStar args) :
    eval (.Call (.Attribute o x p) args [] q) env = (do
      let ov ← eval o env
      standAt p.atName
      let (f, first) ← holding [ov] (getMethod ov x (do return (← importBound o env).getD true))
      callWith q f first (backTo q (starEach args env)) (backToKw q (keywordEach [] env))) := by
  rw [PySem.arm_eval_Call, noSuper_base h1]
  unfold methodCall
  rw [form_of h4 h3]
  unfold calleeOf methodCallPos
  rw [h2]
  rfl
theorem RF.none_of {α : List Addr} {x : Str} (hx : x ∉ T.fns') : ∀ {fs : List (Nat × U)} {fv : List (Str × V)}, RF T A α fs fv → fv.lookup x = none
  | _, _, .nil => rfl
  | _, _, .cons (a := p) (b := q) r t => by
    obtain ⟨qx, qv⟩ := q
    rw [List.lookup_cons]
    have n2 : (x == qx) = false := by
      rw [beq_eq_false_iff_ne]
      rintro rfl
      exact hx (List.mem_of_getElem? r.1)
    rw [n2]
    exact RF.none_of hx t
theorem methL_some {i f : Nat} {u : U} {hs : Hs} (h : methL T i u hs = some f) : ∃ n c fs Cl, u = .ref n ∧ hs[n]? = some (.ins c fs) ∧ T.cls[c]? = some Cl ∧ Cl.meths.lookup i = some f := by
  cases u with
  | ref n =>
    simp only [methL] at h
    split at h
    · rename_i c fs e
      split at h
      · rename_i Cl e2
        exact ⟨n, c, fs, Cl, rfl, e, e2, h⟩
      · cases h
    · cases h
  | _ => simp [methL] at h
theorem s_meth {o : Expr} {x : Str} {args : List Expr} {p q : Pos} {i d : Nat} {o' : E} {es : List E} (g : GX T A C X) (F : Fc X T A cf k) (hr : Room k X.A) (S : Snd T A C X cf m) (h1 : noSuper o = true) (h2 : (p.endLine == q.line) = true) (h3 : args.length < 29)
    (hx : idx x C.T.mns = some i) (ho : compE m C o = some o') (ha : compA m C args = some es) : PE X (.Call (.Attribute o x p) args [] q) (TI T A X.K (ev T cf (d + 1) (.meth i o' es))) := by
  intro pins s σ H Q I hw
  obtain ⟨α, ρ, hs, u, hs', rs, R, e, q'⟩ := hw
  simp only [ev] at e
  obtain ⟨u1, h1', e1, e⟩ := bd_some e
  split at e
  case h_2 => cases e
  rename_i f hf
  obtain ⟨us, h2', e2, e⟩ := bd_some e
  have hx' : T.mns[i]? = some x := by rw [← g.CT]; exact idx_get hx
  have hns := compA_noStar ha
  refine PySem.W.methodCall_KW (thn (S.e d o o' ho pins s σ H (fun v H1 => ∃ α1, Ext α α1 H H1 ∧ Rep T A X.K α1 h1' H1 ∧ RU A α1 u1 v ∧ RS A α1 ρ σ) I (TI.run rs R e1 fun α1 v H1 E1 R1 r1 rs1 => ⟨α1, E1, R1, r1, rs1⟩)) fun ov s1 ⟨v, H1, I1, rv, α1, E1, R1, r1, rs1⟩ => ?_) (meth_eq h1 h2 h3 hns)
  obtain ⟨n, c, fs, Cl, rfl, eo, hC, hf⟩ := methL_some hf
  obtain ⟨pa', hpa, rfl⟩ := r1
  cases (show ov = _ from rv)
  obtain ⟨dx, fv, q1, rf, lc⟩ := R1.h.ob n pa' _ hpa eo
  have cl := g.txt.cl c Cl hC
  obtain ⟨x', hx2, hm⟩ := cl.me i f hf
  have ex : x = x' := Option.some.inj (hx'.symm.trans hx2)
  subst ex
  have nx : x ∉ T.fns' := fun z => g.txt.fm x z (List.mem_of_getElem? hx')
  obtain ⟨Fn, hF, _⟩ := F.some _ _ _ _ e
  obtain ⟨fd, G, b, kp⟩ := F.ok f Fn hF
  refine getmeth_ok I1 q1 cl.cls hm (RF.none_of nx rf) ?_
  have fin : ∀ (s2 : Shared) (H2 : Hp) (α2 : List Addr) (vs : List V) (ws : List Value), Inv X pins σ H2 s2 → Ext α1 α2 H1 H2 → Rep T A X.K α2 h2' H2 → RUs A α2 us vs → Vals vs ws →
      wpAny (model X.prog X.w) X.A (call (.ref (A.f f)) (.ref pa' :: ws)) (EP X pins σ Q) X.xe s2 := by
    intro s2 H2 α2 vs ws I2 E2 R2 r2 rw'
    refine run_fn (us := .ref pa' :: ws) (vs := .ref pa' :: vs) G hr b .nil pass0 I2 (.cons rfl rw') ?_
    rw [List.append_nil]
    exact spC_of F (us := .ref n :: us) (.cons ⟨pa', E2.pre _ _ hpa, rfl⟩ r2) R2 e fun α3 v H3 E3 R3 r3 => q' α3 v H3 ((E1.trans E2 R2.h).trans E3 R3.h) R3 r3
  cases args with
  | nil =>
    have ee : es = [] := by
      have := compA_len ha
      simpa using this
    subst ee
    cases e2
    exact PySem.W.callWith_K0 (first := [.ref pa']) I1.kIn hm.kp (fin s1 H1 α1 [] [] I1 Ext.refl R1 .nil .nil)
  | cons a r =>
    refine PySem.W.callWith_K (first := [.ref pa']) (h₀ := X.base) I.ok.mod.kin hm.kp (thn (S.a d (a :: r) es ha q pins s1 σ H1 (fun vs H2 => ∃ α2, Ext α1 α2 H1 H2 ∧ Rep T A X.K α2 h2' H2 ∧ RUs A α2 us vs) I1 (TIA.run rs1 R1 e2 fun α2 vs H2 E2 R2 r2 rs2 => ⟨α2, E2, R2, r2⟩)) fun ws s2 ⟨vs, H2, I2, rw', α2, E2, R2, r2⟩ => ⟨I2.kIn, ?_⟩)
      (star_cons (hns a (List.mem_cons_self ..))) (star_any fun z hz => hns z (List.mem_cons_of_mem _ hz))
    exact fin s2 H2 α2 vs ws I2 E2 R2 r2 rw'
theorem few_of {env : Env} {pos : Pos} {e : Expr} {es : List Expr} (hn : NoStar (e :: es)) (hl : (e :: es).length < 29) : ((backTo pos (starEach (e :: es) env)).all (fun x => !x.1) && (backToKw pos (keywordEach [] env)).all (fun x => x.1.isSome)
      && decide ((e :: es).length + ([] : List Keyword).length + (if ([] : List Keyword).isEmpty then 0 else 1) < 30)) = true := by
  rw [star_all hn]
  have : (e :: es).length + ([] : List Keyword).length + (if ([] : List Keyword).isEmpty then 0 else 1) < 30 := by
    simp only [List.length_nil, List.isEmpty_nil, if_true]
    omega
  rw [decide_eq_true this]
  rfl
theorem bm_core {o : Expr} {x : Str} {args : List Expr} {p q : Pos} {d : Nat} {o' : E} {es : List E} {b : Bm} {id ty : String} (S : Snd T A C X cf m) (B : BmS X T A b id) (pa : PlainAttrs ty) (slot : Slot ty x id) (hty : typeOf (.builtin id) = pure (.type "method_descriptor"))
    (ty : ∀ {u : U} {hs : Hs} {α : List Addr} {v : V} {H : Hp}, rcvU b u hs = true → RU A α u v → Rep T A X.K α hs H → L2.tyV X.K ty v H) (h1 : noSuper o = true) (h2 : (p.endLine == q.line) = true) (h3 : args.length < 29)
    (ho : compE m C o = some o') (ha : compA m C args = some es) : PE X (.Call (.Attribute o x p) args [] q) (TI T A X.K (ev T cf (d + 1) (.bm b o' es))) := by
  obtain ⟨r, hm, hB⟩ := B
  have hns := compA_noStar ha
  cases args with
  | nil =>
    have ee : es = [] := by
      have := compA_len ha
      simpa using this
    subst ee
    refine PEimp (pe_bm0 pa slot hty hm (S.e d o o' ho) (noSuper_base h1) h2) ?_
    rintro σ H Q ⟨α, ρ, hs, u, hs', rs, R, e, q⟩
    simp only [ev, evs] at e
    obtain ⟨u1, h1', e1, e⟩ := bd_some e
    split at e
    case isFalse => cases e
    rename_i il
    obtain ⟨us, h2', e2, e⟩ := bd_some e
    cases e2
    exact TI.run rs R e1 fun α1 v H1 E1 R1 r1 rs1 => ⟨ty il r1 R1, hB e r1 .nil R1 fun α2 v2 H2 E2 R2 r2 => q α2 v2 H2 (E1.trans E2 R2.h) R2 r2⟩
  | cons a t =>
    refine PEimp (pe_bm pa slot hty hm (S.e d o o' ho) (S.a d (a :: t) es ha) (noSuper_base h1) (few_of hns h3) h2 (star_cons (hns a (List.mem_cons_self ..))) (star_any fun z hz => hns z (List.mem_cons_of_mem _ hz))) ?_
    rintro σ H Q ⟨α, ρ, hs, u, hs', rs, R, e, q⟩
    simp only [ev] at e
    obtain ⟨u1, h1', e1, e⟩ := bd_some e
    split at e
    case isFalse => cases e
    rename_i il
    obtain ⟨us, h2', e2, e⟩ := bd_some e
    exact TI.run rs R e1 fun α1 v H1 E1 R1 r1 rs1 => ⟨ty il r1 R1, TIA.run rs1 R1 e2 fun α2 vs H2 E2 R2 r2 rs2 => hB e (r1.mono E2.pre) r2 R2 fun α3 v2 H3 E3 R3 r3 => q α3 v2 H3 ((E1.trans E2 R2.h).trans E3 R3.h) R3 r3⟩
def kdB : Bm → String
  | .setdef => "dict"
  | .join => "str"
  | .split => "str"
  | .find => "str"
  | .index => "str"
  | _ => "list"
theorem rcv_ok {b : Bm} {u : U} {hs : Hs} {α : List Addr} {v : V} {H : Hp} (e : rcvU b u hs = true) (r : RU A α u v) (R : Rep T A X.K α hs H) : L2.tyV X.K (kdB b) v H := by
  cases u with
  | ref n =>
    obtain ⟨a, ha, rfl⟩ := r
    simp only [rcvU] at e
    split at e
    · rename_i xs eo
      obtain ⟨vs, q, _⟩ := R.h.ob n a _ ha eo
      have : kdB b = "list" := by cases b <;> first | rfl | cases e
      rw [this]
      exact .inl ⟨rfl, vs, SqL.of q⟩
    · rename_i kvs eo
      obtain ⟨kv, q, _⟩ := R.h.ob n a _ ha eo
      have : kdB b = "dict" := by cases b <;> first | rfl | cases e
      rw [this]
      exact .inr (.inr (.inl ⟨rfl, .inl ⟨kv, q⟩⟩))
    · cases e
  | str x =>
    cases (show v = _ from r)
    have : kdB b = "str" := by cases b <;> first | rfl | cases e
    exact this
  | _ => cases e
theorem s_bm {o : Expr} {x : Str} {args : List Expr} {p q : Pos} {d : Nat} {o' : E} {es : List E} {b : Bm} (tx : Txt T A X.K X.mg) (S : Snd T A C X cf m) (hb : bmOf x = some b) (h1 : noSuper o = true) (h2 : (p.endLine == q.line) = true) (h3 : args.length < 29)
    (ho : compE m C o = some o') (ha : compA m C args = some es) : PE X (.Call (.Attribute o x p) args [] q) (TI T A X.K (ev T cf (d + 1) (.bm b o' es))) := by
  unfold bmOf at hb
  split at hb
  · rename_i e; subst e; cases hb; exact bm_core S bmS_append PySem.F.plainAttrs_list PySem.F.slot_list_append PySem.F.type_list_append (fun e r R => rcv_ok e r R) h1 h2 h3 ho ha
  split at hb
  · rename_i e; subst e; cases hb; exact bm_core S bmS_clear PySem.F.plainAttrs_list PySem.F.slot_list_clear PySem.F.type_list_clear (fun e r R => rcv_ok e r R) h1 h2 h3 ho ha
  split at hb
  · rename_i e; subst e; cases hb; exact bm_core S bmS_extend PySem.F.plainAttrs_list PySem.F.slot_list_extend PySem.F.type_list_extend (fun e r R => rcv_ok e r R) h1 h2 h3 ho ha
  · cases hb
theorem bi_core {args : List Expr} {d : Nat} {es : List E} {b : Bi} {fv : Value} {r : List V → Hp → VK → Prop} {e0 : Expr} (hB : ∀ {α : List Addr} {us : List U} {u' : U} {hs hs' : Hs} {vs : List V} {H : Hp} {Q : VK}, biU T b us hs = some (u', hs') → RUs A α us vs → Rep T A X.K α hs H →
      (∀ α' v' H', Ext α α' H H' → Rep T A X.K α' hs' H' → RU A α' u' v' → Q v' H') → r vs H Q)
    (h : PE X e0 (tCB r (TIA T A X.K (fun ρ hs => evs (ev T cf d) ρ es hs)))) : PE X e0 (TI T A X.K (ev T cf (d + 1) (.bi b es))) := by
  refine PEimp h ?_
  rintro σ H Q ⟨α, ρ, hs, u, hs', rs, R, e, q⟩
  simp only [ev] at e
  obtain ⟨us, h1, e1, e⟩ := bd_some e
  exact TIA.run rs R e1 fun α1 vs H1 E1 R1 r1 rs1 => hB e r1 R1 fun α2 v2 H2 E2 R2 r2 => q α2 v2 H2 (E1.trans E2 R2.h) R2 r2
theorem biU_nil {b : Bi} {hs : Hs} : biU T b [] hs = none := by cases b <;> rfl
theorem s_bi {x : Str} {args : List Expr} {p pos : Pos} {d : Nat} {es : List E} {b : Bi} (g : GX T A C X) (S : Snd T A C X cf m) (hg : isGl C x = true) (hn : x ≠ "__debug__") (hn2 : x ≠ "__name__") (hx : biOf C x = some b) (ha : compA m C args = some es) :
    PE X (.Call (.Name x p) args [] pos) (TI T A X.K (ev T cf (d + 1) (.bi b es))) := by
  have hns := compA_noStar ha
  cases args with
  | nil =>
    refine PEfalse ?_
    rintro σ H Q ⟨α, ρ, hs, u, hs', rs, R, e, q⟩
    have ee : es = [] := by
      have := compA_len ha
      simpa using this
    subst ee
    simp [ev, evs, bd, biU_nil] at e
  | cons a t =>
    unfold biOf at hx
    split at hx
    · cases hx
    split at hx
    · cases hx
    rename_i hl
    have hm : X.mg x = none := g.blt x hl
    have pa := S.a d (a :: t) es ha
    have st := star_cons (env := X.env) (es := t) (hns a (List.mem_cons_self ..))
    have sa := star_any (env := X.env) (pos := pos) (es := t) fun z hz => hns z (List.mem_cons_of_mem _ hz)
    split at hx
    · rename_i e; subst e; cases hx
      obtain ⟨r, hc, hB⟩ := biS_len (X := X) (A := A) g.txt
      exact bi_core (fv := .builtin "len") (args := []) hB (pe_callB hc (gl_of g hg) hm (by decide +kernel) pa hn2 (ne_beq hn) st sa)
    split at hx
    · rename_i e; subst e; cases hx
      obtain ⟨r, hc, hB⟩ := biS_str (X := X) (A := A) (T := T)
      exact bi_core (fv := .none) (args := []) hB (pe_callTy hc (gl_of g hg) hm (by decide +kernel) pa hn2 (ne_beq hn) st sa)
    split at hx
    · rename_i e; subst e; cases hx
      obtain ⟨r, hc, hB⟩ := biS_list (X := X) (A := A) g.txt
      exact bi_core (fv := .none) (args := []) hB (pe_callTy hc (gl_of g hg) hm (by decide +kernel) pa hn2 (ne_beq hn) st sa)
    split at hx
    · rename_i e; subst e; cases hx
      obtain ⟨r, hc, hB⟩ := biS_sum (X := X) (A := A) g.txt g.calm
      exact bi_core (fv := .builtin "sum") (args := []) hB (pe_callB hc (gl_of g hg) hm (by decide +kernel) pa hn2 (ne_beq hn) st sa)
    split at hx
    · rename_i e; subst e; cases hx
      obtain ⟨r, hc, hB⟩ := biS_max (X := X) (A := A) g.txt g.calm
      exact bi_core (fv := .builtin "max") (args := []) hB (pe_callB hc (gl_of g hg) hm (by decide +kernel) pa hn2 (ne_beq hn) st sa)
    split at hx
    · rename_i e; subst e; cases hx
      obtain ⟨r, hc, hB⟩ := biS_min (X := X) (A := A) (T := T) g.calm
      exact bi_core (fv := .builtin "min") (args := []) hB (pe_callB hc (gl_of g hg) hm (by decide +kernel) pa hn2 (ne_beq hn) st sa)
    · cases hx
theorem s_ty {t : Str} {ty : Ty} {p : Pos} (g : GX T A C X) (hg : isGl C t = true) (hn : t ≠ "__debug__") (hn2 : t ≠ "__name__") (h : tyOf C t = some ty) : ∃ v, PE X (.Name t p) (tC v) ∧ clsV v = some (tyW A ty) := by
  unfold tyOf at h
  split at h
  · rename_i i e
    cases h
    exact ⟨.ref (A.c i), pe_glob (gl_of g hg) (g.gcl t i e) rfl (ne_beq hn), rfl⟩
  · cases h
  · split at h
    · cases h
    rename_i e
    have hm : X.mg t = none := g.blt t e
    have fin : ∀ n : String, bootBuiltins t = some (.type n) → PE X (.Name t p) (tC (.ty n)) := fun n hb => pe_bltn (gl_of g hg) hm hb rfl hn2 (ne_beq hn)
    split at h
    · rename_i e; subst e; cases h; exact ⟨_, fin "int" (by decide +kernel), rfl⟩
    split at h
    · rename_i e; subst e; cases h; exact ⟨_, fin "str" (by decide +kernel), rfl⟩
    split at h
    · rename_i e; subst e; cases h; exact ⟨_, fin "bool" (by decide +kernel), rfl⟩
    split at h
    · rename_i e; subst e; cases h; exact ⟨_, fin "list" (by decide +kernel), rfl⟩
    split at h
    · rename_i e; subst e; cases h; exact ⟨_, fin "tuple" (by decide +kernel), rfl⟩
    split at h
    · rename_i e; subst e; cases h; exact ⟨_, fin "dict" (by decide +kernel), rfl⟩
    · cases h
theorem s_isi {a : Expr} {t : Str} {ty : Ty} {a' : E} {p p1 pos : Pos} {d : Nat} (g : GX T A C X) (S : Snd T A C X cf m) (hi : isGl C "isinstance" = true) (hl : ¬ C.bl.contains ("isinstance" : Str) = false) (hg : isGl C t = true) (hn : t ≠ "__debug__") (hn2 : t ≠ "__name__") (h : tyOf C t = some ty) (ha : compE m C a = some a') :
    PE X (.Call (.Name "isinstance" p) [a, .Name t p1] [] pos) (TI T A X.K (ev T cf (d + 1) (.isi a' ty))) := by
  obtain ⟨v, hv, hc⟩ := s_ty (p := p1) g hg hn hn2 h
  have s1 : starEach [a, .Name t p1] X.env = (false, eval a X.env) :: starEach [.Name t p1] X.env := star_cons (compE_noStar ha)
  refine PEimp (pe_callB call_isi (gl_of g hi) (g.blt _ hl) (by decide +kernel) (pa_cons (S.e d a a' ha) (pa_cons hv pa_nil) s1) (by decide) (by decide) s1 rfl) ?_
  rintro σ H Q ⟨α, ρ, hs, u, hs', rs, R, e, q⟩
  simp only [ev] at e
  obtain ⟨u1, h1, e1, e⟩ := bd_some e
  simp only [Option.map_eq_some_iff] at e
  obtain ⟨b, e2, e⟩ := e
  cases e
  refine TI.run rs R e1 fun α1 x H1 E1 R1 r1 rs1 => ?_
  obtain ⟨tv, h1, h2⟩ := isi_ok g.txt e2 r1 R1
  exact ⟨x, v, _, tv, b, rfl, hc, h1, h2, q α1 _ H1 E1 R1 rfl⟩
end
end Iv
namespace L2
open PySem PySem.Spec PyProof.Rows
open Sem (wp)
structure Nx (prog : Program) (w : World) (it l : Addr) (P : Nat → Heap → Prop) (L : Array Value → Heap → Prop) : Prop where
  item : ∀ (A : Around) (E : Value → Shared → Prop) (s : Shared) (k : Nat) (xs : Array Value) (x : Value) (Q : Value → Shared → Prop), P k s.heap → L xs s.heap → xs[k]? = some x → (∀ h', P (k + 1) h' → Heap.SameBut it s.heap h' → Q x { s with heap := h' }) →
    wpAny (model prog w) A (Builtin.SmallTypes.nextOf (.ref it)) Q E s
  done : ∀ (A : Around) (E : Value → Shared → Prop) (s : Shared) (k : Nat) (xs : Array Value) (Q : Value → Shared → Prop), A.handled = none → P k s.heap → L xs s.heap → xs[k]? = none →
    (∀ h' e, Heap.ExtBut it s.heap h' → (∃ o, h'.get? e = some o ∧ o.cls = .type "StopIteration") → E (.ref e) { s with heap := h' }) → wpAny (model prog w) A (Builtin.SmallTypes.nextOf (.ref it)) Q E s
  keepP : ∀ k h h', P k h → (∀ o, h.get? it = some o → h'.get? it = some o) → P k h'
  keepL : ∀ xs h h', L xs h → (∀ o, h.get? l = some o → h'.get? l = some o) → L xs h'
  obj : ∀ k h, P k h → ∃ o vs, h.get? it = some o ∧ o.data = .fields vs
theorem nx_list (prog : Program) (w : World) (it l : Addr) : Nx prog w it l (fun k h => h.IsListIter it l k) (fun xs h => h.IsList l xs) where
  item := fun A E s k xs x Q p q e h => wpAny_nextOf_list_item p q e h
  done := fun A E s k xs Q hh p q e h => wpAny_nextOf_list_end hh p q e h
  keepP := fun k h h' p f => p.at fun o e => f o e
  keepL := fun xs h h' p f => p.at fun o e => f o e
  obj := fun k h ⟨o, e, _, d⟩ => ⟨o, _, e, d⟩
section
variable {prog : Program} {w : World} {A : Around} {E : Value → Shared → Prop} {s : Shared}
theorem nextOf_tuple_item {it t : Addr} {i : Nat} {items : Array Value} {x : Value} {Q : Value → Shared → Prop} (hit : s.heap.IsTupleIter it t i)
    (ht : s.heap.IsTuple t items) (hx : items[i]? = some x) (hQ : ∀ h', h'.IsTupleIter it t (i + 1) → Heap.SameBut it s.heap h' → Q x { s with heap := h' }) :
    wpAny (model prog w) A (Builtin.SmallTypes.nextOf (.ref it)) Q E s := by
  obtain ⟨o, ho, hc, hd⟩ := id hit
  obtain ⟨ol, hol, _, nl, hdl⟩ := ht
  unfold Builtin.SmallTypes.nextOf
  refine wpAny_bind (wpAny_callSpecial?_slot (name := Str.ofString "__next__") hit.typeIs F.slot_tuple_iterator_next
    (wpAny_call_entry F.slot_tuple_iterator_next hit.typeIs F.entry_tuple_iterator_next ?_ (F.args_tuple_iterator_next_1 _)))
  show wpAny _ _ (field (.ref it) 0 >>= _) _ _ s
  refine wpAny_bind (wpAny_field ho hd (x := .ref t) rfl ?_)
  show wpAny _ _ (if (Value.ref t == Value.none) = true then _ else _) _ _ s
  rw [if_neg (show ¬ ((Value.ref t == Value.none) = true) from Bool.false_ne_true)]
  show wpAny _ _ (field (.ref it) 1 >>= _) _ _ s
  refine wpAny_bind (wpAny_field ho hd (x := .int i 0) rfl ?_)
  show wpAny _ _ (seqItems? (.ref t) >>= _) _ _ s
  refine wpAny_bind (wpAny_seqItems hol hdl ?_)
  simp only [Int.toNat_natCast, hx]
  refine wpAny_bind (wpAny_setField ho hd (by simp) (wpAny_pure ⟨x, rfl, wpAny_pure (hQ _ ?_ (Heap.SameBut.update ..))⟩))
  exact ⟨_, Heap.get?_update_self _ ho (Obj.isFreed_of_fields (Obj.data_mapFields hd _)), (Obj.cls_mapFields ..).trans hc, by
    rw [Obj.data_mapFields hd]; simp [rawInt]⟩
theorem nextOf_tuple_end {it t : Addr} {i : Nat} {items : Array Value} {Q : Value → Shared → Prop} (hh : A.handled = none)
    (hit : s.heap.IsTupleIter it t i) (ht : s.heap.IsTuple t items) (hx : items[i]? = none)
    (hE : ∀ h' e, Heap.ExtBut it s.heap h' → (∃ o, h'.get? e = some o ∧ o.cls = .type "StopIteration") → E (.ref e) { s with heap := h' }) :
    wpAny (model prog w) A (Builtin.SmallTypes.nextOf (.ref it)) Q E s := by
  obtain ⟨o, ho, hc, hd⟩ := id hit
  obtain ⟨ol, hol, _, nl, hdl⟩ := ht
  unfold Builtin.SmallTypes.nextOf
  refine wpAny_bind (wpAny_callSpecial?_slot (name := Str.ofString "__next__") hit.typeIs F.slot_tuple_iterator_next
    (wpAny_call_entry F.slot_tuple_iterator_next hit.typeIs F.entry_tuple_iterator_next ?_ (F.args_tuple_iterator_next_1 _)))
  show wpAny _ _ (field (.ref it) 0 >>= _) _ _ s
  refine wpAny_bind (wpAny_field ho hd (x := .ref t) rfl ?_)
  show wpAny _ _ (if (Value.ref t == Value.none) = true then _ else _) _ _ s
  rw [if_neg (show ¬ ((Value.ref t == Value.none) = true) from Bool.false_ne_true)]
  show wpAny _ _ (field (.ref it) 1 >>= _) _ _ s
  refine wpAny_bind (wpAny_field ho hd (x := .int i 0) rfl ?_)
  show wpAny _ _ (seqItems? (.ref t) >>= _) _ _ s
  refine wpAny_bind (wpAny_seqItems hol hdl ?_)
  simp only [Int.toNat_natCast, hx]
  refine wpAny_bind (wpAny_rule (wpAny_bind (wpAny_setField ho hd (by simp) ?_)))
  show wpAny _ _ (newExc (.type "StopIteration") [] >>= _) _ _ _
  refine wpAny_bind ?_
  simp only [newExc, newTuple]
  refine wpAny_bind (wpAny_newObj_type ?_ (by size_fits))
  refine wpAny_bind (m := firstArgMember _ _) (wpAny_of_eq (a := Value.none) (by first | rfl | (simp only [firstArgMember]; rfl)) ?_)
  refine wpAny_newObj_type ?_ (by size_fits)
  simp only [raiseNew]
  refine wpAny_bind (wpAny_handled ?_)
  first | rw [show A.in1.handled = none from hh] | rw [hh]
  refine wpAny_bind (wpAny_pure (wpAny_throw ?_))
  exact hE _ _ (((Heap.SameBut.update ..).extBut.push _).push _) ⟨_, Heap.get?_push_size _ rfl, rfl⟩
end
theorem nx_tuple (prog : Program) (w : World) (it l : Addr) : Nx prog w it l (fun k h => h.IsTupleIter it l k) (fun xs h => h.IsTuple l xs) where
  item := fun A E s k xs x Q p q e h => nextOf_tuple_item p q e h
  done := fun A E s k xs Q hh p q e h => nextOf_tuple_end hh p q e h
  keepP := fun k h h' p f => p.at fun o e => f o e
  keepL := fun xs h h' p f => p.at fun o e => f o e
  obj := fun k h ⟨o, e, _, d⟩ => ⟨o, _, e, d⟩
section
variable {prog : Program} {w : World} {A : Around} {E : Value → Shared → Prop} {s : Shared} {z TI TO i1 i2 l1 l2 : Addr} {P1 P2 : Nat → Heap → Prop} {L1 L2 : Array Value → Heap → Prop}
theorem zipG_item {k1 k2 : Nat} {xs ys : Array Value} {x y a b : Value} {Q : Value → Shared → Prop} (N1 : Nx prog w i1 l1 P1 L1) (N2 : Nx prog w i2 l2 P2 L2) (D : ZipApart z TI TO i1 i2 l1 l2)
    (hz : IsZip s.heap z TI TO .none) (hTI : IsPair s.heap TI (.ref i1) (.ref i2)) (hTO : IsPair s.heap TO a b)
    (h1 : P1 k1 s.heap) (h2 : P2 k2 s.heap) (hl1 : L1 xs s.heap) (hl2 : L2 ys s.heap) (hx : xs[k1]? = some x) (hy : ys[k2]? = some y)
    (hQ : ∀ h', IsZip h' z TI TO (rawInt s.heap.objs.size) → IsPair h' TO x y → P1 (k1 + 1) h' → P2 (k2 + 1) h' → IsPair h' s.heap.objs.size x y → h'.objs.size = s.heap.objs.size + 1 →
      (∀ c o, c ≠ z → c ≠ TO → c ≠ i1 → c ≠ i2 → s.heap.get? c = some o → h'.get? c = some o) → Q (.ref s.heap.objs.size) { s with heap := h' }) :
    wpAny (model prog w) A (Builtin.«zip.__next__» ⟨[.ref z], []⟩) (fun fin s' => ∃ v, fin = .done (.ret v) ∧ Q v s') E s := by
  have kP1 : ∀ {k : Nat} {h h' : Heap} {c : Addr}, P1 k h → Heap.SameBut c h h' → i1 ≠ c → P1 k h' := fun {k h h' c} p sb ne => N1.keepP k h h' p fun o e => (sb.2 i1 ne).trans e
  have kP2 : ∀ {k : Nat} {h h' : Heap} {c : Addr}, P2 k h → Heap.SameBut c h h' → i2 ≠ c → P2 k h' := fun {k h h' c} p sb ne => N2.keepP k h h' p fun o e => (sb.2 i2 ne).trans e
  have kL1 : ∀ {h h' : Heap} {c : Addr}, L1 xs h → Heap.SameBut c h h' → l1 ≠ c → L1 xs h' := fun {h h' c} p sb ne => N1.keepL xs h h' p fun o e => (sb.2 l1 ne).trans e
  have kL2 : ∀ {h h' : Heap} {c : Addr}, L2 ys h → Heap.SameBut c h h' → l2 ≠ c → L2 ys h' := fun {h h' c} p sb ne => N2.keepL ys h h' p fun o e => (sb.2 l2 ne).trans e
  show wpAny _ _ (field (.ref z) 2 >>= _) _ _ _
  refine wpAny_bind (wpAny_field hz rfl (x := .bool false) rfl ?_)
  show wpAny _ _ (field (.ref z) 3 >>= _) _ _ _
  refine wpAny_bind (wpAny_field hz rfl (x := .ref TI) rfl ?_)
  refine wpAny_bind (wpAny_seqItems hTI rfl ?_)
  show wpAny _ _ (Builtin.SmallTypes.ownedTupleIsFree (.ref z) >>= _) _ _ _
  refine wpAny_bind ?_
  unfold Builtin.SmallTypes.ownedTupleIsFree
  refine wpAny_bind (wpAny_field hz rfl (x := .none) rfl (wpAny_pure ?_))
  simp only [if_true]
  refine wpAny_bind (wpAny_rule ?_)
  refine wpAny_bind (wpAny_field hz rfl (x := .ref TO) rfl ?_)
  refine wpAny_bind (wpAny_setField_rec hz (by simp) fun h₁ hz₁ hs₁ => ?_)
  replace hz₁ : IsZip h₁ z TI TO .ellipsis := hz₁
  refine wpAny_bind ?_
  simp only [List.zipIdx_cons, List.zipIdx_nil, List.forIn_cons, List.forIn_nil]
  refine wpAny_bind (wpAny_bind (wpAny_onRaise ?_))
  show wpAny _ _ (Builtin.SmallTypes.nextOf (.ref i1) >>= _) _ _ _
  refine wpAny_bind (N1.item _ _ _ _ _ _ _ (kP1 h1 hs₁ D.i1z) (kL1 hl1 hs₁ D.l1z) hx fun h₂ h1₂ hs₂ => wpAny_pure ?_)
  have hTO₂ : IsPair h₂ TO a b := hs₂.extBut _ _ D.TOi1 (hs₁.extBut _ _ D.TOz hTO)
  refine wpAny_bind (wpAny_seqItems hTO₂ rfl ?_)
  refine wpAny_bind (wpAny_updateSeq_pair hTO₂ fun h₃ hTO₃ hs₃ => ?_)
  replace hTO₃ : IsPair h₃ TO x b := hTO₃
  refine wpAny_bind (wpAny_letGo (wpAny_pure ?_))
  refine wpAny_bind (wpAny_bind (wpAny_onRaise ?_))
  show wpAny _ _ (Builtin.SmallTypes.nextOf (.ref i2) >>= _) _ _ _
  refine wpAny_bind (N2.item _ _ _ _ _ _ _ (kP2 (kP2 (kP2 h2 hs₁ D.i2z) hs₂ D.i12.symm) hs₃ D.TOi2.symm) (kL2 (kL2 (kL2 hl2 hs₁ D.l2z) hs₂ D.l2i1) hs₃ D.l2TO) hy fun h₄ h2₄ hs₄ => wpAny_pure ?_)
  have hTO₄ : IsPair h₄ TO x b := hs₄.extBut _ _ D.TOi2 hTO₃
  refine wpAny_bind (wpAny_seqItems hTO₄ rfl ?_)
  refine wpAny_bind (wpAny_updateSeq_pair hTO₄ fun h₅ hTO₅ hs₅ => ?_)
  replace hTO₅ : IsPair h₅ TO x y := hTO₅
  refine wpAny_bind (wpAny_letGo (wpAny_pure (wpAny_pure ?_)))
  refine wpAny_bind (wpAny_seqItems hTO₅ rfl ?_)
  refine wpAny_bind (wpAny_newTuple ?_)
  have hsz : h₅.objs.size = s.heap.objs.size := by rw [hs₅.1, hs₄.1, hs₃.1, hs₂.1, hs₁.1]
  have hz₅ : IsZip h₅ z TI TO .ellipsis := hs₅.extBut _ _ D.TOz.symm (hs₄.extBut _ _ D.i2z.symm (hs₃.extBut _ _ D.TOz.symm (hs₂.extBut _ _ D.i1z.symm hz₁)))
  have hk₅ : ∀ c o, c ≠ z → c ≠ TO → c ≠ i1 → c ≠ i2 → s.heap.get? c = some o → h₅.get? c = some o := fun c o c1 c2 c3 c4 e =>
    hs₅.extBut _ _ c2 (hs₄.extBut _ _ c4 (hs₃.extBut _ _ c2 (hs₂.extBut _ _ c3 (hs₁.extBut _ _ c1 e))))
  have h1₅ : P1 (k1 + 1) h₅ := kP1 (kP1 (kP1 h1₂ hs₃ D.TOi1.symm) hs₄ D.i12) hs₅ D.TOi1.symm
  have h2₅ : P2 (k2 + 1) h₅ := kP2 h2₄ hs₅ D.TOi2.symm
  have hzlt : z < h₅.objs.size := Heap.lt_size hz₅
  show wpAny _ _ (Builtin.SmallTypes.ownedTupleHandOut (.ref z) (.ref h₅.objs.size) >>= _) _ _ _
  refine wpAny_bind ?_
  unfold Builtin.SmallTypes.ownedTupleHandOut
  have hz₆ : IsZip (h₅.push { cls := .type "tuple", data := .seq #[x, y] }) z TI TO .ellipsis := Heap.get?_push_of_some _ hz₅
  refine wpAny_bind (wpAny_setField_rec hz₆ (by simp) fun h₇ hz₇ hs₇ => ?_)
  replace hz₇ : IsZip h₇ z TI TO (rawInt h₅.objs.size) := hz₇
  refine wpAny_setField_rec hz₇ (by simp) fun h₈ hz₈ hs₈ => ?_
  replace hz₈ : IsZip h₈ z TI TO (rawInt h₅.objs.size) := hz₈
  have up : ∀ c o, c ≠ z → h₅.get? c = some o → h₈.get? c = some o := fun c o c1 e => hs₈.extBut _ _ c1 (hs₇.extBut _ _ c1 (Heap.get?_push_of_some _ e))
  have hT₈ : IsPair h₈ h₅.objs.size x y := hs₈.extBut _ _ (Nat.ne_of_gt hzlt) (hs₇.extBut _ _ (Nat.ne_of_gt hzlt) (Heap.get?_push_size _ rfl))
  have hz8 : h₈.objs.size = h₅.objs.size + 1 := by rw [hs₈.1, hs₇.1, Heap.size_push]
  rw [hsz] at hz₈ hT₈ hz8
  refine wpAny_pure ⟨_, rfl, ?_⟩
  show Q (.ref h₅.objs.size) _
  rw [hsz]
  exact hQ h₈ hz₈ (up _ _ D.TOz hTO₅) (N1.keepP _ _ _ h1₅ fun o e => up _ o D.i1z e) (N2.keepP _ _ _ h2₅ fun o e => up _ o D.i2z e) hT₈ hz8 fun c o c1 c2 c3 c4 e => up c o c1 (hk₅ c o c1 c2 c3 c4 e)
theorem zipG_end {k1 k2 : Nat} {xs ys : Array Value} {a b : Value} {Q : Fin → Shared → Prop} (N1 : Nx prog w i1 l1 P1 L1) (N2 : Nx prog w i2 l2 P2 L2) (hh : A.handled = none) (D : ZipApart z TI TO i1 i2 l1 l2)
    (hz : IsZip s.heap z TI TO .none) (hTI : IsPair s.heap TI (.ref i1) (.ref i2)) (hTO : IsPair s.heap TO a b)
    (h1 : P1 k1 s.heap) (h2 : P2 k2 s.heap) (hl1 : L1 xs s.heap) (hl2 : L2 ys s.heap) (hend : xs[k1]? = none ∨ ys[k2]? = none)
    (hE : ∀ h' e, (∀ c o, c ≠ z → c ≠ TO → c ≠ i1 → c ≠ i2 → s.heap.get? c = some o → h'.get? c = some o) → (∃ o, h'.get? e = some o ∧ o.cls = .type "StopIteration") → E (.ref e) { s with heap := h' }) :
    wpAny (model prog w) A (Builtin.«zip.__next__» ⟨[.ref z], []⟩) Q E s := by
  have kP1 : ∀ {k : Nat} {h h' : Heap} {c : Addr}, P1 k h → Heap.SameBut c h h' → i1 ≠ c → P1 k h' := fun {k h h' c} p sb ne => N1.keepP k h h' p fun o e => (sb.2 i1 ne).trans e
  have kP2 : ∀ {k : Nat} {h h' : Heap} {c : Addr}, P2 k h → Heap.SameBut c h h' → i2 ≠ c → P2 k h' := fun {k h h' c} p sb ne => N2.keepP k h h' p fun o e => (sb.2 i2 ne).trans e
  have kL1 : ∀ {h h' : Heap} {c : Addr}, L1 xs h → Heap.SameBut c h h' → l1 ≠ c → L1 xs h' := fun {h h' c} p sb ne => N1.keepL xs h h' p fun o e => (sb.2 l1 ne).trans e
  have kL2 : ∀ {h h' : Heap} {c : Addr}, L2 ys h → Heap.SameBut c h h' → l2 ≠ c → L2 ys h' := fun {h h' c} p sb ne => N2.keepL ys h h' p fun o e => (sb.2 l2 ne).trans e
  show wpAny _ _ (field (.ref z) 2 >>= _) _ _ _
  refine wpAny_bind (wpAny_field hz rfl (x := .bool false) rfl ?_)
  show wpAny _ _ (field (.ref z) 3 >>= _) _ _ _
  refine wpAny_bind (wpAny_field hz rfl (x := .ref TI) rfl ?_)
  refine wpAny_bind (wpAny_seqItems hTI rfl ?_)
  show wpAny _ _ (Builtin.SmallTypes.ownedTupleIsFree (.ref z) >>= _) _ _ _
  refine wpAny_bind ?_
  unfold Builtin.SmallTypes.ownedTupleIsFree
  refine wpAny_bind (wpAny_field hz rfl (x := .none) rfl (wpAny_pure ?_))
  simp only [if_true]
  refine wpAny_bind (wpAny_rule ?_)
  refine wpAny_bind (wpAny_field hz rfl (x := .ref TO) rfl ?_)
  refine wpAny_bind (wpAny_setField_rec hz (by simp) fun h₁ hz₁ hs₁ => ?_)
  replace hz₁ : IsZip h₁ z TI TO .ellipsis := hz₁
  refine wpAny_bind ?_
  simp only [List.zipIdx_cons, List.zipIdx_nil, List.forIn_cons, List.forIn_nil]
  refine wpAny_bind (wpAny_bind (wpAny_onRaise ?_))
  show wpAny _ _ (Builtin.SmallTypes.nextOf (.ref i1) >>= _) _ _ _
  cases hx : xs[k1]? with
  | none =>
    refine wpAny_bind (N1.done _ _ _ _ _ _ hh (kP1 h1 hs₁ D.i1z) (kL1 hl1 hs₁ D.l1z) hx fun h₂ e hs₂ he => ?_)
    obtain ⟨oe, hoe, hce⟩ := he
    have hz₂ : IsZip h₂ z TI TO .ellipsis := hs₂ _ _ D.i1z.symm hz₁
    have hez : e ≠ z := fun x => by subst x; rw [hz₂] at hoe; cases hoe; simp at hce
    refine wpAny_setField_rec hz₂ (by simp) fun h₃ _ hs₃ => hE h₃ e (fun c o c1 _ c3 _ x => hs₃.extBut _ _ c1 (hs₂ _ _ c3 (hs₁.extBut _ _ c1 x))) ⟨oe, hs₃.extBut _ _ hez hoe, hce⟩
  | some x =>
    have hy : ys[k2]? = none := by rcases hend with h | h; rw [hx] at h; cases h; exact h
    refine wpAny_bind (N1.item _ _ _ _ _ _ _ (kP1 h1 hs₁ D.i1z) (kL1 hl1 hs₁ D.l1z) hx fun h₂ h1₂ hs₂ => wpAny_pure ?_)
    have hTO₂ : IsPair h₂ TO a b := hs₂.extBut _ _ D.TOi1 (hs₁.extBut _ _ D.TOz hTO)
    refine wpAny_bind (wpAny_seqItems hTO₂ rfl ?_)
    refine wpAny_bind (wpAny_updateSeq_pair hTO₂ fun h₃ hTO₃ hs₃ => ?_)
    refine wpAny_bind (wpAny_letGo (wpAny_pure ?_))
    refine wpAny_bind (wpAny_bind (wpAny_onRaise ?_))
    show wpAny _ _ (Builtin.SmallTypes.nextOf (.ref i2) >>= _) _ _ _
    refine wpAny_bind (N2.done _ _ _ _ _ _ hh (kP2 (kP2 (kP2 h2 hs₁ D.i2z) hs₂ D.i12.symm) hs₃ D.TOi2.symm) (kL2 (kL2 (kL2 hl2 hs₁ D.l2z) hs₂ D.l2i1) hs₃ D.l2TO) hy fun h₄ e hs₄ he => ?_)
    obtain ⟨oe, hoe, hce⟩ := he
    have hz₄ : IsZip h₄ z TI TO .ellipsis := hs₄ _ _ D.i2z.symm (hs₃.extBut _ _ D.TOz.symm (hs₂.extBut _ _ D.i1z.symm hz₁))
    have hez : e ≠ z := fun x => by subst x; rw [hz₄] at hoe; cases hoe; simp at hce
    refine wpAny_setField_rec hz₄ (by simp) fun h₅ _ hs₅ => hE h₅ e (fun c o c1 c2 c3 c4 x => hs₅.extBut _ _ c1 (hs₄ _ _ c4 (hs₃.extBut _ _ c2 (hs₂.extBut _ _ c3 (hs₁.extBut _ _ c1 x))))) ⟨oe, hs₅.extBut _ _ hez hoe, hce⟩
theorem pyNext_zipG_item {k1 k2 : Nat} {xs ys : Array Value} {x y a b : Value} {Q : Option Value → Shared → Prop} (N1 : Nx prog w i1 l1 P1 L1) (N2 : Nx prog w i2 l2 P2 L2) (D : ZipApart z TI TO i1 i2 l1 l2)
    (hz : IsZip s.heap z TI TO .none) (hTI : IsPair s.heap TI (.ref i1) (.ref i2)) (hTO : IsPair s.heap TO a b)
    (h1 : P1 k1 s.heap) (h2 : P2 k2 s.heap) (hl1 : L1 xs s.heap) (hl2 : L2 ys s.heap) (hx : xs[k1]? = some x) (hy : ys[k2]? = some y)
    (hQ : ∀ h', IsZip h' z TI TO (rawInt s.heap.objs.size) → IsPair h' TO x y → P1 (k1 + 1) h' → P2 (k2 + 1) h' → IsPair h' s.heap.objs.size x y → h'.objs.size = s.heap.objs.size + 1 →
      (∀ c o, c ≠ z → c ≠ TO → c ≠ i1 → c ≠ i2 → s.heap.get? c = some o → h'.get? c = some o) → Q (some (.ref s.heap.objs.size)) { s with heap := h' }) :
    wpAny (model prog w) A (pyNext (.ref z)) Q E s := by
  have hT : s.TypeIs (.ref z) "zip" := ⟨_, hz, rfl⟩
  unfold pyNext
  exact wpAny_bind (wpAny_attempt (wpAny_callSpecial?_slot (name := Str.ofString "__next__") hT F.slot_zip_next
    (wpAny_call_entry F.slot_zip_next hT F.entry_zip_next
      (zipG_item N1 N2 D hz hTI hTO h1 h2 hl1 hl2 hx hy fun h' a1 a2 a3 a4 a5 a6 a7 => wpAny_pure (hQ h' a1 a2 a3 a4 a5 a6 a7)) (F.args_zip_next_1 _))))
theorem pyNext_zipG_end {k1 k2 : Nat} {xs ys : Array Value} {a b : Value} {Q : Option Value → Shared → Prop} (N1 : Nx prog w i1 l1 P1 L1) (N2 : Nx prog w i2 l2 P2 L2) (hh : A.handled = none) (D : ZipApart z TI TO i1 i2 l1 l2)
    (hz : IsZip s.heap z TI TO .none) (hTI : IsPair s.heap TI (.ref i1) (.ref i2)) (hTO : IsPair s.heap TO a b)
    (h1 : P1 k1 s.heap) (h2 : P2 k2 s.heap) (hl1 : L1 xs s.heap) (hl2 : L2 ys s.heap) (hend : xs[k1]? = none ∨ ys[k2]? = none)
    (hQ : ∀ h', (∀ c o, c ≠ z → c ≠ TO → c ≠ i1 → c ≠ i2 → s.heap.get? c = some o → h'.get? c = some o) → Q none { s with heap := h' }) : wpAny (model prog w) A (pyNext (.ref z)) Q E s := by
  have hT : s.TypeIs (.ref z) "zip" := ⟨_, hz, rfl⟩
  unfold pyNext
  refine wpAny_bind (wpAny_attempt (wpAny_callSpecial?_slot (name := Str.ofString "__next__") hT F.slot_zip_next
    (wpAny_call_entry F.slot_zip_next hT F.entry_zip_next (zipG_end N1 N2 hh D hz hTI hTO h1 h2 hl1 hl2 hend fun h' e hk he => ?_) (F.args_zip_next_1 _))))
  obtain ⟨o, ho, hc⟩ := he
  refine wpAny_bind (wpAny_isInstance (T := "StopIteration") (b := true) ⟨o, ho, hc⟩ isSubtype_stop ?_)
  exact wpAny_pure (hQ _ hk)
end
end L2
namespace L2
open PySem PySem.Spec PyProof.Rows
section
variable {X : Cx} {pins : List (Addr × Obj)} {σ : St} {H : Hp} {s : Shared} {h' : Heap}
theorem Inv.turnedLay {t' : Nat} {ch : List Addr} {p : Addr} {vs : List V} {its : List Value} (I : Inv X pins σ H s) (hf : ∀ b ∈ ch, FpOk X pins H b) (k : ∀ b o, b ∉ ch → s.heap.get? b = some o → h'.get? b = some o)
    (there : ∀ b o, b ∈ ch → s.heap.get? b = some o → ∃ o', h'.get? b = some o')
    (hp : s.heap.objs.size ≤ p) (hv : Vals vs its) (ht : IsTup h' p its.toArray) (hz : vs.length ≤ sizeLine) : Inv X pins σ (upd H p (.tup vs)) { s with heap := h', toks := t' } := by
  have hn : H p = none := I.hok.fresh hp
  have ne : ∀ b o, s.heap.get? b = some o → b ≠ p := fun b o e z => by
    have := Heap.lt_size e
    rw [z] at this
    exact absurd (Nat.lt_of_lt_of_le this hp) (Nat.lt_irrefl _)
  have nch : ∀ b u, H b = some u → b ∉ ch := fun b u e z => by rw [(hf b z).1] at e; cases e
  have up : ∀ b u, H b = some u → upd H p (.tup vs) b = some u := fun b u e => by rw [upd_ne (ne_of_none e hn)]; exact e
  refine I.step (g' := s.gens) (d' := s.drawn) (ch := ch) (fun b hb => ?_) (fun b o _ _ hc e _ => k b o hc e) (fun b o _ _ hc e _ => ⟨o.slots, k b o hc e⟩) (fun b o _ e n => by rw [upd_ne (ne b o e)]; exact n)
    (fun b o hc e => ⟨o, k b o hc e⟩) (fun b xs e => up b _ e) (fun b o u e => up b _ e) (fun b ps e => ⟨#[], by rw [up b _ e]; simp⟩) (fun m hm => ?_) (fun b u e => ?_) I.bare
  · obtain ⟨_, f1, _, f3, f4, f5⟩ := hf b hb
    exact ⟨f3, f1, f4, f5⟩
  · obtain ⟨o, es, ep, ho, r⟩ := hm
    refine ⟨o, es, ep, k _ o (fun z => (hf _ z).2.1 rfl) ho, r⟩
  · by_cases hb : b = p
    · subst hb
      rw [upd_same] at e
      cases e
      exact ⟨hz, its, hv, ht⟩
    · rw [upd_ne hb] at e
      refine (I.hok b u e).stay (fun c v hc q => k c v ?_ q) (fun c q => up c _ q) fun c xs q => up c _ q
      rcases hc with z | z
      · rw [z]; exact nch b u e
      · exact nch c _ z
theorem Inv.turnedL {t' : Nat} {ch : List Addr} (I : Inv X pins σ H s) (hf : ∀ b ∈ ch, FpOk X pins H b) (k : ∀ b o, b ∉ ch → s.heap.get? b = some o → h'.get? b = some o) : Inv X pins σ H { s with heap := h', toks := t' } := by
  have nch : ∀ b u, H b = some u → b ∉ ch := fun b u e z => by rw [(hf b z).1] at e; cases e
  refine I.step (g' := s.gens) (d' := s.drawn) (ch := ch) (fun b hb => ?_) (fun b o _ _ hc e _ => k b o hc e) (fun b o _ _ hc e _ => ⟨o.slots, k b o hc e⟩) (fun b o _ e n => n)
    (fun b o hc e => ⟨o, k b o hc e⟩) (fun b xs e => e) (fun b o u e => e) (fun b ps e => ⟨#[], by rw [e]; simp⟩) (fun m hm => ?_) (fun b u e => ?_) I.bare
  · obtain ⟨_, f1, _, f3, f4, f5⟩ := hf b hb
    exact ⟨f3, f1, f4, f5⟩
  · obtain ⟨o, es, ep, ho, r⟩ := hm
    exact ⟨o, es, ep, k _ o (fun z => (hf _ z).2.1 rfl) ho, r⟩
  · refine (I.hok b u e).stay (fun c v hc q => k c v ?_ q) (fun c q => q) fun c xs q => q
    rcases hc with z | z
    · rw [z]; exact nch b u e
    · exact nch c _ z
end
def SqB : Bool → PySem.W.Frag → Hp → Addr → List V → Prop
  | true => SqL
  | false => SqT
def LB : Bool → Addr → Array Value → Heap → Prop
  | true, l => fun xs h => h.IsList l xs
  | false, l => fun xs h => h.IsTuple l xs
def PB : Bool → Addr → Addr → Nat → Heap → Prop
  | true, it, l => fun k h => h.IsListIter it l k
  | false, it, l => fun k h => h.IsTupleIter it l k
theorem nxB (b : Bool) (prog : Program) (w : World) (it l : Addr) : Nx prog w it l (PB b it l) (LB b l) := by
  cases b with
  | true => exact nx_list prog w it l
  | false => exact nx_tuple prog w it l
theorem Inv.sqB {X : Cx} {pins : List (Addr × Obj)} {σ : St} {H : Hp} {s : Shared} {b : Bool} {a : Addr} {xs : List V} (I : Inv X pins σ H s) (h : SqB b X.K H a xs) : ∃ its : List Value, Vals xs its ∧ LB b a its.toArray s.heap ∧ xs.length ≤ sizeLine := by
  cases b with
  | true => obtain ⟨its, r, p, z⟩ := I.list h; exact ⟨its, r, p.isList, z⟩
  | false => obtain ⟨its, r, p, z⟩ := I.tuple h; exact ⟨its, r, p, z⟩
theorem Inv.sqB_inj {X : Cx} {pins : List (Addr × Obj)} {σ : St} {H : Hp} {s : Shared} {b : Bool} {a : Addr} {xs ys : List V} (I : Inv X pins σ H s) (h : SqB b X.K H a xs) (h' : SqB b X.K H a ys) : xs = ys := by
  cases b with
  | true => exact I.list_inj h h'
  | false => exact I.tuple_inj h h'
def Itz (b c : Bool) (K : PySem.W.Frag) (a1 a2 : Addr) : It :=
  ⟨fun i H => ∃ xs ys x y, SqB b K H a1 xs ∧ SqB c K H a2 ys ∧ xs[i]? = some x ∧ ys[i]? = some y,
   fun i H x H' => ∃ p v w, H p = none ∧ x = .ref p ∧ H' = upd H p (.tup [v, w]) ∧ (∀ xs, SqB b K H a1 xs → xs[i]? = some v) ∧ ∀ ys, SqB c K H a2 ys → ys[i]? = some w,
   fun i H => ∃ xs ys, SqB b K H a1 xs ∧ SqB c K H a2 ys ∧ (xs.length ≤ i ∨ ys.length ≤ i)⟩
theorem turn_zip {P : Program} {w : World} {K : PySem.W.Frag} {elts : List Expr} {kt : Nat} {pt : Pos} (b b' : Bool) (a1 a2 z TI TO i1 i2 : Addr) (D : ZipApart z TI TO i1 i2 a1 a2) :
    Turn P w K (.Tuple elts kt pt) (Itz b b' K a1 a2) [z, TI, TO, i1, i2] z (fun i h => IsZip h z TI TO .none ∧ IsPair h TI (.ref i1) (.ref i2) ∧ (∃ a c, IsPair h TO a c) ∧ PB b i1 a1 i h ∧ PB b' i2 a2 i h) where
  mem := by simp
  obj := fun i h st c hc => by
    obtain ⟨hz, hTI, ⟨a, c', hTO⟩, p1, p2⟩ := st
    have hc' : c = z ∨ c = TI ∨ c = TO ∨ c = i1 ∨ c = i2 := by simpa using hc
    rcases hc' with rfl | rfl | rfl | rfl | rfl
    · exact ⟨_, hz, fun v q => nomatch q⟩
    · exact ⟨_, hTI, fun v q => nomatch q⟩
    · exact ⟨_, hTO, fun v q => nomatch q⟩
    · obtain ⟨o, vs, e, d⟩ := (nxB b P w c a1).obj i h p1
      exact ⟨o, e, fun v q => by rw [d] at q; cases q⟩
    · obtain ⟨o, vs, e, d⟩ := (nxB b' P w c a2).obj i h p2
      exact ⟨o, e, fun v q => by rw [d] at q; cases q⟩
  keep := fun i h h' st k => by
    obtain ⟨hz, hTI, ⟨a, c', hTO⟩, p1, p2⟩ := st
    exact ⟨k z (by simp) _ hz, k TI (by simp) _ hTI, ⟨a, c', k TO (by simp) _ hTO⟩, (nxB b P w i1 a1).keepP i h h' p1 fun o e => k i1 (by simp) o e, (nxB b' P w i2 a2).keepP i h h' p2 fun o e => k i2 (by simp) o e⟩
  item := by
    intro X hP hw hK hc i pins s σ H E I hf st hg
    subst hP hw hK
    obtain ⟨hz, hTI, ⟨a, c', hTO⟩, p1, p2⟩ := st
    obtain ⟨xs, ys, x, y, q1, q2, ex, ey⟩ := hg
    obtain ⟨it1, r1, l1, _⟩ := I.sqB q1
    obtain ⟨it2, r2, l2, _⟩ := I.sqB q2
    obtain ⟨u, hu, ru⟩ := r1.get ex
    obtain ⟨v, hv, rv⟩ := r2.get ey
    have ltz : ∀ c, c ∈ [z, TI, TO, i1, i2] → c < s.heap.objs.size := fun c hc => by
      have hc' : c = z ∨ c = TI ∨ c = TO ∨ c = i1 ∨ c = i2 := by simpa using hc
      rcases hc' with rfl | rfl | rfl | rfl | rfl
      · exact Heap.lt_size hz
      · exact Heap.lt_size hTI
      · exact Heap.lt_size hTO
      · obtain ⟨o, vs, e, d⟩ := (nxB b X.prog X.w c a1).obj i _ p1; exact Heap.lt_size e
      · obtain ⟨o, vs, e, d⟩ := (nxB b' X.prog X.w c a2).obj i _ p2; exact Heap.lt_size e
    refine pyNext_zipG_item (nxB b X.prog X.w i1 a1) (nxB b' X.prog X.w i2 a2) D hz hTI hTO p1 p2 l1 l2 (x := u) (y := v) (by simpa using hu) (by simpa using hv) fun h' b1 b2 b3 b4 b5 b6 b7 => ?_
    refine ⟨_, rfl, ?_⟩
    refine wpAny_letOwnedTupleGo_zip (s := { s with heap := h' }) b1 fun h2 c1 c2 => ?_
    have nep : ∀ c, c ∈ [z, TI, TO, i1, i2] → c ≠ s.heap.objs.size := fun c hc => Nat.ne_of_lt (ltz c hc)
    have up : ∀ c o, c ≠ z → h'.get? c = some o → h2.get? c = some o := fun c o hc e => c2.extBut _ _ hc e
    have kp : ∀ c o, c ∉ [z, TO, i1, i2] → s.heap.get? c = some o → h2.get? c = some o := fun c o hc e => by
      have hc' : ¬ (c = z ∨ c = TO ∨ c = i1 ∨ c = i2) := by simpa using hc
      exact up c o (fun q => hc' (.inl q)) (b7 c o (fun q => hc' (.inl q)) (fun q => hc' (.inr (.inl q))) (fun q => hc' (.inr (.inr (.inl q)))) (fun q => hc' (.inr (.inr (.inr q)))) e)
    have hf' : ∀ c ∈ [z, TO, i1, i2], FpOk X pins H c := fun c hc => hf c (by
      have hc' : c = z ∨ c = TO ∨ c = i1 ∨ c = i2 := by simpa using hc
      rcases hc' with rfl | rfl | rfl | rfl <;> simp)
    have hT : IsPair h2 s.heap.objs.size u v := up _ _ (Ne.symm (nep z (by simp))) b5
    have I2 : Inv X pins σ (upd H s.heap.objs.size (.tup [x, y])) { s with heap := h2 } := I.turnedLay (t' := s.toks) (its := [u, v]) hf' kp (fun c o _ e => by
      by_cases hc : c ∈ [z, TO, i1, i2]
      · have hc' : c = z ∨ c = TO ∨ c = i1 ∨ c = i2 := by simpa using hc
        rcases hc' with rfl | rfl | rfl | rfl
        · exact ⟨_, c1⟩
        · exact ⟨_, up _ _ D.TOz b2⟩
        · obtain ⟨o, vs, e, d⟩ := (nxB b X.prog X.w c a1).obj _ _ b3; exact ⟨o, up _ _ D.i1z e⟩
        · obtain ⟨o, vs, e, d⟩ := (nxB b' X.prog X.w c a2).obj _ _ b4; exact ⟨o, up _ _ D.i2z e⟩
      · exact ⟨o, kp c o hc e⟩) (Nat.le_refl _) (.cons ru (.cons rv .nil)) ⟨_, hT, rfl, _, rfl⟩ (by show 2 ≤ sizeLine; decide)
    have hn : H s.heap.objs.size = none := I.hok.fresh (Nat.le_refl _)
    refine ⟨.ref s.heap.objs.size, _, I2, rfl, ⟨_, x, y, hn, rfl, rfl, fun ws hw => by rw [I.sqB_inj hw q1]; exact ex, fun ws hw => by rw [I.sqB_inj hw q2]; exact ey⟩, ⟨c1, ?_, ⟨_, _, up _ _ D.TOz b2⟩, ?_, ?_⟩, fun c hc => ?_⟩
    · exact kp _ _ (by
        have d1 := D.TIz; have d2 := D.TITO; have d3 := D.TIi1; have d4 := D.TIi2
        simp [d1, d2, d3, d4]) hTI
    · exact (nxB b X.prog X.w i1 a1).keepP _ _ _ b3 fun o e => up _ _ D.i1z e
    · exact (nxB b' X.prog X.w i2 a2).keepP _ _ _ b4 fun o e => up _ _ D.i2z e
    · rw [upd_ne (nep c hc)]
      exact (hf c hc).1
  done := by
    intro X hP hw hK hc i pins s σ H E I hf st hg
    subst hP hw hK
    obtain ⟨hz, hTI, ⟨a, c', hTO⟩, p1, p2⟩ := st
    obtain ⟨xs, ys, q1, q2, hl⟩ := hg
    obtain ⟨it1, r1, l1, _⟩ := I.sqB q1
    obtain ⟨it2, r2, l2, _⟩ := I.sqB q2
    have e1 := r1.length
    have e2 := r2.length
    refine pyNext_zipG_end (nxB b X.prog X.w i1 a1) (nxB b' X.prog X.w i2 a2) (I.ok.hd hc) D hz hTI hTO p1 p2 l1 l2 (by
      rcases hl with q | q
      · exact .inl (by simp; omega)
      · exact .inr (by simp; omega)) fun h' kp => ⟨rfl, I.turnedL (t' := s.toks) (ch := [z, TO, i1, i2]) (fun c hc => hf c (by
        have hc' : c = z ∨ c = TO ∨ c = i1 ∨ c = i2 := by simpa using hc
        rcases hc' with rfl | rfl | rfl | rfl <;> simp)) fun c o hc e => ?_⟩
    have hc' : ¬ (c = z ∨ c = TO ∨ c = i1 ∨ c = i2) := by simpa using hc
    exact kp c o (fun q => hc' (.inl q)) (fun q => hc' (.inr (.inl q))) (fun q => hc' (.inr (.inr (.inl q)))) (fun q => hc' (.inr (.inr (.inr q)))) e
  self := fun A i s Q E st h => wpAny_pyIter_zip st.1 h
abbrev itObj (b : Bool) (l : Addr) : Obj := { cls := .type (if b then "list_iterator" else "tuple_iterator"), data := .fields #[.ref l, .int 0 0] }
abbrev zH1 (b : Bool) (h : Heap) (l1 : Addr) : Heap := h.push (itObj b l1)
abbrev zH2 (b b' : Bool) (h : Heap) (l1 l2 : Addr) : Heap := (zH1 b h l1).push (itObj b' l2)
abbrev zH3 (b b' : Bool) (h : Heap) (l1 l2 : Addr) : Heap := (zH2 b b' h l1 l2).push { cls := .type "tuple", data := .seq #[.ref h.objs.size, .ref (zH1 b h l1).objs.size] }
abbrev zH4 (b b' : Bool) (h : Heap) (l1 l2 : Addr) : Heap := (zH3 b b' h l1 l2).push { cls := .type "tuple", data := .seq #[.none, .none] }
abbrev zH5 (b b' : Bool) (h : Heap) (l1 l2 : Addr) : Heap := (zH4 b b' h l1 l2).push { cls := .type "zip", data := .fields #[.none, .bool false, .bool false, .ref (zH2 b b' h l1 l2).objs.size, .ref (zH3 b b' h l1 l2).objs.size] }
theorem meets_zipB (b b' : Bool) (l1 l2 : Addr) (xs ys : Array Value) :
    Meets (Builtin.«zip.__new__» ⟨[.type "zip", .ref l1, .ref l2], []⟩) (fun _ R s => LB b l1 xs s.heap ∧ LB b' l2 ys s.heap ∧
      R (.ok (.ret (.ref (zH4 b b' s.heap l1 l2).objs.size))) { s with heap := zH5 b b' s.heap l1 l2 }) := by
  refine .of_wp fun prog w A R s h => ?_
  obtain ⟨hp, g, d, tk, os⟩ := s; obtain ⟨hl1, hl2, h⟩ := h
  have hsub := sub_zip
  cases b with
  | true =>
    have hL1 : Heap.IsList (Shared.heap ⟨hp, g, d, tk, os⟩) l1 xs := hl1
    cases b' with
    | true =>
      have hL2 : Heap.IsList (Shared.heap ⟨hp.push { cls := .type "list_iterator", data := .fields #[.ref l1, .int 0 0] }, g, d, tk, os⟩) l2 ys := Heap.IsList.push hl2 _
      wp_walk using wpAny_pyIter_list hL1, wpAny_pyIter_list hL2
      exact ⟨_, rfl, h⟩
    | false =>
      have hL2 : Heap.IsTuple (Shared.heap ⟨hp.push { cls := .type "list_iterator", data := .fields #[.ref l1, .int 0 0] }, g, d, tk, os⟩) l2 ys := Heap.IsTuple.at hl2 fun o e => Heap.get?_push_of_some _ e
      wp_walk using wpAny_pyIter_list hL1, wpAny_pyIter_tuple hL2
      exact ⟨_, rfl, h⟩
  | false =>
    have hL1 : Heap.IsTuple (Shared.heap ⟨hp, g, d, tk, os⟩) l1 xs := hl1
    cases b' with
    | true =>
      have hL2 : Heap.IsList (Shared.heap ⟨hp.push { cls := .type "tuple_iterator", data := .fields #[.ref l1, .int 0 0] }, g, d, tk, os⟩) l2 ys := Heap.IsList.push hl2 _
      wp_walk using wpAny_pyIter_tuple hL1, wpAny_pyIter_list hL2
      exact ⟨_, rfl, h⟩
    | false =>
      have hL2 : Heap.IsTuple (Shared.heap ⟨hp.push { cls := .type "tuple_iterator", data := .fields #[.ref l1, .int 0 0] }, g, d, tk, os⟩) l2 ys := Heap.IsTuple.at hl2 fun o e => Heap.get?_push_of_some _ e
      wp_walk using wpAny_pyIter_tuple hL1, wpAny_pyIter_tuple hL2
      exact ⟨_, rfl, h⟩
section
variable {prog : Program} {w : World} {A : Around} {E : Value → Shared → Prop} {s : Shared}
theorem call_zipB {b b' : Bool} {l1 l2 : Addr} {xs ys : Array Value} {Q : Value → Shared → Prop} (hl1 : LB b l1 xs s.heap) (hl2 : LB b' l2 ys s.heap)
    (h : ∀ h', IsZip h' (s.heap.objs.size + 4) (s.heap.objs.size + 2) (s.heap.objs.size + 3) .none → IsPair h' (s.heap.objs.size + 2) (.ref s.heap.objs.size) (.ref (s.heap.objs.size + 1)) →
      IsPair h' (s.heap.objs.size + 3) .none .none → PB b s.heap.objs.size l1 0 h' → PB b' (s.heap.objs.size + 1) l2 0 h' → h'.objs.size = s.heap.objs.size + 5 →
      (∀ c o, s.heap.get? c = some o → h'.get? c = some o) → Q (.ref (s.heap.objs.size + 4)) { s with heap := h' }) :
    wpAny (model prog w) A (call (.type "zip") [.ref l1, .ref l2]) Q E s := by
  refine callType_new F.called_zip (by decide) (F.typeCall_zip_2 _ _) (F.newCall_zip_2 _ _) (fun obj => F.args_object_init_3 obj _ _) F.entry_zip_new
    (meets_zipB b b' l1 l2 xs ys) ⟨hl1, hl2, ?_⟩
  have z1 : (zH1 b s.heap l1).objs.size = s.heap.objs.size + 1 := Heap.size_push ..
  have z2 : (zH2 b b' s.heap l1 l2).objs.size = s.heap.objs.size + 2 := by rw [Heap.size_push, z1]
  have z3 : (zH3 b b' s.heap l1 l2).objs.size = s.heap.objs.size + 3 := by rw [Heap.size_push, z2]
  have z4 : (zH4 b b' s.heap l1 l2).objs.size = s.heap.objs.size + 4 := by rw [Heap.size_push, z3]
  have z5 : (zH5 b b' s.heap l1 l2).objs.size = s.heap.objs.size + 5 := by rw [Heap.size_push, z4]
  have g5 : (zH5 b b' s.heap l1 l2).get? (zH4 b b' s.heap l1 l2).objs.size = some _ := Heap.get?_push_size _ rfl
  have g4 : (zH5 b b' s.heap l1 l2).get? (zH3 b b' s.heap l1 l2).objs.size = some _ := Heap.get?_push_of_some _ (Heap.get?_push_size _ rfl)
  have g3 : (zH5 b b' s.heap l1 l2).get? (zH2 b b' s.heap l1 l2).objs.size = some _ := Heap.get?_push_of_some _ (Heap.get?_push_of_some _ (Heap.get?_push_size _ rfl))
  have g2 : (zH5 b b' s.heap l1 l2).get? (zH1 b s.heap l1).objs.size = some (itObj b' l2) := Heap.get?_push_of_some _ (Heap.get?_push_of_some _ (Heap.get?_push_of_some _ (Heap.get?_push_size _ rfl)))
  have g1 : (zH5 b b' s.heap l1 l2).get? s.heap.objs.size = some (itObj b l1) := Heap.get?_push_of_some _ (Heap.get?_push_of_some _ (Heap.get?_push_of_some _ (Heap.get?_push_of_some _ (Heap.get?_push_size _ rfl))))
  show _ ∧ _
  rw [z2, z3, z4] at g5
  rw [z1, z2] at g3
  rw [z3] at g4
  rw [z1] at g2
  rw [z4]
  refine ⟨⟨_, g5, rfl⟩, h _ g5 g3 g4 ?_ ?_ z5 fun c o x => Heap.get?_push_of_some _ (Heap.get?_push_of_some _ (Heap.get?_push_of_some _ (Heap.get?_push_of_some _ (Heap.get?_push_of_some _ x))))⟩
  · cases b <;> exact ⟨_, g1, rfl, rfl⟩
  · cases b' <;> exact ⟨_, g2, rfl, rfl⟩
end
section
variable {X : Cx}
def iZip (b b' : Bool) (K : PySem.W.Frag) (ta : TA) : TI := fun σ H R => ta σ H fun vs H1 => ∃ a1 a2, vs = [.ref a1, .ref a2] ∧ (∃ xs, SqB b K H1 a1 xs) ∧ (∃ ys, SqB b' K H1 a2 ys) ∧ R (Itz b b' K a1 a2) H1
theorem pi_zip {b b' : Bool} {e1 e2 : Expr} {ta : TA} {elts : List Expr} {kt : Nat} {pt p pos : Pos} (hg : Gl X "zip") (hm : X.mg "zip" = none) (ha : PA X [e1, e2] ta) (hs : starEach [e1, e2] X.env = [(false, eval e1 X.env), (false, eval e2 X.env)]) (hs2 : starEach [e2] X.env = [(false, eval e2 X.env)]) :
    PI X (.Tuple elts kt pt) (.Call (.Name "zip" p) [e1, e2] [] pos) (iZip b b' X.K ta) := by
  intro pins s σ H R I h
  refine Call_ (ld_blt I hg hm PyProof.Rows.boot_zip (PyProof.Rows.callWith_type1 (thn (ha pos pins s σ H _ I h) fun us s1 ⟨vs, H1, I1, r1, q1⟩ => ?_) (by rw [hs, hs2]) (by rw [hs2]; rfl)))
  obtain ⟨a1, a2, e, ⟨xs, q1⟩, ⟨ys, q2⟩, q⟩ := q1
  subst e
  obtain ⟨u, w', rfl, ru, rw'⟩ := vals2 r1
  cases (show u = _ from ru)
  cases (show w' = _ from rw')
  obtain ⟨it1, v1, l1, _⟩ := I1.sqB q1
  obtain ⟨it2, v2, l2, _⟩ := I1.sqB q2
  have hlt1 : a1 < s1.heap.objs.size := by
    cases b with
    | true => obtain ⟨o, e, _⟩ := l1; exact Heap.lt_size e
    | false => obtain ⟨o, e, _⟩ := l1; exact Heap.lt_size e
  have hlt2 : a2 < s1.heap.objs.size := by
    cases b' with
    | true => obtain ⟨o, e, _⟩ := l2; exact Heap.lt_size e
    | false => obtain ⟨o, e, _⟩ := l2; exact Heap.lt_size e
  refine call_zipB l1 l2 fun h' b1 b2 b3 b4 b5 b6 b7 => ?_
  refine wpAny_pyIter_zip b1 ?_
  have I2 : Inv X pins σ H1 { s1 with heap := h' } := I1.kept (t' := s1.toks) b7
  refine ⟨_, [s1.heap.objs.size + 4, s1.heap.objs.size + 2, s1.heap.objs.size + 3, s1.heap.objs.size, s1.heap.objs.size + 1], _, _, H1, rfl, I2, turn_zip b b' a1 a2 _ _ _ _ _ (PySem.W.ktu_apart _ _ _ hlt1 hlt2), ⟨b1, b2, ⟨_, _, b3⟩, b4, b5⟩, fun c hc => ?_, q⟩
  have hc' : c = s1.heap.objs.size + 4 ∨ c = s1.heap.objs.size + 2 ∨ c = s1.heap.objs.size + 3 ∨ c = s1.heap.objs.size ∨ c = s1.heap.objs.size + 1 := by simpa using hc
  have le : s1.heap.objs.size ≤ c := by rcases hc' with rfl | rfl | rfl | rfl | rfl <;> omega
  exact I1.fpOk le (I1.hok.fresh le)
end
end L2
namespace L2
open PySem PySem.Spec PyProof.Rows
section
variable {X : Cx}
end
end L2
namespace L2
open PySem PySem.Spec PyProof.Rows
def Cx.block (X : Cx) (xs : List Str) (scope : Scope) (C : Addr) (s : Shared) (H : Hp) (fp : List Addr) : Cx :=
  { X with N := hideN xs X.N ++ xs, s₀ := s, H₀ := H, env := compEnvC scope (clOf X.env.cells scope.names []) C X.env, outer := X.stack, ex := fp, fn := fun _ => false, pn := [], xe := fun _ _ => False }
structure CompOk (X : Cx) (xs : List Str) (scope : Scope) : Prop where
  kind : scope.kind = .function
  loc : ∀ x ∈ xs, scope.names.lookup x = some .local
  all : ∀ y ∈ scope.names, (y.2 = .local → (y.1 ∈ xs ∨ y.1 = ".0") ∧ scope.names.lookup y.1 = some .local) ∧ y.2 ≠ .cell ∧ (y.2 = .free → X.env.scope.names.lookup y.1 = some .cell ∨ X.env.scope.names.lookup y.1 = some .free)
  hid : ∀ x ∈ xs, scope.names.lookup (mang x) = none
  nd : xs.Nodup
  dot : (".0" : Str) ∉ X.N
section
variable {X : Cx} {xs : List Str} {scope : Scope} {pins : List (Addr × Obj)} {σ : St} {H : Hp} {s : Shared} {fp : List Addr}
theorem CompOk.free_of (k : CompOk X xs scope) (hk : X.env.scope.kind = .function) {y : Str} (h : (relabel scope X.env).names.lookup y = some .cell ∨ (relabel scope X.env).names.lookup y = some .free) : (y, NameKind.free) ∈ scope.names := by
  rw [relabel_names hk, relN_look] at h
  cases q : scope.names.lookup y with
  | none => rw [q] at h; simp at h
  | some kd =>
    rw [q] at h
    have m := lookup_mem q
    cases kd with
    | free => exact m
    | cell => exact absurd rfl (k.all _ m).2.1
    | _ => simp at h
theorem CompOk.local_of (k : CompOk X xs scope) (hk : X.env.scope.kind = .function) {y : Str} (h : (relabel scope X.env).names.lookup y = some .local) : y ∈ xs ∨ y = ".0" := by
  rw [relabel_names hk, relN_look] at h
  cases q : scope.names.lookup y with
  | none => rw [q] at h; simp at h
  | some kd =>
    rw [q] at h
    have m := lookup_mem q
    cases kd with
    | «local» => exact ((k.all _ m).1 rfl).1
    | free =>
      simp only [Option.map_some] at h
      split at h <;> cases h
    | _ => simp at h
theorem clOf_cells {cells : List (Str × Addr)} {l : List (Str × NameKind)} {y : Str} {c : Addr} (e : (clOf cells l []).lookup y = some c) : cells.lookup y = some c := by
  rcases clOf_look e with z | z
  · simp at z
  · exact z
theorem pad_get {σ : St} {n i : Nat} {v : V} (e : (σ ++ List.replicate n none)[i]? = some (some v)) : σ[i]? = some (some v) := by
  by_cases h : i < σ.length
  · rw [List.getElem?_append_left h] at e
    exact e
  · rw [List.getElem?_append_right (by omega), List.getElem?_replicate] at e
    split at e <;> cases e
theorem Inv.block {h₁ : Heap} {m : Str → Option Value} {tk : Nat} (I : Inv X pins σ H s) (k : CompOk X xs scope) (hf : ∀ b ∈ fp, FpOk X pins H b) (hfs : ∀ b ∈ fp, b < s.heap.objs.size)
    (hn : h₁.Ns s.heap.objs.size m) (kp : ∀ b o, s.heap.get? b = some o → h₁.get? b = some o) : Inv (X.block xs scope s.heap.objs.size s H fp) [] (σ ++ List.replicate xs.length none) H { s with heap := h₁, toks := tk } := by
  have hk : X.env.scope.kind = .function := I.ok.kind
  have fsub : ∀ b ∈ fp, b ∉ frs X.stack := fun b hb z => by
    rcases List.mem_cons.mp (I.stkSub b z) with e | e
    · exact (hf b hb).2.1 e
    · exact (hf b hb).2.2.1 e
  have okB : (X.block xs scope s.heap.objs.size s H fp).Ok := {
    mod := I.ok.mod
    kind := k.kind
    glob := I.ok.glob
    blt := I.ok.blt
    above := Nat.le_refl _
    inj := fun y z c e1 e2 => I.ok.inj y z c (clOf_cells e1) (clOf_cells e2)
    has := fun y h => by
      have m := k.free_of hk h
      obtain ⟨c, hc⟩ := I.ok.has y ((k.all _ m).2.2 rfl)
      exact ⟨c, clOf_has hc (.inl m)⟩
    cab := fun y c h => nomatch h
    hd := I.ok.hd
    frames := I.ok.frames
    stk := .inl rfl
    exf := fun b hb => ⟨Nat.ne_of_lt (hfs b hb), fun y c e => (hf b hb).2.2.2.2.1 y c (clOf_cells e)⟩
    bs := I.bs
    bsz := Nat.le_trans I.ok.bsz I.sz
    noex := fun b o e hb => by
      rcases (hf b hb).2.2.2.1 with z | z
      · exact I.ok.noex b o e z
      · exact absurd (Nat.lt_of_lt_of_le (Heap.lt_size e) (Nat.le_trans I.ok.bsz z)) (Nat.lt_irrefl _)
    exfs := fun b hb z => fsub b hb z
    funs := I.stack
    frf := fun b hb => I.stkFree b hb }
  refine ⟨okB, rfl, I.bare, Un.kept kp, ⟨m, hn, fun i y v e1 e2 e3 => ?_⟩, fun y c e => ?_, I.hok.fresh (Nat.le_refl _), fun y c e => I.freeC y c (clOf_cells e), (fun p hp => by cases hp), I.hok.kept kp, ?_⟩
  · have e1 : (hideN xs X.N ++ xs)[i]? = some y := e1
    have e3 : Vis (relabel scope X.env) y := e3
    have q2 : σ[i]? = some (some v) := pad_get e2
    have q0 : (hideN xs X.N)[i]? = some y := by
      have := (List.getElem?_eq_some_iff.mp q2).1
      rw [I.len, ← hide_len (xs := xs)] at this
      rw [List.getElem?_append_left this] at e1
      exact e1
    obtain ⟨z, q1, ⟨zm, rfl⟩ | ⟨zn, rfl⟩⟩ := hide_get q0
    · have no := k.hid z zm
      have no' : (relabel scope X.env).names.lookup (mang z) = none := by rw [relabel_names hk, relN_look, no]; rfl
      rcases e3 with w | w | w <;> (rw [no'] at w; cases w)
    have ym : y ∈ X.N := List.mem_of_getElem? q1
    have hcf : (relabel scope X.env).names.lookup y = some .cell ∨ (relabel scope X.env).names.lookup y = some .free := by
      rcases e3 with z | z
      · rcases k.local_of hk z with q | q
        · exact absurd q zn
        · exact absurd (q ▸ ym) k.dot
      · exact z
    have m' := k.free_of hk hcf
    have xk := (k.all _ m').2.2 rfl
    obtain ⟨mm, hnn, hl⟩ := I.loc
    obtain ⟨u, r, l⟩ := hl i y v q1 q2 (.inr xk)
    refine ⟨u, r, .inr ⟨hcf, ?_⟩⟩
    rcases l with ⟨l, _⟩ | ⟨_, c, e, o, ho, hd⟩
    · have l : X.env.scope.names.lookup y = some .local := l
      rcases xk with z | z <;> (rw [l] at z; cases z)
    · exact ⟨c, clOf_has e (.inl m'), o, kp c o ho, hd⟩
  · obtain ⟨v, o, ho, hd⟩ := I.cell y c (clOf_cells e)
    exact ⟨v, o, kp c o ho, hd⟩
  · show (σ ++ List.replicate xs.length none).length = (hideN xs X.N ++ xs).length
    simp [I.len, hide_len]
def PTO (X : Cx) (tl : Option Expr) (tt : TT) : Prop := match tl with
  | none => ∀ σ H Q, tt σ H Q → Q true H
  | some c => PT X c tt
def tComp (wi : TI) (n : Nat) (g : TG) (tt : TT) (te : TE) : TE := fun σ H Q => wi σ H fun J H1 => ∀ D, H1 D = none → ∃ W : Nat → Nat → List V → Hp → Prop, (∃ m, W 0 m [] (upd H1 D (.lst []))) ∧ ∀ i m ys H2, W i m ys H2 → H2 D = some (.lst ys) ∧
  ((J.stop i H2 ∧ Q (.ref D) H2) ∨ (J.go i H2 ∧ ys.length < sizeLine ∧ ∀ x H3 os, os.length = n → J.yld i H2 x H3 → g x (σ ++ os) H3 fun σ' H4 => (∃ os', os'.length = n ∧ σ' = σ ++ os') ∧ tt σ' H4 fun b H5 => if b = true then te σ' H5 fun y H6 => H6 D = some (.lst ys) ∧ ∃ m', m' < m ∧ W (i + 1) m' (ys ++ [y]) (upd H6 D (.lst (ys ++ [y]))) else ∃ m', m' < m ∧ W (i + 1) m' ys H5))
theorem comp_block {pos : Pos} {elt tg iter : Expr} {tl : Option Expr} {g : TG} {tt : TT} {te : TE} {n : Nat} {Q : VK} {it : Addr} {tn : Nat → Heap → Prop} {J : It} {E : Value → Shared → Prop} {RR : Value → Addr → Result → Shared → Prop} (hc : X.calm = true) (k : CompOk X xs scope)
    (hn : xs.length = n) (hg : ∀ C s H fp, PG (X.block xs scope C s H fp) tg g) (ht : ∀ C s H fp, PTO (X.block xs scope C s H fp) tl tt) (he : ∀ C s H fp, PE (X.block xs scope C s H fp) elt te)
    (I2 : Inv X pins σ H s) (T : Turn X.prog X.w X.K tg J fp it tn) (st2 : tn 0 s.heap) (f2 : ∀ b ∈ fp, FpOk X pins H b)
    (q : ∀ D, H D = none → ∃ W : Nat → Nat → List V → Hp → Prop, (∃ m, W 0 m [] (upd H D (.lst []))) ∧ ∀ i m ys H2, W i m ys H2 → H2 D = some (.lst ys) ∧
      ((J.stop i H2 ∧ Q (.ref D) H2) ∨ (J.go i H2 ∧ ys.length < sizeLine ∧ ∀ x H3 os, os.length = n → J.yld i H2 x H3 → g x (σ ++ os) H3 fun σ' H4 => (∃ os', os'.length = n ∧ σ' = σ ++ os') ∧ tt σ' H4 fun b H5 => if b = true then te σ' H5 fun y H6 => H6 D = some (.lst ys) ∧ ∃ m', m' < m ∧ W (i + 1) m' (ys ++ [y]) (upd H6 D (.lst (ys ++ [y]))) else ∃ m', m' < m ∧ W (i + 1) m' ys H5)))
    (hRR : ∀ D C s' H' m, Inv X pins σ H' s' → s'.heap.Ns C m → FpOk X pins H' C → Q (.ref D) H' → RR (.ref D) C (.ok .next) s') :
    wpAny (model X.prog X.w) X.A (newList []) (fun acc s₃ => wpAny (model X.prog X.w) X.A (newFunctionEnv scope X.env.globals (clOf X.env.cells scope.names []) [] X.env.qual none .none (some X.env)) (fun cenv s₄ =>
      codeAny (model X.prog X.w) X.A (.compStart (.ListComp elt [⟨tg, iter, tl.toList, 0⟩] scope pos) 0 (.ref it) acc { cenv with scope := relabel scope X.env }) (RR acc cenv.locals) s₄) E s₃) E s := by
  have hk : X.env.scope.kind = .function := I2.ok.kind
  refine wpAny_newObj_type (wpAny_newFunctionEnv (fun y hy => (k.all y hy).2.1) (by intro y hy; simp at hy) (fun h₁ hns₁ hsb₁ => ?_) k.kind)
  dsimp only at hns₁ hsb₁ ⊢
  have hD : H s.heap.objs.size = none := I2.hok.fresh (Nat.le_refl _)
  obtain ⟨W, ⟨m0, w0⟩, turn⟩ := q s.heap.objs.size hD
  have I3 : Inv X pins σ (upd H s.heap.objs.size (.lst [])) { s with heap := s.heap.push { cls := .type "list", dict := none, data := .seq ([] : List Value).toArray } } :=
    I2.laid (t' := s.toks) (fun b o e => Heap.get?_push_of_some _ e) (Nat.le_refl _) (show ObjOk X.prog X.w _ _ _ (.lst []) from ⟨Nat.zero_le _, [], _, .nil, Heap.get?_push_size _ rfl⟩)
  have lt2 : ∀ b ∈ fp, b < s.heap.objs.size := fun b hb => by
    obtain ⟨o, e, _⟩ := T.obj 0 _ st2 b hb
    exact Heap.lt_size e
  have f3 : ∀ b ∈ fp, FpOk X pins (upd H s.heap.objs.size (.lst [])) b := fun b hb => ⟨by rw [upd_ne (Nat.ne_of_lt (lt2 b hb))]; exact (f2 b hb).1, (f2 b hb).2⟩
  have lt3 : ∀ b ∈ fp, b < (s.heap.push { cls := .type "list", dict := none, data := .seq ([] : List Value).toArray }).objs.size := fun b hb => by
    rw [Heap.size_push]
    exact Nat.lt_succ_of_lt (lt2 b hb)
  generalize hs3 : ({ s with heap := s.heap.push { cls := .type "list", dict := none, data := .seq ([] : List Value).toArray } } : Shared) = s3 at I3
  have e3 : s3.heap = s.heap.push { cls := .type "list", dict := none, data := .seq ([] : List Value).toArray } := by rw [← hs3]
  rw [← e3] at hns₁ hsb₁ lt3 ⊢
  have kp : ∀ b o, s3.heap.get? b = some o → h₁.get? b = some o := fun b o e => hsb₁.extBut b o (Nat.ne_of_lt (Heap.lt_size e)) (Heap.get?_push_of_some _ e)
  have IB := I3.block (tk := s.toks + ([] : List (Str × Value)).length) k f3 lt3 hns₁ kp
  have es : ({ s3 with heap := h₁, toks := s.toks + ([] : List (Str × Value)).length } : Shared) = { s with heap := h₁, toks := s.toks + ([] : List (Str × Value)).length } := by rw [← hs3]
  rw [es] at IB
  generalize hX : X.block xs scope s3.heap.objs.size s3 (upd H s.heap.objs.size (.lst [])) fp = Y at IB
  have HE : PE Y elt te := hX ▸ he _ _ _ _
  have HT : PTO Y tl tt := hX ▸ ht _ _ _ _
  have HG : PG Y tg g := hX ▸ hg _ _ _ _
  have hP : Y.prog = X.prog := by rw [← hX]; rfl
  have hw : Y.w = X.w := by rw [← hX]; rfl
  have hK : Y.K = X.K := by rw [← hX]; rfl
  have hA : Y.A = X.A := by rw [← hX]; rfl
  have hcY : Y.calm = true := by rw [← hX]; exact hc
  have hxe : Y.xe = fun _ _ => False := by rw [← hX]; rfl
  have henv : Y.env = compEnvC scope (clOf X.env.cells scope.names []) s3.heap.objs.size X.env := by rw [← hX]; rfl
  have fpY : ∀ {H' : Hp}, (∀ b ∈ fp, H' b = none) → ∀ b ∈ fp, FpOk Y [] H' b := fun hn b hb => by
    have hb1 := (f2 b hb).2
    rw [← hX]
    refine ⟨hn b hb, ?_, fun z => ?_, .inl hb, fun y c e => hb1.2.2.2.1 y c (clOf_cells e), (fun p hp => by cases hp)⟩
    · exact Nat.ne_of_lt (lt3 b hb)
    · rcases List.mem_cons.mp (I3.stkSub b z) with e | e
      · exact hb1.1 e
      · exact hb1.2.1 e
  -- behind the block
  have back : ∀ {σ' : St} {H' : Hp} {s' : Shared}, Inv Y [] σ' H' s' → Inv X pins σ H' s' ∧ (∃ m, s'.heap.Ns s3.heap.objs.size m) ∧ FpOk X pins H' s3.heap.objs.size := fun {σ' H' s'} J' => by
    have u := J'.base
    have os := J'.os
    have hok := J'.hok
    have bare := J'.bare
    obtain ⟨mm, hnn, _⟩ := J'.loc
    have fr := J'.free
    rw [henv] at hnn fr
    rw [← hX] at u os hok
    refine ⟨I3.call' os u hok bare fun b hb => ?_, ⟨mm, hnn⟩, I3.fpOk (Nat.le_refl _) fr⟩
    exact ⟨(f2 b hb).2.2.2.1, (f2 b hb).2.1, (f2 b hb).2.2.2.2.1, (f2 b hb).2.2.2.2.2⟩
  have loop : ∀ s₃ : Shared, Inv Y [] (σ ++ List.replicate xs.length none) (upd H s.heap.objs.size (.lst [])) s₃ → tn 0 s₃.heap →
      codeAny (model X.prog X.w) X.A (.compLoop (.ListComp elt [⟨tg, iter, tl.toList, 0⟩] scope pos) 0 (.ref it) (.ref s.heap.objs.size) Y.env) (RR (.ref s.heap.objs.size) s3.heap.objs.size) s₃ := by
    intro s₃ J3 t3
    refine compLoop_go (fun m s' => ∃ i os H' ys, os.length = n ∧ Inv Y [] (σ ++ os) H' s' ∧ tn i s'.heap ∧ (∀ b ∈ fp, H' b = none) ∧ W i m ys H') ?_ m0 ⟨0, _, _, [], by rw [List.length_replicate]; exact hn, J3, t3, fun b hb => (f3 b hb).1, w0⟩
    rintro m s4 ⟨i, os, H4, ys, lo, J4, st4, fr4, w4⟩
    obtain ⟨hDl, tr⟩ := turn i m ys H4 w4
    rcases tr with ⟨stop, qn⟩ | ⟨go, hz, step⟩
    · have dn := T.done Y hP hw hK hcY i [] s4 (σ ++ os) H4 (notedBy (model X.prog X.w) X.A Y.env fun e s' => RR (.ref s.heap.objs.size) s3.heap.objs.size (.error e) s') J4 (fpY fr4) st4 stop
      rw [hA] at dn
      refine thn dn fun r s5 ⟨hr, J5⟩ => ?_
      subst hr
      obtain ⟨I5, ⟨m5, n5⟩, f5⟩ := back J5
      exact hRR _ _ _ _ _ I5 n5 f5 qn
    · have im := T.item Y hP hw hK hcY i [] s4 (σ ++ os) H4 (notedBy (model X.prog X.w) X.A Y.env fun e s' => RR (.ref s.heap.objs.size) s3.heap.objs.size (.error e) s') J4 (fpY fr4) st4 go
      rw [hA] at im
      refine thn im fun r s5 ⟨u, hr, h5⟩ => ?_
      subst hr
      refine thn h5 fun _ s6 ⟨v, H6, J6, rv, y6, st6, fr6⟩ => ?_
      have J6' := J6.pinned (fpY fr6) (T.obj _ _ st6)
      have noE : ∀ {EE : Value → Shared → Prop}, ∀ e s', Y.xe e s' → EE e s' := fun {EE} e s' z => by rw [hxe] at z; exact z.elim
      have asg := HG _ s6 (σ ++ os) H6 v u _ J6' rv (step v H6 os lo y6)
      rw [hP, hw, hA] at asg
      refine wpAny_mono asg (fun _ s7 ⟨σ7, H7, J7, ⟨os', lo', e7⟩, q7⟩ => ?_) noE
      subst e7
      have fin : ∀ {s9 : Shared} {H9 : Hp} {m' : Nat} {zs : List V}, Inv Y ([] ++ pinsAt fp s6.heap) (σ ++ os') H9 s9 → m' < m → W (i + 1) m' zs H9 → ∃ m', m' < m ∧ ∃ i os H' ys, os.length = n ∧ Inv Y [] (σ ++ os) H' s9 ∧ tn i s9.heap ∧ (∀ b ∈ fp, H' b = none) ∧ W i m' ys H' := fun {s9 H9 m' zs} J9 hm' w9 => by
        refine ⟨m', hm', i + 1, os', H9, zs, lo', J9.unpinned, T.keep _ _ _ st6 fun b hb ob e => (J9.pin (b, ob) (List.mem_append_right _ (List.mem_append_right _ (mem_pinsAt hb e)))).1, fun b hb => ?_, w9⟩
        obtain ⟨ob, e, d⟩ := T.obj _ _ st6 b hb
        exact (J9.pin (b, ob) (List.mem_append_right _ (List.mem_append_right _ (mem_pinsAt hb e)))).2.1
      have tst : wpAny (model X.prog X.w) X.A (forIn tl.toList true fun c r => if r = true then do let ok ← isTrue c Y.env (eval c Y.env); pure (ForInStep.yield ok) else pure (ForInStep.yield r)) (TP Y ([] ++ pinsAt fp s6.heap) (σ ++ os') fun b H5 => if b = true then te (σ ++ os') H5 fun y H6 => H6 s.heap.objs.size = some (.lst ys) ∧ ∃ m', m' < m ∧ W (i + 1) m' (ys ++ [y]) (upd H6 s.heap.objs.size (.lst (ys ++ [y]))) else ∃ m', m' < m ∧ W (i + 1) m' ys H5) (notedBy (model X.prog X.w) X.A Y.env fun e s' => RR (.ref s.heap.objs.size) s3.heap.objs.size (.error e) s') s7 := by
        refine wp_tests ?_
        cases tl with
        | none => exact ⟨H7, J7, HT _ _ _ q7⟩
        | some c =>
          have z := (show PT Y c tt from HT) _ s7 _ _ _ J7 q7
          rw [hP, hw, hA] at z
          exact wpAny_mono z (fun _ _ h => h) noE
      refine wpAny_mono tst (fun b s8 ⟨H8, J8, q8⟩ => ?_) fun _ _ e => e
      cases b with
      | false =>
        rw [if_neg Bool.false_ne_true] at q8 ⊢
        obtain ⟨m', hm', w8⟩ := q8
        exact fin J8 hm' w8
      | true =>
        rw [if_pos rfl] at q8 ⊢
        have ev := HE _ s8 _ _ _ J8 q8
        rw [hP, hw, hA] at ev
        refine wpAny_mono ev (fun y s8 ⟨yv, H8, J8, ry, hD8, m', hm', w8⟩ => ?_) noE
        have ap := mt_append (X := Y) _ s8 _ H8 (.ref s.heap.objs.size) [yv] (.ref s.heap.objs.size) [y] (fun _ H' => H' = upd H8 s.heap.objs.size (.lst (ys ++ [yv]))) J8 rfl (.cons ry .nil) ⟨_, ys, yv, rfl, rfl, hD8, hz, rfl⟩
        rw [hP, hw, hA] at ap
        refine wpAny_mono ap (fun _ s9 ⟨_, H9, J9, _, e9⟩ => ?_) noE
        subst e9
        exact fin J9 hm' w8
  have t1 : tn 0 h₁ := T.keep 0 _ _ st2 fun b hb o e => kp b o (by rw [e3]; exact Heap.get?_push_of_some _ e)
  have go := loop _ IB t1
  rw [henv] at go
  refine codeAny_compStart_list ?_ ?_
  · exact go
  · exact T.self X.A 0 _ _ _ t1 go
theorem pe_comp {pos : Pos} {elt tg iter : Expr} {tl : Option Expr} {wi : TI} {n : Nat} {g : TG} {tt : TT} {te : TE} (hc : X.calm = true) (k : CompOk X xs scope) (hi : PI X tg iter wi) (hn : xs.length = n) (hg : ∀ C s H fp, PG (X.block xs scope C s H fp) tg g) (ht : ∀ C s H fp, PTO (X.block xs scope C s H fp) tl tt) (he : ∀ C s H fp, PE (X.block xs scope C s H fp) elt te)
    (hs : ∀ v, foldedSetIterable iter X.env v = pure v) : PE X (.ListComp elt [⟨tg, iter, tl.toList, 0⟩] scope pos) (tComp wi n g tt te) := by
  intro pins s σ H Q I h
  rw [eval_ListComp]
  refine wpAny_comprehension_free (use := none) rfl hs (closure_is fun y hy hf => I.ok.has y.1 ((k.all y hy).2.2 hf)) k.kind (fun y hy hl => ((k.all y hy).1 hl).2) ?_
  refine thn (hi pins s σ H _ I h) fun v s1 h1 => thn h1 fun itv s2 h2 => ?_
  obtain ⟨it, fp, tn, J, H2, e, I2, T, st2, f2, q⟩ := h2
  subst e
  refine comp_block (RR := fun acc C => compPost (model X.prog X.w) X.A X.xe none (EP X pins σ Q) acc C) hc k hn hg ht he I2 T st2 f2 q ?_
  intro D C s' H' m I' n' f' q'
  refine ⟨m, n', fun h' sb => ?_⟩
  exact ⟨.ref D, H', I'.turned (t' := s'.toks) (fun b o hb e => sb.extBut b o hb e) f'.1 f'.2.1 f'.2.2.2.1 f'.2.2.2.2.1 f'.2.2.2.2.2, rfl, q'⟩
theorem ps_comp {pos py spos : Pos} {elt tg iter : Expr} {tl : Option Expr} {wi : TI} {n : Nat} {g : TG} {tt : TT} {te : TE} {y : Str} {j : Nat} (hc : X.calm = true) (hN : X.N.Nodup) (k : CompOk X xs scope) (hi : PI X tg iter wi) (hn : xs.length = n) (hg : ∀ C s H fp, PG (X.block xs scope C s H fp) tg g) (ht : ∀ C s H fp, PTO (X.block xs scope C s H fp) tl tt) (he : ∀ C s H fp, PE (X.block xs scope C s H fp) elt te)
    (hs : ∀ v, foldedSetIterable iter X.env v = pure v) (hj : X.N[j]? = some y) (hy : Loc X.env.scope y) (hfn : X.fn y = true ∨ X.env.scope.names.lookup y = some .local) :
    PS X (.Assign [.Name y py] (.ListComp elt [⟨tg, iter, tl.toList, 0⟩] scope pos) spos) (fun D σ H => tComp wi n g tt te σ H fun v H1 => D.nx (σ.set j (some v)) H1) := by
  have hsw : ∃ b, swapsWith (.ListComp elt [⟨tg, iter, tl.toList, 0⟩] scope pos) (some (.Name y py)) spos.line X.env = pure b := ⟨_, rfl⟩
  obtain ⟨b, hsw⟩ := hsw
  cases b with
  | false => exact ps_set hN hj hy (pe_comp hc k hi hn hg ht he hs) hsw hfn
  | true =>
    intro pins s σ H D I h
    rw [exec_Assign_Name_used _ _ _ _ hsw]
    refine wpAny_bind (wpAny_standAt (wpAny_bind ?_))
    show wpAny _ _ (do let _ ← comprehension (.ListComp elt [⟨tg, iter, tl.toList, 0⟩] scope pos) scope X.env _ (newList []) false (eval iter X.env) (some (assign (.Name y py) X.env))) _ _ s
    refine wpAny_bind (wpAny_mono (wpAny_comprehension_free (use := some (assign (.Name y py) X.env)) (Q := fun _ s' => SP X pins D .next s') rfl hs (closure_is fun y hy hf => I.ok.has y.1 ((k.all y hy).2.2 hf)) k.kind (fun y hy hl => ((k.all y hy).1 hl).2) ?_)
      (fun _ s' hq => wpAny_pure (wpAny_pure hq)) fun _ _ e => e)
    refine thn (hi pins s σ H _ I h) fun v s1 h1 => thn h1 fun itv s2 h2 => ?_
    obtain ⟨it, fp, tn, J, H2, e, I2, T, st2, f2, q⟩ := h2
    subst e
    refine comp_block (Q := fun v H1 => D.nx (σ.set j (some v)) H1) (RR := fun acc C => compPost (model X.prog X.w) X.A X.xe (some (assign (.Name y py) X.env)) (fun _ s' => SP X pins D .next s') acc C) hc k hn hg ht he I2 T st2 f2 q ?_
    intro Da C s' H' m I' n' f' q'
    obtain ⟨o, es, ep, ho, hd, r⟩ := id n'
    have Ip : Inv X (pins ++ pinsAt [C] s'.heap) σ H' s' := I'.pinned (fun b hb => by
      have e : b = C := by simpa using hb
      subst e
      exact f') fun b hb => by
        have e : b = C := by simpa using hb
        subst e
        exact ⟨o, ho, fun v z => by rw [hd] at z; cases z⟩
    refine thn (pg_name (i := j) hN hj hy hfn _ s' σ H' (.ref Da) (.ref Da) _ Ip rfl q') fun _ s'' ⟨σ2, H2', J2, q2⟩ => ?_
    have pc := J2.pin (C, o) (List.mem_append_right _ (List.mem_append_right _ (mem_pinsAt (by simp) ho)))
    refine ⟨m, ⟨o, es, ep, pc.1, hd, r⟩, fun h' sb => ?_⟩
    exact ⟨σ2, H2', J2.unpinned.turned (t' := s''.toks) (fun b ob hb e => sb.extBut b ob hb e) pc.2.1 f'.2.1 f'.2.2.2.1 f'.2.2.2.2.1 f'.2.2.2.2.2, q2⟩
end
end L2
namespace L2
open PySem
open Sem (wp)
open AutoSeq1 (wpAny_loadPart')
section
variable {prog : Program} {w : World} {A : Around} {E : Value → Shared → Prop} {s : Shared}
end
end L2
namespace L2
open PySem PySem.Spec PyProof.Rows
section
variable {X : Cx}
def tRev (K : PySem.W.Frag) (te : TE) : TE := fun σ H Q => te σ H fun x H1 => ∃ a xs, x = .ref a ∧ SqL K H1 a xs ∧ ∀ p, H1 p = none → Q (.ref p) (upd H1 p (.lst xs.reverse))
theorem pe_rev {e : Expr} {te : TE} {j : Nat} {p1 p3 p2 pos : Pos} (he : PE X e te) : PE X (.Subscript e (.Slice none none (some (.UnaryOp .USub (.Constant (.int 1) j p1) p3)) p2) pos) (tRev X.K te) := by
  intro pins s σ H Q I h
  refine Subscript_ (thn (he pins s σ H _ I h) fun v s1 ⟨x, H1, I1, r1, q1⟩ => ?_)
  have hk : PO X (some (.UnaryOp .USub (.Constant (.int 1) j p1) p3)) (tPart (tUn (rU fun i => .int (-i)) (tC (.int 1)))) := po_some (pe_un un_neg pe_int)
  refine wpAny_Slice ?_
  rw [evalPart_none]
  refine wpAny_pure ?_
  refine wpAny_pure ?_
  refine thn (hk pins s1 σ H1 (fun o H2 => o = some (-1) ∧ H2 = H1) I1 ⟨1, rfl, -1, rfl, rfl, rfl⟩) fun vk s3 ⟨o, H3, I3, pk, eo, eH⟩ => ?_
  subst eo eH
  have I4 : Inv X pins σ H3 { s3 with heap := s3.heap.push { cls := .type "slice", data := .fields #[.none, .none, vk] } } := I3.kept (t' := s3.toks) fun b ob q => Heap.get?_push_of_some _ q
  obtain ⟨a, xs, rfl, hq, q⟩ := q1
  cases r1
  obtain ⟨its, r, ht, hz⟩ := I4.list hq
  have hlen := r.length
  show wpAny (model X.prog X.w) X.A (subscriptTail e (.Slice none none (some (.UnaryOp .USub (.Constant (.int 1) j p1) p3)) p2) (.ref a) (.ref s3.heap.objs.size)) (EP X pins σ Q) X.xe { s3 with heap := s3.heap.push { cls := .type "slice", data := .fields #[.none, .none, vk] } }
  refine tail_any (ops := [.ref a, .ref s3.heap.objs.size]) ht.isList.typeIs slot_list_getitem.lookup ?_ (by with_unfolding_all rfl)
  refine wpAny_getItem_list_slice ht.isList (Heap.IsSliceOf.new ..) .none .none pk (by simp) ?_ (by rw [List.size_toArray] <;> omega)
  rw [PySem.W.krv_pick]
  refine ⟨.ref _, _, I4.laid (t' := s3.toks) (o := .lst xs.reverse) (fun b ob q => Heap.get?_push_of_some _ q) (Nat.le_refl _) ?_, rfl, q _ (I4.hok.fresh (Nat.le_refl _))⟩
  exact ⟨by rw [List.length_reverse]; exact hz, _, 0, by simpa using r.reverse, Heap.get?_push_size _ rfl⟩
end
end L2
namespace L2
open PySem PySem.Spec PyProof.Rows
section
variable {X : Cx}
end
end L2
namespace Iv
open PySem PySem.Spec PyProof.Rows L2
section
variable {X : Cx} {T : Tbl} {A : Adr} {C : Ctx} {cf : Cf} {m k : Nat} {α : List Addr} {hs : Hs} {H : Hp} {u : U} {v : V} {ρ : Rho} {σ : St}
def WJ (A : Adr) (K : PySem.W.Frag) (α : List Addr) (J : It) : Wk → Prop
  | .seqL u => ∃ a, RU A α u (.ref a) ∧ J = Itl K a
  | .seqT u => ∃ a, RU A α u (.ref a) ∧ J = Itt K a
  | .rng lo n => J = Itr lo n
  | .zipB p q x y => ∃ a b, RU A α x (.ref a) ∧ RU A α y (.ref b) ∧ J = Itz p q K a b
  | .revL _ _ => False
  | .rngC _ _ _ => False
  | .enmL _ => False
theorem WJ.mono {K : PySem.W.Frag} {J : It} {α' : List Addr} {w : Wk} (p : ∀ (n : Nat) a, α[n]? = some a → α'[n]? = some a) (h : WJ A K α J w) : WJ A K α' J w := by
  cases w with
  | seqL u => obtain ⟨a, r, e⟩ := h; exact ⟨a, r.mono p, e⟩
  | seqT u => obtain ⟨a, r, e⟩ := h; exact ⟨a, r.mono p, e⟩
  | rng lo n => exact h
  | zipB b c x y => obtain ⟨a, b, r, r', e⟩ := h; exact ⟨a, b, r.mono p, r'.mono p, e⟩
  | revL u n => exact False.elim h
  | rngC lo c n => exact False.elim h
  | enmL u => exact False.elim h
def gT (K : PySem.W.Frag) : Tg → TG
  | .name i => gName i
  | .pair i j => gTup K 2 (gCons (gName i) (gCons (gName j) gNil))
theorem sqU_ok {b : Bool} {xs : List U} (tx : Txt T A X.K X.mg) (R : Rep T A X.K α hs H) (h : sqU T b u hs = some xs) (r : RU A α u v) : ∃ a vs, v = .ref a ∧ RUs A α xs vs ∧ SqB b X.K H a vs := by
  cases b with
  | true => exact lstU_ok tx R h r
  | false => exact tupU_ok tx R h r
theorem itm_stop {J : It} {w : Wk} {i : Nat} (tx : Txt T A X.K X.mg) (R : Rep T A X.K α hs H) (W : WJ A X.K α J w) (h : itm T w i hs = some none) : J.stop i H := by
  cases w with
  | seqL u =>
    obtain ⟨a, r, rfl⟩ := W
    simp only [itm, Option.map_eq_some_iff, Option.map_eq_none_iff] at h
    obtain ⟨xs, e, h⟩ := h
    obtain ⟨a', vs, ea, rr, q⟩ := lstU_ok tx R e r
    cases ea
    exact ⟨vs, q, by rw [← rr.length]; exact List.getElem?_eq_none_iff.mp h⟩
  | seqT u =>
    obtain ⟨a, r, rfl⟩ := W
    simp only [itm, Option.map_eq_some_iff, Option.map_eq_none_iff] at h
    obtain ⟨xs, e, h⟩ := h
    obtain ⟨a', vs, ea, rr, q⟩ := tupU_ok tx R e r
    cases ea
    exact ⟨vs, q, by rw [← rr.length]; exact List.getElem?_eq_none_iff.mp h⟩
  | rng lo n =>
    cases (show J = _ from W)
    simp only [itm, Option.some.injEq] at h
    split at h
    · cases h
    · rename_i l
      show n ≤ i
      omega
  | zipB p q x y =>
    obtain ⟨a, b, r1, r2, rfl⟩ := W
    simp only [itm] at h
    split at h
    case h_2 => cases h
    rename_i xs ys e1 e2
    obtain ⟨a', vs, ea, rr, q⟩ := sqU_ok tx R e1 r1
    cases ea
    obtain ⟨b', ws, eb, rr', q'⟩ := sqU_ok tx R e2 r2
    cases eb
    refine ⟨vs, ws, q, q', ?_⟩
    unfold two at h
    rw [← rr.length, ← rr'.length]
    by_cases l1 : i < xs.length
    · by_cases l2 : i < ys.length
      · rw [List.getElem?_eq_getElem l1, List.getElem?_eq_getElem l2] at h
        cases h
      · exact .inr (by omega)
    · exact .inl (by omega)
  | revL u n => exact False.elim W
  | rngC lo c n => exact False.elim W
  | enmL u => exact False.elim W
theorem tgt_one {t : Tg} {ρ' : Rho} {Q : St → Hp → Prop} (R : Rep T A X.K α hs H) (rs : RS A α ρ σ) (r : RU A α u v) (h : tgt t (.one u) ρ hs = some ρ') (k : ∀ σ2, RS A α ρ' σ2 → Q σ2 H) : gT X.K t v σ H Q := by
  cases t with
  | name i => cases h; exact k _ (rs.set i r)
  | pair i j =>
    cases u with
    | ref n =>
      obtain ⟨a, ha, rfl⟩ := r
      simp only [tgt] at h
      split at h
      case h_2 => cases h
      rename_i x y e
      cases h
      obtain ⟨vs, q, rr⟩ := R.h.ob n a _ ha e
      obtain ⟨v1, ws, rfl, r1, rr⟩ := vals_cons rr
      obtain ⟨v2, ws, rfl, r2, rr⟩ := vals_cons rr
      cases vals_nil rr
      exact ⟨a, [v1, v2], rfl, SqT.of q, rfl, v1, [v2], rfl, v2, [], rfl, rfl, k _ ((rs.set i r1).set j r2)⟩
    | _ => simp [tgt] at h
theorem itm_go {J : It} {w : Wk} {i : Nat} {x : Im} {t : Tg} {ρ' : Rho} (tx : Txt T A X.K X.mg) (R : Rep T A X.K α hs H) (W : WJ A X.K α J w) (rs : RS A α ρ σ) (h : itm T w i hs = some (some x)) (ht : tgt t x ρ hs = some ρ') :
    J.go i H ∧ ∀ v H' (Q : St → Hp → Prop), J.yld i H v H' → (∀ σ2, RS A α ρ' σ2 → Rep T A X.K α hs H' → Ext α α H H' → Q σ2 H') → gT X.K t v σ H' Q := by
  have zip : ∀ {b c : Bool} {a1 a2 : Addr} {xs ys : List U} {vs ws : List V}, SqB b X.K H a1 vs → SqB c X.K H a2 ws → RUs A α xs vs → RUs A α ys ws → some (two xs ys i) = some (some x) →
      (Itz b c X.K a1 a2).go i H ∧ ∀ v H' (Q : St → Hp → Prop), (Itz b c X.K a1 a2).yld i H v H' → (∀ σ2, RS A α ρ' σ2 → Rep T A X.K α hs H' → Ext α α H H' → Q σ2 H') → gT X.K t v σ H' Q := by
    intro b c a1 a2 xs ys vs ws q1 q2 r1 r2 h
    unfold two at h
    split at h
    case h_2 => cases h
    rename_i x1 y1 e1 e2
    cases h
    obtain ⟨v1, f1, g1⟩ := r1.get e1
    obtain ⟨v2, f2, g2⟩ := r2.get e2
    refine ⟨⟨vs, ws, v1, v2, q1, q2, f1, f2⟩, ?_⟩
    rintro v H' Q ⟨p, w1, w2, hp, rfl, rfl, k1, k2⟩ k
    have n1 : w1 = v1 := Option.some.inj ((k1 vs q1).symm.trans f1)
    have n2 : w2 = v2 := Option.some.inj ((k2 ws q2).symm.trans f2)
    subst n1 n2
    have ne : ∀ b y, H b = some y → b ≠ p := fun b y e z => by rw [z, hp] at e; cases e
    have R' : Rep T A X.K α hs (upd H p (.tup [w1, w2])) := ⟨⟨R.h.len, R.h.nd, fun n a o e1 e2 => RO.keep (R.h.ob n a o e1 e2) (fun _ _ e => e) fun y e => by rw [upd_ne (ne _ _ e)]; exact e⟩, R.s.keep fun y e _ => by rw [upd_ne (ne _ _ e)]; exact e⟩
    have E' : Ext α α H (upd H p (.tup [w1, w2])) := ⟨fun _ _ e => e, fun n a e l => by have := getElem?_lt e; omega, fun b o e _ => by rw [upd_ne (ne _ _ e)]; exact e⟩
    cases t with
    | name i => simp [tgt] at ht
    | pair i j =>
      cases ht
      exact ⟨p, [w1, w2], rfl, SqT.of upd_same, rfl, w1, [w2], rfl, w2, [], rfl, rfl, k _ ((rs.set i g1).set j g2) R' E'⟩
  cases w with
  | seqL u =>
    obtain ⟨a, r, rfl⟩ := W
    simp only [itm, Option.map_eq_some_iff] at h
    obtain ⟨xs, e, y, h, rfl⟩ := h
    obtain ⟨a', vs, ea, rr, q⟩ := lstU_ok tx R e r
    cases ea
    obtain ⟨v1, f1, g1⟩ := rr.get h
    refine ⟨⟨vs, v1, q, f1⟩, ?_⟩
    rintro v H' Q ⟨rfl, k1⟩ k
    have n1 : v = v1 := Option.some.inj ((k1 vs q).symm.trans f1)
    subst n1
    exact tgt_one R rs g1 ht fun σ2 r2 => k σ2 r2 R Ext.refl
  | seqT u =>
    obtain ⟨a, r, rfl⟩ := W
    simp only [itm, Option.map_eq_some_iff] at h
    obtain ⟨xs, e, y, h, rfl⟩ := h
    obtain ⟨a', vs, ea, rr, q⟩ := tupU_ok tx R e r
    cases ea
    obtain ⟨v1, f1, g1⟩ := rr.get h
    refine ⟨⟨vs, v1, q, f1⟩, ?_⟩
    rintro v H' Q ⟨rfl, k1⟩ k
    have n1 : v = v1 := Option.some.inj ((k1 vs q).symm.trans f1)
    subst n1
    exact tgt_one R rs g1 ht fun σ2 r2 => k σ2 r2 R Ext.refl
  | rng lo n =>
    cases (show J = _ from W)
    simp only [itm, Option.some.injEq] at h
    split at h
    case isFalse => cases h
    rename_i l
    cases h
    refine ⟨l, ?_⟩
    rintro v H' Q ⟨rfl, rfl⟩ k
    exact tgt_one (u := .int (lo + i) 0) R rs ⟨_, rfl, Cg.refl _ _⟩ ht fun σ2 r2 => k σ2 r2 R Ext.refl
  | zipB p q x1 y1 =>
    obtain ⟨a, b, r1, r2, rfl⟩ := W
    simp only [itm] at h
    split at h
    case h_2 => cases h
    rename_i xs ys e1 e2
    obtain ⟨a', vs, ea, rr, q⟩ := sqU_ok tx R e1 r1
    cases ea
    obtain ⟨b', ws, eb, rr', q'⟩ := sqU_ok tx R e2 r2
    cases eb
    exact zip q q' rr rr' h
  | revL u n => exact False.elim W
  | rngC lo c n => exact False.elim W
  | enmL u => exact False.elim W
def TIW (T : Tbl) (A : Adr) (K : PySem.W.Frag) (f : Rho → Hs → Option (Wk × Hs)) : L2.TI := fun σ H R => ∃ α ρ hs w hs', RS A α ρ σ ∧ Rep T A K α hs H ∧ f ρ hs = some (w, hs') ∧
  ∀ α' J H', Ext α α' H H' → Rep T A K α' hs' H' → WJ A K α' J w → R J H'
theorem PIimp {tg it : Expr} {t t' : L2.TI} (h : PI X tg it t) (i : ∀ σ H R, t' σ H R → t σ H R) : PI X tg it t' := fun pins s σ H R I q => h pins s σ H R I (i σ H R q)
theorem PIor {tg it : Expr} {t t' : L2.TI} (h : PI X tg it t) (h' : PI X tg it t') : PI X tg it (fun σ H R => t σ H R ∨ t' σ H R) := fun pins s σ H R I q => q.elim (h pins s σ H R I) (h' pins s σ H R I)
theorem pi_seq {tg it : Expr} {ir : E} {d : Nat} (tx : Txt T A X.K X.mg) (h : PE X it (Iv.TI T A X.K (ev T cf d ir))) : PI X tg it (TIW T A X.K (fun ρ hs => srcU T (ev T cf d) ρ (.seq ir) hs)) := by
  refine PIimp (PIor (pi_list h) (pi_tup h)) ?_
  rintro σ H R ⟨α, ρ, hs, w, hs', rs, Rp, e, q⟩
  simp only [srcU] at e
  obtain ⟨u, h1, e1, e⟩ := bd_some e
  simp only [Option.map_eq_some_iff] at e
  obtain ⟨w', e2, e⟩ := e
  cases e
  unfold wkS at e2
  split at e2
  · rename_i xs el
    cases e2
    refine .inl (TI.run rs Rp e1 fun α1 x H1 E1 R1 r1 rs1 => ?_)
    obtain ⟨a, vs, rfl, rr, sq⟩ := lstU_ok tx R1 el r1
    exact ⟨a, rfl, ⟨vs, sq⟩, q α1 _ H1 E1 R1 ⟨a, r1, rfl⟩⟩
  · split at e2
    · rename_i xs el
      cases e2
      refine .inr (TI.run rs Rp e1 fun α1 x H1 E1 R1 r1 rs1 => ?_)
      obtain ⟨a, vs, rfl, rr, sq⟩ := tupU_ok tx R1 el r1
      exact ⟨a, rfl, ⟨vs, sq⟩, q α1 _ H1 E1 R1 ⟨a, r1, rfl⟩⟩
    · cases e2
theorem small62 {i : Int} (h : small64 (i * 4) = true) : -(2 ^ 62) ≤ i ∧ i < 2 ^ 62 := by
  obtain ⟨h1, h2⟩ := small64_of h
  constructor <;> omega
theorem pi_rng {tg a : Expr} {a' : E} {p q : Pos} {d : Nat} (hg : Gl X "range") (hm : X.mg "range" = none) (hns : ∀ x p, a ≠ .Starred x p) (h : PE X a (Iv.TI T A X.K (ev T cf d a'))) : PI X tg (.Call (.Name "range" p) [a] [] q) (TIW T A X.K (fun ρ hs => srcU T (ev T cf d) ρ (.rng a') hs)) := by
  refine PIimp (pi_range1 hg hm (pa_cons h pa_nil (star_cons hns)) (star_cons hns)) ?_
  rintro σ H R ⟨α, ρ, hs, w, hs', rs, Rp, e, q⟩
  simp only [srcU] at e
  obtain ⟨u, h1, e1, e⟩ := bd_some e
  split at e
  case h_2 => cases e
  split at e
  case isFalse => cases e
  rename_i i c
  cases e
  refine TI.run rs Rp e1 fun α1 x H1 E1 R1 r1 rs1 => ?_
  obtain ⟨j, rfl, cg⟩ := r1
  cases cg.exact
  obtain ⟨b1, b2⟩ := small62 c
  exact ⟨_, rfl, b1, b2, q α1 _ H1 E1 R1 rfl⟩
theorem pi_rng2 {tg a b : Expr} {a' b' : E} {p q : Pos} {d : Nat} (hg : Gl X "range") (hm : X.mg "range" = none) (hna : ∀ x p, a ≠ .Starred x p) (hnb : ∀ x p, b ≠ .Starred x p) (ha : PE X a (Iv.TI T A X.K (ev T cf d a'))) (hb : PE X b (Iv.TI T A X.K (ev T cf d b'))) : PI X tg (.Call (.Name "range" p) [a, b] [] q) (TIW T A X.K (fun ρ hs => srcU T (ev T cf d) ρ (.rng2 a' b') hs)) := by
  have s2 : starEach [b] X.env = [(false, eval b X.env)] := star_cons hnb
  have s1 : starEach [a, b] X.env = [(false, eval a X.env), (false, eval b X.env)] := by rw [star_cons hna, s2]
  refine PIimp (pi_range2 hg hm (pa_cons ha (pa_cons hb pa_nil (star_cons hnb)) (star_cons hna)) s1 s2) ?_
  rintro σ H R ⟨α, ρ, hs, w, hs', rs, Rp, e, q⟩
  simp only [srcU] at e
  obtain ⟨u, h1, e1, e⟩ := bd_some e
  obtain ⟨u2, h2, e2, e⟩ := bd_some e
  split at e
  case h_2 => cases e
  split at e
  case isFalse => cases e
  rename_i i j c
  cases e
  rw [Bool.and_eq_true] at c
  refine TI.run rs Rp e1 fun α1 x H1 E1 R1 r1 rs1 => ?_
  refine TI.run rs1 R1 e2 fun α2 y H2 E2 R2 r2 rs2 => ?_
  obtain ⟨i', rfl, cg⟩ := r1
  cases cg.exact
  obtain ⟨j', rfl, cg⟩ := r2
  cases cg.exact
  obtain ⟨b1, b2⟩ := small62 c.1
  obtain ⟨b3, b4⟩ := small62 c.2
  exact ⟨_, _, rfl, ⟨b1, b2, b3, b4⟩, q α2 _ H2 (E1.trans E2 R2.h) R2 rfl⟩
theorem pi_zipI {elts : List Expr} {kt : Nat} {pt : Pos} {a b : Expr} {a' b' : E} {p q : Pos} {d : Nat} (tx : Txt T A X.K X.mg) (hg : Gl X "zip") (hm : X.mg "zip" = none) (hna : ∀ x p, a ≠ .Starred x p) (hnb : ∀ x p, b ≠ .Starred x p) (ha : PE X a (Iv.TI T A X.K (ev T cf d a'))) (hb : PE X b (Iv.TI T A X.K (ev T cf d b'))) :
    PI X (.Tuple elts kt pt) (.Call (.Name "zip" p) [a, b] [] q) (TIW T A X.K (fun ρ hs => srcU T (ev T cf d) ρ (.zip a' b') hs)) := by
  have s2 : starEach [b] X.env = [(false, eval b X.env)] := star_cons hnb
  have s1 : starEach [a, b] X.env = [(false, eval a X.env), (false, eval b X.env)] := by rw [star_cons hna, s2]
  have pa := pa_cons ha (pa_cons hb pa_nil (star_cons hnb)) (star_cons hna)
  refine PIimp (PIor (PIor (pi_zip (b := true) (b' := true) hg hm pa s1 s2) (pi_zip (b := true) (b' := false) hg hm pa s1 s2)) (PIor (pi_zip (b := false) (b' := true) hg hm pa s1 s2) (pi_zip (b := false) (b' := false) hg hm pa s1 s2))) ?_
  rintro σ H R ⟨α, ρ, hs, w, hs', rs, Rp, e, q⟩
  simp only [srcU] at e
  obtain ⟨u1, h1, e1, e⟩ := bd_some e
  obtain ⟨u2, h2, e2, e⟩ := bd_some e
  simp only [Option.map_eq_some_iff] at e
  obtain ⟨w', e3, e⟩ := e
  cases e
  unfold wkZ at e3
  simp only at e3
  generalize (lstU T u1 hs').isSome = p at e3
  generalize (lstU T u2 hs').isSome = p' at e3
  split at e3
  case isFalse => cases e3
  rename_i c
  simp only [Bool.and_eq_true] at c
  obtain ⟨xs, l1⟩ := Option.isSome_iff_exists.mp c.1
  obtain ⟨ys, l2⟩ := Option.isSome_iff_exists.mp c.2
  cases e3
  have key : iZip p p' X.K (tCons (Iv.TI T A X.K (ev T cf d a')) (tCons (Iv.TI T A X.K (ev T cf d b')) tNil)) σ H R := by
    refine TI.run rs Rp e1 fun α1 x H1 E1 R1 r1 rs1 => TI.run rs1 R1 e2 fun α2 y H2 E2 R2 r2 rs2 => ?_
    obtain ⟨a, vs, rfl, rr, sq⟩ := sqU_ok tx R2 l1 (r1.mono E2.pre)
    obtain ⟨b, ws, rfl, rr', sq'⟩ := sqU_ok tx R2 l2 r2
    exact ⟨a, b, rfl, ⟨vs, sq⟩, ⟨ws, sq'⟩, q α2 _ H2 (E1.trans E2 R2.h) R2 ⟨a, b, r1.mono E2.pre, r2, rfl⟩⟩
  cases p <;> cases p'
  · exact .inr (.inr key)
  · exact .inr (.inl key)
  · exact .inl (.inr key)
  · exact .inl (.inl key)
theorem Rep.aside {D : Addr} {ho : HO} (R : Rep T A X.K α hs H) (hn : D ∉ α) (hs' : ∀ o u, H D ≠ some (.frz o u)) : Rep T A X.K α hs (upd H D ho) :=
  ⟨⟨R.h.len, R.h.nd, fun n a o e1 e2 => RO.keep (R.h.ob n a o e1 e2) (fun _ _ e => e) fun y e => by
      have ne : a ≠ D := fun z => hn (z ▸ List.mem_of_getElem? e1)
      rw [upd_ne ne]; exact e⟩,
    R.s.keep fun y e z => by
      obtain ⟨ob, u, rfl⟩ := z
      have ne : A.s ≠ D := fun z => hs' ob u (z ▸ e)
      rw [upd_ne ne]
      exact e⟩
theorem Rep.adopt {D : Addr} {us : List U} {ys : List V} (R : Rep T A X.K α hs H) (hn : D ∉ α) (hD : H D = some (.lst ys)) (r : RUs A α us ys) : Rep T A X.K (α ++ [D]) (hs ++ [.lst us]) H := by
  refine ⟨⟨by simp [R.h.len], nodup_snoc R.h.nd hn, fun n a o e1 e2 => ?_⟩, R.s⟩
  rcases snoc_cases e1 with q | ⟨q1, q2⟩
  · rcases snoc_cases e2 with z | ⟨z, _⟩
    · exact RO.keep (R.h.ob n a o q z) snoc_pre fun x e => e
    · have := getElem?_lt q
      rw [R.h.len] at this
      omega
  · subst q2
    rcases snoc_cases e2 with z | ⟨_, z⟩
    · have := (List.getElem?_eq_some_iff.mp z).1
      rw [← R.h.len] at this
      omega
    · subst z
      exact ⟨ys, hD, RUs.mono snoc_pre r⟩
theorem RS.pad {p : Rho} {os : St} (rs : RS A α ρ σ) (hl : p.length = os.length) (hp : ∀ x ∈ p, x = none) : RS A α (ρ ++ p) (σ ++ os) := by
  refine ⟨by simp [rs.len, hl], fun i u e => ?_⟩
  by_cases l : i < ρ.length
  · rw [List.getElem?_append_left l] at e
    obtain ⟨v, h1, h2⟩ := rs.val i u e
    exact ⟨v, by rw [List.getElem?_append_left (List.getElem?_eq_some_iff.mp h1).1]; exact h1, h2⟩
  · rw [List.getElem?_append_right (by omega)] at e
    cases hp _ (List.mem_of_getElem? e)
def nN (b : Bool) : Nat := if b then 2 else 1
theorem padN_len (b : Bool) : (padN b).length = nN b := by cases b <;> rfl
theorem padN_none (b : Bool) : ∀ x ∈ padN b, x = none := by cases b <;> simp [padN]
theorem gT_form {K : PySem.W.Frag} {b : Bool} {os : St} {Q : St → Hp → Prop} (hl : os.length = nN b) (h : gT K (tgN b σ.length) v (σ ++ os) H Q) :
    gT K (tgN b σ.length) v (σ ++ os) H fun σ2 H2 => (∃ os' : St, os'.length = nN b ∧ σ2 = σ ++ os') ∧ Q σ2 H2 := by
  cases b with
  | false =>
    have h : Q ((σ ++ os).set σ.length (some v)) H := h
    exact ⟨⟨os.set 0 (some v), by simp [hl], by rw [List.set_append_right _ _ (Nat.le_refl _), Nat.sub_self]⟩, h⟩
  | true =>
    obtain ⟨a, xs, rfl, sq, len, v1, r1, rfl, v2, r2, rfl, e, q⟩ := h
    refine ⟨a, _, rfl, sq, len, v1, _, rfl, v2, _, rfl, e, ⟨(os.set 0 (some v1)).set 1 (some v2), by simp [hl], ?_⟩, q⟩
    rw [List.set_append_right _ _ (Nat.le_refl _), Nat.sub_self, List.set_append_right _ _ (Nat.le_succ _)]
    congr 1
    congr 1
    omega
theorem out_of {α4 : List Addr} {D : Addr} {ho : HO} {H4 : Hp} (E4 : Ext α α4 H H4) (nD : D ∉ α) (d3 : H D = some ho) : D ∉ α4 := fun z => by
  obtain ⟨n, hn⟩ := List.getElem?_of_mem z
  by_cases l : n < α.length
  · have e1 : α[n]? = some α[n] := List.getElem?_eq_getElem l
    have e2 := E4.pre _ _ e1
    rw [hn] at e2
    cases e2
    exact nD (List.getElem_mem l)
  · have := E4.new n D hn (by omega)
    rw [d3] at this
    cases this
theorem comp_core {src : Src} {b : Bool} {t : Option E} {el : E} {d : Nat} {σ : St} {H : Hp} {Q : VK} (tx : Txt T A X.K X.mg) (hl : σ.length = X.N.length) (h : Iv.TI T A X.K (ev T cf (d + 1) (.comp src b t el)) σ H Q) :
    tComp (TIW T A X.K (fun ρ hs => srcU T (ev T cf d) ρ src hs)) (nN b) (gT X.K (tgN b X.N.length)) (TIT T A X.K (evTO (evT T cf d) t)) (Iv.TI T A X.K (ev T cf d el)) σ H Q := by
  rw [← hl]
  obtain ⟨α, ρ, hs, u, hs', rs, R, e, q⟩ := h
  simp only [ev] at e
  obtain ⟨w, h1, e1, e⟩ := bd_some e
  obtain ⟨us, h2, e2, e⟩ := bd_some e
  cases e
  refine ⟨α, ρ, hs, w, h1, rs, R, e1, fun α1 J H1 E1 R1 W1 D hD => ?_⟩
  have rs1 := rs.mono E1.pre
  refine ⟨fun i m ys H2 => ∃ αc hc acc, RS A αc ρ σ ∧ Rep T A X.K αc hc H2 ∧ D ∉ αc ∧ H2 D = some (.lst ys) ∧ RUs A αc acc ys ∧ Ext α1 αc H1 H2 ∧ WJ A X.K αc J w ∧ compU T (ev T cf d) (evTO (evT T cf d) t) w b el ρ m i acc hc = some (us, h2), ⟨turns T w h1, α1, h1, [], rs1, ?_, R1.h.notIn hD, upd_same, .nil, ?_, W1, e2⟩, ?_⟩
  · exact R1.aside (R1.h.notIn hD) fun o u z => by rw [hD] at z; cases z
  · exact ⟨fun _ _ e => e, fun n a e l => by have := getElem?_lt e; omega, fun b o e _ => by rw [upd_ne (fun z => by rw [z, hD] at e; cases e)]; exact e⟩
  rintro i m ys H2 ⟨αc, hc, acc, rsc, Rc, nD, hDl, rr, Ec, Wc, ec⟩
  refine ⟨hDl, ?_⟩
  cases m with
  | zero => cases ec
  | succ m =>
    simp only [compU] at ec
    split at ec
    · cases ec
    · rename_i ei
      cases ec
      refine .inl ⟨itm_stop tx Rc Wc ei, ?_⟩
      have Ra := Rc.adopt nD hDl rr
      have Ea : Ext α1 (αc ++ [D]) H1 H2 := ⟨fun n a e => snoc_pre n a (Ec.pre n a e), fun n a e l => by
        rcases snoc_cases e with z | ⟨_, z⟩
        · exact Ec.new n a z l
        · rw [z]; exact hD, Ec.keep⟩
      exact q _ _ _ (E1.trans Ea Ra.h) Ra ⟨D, by rw [← Rc.h.len]; exact snoc_at, rfl⟩
    · rename_i x ei
      split at ec
      · cases ec
      rename_i ρ' et
      split at ec
      case isFalse => cases ec
      rename_i small
      obtain ⟨c, h3, e3, ec⟩ := bd_some ec
      have go : J.go i H2 := (itm_go tx Rc Wc (rsc.pad (os := List.replicate (nN b) none) (by rw [padN_len]; simp) (padN_none b)) ei et).1
      refine .inr ⟨go, ?_, fun v H3 os lo yl => ?_⟩
      · have := rr.length
        rw [sizeLine_eq]
        omega
      have rsn : RS A αc (ρ ++ padN b) (σ ++ os) := rsc.pad (by rw [padN_len, lo]) (padN_none b)
      obtain ⟨_, stp⟩ := itm_go tx Rc Wc rsn ei et
      rw [rs.len] at stp
      refine gT_form lo (stp v H3 _ yl fun σ2 rs2 R3 E3 => ?_)
      have d3 : H3 D = some (.lst ys) := E3.keep D _ hDl nD
      refine TIT.run rs2 R3 e3 fun α4 H4 E4 R4 rs4 => ?_
      have d4 : H4 D = some (.lst ys) := E4.keep D _ d3 nD
      have nD4 := out_of E4 nD d3
      have Et4 := (Ec.trans E3 R3.h).trans E4 R4.h
      cases c with
      | false =>
        rw [if_neg Bool.false_ne_true] at ec ⊢
        exact ⟨m, Nat.lt_succ_self _, α4, h3, acc, rsc.mono E4.pre, R4, nD4, d4, RUs.mono E4.pre rr, Et4, Wc.mono E4.pre, ec⟩
      | true =>
        rw [if_pos rfl] at ec ⊢
        obtain ⟨u', h5, e5, ec⟩ := bd_some ec
        refine TI.run rs4 R4 e5 fun α5 y H5 E5 R5 r5 rs5 => ?_
        have d5 : H5 D = some (.lst ys) := E5.keep D _ d4 nD4
        have nD5 := out_of E5 nD4 d4
        refine ⟨d5, m, Nat.lt_succ_self _, α5, h5, acc ++ [u'], (rsc.mono E4.pre).mono E5.pre, R5.aside nD5 (fun o u z => by rw [d5] at z; cases z), nD5, upd_same, ?_, ?_, (Wc.mono E4.pre).mono E5.pre, ec⟩
        · exact Paired.snoc (RUs.mono E5.pre (RUs.mono E4.pre rr)) r5
        · have Et := Et4.trans E5 R5.h
          exact ⟨Et.pre, Et.new, fun b o e hb => by rw [upd_ne (fun z => by rw [z, hD] at e; cases e)]; exact Et.keep b o e hb⟩
end
end Iv
namespace Iv
open PySem PySem.Spec PyProof.Rows L2
section
variable {X : Cx} {T : Tbl} {A : Adr} {C : Ctx} {cf : Cf} {m k : Nat}
theorem s_rev {a : Expr} {a' : E} {j d : Nat} {p1 p3 p2 pos : Pos} (tx : Txt T A X.K X.mg) (h : PE X a (TI T A X.K (ev T cf d a'))) :
    PE X (.Subscript a (.Slice none none (some (.UnaryOp .USub (.Constant (.int 1) j p1) p3)) p2) pos) (TI T A X.K (ev T cf (d + 1) (.rev a'))) := by
  refine PEimp (pe_rev h) ?_
  rintro σ H Q ⟨α, ρ, hs, u, hs', rs, R, e, q⟩
  simp only [ev] at e
  obtain ⟨u1, h1, e1, e⟩ := bd_some e
  split at e
  case h_2 => cases e
  rename_i xs el
  cases e
  refine TI.run rs R e1 fun α1 x H1 E1 R1 r1 rs1 => ?_
  obtain ⟨b, vs, rfl, rr, sq⟩ := lstU_ok tx R1 el r1
  refine ⟨b, vs, rfl, sq, fun p hp => ?_⟩
  obtain ⟨R2, E2⟩ := R1.new (p := p) (o := .lst xs.reverse) (ho := .lst vs.reverse) hp ⟨_, upd_same, RUs.mono snoc_pre rr.reverse⟩
  exact q _ _ _ (E1.trans E2 R2.h) R2 ⟨p, by rw [← R1.h.len]; exact snoc_at, rfl⟩
theorem s_src {tg it : Expr} {src : Src} {d : Nat} (g : GX T A C X) (S : Snd T A C X cf m) (h : compSrc (m + 1) C it = some src) (hz : isPr src = true → ∃ elts kt pt, tg = .Tuple elts kt pt) : PI X tg it (TIW T A X.K (fun ρ hs => srcU T (ev T cf d) ρ src hs)) := by
  have seq : ∀ {it : Expr} {src : Src}, (compE m C it).map Src.seq = some src → PI X tg it (TIW T A X.K (fun ρ hs => srcU T (ev T cf d) ρ src hs)) := by
    intro it src h
    simp only [Option.map_eq_some_iff] at h
    obtain ⟨ir, hi, rfl⟩ := h
    exact pi_seq g.txt (S.e d it ir hi)
  simp only [compSrc] at h
  split at h
  · rename_i f p args q
    split at h
    case isFalse => cases h
    rename_i hg
    split at h
    · exact seq h
    · split at h
      · cases h
      rename_i hx
      split at h
      · rename_i e
        subst e
        split at h
        · rename_i a
          simp only [Option.map_eq_some_iff] at h
          obtain ⟨a', ha, rfl⟩ := h
          exact pi_rng (gl_of g hg) (g.blt _ hx) (compE_noStar ha) (S.e d a a' ha)
        · rename_i a b
          simp only [Option.bind_eq_some_iff, Option.map_eq_some_iff] at h
          obtain ⟨a', ha, b', hb, rfl⟩ := h
          exact pi_rng2 (gl_of g hg) (g.blt _ hx) (compE_noStar ha) (compE_noStar hb) (S.e d a a' ha) (S.e d b b' hb)
        · cases h
      · split at h
        · rename_i e
          subst e
          split at h
          · rename_i a b
            simp only [Option.bind_eq_some_iff, Option.map_eq_some_iff] at h
            obtain ⟨a', ha, b', hb, rfl⟩ := h
            obtain ⟨elts, kt, pt, rfl⟩ := hz rfl
            exact pi_zipI g.txt (gl_of g hg) (g.blt _ hx) (compE_noStar ha) (compE_noStar hb) (S.e d a a' ha) (S.e d b b' hb)
          · cases h
        · exact seq h
  · exact seq h
theorem noFold {it : Expr} {src : Src} {env : Env} (h : compSrc m C it = some src) : ∀ x, foldedSetIterable it env x = pure x := by
  intro x
  cases it <;> first | rfl | skip
  cases m with
  | zero => simp [compSrc] at h
  | succ m =>
    simp only [compSrc, Option.map_eq_some_iff] at h
    obtain ⟨_, h, _⟩ := h
    cases m <;> simp [compE] at h
theorem compOk_ok {xs : List Str} {scope : Scope} (g : GX T A C X) (h : compOk C xs scope = true) : CompOk X xs scope ∧ ∀ C0 s H fp, GX T A (C.inner xs scope) (X.block xs scope C0 s H fp) := by
  unfold compOk at h
  simp only [Bool.and_eq_true, beq_iff_eq, List.all_eq_true, Bool.not_eq_true', decide_eq_true_eq] at h
  obtain ⟨⟨⟨⟨h1, h2⟩, hd⟩, h3⟩, h5⟩ := h
  have nd : (".0" : Str) ∉ X.N := fun z => by
    rw [g.N] at z
    rw [List.contains_iff_mem.mpr z] at h5
    cases h5
  refine ⟨⟨h1, fun x hx => (h2 x hx).1, fun y hy => ?_, fun x hx => (h2 x hx).2, (List.nodup_append.mp hd).2.1, nd⟩, fun C0 s H fp => ?_⟩
  · have := h3 y hy
    obtain ⟨n, kd⟩ := y
    cases kd with
    | «local» =>
      simp only [Bool.and_eq_true, Bool.or_eq_true, decide_eq_true_eq, beq_iff_eq, List.contains_iff_mem] at this
      exact ⟨fun _ => this, (fun z => nomatch z), fun z => nomatch z⟩
    | cell => cases this
    | free =>
      simp only [Bool.or_eq_true, beq_iff_eq] at this
      rw [← g.sc] at this
      exact ⟨(fun z => nomatch z), (fun z => nomatch z), fun _ => this⟩
    | _ => exact ⟨(fun z => nomatch z), (fun z => nomatch z), fun z => nomatch z⟩
  · refine ⟨g.CT, ?_, ?_, ?_, g.calm, h1, rfl, g.gfn, g.gcl, g.gco, g.gtx, g.blt, g.txt, g.tab⟩
    · show hideN xs X.N ++ xs = hideN xs C.N ++ xs
      rw [g.N]
    · show (hideN xs X.N ++ xs).Nodup
      rw [g.N]
      exact hd
    · show (relabel scope X.env).names = relN C.names scope.names
      rw [relabel_names g.kind, g.sc]
theorem pg_block {tg : Expr} {b : Bool} {xs : List Str} {scope : Scope} {C0 : Addr} {s : Shared} {H : Hp} {fp : List Addr} (g : GX T A C X) (k : CompOk X xs scope) (gb : GX T A (C.inner xs scope) (X.block xs scope C0 s H fp)) (h : TgIs tg b xs) : PG (X.block xs scope C0 s H fp) tg (gT X.K (tgN b X.N.length)) := by
  have nm : ∀ {x : Str} {p : Pos} {i : Nat}, x ∈ xs → (hideN xs X.N ++ xs)[i]? = some x → PG (X.block xs scope C0 s H fp) (.Name x p) (gName i) := fun {x p i} hx hi => by
    have loc : (X.block xs scope C0 s H fp).env.scope.names.lookup x = some .local := by
      show (relabel scope X.env).names.lookup x = some .local
      rw [relabel_names g.kind, relN_look, k.loc x hx]
      rfl
    exact pg_name gb.nd hi (.inl loc) (.inr loc)
  rcases h with ⟨rfl, x, p, rfl, rfl⟩ | ⟨rfl, x, p, y, q, kt, pt, rfl, rfl⟩
  · exact nm (by simp) (by rw [← hide_len (xs := [x])]; simp)
  · refine pg_tup gb.calm (pgs_cons (nm (by simp) (by rw [← hide_len (xs := [x, y])]; simp)) (pgs_cons (nm (by simp) ?_) pgs_nil))
    rw [← hide_len (xs := [x, y]), List.getElem?_append_right (by omega)]
    simp
def CompParts (X : Cx) (elt : Expr) (gens : List Comprehension) (scope : Scope) (t : TE) : Prop := ∃ tg iter tl xs n wi g tt te, gens = [⟨tg, iter, Option.toList tl, 0⟩] ∧ CompOk X xs scope ∧ PI X tg iter wi ∧ xs.length = n ∧ (∀ C s H fp, PG (X.block xs scope C s H fp) tg g) ∧ (∀ C s H fp, PTO (X.block xs scope C s H fp) tl tt) ∧ (∀ C s H fp, PE (X.block xs scope C s H fp) elt te) ∧
  (∀ v, foldedSetIterable iter X.env v = pure v) ∧ ∀ σ H Q, σ.length = X.N.length → t σ H Q → tComp wi n g tt te σ H Q
theorem CompParts.pe {elt : Expr} {gens : List Comprehension} {scope : Scope} {pos : Pos} {t : TE} (g : GX T A C X) (h : CompParts X elt gens scope t) : PE X (.ListComp elt gens scope pos) t := by
  obtain ⟨tg, iter, tl, xs, n, wi, gg, tt, te, rfl, ok, hi, hn, hg, ht, he, hf, imp⟩ := h
  intro pins s σ H Q I q
  exact pe_comp g.calm ok hi hn hg ht he hf pins s σ H Q I (imp σ H Q I.len q)
end
end Iv
namespace Iv
open PySem PySem.Spec PyProof.Rows L2
section
variable {X : Cx} {T : Tbl} {A : Adr} {C : Ctx} {cf : Cf} {m k : Nat}
theorem slOf_none {b : Expr} (h : slOf b = none) : notSlice b = true := by
  cases b with
  | Slice lo hi st p =>
    cases st with
    | none => cases h
    | some e =>
      simp only [slOf] at h
      split at h <;> cases h
  | _ => rfl
theorem slOf_cut {b : Expr} {lo hi : Option Expr} (h : slOf b = some (.cut lo hi)) : ∃ p, b = .Slice lo hi none p := by
  cases b with
  | Slice lo' hi' st p =>
    cases st with
    | none => cases h; exact ⟨p, rfl⟩
    | some e =>
      simp only [slOf] at h
      split at h <;> cases h
  | _ => cases h
theorem isM1_is {e : Expr} (h : isM1 e = true) : ∃ j p q, e = .UnaryOp .USub (.Constant (.int 1) j p) q := by
  unfold isM1 at h
  split at h
  · exact ⟨_, _, _, rfl⟩
  · cases h
theorem slOf_rev {b : Expr} (h : slOf b = some .rev) : ∃ j p1 p3 p, b = .Slice none none (some (.UnaryOp .USub (.Constant (.int 1) j p1) p3)) p := by
  cases b with
  | Slice lo hi st p =>
    cases st with
    | none => cases h
    | some e =>
      simp only [slOf] at h
      split at h
      · rename_i c
        simp only [Bool.and_eq_true, Option.isNone_iff_eq_none] at c
        obtain ⟨⟨c1, c2⟩, c3⟩ := c
        obtain ⟨j, p1, p3, rfl⟩ := isM1_is c1
        subst c2 c3
        exact ⟨j, p1, p3, p, rfl⟩
      · cases h
  | _ => cases h
theorem heOf_nm {a : Expr} {x : Str} (h : heOf a = .nm x) : ∃ p, a = .Name x p := by
  unfold heOf at h
  split at h
  · cases h; exact ⟨_, rfl⟩
  · cases h
theorem s_subscript {a b : Expr} {p : Pos} {d : Nat} {ir : E} (g : GX T A C X) (hu : X.A.units + 1 < cLine) (S : Snd T A C X cf m) (h : compE (m + 1) C (.Subscript a b p) = some ir) : PE X (.Subscript a b p) (TI T A X.K (ev T cf d ir)) := by
  simp only [compE] at h
  split at h
  · rename_i lo hi hb
    obtain ⟨p2, rfl⟩ := slOf_cut hb
    exact s_slice S h
  · rename_i hb
    obtain ⟨j, p1, p3, p2, rfl⟩ := slOf_rev hb
    refine pe_cases fun d => ?_
    simp only [Option.bind_eq_some_iff] at h
    obtain ⟨a', ha, h⟩ := h
    cases h
    exact s_rev g.txt (S.e d a a' ha)
  · cases h
  · rename_i hb
    have hs := slOf_none hb
    refine pe_cases fun d => ?_
    simp only [Option.bind_eq_some_iff] at h
    obtain ⟨b', hb', h⟩ := h
    have gen : ((compE m C a).bind fun a' => some (E.ix a' b')) = some ir → PE X (.Subscript a b p) (TI T A X.K (ev T cf (d + 1) ir)) := fun h => by
      simp only [Option.bind_eq_some_iff] at h
      obtain ⟨a', ha, h⟩ := h
      cases h
      exact ix_core g.txt (S.e d a a' ha) (S.e d b b' hb') hs
    split at h
    · rename_i ks vs hh
      exact absurd hh (by cases a <;> simp [heOf])
    · rename_i x hh
      split at h
      · rename_i k ht
        obtain ⟨px, rfl⟩ := heOf_nm hh
        cases h
        unfold tabOf at ht
        split at ht
        case isFalse => cases ht
        rename_i c
        simp only [Bool.and_eq_true, decide_eq_true_eq] at c
        split at ht
        case h_2 => cases ht
        rename_i k' hx
        split at ht
        · cases ht
          exact s_tab g (S.e d b b' hb') hs c.1 c.2 hx
        · cases ht
      · exact gen h
    · exact gen h
theorem s_call_all {f : Expr} {args : List Expr} {kws : List Keyword} {p : Pos} {d : Nat} {ir : E} (g : GX T A C X) (F : Fc X T A cf k) (hr : Room (k + 1) X.A) (S : Snd T A C X cf m) (h : compE (m + 1) C (.Call f args kws p) = some ir) : PE X (.Call f args kws p) (TI T A X.K (ev T cf d ir)) := by
  refine pe_cases fun d => ?_
  cases kws with
  | cons kw kws =>
    cases f with
    | Name x px =>
      match args, kws, h with
      | a :: args, [], h =>
        simp only [compE, Option.bind_eq_some_iff] at h
        obtain ⟨i, hk, es, ha, e', he, h⟩ := h
        cases h
        exact s_callK g F (hr.mono (Nat.le_succ _)) S hk ha he
      | [], _, h => simp [compE] at h
      | _ :: _, _ :: _, h => simp [compE] at h
    | _ => simp [compE] at h
  | nil =>
    cases f with
    | Name x px =>
      simp only [compE] at h
      split at h
      · cases h
      rename_i hn
      have n1 : x ≠ "__debug__" := fun z => hn (.inl z)
      have n2 : x ≠ "__name__" := fun z => hn (.inr (.inl z))
      have hg : isGl C x = true := by
        cases q : isGl C x with
        | true => rfl
        | false => exact absurd (.inr (.inr q)) hn
      split at h
      · rename_i i hx
        simp only [Option.bind_eq_some_iff] at h
        obtain ⟨es, ha, h⟩ := h
        exact s_callP g F (hr.mono (Nat.le_succ _)) S hg n1 hx ha h
      · rename_i i hx
        simp only [Option.bind_eq_some_iff] at h
        obtain ⟨es, ha, h⟩ := h
        cases h
        exact s_make g F hr S hg n1 hx ha
      · cases h
      · cases h
      · split at h
        · cases h
        rename_i hx
        split at h
        · rename_i e
          subst e
          split at h
          · rename_i a t pt
            split at h
            · rename_i c
              simp only [Option.bind_eq_some_iff] at h
              obtain ⟨a', ha, ty, ht, h⟩ := h
              cases h
              exact s_isi g S hg hx c.1 c.2.1 c.2.2 ht ha
            · cases h
          · cases h
        · split at h
          · rename_i ra hra
            simp only [Option.bind_eq_some_iff] at h
            obtain ⟨es, ha, h⟩ := h
            cases h
            exact nomatch hra
          · simp only [Option.bind_eq_some_iff] at h
            obtain ⟨b, hb, es, ha, h⟩ := h
            cases h
            exact s_bi g S hg n1 n2 hb ha
    | Attribute o x pa =>
      simp only [compE] at h
      split at h
      case isFalse => cases h
      rename_i c
      simp only [Bool.and_eq_true, decide_eq_true_eq] at c
      split at h
      · rename_i i hx
        simp only [Option.bind_eq_some_iff] at h
        obtain ⟨o', ho, es, ha, h⟩ := h
        cases h
        exact s_meth g F (hr.mono (Nat.le_succ _)) S c.1.1 c.1.2 c.2 hx ho ha
      · simp only [Option.bind_eq_some_iff] at h
        obtain ⟨b, hb, o', ho, es, ha, h⟩ := h
        cases h
        exact s_bm g.txt S hb c.1.1 c.1.2 c.2 ho ha
    | _ => simp [compE] at h
theorem s_expr (g : GX T A C X) (F : Fc X T A cf k) (hr : Room (k + 1) X.A) (S : Snd T A C X cf m) (cp : ∀ d elt gens scope p ir, compE (m + 1) C (.ListComp elt gens scope p) = some ir → CompParts X elt gens scope (TI T A X.K (ev T cf d ir))) (d : Nat) (e : Expr) (ir : E) (h : compE (m + 1) C e = some ir) : PE X e (TI T A X.K (ev T cf d ir)) := by
  cases e with
  | Constant c j p => exact s_const h
  | Name x p => exact s_name g h
  | BinOp a o b p => exact s_bin S h
  | UnaryOp o a p =>
    cases o with
    | USub => exact s_neg S h
    | Not => exact (s_not g.txt S h).1
    | _ => simp [compE] at h
  | BoolOp o vs p =>
    cases vs with
    | nil => cases o <;> simp [compE] at h
    | cons a r =>
      cases o with
      | And => exact (S.an d a r p ir h).2
      | Or => exact (S.orr d a r p ir h).2
  | Compare a os bs p =>
    match os, bs, h with
    | [o], [b], h => exact (s_cmp g.txt g.tab hr.units S h).1
    | [_, _], [_, _], h => simp [compE] at h
    | [], _, h => simp [compE] at h
    | [_], [], h => simp [compE] at h
    | [_], _ :: _ :: _, h => simp [compE] at h
    | [_, _], [], h => simp [compE] at h
    | [_, _], [_], h => simp [compE] at h
    | [_, _], _ :: _ :: _ :: _, h => simp [compE] at h
    | _ :: _ :: _ :: _, _, h => simp [compE] at h
  | IfExp t a b p => exact s_ifexp S h
  | Tuple es j p => exact s_tuple S h
  | List es p => exact s_list S h
  | Subscript a b p => exact s_subscript g (hu_of hr) S h
  | ListComp elt gens scope p => exact (cp d elt gens scope p ir h).pe g
  | Dict ks vs p =>
    cases ks with
    | cons _ _ => simp [compE] at h
    | nil =>
      cases vs with
      | cons _ _ => simp [compE] at h
      | nil =>
        simp only [compE] at h
        cases h
        refine pe_cases fun d => PEimp pe_dnewK ?_
        rintro σ H Q ⟨α, ρ, hs, u, hs', rs, R, e, q⟩
        simp only [ev] at e
        cases e
        intro p hp
        obtain ⟨R', E'⟩ := R.new (o := .dic []) hp ⟨[], upd_same, .nil⟩
        exact q _ _ _ E' R' ⟨p, by rw [← R.h.len]; exact snoc_at, rfl⟩
  | Attribute a f p => exact s_attr g S h
  | Call f args kws p => exact s_call_all g F hr S h
  | _ => simp [compE] at h
theorem pt_plain {e : Expr} {ir : E} {d : Nat} (g : GX T A C X) (he : ∀ whole, isTrue e X.env whole = (do let v ← whole; standAt e.pos; holding [v] (truthy v))) (h : ∀ d, PE X e (TI T A X.K (ev T cf d ir))) (hir : ∀ d ρ hs, evT T cf (d + 1) ir ρ hs = bd (ev T cf d ir ρ hs) fun u h1 => (truU T u h1).map fun b => (b, h1)) :
    PT X e (TIT T A X.K (evT T cf d ir)) := by
  refine pt_cases fun d => ?_
  refine PTimp (pt_truth (h d) he) ?_
  rintro σ H Q ⟨α, ρ, hs, u, hs', rs, R, e, q⟩
  rw [hir] at e
  obtain ⟨u1, h1, e1, e⟩ := bd_some e
  simp only [Option.map_eq_some_iff] at e
  obtain ⟨b, e2, e⟩ := e
  cases e
  exact TI.run rs R e1 fun α1 x H1 E1 R1 r1 rs1 => ⟨_, truU_ok g.txt R1 e2 r1, q α1 H1 E1 R1⟩
theorem evT_plain {ir : E} (h : plainE ir = true) : ∀ d ρ hs, evT T cf (d + 1) ir ρ hs = bd (ev T cf d ir ρ hs) fun u h1 => (truU T u h1).map fun b => (b, h1) := by
  intro d ρ hs
  cases ir <;> first | rfl | cases h
theorem s_test (g : GX T A C X) (F : Fc X T A cf k) (hr : Room (k + 1) X.A) (S : Snd T A C X cf m) (cp : ∀ d elt gens scope p ir, compE (m + 1) C (.ListComp elt gens scope p) = some ir → CompParts X elt gens scope (TI T A X.K (ev T cf d ir))) (d : Nat) (e : Expr) (ir : E) (hne : ∀ t a b p, e ≠ .IfExp t a b p) (ok : okT e ir = true) (h : compE (m + 1) C e = some ir) : PT X e (TIT T A X.K (evT T cf d ir)) := by
  have all := fun d => s_expr g F hr S cp d e ir h
  cases e with
  | Constant c j p => exact pt_plain g (fun _ => rfl) all (evT_plain ok)
  | Name x p => exact pt_plain g (fun _ => rfl) all (evT_plain ok)
  | BinOp a o b p => exact pt_plain g (fun _ => rfl) all (evT_plain ok)
  | UnaryOp o a p =>
    cases o with
    | USub => exact pt_plain g (fun _ => rfl) all (evT_plain ok)
    | Not => exact (s_not g.txt S h).2
    | _ => simp [compE] at h
  | BoolOp o vs p =>
    cases vs with
    | nil => cases o <;> simp [compE] at h
    | cons a r =>
      cases o with
      | And => exact (S.an d a r p ir h).1.pt
      | Or => exact (S.orr d a r p ir h).1.pt
  | Compare a os bs p =>
    match os, bs, h with
    | [o], [b], h => exact (s_cmp g.txt g.tab hr.units S h).2
    | [_, _], [_, _], h => simp [compE] at h
    | [], _, h => simp [compE] at h
    | [_], [], h => simp [compE] at h
    | [_], _ :: _ :: _, h => simp [compE] at h
    | [_, _], [], h => simp [compE] at h
    | [_, _], [_], h => simp [compE] at h
    | [_, _], _ :: _ :: _ :: _, h => simp [compE] at h
    | _ :: _ :: _ :: _, _, h => simp [compE] at h
  | IfExp t a b p => exact absurd rfl (hne t a b p)
  | Tuple es j p => exact pt_plain g (fun _ => rfl) all (evT_plain ok)
  | List es p => exact pt_plain g (fun _ => rfl) all (evT_plain ok)
  | Subscript a b p => exact pt_plain g (fun _ => rfl) all (evT_plain ok)
  | ListComp elt gens scope p => exact pt_plain g (fun _ => rfl) all (evT_plain ok)
  | Dict ks vs p => exact pt_plain g (fun _ => rfl) all (evT_plain ok)
  | Attribute a f p => exact pt_plain g (fun _ => rfl) all (evT_plain ok)
  | Call f args kws p => exact pt_plain g (fun _ => rfl) all (evT_plain ok)
  | _ => simp [compE] at h
theorem snd0 : Snd T A C X cf 0 where
  e := fun d e ir h => by simp [compE] at h
  t := fun d e ir h => by simp [compT] at h
  an := fun d a r p ir h => by simp [compAnd] at h
  orr := fun d a r p ir h => by simp [compOr] at h
  a := fun d es irs h => by simp [compA] at h
  o := fun d e ir h => by simp [compO] at h
structure Snd2 (T : Tbl) (A : Adr) (C : Ctx) (X : Cx) (cf : Cf) (m : Nat) : Prop where
  s : Snd T A C X cf m
  w : ∀ d it src tg, compSrc m C it = some src → (isPr src = true → ∃ elts kt pt, tg = .Tuple elts kt pt) → PI X tg it (TIW T A X.K (fun ρ hs => srcU T (ev T cf d) ρ src hs))
  c : ∀ d elt gens scope p ir, compE m C (.ListComp elt gens scope p) = some ir → CompParts X elt gens scope (TI T A X.K (ev T cf d ir))
theorem pto_of {tl : Option Expr} {t : Option E} {Y : Cx} {C' : Ctx} {d : Nat} (S : Snd T A C' Y cf m) (h : compTO (m + 1) C' tl = some t) : PTO Y tl (TIT T A Y.K (evTO (evT T cf d) t)) := by
  cases tl with
  | none =>
    simp only [compTO] at h
    cases h
    rintro σ H Q ⟨α, ρ, hs, u, hs', rs, R, e, q⟩
    simp only [evTO] at e
    cases e
    exact q α H Ext.refl R
  | some e =>
    simp only [compTO, Option.bind_eq_some_iff] at h
    obtain ⟨e', he, h⟩ := h
    cases h
    exact (S.t d e e' he).1
theorem tg_zipN {tg : Expr} {b : Bool} {xs : List Str} {src : Src} (ht : TgIs tg b xs) (ok : okSrc src (tgN b 0) = true) : isPr src = true → ∃ elts kt pt, tg = .Tuple elts kt pt := by
  intro hp
  rcases ht with ⟨rfl, _⟩ | ⟨rfl, x, p, y, q, k, pt, rfl, _⟩
  · cases src <;> first | (cases hp; done) | (cases ok; done)
  · exact ⟨_, _, _, rfl⟩
theorem comp_parts (g : GX T A C X) (S : Snd2 T A C X cf m) (SB : ∀ xs scope C0 s H fp, compOk C xs scope = true → Snd2 T A (C.inner xs scope) (X.block xs scope C0 s H fp) cf m) (ST : ∀ xs scope C0 s H fp tl t d, compOk C xs scope = true → compTO m (C.inner xs scope) tl = some t → PTO (X.block xs scope C0 s H fp) tl (TIT T A X.K (evTO (evT T cf d) t))) (d : Nat) (elt : Expr) (gens : List Comprehension) (scope : Scope) (p : Pos) (ir : E)
    (h : compE (m + 1) C (.ListComp elt gens scope p) = some ir) : CompParts X elt gens scope (TI T A X.K (ev T cf d ir)) := by
  simp only [compE] at h
  split at h
  case h_2 => cases h
  rename_i gn hgen
  split at h
  case isFalse => cases h
  rename_i ok
  simp only [Option.bind_eq_some_iff] at h
  obtain ⟨src, hsrc, h⟩ := h
  split at h
  case isFalse => cases h
  rename_i oks
  simp only [Option.bind_eq_some_iff] at h
  obtain ⟨t, ht, el, hel, h⟩ := h
  cases h
  obtain ⟨tg, rfl, htg⟩ := genOf_some hgen
  obtain ⟨ck, gb⟩ := compOk_ok g ok
  have hn : gn.xs.length = nN gn.b := by
    rcases htg with ⟨e, x, p, _, e'⟩ | ⟨e, x, p, y, q, k, pt, _, e'⟩ <;> rw [e, e'] <;> rfl
  cases d with
  | zero =>
    exact ⟨tg, gn.iter, gn.tl, gn.xs, nN gn.b, _, _, TIT T A X.K (evTO (evT T cf 0) t), TI T A X.K (ev T cf 0 el), rfl, ck, S.w 0 gn.iter src tg hsrc (tg_zipN htg oks), hn, (fun C0 s H fp => pg_block g ck (gb C0 s H fp) htg), (fun C0 s H fp => ST _ _ C0 s H fp _ _ 0 ok ht), (fun C0 s H fp => show PE _ elt (TI T A X.K (ev T cf 0 el)) from (SB _ scope C0 s H fp ok).s.e 0 elt el hel), noFold hsrc, fun σ H Q _ ⟨_, _, _, _, _, _, _, e, _⟩ => nomatch e⟩
  | succ d =>
    exact ⟨tg, gn.iter, gn.tl, gn.xs, nN gn.b, _, _, TIT T A X.K (evTO (evT T cf d) t), TI T A X.K (ev T cf d el), rfl, ck, S.w d gn.iter src tg hsrc (tg_zipN htg oks), hn, (fun C0 s H fp => pg_block g ck (gb C0 s H fp) htg), (fun C0 s H fp => ST _ _ C0 s H fp _ _ d ok ht), (fun C0 s H fp => show PE _ elt (TI T A X.K (ev T cf d el)) from (SB _ scope C0 s H fp ok).s.e d elt el hel), noFold hsrc, fun σ H Q hl hq => comp_core g.txt hl hq⟩
theorem snd2 : ∀ (m : Nat) {C : Ctx} {X : Cx}, GX T A C X → Fc X T A cf k → Room (k + 1) X.A → Snd2 T A C X cf m
  | 0, C, X, g, F, hr => ⟨snd0, fun d it src tg h => by simp [compSrc] at h, fun d elt gens scope p ir h => by simp [compE] at h⟩
  | 1, C, X, g, F, hr => by
    have S0 := snd2 0 g F hr
    have S := S0.s
    have cp := comp_parts g S0 (fun x scope C0 s H fp ok => snd2 0 ((compOk_ok g ok).2 C0 s H fp) ⟨F.ok, F.some, F.df⟩ hr) (fun xs scope C0 s H fp tl t d ok h => by simp [compTO] at h)
    refine ⟨⟨s_expr g F hr S cp, fun d e ir h => ?_, s_and S, s_or S, s_args S, s_opt S⟩, fun d it src tg h hz => s_src g S h hz, cp⟩
    cases e <;> simp [compT, compE] at h
  | m + 2, C, X, g, F, hr => by
    have S1 := snd2 (m + 1) g F hr
    have S := S1.s
    have S' := snd2 m g F hr
    have cp := comp_parts g S1 (fun x scope C0 s H fp ok => snd2 (m + 1) ((compOk_ok g ok).2 C0 s H fp) ⟨F.ok, F.some, F.df⟩ hr) (fun xs scope C0 s H fp tl t d ok h => pto_of (snd2 m ((compOk_ok g ok).2 C0 s H fp) ⟨F.ok, F.some, F.df⟩ hr).s h)
    refine ⟨⟨s_expr g F hr S cp, fun d e ir h => ?_, s_and S, s_or S, s_args S, s_opt S⟩, fun d it src tg h hz => s_src g S h hz, cp⟩
    have hne : ∀ t a b p, e ≠ .IfExp t a b p := by
      rintro t a b p rfl
      simp [compT] at h
    have h' : ((compE (m + 1) C e).bind fun ir => if okT e ir = true then some ir else none) = some ir := by
      cases e <;> first | exact h | (simp [compT] at h; done)
    simp only [Option.bind_eq_some_iff] at h'
    obtain ⟨ir', he, h'⟩ := h'
    split at h'
    · rename_i ok
      cases h'
      exact ⟨s_test g F hr S'.s S1.c d e ir hne ok he, S.e d e ir he⟩
    · cases h'
end
end Iv
namespace Iv
open PySem PySem.Spec PyProof.Rows L2
section
variable {X : Cx} {T : Tbl} {A : Adr} {C : Ctx} {cf : Cf} {m k : Nat}
theorem PSfalse {st : Stmt} {t : TS} (h : ∀ D σ H, ¬ t D σ H) : PS X st t := fun _ _ σ H D _ q => (h D σ H q).elim
theorem PSsfalse {st : List Stmt} {t : TS} (h : ∀ D σ H, ¬ t D σ H) : PSs X st t := fun _ _ σ H D _ q => (h D σ H q).elim
theorem noSwap {e : Expr} {ir : E} {tg : Option Expr} {l : Nat} {env : Env} (h : compE m C e = some ir) (hn : ∀ elt gens scope p, e ≠ .ListComp elt gens scope p) : swapsWith e tg l env = pure false := by
  cases e <;> first | rfl | exact absurd rfl (hn _ _ _ _) | (cases m <;> simp [compE] at h; done)
theorem noSwapA {e o : Expr} {f : Str} {p : Pos} {ir : E} {l : Nat} {env : Env} (h : compE m C e = some ir) : swapsWith e (some (.Attribute o f p)) l env = pure false := by
  cases e <;> first | rfl | (cases m <;> simp [compE] at h; done)
theorem s_tg {tg : Expr} {t : Tg} (g : GX T A C X) (fl : ∀ x, X.fn x = true ∨ X.env.scope.names.lookup x = some .local) (h : compTg C tg = some t) : PG X tg (gT X.K t) := by
  have nm : ∀ {x : Str} {p : Pos} {i : Nat}, isLoc C x = true → idx x C.N = some i → PG X (.Name x p) (gName i) := fun {x p i} h1 h2 => pg_name g.nd (by rw [g.N]; exact idx_get h2) (loc_of g h1) (fl x)
  unfold compTg at h
  split at h
  · split at h
    · rename_i hl
      simp only [Option.map_eq_some_iff] at h
      obtain ⟨i, hi, rfl⟩ := h
      exact nm hl hi
    · cases h
  · split at h
    · rename_i c
      simp only [Bool.and_eq_true] at c
      simp only [Option.bind_eq_some_iff, Option.map_eq_some_iff] at h
      obtain ⟨i, hi, j, hj, rfl⟩ := h
      exact pg_tup g.calm (pgs_cons (nm c.1.1 hi) (pgs_cons (nm c.1.2 hj) pgs_nil))
    · cases h
  · cases h
theorem noSwapT {e : Expr} {es : List Expr} {kt : Nat} {p : Pos} {ir : E} {l : Nat} {env : Env} (h : compE m C e = some ir) : swapsWithSole [.Tuple es kt p] e l env = pure false := by
  cases e <;> first | rfl | (cases m <;> simp [compE] at h; done)
theorem noTup_stores {e : Expr} {es : List Expr} {kt : Nat} {p : Pos} {env : Env} (h : notTup e = true) : swappedStores [.Tuple es kt p] e env = pure none := by
  cases e <;> first | rfl | cases h
theorem exOf_doc {e : Expr} (h : exOf e = some true) : ∃ x j q, e = .Constant (.str x) j q := by
  cases e with
  | Constant c j q => cases c <;> first | exact ⟨_, _, _, rfl⟩ | cases h
  | _ => cases h
theorem asOf_one {ts : List Expr} {a : As} (h : asOf ts = some a) : ∃ t, ts = [t] ∧ as1 t = some a := by
  match ts, h with
  | [t], h => exact ⟨t, rfl, h⟩
theorem asOf_nm {ts : List Expr} {x : Str} (h : asOf ts = some (.nm x)) : ∃ p, ts = [.Name x p] := by
  obtain ⟨t, rfl, h'⟩ := asOf_one h
  clear h
  have h := h'
  clear h'
  unfold as1 at h
  split at h
  · cases h; exact ⟨_, rfl⟩
  · cases h
  · cases h
  · split at h
    · unfold twoOf at h; split at h <;> cases h
    · cases h
  · cases h
theorem asOf_at {ts : List Expr} {o : Expr} {f : Str} (h : asOf ts = some (.at o f)) : ∃ p, ts = [.Attribute o f p] := by
  obtain ⟨t, rfl, h'⟩ := asOf_one h
  clear h
  have h := h'
  clear h'
  unfold as1 at h
  split at h
  · cases h
  · cases h; exact ⟨_, rfl⟩
  · cases h
  · split at h
    · unfold twoOf at h; split at h <;> cases h
    · cases h
  · cases h
theorem asOf_two {ts : List Expr} {x y : Str} {p q : Pos} (h : asOf ts = some (.two x p y q)) : ∃ kt pt, ts = [.Tuple [.Name x p, .Name y q] kt pt] := by
  obtain ⟨t, rfl, h'⟩ := asOf_one h
  clear h
  have h := h'
  clear h'
  unfold as1 at h
  split at h
  · cases h
  · cases h
  · cases h
  · split at h
    · unfold twoOf at h
      split at h
      · cases h; exact ⟨_, _, rfl⟩
      · cases h
    · cases h
  · cases h
theorem isLoc1_is {x : Str} (h : isLoc1 C x = true) : C.names.lookup x = some .local := by
  unfold isLoc1 at h
  split at h
  · rename_i e; exact e
  · cases h
theorem tg_zip {tg : Expr} {t : Tg} {src : Src} (ht : compTg C tg = some t) (ok : okSrc src t = true) : isPr src = true → ∃ elts kt pt, tg = .Tuple elts kt pt := by
  intro hp
  cases tg with
  | Tuple elts kt pt => exact ⟨_, _, _, rfl⟩
  | Name x p =>
    simp only [compTg] at ht
    split at ht
    · simp only [Option.map_eq_some_iff] at ht
      obtain ⟨i, _, rfl⟩ := ht
      cases src <;> first | (cases hp; done) | (cases ok; done)
    · cases ht
  | _ => simp [compTg] at ht
structure SndS (T : Tbl) (A : Adr) (C : Ctx) (X : Cx) (cf : Cf) (m : Nat) : Prop where
  s : ∀ d st ir, compS m C st = some ir → PS X st (TIS T A X.K (ex T cf d ir))
  ss : ∀ d sts irs, compSs m C sts = some irs → PSs X sts (TIS T A X.K (exs T cf d irs))
theorem no_ex {K : PySem.W.Frag} {ir : S} : ∀ D σ H, ¬ TIS T A K (ex T cf 0 ir) D σ H := fun _ _ _ ⟨_, _, _, _, _, _, _, _, h, _⟩ => nomatch h
theorem no_exs {K : PySem.W.Frag} {irs : List S} : ∀ D σ H, ¬ TIS T A K (exs T cf 0 irs) D σ H := fun _ _ _ ⟨_, _, _, _, _, _, _, _, h, _⟩ => nomatch h
theorem ps_cases {st : Stmt} {ir : S} {d : Nat} (h : ∀ d', PS X st (TIS T A X.K (ex T cf (d' + 1) ir))) : PS X st (TIS T A X.K (ex T cf d ir)) := by
  cases d with
  | zero => exact PSfalse no_ex
  | succ d => exact h d
theorem TIS.run {K : PySem.W.Frag} {α : List Addr} {ρ ρ' : Rho} {σ : St} {hs h1 : Hs} {H : Hp} {f : Ex} {fl : Fl} {D : Ends} (rs : RS A α ρ σ) (rp : Rep T A K α hs H) (h : f ρ hs = some (fl, ρ', h1))
    (k : ∀ α1 σ1 H1, Ext α α1 H H1 → Rep T A K α1 h1 H1 → RS A α1 ρ' σ1 → flE A α1 D σ1 H1 fl) : TIS T A K f D σ H := ⟨α, ρ, hs, fl, ρ', h1, rs, rp, h, k⟩
theorem for_core {d : Nat} {body : List S} {w : Wk} {t : Tg} {J : It} {K : PySem.W.Frag} {D : Ends} {α0 : List Addr} {H0 : Hp} {σ0 : St} {ρ0 ρ' : Rho} {h0 hs' : Hs} {fl : Fl} {n : Nat} (hK : K = X.K) (tx : Txt T A X.K X.mg) (rs0 : RS A α0 ρ0 σ0) (R0 : Rep T A X.K α0 h0 H0) (W0 : WJ A X.K α0 J w)
    (e0 : forU T w t (exs T cf d body) n 0 ρ0 h0 = some (fl, ρ', hs'))
    (q : ∀ α' σ' H', Ext α0 α' H0 H' → Rep T A X.K α' hs' H' → RS A α' ρ' σ' → flE A α' D σ' H' fl) :
    ∃ W : Nat → Nat → St → Hp → Prop, (∃ m, W 0 m σ0 H0) ∧ ∀ i m σ H, W i m σ H → (J.stop i H ∧ D.nx σ H) ∨ (J.go i H ∧ ∃ N : St → Hp → Prop, (∀ σ' H', N σ' H' → ∃ m', m' < m ∧ W (i + 1) m' σ' H') ∧
      ∀ x H', J.yld i H x H' → gT X.K t x σ H' fun σ2 H2 => TIS T A X.K (exs T cf d body) { D with nx := N, ct := N, bk := D.nx } σ2 H2) := by
  refine ⟨fun i m σ H => ∃ α ρ hs, RS A α ρ σ ∧ Rep T A X.K α hs H ∧ Ext α0 α H0 H ∧ forU T w t (exs T cf d body) m i ρ hs = some (fl, ρ', hs'), ⟨n, α0, ρ0, h0, rs0, R0, Ext.refl, e0⟩, ?_⟩
  rintro i m σ H ⟨α, ρ, hs, rs, R, E, e⟩
  cases m with
  | zero => cases e
  | succ m =>
    have W := W0.mono E.pre
    simp only [forU] at e
    split at e
    · cases e
    · rename_i ei
      cases e
      exact .inl ⟨itm_stop tx R W ei, q α σ H E R rs⟩
    · rename_i x ei
      split at e
      · cases e
      · rename_i ρ1 et
        obtain ⟨go, yl⟩ := itm_go tx R W rs ei et
        refine .inr ⟨go, fun σ' H' => ∃ α ρ hs, RS A α ρ σ' ∧ Rep T A X.K α hs H' ∧ Ext α0 α H0 H' ∧ forU T w t (exs T cf d body) m (i + 1) ρ hs = some (fl, ρ', hs'), fun σ' H' z => ⟨m, Nat.lt_succ_self _, z⟩, ?_⟩
        intro v H' hy
        refine yl v H' _ hy fun σ2 rs2 R2 E2 => ?_
        have E02 : Ext α0 α H0 H' := E.trans E2 R2.h
        split at e
        · rename_i ρ2 h2 eb
          exact TIS.run rs2 R2 eb fun α3 σ3 H3 E3 R3 rs3 => ⟨α3, ρ2, h2, rs3, R3, E02.trans E3 R3.h, e⟩
        · rename_i ρ2 h2 eb
          exact TIS.run rs2 R2 eb fun α3 σ3 H3 E3 R3 rs3 => ⟨α3, ρ2, h2, rs3, R3, E02.trans E3 R3.h, e⟩
        · rename_i ρ2 h2 eb
          cases e
          exact TIS.run rs2 R2 eb fun α3 σ3 H3 E3 R3 rs3 => q α3 σ3 H3 (E02.trans E3 R3.h) R3 rs3
        · rename_i n1 n2 n3
          cases fl with
          | next => exact absurd e (n1 _ _)
          | cont => exact absurd e (n2 _ _)
          | brk => exact absurd e (n3 _ _)
          | ret u => exact TIS.run rs2 R2 e fun α3 σ3 H3 E3 R3 rs3 => q α3 σ3 H3 (E02.trans E3 R3.h) R3 rs3
theorem RF.put {α : List Addr} {x : Str} {i : Nat} {u : U} {v : V} (hk : T.fns'[i]? = some x) (nd : T.fns'.Nodup) (r : RU A α u v) : ∀ {fs : List (Nat × U)} {fv : List (Str × V)}, RF T A α fs fv → RF T A α (putU i u fs) (putF x v fv)
  | _, _, .nil => .cons ⟨hk, r⟩ .nil
  | _, _, .cons (a := p) (b := q) h t => by
    obtain ⟨pk, pu⟩ := p
    obtain ⟨qx, qv⟩ := q
    simp only [putU, putF]
    by_cases e : pk = i
    · subst e
      have e2 : qx = x := Option.some.inj (h.1.symm.trans hk)
      subst e2
      rw [if_pos rfl, if_pos rfl]
      exact .cons ⟨hk, r⟩ t
    · have n2 : ¬ qx = x := fun z => by
        subst z
        obtain ⟨l1, q1⟩ := List.getElem?_eq_some_iff.mp hk
        obtain ⟨l2, q2⟩ := List.getElem?_eq_some_iff.mp h.1
        exact e ((List.getElem_inj nd).mp (q2.trans q1.symm))
      rw [if_neg e, if_neg n2]
      exact .cons h (RF.put hk nd r t)
theorem RF.length {α : List Addr} {fs : List (Nat × U)} {fv : List (Str × V)} (r : RF T A α fs fv) : fs.length = fv.length := Paired.length r
theorem s_stmt (g : GX T A C X) (fl : ∀ x, X.fn x = true ∨ X.env.scope.names.lookup x = some .local) (S2 : Snd2 T A C X cf m) (SS : SndS T A C X cf m) (d : Nat) (st : Stmt) (ir : Iv.S) (h : compS (m + 1) C st = some ir) : PS X st (TIS T A X.K (ex T cf d ir)) := by
  have S := S2.s
  refine ps_cases fun d => ?_
  cases st with
  | Pass p => cases h; exact PSimp ps_pass fun D σ H ⟨α, ρ, hs, fl, ρ', hs', rs, R, e, q⟩ => by cases e; exact q α σ H Ext.refl R rs
  | Break p => cases h; exact PSimp ps_break fun D σ H ⟨α, ρ, hs, fl, ρ', hs', rs, R, e, q⟩ => by cases e; exact q α σ H Ext.refl R rs
  | Continue p => cases h; exact PSimp ps_continue fun D σ H ⟨α, ρ, hs, fl, ρ', hs', rs, R, e, q⟩ => by cases e; exact q α σ H Ext.refl R rs
  | Expr e p =>
    simp only [compS] at h
    split at h
    · rename_i hd
      obtain ⟨x, j, q, rfl⟩ := exOf_doc hd
      cases h
      exact PSimp ps_doc fun D σ H ⟨α, ρ, hs, fl, ρ', hs', rs, R, e, q⟩ => by cases e; exact q α σ H Ext.refl R rs
    · cases h
    · rename_i hn
      simp only [Option.map_eq_some_iff] at h
      obtain ⟨e', he, rfl⟩ := h
      refine PSimp (ps_expr (S.e d e e' he) (noSwap he fun elt gens scope q z => by subst z; cases hn)) ?_
      rintro D σ H ⟨α, ρ, hs, fl, ρ', hs', rs, R, e, q⟩
      simp only [ex] at e
      obtain ⟨u, h1, e1, e⟩ := bd_some e
      cases e
      exact TI.run rs R e1 fun α1 x H1 E1 R1 r1 rs1 => q α1 σ H1 E1 R1 rs1
  | Return v p =>
    cases v with
    | none =>
      cases h
      exact PSimp ps_retN fun D σ H ⟨α, ρ, hs, fl, ρ', hs', rs, R, e, q⟩ => by cases e; exact q α σ H Ext.refl R rs .non rfl
    | some e =>
      simp only [compS, Option.map_eq_some_iff] at h
      obtain ⟨e', he, rfl⟩ := h
      refine PSimp (ps_ret (S.e d e e' he)) ?_
      rintro D σ H ⟨α, ρ, hs, fl, ρ', hs', rs, R, e, q⟩
      simp only [ex] at e
      obtain ⟨u, h1, e1, e⟩ := bd_some e
      cases e
      exact TI.run rs R e1 fun α1 x H1 E1 R1 r1 rs1 => q α1 σ H1 E1 R1 rs1 x r1
  | Raise x c p =>
    simp only [compS] at h
    cases h
    exact PSfalse fun D σ H ⟨_, _, _, _, _, _, _, _, e, _⟩ => by simp [ex] at e
  | AugAssign t o e p => simp [compS] at h
  | If t a b p =>
    simp only [compS, Option.bind_eq_some_iff] at h
    obtain ⟨t', ht, a', ha, b', hb, h⟩ := h
    cases h
    refine PSimp (ps_if (S.t d t t' ht).1 (SS.ss d a a' ha) (SS.ss d b b' hb)) ?_
    rintro D σ H ⟨α, ρ, hs, fl, ρ', hs', rs, R, e, q⟩
    simp only [ex] at e
    split at e
    · rename_i h1 e1
      refine TIT.run rs R e1 fun α1 H1 E1 R1 rs1 => ?_
      rw [if_pos rfl]
      exact TIS.run rs1 R1 e fun α2 σ2 H2 E2 R2 rs2 => q α2 σ2 H2 (E1.trans E2 R2.h) R2 rs2
    · rename_i h1 e1
      refine TIT.run rs R e1 fun α1 H1 E1 R1 rs1 => ?_
      rw [if_neg Bool.false_ne_true]
      exact TIS.run rs1 R1 e fun α2 σ2 H2 E2 R2 rs2 => q α2 σ2 H2 (E1.trans E2 R2.h) R2 rs2
    · cases e
  | While t a b p => simp [compS] at h
  | For tg it a b p =>
    cases b with
    | cons _ _ => simp [compS] at h
    | nil =>
      simp only [compS, Option.bind_eq_some_iff] at h
      obtain ⟨tg', ht, it', hi, h⟩ := h
      split at h
      case isFalse => cases h
      rename_i ok
      simp only [Option.bind_eq_some_iff] at h
      obtain ⟨a', ha, h⟩ := h
      cases h
      refine PSimp (ps_for (by rw [g.xe]; exact PassesOwn.never) g.calm (S2.w d it _ tg hi (tg_zip ht ok)) (s_tg g fl ht) (SS.ss d a a' ha) (noFold hi)) ?_
      rintro D σ H ⟨α, ρ, hs, fl, ρ', hs', rs, R, e, q⟩
      simp only [ex] at e
      obtain ⟨w, h1, e1, e⟩ := bd_some e
      refine ⟨α, ρ, hs, w, h1, rs, R, e1, fun α1 J H1 E1 R1 W1 => ?_⟩
      exact for_core rfl g.txt (rs.mono E1.pre) R1 W1 e fun α2 σ2 H2 E2 R2 rs2 => q α2 σ2 H2 (E1.trans E2 R2.h) R2 rs2
  | Assign ts e p =>
    simp only [compS] at h
    split at h
    · rename_i x ht
      obtain ⟨px, rfl⟩ := asOf_nm ht
      split at h
      case isFalse => cases h
      rename_i hl
      simp only [Option.bind_eq_some_iff] at h
      obtain ⟨i, hi, e', he, h⟩ := h
      cases h
      have fin : ∀ D σ H, TIS T A X.K (ex T cf (d + 1) (.set i e')) D σ H → TI T A X.K (ev T cf d e') σ H fun v H1 => D.nx (σ.set i (some v)) H1 := by
        rintro D σ H ⟨α, ρ, hs, fl, ρ', hs', rs, R, e, q⟩
        simp only [ex] at e
        obtain ⟨u, h1, e1, e⟩ := bd_some e
        cases e
        exact TI.run rs R e1 fun α1 x H1 E1 R1 r1 rs1 => q α1 _ H1 E1 R1 (rs1.set i r1)
      by_cases hc : ∃ elt gens scope q, e = .ListComp elt gens scope q
      · obtain ⟨elt, gens, scope, pc, rfl⟩ := hc
        obtain ⟨tg, iter, tl, xs, n, wi, gg, tt, te, rfl, ok, hi', hn', hg', ht', he', hf, imp⟩ := S2.c d elt gens scope pc e' he
        exact fun pins s σ H D I hq => ps_comp g.calm g.nd ok hi' hn' hg' ht' he' hf (by rw [g.N]; exact idx_get hi) (loc_of g hl) (fl x) pins s σ H D I (imp σ H _ I.len (fin D σ H hq))
      · exact PSimp (ps_set (i := i) g.nd (by rw [g.N]; exact idx_get hi) (loc_of g hl) (S.e d e e' he) (noSwap he fun elt gens scope q z => hc ⟨elt, gens, scope, q, z⟩) (fl x)) fin
    · rename_i o f ht
      obtain ⟨pa, rfl⟩ := asOf_at ht
      split at h
      case isFalse => cases h
      rename_i hn
      simp only [Option.bind_eq_some_iff] at h
      obtain ⟨e', he, o', ho, i, hi, h⟩ := h
      cases h
      have hk' : T.fns'[i]? = some f := by rw [← g.CT]; exact idx_get hi
      refine PSimp (ps_fld (S.e d o o' ho) (S.e d e e' he) (noSwapA he)) ?_
      rintro D σ H ⟨α, ρ, hs, fl, ρ', hs', rs, R, e, q⟩
      simp only [ex] at e
      obtain ⟨u, h1, e1, e⟩ := bd_some e
      obtain ⟨u2, h2, e2, e⟩ := bd_some e
      refine TI.run rs R e1 fun α1 x H1 E1 R1 r1 rs1 => TI.run rs1 R1 e2 fun α2 y H2 E2 R2 r2 rs2 => ?_
      split at e
      case h_2 => cases e
      rename_i n
      split at e
      case h_2 => cases e
      rename_i c fs eo
      split at e
      case isFalse => cases e
      rename_i l
      cases e
      obtain ⟨a, ha, rfl⟩ := r2
      obtain ⟨dx, fv, q1, rf, lc⟩ := R2.h.ob n a _ ha eo
      have cl := g.txt.cl c _ (List.getElem?_eq_getElem lc)
      refine ⟨a, A.c c, dx, fv, rfl, q1, cl.cls, cl.nf f (List.mem_of_getElem? hk'), by rw [← RF.length rf]; omega, ?_⟩
      obtain ⟨R', E'⟩ := R2.put (o := .ins c (putU i u fs)) (ho := .ins (A.c c) dx (putF f x fv)) ha ⟨dx, _, upd_same, RF.put hk' g.txt.fd (r1.mono E2.pre) rf, lc⟩
      exact q α2 σ _ ((E1.trans E2 R2.h).trans E' R'.h) R' rs2
    · cases h
    · rename_i x px y py ht
      obtain ⟨kt, pt, rfl⟩ := asOf_two ht
      split at h
      case isFalse => cases h
      rename_i c
      simp only [Bool.and_eq_true, decide_eq_true_eq] at c
      obtain ⟨⟨lx, ly⟩, nxy⟩ := c
      simp only [Option.bind_eq_some_iff] at h
      obtain ⟨i, hi, j, hj, h⟩ := h
      have kx : X.env.scope.names.lookup x = some .local := by rw [g.sc]; exact isLoc1_is lx
      have ky : X.env.scope.names.lookup y = some .local := by rw [g.sc]; exact isLoc1_is ly
      have ix : X.N[i]? = some x := by rw [g.N]; exact idx_get hi
      have iy : X.N[j]? = some y := by rw [g.N]; exact idx_get hj
      split at h
      · cases h
      · split at h
        case isFalse => cases h
        rename_i nt
        simp only [Option.map_eq_some_iff] at h
        obtain ⟨e', he, rfl⟩ := h
        refine PSimp (ps_asg (S.e d e e' he) (pg_tup g.calm (pgs_cons (pg_name g.nd ix (.inl kx) (.inr kx)) (pgs_cons (pg_name g.nd iy (.inl ky) (.inr ky)) pgs_nil))) (noSwapT he) (noTup_stores nt) rfl) ?_
        rintro D σ H ⟨α, ρ, hs, fl, ρ', hs', rs, R, e, q⟩
        simp only [ex] at e
        obtain ⟨u, h1, e1, e⟩ := bd_some e
        simp only [Option.map_eq_some_iff] at e
        obtain ⟨ρ2, e2, e⟩ := e
        cases e
        refine TI.run rs R e1 fun α1 v H1 E1 R1 r1 rs1 => ?_
        exact tgt_one (t := .pair i j) R1 rs1 r1 e2 fun σ2 r2 => q α1 σ2 H1 E1 R1 r2
    · cases h
  | _ => simp [compS] at h
theorem s_stmts (SS : SndS T A C X cf m) (d : Nat) (sts : List Stmt) (irs : List S) (h : compSs (m + 1) C sts = some irs) : PSs X sts (TIS T A X.K (exs T cf d irs)) := by
  cases d with
  | zero => exact PSsfalse no_exs
  | succ d =>
    cases sts with
    | nil =>
      cases h
      exact PSsimp pss_nil fun D σ H ⟨α, ρ, hs, fl, ρ', hs', rs, R, e, q⟩ => by cases e; exact q α σ H Ext.refl R rs
    | cons st r =>
      simp only [compSs, Option.bind_eq_some_iff] at h
      obtain ⟨s', hs, r', hr, h⟩ := h
      cases h
      refine PSsimp (pss_cons (SS.s d st s' hs) (SS.ss d r r' hr)) ?_
      rintro D σ H ⟨α, ρ, hs, fl, ρ', hs', rs, R, e, q⟩
      simp only [exs] at e
      split at e
      · rename_i ρ1 h1 e1
        exact TIS.run rs R e1 fun α1 σ1 H1 E1 R1 rs1 => TIS.run rs1 R1 e fun α2 σ2 H2 E2 R2 rs2 => q α2 σ2 H2 (E1.trans E2 R2.h) R2 rs2
      · rename_i n1
        refine TIS.run rs R e fun α1 σ1 H1 E1 R1 rs1 => ?_
        cases fl with
        | next => exact absurd e (n1 _ _)
        | cont => exact q α1 σ1 H1 E1 R1 rs1
        | brk => exact q α1 σ1 H1 E1 R1 rs1
        | ret u => exact q α1 σ1 H1 E1 R1 rs1
theorem sndS (g : GX T A C X) (fl : ∀ x, X.fn x = true ∨ X.env.scope.names.lookup x = some .local) (F : Fc X T A cf k) (hr : Room (k + 1) X.A) : ∀ m, SndS T A C X cf m
  | 0 => ⟨fun d st ir h => by simp [compS] at h, fun d sts irs h => by simp [compSs] at h⟩
  | m + 1 => by
    have SS := sndS g fl F hr m
    exact ⟨s_stmt g fl (snd2 m g F hr) SS, s_stmts SS⟩
end
end Iv
namespace Iv
open PySem PySem.Spec PyProof.Rows L2
structure Top (T : Tbl) (A : Adr) (K : PySem.W.Frag) (mg : Str → Option Value) (gl : List (Str × G)) (bl : List Str) : Prop where
  txt : Txt T A K mg
  gfn : ∀ x i, gl.lookup x = some (.fn i) → mg x = some (.ref (A.f i))
  gcl : ∀ x i, gl.lookup x = some (.cls i) → mg x = some (.ref (A.c i))
  gco : ∀ x k, gl.lookup x = some (.con k) → mg x = some (.ref (A.k k))
  gtx : ∀ x t, gl.lookup x = some (.txt t) → ∃ k, mg x = some (.str ⟨t.toArray⟩ k)
  blt : ∀ x, ¬ bl.contains x = false → mg x = none
def Bodies (T : Tbl) (gl : List (Str × G)) (bl : List Str) : Prop := ∀ (i : Nat) (F : Fn), T.fns[i]? = some F → ∃ m, compSs m ⟨T, F.N, (defScope F.st).names, gl, bl, F.lc⟩ (defBody F.st) = some F.body
section
variable {P : Program} {w : World} {K : PySem.W.Frag} {mg : Str → Option Value} {base : Heap} {T : Tbl} {A : Adr} {gl : List (Str × G)} {bl : List Str}
theorem start_rs {α : List Addr} {us : List U} {vs : List V} {N : List Str} {n : Nat} (r : RUs A α us vs) (hn : N.length = n) : RS A α (rho0 us n) (L2.start N vs) := by
  unfold rho0 L2.start
  have l := r.length
  refine ⟨by simp [l, hn], fun i u e => ?_⟩
  by_cases hi : i < us.length
  · rw [List.getElem?_append_left (by simpa using hi), List.getElem?_map] at e
    rw [List.getElem?_append_left (by simpa [← l] using hi), List.getElem?_map]
    cases q : us[i]? with
    | none => rw [q] at e; cases e
    | some x =>
      rw [q] at e
      cases e
      obtain ⟨v, h1, h2⟩ := r.get q
      exact ⟨v, by rw [h1]; rfl, h2⟩
  · rw [List.getElem?_append_right (by simpa using Nat.le_of_not_lt hi), List.getElem?_replicate] at e
    split at e <;> cases e
theorem callF_some {n : Nat} : ∀ f us hs r, callF T n f us hs = some r → ∃ F, T.fns[f]? = some F ∧ us.length = F.np := by
  intro f us hs r h
  cases n with
  | zero => cases h
  | succ n =>
    simp only [callF] at h
    split at h
    · cases h
    · rename_i F e
      split at h
      · rename_i l
        exact ⟨F, e, l⟩
      · cases h
theorem fn_all (tp : Top T A K mg gl bl) (tab : TabOk P w T A K) (hb : Bodies T gl bl) : ∀ n f F, T.fns[f]? = some F → ∃ fd, FnOk P w K mg base CX0 (2 * n) (A.f f) fd F.ps (spC T A K (callF T n) f) ∧ Binds K fd F.ps [] ∧ PySem.W.keepIn K (.ref (A.f f)) = true ∧ FunD K F.name F.qual F.st (A.f f) fd
  | 0, f, F, hF => by
    obtain ⟨fd, fn, b, _⟩ := tp.txt.fn f F hF
    have no : ∀ vs H Q E, ¬ spC T A K (callF T 0) f vs H Q E := fun vs H Q E h => by
      obtain ⟨α, us, hs, u, hs', _, _, e, _⟩ := h
      cases e
    exact ⟨fd, ⟨fun vs H Q E h => absurd h (no vs H Q E), fun A outer s H args us vs Q E _ _ _ _ h => absurd h (no vs H Q E)⟩, b, fn.kp, fn⟩
  | n + 1, f, F, hF => by
    obtain ⟨fd, fn, b, sc, lp, lN⟩ := tp.txt.fn f F hF
    obtain ⟨m, hm⟩ := hb f F hF
    refine ⟨fd, ?_, b, fn.kp, fn⟩
    refine fn.ok (k := 2 * n + 1) sc (fun vs H Q E h => ?_) (fun cdv A' outer s H vs Q E hr h => ?_)
    · obtain ⟨α, us, hs, u, hs', r, _, _, ⟨F', h1, h2⟩, _⟩ := h
      rw [hF] at h1
      cases h1
      rw [← r.length, h2, lp]
    · obtain ⟨α, us, hs, u, hs', r, R, e, _, q⟩ := h
      refine ⟨TIS T A K (exs T (callF T n) dd F.body), ?_, ?_⟩
      · have gx : GX T A ⟨T, F.N, (defScope F.st).names, gl, bl, F.lc⟩ (cxOf CX0 P w K mg base F.N F.qual (defScope F.st) (A.f f) cdv A' outer s H E).nox :=
          ⟨rfl, rfl, sc.nd, rfl, rfl, sc.kind, rfl, tp.gfn, tp.gcl, tp.gco, tp.gtx, tp.blt, tp.txt, tab⟩
        have fc : Fc (cxOf CX0 P w K mg base F.N F.qual (defScope F.st) (A.f f) cdv A' outer s H E).nox T A (callF T n) (2 * n) := ⟨fun f' F' h' => by
          obtain ⟨fd', G, b', kp, _⟩ := fn_all tp tab hb n f' F' h'
          exact ⟨fd', G, b', kp⟩, callF_some, fun i D F' hD h' => by
          obtain ⟨fd', G, _, kp, fn'⟩ := fn_all tp tab hb n i F' h'
          obtain ⟨fd2, x, q, st, fn2, dk, hp⟩ := tp.txt.df i D hD
          have e := FunD.same fn2 fn'
          subst e
          rw [(hp F' h').1] at G
          exact ⟨fd2, G, kp, dk⟩⟩
        exact (sndS gx (fun _ => .inl rfl) fc hr m).ss dd (defBody F.st) F.body hm
      · simp only [callF, hF] at e
        split at e
        case isFalse => cases e
        unfold fin at e
        split at e
        · rename_i u' ρ' h1 e1
          cases e
          exact TIS.run (start_rs r lN) R e1 fun α1 σ1 H1 E1 R1 rs1 v rv => q α1 v H1 E1 R1 rv
        · rename_i ρ' h1 e1
          cases e
          exact TIS.run (start_rs r lN) R e1 fun α1 σ1 H1 E1 R1 rs1 => q α1 .non H1 E1 R1 rfl
        · cases e
end
end Iv
namespace Iv
open PySem PySem.Spec PyProof.Rows L2
inductive AllI {α : Type} (P : Nat → α → Prop) : Nat → List α → Prop where
  | nil {n : Nat} : AllI P n []
  | cons {n : Nat} {a : α} {r : List α} : P n a → AllI P (n + 1) r → AllI P n (a :: r)
theorem AllI.get {α : Type} {P : Nat → α → Prop} : ∀ {n : Nat} {l : List α}, AllI P n l → ∀ i a, l[i]? = some a → P (n + i) a
  | _, _, .nil, i, a, e => by simp at e
  | n, _, .cons h t, 0, a, e => by
    simp at e
    subst e
    exact h
  | n, _, .cons h t, i + 1, a, e => by
    have := AllI.get t i a (by simpa using e)
    rw [Nat.add_assoc, Nat.add_comm 1 i] at this
    exact this
theorem AllI.mem {α : Type} {P : α → Prop} {n : Nat} {l : List α} (h : AllI (fun _ a => P a) n l) {a : α} (m : a ∈ l) : P a := by
  obtain ⟨i, e⟩ := List.getElem?_of_mem m
  exact AllI.get h i a e
theorem AllI.look {κ β : Type} [BEq κ] [LawfulBEq κ] {P : κ → β → Prop} {n : Nat} {l : List (κ × β)} (h : AllI (fun _ p => P p.1 p.2) n l) {k : κ} {b : β} (e : l.lookup k = some b) : P k b := AllI.mem (P := fun p => P p.1 p.2) h (lookup_mem e)
def gvP (A : Adr) (mg : Str → Option Value) (x : Str) : G → Prop
  | .fn i => mg x = some (.ref (A.f i))
  | .cls i => mg x = some (.ref (A.c i))
  | .con k => mg x = some (.ref (A.k k))
  | .txt t => ∃ k, mg x = some (.str ⟨t.toArray⟩ k)
section
variable {P : Program} {w : World} {K : PySem.W.Frag} {mg : Str → Option Value} {base : Heap} {T : Tbl} {A : Adr} {gl : List (Str × G)} {bl : List Str}
def CoOk (A : Adr) (K : PySem.W.Frag) (k : Nat) (c : Co) : Prop := match c with
  | Co.tup xs => ∃ vs, RUs A [] xs vs ∧ ∀ H, SqT K H (A.k k) vs
  | Co.lst xs => ∃ vs, RUs A [] xs vs ∧ ∀ H, SqL K H (A.k k) vs
  | Co.tab _ => True
theorem top_mk (fns : AllI (fun i (F : Fn) => ∃ fd, FunD K F.name F.qual F.st (A.f i) fd ∧ Binds K fd F.ps [] ∧ FnScope F.N F.ps (defScope F.st) ∧ F.ps.length = F.np ∧ F.N.length = F.nN) 0 T.fns)
    (cls : AllI (fun i C => ClOk T A K i C) 0 T.cls)
    (fm : (T.fns'.all fun x => !(T.mns.contains x)) = true) (fd : T.fns'.Nodup)
    (isi : AllI (fun _ p => PySem.W.kitOne K (tyW A p.1.1) (tyW A p.1.2) = some p.2) 0 T.isi)
    (co : AllI (CoOk A K) 0 T.cons)
    (dfs : AllI (fun _ (p : Nat × Df) => ∃ fd x q st, FunD K x q st (A.f p.1) fd ∧ DfOk A K fd p.2 ∧ ∀ F, T.fns[p.1]? = some F → F.ps = p.2.ps ∧ F.np = p.2.np) 0 T.dfl)
    (g : AllI (fun _ (p : Str × G) => gvP A mg p.1 p.2) 0 gl)
    (b : AllI (fun _ x => mg x = none) 0 bl) : Top T A K mg gl bl where
  txt := {
    fn := fun i F e => by simpa using fns.get i F e
    df := fun i D e => AllI.look (P := fun i (D : Df) => ∃ fd x q st, FunD K x q st (A.f i) fd ∧ DfOk A K fd D ∧ ∀ F, T.fns[i]? = some F → F.ps = D.ps ∧ F.np = D.np) dfs e
    cl := fun i C e => by simpa using cls.get i C e
    fm := fun x m n => by
      have := List.all_eq_true.mp fm x m
      simp at this
      exact this n
    fd := fd
    isi := fun k t b e => AllI.look (P := fun (q : Ty × Ty) b => PySem.W.kitOne K (tyW A q.1) (tyW A q.2) = some b) isi e
    co := fun k c e => by
      have := co.get k c e
      simp only [Nat.zero_add] at this
      exact this }
  gfn := fun x i e => AllI.look (P := fun x (q : G) => gvP A mg x q) g e
  gcl := fun x i e => AllI.look (P := fun x (q : G) => gvP A mg x q) g e
  gco := fun x i e => AllI.look (P := fun x (q : G) => gvP A mg x q) g e
  gtx := fun x i e => AllI.look (P := fun x (q : G) => gvP A mg x q) g e
  blt := fun x h => by
    have : bl.contains x = true := by cases q : bl.contains x with | true => rfl | false => exact absurd q h
    exact AllI.mem (P := fun x => mg x = none) b (by simpa using this)
theorem cl_mk {i : Nat} {C : Cl} (c : Cls K (A.c i)) (nf : AllI (fun _ x => NoAttr K (A.c i) x) 0 T.fns')
    (me : AllI (fun _ (p : Nat × Nat) => ∃ x, T.mns[p.1]? = some x ∧ Meth K (A.c i) x (A.f p.2)) 0 C.meths)
    (mks : PySem.W.makesIn K (A.c i) = true) (kp : PySem.W.keepIn K (.ref (A.c i)) = true)
    (ini : match C.init with
    | some f => PySem.W.findIn K (.ref (A.c i)) "__init__" = some (some (.ref (A.f f))) ∧ PySem.W.isFn K (.ref (A.f f)) = true
    | none => PySem.W.findIn K (.ref (A.c i)) "__init__" = some (some (.builtin "object.__init__")))
    (ha : PySem.W.findIn K (.ref (A.c i)) "__class__" = some (some (.builtin "object.__class__")))
    (hn : PySem.W.specialIn K (.builtin "object.__class__") "__get__" = some (some (.builtin "getset_descriptor.__get__"))) (htk : PySem.W.takesIn K (.builtin "object.__class__") = some true)
    (hm : PySem.W.mroIn K (A.c i) (.type "object") = some true) : ClOk T A K i C where
  cls := c
  nf := fun x m => AllI.mem nf m
  me := fun m f e => AllI.look (P := fun m f => ∃ x, T.mns[m]? = some x ∧ Meth K (A.c i) x (A.f f)) me e
  mks := mks
  kp := kp
  ini := ini
  ty := fun H a dx fs e => .ins e c ha hn htk hm
theorem tab_mk {k : Addr} {o : Obj} {es : Array DictEntry} {ep : Nat} {vs : List (Key × Value)} (hk : K.lookup k = some o) (ex : o.ExactDict) (hd : o.data = .dict es ep)
    (ks : AllI (fun _ (e : DictEntry) => ∃ q : Key, keyIs q e.key = true ∧ e.hash = keyH w q) 0 es.toList) (pr : Pairs (mixKind P w) es.toList vs) (nd : (vs.map (·.1)).Nodup) :
    ∀ h : Heap, K.In h → h.DictOf (mixKind P w) k vs := fun h X => ⟨o, es, ep, X k o hk, ex, hd, fun e m => AllI.mem (P := fun (e : DictEntry) => ∃ q : Key, keyIs q e.key = true ∧ e.hash = keyH w q) ks (by simpa using m), pr, nd⟩
theorem bodies_mk (h : AllI (fun _ (F : Fn) => compSs 100 ⟨T, F.N, (defScope F.st).names, gl, bl, F.lc⟩ (defBody F.st) = some F.body) 0 T.fns) : Bodies T gl bl := fun i F e => ⟨100, h.get i F e⟩
theorem tv {x : Str} {y : List Nat} {t : Tok} (h : x.cps.toList = y) : ∃ v, RU A [] (.str y) v ∧ RelV v (.str x t) := by
  subst h
  exact ⟨.str x, rfl, ⟨t, rfl⟩⟩
def spLaw (K : PySem.W.Frag) : Sp := fun vs H Q _ => ∃ (a : Addr) (ns : List Int), vs = [.ref a] ∧ SqL K H a (ns.map V.int) ∧ Only H ∧ ns.length ≤ 63 ∧ ∀ H', Q (.bl true) H'
def Abs : U → Int → Prop := fun u i => ∃ r m, u = .int r m ∧ Cg i r m
theorem Abs.rus : ∀ {s : List U} {ns : List Int}, Paired Abs s ns → RUs A [] s (ns.map V.int)
  | _, _, .nil => .nil
  | _, _, .cons (b := i) ⟨r, m, e, c⟩ t => .cons (by subst e; exact ⟨i, rfl, c⟩) (Abs.rus t)
theorem funD_mk {x qual : Str} {st : Stmt} {f : Addr} {oc : Value} {od an : Option Addr} {osl : Array (Option Value)} {dV kV doc pm cdv ct : Value} (l : K.lookup f = some ⟨oc, od, .func (PySem.W.fnOf x qual (defArgs st) (defBody st) (defScope st) dV kV doc pm an cdv ct), osl⟩)
    (c : PySem.W.codeIn K cdv qual = true) (k : PySem.W.keepIn K (.ref f) = true) : FunD K x qual st f (PySem.W.fnOf x qual (defArgs st) (defBody st) (defScope st) dV kV doc pm an cdv ct) := ⟨⟨oc, od, dV, kV, doc, pm, an, cdv, ct, osl, rfl, l, c⟩, k⟩
theorem bindsD {x qual : Str} {st : Stmt} {f : Addr} {fd : FuncData} {ps : List Str} (F : FunD K x qual st f fd) (h : ∀ us : List Value, us.length = ps.length → bindArgs fd ⟨us, []⟩ = pure (ps.zip us)) : Binds K fd ps [] := .all h
theorem law_ok {tb : List U → Tbl} {adr : Addr → Adr} {L n : Nat} {F : Fn} {x : Str} {fd : FuncData} (hF : ∀ s, (tb s).fns[L]? = some F) (hs : ∀ s, (tb s).scr = s) (hps : F.ps = [x]) (hnp : F.np = 1)
    (hA : ∀ a, (adr a).s = a) (hf : ∀ a, (adr a).f = (adr 0).f)
    (tp : ∀ s a, Top (tb s) (adr a) K mg gl bl) (tab : ∀ s a, TabOk P w (tb s) (adr a) K) (hb : ∀ s, Bodies (tb s) gl bl)
    (hfun : FunD K F.name F.qual F.st ((adr 0).f L) fd)
    (comp : ∀ ns : List Int, ns.length ≤ 63 → ∃ s hs', Paired Abs s ns ∧ callF (tb s) n L [.scr] [] = some (.bl true, hs')) :
    FnOk P w K mg base CX0 (2 * n) ((adr 0).f L) fd [x] (spLaw K) := by
  refine ⟨fun vs H Q E ⟨a, ns, h, _⟩ => by rw [h]; rfl, fun A0 outer s H args us vs Q E hr e0 hbd rel ⟨a, ns, h, hS, hO, hl, q⟩ => ?_⟩
  obtain ⟨sc, hs', pr, hc⟩ := comp ns hl
  obtain ⟨fd', G, _, _, hfun'⟩ := fn_all (base := base) (tp sc a) (tab sc a) (hb sc) n L F (hF sc)
  rw [hf a] at G hfun'
  have ef := FunD.same hfun hfun'
  subst ef
  rw [hps] at G
  refine G.run A0 outer s H args us vs Q E hr e0 hbd rel ?_
  subst h
  refine ⟨[], [.scr], [], .bl true, hs', .cons (show V.ref a = V.ref (adr a).s by rw [hA]) .nil, ⟨⟨rfl, .nil, fun n b o e _ => by simp at e⟩, ns.map V.int, by rw [hs]; exact Abs.rus pr, ?_⟩, hc, ⟨F, hF sc, hnp.symm⟩, fun α' v H' _ _ rv => ?_⟩
  · rw [hA]
    rcases hS with (h | ⟨o, h⟩) | h
    · rcases hO a with z | ⟨o, xs, z⟩
      · rw [h] at z; cases z
      · rw [h] at z; cases z
    · exact .inl ⟨o, h⟩
    · exact .inr h
  · have : v = .bl true := rv
    subst this
    exact q H'
end
end Iv
namespace Iv
open PySem PySem.W PySem.Spec PyProof.Rows
noncomputable def topRunT (tb : String → Option Builtin) (p : Program) (w : World) (n₀ : Nat) (ann : Option Value) : Nat → SharedT → Thread → Option SharedT
  | 0, _, _ => none
  | n + 1, s, t => match through t with
    | true => some s
    | false => match stepOk n₀ ann t with
      | false => none
      | true => match stepT (denote tb) p w s t with
        | some (s', t') => topRunT tb p w n₀ ann n s' t'
        | none => none
theorem topRun_of {tb : String → Option Builtin} {p : Program} {w : World} {n₀ : Nat} {ann : Option Value} : ∀ {n : Nat} {s s' : SharedT} {t : Thread}, topRunT tb p w n₀ ann n s t = some s' → topRun tb p w n₀ ann n s.abs t = some s'.abs
  | 0, _, _, _, h => by cases h
  | n + 1, s, s', t, h => by
    unfold topRunT at h
    unfold topRun
    cases he : through t with
    | true => rw [he] at h; cases h; rfl
    | false =>
      rw [he] at h
      cases hk : stepOk n₀ ann t with
      | false => rw [hk] at h; cases h
      | true =>
        rw [hk] at h
        cases hs : stepT (denote tb) p w s t with
        | none => rw [hs] at h; cases h
        | some r => obtain ⟨s₂, t₂⟩ := r; rw [hs] at h; rw [stepT_spec hs]; exact topRun_of h
structure BootT where
  t : Params → BT
  n : Nat
  life : Life
noncomputable def BootT.at (B : BootT) (w : World) (os : OsState) : SharedT := ⟨B.t w.params, B.n, B.life, Array.mk [], boot_drawn, boot_toks, os⟩
abbrev RunT (p q : Program) (loose : List Str) (Xt : Shared → Bool) {α : Type} (Yf : Shared → α) (Ya : World → α) (N : Nat) (g0 : Bool) (B : BootT) (m₀ : Nat) (ann : Option Value) (w : World) : Prop :=
  ∀ os : OsState, (topRunT treeTable p w m₀ ann N (B.at w os) (topStub p)).map (fun s => ((staticsOk (importedModules p.main.body) (boot_heap w.params) s.abs.heap && namesBound p s.abs.heap && gensDone s.abs && laidKept (boot_heap w.params) s.abs.heap), openSeen q loose (importedModules p.main.body) Xt g0 s.abs, Yf s.abs)) = some (true, openGood q loose, Ya w)
theorem left_tree {p q : Program} {loose : List Str} {Xt : Shared → Bool} {α : Type} {Yf : Shared → α} {Ya : World → α} {N : Nat} {g0 : Bool} {B : BootT} {m₀ : Nat} {ann : Option Value}
    (op : opening p = plainProg p.main.scope.names) (hN : Nat.ble 600 N = true) (fm : ∀ s, fenceModules? p s = some s)
    (hB : ∀ w : World, absHeap (B.t w.params) B.n B.life = boot_heap w.params)
    (size : ∀ w : World, ((boot_heap w.params).isNs mainGlobals, (boot_heap w.params).objs.size, (boot_heap w.params).nsMap mainGlobals "__annotations__") = (true, m₀, ann))
    (run : ∀ w, RunT p q loose Xt Yf Ya N g0 B m₀ ann w) : LeftO p q loose Xt Yf Ya N g0 := fun w => by
  obtain ⟨⟨h, gs, d, k, os⟩, e, e'⟩ := Option.map_eq_some_iff.mp (boot_open (N := N) op hN fm w)
  obtain ⟨rfl, rfl, rfl, rfl⟩ : h = boot_heap w.params ∧ gs = Array.mk [] ∧ d = boot_drawn ∧ k = boot_toks := by simpa using e'
  obtain ⟨z1, z2, z3⟩ : _ ∧ _ ∧ _ := by simpa only [Prod.mk.injEq] using size w
  obtain ⟨s1, r, l⟩ := Option.map_eq_some_iff.mp (run w os)
  obtain ⟨l1, l2, l3⟩ : _ ∧ _ ∧ _ := by simpa only [Prod.mk.injEq] using l
  have r := topRun_of r
  have ab : (B.at w os).abs = ⟨boot_heap w.params, Array.mk [], boot_drawn, boot_toks, os⟩ := by
    unfold BootT.at SharedT.abs
    rw [hB w]
  rw [ab] at r
  have t : topFrom treeTable p w N ⟨boot_heap w.params, Array.mk [], boot_drawn, boot_toks, os⟩ = some s1.abs := by
    unfold topFrom
    dsimp only
    rw [z1, z2, z3, r]
    show (match staticsOk (importedModules p.main.body) (boot_heap w.params) s1.abs.heap && namesBound p s1.abs.heap && gensDone s1.abs && laidKept (boot_heap w.params) s1.abs.heap with | true => _ | false => _) = _
    rw [l1]
  unfold openEnds
  rw [e]
  show (topFrom treeTable p w N _).map _ = _
  rw [t]
  exact congrArg some (Prod.ext l2 l3)
section
variable (p q : Program) (loose : List Str) (Xt : Shared → Bool) (N : Nat) (g0 : Bool) (B : BootT) (m₀ : Nat) (ann : Option Value)
noncomputable abbrev TopT (w : World) (os : OsState) : Option SharedT := topRunT treeTable p w m₀ ann N (B.at w os) (topStub p)
abbrev PC (as : List Addr) (bs : List (Option Obj)) (w : World) : Prop := ∀ os : OsState, (TopT p N B m₀ ann w os).map (fun s => as.map fun a => s.abs.heap.get? a) = some bs
variable {p q loose Xt N g0 B m₀ ann}
abbrev PL (p q : Program) (loose : List Str) (Xt : Shared → Bool) (N : Nat) (g0 : Bool) (B : BootT) (m₀ : Nat) (ann : Option Value) (w : World) : Prop := ∀ os : OsState, (TopT p N B m₀ ann w os).map (fun s => ((staticsOk (importedModules p.main.body) (boot_heap w.params) s.abs.heap && namesBound p s.abs.heap && gensDone s.abs && laidKept (boot_heap w.params) s.abs.heap), openSeen q loose (importedModules p.main.body) Xt g0 s.abs)) = some (true, openGood q loose)
theorem run_three {σ α β γ : Type} {x : Option σ} {f : σ → α} {g : σ → β} {h : σ → γ} {a : α} {b : β} {c : γ} (h1 : x.map (fun s => (f s, g s)) = some (a, b)) (h2 : x.map h = some c) : x.map (fun s => (f s, g s, h s)) = some (a, b, c) := by
  cases x with
  | none => cases h1
  | some s =>
    simp only [Option.map_some, Option.some.injEq, Prod.mk.injEq] at h1 h2 ⊢
    exact ⟨h1.1, h1.2, h2⟩
theorem parts_run2 {as : List Addr} {Ya : World → List (Option Obj)} {w : World} (l : PL p q loose Xt N g0 B m₀ ann w) (c : PC p N B m₀ ann as (Ya w) w) :
    RunT p q loose Xt (fun s => as.map s.heap.get?) Ya N g0 B m₀ ann w := fun os => run_three (l os) (c os)
end
abbrev PX (p : Program) (N : Nat) (B : BootT) (m₀ : Nat) (ann : Option Value) {α : Type} (f : Shared → α) (a : α) (w : World) : Prop := ∀ os : OsState, (TopT p N B m₀ ann w os).map (fun s => f s.abs) = some a
abbrev f1 (q : Program) (s : Shared) := seen ((recsOf q).map (·.name)) (ownsOf q) [] { s with gens := #[] }
abbrev f2 (s : Shared) := s.heap.bltView
abbrev f3 (q : Program) (loose : List Str) (s : Shared) : Bool := s.heap.keysOk (looseW q loose) ((recsOf q).map (·.name)) ((litsOf q).map (·.1)) ((clssOf q (looseW q loose)).map (·.name))
abbrev f4 (q : Program) (mods : List Str) (Xt : Shared → Bool) (g0 : Bool) (s : Shared) : Bool := s.heap.accountedOkI mods && s.heap.isNs mainGlobals && s.heap.isNs builtinsNs && tablesOk q s.heap && Xt s && (if g0 then s.gens.size == 0 else !leftWithCleanup s.gens)
abbrev f5 (q : Program) (s : Shared) : Bool := tabsOk q s
abbrev f6 (q : Program) (loose : List Str) (s : Shared) := (pinSeenD q (drecsOf q) s, plainSeenE q (looseW q loose) s, plainSeenD q loose s)
abbrev f7 (q : Program) (loose : List Str) (s : Shared) := (wideSeen q s, clsSeenW q loose s)
noncomputable abbrev fA (p : Program) (w : World) (s : Shared) : Bool := staticsOk (importedModules p.main.body) (boot_heap w.params) s.heap && namesBound p s.heap && gensDone s && laidKept (boot_heap w.params) s.heap
noncomputable abbrev Lk1 (p q : Program) (N : Nat) (B : BootT) (m₀ : Nat) (ann : Option Value) (w : World) : Prop := PX p N B m₀ ann (fun s => (fA p w s, f1 q s, f2 s)) (true, expectedOf q, bltViewBooted) w
abbrev Lk2 (p q : Program) (loose : List Str) (Xt : Shared → Bool) (N : Nat) (g0 : Bool) (B : BootT) (m₀ : Nat) (ann : Option Value) (w : World) : Prop := PX p N B m₀ ann (fun s => (f3 q loose s, f4 q (importedModules p.main.body) Xt g0 s, f5 q s, f6 q loose s, f7 q loose s)) (true, true, true, (pinGoodD (drecsOf q), plainGoodE q (looseW q loose), plainGoodD q loose), (wideGood q, clsGoodW q loose)) w
noncomputable abbrev Lk3 (p q : Program) (loose : List Str) (N : Nat) (B : BootT) (m₀ : Nat) (ann : Option Value) (w : World) : Prop := PX p N B m₀ ann (fun s => (f3 q loose s, f5 q s)) (true, true) w
noncomputable abbrev Lk5 (p q : Program) (Xt : Shared → Bool) (N : Nat) (g0 : Bool) (B : BootT) (m₀ : Nat) (ann : Option Value) (w : World) : Prop := PX p N B m₀ ann (f4 q (importedModules p.main.body) Xt g0) true w
noncomputable abbrev Lk4 (p q : Program) (loose : List Str) (N : Nat) (B : BootT) (m₀ : Nat) (ann : Option Value) (w : World) : Prop := PX p N B m₀ ann (fun s => (f6 q loose s, f7 q loose s)) ((pinGoodD (drecsOf q), plainGoodE q (looseW q loose), plainGoodD q loose), (wideGood q, clsGoodW q loose)) w
end Iv
namespace Iv
open PySem
section
variable {T : Tbl} {cf : Cf} {d : Nat} {ρ : Rho} {hs h1 : Hs} {α β : Type}
theorem y_bd {a : α} {f : α → Hs → Option β} : bd (some (a, h1)) f = f a h1 := rfl
theorem y_nil : exs T cf (d + 1) [] ρ hs = some (.next, ρ, hs) := by rw [exs]
theorem y_cons {s : S} {r : List S} : exs T cf (d + 1) (s :: r) ρ hs = (match ex T cf d s ρ hs with
      | some (.next, ρ1, h1) => exs T cf d r ρ1 h1
      | x => x) := by rw [exs] <;> rfl
theorem y_expr {e : E} : ex T cf (d + 1) (.expr e) ρ hs = bd (ev T cf d e ρ hs) fun _ h1 => some (.next, ρ, h1) := by rw [ex]
theorem y_set {i : Nat} {e : E} : ex T cf (d + 1) (.set i e) ρ hs = bd (ev T cf d e ρ hs) fun u h1 => some (.next, ρ.set i (some u), h1) := by rw [ex]
theorem y_ret {e : E} : ex T cf (d + 1) (.ret e) ρ hs = bd (ev T cf d e ρ hs) fun u h1 => some (.ret u, ρ, h1) := by rw [ex]
theorem y_ite {t : E} {a b : List S} : ex T cf (d + 1) (.ite t a b) ρ hs = bd (evT T cf d t ρ hs) fun c h1 => if c = true then exs T cf d a ρ h1 else exs T cf d b ρ h1 := by
  rw [ex]
  cases h : evT T cf d t ρ hs with
  | none => rfl
  | some p => obtain ⟨c, h1⟩ := p; cases c <;> rfl
theorem y_loop {t : Tg} {s : Src} {body : List S} : ex T cf (d + 1) (.loop t s body) ρ hs = bd (srcU T (ev T cf d) ρ s hs) fun w h1 => forU T w t (exs T cf d body) (turns T w h1) 0 ρ h1 := by rw [ex]
theorem y_put {o i e : E} : ex T cf (d + 1) (.put o i e) ρ hs = bd (ev T cf d e ρ hs) fun u h1 => bd (ev T cf d o ρ h1) fun x h2 => bd (ev T cf d i ρ h2) fun k h3 => (putI x k u h3).map fun h4 => (.next, ρ, h4) := by rw [ex]
theorem y_c {u : U} : ev T cf (d + 1) (.c u) ρ hs = some (u, hs) := by rw [ev]
theorem y_con {k : Nat} : ev T cf (d + 1) (.con k) ρ hs = some (.con k, hs) := by rw [ev]
theorem y_var {i : Nat} : ev T cf (d + 1) (.var i) ρ hs = (match ρ[i]? with | some (some u) => some (u, hs) | _ => none) := by rw [ev] <;> rfl
theorem y_op {o : Operator} {a b : E} : ev T cf (d + 1) (.op o a b) ρ hs = bd (ev T cf d a ρ hs) fun u h1 => bd (ev T cf d b ρ h1) fun w h2 => opU o u w h2 := by rw [ev]
theorem y_neg {a : E} : ev T cf (d + 1) (.neg a) ρ hs = bd (ev T cf d a ρ hs) fun u h1 => (match u with | .int i m => some (.int (-i) m, h1) | _ => none) := by rw [ev] <;> rfl
theorem y_cmp {o : CmpOp} {a b : E} : ev T cf (d + 1) (.cmp o a b) ρ hs = bd (ev T cf d a ρ hs) fun u h1 => bd (ev T cf d b ρ h1) fun w h2 => (cmpU T o u w h2).map fun c => (.bl c, h2) := by rw [ev]
theorem y_not {a : E} : ev T cf (d + 1) (.not a) ρ hs = bd (ev T cf d a ρ hs) fun u h1 => (truU T u h1).map fun c => (.bl (!c), h1) := by rw [ev]
theorem y_ife {t a b : E} : ev T cf (d + 1) (.ife t a b) ρ hs = bd (evT T cf d t ρ hs) fun c h1 => if c = true then ev T cf d a ρ h1 else ev T cf d b ρ h1 := by rw [ev]
theorem y_tup {es : List E} : ev T cf (d + 1) (.tup es) ρ hs = bd (evs (ev T cf d) ρ es hs) fun us h1 => some (.ref h1.length, h1 ++ [.tup us]) := by rw [ev]
theorem y_lst {es : List E} : ev T cf (d + 1) (.lst es) ρ hs = bd (evs (ev T cf d) ρ es hs) fun us h1 => some (.ref h1.length, h1 ++ [.lst us]) := by rw [ev]
theorem y_ix {a b : E} : ev T cf (d + 1) (.ix a b) ρ hs = bd (ev T cf d a ρ hs) fun u h1 => bd (ev T cf d b ρ h1) fun w h2 => (subU T u w h2).map fun x => (x, h2) := by rw [ev]
theorem y_sl {a : E} {lo hi : Option E} : ev T cf (d + 1) (.sl a lo hi) ρ hs = bd (ev T cf d a ρ hs) fun u h1 => bd (evO (ev T cf d) ρ lo h1) fun l h2 => bd (evO (ev T cf d) ρ hi h2) fun r h3 => slU T u l r h3 := by rw [ev]
theorem y_call {f : Nat} {es : List E} : ev T cf (d + 1) (.call f es) ρ hs = bd (evs (ev T cf d) ρ es hs) fun us h1 => cf f us h1 := by rw [ev]
theorem y_bi {b : Bi} {es : List E} : ev T cf (d + 1) (.bi b es) ρ hs = bd (evs (ev T cf d) ρ es hs) fun us h1 => biU T b us h1 := by rw [ev]
theorem y_isi {a : E} {t : Ty} : ev T cf (d + 1) (.isi a t) ρ hs = bd (ev T cf d a ρ hs) fun u h1 => (isiU T t u h1).map fun b => (.bl b, h1) := by rw [ev]
theorem y_bm {b : Bm} {o : E} {es : List E} : ev T cf (d + 1) (.bm b o es) ρ hs = bd (ev T cf d o ρ hs) fun u h1 => if rcvU b u h1 = true then bd (evs (ev T cf d) ρ es h1) fun us h2 => bmU T b u us h2 else none := by rw [ev]
theorem y_comp {s : Src} {b : Bool} {t : Option E} {el : E} : ev T cf (d + 1) (.comp s b t el) ρ hs = bd (srcU T (ev T cf d) ρ s hs) fun w h1 => bd (compU T (ev T cf d) (evTO (evT T cf d) t) w b el ρ (turns T w h1) 0 [] h1) fun us h2 => some (.ref h2.length, h2 ++ [.lst us]) := by rw [ev]
theorem y_chain {o o' : CmpOp} {a b c : E} : ev T cf (d + 1) (.chain o o' a b c) ρ hs = bd (ev T cf d a ρ hs) fun u h1 => bd (ev T cf d b ρ h1) fun w h2 => (match cmpU T o u w h2 with
      | some true => bd (ev T cf d c ρ h2) fun x h3 => (cmpU T o' w x h3).map fun k => (.bl k, h3)
      | some false => some (.bl false, h2)
      | none => none) := by rw [ev] <;> rfl
theorem y_and {a b : E} : ev T cf (d + 1) (.and a b) ρ hs = bd (ev T cf d a ρ hs) fun u h1 => (match u with | .bl true => ev T cf d b ρ h1 | .bl false => some (.bl false, h1) | _ => none) := by rw [ev] <;> rfl
theorem y_or {a b : E} : ev T cf (d + 1) (.or a b) ρ hs = bd (ev T cf d a ρ hs) fun u h1 => (match u with | .bl true => some (.bl true, h1) | .bl false => ev T cf d b ρ h1 | _ => none) := by rw [ev] <;> rfl
theorem y_aug {i : Nat} {o : Operator} {e : E} : ex T cf (d + 1) (.aug i o e) ρ hs = (match ρ[i]? with
      | some (some u) => bd (ev T cf d e ρ hs) fun w h1 => (augU o u w).map fun r => (.next, ρ.set i (some r), h1)
      | _ => none) := by rw [ex] <;> rfl
theorem y_unp {i j : Nat} {e : E} : ex T cf (d + 1) (.unp i j e) ρ hs = bd (ev T cf d e ρ hs) fun u h1 => (tgt (.pair i j) (.one u) ρ h1).map fun ρ' => (.next, ρ', h1) := by rw [ex]
theorem y_par {i j : Nat} {a b : E} : ex T cf (d + 1) (.par i j a b) ρ hs = bd (ev T cf d a ρ hs) fun u h1 => bd (ev T cf d b ρ h1) fun w h2 => some (.next, (ρ.set i (some u)).set j (some w), h2) := by rw [ex]
theorem y_dnew : ev T cf (d + 1) .dnew ρ hs = some (.ref hs.length, hs ++ [.dic []]) := by rw [ev]
theorem y_Tnot {a : E} : evT T cf (d + 1) (.not a) ρ hs = bd (evT T cf d a ρ hs) fun c h1 => some (!c, h1) := by rw [evT]
theorem y_Tand {a b : E} : evT T cf (d + 1) (.and a b) ρ hs = bd (evT T cf d a ρ hs) fun c h1 => if c = true then evT T cf d b ρ h1 else some (false, h1) := by rw [evT]
theorem y_Tor {a b : E} : evT T cf (d + 1) (.or a b) ρ hs = bd (evT T cf d a ρ hs) fun c h1 => if c = true then some (true, h1) else evT T cf d b ρ h1 := by rw [evT]
theorem y_Tcmp {o : CmpOp} {a b : E} : evT T cf (d + 1) (.cmp o a b) ρ hs = bd (ev T cf d (.cmp o a b) ρ hs) fun u h1 => (truU T u h1).map fun c => (c, h1) := by rw [evT] <;> simp
theorem y_Tvar {i : Nat} : evT T cf (d + 1) (.var i) ρ hs = bd (ev T cf d (.var i) ρ hs) fun u h1 => (truU T u h1).map fun c => (c, h1) := by rw [evT] <;> simp
theorem y_Tisi {a : E} {t : Ty} : evT T cf (d + 1) (.isi a t) ρ hs = bd (ev T cf d (.isi a t) ρ hs) fun u h1 => (truU T u h1).map fun c => (c, h1) := by rw [evT] <;> simp
theorem y_Tcall {f : Nat} {es : List E} : evT T cf (d + 1) (.call f es) ρ hs = bd (ev T cf d (.call f es) ρ hs) fun u h1 => (truU T u h1).map fun c => (c, h1) := by rw [evT] <;> simp
theorem y_rngA {f : Ev} {es : List E} {i j c : Int} (h : evs f ρ es hs = some ([.int i 0, .int j 0, .int c 0], h1)) (c1 : (small64 (i * 16) && small64 (j * 16) && decide (0 < c) && decide (c < 1073741824)) = true) : srcU T f ρ (.rngA es) hs = some (.rngC i c (rngCU i j c), h1) := by
  simp only [srcU, h, y_bd, c1, if_true]
theorem y_callF {n f : Nat} {us : List U} (F : Fn) (hF : T.fns[f]? = some F) (hl : us.length = F.np) : callF T (n + 1) f us hs = fin (exs T (callF T n) dd F.body (rho0 us F.nN) hs) := by simp [callF, hF, hl]
end
end Iv
namespace K20
open PySem Iv L2
def top (i : Nat) : Stmt := PySem.Challenge.pw_stitchroom_k20_unrolled.main.body.getD i (.Pass ⟨0, 0, 0, 0⟩)
def fldN : List Str := ["side", "many", "way", "first", "second", "keeper"]
def mthN : List Str := ["ties", "ends", "takes", "gives", "mark", "mirrored", "turned"]
def glo : List (Str × G) := ([("SIDE_SIGNS", .con 0), ("CROSS_SIGNS", .con 1), ("Stitch", .cls 0), ("Plain", .cls 1), ("Slip", .cls 2), ("Over", .cls 3), ("Lean", .cls 4), ("Grow", .cls 5), ("Cross", .cls 6), ("Off", .cls 7), ("Keep", .cls 8), ("Fetch", .cls 9), ("worth", .fn 15), ("unrolled", .fn 16), ("unrolled_often", .fn 17), ("_law_cell_at", .fn 18), ("_law_stitch", .fn 19), ("_law_sum", .fn 20), ("_law_often", .fn 21), ("_law_joined", .fn 22)] : List (Str × G)) ++ ([("_law_marks", .fn 23), ("_law_one", .fn 24), ("_law_drawn", .fn 25), ("_law_as_told", .fn 26), ("law", .fn 27)] : List (Str × G))
def bltN : List Str := ["len", "str", "tuple", "list", "isinstance", "range", "zip", "sum", "max", "min"]
def conL : List Co := [.tab [(.int 1 0, .str [107]), (.int (-1) 0, .str [112])], .tab [(.int 1 0, .str [99]), (.int (-1) 0, .str [113])]]
def clsL : List Cl := [⟨"Stitch", none, [], [0]⟩, ⟨"Plain", some 0, [(4, 1)], [1, 0]⟩, ⟨"Slip", none, [(4, 2)], [2, 0]⟩, ⟨"Over", none, [(4, 3)], [3, 0]⟩, ⟨"Lean", some 4, [(4, 5)], [4, 0]⟩, ⟨"Grow", some 6, [(4, 7)], [5, 0]⟩, ⟨"Cross", some 8, [(4, 9)], [6, 0]⟩, ⟨"Off", none, [(4, 10)], [7, 0]⟩, ⟨"Keep", some 11, [(4, 12)], [8, 0]⟩, ⟨"Fetch", some 13, [(4, 14)], [9, 0]⟩]
def isiL : List ((Ty × Ty) × Bool) := []
abbrev st0 : Stmt := inClass (top 5) 0
def N0 : List Str := ["self", "side"]
abbrev st1 : Stmt := inClass (top 5) 4
def N1 : List Str := ["self"]
abbrev st2 : Stmt := inClass (top 6) 3
def N2 : List Str := ["self"]
abbrev st3 : Stmt := inClass (top 7) 3
def N3 : List Str := ["self"]
abbrev st4 : Stmt := inClass (top 8) 0
def N4 : List Str := ["self", "many", "way", "side"]
abbrev st5 : Stmt := inClass (top 8) 4
def N5 : List Str := ["self"]
abbrev st6 : Stmt := inClass (top 9) 0
def N6 : List Str := ["self", "many", "side"]
abbrev st7 : Stmt := inClass (top 9) 4
def N7 : List Str := ["self"]
abbrev st8 : Stmt := inClass (top 10) 0
def N8 : List Str := ["self", "first", "second", "way", "side"]
abbrev st9 : Stmt := inClass (top 10) 4
def N9 : List Str := ["self"]
abbrev st10 : Stmt := inClass (top 11) 3
def N10 : List Str := ["self"]
abbrev st11 : Stmt := inClass (top 12) 0
def N11 : List Str := ["self", "keeper"]
abbrev st12 : Stmt := inClass (top 12) 4
def N12 : List Str := ["self"]
abbrev st13 : Stmt := inClass (top 13) 0
def N13 : List Str := ["self", "keeper"]
abbrev st14 : Stmt := inClass (top 13) 4
def N14 : List Str := ["self"]
abbrev st15 : Stmt := top 15
def N15 : List Str := ["one", "choice"]
abbrev st16 : Stmt := top 17
def N16 : List Str := ["parts", "choice", "stitches", "part"]
abbrev st17 : Stmt := top 18
def N17 : List Str := ["parts", "often", "choice", "once"]
abbrev st18 : Stmt := top 20
def N18 : List Str := ["_law_script", "_law_k"]
abbrev st19 : Stmt := top 21
def N19 : List Str := ["_law_cell", "_law_keepers", "_law_number", "_law_side"]
abbrev st20 : Stmt := top 22
def N20 : List Str := ["_law_cell"]
abbrev st21 : Stmt := top 23
def N21 : List Str := ["_law_one_here", "_law_choice", "_law_found", "_law_k"]
abbrev st22 : Stmt := top 24
def N22 : List Str := ["_law_lists", "_law_found", "_law_some"]
abbrev st23 : Stmt := top 25
def N23 : List Str := ["_law_parts", "_law_found", "_law_part"]
abbrev st24 : Stmt := top 26
def N24 : List Str := ["_law_cell"]
abbrev st25 : Stmt := top 27
def N25 : List Str := ["_law_cells", "_law_choice", "_law_parts", "_law_marks_here", "_law_deep", "_law_cell", "_law_many", "_law_often_here", "_law_one_here", "_law_at", "_law_inner", "_law_size"]
abbrev st26 : Stmt := top 28
def N26 : List Str := ["_law_found", "_law_marks_here", "_law_k"]
abbrev st27 : Stmt := top 29
def N27 : List Str := ["_law_script", "_law_choice", "_law_parts", "_law_marks_here", "_law_handed", "_law_chosen", "_law_kept", "_law_found"]
def dflL : List (Nat × Df) := []
def b0 : List S := [(.fld (.var 0) 0 (.var 1))]
def b1 : List S := [(.ret (.tab 0 (.fld (.var 0) 0)))]
def b2 : List S := [(.ret (.c (.str [115])))]
def b3 : List S := [(.ret (.c (.str [111])))]
def b4 : List S := [(.fld (.var 0) 1 (.var 1)), (.fld (.var 0) 2 (.var 2)), (.fld (.var 0) 0 (.var 3))]
def b5 : List S := [(.ret (.op .Add (.op .Add (.tab 0 (.fld (.var 0) 0)) (.bi .str [(.fld (.var 0) 1)])) (.fld (.var 0) 2)))]
def b6 : List S := [(.fld (.var 0) 1 (.var 1)), (.fld (.var 0) 0 (.var 2))]
def b7 : List S := [(.ret (.op .Add (.op .Add (.tab 0 (.fld (.var 0) 0)) (.c (.str [120]))) (.bi .str [(.fld (.var 0) 1)])))]
def b8 : List S := [(.fld (.var 0) 3 (.var 1)), (.fld (.var 0) 4 (.var 2)), (.fld (.var 0) 2 (.var 3)), (.fld (.var 0) 0 (.var 4))]
def b9 : List S := [(.ret (.op .Add (.op .Add (.op .Add (.tab 1 (.fld (.var 0) 0)) (.bi .str [(.fld (.var 0) 3)])) (.fld (.var 0) 2)) (.bi .str [(.fld (.var 0) 4)])))]
def b10 : List S := [(.ret (.c (.str [98])))]
def b11 : List S := [(.fld (.var 0) 5 (.var 1))]
def b12 : List S := [(.ret (.op .Add (.c (.str [104])) (.fld (.var 0) 5)))]
def b13 : List S := [(.fld (.var 0) 5 (.var 1))]
def b14 : List S := [(.ret (.op .Add (.c (.str [102])) (.fld (.var 0) 5)))]
def b15 : List S := [(.ret (.op .Add (.ix (.var 0) (.c (.int 0 0))) (.bi .sum [(.comp (.zip (.sl (.var 0) (some (.c (.int 1 0))) none) (.var 1)) true none (.op .Mult (.var 2) (.var 3)))])))]
def b16 : List S := [(.set 2 (.lst [])), (.loop (.name 3) (.seq (.var 0)) [(.ite (.cmp .Eq (.ix (.var 3) (.c (.int 0 0))) (.c (.str [111, 110, 101]))) [(.expr (.bm .append (.var 2) [(.ix (.var 3) (.c (.int 1 0)))]))] [(.expr (.bm .extend (.var 2) [(.call 17 [(.ix (.var 3) (.c (.int 2 0))), (.call 15 [(.ix (.var 3) (.c (.int 1 0))), (.var 1)]), (.var 1)])]))])]), (.ret (.var 2))]
def b17 : List S := [(.set 3 (.ife (.cmp .Eq (.var 1) (.c (.int 0 0))) (.lst []) (.call 16 [(.var 0), (.var 2)]))), (.ret (.ife (.var 3) (.op .Mult (.var 3) (.var 1)) (.lst [])))]
def b18 : List S := [(.ite (.cmp .Lt (.var 1) (.bi .len [(.var 0)])) [(.ret (.ix (.var 0) (.var 1)))] []), (.ret (.c (.int 0 0)))]
def b19 : List S := [(.ite (.and (.cmp .NotEq (.var 1) (.c (.str []))) (.cmp .Eq (.op .Mod (.var 0) (.c (.int 4 0))) (.c (.int 1 0)))) [(.ret (.make 8 [(.ix (.var 1) (.op .Mod (.op .FloorDiv (.var 0) (.c (.int 4 0))) (.bi .len [(.var 1)])))]))] []), (.set 2 (.op .Mod (.op .Mult (.var 0) (.c (.int 37 0))) (.c (.int 87 0)))), (.set 3 (.op .Sub (.c (.int 1 0)) (.op .Mult (.op .FloorDiv (.var 2) (.c (.int 32 0))) (.c (.int 2 0))))), (.ite (.cmp .Lt (.var 2) (.c (.int 64 0))) [(.ret (.make 6 [(.op .Add (.c (.int 1 0)) (.op .Mod (.var 2) (.c (.int 4 0)))), (.op .Add (.c (.int 1 0)) (.op .Mod (.op .FloorDiv (.var 2) (.c (.int 4 0))) (.c (.int 4 0)))), (.ix (.c (.str [102, 98])) (.op .Mod (.op .FloorDiv (.var 2) (.c (.int 16 0))) (.c (.int 2 0)))), (.var 3)]))] []), (.set 3 (.op .Sub (.c (.int 1 0)) (.op .Mult (.op .Mod (.var 2) (.c (.int 2 0))) (.c (.int 2 0))))), (.ite (.cmp .Lt (.var 2) (.c (.int 76 0))) [(.ret (.make 4 [(.op .Add (.c (.int 2 0)) (.op .FloorDiv (.op .Sub (.var 2) (.c (.int 64 0))) (.c (.int 4 0)))), (.ix (.c (.str [114, 108])) (.op .Mod (.op .FloorDiv (.var 2) (.c (.int 2 0))) (.c (.int 2 0)))), (.var 3)]))] []), (.ite (.cmp .Lt (.var 2) (.c (.int 82 0))) [(.ret (.make 5 [(.op .Add (.c (.int 2 0)) (.op .FloorDiv (.op .Sub (.var 2) (.c (.int 76 0))) (.c (.int 2 0)))), (.var 3)]))] []), (.ite (.cmp .Lt (.var 2) (.c (.int 84 0))) [(.ret (.make 1 [(.var 3)]))] []), (.ret (.ix (.lst [(.make 2 []), (.make 3 []), (.make 7 [])]) (.op .Sub (.var 2) (.c (.int 84 0)))))]
def b20 : List S := [(.ret (.tup [(.ix (.lst [(.c (.int 2 0)), (.c (.int 1 0)), (.c (.int 0 0))]) (.op .Mod (.var 0) (.c (.int 3 0)))), (.op .Mod (.op .FloorDiv (.var 0) (.c (.int 3 0))) (.c (.int 3 0))), (.op .Mod (.op .FloorDiv (.var 0) (.c (.int 9 0))) (.c (.int 3 0))), (.op .Mod (.op .FloorDiv (.var 0) (.c (.int 27 0))) (.c (.int 3 0))), (.op .Mod (.op .FloorDiv (.var 0) (.c (.int 81 0))) (.c (.int 2 0)))]))]
def b21 : List S := [(.set 2 (.ix (.var 0) (.c (.int 0 0)))), (.loop (.name 3) (.rng (.c (.int 4 0))) [(.set 2 (.op .Add (.var 2) (.op .Mult (.ix (.var 0) (.op .Add (.var 3) (.c (.int 1 0)))) (.ix (.var 1) (.var 3)))))]), (.ret (.var 2))]
def b22 : List S := [(.set 1 (.lst [])), (.loop (.name 2) (.seq (.var 0)) [(.set 1 (.op .Add (.var 1) (.var 2)))]), (.ret (.var 1))]
def b23 : List S := [(.set 1 (.lst [])), (.loop (.name 2) (.seq (.var 0)) [(.ite (.cmp .Eq (.ix (.var 2) (.c (.int 0 0))) (.c (.str [111, 110, 101]))) [(.expr (.bm .append (.var 1) [(.meth 4 (.ix (.var 2) (.c (.int 1 0))) [])]))] [(.set 1 (.op .Add (.op .Add (.var 1) (.lst [(.ix (.var 2) (.c (.int 1 0)))])) (.call 23 [(.ix (.var 2) (.c (.int 2 0)))])))])]), (.ret (.var 1))]
def b24 : List S := [(.ite (.cmp .Eq (.op .Mod (.var 0) (.c (.int 11 0))) (.c (.int 5 0))) [(.ret (.make 9 [(.ix (.c (.str [119, 120, 121, 122])) (.op .Mod (.op .FloorDiv (.var 0) (.c (.int 11 0))) (.c (.int 4 0))))]))] []), (.ite (.cmp .Eq (.op .Mod (.var 0) (.c (.int 11 0))) (.c (.int 7 0))) [(.ret (.make 8 [(.ix (.c (.str [119, 120, 121, 122])) (.op .Mod (.op .FloorDiv (.var 0) (.c (.int 11 0))) (.c (.int 4 0))))]))] []), (.ret (.call 19 [(.var 0), (.c (.str []))]))]
def b25 : List S := [(.set 2 (.lst [])), (.set 3 (.lst [])), (.set 4 (.lst [])), (.loop (.name 5) (.seq (.var 0)) [(.set 6 (.bi .min [(.bi .len [(.var 2)]), (.op .Add (.c (.int 1 0)) (.op .Mod (.op .FloorDiv (.var 5) (.c (.int 4 0))) (.c (.int 3 0))))])), (.set 7 (.call 20 [(.op .FloorDiv (.var 5) (.c (.int 12 0)))])), (.ite (.or (.cmp .Lt (.op .Mod (.var 5) (.c (.int 4 0))) (.c (.int 3 0))) (.or (.cmp .Eq (.var 6) (.c (.int 0 0))) (.cmp .Eq (.bi .max [(.sl (.var 4) (some (.op .Sub (.bi .len [(.var 4)]) (.var 6))) none)]) (.c (.int 8 0))))) [(.set 8 (.call 24 [(.op .Add (.op .FloorDiv (.var 5) (.c (.int 4 0))) (.op .Mod (.var 5) (.c (.int 4 0))))])), (.expr (.bm .append (.var 2) [(.tup [(.c (.str [111, 110, 101])), (.var 8)])])), (.expr (.bm .append (.var 3) [(.lst [(.meth 4 (.var 8) [])])])), (.expr (.bm .append (.var 4) [(.c (.int 0 0))]))] [(.set 9 (.op .Sub (.bi .len [(.var 2)]) (.var 6))), (.set 10 (.call 22 [(.sl (.var 3) (some (.var 9)) none)])), (.set 11 (.op .Add (.bi .len [(.call 22 [(.sl (.var 3) none (some (.var 9)))])]) (.op .Mult (.bi .len [(.var 10)]) (.call 21 [(.var 7), (.var 1)])))), (.ite (.cmp .LtE (.var 11) (.c (.int 330 0))) [(.set 2 (.op .Add (.sl (.var 2) none (some (.var 9))) (.lst [(.tup [(.c (.str [116, 105, 109, 101, 115])), (.var 7), (.sl (.var 2) (some (.var 9)) none)])]))), (.set 3 (.op .Add (.sl (.var 3) none (some (.var 9))) (.lst [(.op .Mult (.var 10) (.call 21 [(.var 7), (.var 1)]))]))), (.set 4 (.op .Add (.sl (.var 4) none (some (.var 9))) (.lst [(.op .Add (.c (.int 1 0)) (.bi .max [(.sl (.var 4) (some (.var 9)) none)]))])))] [])])]), (.ret (.tup [(.var 2), (.call 22 [(.var 3)])]))]
def b26 : List S := [(.ite (.or (.not (.isi (.var 0) .list)) (.cmp .NotEq (.bi .len [(.var 0)]) (.bi .len [(.var 1)]))) [(.ret (.c (.bl false)))] []), (.loop (.name 2) (.rng (.bi .len [(.var 1)])) [(.ite (.cmp .NotEq (.meth 4 (.ix (.var 0) (.var 2)) []) (.ix (.var 1) (.var 2))) [(.ret (.c (.bl false)))] [])]), (.ret (.c (.bl true)))]
def b27 : List S := [(.set 1 (.comp (.rng (.c (.int 4 0))) false none (.op .Mod (.call 18 [(.var 0), (.var 8)]) (.ix (.lst [(.c (.int 5 0)), (.c (.int 4 0)), (.c (.int 3 0)), (.c (.int 200 0))]) (.var 8))))), (.unp 2 3 (.call 25 [(.sl (.var 0) (some (.c (.int 4 0))) (some (.c (.int 68 0)))), (.var 1)])), (.set 4 (.bi .list [(.var 2)])), (.set 5 (.bi .list [(.var 1)])), (.set 6 (.call 23 [(.var 2)])), (.set 7 (.call 16 [(.var 4), (.var 5)])), (.ite (.or (.not (.call 26 [(.var 7), (.var 3)])) (.or (.cmp .NotEq (.var 4) (.var 2)) (.cmp .NotEq (.var 5) (.var 1)))) [(.ret (.c (.bl false)))] []), (.expr (.bm .clear (.var 7) [])), (.ite (.not (.call 26 [(.call 16 [(.var 4), (.var 5)]), (.var 3)])) [(.ret (.c (.bl false)))] []), (.ret (.and (.cmp .Eq (.var 4) (.var 2)) (.cmp .Eq (.call 23 [(.var 2)]) (.var 6))))]
def fnL : List Fn := [⟨"__init__", "Plain.__init__", st0, ["self", "side"], N0, 2, 2, false, b0⟩,
  ⟨"mark", "Plain.mark", st1, ["self"], N1, 1, 1, false, b1⟩,
  ⟨"mark", "Slip.mark", st2, ["self"], N2, 1, 1, false, b2⟩,
  ⟨"mark", "Over.mark", st3, ["self"], N3, 1, 1, false, b3⟩,
  ⟨"__init__", "Lean.__init__", st4, ["self", "many", "way", "side"], N4, 4, 4, false, b4⟩,
  ⟨"mark", "Lean.mark", st5, ["self"], N5, 1, 1, false, b5⟩,
  ⟨"__init__", "Grow.__init__", st6, ["self", "many", "side"], N6, 3, 3, false, b6⟩,
  ⟨"mark", "Grow.mark", st7, ["self"], N7, 1, 1, false, b7⟩,
  ⟨"__init__", "Cross.__init__", st8, ["self", "first", "second", "way", "side"], N8, 5, 5, false, b8⟩,
  ⟨"mark", "Cross.mark", st9, ["self"], N9, 1, 1, false, b9⟩,
  ⟨"mark", "Off.mark", st10, ["self"], N10, 1, 1, false, b10⟩,
  ⟨"__init__", "Keep.__init__", st11, ["self", "keeper"], N11, 2, 2, false, b11⟩,
  ⟨"mark", "Keep.mark", st12, ["self"], N12, 1, 1, false, b12⟩,
  ⟨"__init__", "Fetch.__init__", st13, ["self", "keeper"], N13, 2, 2, false, b13⟩,
  ⟨"mark", "Fetch.mark", st14, ["self"], N14, 1, 1, false, b14⟩,
  ⟨"worth", "worth", st15, ["one", "choice"], N15, 2, 2, false, b15⟩,
  ⟨"unrolled", "unrolled", st16, ["parts", "choice"], N16, 2, 4, false, b16⟩,
  ⟨"unrolled_often", "unrolled_often", st17, ["parts", "often", "choice"], N17, 3, 4, false, b17⟩,
  ⟨"_law_cell_at", "_law_cell_at", st18, ["_law_script", "_law_k"], N18, 2, 2, false, b18⟩,
  ⟨"_law_stitch", "_law_stitch", st19, ["_law_cell", "_law_keepers"], N19, 2, 4, false, b19⟩,
  ⟨"_law_sum", "_law_sum", st20, ["_law_cell"], N20, 1, 1, false, b20⟩,
  ⟨"_law_often", "_law_often", st21, ["_law_one_here", "_law_choice"], N21, 2, 4, false, b21⟩,
  ⟨"_law_joined", "_law_joined", st22, ["_law_lists"], N22, 1, 3, false, b22⟩,
  ⟨"_law_marks", "_law_marks", st23, ["_law_parts"], N23, 1, 3, false, b23⟩,
  ⟨"_law_one", "_law_one", st24, ["_law_cell"], N24, 1, 1, false, b24⟩,
  ⟨"_law_drawn", "_law_drawn", st25, ["_law_cells", "_law_choice"], N25, 2, 12, false, b25⟩,
  ⟨"_law_as_told", "_law_as_told", st26, ["_law_found", "_law_marks_here"], N26, 2, 3, false, b26⟩,
  ⟨"law", "law", st27, ["_law_script"], N27, 1, 8, true, b27⟩]
def tb (s : List U) : Tbl := ⟨fnL, clsL, conL, fldN, mthN, s, isiL, dflL⟩
abbrev so (x : String) : Str := Str.ofString x
abbrev rf (a : Addr) : Value := .ref a
abbrev sv (x : String) (n : Nat) : Value := .str (Str.ofString x) n
abbrev dk (P : Params) (x : String) (n : Nat) (v : Value) : DictEntry := DictEntry.mk (PyData.keyHash P (Str.ofString x)) (.str (Str.ofString x) n) v
abbrev tu (xs : Array Value) (n : Nat) : Obj := Obj.mk (.type "tuple") none (Data.seq xs n) #[]
abbrev ob (c : String) (d : Data) : Obj := Obj.mk (.type c) none d #[]
abbrev en (P : Params) (x : Str) (k v : Value) : DictEntry := DictEntry.mk (PyData.keyHash P x) k v
abbrev de (P : Params) (x : Str) (n : Nat) (v : Value) : DictEntry := DictEntry.mk (PyData.keyHash P x) (.str x n) v
abbrev hp : Program := PySem.Challenge.pw_stitchroom_k20_unrolled
abbrev hr : W.RowW := (PySem.Challenge.rw_stitchroom_k20_unrolled).row.toRowW
noncomputable def hB : Iv.BootT := ⟨fun P => (.node (W.boot_o_0 P) (.node (W.boot_o_1 P) (.node (W.boot_o_3 P) (.node (W.boot_o_7 P) .nil .nil) .nil) (.node (W.boot_o_5 P) (.node (W.boot_o_9 P) .nil .nil) .nil)) (.node (W.boot_o_2 P) (.node (W.boot_o_4 P) (.node (W.boot_o_8 P) .nil .nil) .nil) (.node (W.boot_o_6 P) (.node (W.boot_o_10 P) .nil .nil) .nil))), 11, {}⟩
def hq : Program := W.view hp [0, 2, 3, 4, 5, 6, 7, 8, 9, 10, 11, 12, 13, 15, 17, 18, 20, 21, 22, 23, 24, 25, 26, 27, 28, 29]
abbrev hlo : List Str := ["SIDE_SIGNS", "CROSS_SIGNS"]
noncomputable def K : Params → W.Frag := fun P =>
  (nat_lit 2, (Obj.mk .none none (Data.dict #[] 0) #[])) ::
  (nat_lit 3, (ob "dict" (Data.dict #[(dk P "__name__" 165 (sv "law_stitchroom_k20_unrolled" 863)), (dk P "__doc__" 166 .none), (dk P "__package__" 167 .none), (dk P "__loader__" 168 (.builtin "__main__.__loader__#opaque")), (dk P "__spec__" 169 .none), (dk P "__annotations__" 170 (rf 6)), (dk P "__builtins__" 171 (rf 4)), (dk P "__file__" 173 (sv "/claim/cut.py" 172)), (dk P "__cached__" 174 .none), (dk P "_wall" 193 (rf 21)), (dk P "SIDE_SIGNS" 203 (rf 22)), (dk P "CROSS_SIGNS" 211 (rf 23)), (dk P "Stitch" 245 (rf 47)), (dk P "Plain" 312 (rf 110)), (dk P "Slip" 370 (rf 164)), (dk P "Over" 428 (rf 218)), (dk P "Lean" 500 (rf 279)), (dk P "Grow" 568 (rf 338)), (dk P "Cross" 640 (rf 397)), (dk P "Off" 698 (rf 451)), (dk P "Keep" 765 (rf 512)), (dk P "Fetch" 832 (rf 573)), (dk P "worth" 840 (rf 580)), (dk P "unrolled" 852 (rf 587)), (dk P "unrolled_often" 862 (rf 594)), (dk P "_law_cell_at" 872 (rf 601)), (dk P "_law_stitch" 882 (rf 608)), (dk P "_law_sum" 889 (rf 615)), (dk P "_law_often" 899 (rf 622)), (dk P "_law_joined" 908 (rf 629)), (dk P "_law_marks" 917 (rf 636)), (dk P "_law_one" 924 (rf 643)), (dk P "_law_drawn" 942 (rf 650)), (dk P "_law_as_told" 951 (rf 657)), (dk P "law" 957 (rf 662))] 35))) ::
  (nat_lit 22, (ob "dict" (Data.dict #[(DictEntry.mk 1 (.int 1 196) (sv "k" 197)), (DictEntry.mk (-2) (.int (-1) 199) (sv "p" 200))] 2))) ::
  (nat_lit 23, (ob "dict" (Data.dict #[(DictEntry.mk 1 (.int 1 204) (sv "c" 205)), (DictEntry.mk (-2) (.int (-1) 207) (sv "q" 208))] 2))) ::
  (nat_lit 46, (ob "dict" (Data.dict #[(dk P "__module__" 219 (sv "stitchroom.stitches" 194)), (dk P "__firstlineno__" 223 (.int 7 222)), (dk P "ties" 230 (rf 37)), (dk P "ends" 237 (rf 44)), (dk P "__static_attributes__" 238 (rf 45)), (dk P "__dict__" 240 (rf 48)), (dk P "__weakref__" 242 (rf 49)), (dk P "__doc__" 243 .none)] 4))) ::
  (nat_lit 47, (Obj.mk (.type "type") none (Data.cls (ClassData.mk (so "Stitch") [(.type "object")] [(rf 47), (.type "object")] 46 (so "Stitch") Bool.true [] [(rf 110), (rf 164), (rf 218), (rf 279), (rf 338), (rf 397), (rf 451), (rf 512), (rf 573)] Bool.false none Bool.false)) #[none, none, (some (sv "Stitch" 212)), (some (sv "Stitch" 220)), (some (.builtin "object.__new__")), (some (.bool Bool.true))])) ::
  (nat_lit 48, (ob "getset_descriptor" (Data.fields #[(sv "__dict__" 239), (rf 47), (.builtin "function.__dict__"), (.builtin "function.__dict__#set")]))) ::
  (nat_lit 49, (ob "getset_descriptor" (Data.fields #[(sv "__weakref__" 241), (rf 47), (.builtin "ExceptionGroup.__weakref__"), .none]))) ::
  (nat_lit 64, (ob "code" (Data.fields #[(sv "__init__" 258), (sv "Plain.__init__" 259), (sv "/claim/cut.py" 260), (.int 16 0), (.int 2 0), (.int 0 0), (.int 0 0), (.int 3 0), (rf 59), (.bool Bool.true), (.int 181 0), (rf 60), .none, (rf 61), (rf 62), (rf 63), (.int 263 0), (.int 16 0), (sv "/claim/cut.py" 264)]))) ::
  (nat_lit 65, ⟨(.type "function"), none, .func (W.fnOf (so "__init__") (so "Plain.__init__") (defArgs st0) (defBody st0) (defScope st0) .none .none .none (sv "stitchroom.stitches" 194) none (rf 64) .none), #[]⟩) ::
  (nat_lit 92, (ob "code" (Data.fields #[(sv "mark" 287), (sv "Plain.mark" 288), (sv "/claim/cut.py" 289), (.int 28 0), (.int 1 0), (.int 0 0), (.int 0 0), (.int 3 0), (rf 87), (.bool Bool.true), (.int 181 0), (rf 88), .none, (rf 89), (rf 90), (rf 91), (.int 291 0), (.int 28 0), (sv "/claim/cut.py" 292)]))) ::
  (nat_lit 93, ⟨(.type "function"), none, .func (W.fnOf (so "mark") (so "Plain.mark") (defArgs st1) (defBody st1) (defScope st1) .none .none .none (sv "stitchroom.stitches" 194) none (rf 92) .none), #[]⟩) ::
  (nat_lit 109, (ob "dict" (Data.dict #[(dk P "__module__" 253 (sv "stitchroom.stitches" 194)), (dk P "__firstlineno__" 257 (.int 14 256)), (dk P "__init__" 265 (rf 65)), (dk P "takes" 272 (rf 72)), (dk P "gives" 279 (rf 79)), (dk P "ties" 286 (rf 86)), (dk P "mark" 293 (rf 93)), (dk P "mirrored" 300 (rf 100)), (dk P "turned" 307 (rf 107)), (dk P "__static_attributes__" 309 (rf 108)), (dk P "__doc__" 310 .none)] 2))) ::
  (nat_lit 110, (Obj.mk (.type "type") none (Data.cls (ClassData.mk (so "Plain") [(rf 47)] [(rf 110), (rf 47), (.type "object")] 109 (so "Plain") Bool.true [] [] Bool.false none Bool.false)) #[(some (rf 52)), none, (some (sv "Plain" 246)), (some (sv "Plain" 254)), (some (.builtin "object.__new__")), (some (.bool Bool.true))])) ::
  (nat_lit 146, (ob "code" (Data.fields #[(sv "mark" 346), (sv "Slip.mark" 347), (sv "/claim/cut.py" 348), (.int 47 0), (.int 1 0), (.int 0 0), (.int 0 0), (.int 3 0), (rf 141), (.bool Bool.true), (.int 181 0), (rf 142), .none, (rf 143), (rf 144), (rf 145), (.int 350 0), (.int 47 0), (sv "/claim/cut.py" 351)]))) ::
  (nat_lit 147, ⟨(.type "function"), none, .func (W.fnOf (so "mark") (so "Slip.mark") (defArgs st2) (defBody st2) (defScope st2) .none .none .none (sv "stitchroom.stitches" 194) none (rf 146) .none), #[]⟩) ::
  (nat_lit 163, (ob "dict" (Data.dict #[(dk P "__module__" 320 (sv "stitchroom.stitches" 194)), (dk P "__firstlineno__" 324 (.int 36 323)), (dk P "takes" 331 (rf 126)), (dk P "gives" 338 (rf 133)), (dk P "ties" 345 (rf 140)), (dk P "mark" 352 (rf 147)), (dk P "mirrored" 359 (rf 154)), (dk P "turned" 366 (rf 161)), (dk P "__static_attributes__" 367 (rf 162)), (dk P "__doc__" 368 .none)] 2))) ::
  (nat_lit 164, (Obj.mk (.type "type") none (Data.cls (ClassData.mk (so "Slip") [(rf 47)] [(rf 164), (rf 47), (.type "object")] 163 (so "Slip") Bool.true [] [] Bool.false none Bool.false)) #[(some (rf 113)), none, (some (sv "Slip" 313)), (some (sv "Slip" 321)), (some (.builtin "object.__new__")), (some (.bool Bool.true))])) ::
  (nat_lit 200, (ob "code" (Data.fields #[(sv "mark" 404), (sv "Over.mark" 405), (sv "/claim/cut.py" 406), (.int 66 0), (.int 1 0), (.int 0 0), (.int 0 0), (.int 3 0), (rf 195), (.bool Bool.true), (.int 181 0), (rf 196), .none, (rf 197), (rf 198), (rf 199), (.int 408 0), (.int 66 0), (sv "/claim/cut.py" 409)]))) ::
  (nat_lit 201, ⟨(.type "function"), none, .func (W.fnOf (so "mark") (so "Over.mark") (defArgs st3) (defBody st3) (defScope st3) .none .none .none (sv "stitchroom.stitches" 194) none (rf 200) .none), #[]⟩) ::
  (nat_lit 217, (ob "dict" (Data.dict #[(dk P "__module__" 378 (sv "stitchroom.stitches" 194)), (dk P "__firstlineno__" 382 (.int 55 381)), (dk P "takes" 389 (rf 180)), (dk P "gives" 396 (rf 187)), (dk P "ties" 403 (rf 194)), (dk P "mark" 410 (rf 201)), (dk P "mirrored" 417 (rf 208)), (dk P "turned" 424 (rf 215)), (dk P "__static_attributes__" 425 (rf 216)), (dk P "__doc__" 426 .none)] 2))) ::
  (nat_lit 218, (Obj.mk (.type "type") none (Data.cls (ClassData.mk (so "Over") [(rf 47)] [(rf 218), (rf 47), (.type "object")] 217 (so "Over") Bool.true [] [] Bool.false none Bool.false)) #[(some (rf 167)), none, (some (sv "Over" 371)), (some (sv "Over" 379)), (some (.builtin "object.__new__")), (some (.bool Bool.true))])) ::
  (nat_lit 233, (ob "code" (Data.fields #[(sv "__init__" 441), (sv "Lean.__init__" 442), (sv "/claim/cut.py" 443), (.int 76 0), (.int 4 0), (.int 0 0), (.int 0 0), (.int 3 0), (rf 228), (.bool Bool.true), (.int 181 0), (rf 229), .none, (rf 230), (rf 231), (rf 232), (.int 448 0), (.int 76 0), (sv "/claim/cut.py" 449)]))) ::
  (nat_lit 234, ⟨(.type "function"), none, .func (W.fnOf (so "__init__") (so "Lean.__init__") (defArgs st4) (defBody st4) (defScope st4) .none .none .none (sv "stitchroom.stitches" 194) none (rf 233) .none), #[]⟩) ::
  (nat_lit 261, (ob "code" (Data.fields #[(sv "mark" 473), (sv "Lean.mark" 474), (sv "/claim/cut.py" 475), (.int 94 0), (.int 1 0), (.int 0 0), (.int 0 0), (.int 3 0), (rf 256), (.bool Bool.true), (.int 181 0), (rf 257), .none, (rf 258), (rf 259), (rf 260), (.int 477 0), (.int 94 0), (sv "/claim/cut.py" 478)]))) ::
  (nat_lit 262, ⟨(.type "function"), none, .func (W.fnOf (so "mark") (so "Lean.mark") (defArgs st5) (defBody st5) (defScope st5) .none .none .none (sv "stitchroom.stitches" 194) none (rf 261) .none), #[]⟩) ::
  (nat_lit 278, (ob "dict" (Data.dict #[(dk P "__module__" 436 (sv "stitchroom.stitches" 194)), (dk P "__firstlineno__" 440 (.int 74 439)), (dk P "__init__" 450 (rf 234)), (dk P "takes" 457 (rf 241)), (dk P "gives" 464 (rf 248)), (dk P "ties" 472 (rf 255)), (dk P "mark" 479 (rf 262)), (dk P "mirrored" 486 (rf 269)), (dk P "turned" 493 (rf 276)), (dk P "__static_attributes__" 497 (rf 277)), (dk P "__doc__" 498 .none)] 2))) ::
  (nat_lit 279, (Obj.mk (.type "type") none (Data.cls (ClassData.mk (so "Lean") [(rf 47)] [(rf 279), (rf 47), (.type "object")] 278 (so "Lean") Bool.true [] [] Bool.false none Bool.false)) #[(some (rf 221)), none, (some (sv "Lean" 429)), (some (sv "Lean" 437)), (some (.builtin "object.__new__")), (some (.bool Bool.true))])) ::
  (nat_lit 294, (ob "code" (Data.fields #[(sv "__init__" 513), (sv "Grow.__init__" 514), (sv "/claim/cut.py" 515), (.int 104 0), (.int 3 0), (.int 0 0), (.int 0 0), (.int 3 0), (rf 289), (.bool Bool.true), (.int 181 0), (rf 290), .none, (rf 291), (rf 292), (rf 293), (.int 519 0), (.int 104 0), (sv "/claim/cut.py" 520)]))) ::
  (nat_lit 295, ⟨(.type "function"), none, .func (W.fnOf (so "__init__") (so "Grow.__init__") (defArgs st6) (defBody st6) (defScope st6) .none .none .none (sv "stitchroom.stitches" 194) none (rf 294) .none), #[]⟩) ::
  (nat_lit 320, (ob "code" (Data.fields #[(sv "mark" 542), (sv "Grow.mark" 543), (sv "/claim/cut.py" 544), (.int 117 0), (.int 1 0), (.int 0 0), (.int 0 0), (.int 3 0), (rf 315), (.bool Bool.true), (.int 181 0), (rf 316), .none, (rf 317), (rf 318), (rf 319), (.int 546 0), (.int 117 0), (sv "/claim/cut.py" 547)]))) ::
  (nat_lit 321, ⟨(.type "function"), none, .func (W.fnOf (so "mark") (so "Grow.mark") (defArgs st7) (defBody st7) (defScope st7) .none .none .none (sv "stitchroom.stitches" 194) none (rf 320) .none), #[]⟩) ::
  (nat_lit 337, (ob "dict" (Data.dict #[(dk P "__module__" 508 (sv "stitchroom.stitches" 194)), (dk P "__firstlineno__" 512 (.int 102 511)), (dk P "__init__" 521 (rf 295)), (dk P "takes" 528 (rf 302)), (dk P "gives" 535 (rf 309)), (dk P "ties" 541 (rf 314)), (dk P "mark" 548 (rf 321)), (dk P "mirrored" 555 (rf 328)), (dk P "turned" 562 (rf 335)), (dk P "__static_attributes__" 565 (rf 336)), (dk P "__doc__" 566 .none)] 2))) ::
  (nat_lit 338, (Obj.mk (.type "type") none (Data.cls (ClassData.mk (so "Grow") [(rf 47)] [(rf 338), (rf 47), (.type "object")] 337 (so "Grow") Bool.true [] [] Bool.false none Bool.false)) #[(some (rf 282)), none, (some (sv "Grow" 501)), (some (sv "Grow" 509)), (some (.builtin "object.__new__")), (some (.bool Bool.true))])) ::
  (nat_lit 353, (ob "code" (Data.fields #[(sv "__init__" 581), (sv "Cross.__init__" 582), (sv "/claim/cut.py" 583), (.int 127 0), (.int 5 0), (.int 0 0), (.int 0 0), (.int 3 0), (rf 348), (.bool Bool.true), (.int 181 0), (rf 349), .none, (rf 350), (rf 351), (rf 352), (.int 589 0), (.int 127 0), (sv "/claim/cut.py" 590)]))) ::
  (nat_lit 354, ⟨(.type "function"), none, .func (W.fnOf (so "__init__") (so "Cross.__init__") (defArgs st8) (defBody st8) (defScope st8) .none .none .none (sv "stitchroom.stitches" 194) none (rf 353) .none), #[]⟩) ::
  (nat_lit 379, (ob "code" (Data.fields #[(sv "mark" 612), (sv "Cross.mark" 613), (sv "/claim/cut.py" 614), (.int 145 0), (.int 1 0), (.int 0 0), (.int 0 0), (.int 3 0), (rf 374), (.bool Bool.true), (.int 181 0), (rf 375), .none, (rf 376), (rf 377), (rf 378), (.int 616 0), (.int 145 0), (sv "/claim/cut.py" 617)]))) ::
  (nat_lit 380, ⟨(.type "function"), none, .func (W.fnOf (so "mark") (so "Cross.mark") (defArgs st9) (defBody st9) (defScope st9) .none .none .none (sv "stitchroom.stitches" 194) none (rf 379) .none), #[]⟩) ::
  (nat_lit 396, (ob "dict" (Data.dict #[(dk P "__module__" 576 (sv "stitchroom.stitches" 194)), (dk P "__firstlineno__" 580 (.int 125 579)), (dk P "__init__" 591 (rf 354)), (dk P "takes" 598 (rf 361)), (dk P "gives" 605 (rf 368)), (dk P "ties" 611 (rf 373)), (dk P "mark" 618 (rf 380)), (dk P "mirrored" 625 (rf 387)), (dk P "turned" 632 (rf 394)), (dk P "__static_attributes__" 637 (rf 395)), (dk P "__doc__" 638 .none)] 2))) ::
  (nat_lit 397, (Obj.mk (.type "type") none (Data.cls (ClassData.mk (so "Cross") [(rf 47)] [(rf 397), (rf 47), (.type "object")] 396 (so "Cross") Bool.true [] [] Bool.false none Bool.false)) #[(some (rf 341)), none, (some (sv "Cross" 569)), (some (sv "Cross" 577)), (some (.builtin "object.__new__")), (some (.bool Bool.true))])) ::
  (nat_lit 433, (ob "code" (Data.fields #[(sv "mark" 674), (sv "Off.mark" 675), (sv "/claim/cut.py" 676), (.int 164 0), (.int 1 0), (.int 0 0), (.int 0 0), (.int 3 0), (rf 428), (.bool Bool.true), (.int 181 0), (rf 429), .none, (rf 430), (rf 431), (rf 432), (.int 678 0), (.int 164 0), (sv "/claim/cut.py" 679)]))) ::
  (nat_lit 434, ⟨(.type "function"), none, .func (W.fnOf (so "mark") (so "Off.mark") (defArgs st10) (defBody st10) (defScope st10) .none .none .none (sv "stitchroom.stitches" 194) none (rf 433) .none), #[]⟩) ::
  (nat_lit 450, (ob "dict" (Data.dict #[(dk P "__module__" 648 (sv "stitchroom.stitches" 194)), (dk P "__firstlineno__" 652 (.int 153 651)), (dk P "takes" 659 (rf 413)), (dk P "gives" 666 (rf 420)), (dk P "ends" 673 (rf 427)), (dk P "mark" 680 (rf 434)), (dk P "mirrored" 687 (rf 441)), (dk P "turned" 694 (rf 448)), (dk P "__static_attributes__" 695 (rf 449)), (dk P "__doc__" 696 .none)] 2))) ::
  (nat_lit 451, (Obj.mk (.type "type") none (Data.cls (ClassData.mk (so "Off") [(rf 47)] [(rf 451), (rf 47), (.type "object")] 450 (so "Off") Bool.true [] [] Bool.false none Bool.false)) #[(some (rf 400)), none, (some (sv "Off" 641)), (some (sv "Off" 649)), (some (.builtin "object.__new__")), (some (.bool Bool.true))])) ::
  (nat_lit 466, (ob "code" (Data.fields #[(sv "__init__" 711), (sv "Keep.__init__" 712), (sv "/claim/cut.py" 713), (.int 174 0), (.int 2 0), (.int 0 0), (.int 0 0), (.int 3 0), (rf 461), (.bool Bool.true), (.int 181 0), (rf 462), .none, (rf 463), (rf 464), (rf 465), (.int 716 0), (.int 174 0), (sv "/claim/cut.py" 717)]))) ::
  (nat_lit 467, ⟨(.type "function"), none, .func (W.fnOf (so "__init__") (so "Keep.__init__") (defArgs st11) (defBody st11) (defScope st11) .none .none .none (sv "stitchroom.stitches" 194) none (rf 466) .none), #[]⟩) ::
  (nat_lit 494, (ob "code" (Data.fields #[(sv "mark" 740), (sv "Keep.mark" 741), (sv "/claim/cut.py" 742), (.int 186 0), (.int 1 0), (.int 0 0), (.int 0 0), (.int 3 0), (rf 489), (.bool Bool.true), (.int 181 0), (rf 490), .none, (rf 491), (rf 492), (rf 493), (.int 744 0), (.int 186 0), (sv "/claim/cut.py" 745)]))) ::
  (nat_lit 495, ⟨(.type "function"), none, .func (W.fnOf (so "mark") (so "Keep.mark") (defArgs st12) (defBody st12) (defScope st12) .none .none .none (sv "stitchroom.stitches" 194) none (rf 494) .none), #[]⟩) ::
  (nat_lit 511, (ob "dict" (Data.dict #[(dk P "__module__" 706 (sv "stitchroom.stitches" 194)), (dk P "__firstlineno__" 710 (.int 172 709)), (dk P "__init__" 718 (rf 467)), (dk P "takes" 725 (rf 474)), (dk P "gives" 732 (rf 481)), (dk P "ends" 739 (rf 488)), (dk P "mark" 746 (rf 495)), (dk P "mirrored" 753 (rf 502)), (dk P "turned" 760 (rf 509)), (dk P "__static_attributes__" 762 (rf 510)), (dk P "__doc__" 763 .none)] 2))) ::
  (nat_lit 512, (Obj.mk (.type "type") none (Data.cls (ClassData.mk (so "Keep") [(rf 47)] [(rf 512), (rf 47), (.type "object")] 511 (so "Keep") Bool.true [] [] Bool.false none Bool.false)) #[(some (rf 454)), none, (some (sv "Keep" 699)), (some (sv "Keep" 707)), (some (.builtin "object.__new__")), (some (.bool Bool.true))])) ::
  (nat_lit 527, (ob "code" (Data.fields #[(sv "__init__" 778), (sv "Fetch.__init__" 779), (sv "/claim/cut.py" 780), (.int 196 0), (.int 2 0), (.int 0 0), (.int 0 0), (.int 3 0), (rf 522), (.bool Bool.true), (.int 181 0), (rf 523), .none, (rf 524), (rf 525), (rf 526), (.int 783 0), (.int 196 0), (sv "/claim/cut.py" 784)]))) ::
  (nat_lit 528, ⟨(.type "function"), none, .func (W.fnOf (so "__init__") (so "Fetch.__init__") (defArgs st13) (defBody st13) (defScope st13) .none .none .none (sv "stitchroom.stitches" 194) none (rf 527) .none), #[]⟩) ::
  (nat_lit 555, (ob "code" (Data.fields #[(sv "mark" 807), (sv "Fetch.mark" 808), (sv "/claim/cut.py" 809), (.int 208 0), (.int 1 0), (.int 0 0), (.int 0 0), (.int 3 0), (rf 550), (.bool Bool.true), (.int 181 0), (rf 551), .none, (rf 552), (rf 553), (rf 554), (.int 811 0), (.int 208 0), (sv "/claim/cut.py" 812)]))) ::
  (nat_lit 556, ⟨(.type "function"), none, .func (W.fnOf (so "mark") (so "Fetch.mark") (defArgs st14) (defBody st14) (defScope st14) .none .none .none (sv "stitchroom.stitches" 194) none (rf 555) .none), #[]⟩) ::
  (nat_lit 572, (ob "dict" (Data.dict #[(dk P "__module__" 773 (sv "stitchroom.stitches" 194)), (dk P "__firstlineno__" 777 (.int 194 776)), (dk P "__init__" 785 (rf 528)), (dk P "takes" 792 (rf 535)), (dk P "gives" 799 (rf 542)), (dk P "ties" 806 (rf 549)), (dk P "mark" 813 (rf 556)), (dk P "mirrored" 820 (rf 563)), (dk P "turned" 827 (rf 570)), (dk P "__static_attributes__" 829 (rf 571)), (dk P "__doc__" 830 .none)] 2))) ::
  (nat_lit 573, (Obj.mk (.type "type") none (Data.cls (ClassData.mk (so "Fetch") [(rf 47)] [(rf 573), (rf 47), (.type "object")] 572 (so "Fetch") Bool.true [] [] Bool.false none Bool.false)) #[(some (rf 515)), none, (some (sv "Fetch" 766)), (some (sv "Fetch" 774)), (some (.builtin "object.__new__")), (some (.bool Bool.true))])) ::
  (nat_lit 579, (ob "code" (Data.fields #[(sv "worth" 835), (sv "worth" 836), (sv "/claim/cut.py" 837), (.int 217 0), (.int 2 0), (.int 0 0), (.int 0 0), (.int 3 0), (rf 576), (.bool Bool.true), (.int 181 0), (rf 577), .none, .none, .none, (rf 578), (.int 838 0), (.int 217 0), (sv "/claim/cut.py" 839)]))) ::
  (nat_lit 580, ⟨(.type "function"), none, .func (W.fnOf (so "worth") (so "worth") (defArgs st15) (defBody st15) (defScope st15) .none .none .none (sv "stitchroom.sums" 833) none (rf 579) .none), #[]⟩) ::
  (nat_lit 586, (ob "code" (Data.fields #[(sv "unrolled" 843), (sv "unrolled" 844), (sv "/claim/cut.py" 845), (.int 220 0), (.int 2 0), (.int 0 0), (.int 0 0), (.int 3 0), (rf 581), (.bool Bool.true), (.int 181 0), (rf 582), .none, (rf 583), (rf 584), (rf 585), (.int 850 0), (.int 220 0), (sv "/claim/cut.py" 851)]))) ::
  (nat_lit 587, ⟨(.type "function"), none, .func (W.fnOf (so "unrolled") (so "unrolled") (defArgs st16) (defBody st16) (defScope st16) .none .none .none (sv "stitchroom.rows" 841) none (rf 586) .none), #[]⟩) ::
  (nat_lit 593, (ob "code" (Data.fields #[(sv "unrolled_often" 853), (sv "unrolled_often" 854), (sv "/claim/cut.py" 855), (.int 228 0), (.int 3 0), (.int 0 0), (.int 0 0), (.int 3 0), (rf 588), (.bool Bool.true), (.int 181 0), (rf 589), .none, (rf 590), (rf 591), (rf 592), (.int 860 0), (.int 228 0), (sv "/claim/cut.py" 861)]))) ::
  (nat_lit 594, ⟨(.type "function"), none, .func (W.fnOf (so "unrolled_often") (so "unrolled_often") (defArgs st17) (defBody st17) (defScope st17) .none .none .none (sv "stitchroom.rows" 841) none (rf 593) .none), #[]⟩) ::
  (nat_lit 600, (ob "code" (Data.fields #[(sv "_law_cell_at" 865), (sv "_law_cell_at" 866), (sv "/claim/cut.py" 867), (.int 232 0), (.int 2 0), (.int 0 0), (.int 0 0), (.int 3 0), (rf 595), (.bool Bool.true), (.int 181 0), (rf 596), .none, (rf 597), (rf 598), (rf 599), (.int 870 0), (.int 232 0), (sv "/claim/cut.py" 871)]))) ::
  (nat_lit 601, ⟨(.type "function"), none, .func (W.fnOf (so "_law_cell_at") (so "_law_cell_at") (defArgs st18) (defBody st18) (defScope st18) .none .none .none (sv "law_stitchroom_k20_unrolled" 863) none (rf 600) .none), #[]⟩) ::
  (nat_lit 607, (ob "code" (Data.fields #[(sv "_law_stitch" 873), (sv "_law_stitch" 874), (sv "/claim/cut.py" 875), (.int 236 0), (.int 2 0), (.int 0 0), (.int 0 0), (.int 3 0), (rf 602), (.bool Bool.true), (.int 181 0), (rf 603), .none, (rf 604), (rf 605), (rf 606), (.int 880 0), (.int 236 0), (sv "/claim/cut.py" 881)]))) ::
  (nat_lit 608, ⟨(.type "function"), none, .func (W.fnOf (so "_law_stitch") (so "_law_stitch") (defArgs st19) (defBody st19) (defScope st19) .none .none .none (sv "law_stitchroom_k20_unrolled" 863) none (rf 607) .none), #[]⟩) ::
  (nat_lit 614, (ob "code" (Data.fields #[(sv "_law_sum" 883), (sv "_law_sum" 884), (sv "/claim/cut.py" 885), (.int 251 0), (.int 1 0), (.int 0 0), (.int 0 0), (.int 3 0), (rf 609), (.bool Bool.true), (.int 181 0), (rf 610), .none, (rf 611), (rf 612), (rf 613), (.int 887 0), (.int 251 0), (sv "/claim/cut.py" 888)]))) ::
  (nat_lit 615, ⟨(.type "function"), none, .func (W.fnOf (so "_law_sum") (so "_law_sum") (defArgs st20) (defBody st20) (defScope st20) .none .none .none (sv "law_stitchroom_k20_unrolled" 863) none (rf 614) .none), #[]⟩) ::
  (nat_lit 621, (ob "code" (Data.fields #[(sv "_law_often" 890), (sv "_law_often" 891), (sv "/claim/cut.py" 892), (.int 253 0), (.int 2 0), (.int 0 0), (.int 0 0), (.int 3 0), (rf 616), (.bool Bool.true), (.int 181 0), (rf 617), .none, (rf 618), (rf 619), (rf 620), (.int 897 0), (.int 253 0), (sv "/claim/cut.py" 898)]))) ::
  (nat_lit 622, ⟨(.type "function"), none, .func (W.fnOf (so "_law_often") (so "_law_often") (defArgs st21) (defBody st21) (defScope st21) .none .none .none (sv "law_stitchroom_k20_unrolled" 863) none (rf 621) .none), #[]⟩) ::
  (nat_lit 628, (ob "code" (Data.fields #[(sv "_law_joined" 900), (sv "_law_joined" 901), (sv "/claim/cut.py" 902), (.int 258 0), (.int 1 0), (.int 0 0), (.int 0 0), (.int 3 0), (rf 623), (.bool Bool.true), (.int 181 0), (rf 624), .none, (rf 625), (rf 626), (rf 627), (.int 906 0), (.int 258 0), (sv "/claim/cut.py" 907)]))) ::
  (nat_lit 629, ⟨(.type "function"), none, .func (W.fnOf (so "_law_joined") (so "_law_joined") (defArgs st22) (defBody st22) (defScope st22) .none .none .none (sv "law_stitchroom_k20_unrolled" 863) none (rf 628) .none), #[]⟩) ::
  (nat_lit 635, (ob "code" (Data.fields #[(sv "_law_marks" 909), (sv "_law_marks" 910), (sv "/claim/cut.py" 911), (.int 263 0), (.int 1 0), (.int 0 0), (.int 0 0), (.int 3 0), (rf 630), (.bool Bool.true), (.int 181 0), (rf 631), .none, (rf 632), (rf 633), (rf 634), (.int 915 0), (.int 263 0), (sv "/claim/cut.py" 916)]))) ::
  (nat_lit 636, ⟨(.type "function"), none, .func (W.fnOf (so "_law_marks") (so "_law_marks") (defArgs st23) (defBody st23) (defScope st23) .none .none .none (sv "law_stitchroom_k20_unrolled" 863) none (rf 635) .none), #[]⟩) ::
  (nat_lit 642, (ob "code" (Data.fields #[(sv "_law_one" 918), (sv "_law_one" 919), (sv "/claim/cut.py" 920), (.int 271 0), (.int 1 0), (.int 0 0), (.int 0 0), (.int 3 0), (rf 637), (.bool Bool.true), (.int 181 0), (rf 638), .none, (rf 639), (rf 640), (rf 641), (.int 922 0), (.int 271 0), (sv "/claim/cut.py" 923)]))) ::
  (nat_lit 643, ⟨(.type "function"), none, .func (W.fnOf (so "_law_one") (so "_law_one") (defArgs st24) (defBody st24) (defScope st24) .none .none .none (sv "law_stitchroom_k20_unrolled" 863) none (rf 642) .none), #[]⟩) ::
  (nat_lit 649, (ob "code" (Data.fields #[(sv "_law_drawn" 925), (sv "_law_drawn" 926), (sv "/claim/cut.py" 927), (.int 277 0), (.int 2 0), (.int 0 0), (.int 0 0), (.int 3 0), (rf 644), (.bool Bool.true), (.int 181 0), (rf 645), .none, (rf 646), (rf 647), (rf 648), (.int 940 0), (.int 277 0), (sv "/claim/cut.py" 941)]))) ::
  (nat_lit 650, ⟨(.type "function"), none, .func (W.fnOf (so "_law_drawn") (so "_law_drawn") (defArgs st25) (defBody st25) (defScope st25) .none .none .none (sv "law_stitchroom_k20_unrolled" 863) none (rf 649) .none), #[]⟩) ::
  (nat_lit 656, (ob "code" (Data.fields #[(sv "_law_as_told" 943), (sv "_law_as_told" 944), (sv "/claim/cut.py" 945), (.int 298 0), (.int 2 0), (.int 0 0), (.int 0 0), (.int 3 0), (rf 651), (.bool Bool.true), (.int 181 0), (rf 652), .none, (rf 653), (rf 654), (rf 655), (.int 949 0), (.int 298 0), (sv "/claim/cut.py" 950)]))) ::
  (nat_lit 657, ⟨(.type "function"), none, .func (W.fnOf (so "_law_as_told") (so "_law_as_told") (defArgs st26) (defBody st26) (defScope st26) .none .none .none (sv "law_stitchroom_k20_unrolled" 863) none (rf 656) .none), #[]⟩) ::
  (nat_lit 661, (ob "code" (Data.fields #[(sv "law" 952), (sv "law" 953), (sv "/claim/cut.py" 954), (.int 305 0), (.int 1 0), (.int 0 0), (.int 0 0), (.int 3 0), (rf 658), (.bool Bool.true), (.int 181 0), (rf 659), .none, .none, .none, (rf 660), (.int 955 0), (.int 305 0), (sv "/claim/cut.py" 956)]))) ::
  (nat_lit 662, ⟨(.type "function"), none, .func (W.fnOf (so "law") (so "law") (defArgs st27) (defBody st27) (defScope st27) .none .none .none (sv "law_stitchroom_k20_unrolled" 863) none (rf 661) .none), #[]⟩) :: []
def KA : List Addr := [2, 3, 22, 23, 46, 47, 48, 49, 64, 65, 92, 93, 109, 110, 146, 147, 163, 164, 200, 201, 217, 218, 233, 234, 261, 262, 278, 279, 294, 295, 320, 321, 337, 338, 353, 354, 379, 380, 396, 397, 433, 434, 450, 451, 466, 467, 494, 495, 511, 512, 527, 528, 555, 556, 572, 573, 579, 580, 586, 587, 593, 594, 600, 601, 607, 608, 614, 615, 621, 622, 628, 629, 635, 636, 642, 643, 649, 650, 656, 657, 661, 662]
theorem hKA : ∀ P, KA = (K P).map (·.1) := fun _ => by kernel_rfl
abbrev hXt : Shared → Bool := fun s => W.xlAt hq [] s && W.recOk (W.RowW.records hr) s
theorem hop : W.opening hp = W.plainProg hp.main.scope.names := by kernel_rfl
theorem hfm : ∀ s, PySem.fenceModules? hp s = some s := fun s => by kernel_rfl
theorem hbo : ∀ w : World, W.absHeap (hB.t w.params) hB.n hB.life = W.boot_heap w.params := fun w => by kernel_rfl
theorem hsz : ∀ w : World, ((W.boot_heap w.params).isNs mainGlobals, (W.boot_heap w.params).objs.size, (W.boot_heap w.params).nsMap mainGlobals "__annotations__") = (true, 11, some (.ref 6)) := fun w => by kernel_rfl
abbrev hYf : Shared → List (Option Obj) := fun s => KA.map s.heap.get?
noncomputable abbrev hYa : World → List (Option Obj) := fun w => (K w.params).map fun p => some p.2
abbrev hN : Nat := 9298
abbrev hn6 : Option Value := some (.ref 6)
abbrev hS (w : World) : Prop := Iv.RunT hp hq hlo hXt hYf hYa 9298 true hB 11 (some (.ref 6)) w
abbrev wF (w : World) : World := w.withFollow "special-get-raises" false
abbrev wT (w : World) : World := w.withFollow "special-get-raises" true
theorem hrun0C0 (w : World) : Iv.PC hp hN hB 11 hn6 KA (hYa (wF w)) (wF w) := fun os => by kernel_rfl
theorem hrun0L (w : World) : Iv.PL hp hq hlo hXt hN true hB 11 hn6 (wF w) := fun os => by kernel_rfl
theorem hrun0 (w : World) : hS (wF w) := Iv.parts_run2 (hrun0L w) (hrun0C0 w)
theorem hrun1C0 (w : World) : Iv.PC hp hN hB 11 hn6 KA (hYa (wT w)) (wT w) := fun os => by kernel_rfl
theorem hrun1L (w : World) : Iv.PL hp hq hlo hXt hN true hB 11 hn6 (wT w) := fun os => by kernel_rfl
theorem hrun1 (w : World) : hS (wT w) := Iv.parts_run2 (hrun1L w) (hrun1C0 w)
theorem hrun : ∀ w, hS w := W.byRow2 "special-get-raises" hrun0 hrun1
theorem hleft : W.LeftO hp hq hlo hXt hYf hYa 9298 true := Iv.left_tree hop (by decide) hfm hbo hsz hrun
theorem eq_int {T : Tbl} {i j : Int} {hs : Hs} : eqA T (.int i 0) (.int j 0) hs = some (decide (i = j)) := rfl
def yy := And.intro @y_bd (And.intro @y_nil (And.intro @y_cons (And.intro @y_expr (And.intro @y_set (And.intro @y_ret (And.intro @y_ite (And.intro @y_loop (And.intro @y_put (And.intro @y_c (And.intro @y_con (And.intro @y_var (And.intro @y_op (And.intro @y_neg (And.intro @y_cmp (And.intro @y_not (And.intro @y_ife (And.intro @y_tup (And.intro @y_lst (And.intro @y_ix (And.intro @y_sl (And.intro @y_call (And.intro @y_bi (And.intro @y_isi (And.intro @y_bm (And.intro @y_comp (And.intro @y_dnew (And.intro @y_chain (And.intro @y_and (And.intro @y_or (And.intro @y_aug (And.intro @y_unp (And.intro @y_par (And.intro @y_Tnot (And.intro @y_Tand (And.intro @y_Tor (And.intro @y_Tcmp (And.intro @y_Tvar (And.intro @y_Tisi @y_Tcall))))))))))))))))))))))))))))))))))))))
theorem eq_str {T : Tbl} {x y : List Nat} {hs : Hs} : eqA T (.str x) (.str y) hs = some (decide (x = y)) := rfl
theorem at0 {hs : Hs} {a : O} {r : Hs} : (hs ++ a :: r)[hs.length]? = some a := by rw [List.getElem?_append_right (Nat.le_refl _), Nat.sub_self]; rfl
theorem set0 {hs : Hs} {a b : O} : (hs ++ [a]).set hs.length b = hs ++ [b] := by rw [List.set_append_right _ _ (Nat.le_refl _)]; simp
theorem keepR {hs : Hs} {r : Hs} {p : Nat} {o : O} (h : hs[p]? = some o) : (hs ++ r)[p]? = some o := by
  rw [List.getElem?_append_left (List.getElem?_eq_some_iff.mp h).1]; exact h
def Kp (hs hs' : Hs) : Prop := ∀ (p : Nat) o, hs[p]? = some o → hs'[p]? = some o
theorem Kp.refl (hs : Hs) : Kp hs hs := fun _ _ h => h
theorem Kp.app (hs r : Hs) : Kp hs (hs ++ r) := fun _ _ h => keepR h
theorem Kp.trans {a b c : Hs} (h : Kp a b) (h' : Kp b c) : Kp a c := fun p o e => h' p o (h p o e)
section
variable {T : Tbl} {cf : Cf} {d : Nat} {ρ : Rho} {hs h1 : Hs}
theorem y_sfld {o e : E} {f : Nat} : ex T cf (d + 1) (.fld o f e) ρ hs = bd (ev T cf d e ρ hs) fun u h1 => bd (ev T cf d o ρ h1) fun x h2 => (match x with
      | .ref n => match h2[n]? with
        | some (.ins c fs) => if fs.length < 500 then some (.next, ρ, h2.set n (.ins c (putU f u fs))) else none
        | _ => none
      | _ => none) := by rw [ex] <;> rfl
theorem y_make {c : Nat} {es : List E} : ev T cf (d + 1) (.make c es) ρ hs = bd (evs (ev T cf d) ρ es hs) fun us h1 => makeU T cf c us h1 := by rw [ev]
theorem y_tab {k : Nat} {b : E} : ev T cf (d + 1) (.tab k b) ρ hs = bd (ev T cf d b ρ hs) fun w h1 => (tabU T k w).map fun x => (x, h1) := by rw [ev]
end
theorem drop_cons {α : Type} {us vs : List α} {u : α} {i : Nat} (h : us.drop i = u :: vs) : us[i]? = some u ∧ us.drop (i + 1) = vs ∧ u ∈ us := by
  have h1 : us[i]? = some u := by
    have := List.getElem?_drop (xs := us) (i := i) (j := 0)
    rw [h] at this
    simpa using this.symm
  refine ⟨h1, ?_, List.mem_of_getElem? h1⟩
  rw [← List.drop_drop, h]
  rfl
theorem drop_nil {α : Type} {us : List α} {i : Nat} (h : us.drop i = []) : us[i]? = none := by
  have := List.drop_eq_nil_iff.mp h
  exact List.getElem?_eq_none this
theorem for_each {T : Tbl} {body : Ex} {x : Nat} {hs0 : Hs} {l : Nat} {us : List U} (I : Nat → Rho → Hs → Prop) (hl : hs0[l]? = some (.lst us)) (keep : ∀ i ρ h, I i ρ h → Kp hs0 h)
    (step : ∀ i u ρ h, us[i]? = some u → I i ρ h → ∃ ρ' h', I (i + 1) ρ' h' ∧ body (ρ.set x (some u)) h = some (.next, ρ', h')) : ∀ (vs : List U) (i : Nat) (ρ : Rho) (h : Hs), us.drop i = vs → i ≤ us.length → I i ρ h →
    ∃ ρ' h', I us.length ρ' h' ∧ forU T (.seqL (.ref l)) (.name x) body (vs.length + 1) i ρ h = some (.next, ρ', h')
  | [], i, ρ, h, hd, hi, hI => ⟨ρ, h, by
    have := List.drop_eq_nil_iff.mp hd
    rw [show us.length = i by omega]
    exact hI, by
    have n0 := drop_nil hd
    rw [forU]
    simp only [itm, lstU, keep i ρ h hI l _ hl, Option.map_some, n0, Option.map_none]⟩
  | u :: vs, i, ρ, h, hd, hi, hI => by
    obtain ⟨g1, g2, g3⟩ := drop_cons hd
    have lt := (List.getElem?_eq_some_iff.mp g1).1
    obtain ⟨ρ1, h1, I1, e⟩ := step i u ρ h g1 hI
    obtain ⟨ρ2, h2, I2, e'⟩ := for_each I hl keep step vs (i + 1) ρ1 h1 g2 (by omega) I1
    refine ⟨ρ2, h2, I2, ?_⟩
    rw [List.length_cons, forU]
    simp only [itm, lstU, keep i ρ h hI l _ hl, Option.map_some, g1, tgt, e]
    exact e'
theorem at_mod {α : Type} (l : List α) (k : Nat) (hk : l.length = k) (h : 0 < k) (x : Int) : ∃ c, c ∈ l ∧ atU l (x % (k : Int)) = some c := by
  subst hk
  have h0 : 0 ≤ x % (l.length : Int) := Int.emod_nonneg _ (by omega)
  have h1 : x % (l.length : Int) < l.length := Int.emod_lt_of_pos _ (by omega)
  have lt : (x % (l.length : Int)).toNat < l.length := by omega
  refine ⟨l[(x % (l.length : Int)).toNat], List.getElem_mem lt, ?_⟩
  unfold atU ixU
  rw [if_pos h0, if_pos h1]
  simp [lt]
theorem eq_nil {T : Tbl} {l l' : Nat} {us : List U} {hs : Hs} (hl : hs[l]? = some (.lst us)) (hl' : hs[l']? = some (.lst [])) : cmpU T .Eq (.ref l) (.ref l') hs = some (decide (us = [])) ∧ cmpU T .NotEq (.ref l) (.ref l') hs = some (decide (us ≠ [])) := by
  have a : lstU T (.ref l) hs = some us := by simp only [lstU, hl]
  have b : lstU T (.ref l') hs = some [] := by simp only [lstU, hl']
  have e : eqA T (.ref l) (.ref l') hs = some (decide (us = [])) := by
    unfold eqA
    rw [show eqS (.ref l) (.ref l') = none from rfl]
    cases us with
    | cons y r =>
      have n : lenNe T (.ref l) (.ref l') hs = true := by unfold lenNe; rw [a, b]; rfl
      show (if lenNe T (.ref l) (.ref l') hs = true then some false else _) = _
      rw [if_pos n]
      rfl
    | nil =>
      have n : lenNe T (.ref l) (.ref l') hs = false := by unfold lenNe; rw [a, b]; rfl
      have o : ∀ p, lstU T (.ref p) hs = some [] → okW T 20 (.ref p) hs = true := fun p h => by
        show (match lstU T (.ref p) hs with | some xs => xs.all fun x => okW T 19 x hs | none => _) = true
        rw [h]
        rfl
      have w : eqW T 20 (.ref l) (.ref l') hs = true := by
        show (match lstU T (.ref l) hs with
          | some xs => (match lstU T (.ref l') hs with
            | some ys => (xs.length == ys.length) && (xs.zip ys).all fun p => eqW T 19 p.1 p.2 hs
            | none => false)
          | none => _) = true
        rw [a, b]
        rfl
      show (if lenNe T (.ref l) (.ref l') hs = true then some false else if sameR T (.ref l) (.ref l') hs = true then some true else _) = _
      have sr : sameR T (.ref l) (.ref l') hs = true := by unfold sameR; rw [a, b]; rfl
      rw [n, if_neg (by decide), if_pos sr]
      rfl
  refine ⟨e, ?_⟩
  show (eqA T (.ref l) (.ref l') hs).map (!·) = _
  rw [e]
  simp
section
variable {T : Tbl} {cf : Cf} {d : Nat} {ρ : Rho} {hs h1 : Hs}
theorem y_fld {a : E} {f : Nat} : ev T cf (d + 1) (.fld a f) ρ hs = bd (ev T cf d a ρ hs) fun u h1 => (match u with
      | .ref n => match h1[n]? with
        | some (.ins _ fs) => (fs.lookup f).map fun x => (x, h1)
        | _ => none
      | _ => none) := by rw [ev] <;> rfl
theorem y_meth {m : Nat} {o : E} {es : List E} : ev T cf (d + 1) (.meth m o es) ρ hs = bd (ev T cf d o ρ hs) fun u h1 => (match methL T m u h1 with
      | some f => bd (evs (ev T cf d) ρ es h1) fun us h2 => cf f (u :: us) h2
      | none => none) := by rw [ev] <;> rfl
end
theorem Kp.put {a b : Hs} {j : Nat} {o : O} (h : Kp a b) (hj : a.length ≤ j) : Kp a (b.set j o) := fun p x e => by
  have lt := (List.getElem?_eq_some_iff.mp e).1
  rw [List.getElem?_set_ne (by omega)]
  exact h p x e
theorem c_init {s : List U} {n : Nat} {hs : Hs} : (∀ a, callF (tb s) (n + 1) 0 [.ref hs.length, a] (hs ++ [.ins 1 []]) = some (.non, hs ++ [.ins 1 [(0, a)]])) ∧
    (∀ a b c, callF (tb s) (n + 1) 4 [.ref hs.length, a, b, c] (hs ++ [.ins 4 []]) = some (.non, hs ++ [.ins 4 [(1, a), (2, b), (0, c)]])) ∧
    (∀ a b, callF (tb s) (n + 1) 6 [.ref hs.length, a, b] (hs ++ [.ins 5 []]) = some (.non, hs ++ [.ins 5 [(1, a), (0, b)]])) ∧
    (∀ a b c d, callF (tb s) (n + 1) 8 [.ref hs.length, a, b, c, d] (hs ++ [.ins 6 []]) = some (.non, hs ++ [.ins 6 [(3, a), (4, b), (2, c), (0, d)]])) ∧
    (∀ a, callF (tb s) (n + 1) 11 [.ref hs.length, a] (hs ++ [.ins 8 []]) = some (.non, hs ++ [.ins 8 [(5, a)]])) ∧
    (∀ a, callF (tb s) (n + 1) 13 [.ref hs.length, a] (hs ++ [.ins 9 []]) = some (.non, hs ++ [.ins 9 [(5, a)]])) := by
  refine ⟨fun a => ?_, fun a b c => ?_, fun a b => ?_, fun a b c d => ?_, fun a => ?_, fun a => ?_⟩
  · rw [y_callF fnL[0] rfl rfl]
    show fin (exs (tb s) (callF (tb s) n) 100 b0 [some (.ref hs.length), some a] _) = _
    simp [b0, yy, evs, evO, srcU, turns, cmpU, eq_int, truU, subU, opU, addI, biU, biL, slU, fin, y_sfld, at0, set0, putU]
  · rw [y_callF fnL[4] rfl rfl]
    show fin (exs (tb s) (callF (tb s) n) 100 b4 [some (.ref hs.length), some a, some b, some c] _) = _
    simp [b4, yy, evs, evO, srcU, turns, cmpU, eq_int, truU, subU, opU, addI, biU, biL, slU, fin, y_sfld, at0, set0, putU]
  · rw [y_callF fnL[6] rfl rfl]
    show fin (exs (tb s) (callF (tb s) n) 100 b6 [some (.ref hs.length), some a, some b] _) = _
    simp [b6, yy, evs, evO, srcU, turns, cmpU, eq_int, truU, subU, opU, addI, biU, biL, slU, fin, y_sfld, at0, set0, putU]
  · rw [y_callF fnL[8] rfl rfl]
    show fin (exs (tb s) (callF (tb s) n) 100 b8 [some (.ref hs.length), some a, some b, some c, some d] _) = _
    simp [b8, yy, evs, evO, srcU, turns, cmpU, eq_int, truU, subU, opU, addI, biU, biL, slU, fin, y_sfld, at0, set0, putU]
  · rw [y_callF fnL[11] rfl rfl]
    show fin (exs (tb s) (callF (tb s) n) 100 b11 [some (.ref hs.length), some a] _) = _
    simp [b11, yy, evs, evO, srcU, turns, cmpU, eq_int, truU, subU, opU, addI, biU, biL, slU, fin, y_sfld, at0, set0, putU]
  · rw [y_callF fnL[13] rfl rfl]
    show fin (exs (tb s) (callF (tb s) n) 100 b13 [some (.ref hs.length), some a] _) = _
    simp [b13, yy, evs, evO, srcU, turns, cmpU, eq_int, truU, subU, opU, addI, biU, biL, slU, fin, y_sfld, at0, set0, putU]
theorem c_make {s : List U} {n : Nat} {hs : Hs} : (∀ a, makeU (tb s) (callF (tb s) (n + 1)) 1 [a] hs = some (.ref hs.length, hs ++ [.ins 1 [(0, a)]])) ∧
    (∀ a b c, makeU (tb s) (callF (tb s) (n + 1)) 4 [a, b, c] hs = some (.ref hs.length, hs ++ [.ins 4 [(1, a), (2, b), (0, c)]])) ∧
    (∀ a b, makeU (tb s) (callF (tb s) (n + 1)) 5 [a, b] hs = some (.ref hs.length, hs ++ [.ins 5 [(1, a), (0, b)]])) ∧
    (∀ a b c d, makeU (tb s) (callF (tb s) (n + 1)) 6 [a, b, c, d] hs = some (.ref hs.length, hs ++ [.ins 6 [(3, a), (4, b), (2, c), (0, d)]])) ∧
    (∀ a, makeU (tb s) (callF (tb s) (n + 1)) 8 [a] hs = some (.ref hs.length, hs ++ [.ins 8 [(5, a)]])) ∧
    (∀ a, makeU (tb s) (callF (tb s) (n + 1)) 9 [a] hs = some (.ref hs.length, hs ++ [.ins 9 [(5, a)]])) ∧
    (makeU (tb s) (callF (tb s) (n + 1)) 2 [] hs = some (.ref hs.length, hs ++ [.ins 2 []])) ∧
    (makeU (tb s) (callF (tb s) (n + 1)) 3 [] hs = some (.ref hs.length, hs ++ [.ins 3 []])) ∧
    (makeU (tb s) (callF (tb s) (n + 1)) 7 [] hs = some (.ref hs.length, hs ++ [.ins 7 []])) := by
  obtain ⟨h1, h2, h3, h4, h5, h6⟩ := c_init (s := s) (n := n) (hs := hs)
  refine ⟨fun a => ?_, fun a b c => ?_, fun a b => ?_, fun a b c d => ?_, fun a => ?_, fun a => ?_, rfl, rfl, rfl⟩
  · show (match callF (tb s) (n + 1) 0 [.ref hs.length, a] (hs ++ [.ins 1 []]) with | some (.non, h2) => some (U.ref hs.length, h2) | _ => none) = _; rw [h1]
  · show (match callF (tb s) (n + 1) 4 [.ref hs.length, a, b, c] (hs ++ [.ins 4 []]) with | some (.non, h2) => some (U.ref hs.length, h2) | _ => none) = _; rw [h2]
  · show (match callF (tb s) (n + 1) 6 [.ref hs.length, a, b] (hs ++ [.ins 5 []]) with | some (.non, h2) => some (U.ref hs.length, h2) | _ => none) = _; rw [h3]
  · show (match callF (tb s) (n + 1) 8 [.ref hs.length, a, b, c, d] (hs ++ [.ins 6 []]) with | some (.non, h2) => some (U.ref hs.length, h2) | _ => none) = _; rw [h4]
  · show (match callF (tb s) (n + 1) 11 [.ref hs.length, a] (hs ++ [.ins 8 []]) with | some (.non, h2) => some (U.ref hs.length, h2) | _ => none) = _; rw [h5]
  · show (match callF (tb s) (n + 1) 13 [.ref hs.length, a] (hs ++ [.ins 9 []]) with | some (.non, h2) => some (U.ref hs.length, h2) | _ => none) = _; rw [h6]
def Sd (x : Int) (c : Nat) : Prop := (x = 1 ∧ c = 107) ∨ (x = -1 ∧ c = 112)
def Cd (x : Int) (c : Nat) : Prop := (x = 1 ∧ c = 99) ∨ (x = -1 ∧ c = 113)
def Dg (x : Int) (c : Nat) : Prop := (x = 1 ∧ c = 49) ∨ (x = 2 ∧ c = 50) ∨ (x = 3 ∧ c = 51) ∨ (x = 4 ∧ c = 52)
inductive MkO : O → List Nat → Prop where
  | plain {x : Int} {c : Nat} : Sd x c → MkO (.ins 1 [(0, .int x 0)]) [c]
  | slip : MkO (.ins 2 []) [115]
  | over : MkO (.ins 3 []) [111]
  | off : MkO (.ins 7 []) [98]
  | keep {e : Nat} : e < 128 → MkO (.ins 8 [(5, .str [e])]) [104, e]
  | fetch {e : Nat} : e < 128 → MkO (.ins 9 [(5, .str [e])]) [102, e]
  | lean {x k : Int} {c e f : Nat} : Sd x c → Dg k e → f < 128 → MkO (.ins 4 [(1, .int k 0), (2, .str [f]), (0, .int x 0)]) [c, e, f]
  | grow {x k : Int} {c f : Nat} : Sd x c → Dg k f → MkO (.ins 5 [(1, .int k 0), (0, .int x 0)]) [c, 120, f]
  | cross {x k j : Int} {c e f g : Nat} : Cd x c → Dg k e → f < 128 → Dg j g → MkO (.ins 6 [(3, .int k 0), (4, .int j 0), (2, .str [f]), (0, .int x 0)]) [c, e, f, g]
theorem s1 {s : List U} {x : Int} {c : Nat} (h : Sd x c) : tabU (tb s) 0 (.int x 0) = some (.str [c]) := by
  rcases h with ⟨rfl, rfl⟩ | ⟨rfl, rfl⟩ <;> rfl
theorem s2 {s : List U} {x : Int} {c : Nat} (h : Cd x c) : tabU (tb s) 1 (.int x 0) = some (.str [c]) := by
  rcases h with ⟨rfl, rfl⟩ | ⟨rfl, rfl⟩ <;> rfl
theorem sg {T : Tbl} {x : Int} {c : Nat} {hs : Hs} (h : Dg x c) : biU T .str [.int x 0] hs = some (.str [c], hs) := by
  rcases h with ⟨rfl, rfl⟩ | ⟨rfl, rfl⟩ | ⟨rfl, rfl⟩ | ⟨rfl, rfl⟩ <;> rfl
theorem e_eq {T : Tbl} {x y : List Nat} {hs : Hs} : cmpU T .Eq (.str x) (.str y) hs = some (decide (x = y)) := rfl
theorem e_ne {T : Tbl} {x y : List Nat} {hs : Hs} : cmpU T .NotEq (.str x) (.str y) hs = some (!decide (x = y)) := rfl
theorem e_eqi {T : Tbl} {i j : Int} {hs : Hs} : cmpU T .Eq (.int i 0) (.int j 0) hs = some (decide (i = j)) := rfl
theorem e_nei {T : Tbl} {i j : Int} {hs : Hs} : cmpU T .NotEq (.int i 0) (.int j 0) hs = some (!decide (i = j)) := rfl
theorem c_mrk {s : List U} {n p : Nat} {hs : Hs} {o : O} {m : List Nat} (hp : hs[p]? = some o) (h : MkO o m) : ∃ f, methL (tb s) 4 (.ref p) hs = some f ∧ callF (tb s) (n + 1) f [.ref p] hs = some (.str m, hs) := by
  cases h with
  | plain a =>
    refine ⟨1, by simp only [methL, hp]; rfl, ?_⟩
    rw [y_callF fnL[1] rfl rfl]
    show fin (exs (tb s) (callF (tb s) n) 100 b1 [some (.ref p)] hs) = _
    have a1 := s1 (s := s) a
    simp [b1, yy, evs, evO, srcU, turns, cmpU, eq_int, truU, subU, opU, addI, biU, biL, slU, fin, y_fld, y_tab, hp, a1]
  | slip =>
    refine ⟨2, by simp only [methL, hp]; rfl, ?_⟩
    rw [y_callF fnL[2] rfl rfl]
    show fin (exs (tb s) (callF (tb s) n) 100 b2 [some (.ref p)] hs) = _
    simp [b2, yy, evs, evO, srcU, turns, cmpU, eq_int, truU, subU, opU, addI, biU, biL, slU, fin]
  | over =>
    refine ⟨3, by simp only [methL, hp]; rfl, ?_⟩
    rw [y_callF fnL[3] rfl rfl]
    show fin (exs (tb s) (callF (tb s) n) 100 b3 [some (.ref p)] hs) = _
    simp [b3, yy, evs, evO, srcU, turns, cmpU, eq_int, truU, subU, opU, addI, biU, biL, slU, fin]
  | off =>
    refine ⟨10, by simp only [methL, hp]; rfl, ?_⟩
    rw [y_callF fnL[10] rfl rfl]
    show fin (exs (tb s) (callF (tb s) n) 100 b10 [some (.ref p)] hs) = _
    simp [b10, yy, evs, evO, srcU, turns, cmpU, eq_int, truU, subU, opU, addI, biU, biL, slU, fin]
  | keep =>
    refine ⟨12, by simp only [methL, hp]; rfl, ?_⟩
    rw [y_callF fnL[12] rfl rfl]
    show fin (exs (tb s) (callF (tb s) n) 100 b12 [some (.ref p)] hs) = _
    simp [b12, yy, evs, evO, srcU, turns, cmpU, eq_int, truU, subU, opU, addI, biU, biL, slU, fin, y_fld, hp]
  | fetch =>
    refine ⟨14, by simp only [methL, hp]; rfl, ?_⟩
    rw [y_callF fnL[14] rfl rfl]
    show fin (exs (tb s) (callF (tb s) n) 100 b14 [some (.ref p)] hs) = _
    simp [b14, yy, evs, evO, srcU, turns, cmpU, eq_int, truU, subU, opU, addI, biU, biL, slU, fin, y_fld, hp]
  | lean a b =>
    refine ⟨5, by simp only [methL, hp]; rfl, ?_⟩
    rw [y_callF fnL[5] rfl rfl]
    show fin (exs (tb s) (callF (tb s) n) 100 b5 [some (.ref p)] hs) = _
    have a1 := s1 (s := s) a
    have a2 := sg (T := tb s) (hs := hs) b
    simp [b5, yy, evs, evO, srcU, turns, cmpU, eq_int, truU, subU, opU, addI, slU, fin, y_fld, y_tab, hp, a1, a2, List.lookup]
  | grow a b =>
    refine ⟨7, by simp only [methL, hp]; rfl, ?_⟩
    rw [y_callF fnL[7] rfl rfl]
    show fin (exs (tb s) (callF (tb s) n) 100 b7 [some (.ref p)] hs) = _
    have a1 := s1 (s := s) a
    have a2 := sg (T := tb s) (hs := hs) b
    simp [b7, yy, evs, evO, srcU, turns, cmpU, eq_int, truU, subU, opU, addI, slU, fin, y_fld, y_tab, hp, a1, a2, List.lookup]
  | cross a b _ c =>
    refine ⟨9, by simp only [methL, hp]; rfl, ?_⟩
    rw [y_callF fnL[9] rfl rfl]
    show fin (exs (tb s) (callF (tb s) n) 100 b9 [some (.ref p)] hs) = _
    have a1 := s2 (s := s) a
    have a2 := sg (T := tb s) (hs := hs) b
    have a3 := sg (T := tb s) (hs := hs) c
    simp [b9, yy, evs, evO, srcU, turns, cmpU, eq_int, truU, subU, opU, addI, slU, fin, y_fld, y_tab, hp, a1, a2, a3, List.lookup]
theorem prLen {α β : Type} {P : α → β → Prop} {as : List α} {bs : List β} (h : Paired P as bs) : as.length = bs.length := by
  induction h with
  | nil => rfl
  | cons _ _ ih => simp [ih]
theorem prImp {α β : Type} {P P' : α → β → Prop} {as : List α} {bs : List β} (h : Paired P as bs) (i : ∀ a b, P a b → P' a b) : Paired P' as bs := by
  induction h with
  | nil => exact .nil
  | cons p _ ih => exact .cons (i _ _ p) ih
theorem prPut {α β : Type} {P : α → β → Prop} {as : List α} {bs : List β} {a : α} {b : β} (h : Paired P as bs) (p : P a b) : Paired P (as ++ [a]) (bs ++ [b]) := by
  induction h with
  | nil => exact .cons p .nil
  | cons q _ ih => exact .cons q ih
theorem prAt {α β : Type} {P : α → β → Prop} {as : List α} {bs : List β} (h : Paired P as bs) : ∀ {i : Nat} {a : α}, as[i]? = some a → ∃ b, bs[i]? = some b ∧ P a b := by
  induction h with
  | nil => intro i a e; simp at e
  | cons p _ ih =>
    intro i a e
    cases i with
    | zero => simp at e; subst e; exact ⟨_, rfl, p⟩
    | succ i => simpa using ih (by simpa using e)
abbrev stz (ms : List (List Nat)) : List U := ms.map U.str
theorem strsU_stz : ∀ (ms : List (List Nat)), strsU (stz ms) = some ms
  | [] => rfl
  | m :: ms => by simp [stz, strsU, strsU_stz ms]
def IsM (hs : Hs) (u : U) (m : List Nat) : Prop := ∃ (p : Nat) (o : O), u = .ref p ∧ hs[p]? = some o ∧ MkO o m
theorem IsM.keep {hs h1 : Hs} {u : U} {m : List Nat} (kp : Kp hs h1) : IsM hs u m → IsM h1 u m := fun ⟨p, o, e, h, k⟩ => ⟨p, o, e, kp _ _ h, k⟩
theorem for_lst {T : Tbl} {body : Ex} {x : Nat} {l : Nat} {us : List U} (I : Nat → Rho → Hs → Prop) (keep : ∀ i ρ h, I i ρ h → h[l]? = some (.lst us))
    (step : ∀ i u ρ h, us[i]? = some u → I i ρ h → ∃ ρ' h', I (i + 1) ρ' h' ∧ body (ρ.set x (some u)) h = some (.next, ρ', h')) : ∀ (k i : Nat) (ρ : Rho) (h : Hs), i + k = us.length → I i ρ h →
    ∃ ρ' h', I us.length ρ' h' ∧ forU T (.seqL (.ref l)) (.name x) body (k + 1) i ρ h = some (.next, ρ', h')
  | 0, i, ρ, h, hi, hI => ⟨ρ, h, by rw [← hi]; exact hI, by
    have n0 : us[i]? = none := List.getElem?_eq_none (by omega)
    rw [forU]
    simp only [itm, lstU, keep i ρ h hI, Option.map_some, n0, Option.map_none]⟩
  | k + 1, i, ρ, h, hi, hI => by
    have l1 : i < us.length := by omega
    obtain ⟨ρ1, h1, I1, e⟩ := step i us[i] ρ h (List.getElem?_eq_getElem l1) hI
    obtain ⟨ρ2, h2, I2, e'⟩ := for_lst I keep step k (i + 1) ρ1 h1 (by omega) I1
    refine ⟨ρ2, h2, I2, ?_⟩
    rw [forU]
    simp only [itm, lstU, keep i ρ h hI, Option.map_some, List.getElem?_eq_getElem l1, tgt, e]
    exact e'
theorem x_next {T : Tbl} {cf : Cf} {d : Nat} {st : S} {r : List S} {ρ ρ' : Rho} {hs h1 : Hs} (e : ex T cf d st ρ hs = some (.next, ρ', h1)) : exs T cf (d + 1) (st :: r) ρ hs = exs T cf d r ρ' h1 := by
  rw [y_cons, e]
theorem dg_of {x : Int} (h : 1 ≤ x) (h' : x ≤ 4) : ∃ c, Dg x c := by
  rcases (show x = 1 ∨ x = 2 ∨ x = 3 ∨ x = 4 by omega) with rfl | rfl | rfl | rfl
  · exact ⟨49, .inl ⟨rfl, rfl⟩⟩
  · exact ⟨50, .inr (.inl ⟨rfl, rfl⟩)⟩
  · exact ⟨51, .inr (.inr (.inl ⟨rfl, rfl⟩))⟩
  · exact ⟨52, .inr (.inr (.inr ⟨rfl, rfl⟩))⟩
theorem sd_of {x : Int} (h : x = 1 ∨ x = -1) : (∃ c, Sd x c) ∧ ∃ c, Cd x c := by
  rcases h with rfl | rfl
  · exact ⟨⟨107, .inl ⟨rfl, rfl⟩⟩, 99, .inl ⟨rfl, rfl⟩⟩
  · exact ⟨⟨112, .inr ⟨rfl, rfl⟩⟩, 113, .inr ⟨rfl, rfl⟩⟩
def Ob (hs h1 : Hs) (u : U) : Prop := ∃ (v : Nat) (o : O) (m : List Nat), u = .ref v ∧ h1[v]? = some o ∧ MkO o m ∧ hs.length ≤ v ∧ Kp hs h1
theorem ob_new {hs : Hs} {o : O} {m : List Nat} (h : MkO o m) : Ob hs (hs ++ [o]) (.ref hs.length) := ⟨hs.length, o, m, rfl, at0, h, Nat.le_refl _, Kp.app _ _⟩
theorem lt_of_mem {c : Nat} {l : List Nat} (h : c ∈ l) (k : ∀ x ∈ l, x < 128) : c < 128 := k c h
theorem e_lti {T : Tbl} {i j : Int} {hs : Hs} : cmpU T .Lt (.int i 0) (.int j 0) hs = some (decide (i < j)) := rfl
def s0 : S := .ite (.and (.cmp .NotEq (.var 1) (.c (.str []))) (.cmp .Eq (.op .Mod (.var 0) (.c (.int 4 0))) (.c (.int 1 0)))) [(.ret (.make 8 [(.ix (.var 1) (.op .Mod (.op .FloorDiv (.var 0) (.c (.int 4 0))) (.bi .len [(.var 1)])))]))] []
def s1' : S := .set 2 (.op .Mod (.op .Mult (.var 0) (.c (.int 37 0))) (.c (.int 87 0)))
def s2' : S := .set 3 (.op .Sub (.c (.int 1 0)) (.op .Mult (.op .FloorDiv (.var 2) (.c (.int 32 0))) (.c (.int 2 0))))
def s3 : S := .ite (.cmp .Lt (.var 2) (.c (.int 64 0))) [(.ret (.make 6 [(.op .Add (.c (.int 1 0)) (.op .Mod (.var 2) (.c (.int 4 0)))), (.op .Add (.c (.int 1 0)) (.op .Mod (.op .FloorDiv (.var 2) (.c (.int 4 0))) (.c (.int 4 0)))), (.ix (.c (.str [102, 98])) (.op .Mod (.op .FloorDiv (.var 2) (.c (.int 16 0))) (.c (.int 2 0)))), (.var 3)]))] []
def s4 : S := .set 3 (.op .Sub (.c (.int 1 0)) (.op .Mult (.op .Mod (.var 2) (.c (.int 2 0))) (.c (.int 2 0))))
def s5 : S := .ite (.cmp .Lt (.var 2) (.c (.int 76 0))) [(.ret (.make 4 [(.op .Add (.c (.int 2 0)) (.op .FloorDiv (.op .Sub (.var 2) (.c (.int 64 0))) (.c (.int 4 0)))), (.ix (.c (.str [114, 108])) (.op .Mod (.op .FloorDiv (.var 2) (.c (.int 2 0))) (.c (.int 2 0)))), (.var 3)]))] []
def s6 : S := .ite (.cmp .Lt (.var 2) (.c (.int 82 0))) [(.ret (.make 5 [(.op .Add (.c (.int 2 0)) (.op .FloorDiv (.op .Sub (.var 2) (.c (.int 76 0))) (.c (.int 2 0)))), (.var 3)]))] []
def s7 : S := .ite (.cmp .Lt (.var 2) (.c (.int 84 0))) [(.ret (.make 1 [(.var 3)]))] []
def s8 : S := .ret (.ix (.lst [(.make 2 []), (.make 3 []), (.make 7 [])]) (.op .Sub (.var 2) (.c (.int 84 0))))
theorem b19_is : b19 = [s0, s1', s2', s3, s4, s5, s6, s7, s8] := rfl
theorem c_st {s : List U} {n : Nat} {c : Int} {hs : Hs} : ∃ u h1, Ob hs h1 u ∧ callF (tb s) (n + 2) 19 [.int c 0, .str []] hs = some (u, h1) := by
  rw [y_callF fnL[19] rfl rfl]
  show ∃ u h1, Ob hs h1 u ∧ fin (exs (tb s) (callF (tb s) (n + 1)) 100 b19 [some (.int c 0), some (.str []), none, none] hs) = _
  obtain ⟨k1, k2, k3, k4, k5, k6, k7, k8, k9⟩ := c_make (s := s) (n := n) (hs := hs)
  have s37 : small64 37 = true := by decide
  have sm2 : small64 2 = true := by decide
  have r0 : 0 ≤ c * 37 % 87 := by omega
  have r1 : c * 37 % 87 < 87 := by omega
  have x0 : ex (tb s) (callF (tb s) (n + 1)) 99 s0 [some (.int c 0), some (.str []), none, none] hs = some (.next, [some (.int c 0), some (.str []), none, none], hs) := by
    simp [s0, yy, evs, evO, srcU, turns, truU, subU, opU, addI, biU, biL, slU, fin, e_ne]
  have x1 : ex (tb s) (callF (tb s) (n + 1)) 98 s1' [some (.int c 0), some (.str []), none, none] hs = some (.next, [some (.int c 0), some (.str []), some (.int (c * 37 % 87) 0), none], hs) := by
    simp [s1', yy, evs, evO, srcU, turns, truU, subU, opU, addI, biU, biL, slU, fin, modI, mulI, s37]
  generalize c * 37 % 87 = N at x1 r0 r1
  have x2 : ex (tb s) (callF (tb s) (n + 1)) 97 s2' [some (.int c 0), some (.str []), some (.int N 0), none] hs = some (.next, [some (.int c 0), some (.str []), some (.int N 0), some (.int (1 - N / 32 * 2) 0)], hs) := by
    simp [s2', yy, evs, evO, srcU, turns, truU, subU, opU, addI, biU, biL, slU, fin, divI, mulI, subI, sm2, gz]
  rw [b19_is, x_next x0, x_next x1, x_next x2]
  by_cases c1 : N < 64
  · obtain ⟨e1, f1⟩ := dg_of (x := 1 + N % 4) (by omega) (by omega)
    obtain ⟨e2, f2⟩ := dg_of (x := 1 + N / 4 % 4) (by omega) (by omega)
    obtain ⟨_, e3, f3⟩ := sd_of (x := 1 - N / 32 * 2) (by omega)
    obtain ⟨w, hw, ew⟩ := at_mod [102, 98] 2 rfl (by decide) (N / 16)
    simp only [Int.cast_ofNat_Int] at ew
    generalize 1 - N / 32 * 2 = sd at f3
    generalize [s4, s5, s6, s7, s8] = rest
    exact ⟨_, _, ob_new (.cross f3 f1 (lt_of_mem hw (by decide)) f2), by simp [s3, yy, evs, evO, srcU, turns, truU, subU, opU, addI, biU, biL, slU, fin, e_lti, modI, divI, c1, ew, gz, y_make, k4]⟩
  · have x3 : ex (tb s) (callF (tb s) (n + 1)) 96 s3 [some (.int c 0), some (.str []), some (.int N 0), some (.int (1 - N / 32 * 2) 0)] hs = some (.next, [some (.int c 0), some (.str []), some (.int N 0), some (.int (1 - N / 32 * 2) 0)], hs) := by
      simp [s3, yy, evs, evO, srcU, turns, truU, subU, opU, addI, biU, biL, slU, fin, e_lti, c1]
    have x4 : ex (tb s) (callF (tb s) (n + 1)) 95 s4 [some (.int c 0), some (.str []), some (.int N 0), some (.int (1 - N / 32 * 2) 0)] hs = some (.next, [some (.int c 0), some (.str []), some (.int N 0), some (.int (1 - N % 2 * 2) 0)], hs) := by
      simp [s4, yy, evs, evO, srcU, turns, truU, subU, opU, addI, biU, biL, slU, fin, modI, mulI, subI, sm2, gz]
    rw [x_next x3, x_next x4]
    obtain ⟨⟨e3, f3⟩, _⟩ := sd_of (x := 1 - N % 2 * 2) (by omega)
    generalize 1 - N % 2 * 2 = sd at f3
    by_cases c2 : N < 76
    · obtain ⟨e1, f1⟩ := dg_of (x := 2 + (N - 64) / 4) (by omega) (by omega)
      obtain ⟨w, hw, ew⟩ := at_mod [114, 108] 2 rfl (by decide) (N / 2)
      simp only [Int.cast_ofNat_Int] at ew
      generalize [s6, s7, s8] = rest
      exact ⟨_, _, ob_new (.lean f3 f1 (lt_of_mem hw (by decide))), by simp [s5, yy, evs, evO, srcU, turns, truU, subU, opU, addI, biU, biL, slU, fin, e_lti, modI, divI, subI, c2, ew, gz, y_make, k2]⟩
    · have x5 : ex (tb s) (callF (tb s) (n + 1)) 94 s5 [some (.int c 0), some (.str []), some (.int N 0), some (.int sd 0)] hs = some (.next, [some (.int c 0), some (.str []), some (.int N 0), some (.int sd 0)], hs) := by
        simp [s5, yy, evs, evO, srcU, turns, truU, subU, opU, addI, biU, biL, slU, fin, e_lti, c2]
      rw [x_next x5]
      by_cases c3 : N < 82
      · obtain ⟨e1, f1⟩ := dg_of (x := 2 + (N - 76) / 2) (by omega) (by omega)
        generalize [s7, s8] = rest
        exact ⟨_, _, ob_new (.grow f3 f1), by simp [s6, yy, evs, evO, srcU, turns, truU, subU, opU, addI, biU, biL, slU, fin, e_lti, divI, subI, c3, gz, y_make, k3]⟩
      · have x6 : ex (tb s) (callF (tb s) (n + 1)) 93 s6 [some (.int c 0), some (.str []), some (.int N 0), some (.int sd 0)] hs = some (.next, [some (.int c 0), some (.str []), some (.int N 0), some (.int sd 0)], hs) := by
          simp [s6, yy, evs, evO, srcU, turns, truU, subU, opU, addI, biU, biL, slU, fin, e_lti, c3]
        rw [x_next x6]
        by_cases c4 : N < 84
        · generalize [s8] = rest
          exact ⟨_, _, ob_new (.plain f3), by simp [s7, yy, evs, evO, srcU, turns, truU, subU, opU, addI, biU, biL, slU, fin, e_lti, c4, y_make, k1]⟩
        · have x7 : ex (tb s) (callF (tb s) (n + 1)) 92 s7 [some (.int c 0), some (.str []), some (.int N 0), some (.int sd 0)] hs = some (.next, [some (.int c 0), some (.str []), some (.int N 0), some (.int sd 0)], hs) := by
            simp [s7, yy, evs, evO, srcU, turns, truU, subU, opU, addI, biU, biL, slU, fin, e_lti, c4]
          rw [x_next x7]
          have m1 : ∀ h : Hs, makeU (tb s) (callF (tb s) (n + 1)) 2 [] h = some (.ref h.length, h ++ [.ins 2 []]) := fun h => (c_make (s := s) (n := n) (hs := h)).2.2.2.2.2.2.1
          have m2 : ∀ h : Hs, makeU (tb s) (callF (tb s) (n + 1)) 3 [] h = some (.ref h.length, h ++ [.ins 3 []]) := fun h => (c_make (s := s) (n := n) (hs := h)).2.2.2.2.2.2.2.1
          have m3 : ∀ h : Hs, makeU (tb s) (callF (tb s) (n + 1)) 7 [] h = some (.ref h.length, h ++ [.ins 7 []]) := fun h => (c_make (s := s) (n := n) (hs := h)).2.2.2.2.2.2.2.2
          have three : ∃ i : Nat, i < 3 ∧ N - 84 = (i : Int) := ⟨(N - 84).toNat, by omega, by omega⟩
          obtain ⟨i, i3, en⟩ := three
          have gl : (hs ++ [O.ins 2 [], .ins 3 [], .ins 7 [], .lst [.ref hs.length, .ref (hs.length + 1), .ref (hs.length + 2)]])[hs.length + 3]? = some (.lst [.ref hs.length, .ref (hs.length + 1), .ref (hs.length + 2)]) := by
            rw [List.getElem?_append_right (by omega), show hs.length + 3 - hs.length = 3 by omega]; rfl
          have go : ∀ (x : O), [O.ins 2 [], .ins 3 [], .ins 7 []][i]? = some x → (hs ++ [O.ins 2 [], .ins 3 [], .ins 7 [], .lst [.ref hs.length, .ref (hs.length + 1), .ref (hs.length + 2)]])[hs.length + i]? = some x := fun x e => by
            rw [List.getElem?_append_right (by omega), show hs.length + i - hs.length = i by omega]
            exact keepR (r := [.lst [.ref hs.length, .ref (hs.length + 1), .ref (hs.length + 2)]]) e
          have at' : atU [U.ref hs.length, .ref (hs.length + 1), .ref (hs.length + 2)] (i : Int) = some (.ref (hs.length + i)) := by
            rcases (show i = 0 ∨ i = 1 ∨ i = 2 by omega) with rfl | rfl | rfl <;> rfl
          have ob : ∃ (o : O) (m : List Nat), [O.ins 2 [], .ins 3 [], .ins 7 []][i]? = some o ∧ MkO o m := by
            rcases (show i = 0 ∨ i = 1 ∨ i = 2 by omega) with rfl | rfl | rfl
            · exact ⟨_, _, rfl, .slip⟩
            · exact ⟨_, _, rfl, .over⟩
            · exact ⟨_, _, rfl, .off⟩
          obtain ⟨o, m, eo, mk⟩ := ob
          refine ⟨.ref (hs.length + i), _, ⟨hs.length + i, o, m, rfl, go o eo, mk, by omega, Kp.app _ _⟩, ?_⟩
          simp [s8, yy, evs, evO, srcU, turns, truU, subU, opU, addI, biU, biL, slU, fin, subI, gz, y_make, m1, m2, m3, gl, en, at']
theorem c_one {s : List U} {n : Nat} {c : Int} {hs : Hs} : ∃ u h1, Ob hs h1 u ∧ callF (tb s) (n + 3) 24 [.int c 0] hs = some (u, h1) := by
  rw [y_callF fnL[24] rfl rfl]
  show ∃ u h1, Ob hs h1 u ∧ fin (exs (tb s) (callF (tb s) (n + 2)) 100 b24 [some (.int c 0)] hs) = _
  obtain ⟨k1, k2, k3, k4, k5, k6, k7, k8, k9⟩ := c_make (s := s) (n := n + 1) (hs := hs)
  obtain ⟨w, hw, ew⟩ := at_mod [119, 120, 121, 122] 4 rfl (by decide) (c / 11)
  simp only [Int.cast_ofNat_Int] at ew
  by_cases c1 : c % 11 = 5
  · exact ⟨_, _, ob_new (.fetch (lt_of_mem hw (by decide))), by simp [b24, yy, evs, evO, srcU, turns, truU, subU, opU, addI, biU, biL, slU, fin, e_eqi, modI, divI, c1, ew, y_make, k6]⟩
  · by_cases c2 : c % 11 = 7
    · exact ⟨_, _, ob_new (.keep (lt_of_mem hw (by decide))), by simp [b24, yy, evs, evO, srcU, turns, truU, subU, opU, addI, biU, biL, slU, fin, e_eqi, modI, divI, c2, ew, y_make, k5]⟩
    · obtain ⟨u, h1, ob, e⟩ := c_st (s := s) (n := n) (c := c) (hs := hs)
      exact ⟨u, h1, ob, by simp [b24, yy, evs, evO, srcU, turns, truU, subU, opU, addI, biU, biL, slU, fin, e_eqi, modI, divI, c1, c2, e]⟩
structure Su where
  a : Int
  b : Int
  c : Int
  d : Int
  e : Int
def Su.us (m : Su) : List U := [.int m.a 0, .int m.b 0, .int m.c 0, .int m.d 0, .int m.e 0]
structure Ch where
  a : Int
  b : Int
  c : Int
  d : Int
def Ch.us (x : Ch) : List U := [.int x.a 0, .int x.b 0, .int x.c 0, .int x.d 0]
def Lo (i : Int) : Prop := 0 ≤ i ∧ i < 1000
structure Su.Ok (m : Su) : Prop where
  a : Lo m.a
  b : Lo m.b
  c : Lo m.c
  d : Lo m.d
  e : Lo m.e
structure Ch.Ok (x : Ch) : Prop where
  a : Lo x.a
  b : Lo x.b
  c : Lo x.c
  d : Lo x.d
def wr (m : Su) (x : Ch) : Int := m.a + (m.b * x.a + (m.c * x.b + (m.d * x.c + m.e * x.d)))
theorem Lo.s {i : Int} (h : Lo i) : small64 i = true := by
  have h1 := h.1
  have h2 := h.2
  unfold small64
  rw [decide_eq_true (by omega), decide_eq_true (by omega)]
  rfl
theorem mul_lo {i j : Int} (h : Lo i) : mulI (.int i 0) (.int j 0) = some (.int (i * j) 0) := by
  simp [mulI, h.s]
theorem mul_nn {i j : Int} (h : Lo i) (h' : Lo j) : 0 ≤ i * j ∧ i * j ≤ 998001 := by
  have h1 := h.1
  have h2 : i ≤ 999 := by have := h.2; omega
  have h3 := h'.1
  have h4 : j ≤ 999 := by have := h'.2; omega
  have := Int.mul_le_mul h2 h4 h3 (by omega)
  exact ⟨Int.mul_nonneg h1 h3, by omega⟩
theorem wr_nn {m : Su} {x : Ch} (hm : m.Ok) (hx : x.Ok) : 0 ≤ wr m x ∧ wr m x ≤ 4000000 := by
  have := mul_nn hm.b hx.a
  have := mul_nn hm.c hx.b
  have := mul_nn hm.d hx.c
  have := mul_nn hm.e hx.d
  have := hm.a.1
  have := hm.a.2
  unfold wr
  omega
theorem c_worth {s : List U} {n p q : Nat} {hs : Hs} {m : Su} {x : Ch} (hm : m.Ok) (hp : hs[p]? = some (.tup m.us)) (hq : hs[q]? = some (.lst x.us)) : ∃ h1, Kp hs h1 ∧ callF (tb s) (n + 1) 15 [.ref p, .ref q] hs = some (.int (wr m x) 0, h1) := by
  rw [y_callF fnL[15] rfl rfl]
  show ∃ h1, Kp hs h1 ∧ fin (exs (tb s) (callF (tb s) n) 100 b15 [some (.ref p), some (.ref q)] hs) = _
  have m1 := mul_lo (j := x.a) hm.b
  have m2 := mul_lo (j := x.b) hm.c
  have m3 := mul_lo (j := x.c) hm.d
  have m4 := mul_lo (j := x.d) hm.e
  have cu : cutU m.us (some 1) none = [.int m.b 0, .int m.c 0, .int m.d 0, .int m.e 0] := rfl
  have hq' : ∀ r, (hs ++ r)[q]? = some (.lst x.us) := fun r => keepR hq
  have a0 : (hs ++ [O.tup [.int m.b 0, .int m.c 0, .int m.d 0, .int m.e 0]])[hs.length]? = some (.tup [.int m.b 0, .int m.c 0, .int m.d 0, .int m.e 0]) := at0
  have cp : compU (tb s) (ev (tb s) (callF (tb s) n) 95) (evTO (evT (tb s) (callF (tb s) n) 95) none) (.zipB false true (.ref hs.length) (.ref q)) true (.op .Mult (.var 2) (.var 3)) [some (.ref p), some (.ref q)] 5 0 [] (hs ++ [O.tup [.int m.b 0, .int m.c 0, .int m.d 0, .int m.e 0]]) = some ([.int (m.b * x.a) 0, .int (m.c * x.b) 0, .int (m.d * x.c) 0, .int (m.e * x.d) 0], hs ++ [O.tup [.int m.b 0, .int m.c 0, .int m.d 0, .int m.e 0]]) := by
    simp [compU, itm, sqU, lstU, tupU, a0, hq', Ch.us, two, tgt, tgN, padN, evTO, yy, evs, evO, srcU, turns, cmpU, eq_int, truU, subU, opU, addI, biU, biL, slU, fin, m1, m2, m3, m4]
  refine ⟨hs ++ [.tup [.int m.b 0, .int m.c 0, .int m.d 0, .int m.e 0], .lst [.int (m.b * x.a) 0, .int (m.c * x.b) 0, .int (m.d * x.c) 0, .int (m.e * x.d) 0]], Kp.app _ _, ?_⟩
  have e1 : b15 = [.ret (.op .Add (.ix (.var 0) (.c (.int 0 0))) (.bi .sum [.comp (.zip (.sl (.var 0) (some (.c (.int 1 0))) none) (.var 1)) true none (.op .Mult (.var 2) (.var 3))]))] := rfl
  have sz : srcU (tb s) (ev (tb s) (callF (tb s) n) 95) [some (.ref p), some (.ref q)] (.zip (.sl (.var 0) (some (.c (.int 1 0))) none) (.var 1)) hs = some (.zipB false true (.ref hs.length) (.ref q), hs ++ [O.tup [.int m.b 0, .int m.c 0, .int m.d 0, .int m.e 0]]) := by
    have ml : m.us.length = 5 := rfl
    have mn : ¬ m.us = [] := fun z => by cases z
    simp [yy, evs, evO, srcU, turns, cmpU, eq_int, truU, subU, opU, addI, biU, biL, slU, fin, hp, cu, ml, mn, cutIx, wkZ, lstU, sqU, tupU, a0, hq']
  have tn : turns (tb s) (.zipB false true (.ref hs.length) (.ref q)) (hs ++ [O.tup [.int m.b 0, .int m.c 0, .int m.d 0, .int m.e 0]]) = 5 := by
    simp [turns, sqU, tupU, a0]
  have ec : ev (tb s) (callF (tb s) n) 96 (.comp (.zip (.sl (.var 0) (some (.c (.int 1 0))) none) (.var 1)) true none (.op .Mult (.var 2) (.var 3))) [some (.ref p), some (.ref q)] hs = some (.ref (hs.length + 1), hs ++ [.tup [.int m.b 0, .int m.c 0, .int m.d 0, .int m.e 0], .lst [.int (m.b * x.a) 0, .int (m.c * x.b) 0, .int (m.d * x.c) 0, .int (m.e * x.d) 0]]) := by
    rw [y_comp, sz, y_bd, tn, cp, y_bd]
    simp
  have al : (hs ++ [O.tup [.int m.b 0, .int m.c 0, .int m.d 0, .int m.e 0], .lst [.int (m.b * x.a) 0, .int (m.c * x.b) 0, .int (m.d * x.c) 0, .int (m.e * x.d) 0]])[hs.length + 1]? = some (.lst [.int (m.b * x.a) 0, .int (m.c * x.b) 0, .int (m.d * x.c) 0, .int (m.e * x.d) 0]) := by
    rw [List.getElem?_append_right (by omega), show hs.length + 1 - hs.length = 1 by omega]; rfl
  have es : biU (tb s) .sum [.ref (hs.length + 1)] (hs ++ [O.tup [.int m.b 0, .int m.c 0, .int m.d 0, .int m.e 0], .lst [.int (m.b * x.a) 0, .int (m.c * x.b) 0, .int (m.d * x.c) 0, .int (m.e * x.d) 0]]) = some (.int (m.b * x.a + (m.c * x.b + (m.d * x.c + (m.e * x.d + 0)))) 0, hs ++ [O.tup [.int m.b 0, .int m.c 0, .int m.d 0, .int m.e 0], .lst [.int (m.b * x.a) 0, .int (m.c * x.b) 0, .int (m.d * x.c) 0, .int (m.e * x.d) 0]]) := by
    simp only [biU, biL, lstU, al]
    rfl
  have ix : ev (tb s) (callF (tb s) n) 97 (.ix (.var 0) (.c (.int 0 0))) [some (.ref p), some (.ref q)] hs = some (.int m.a 0, hs) := by
    have am : atU m.us 0 = some (.int m.a 0) := rfl
    simp [yy, evs, evO, srcU, turns, cmpU, eq_int, truU, subU, opU, addI, biU, biL, slU, fin, hp, am]
  rw [e1, y_cons, y_ret, y_op, ix, y_bd, y_bi]
  simp only [evs, ec, y_bd, es, opU, addI, gz, fin, wr, Int.add_zero, Nat.gcd_zero_left]
theorem c_often {s : List U} {n p q : Nat} {hs : Hs} {m : Su} {x : Ch} (hm : m.Ok) (hp : hs[p]? = some (.tup m.us)) (hq : hs[q]? = some (.lst x.us)) : callF (tb s) (n + 1) 21 [.ref p, .ref q] hs = some (.int (wr m x) 0, hs) := by
  rw [y_callF fnL[21] rfl rfl]
  show fin (exs (tb s) (callF (tb s) n) 100 b21 [some (.ref p), some (.ref q), none, none] hs) = _
  have m1 := mul_lo (j := x.a) hm.b
  have m2 := mul_lo (j := x.b) hm.c
  have m3 := mul_lo (j := x.c) hm.d
  have m4 := mul_lo (j := x.d) hm.e
  have s4 : small64 16 = true := by decide
  simp [b21, yy, evs, evO, srcU, turns, cmpU, eq_int, truU, subU, opU, addI, biU, biL, slU, fin, s4, forU, itm, tgt, hp, hq, Su.us, Ch.us, atU, ixU, m1, m2, m3, m4, gz, wr]
  omega
theorem c_sum {s : List U} {n : Nat} {c : Int} {hs : Hs} : ∃ m : Su, m.Ok ∧ callF (tb s) (n + 1) 20 [.int c 0] hs = some (.ref (hs.length + 1), hs ++ [.lst [.int 2 0, .int 1 0, .int 0 0], .tup m.us]) := by
  rw [y_callF fnL[20] rfl rfl]
  show ∃ m : Su, m.Ok ∧ fin (exs (tb s) (callF (tb s) n) 100 b20 [some (.int c 0)] hs) = _
  obtain ⟨u, hu, e⟩ := at_mod [U.int 2 0, .int 1 0, .int 0 0] 3 rfl (by decide) c
  simp only [Int.cast_ofNat_Int] at e
  have iu : ∃ i : Int, u = .int i 0 ∧ Lo i := by
    simp only [List.mem_cons, List.not_mem_nil, or_false] at hu
    rcases hu with rfl | rfl | rfl
    · exact ⟨2, rfl, by decide, by decide⟩
    · exact ⟨1, rfl, by decide, by decide⟩
    · exact ⟨0, rfl, by decide, by decide⟩
  obtain ⟨i, rfl, hi⟩ := iu
  refine ⟨⟨i, c / 3 % 3, c / 9 % 3, c / 27 % 3, c / 81 % 2⟩, ⟨hi, ⟨?_, ?_⟩, ⟨?_, ?_⟩, ⟨?_, ?_⟩, ⟨?_, ?_⟩⟩, ?_⟩ <;> try (simp only; omega)
  simp [b20, yy, evs, evO, srcU, turns, cmpU, eq_int, truU, subU, opU, addI, biU, biL, slU, fin, at0, modI, divI, e, Su.us]
abbrev sOne : List Nat := [111, 110, 101]
abbrev sTimes : List Nat := [116, 105, 109, 101, 115]
abbrev Gk := Nat → Option O
def KG (g g' : Gk) : Prop := ∀ p o, g p = some o → g' p = some o
def lk (hs : Hs) : Gk := fun p => hs[p]?
inductive Cat (R : U → List (List Nat) → List U → Prop) : List U → List (List Nat) → List U → Prop where
  | nil : Cat R [] [] []
  | cons {u : U} {a ms : List (List Nat)} {d ds us : List U} : R u a d → Cat R us ms ds → Cat R (u :: us) (a ++ ms) (d ++ ds)
theorem Cat.mono {R R' : U → List (List Nat) → List U → Prop} (h : ∀ u a d, R u a d → R' u a d) {us ds : List U} {ms : List (List Nat)} (m : Cat R us ms ds) : Cat R' us ms ds := by
  induction m with
  | nil => exact .nil
  | cons r _ ih => exact .cons (h _ _ _ r) ih
def PO (g : Gk) (u : U) (ms : List (List Nat)) (ds : List U) : Prop := ∃ (p v : Nat) (o : O) (m : List Nat), u = .ref p ∧ g p = some (.tup [.str sOne, .ref v]) ∧ g v = some o ∧ MkO o m ∧ ms = [m] ∧ ds = [.str m]
def PU (g : Gk) (x : Ch) : Nat → U → List (List Nat) → List U → Prop
  | 0, u, ms, ds => PO g u ms ds
  | k + 1, u, ms, ds => PO g u ms ds ∨ ∃ (p t l : Nat) (us : List U) (m : Su) (ms' : List (List Nat)) (ds' : List U), u = .ref p ∧ g p = some (.tup [.str sTimes, .ref t, .ref l]) ∧ g t = some (.tup m.us) ∧ m.Ok ∧ g l = some (.lst us) ∧ us.length ≤ 1000 ∧ Cat (PU g x k) us ms' ds' ∧ ms = (List.replicate (wr m x).toNat ms').flatten ∧ ms.length ≤ 1000 ∧ ds = .ref t :: ds' ∧ ds.length ≤ 1000
theorem PO.keep {g g' : Gk} (kg : KG g g') {u : U} {ms : List (List Nat)} {ds : List U} : PO g u ms ds → PO g' u ms ds := fun ⟨p, v, o, m, e, h, h', k, z, y⟩ => ⟨p, v, o, m, e, kg _ _ h, kg _ _ h', k, z, y⟩
theorem PU.keep {g g' : Gk} (kg : KG g g') {x : Ch} : ∀ (k : Nat) (u : U) (ms : List (List Nat)) (ds : List U), PU g x k u ms ds → PU g' x k u ms ds
  | 0, _, _, _, h => PO.keep kg h
  | _ + 1, _, _, _, .inl h => .inl (PO.keep kg h)
  | k + 1, _, _, _, .inr ⟨p, t, l, us, m, ms', ds', e, h, ht, ok, hl, z, c, w, b, y, b'⟩ => .inr ⟨p, t, l, us, m, ms', ds', e, kg _ _ h, kg _ _ ht, ok, kg _ _ hl, z, c.mono (PU.keep kg k), w, b, y, b'⟩
theorem PU.up1 {g : Gk} {x : Ch} : ∀ (k : Nat) (u : U) (ms : List (List Nat)) (ds : List U), PU g x k u ms ds → PU g x (k + 1) u ms ds
  | 0, _, _, _, h => .inl h
  | _ + 1, _, _, _, .inl h => .inl h
  | k + 1, _, _, _, .inr ⟨p, t, l, us, m, ms', ds', e, h, ht, ok, hl, z, c, r⟩ => .inr ⟨p, t, l, us, m, ms', ds', e, h, ht, ok, hl, z, c.mono (PU.up1 k), r⟩
theorem PU.up {g : Gk} {x : Ch} {k j : Nat} (h : k ≤ j) {u : U} {ms : List (List Nat)} {ds : List U} (m : PU g x k u ms ds) : PU g x j u ms ds := by
  induction h with
  | refl => exact m
  | step _ ih => exact PU.up1 _ _ _ _ ih
theorem kg_kp {hs h : Hs} (k : Kp hs h) : KG (lk hs) (lk h) := fun p o e => k p o e
theorem IsM.set {h : Hs} {r : Nat} {xs : List U} {o' : O} {u : U} {m : List Nat} (hr : h[r]? = some (.lst xs)) : IsM h u m → IsM (h.set r o') u m := fun ⟨p, o, e, hp, k⟩ => by
  refine ⟨p, o, e, ?_, k⟩
  rw [List.getElem?_set_ne (fun z => ?_)]
  · exact hp
  · subst z
    rw [hr] at hp
    cases hp
    cases k
theorem prApp {α β : Type} {P : α → β → Prop} {as as' : List α} {bs bs' : List β} (h : Paired P as bs) (h' : Paired P as' bs') : Paired P (as ++ as') (bs ++ bs') := by
  induction h with
  | nil => exact h'
  | cons p _ ih => exact .cons p ih
theorem prRep {α β : Type} {P : α → β → Prop} {as : List α} {bs : List β} (h : Paired P as bs) : ∀ n : Nat, Paired P (List.replicate n as).flatten (List.replicate n bs).flatten
  | 0 => .nil
  | n + 1 => by
    rw [List.replicate_succ, List.replicate_succ, List.flatten_cons, List.flatten_cons]
    exact prApp h (prRep h n)
def Tm (s : List U) (N q : Nat) (hs : Hs) (u : U) (a : List (List Nat)) : Prop := ∃ (p t l : Nat), u = .ref p ∧ hs[p]? = some (.tup [.str sTimes, .ref t, .ref l]) ∧ ∀ h, Kp hs h → ∃ (w : Int) (h1 h2 : Hs) (r : Nat) (is : List U), callF (tb s) N 15 [.ref t, .ref q] h = some (.int w 0, h1) ∧ callF (tb s) N 17 [.ref l, .int w 0, .ref q] h1 = some (.ref r, h2) ∧ Kp h h2 ∧ h2[r]? = some (.lst is) ∧ Paired (IsM h2) is a ∧ is.length ≤ 1000
def bdU : List S := [(.ite (.cmp .Eq (.ix (.var 3) (.c (.int 0 0))) (.c (.str [111, 110, 101]))) [(.expr (.bm .append (.var 2) [(.ix (.var 3) (.c (.int 1 0)))]))] [(.expr (.bm .extend (.var 2) [(.call 17 [(.ix (.var 3) (.c (.int 2 0))), (.call 15 [(.ix (.var 3) (.c (.int 1 0))), (.var 1)]), (.var 1)])]))])]
theorem b16_is : b16 = [.set 2 (.lst []), .loop (.name 3) (.seq (.var 0)) bdU, .ret (.var 2)] := rfl
theorem u_loop {s : List U} {N l q : Nat} {hs : Hs} {us : List U} {ms : List (List Nat)} {ds : List U} {R : U → List (List Nat) → List U → Prop} (hl : hs[l]? = some (.lst us)) (ct : Cat R us ms ds) (hz : ms.length ≤ 1000)
    (hR : ∀ u a d, R u a d → PO (lk hs) u a d ∨ Tm s N q hs u a) : ∃ r is h', hs.length ≤ r ∧ Kp hs h' ∧ h'[r]? = some (.lst is) ∧ Paired (IsM h') is ms ∧ callF (tb s) (N + 1) 16 [.ref l, .ref q] hs = some (.ref r, h') := by
  have hl' : (hs ++ [O.lst []])[l]? = some (.lst us) := keepR hl
  have k0 : Kp hs (hs ++ [.lst []]) := Kp.app _ _
  have a0 : (hs ++ [O.lst []])[hs.length]? = some (.lst []) := at0
  have ln : l ≠ hs.length := by have := (List.getElem?_eq_some_iff.mp hl).1; omega
  obtain ⟨ρ', h', ⟨kp, hll, o, is, dn, rst, ds', rfl, hd, pr, ct', e⟩, lp⟩ := for_lst (T := tb s) (x := 3) (l := l) (us := us) (body := exs (tb s) (callF (tb s) N) 97 bdU)
    (fun i ρ h => Kp hs h ∧ h[l]? = some (.lst us) ∧ ∃ (o : Option U) (is : List U) (dn rst : List (List Nat)) (ds' : List U), ρ = [some (.ref l), some (.ref q), some (.ref hs.length), o] ∧ h[hs.length]? = some (.lst is) ∧ Paired (IsM h) is dn ∧ Cat R (us.drop i) rst ds' ∧ dn ++ rst = ms) (fun i ρ h hI => hI.2.1)
    (fun i u ρ h hu hI => by
      obtain ⟨kp, hll, o, is, dn, rst, ds', rfl, hd, pr, ct', e⟩ := hI
      have lt := (List.getElem?_eq_some_iff.mp hu).1
      have dr : us.drop i = u :: us.drop (i + 1) := by
        rw [List.drop_eq_getElem_cons lt]
        congr 1
        exact (List.getElem?_eq_some_iff.mp hu).2
      rw [dr] at ct'
      cases ct' with
      | @cons _ a ms1 d ds1 _ r1 ct1 =>
        have pl := prLen pr
        have ml : dn.length + (a.length + ms1.length) ≤ 1000 := by
          rw [← e] at hz
          simpa using hz
        rcases hR u a d r1 with ⟨p, v, ob, m, rfl, hp, hv, mk, rfl, _⟩ | ⟨p, t, l', rfl, hp, ev⟩
        · have hp' := kp _ _ hp
          have hv' := kp _ _ hv
          refine ⟨[some (.ref l), some (.ref q), some (.ref hs.length), some (.ref p)], h.set hs.length (.lst (is ++ [.ref v])), ⟨kp.put (Nat.le_refl _), ?_, _, is ++ [.ref v], dn ++ [m], ms1, ds1, rfl, ?_, ?_, ct1, by rw [← e]; simp⟩, ?_⟩
          · rw [List.getElem?_set_ne (Ne.symm ln)]; exact hll
          · rw [List.getElem?_set_self (List.getElem?_eq_some_iff.mp hd).1]
          · exact prPut (prImp pr fun _ _ => IsM.set hd) (IsM.set hd ⟨v, ob, rfl, hv', mk⟩)
          · show exs (tb s) (callF (tb s) N) 97 bdU [some (.ref l), some (.ref q), some (.ref hs.length), some (.ref p)] h = _
            have il : is.length < 1000000 := by omega
            simp [bdU, yy, evs, evO, srcU, turns, truU, subU, opU, addI, biU, biL, slU, fin, e_eq, hp', atU, ixU, rcvU, hd, bL, bmU, bmL, il]
        · have hp' := kp _ _ hp
          obtain ⟨w, h1, h2, r, is2, e15, e17, k2, hr, pr2, z2⟩ := ev h kp
          have hd2 := k2 _ _ hd
          refine ⟨[some (.ref l), some (.ref q), some (.ref hs.length), some (.ref p)], h2.set hs.length (.lst (is ++ is2)), ⟨(kp.trans k2).put (Nat.le_refl _), ?_, _, is ++ is2, dn ++ a, ms1, ds1, rfl, ?_, ?_, ct1, by rw [← e]; simp⟩, ?_⟩
          · rw [List.getElem?_set_ne (Ne.symm ln)]; exact k2 _ _ hll
          · rw [List.getElem?_set_self (List.getElem?_eq_some_iff.mp hd2).1]
          · exact prApp (prImp pr fun _ _ i => IsM.set hd2 (IsM.keep k2 i)) (prImp pr2 fun _ _ => IsM.set hd2)
          · show exs (tb s) (callF (tb s) N) 97 bdU [some (.ref l), some (.ref q), some (.ref hs.length), some (.ref p)] h = _
            have il : is.length + is2.length ≤ 1000000 := by omega
            simp [bdU, yy, evs, evO, srcU, turns, truU, subU, opU, addI, biU, biL, slU, fin, e_eq, hp', atU, ixU, rcvU, hd, bL, e15, e17, bmU, hd2, bmL, hr, il])
    us.length 0 [some (.ref l), some (.ref q), some (.ref hs.length), none] (hs ++ [.lst []]) (by simp) ⟨k0, hl', none, [], [], ms, ds, rfl, a0, .nil, by simpa using ct, by simp⟩
  rw [List.drop_length] at ct'
  cases ct'
  rw [List.append_nil] at e
  subst e
  refine ⟨hs.length, is, h', Nat.le_refl _, kp, hd, pr, ?_⟩
  rw [y_callF fnL[16] rfl rfl]
  show fin (exs (tb s) (callF (tb s) N) 100 b16 [some (.ref l), some (.ref q), none, none] hs) = _
  have e0 : ex (tb s) (callF (tb s) N) 99 (.set 2 (.lst [])) [some (.ref l), some (.ref q), none, none] hs = some (.next, [some (.ref l), some (.ref q), some (.ref hs.length), none], hs ++ [.lst []]) := by
    simp [yy, evs, evO, srcU, turns, cmpU, eq_int, truU, subU, opU, addI, biU, biL, slU, fin]
  rw [b16_is, x_next e0, y_cons, y_loop]
  simp only [srcU, y_var, List.getElem?_cons_succ, List.getElem?_cons_zero, y_bd, wkS, lstU, hl', Option.map_some, turns, Option.getD_some, lp]
  simp [yy, evs, evO, srcU, turns, cmpU, eq_int, truU, subU, opU, addI, biU, biL, slU, fin]
theorem b17_is : b17 = [.set 3 (.ife (.cmp .Eq (.var 1) (.c (.int 0 0))) (.lst []) (.call 16 [(.var 0), (.var 2)])), .ret (.ife (.var 3) (.op .Mult (.var 3) (.var 1)) (.lst []))] := rfl
theorem c_times {s : List U} {N l q : Nat} {w : Int} {h : Hs} {ms : List (List Nat)} (h0 : 0 ≤ w) (h9 : w < 9223372036854775808) (hz : (List.replicate w.toNat ms).flatten.length ≤ 1000)
    (ih : w ≠ 0 → ∃ r is h', Kp h h' ∧ h'[r]? = some (.lst is) ∧ Paired (IsM h') is ms ∧ callF (tb s) N 16 [.ref l, .ref q] h = some (.ref r, h')) :
    ∃ r is h', Kp h h' ∧ h'[r]? = some (.lst is) ∧ Paired (IsM h') is (List.replicate w.toNat ms).flatten ∧ callF (tb s) (N + 1) 17 [.ref l, .int w 0, .ref q] h = some (.ref r, h') := by
  rw [y_callF fnL[17] rfl rfl]
  show ∃ (r : Nat) (is : List U) (h' : Hs), Kp h h' ∧ h'[r]? = some (O.lst is) ∧ Paired (IsM h') is (List.replicate w.toNat ms).flatten ∧ fin (exs (tb s) (callF (tb s) N) 100 b17 [some (.ref l), some (.int w 0), some (.ref q), none] h) = _
  rw [b17_is]
  by_cases z : w = 0
  · subst z
    refine ⟨h.length + 1, [], h ++ [.lst [], .lst []], Kp.app _ _, ?_, by simpa using Paired.nil, ?_⟩
    · rw [List.getElem?_append_right (by omega), show h.length + 1 - h.length = 1 by omega]; rfl
    · simp [yy, evs, evO, srcU, turns, truU, subU, opU, addI, biU, biL, slU, fin, e_eqi, seqU]
  · obtain ⟨r, is, h', kp, hr, pr, e⟩ := ih z
    have il := prLen pr
    by_cases y : is = []
    · subst y
      cases pr
      refine ⟨h'.length, [], h' ++ [.lst []], kp.trans (Kp.app _ _), at0, ?_, ?_⟩
      · have : (List.replicate w.toNat ([] : List (List Nat))).flatten = [] := by simp
        rw [this]
        exact .nil
      · simp [yy, evs, evO, srcU, turns, truU, subU, opU, addI, biU, biL, slU, fin, e_eqi, z, e, seqU, hr]
    · have rb : is.length * w.toNat ≤ 1000000 := by
        have : (List.replicate w.toNat ms).flatten.length = w.toNat * ms.length := by simp
        rw [this] at hz
        rw [il, Nat.mul_comm]
        omega
      refine ⟨h'.length, (List.replicate w.toNat is).flatten, h' ++ [.lst (List.replicate w.toNat is).flatten], kp.trans (Kp.app _ _), at0, prImp (prRep pr w.toNat) fun _ _ => IsM.keep (Kp.app _ _), ?_⟩
      have rp : repI r (.int w 0) h' = some (.ref h'.length, h' ++ [.lst (List.replicate w.toNat is).flatten]) := by
        simp only [repI, hr]
        rw [if_pos ⟨by omega, h9, rb⟩]
      have tr : truU (tb s) (.ref r) h' = some true := by simp [truU, seqU, hr, y]
      have e0 : ex (tb s) (callF (tb s) N) 99 (.set 3 (.ife (.cmp .Eq (.var 1) (.c (.int 0 0))) (.lst []) (.call 16 [(.var 0), (.var 2)]))) [some (.ref l), some (.int w 0), some (.ref q), none] h = some (.next, [some (.ref l), some (.int w 0), some (.ref q), some (.ref r)], h') := by
        simp [yy, evs, evO, srcU, turns, truU, subU, opU, addI, biU, biL, slU, fin, e_eqi, z, e]
      rw [x_next e0]
      simp only [y_cons, y_ret, y_ife, y_Tvar, y_var, List.getElem?_cons_succ, List.getElem?_cons_zero, y_bd, tr, Option.map_some, if_true, y_op, opU, rp, fin]
theorem c_unr {s : List U} {n q : Nat} {x : Ch} (hx : x.Ok) : ∀ (k : Nat) (hs : Hs) (l : Nat) (us ds : List U) (ms : List (List Nat)), hs[l]? = some (.lst us) → hs[q]? = some (.lst x.us) → Cat (PU (lk hs) x k) us ms ds → ms.length ≤ 1000 → ∃ r is h', hs.length ≤ r ∧ Kp hs h' ∧ h'[r]? = some (.lst is) ∧ Paired (IsM h') is ms ∧ callF (tb s) (n + 2 * k + 2) 16 [.ref l, .ref q] hs = some (.ref r, h')
  | 0, hs, l, us, ds, ms, hl, hq, ct, hz => u_loop hl ct hz fun u a d r => .inl r
  | k + 1, hs, l, us, ds, ms, hl, hq, ct, hz => by
    refine u_loop (N := n + 2 * (k + 1) + 1) hl ct hz fun u a d r => ?_
    rcases r with r | ⟨p, t, l', us', m, ms', ds', rfl, hp, ht, ok, hl', uz, c, rfl, b, _⟩
    · exact .inl r
    · refine .inr ⟨p, t, l', rfl, hp, fun h kp => ?_⟩
      obtain ⟨h1, k1, e15⟩ := c_worth (s := s) (n := n + 2 * (k + 1)) ok (kp _ _ ht) (kp _ _ hq)
      have wn := wr_nn ok hx
      have kq := kp.trans k1
      obtain ⟨r, is, h2, k2, hr, pr, e17⟩ := c_times (s := s) (N := n + 2 * (k + 1)) (l := l') (q := q) (w := wr m x) (h := h1) (ms := ms') wn.1 (by omega) b (fun nz => by
        have mz : ms'.length ≤ 1000 := by
          have : (List.replicate (wr m x).toNat ms').flatten.length = (wr m x).toNat * ms'.length := by simp
          rw [this] at b
          have : 1 ≤ (wr m x).toNat := by omega
          have := Nat.mul_le_mul_right ms'.length this
          omega
        obtain ⟨r, is, h', _, kk, hr, pr, e⟩ := c_unr (s := s) (n := n) hx k h1 l' us' ds' ms' (kq _ _ hl') (kq _ _ hq) (c.mono (PU.keep (kg_kp kq) k)) mz
        rw [show n + 2 * k + 2 = n + 2 * (k + 1) by omega] at e
        exact ⟨r, is, h', kk, hr, pr, e⟩)
      exact ⟨_, h1, h2, r, is, e15, e17, k1.trans k2, hr, pr, by rw [prLen pr]; exact b⟩
def TmD (s : List U) (N : Nat) (hs : Hs) (u : U) (d : List U) : Prop := ∃ (p t l : Nat) (ds' : List U), u = .ref p ∧ hs[p]? = some (.tup [.str sTimes, .ref t, .ref l]) ∧ d = .ref t :: ds' ∧ ∀ h, Kp hs h → ∃ (r : Nat) (h2 : Hs), Kp h h2 ∧ h2[r]? = some (.lst ds') ∧ callF (tb s) N 23 [.ref l] h = some (.ref r, h2)
def elJ : E := .op .Add (.op .Add (.var 1) (.lst [(.ix (.var 2) (.c (.int 1 0)))])) (.call 23 [(.ix (.var 2) (.c (.int 2 0)))])
def bdM : List S := [(.ite (.cmp .Eq (.ix (.var 2) (.c (.int 0 0))) (.c (.str [111, 110, 101]))) [(.expr (.bm .append (.var 1) [(.meth 4 (.ix (.var 2) (.c (.int 1 0))) [])]))] [(.set 1 elJ)])]
theorem b23_is : b23 = [.set 1 (.lst []), .loop (.name 2) (.seq (.var 0)) bdM, .ret (.var 1)] := rfl
theorem m_loop {s : List U} {N l : Nat} {hs : Hs} {us : List U} {ms : List (List Nat)} {ds : List U} {R : U → List (List Nat) → List U → Prop} (hl : hs[l]? = some (.lst us)) (ct : Cat R us ms ds) (hz : ds.length ≤ 1000)
    (hR : ∀ u a d, R u a d → PO (lk hs) u a d ∨ TmD s (N + 1) hs u d) : ∃ (r : Nat) (h' : Hs), hs.length ≤ r ∧ Kp hs h' ∧ h'[r]? = some (.lst ds) ∧ callF (tb s) (N + 2) 23 [.ref l] hs = some (.ref r, h') := by
  have hl' : (hs ++ [O.lst []])[l]? = some (.lst us) := keepR hl
  have lt0 : l < hs.length := (List.getElem?_eq_some_iff.mp hl).1
  obtain ⟨ρ', h', ⟨kp, d, o, dn, rst, ms', rfl, dge, hd, ct', e⟩, lp⟩ := for_lst (T := tb s) (x := 2) (l := l) (us := us) (body := exs (tb s) (callF (tb s) (N + 1)) 97 bdM)
    (fun i ρ h => Kp hs h ∧ ∃ (d : Nat) (o : Option U) (dn rst : List U) (ms' : List (List Nat)), ρ = [some (.ref l), some (.ref d), o] ∧ hs.length ≤ d ∧ h[d]? = some (.lst dn) ∧ Cat R (us.drop i) ms' rst ∧ dn ++ rst = ds) (fun i ρ h hI => hI.1 _ _ hl)
    (fun i u ρ h hu hI => by
      obtain ⟨kp, d, o, dn, rst, ms', rfl, dge, hd, ct', e⟩ := hI
      have lt := (List.getElem?_eq_some_iff.mp hu).1
      have dr : us.drop i = u :: us.drop (i + 1) := by
        rw [List.drop_eq_getElem_cons lt]
        congr 1
        exact (List.getElem?_eq_some_iff.mp hu).2
      rw [dr] at ct'
      cases ct' with
      | @cons _ a ms1 d1 ds1 _ r1 ct1 =>
        have ml : dn.length + (d1.length + ds1.length) ≤ 1000 := by
          rw [← e] at hz
          simpa using hz
        rcases hR u a d1 r1 with ⟨p, v, ob, m, rfl, hp, hv, mk, _, rfl⟩ | ⟨p, t, l', ds', rfl, hp, rfl, evl⟩
        · have hp' := kp _ _ hp
          have hv' := kp _ _ hv
          obtain ⟨f, e1, e2⟩ := c_mrk (s := s) (n := N) hv' mk
          refine ⟨[some (.ref l), some (.ref d), some (.ref p)], h.set d (.lst (dn ++ [.str m])), ⟨kp.put dge, d, _, dn ++ [.str m], ds1, ms1, rfl, dge, ?_, ct1, by rw [← e]; simp⟩, ?_⟩
          · rw [List.getElem?_set_self (List.getElem?_eq_some_iff.mp hd).1]
          · show exs (tb s) (callF (tb s) (N + 1)) 97 bdM [some (.ref l), some (.ref d), some (.ref p)] h = _
            have il : dn.length < 1000000 := by omega
            simp [bdM, yy, evs, evO, srcU, turns, truU, subU, opU, addI, biU, biL, slU, fin, y_meth, e_eq, hp', atU, ixU, rcvU, hd, bL, e1, e2, bmU, bmL, il]
        · have hp' := kp _ _ hp
          have k1 : Kp h (h ++ [.lst [.ref t], .lst (dn ++ [.ref t])]) := Kp.app _ _
          obtain ⟨r, h2, k2, hr, e23⟩ := evl _ (kp.trans k1)
          have hc : h2[h.length + 1]? = some (.lst (dn ++ [.ref t])) := k2 _ _ (by rw [List.getElem?_append_right (by omega), show h.length + 1 - h.length = 1 by omega]; rfl)
          have dh := (List.getElem?_eq_some_iff.mp hd).1
          refine ⟨[some (.ref l), some (.ref h2.length), some (.ref p)], h2 ++ [.lst (dn ++ [.ref t] ++ ds')], ⟨kp.trans (k1.trans (k2.trans (Kp.app _ _))), h2.length, _, dn ++ [.ref t] ++ ds', ds1, ms1, rfl, ?_, at0, ct1, by rw [← e]; simp⟩, ?_⟩
          · have := (List.getElem?_eq_some_iff.mp (k2 _ _ (k1 _ _ hd))).1
            omega
          · show exs (tb s) (callF (tb s) (N + 1)) 97 bdM [some (.ref l), some (.ref d), some (.ref p)] h = _
            have b1 : dn.length + 1 ≤ 1000000 := by omega
            have b2 : (dn ++ [U.ref t]).length + ds'.length ≤ 1000000 := by simp at ml ⊢; omega
            have hd' : (h ++ [O.lst [.ref t]])[d]? = some (.lst dn) := keepR hd
            have eA : ev (tb s) (callF (tb s) (N + 1)) 92 (.op .Add (.var 1) (.lst [(.ix (.var 2) (.c (.int 1 0)))])) [some (.ref l), some (.ref d), some (.ref p)] h = some (.ref (h.length + 1), h ++ [.lst [.ref t], .lst (dn ++ [.ref t])]) := by
              simp [yy, evs, evO, srcU, turns, truU, subU, opU, addI, biU, biL, slU, fin, hp', atU, ixU, hd', catO, b1]
            have eB : ev (tb s) (callF (tb s) (N + 1)) 92 (.call 23 [(.ix (.var 2) (.c (.int 2 0)))]) [some (.ref l), some (.ref d), some (.ref p)] (h ++ [.lst [.ref t], .lst (dn ++ [.ref t])]) = some (.ref r, h2) := by
              have hp2 := k1 _ _ hp'
              simp [yy, evs, evO, srcU, turns, truU, subU, opU, addI, biU, biL, slU, fin, hp2, atU, ixU, e23]
            have eC : ev (tb s) (callF (tb s) (N + 1)) 93 elJ [some (.ref l), some (.ref d), some (.ref p)] h = some (.ref h2.length, h2 ++ [.lst (dn ++ [.ref t] ++ ds')]) := by
              rw [show elJ = .op .Add (.op .Add (.var 1) (.lst [(.ix (.var 2) (.c (.int 1 0)))])) (.call 23 [(.ix (.var 2) (.c (.int 2 0)))]) from rfl, y_op, eA, y_bd, eB, y_bd]
              simp only [opU, addI, hc, hr, catO, if_pos b2]
            simp [bdM, yy, evs, evO, srcU, turns, truU, subU, opU, addI, biU, biL, slU, fin, e_eq, hp', atU, ixU, eC])
    us.length 0 [some (.ref l), some (.ref hs.length), none] (hs ++ [.lst []]) (by simp) ⟨Kp.app _ _, hs.length, none, [], ds, ms, rfl, Nat.le_refl _, at0, by simpa using ct, by simp⟩
  rw [List.drop_length] at ct'
  cases ct'
  rw [List.append_nil] at e
  subst e
  refine ⟨d, h', dge, kp, hd, ?_⟩
  rw [y_callF fnL[23] rfl rfl]
  show fin (exs (tb s) (callF (tb s) (N + 1)) 100 b23 [some (.ref l), none, none] hs) = _
  have e0 : ex (tb s) (callF (tb s) (N + 1)) 99 (.set 1 (.lst [])) [some (.ref l), none, none] hs = some (.next, [some (.ref l), some (.ref hs.length), none], hs ++ [.lst []]) := by
    simp [yy, evs, evO, srcU, turns, cmpU, eq_int, truU, subU, opU, addI, biU, biL, slU, fin]
  rw [b23_is, x_next e0, y_cons, y_loop]
  simp only [srcU, y_var, List.getElem?_cons_succ, List.getElem?_cons_zero, y_bd, wkS, lstU, hl', Option.map_some, turns, Option.getD_some, lp]
  simp [yy, evs, evO, srcU, turns, cmpU, eq_int, truU, subU, opU, addI, biU, biL, slU, fin]
theorem c_mks {s : List U} {n : Nat} {x : Ch} : ∀ (k : Nat) (hs : Hs) (l : Nat) (us ds : List U) (ms : List (List Nat)), hs[l]? = some (.lst us) → Cat (PU (lk hs) x k) us ms ds → ds.length ≤ 1000 → ∃ (r : Nat) (h' : Hs), hs.length ≤ r ∧ Kp hs h' ∧ h'[r]? = some (.lst ds) ∧ callF (tb s) (n + k + 2) 23 [.ref l] hs = some (.ref r, h')
  | 0, hs, l, us, ds, ms, hl, ct, hz => m_loop hl ct hz fun u a d r => .inl r
  | k + 1, hs, l, us, ds, ms, hl, ct, hz => by
    refine m_loop (N := n + (k + 1)) hl ct hz fun u a d r => ?_
    rcases r with r | ⟨p, t, l', us', m, ms', ds', rfl, hp, ht, ok, hl', uz, c, _, _, rfl, b⟩
    · exact .inl r
    · refine .inr ⟨p, t, l', ds', rfl, hp, rfl, fun h kp => ?_⟩
      obtain ⟨r, h', _, kk, hr, e⟩ := c_mks (s := s) (n := n) k h l' us' ds' ms' (kp _ _ hl') (c.mono (PU.keep (kg_kp kp) k)) (by simp at b; omega)
      exact ⟨r, h', kk, hr, e⟩
theorem for_rng {T : Tbl} {body : Ex} {x n : Nat} (I : Nat → Rho → Hs → Prop)
    (step : ∀ i ρ h, i < n → I i ρ h → ∃ ρ' h', I (i + 1) ρ' h' ∧ body (ρ.set x (some (.int (0 + (i : Int)) 0))) h = some (.next, ρ', h')) : ∀ (k i : Nat) (ρ : Rho) (h : Hs), i + k = n → I i ρ h →
    ∃ ρ' h', I n ρ' h' ∧ forU T (.rng 0 n) (.name x) body (k + 1) i ρ h = some (.next, ρ', h')
  | 0, i, ρ, h, hi, hI => ⟨ρ, h, by rw [← hi]; exact hI, by
    rw [forU]
    simp only [itm, if_neg (show ¬ i < n by omega)]⟩
  | k + 1, i, ρ, h, hi, hI => by
    obtain ⟨ρ1, h1, I1, e⟩ := step i ρ h (by omega) hI
    obtain ⟨ρ2, h2, I2, e'⟩ := for_rng I step k (i + 1) ρ1 h1 (by omega) I1
    refine ⟨ρ2, h2, I2, ?_⟩
    rw [forU]
    simp only [itm, if_pos (show i < n by omega), tgt, e]
    exact e'
def bdT : List S := [(.ite (.cmp .NotEq (.meth 4 (.ix (.var 0) (.var 2)) []) (.ix (.var 1) (.var 2))) [(.ret (.c (.bl false)))] [])]
theorem b26_is : b26 = [.ite (.or (.not (.isi (.var 0) .list)) (.cmp .NotEq (.bi .len [(.var 0)]) (.bi .len [(.var 1)]))) [(.ret (.c (.bl false)))] [], .loop (.name 2) (.rng (.bi .len [(.var 1)])) bdT, .ret (.c (.bl true))] := rfl
theorem at_nat {xs : List U} {i : Nat} {u : U} (h : xs[i]? = some u) : atU xs (0 + (i : Int)) = some u := by
  have lt := (List.getElem?_eq_some_iff.mp h).1
  unfold atU ixU
  rw [if_pos (by omega), if_pos (by omega)]
  simpa using h
theorem c_told {s : List U} {n a b : Nat} {is : List U} {ms : List (List Nat)} {hs : Hs} (ha : hs[a]? = some (.lst is)) (pr : Paired (IsM hs) is ms) (hb : hs[b]? = some (.lst (stz ms))) (hz : ms.length ≤ 1000) : callF (tb s) (n + 2) 26 [.ref a, .ref b] hs = some (.bl true, hs) := by
  have il := prLen pr
  obtain ⟨ρ', h', ⟨rfl, o, rfl⟩, lp⟩ := for_rng (T := tb s) (x := 2) (n := ms.length) (body := exs (tb s) (callF (tb s) (n + 1)) 97 bdT) (fun i ρ h => h = hs ∧ ∃ o, ρ = [some (.ref a), some (.ref b), o])
    (fun i ρ h lt hI => by
      obtain ⟨rfl, o, rfl⟩ := hI
      have i1 : is[i]? = some is[i] := List.getElem?_eq_getElem (by omega)
      obtain ⟨m, hm, p, ob, e, hp, mk⟩ := prAt pr i1
      obtain ⟨f, e1, e2⟩ := c_mrk (s := s) (n := n) hp mk
      have a1 := at_nat i1
      rw [e] at a1
      have a2 : atU (stz ms) (0 + (i : Int)) = some (.str m) := at_nat (by simp [stz, hm])
      refine ⟨[some (.ref a), some (.ref b), some (.int (0 + (i : Int)) 0)], h, ⟨rfl, _, rfl⟩, ?_⟩
      show exs (tb s) (callF (tb s) (n + 1)) 97 bdT [some (.ref a), some (.ref b), some (.int (0 + (i : Int)) 0)] h = _
      generalize (0 + (i : Int)) = j at a1 a2
      generalize stz ms = z at hb a2
      simp [bdT, yy, evs, evO, srcU, turns, truU, subU, opU, addI, biU, biL, slU, fin, y_meth, e_ne, ha, a1, e1, e2, hb, a2]) ms.length 0 [some (.ref a), some (.ref b), none] hs (by simp) ⟨rfl, none, rfl⟩
  rw [y_callF fnL[26] rfl rfl]
  show fin (exs (tb s) (callF (tb s) (n + 1)) 100 b26 [some (.ref a), some (.ref b), none] h') = _
  have sl : (stz ms).length = ms.length := by simp [stz]
  have e0 : ex (tb s) (callF (tb s) (n + 1)) 99 (.ite (.or (.not (.isi (.var 0) .list)) (.cmp .NotEq (.bi .len [(.var 0)]) (.bi .len [(.var 1)]))) [(.ret (.c (.bl false)))] []) [some (.ref a), some (.ref b), none] h' = some (.next, [some (.ref a), some (.ref b), none], h') := by
    simp [yy, evs, evO, srcU, turns, truU, subU, opU, addI, biU, biL, slU, fin, e_nei, isiU, kindU, isiB, ha, hb, seqU, il]
  have sm : small64 ((ms.length : Int) * 4) = true := by
    unfold small64
    rw [decide_eq_true (by omega), decide_eq_true (by omega)]
    rfl
  have sq : srcU (tb s) (ev (tb s) (callF (tb s) (n + 1)) 97) [some (.ref a), some (.ref b), none] (.rng (.bi .len [(.var 1)])) h' = some (.rng 0 ms.length, h') := by
    simp [yy, evs, evO, srcU, turns, cmpU, eq_int, truU, subU, opU, addI, biU, biL, slU, fin, seqU, hb, sm]
  rw [b26_is, x_next e0, y_cons, y_loop, sq, y_bd]
  show fin (match forU (tb s) (.rng 0 ms.length) (.name 2) _ (ms.length + 1) 0 _ h' with | some (.next, ρ1, h1) => exs _ _ _ _ ρ1 h1 | x => x) = _
  rw [lp]
  simp [yy, evs, evO, srcU, turns, cmpU, eq_int, truU, subU, opU, addI, biU, biL, slU, fin]
inductive JV (g : Gk) : List U → List (List Nat) → Prop where
  | nil : JV g [] []
  | cons {q : Nat} {a MS : List (List Nat)} {vs : List U} : g q = some (.lst (stz a)) → JV g vs MS → JV g (.ref q :: vs) (a ++ MS)
theorem b22_is : b22 = [.set 1 (.lst []), .loop (.name 2) (.seq (.var 0)) [(.set 1 (.op .Add (.var 1) (.var 2)))], .ret (.var 1)] := rfl
theorem c_join {s : List U} {n l : Nat} {vs : List U} {MS : List (List Nat)} {hs : Hs} (hl : hs[l]? = some (.lst vs)) (jv : JV (lk hs) vs MS) (hz : MS.length ≤ 1000) : ∃ (r : Nat) (h' : Hs), hs.length ≤ r ∧ Kp hs h' ∧ h'[r]? = some (.lst (stz MS)) ∧ callF (tb s) (n + 1) 22 [.ref l] hs = some (.ref r, h') := by
  have hl' : (hs ++ [O.lst []])[l]? = some (.lst vs) := keepR hl
  obtain ⟨ρ', h', ⟨kp, d, o, dn, rst, rfl, dge, hd, jv', e⟩, lp⟩ := for_lst (T := tb s) (x := 2) (l := l) (us := vs) (body := exs (tb s) (callF (tb s) n) 97 [(.set 1 (.op .Add (.var 1) (.var 2)))])
    (fun i ρ h => Kp hs h ∧ ∃ (d : Nat) (o : Option U) (dn rst : List (List Nat)), ρ = [some (.ref l), some (.ref d), o] ∧ hs.length ≤ d ∧ h[d]? = some (.lst (stz dn)) ∧ JV (lk hs) (vs.drop i) rst ∧ dn ++ rst = MS) (fun i ρ h hI => hI.1 _ _ hl)
    (fun i u ρ h hu hI => by
      obtain ⟨kp, d, o, dn, rst, rfl, dge, hd, jv', e⟩ := hI
      have lt := (List.getElem?_eq_some_iff.mp hu).1
      have dr : vs.drop i = u :: vs.drop (i + 1) := by
        rw [List.drop_eq_getElem_cons lt]
        congr 1
        exact (List.getElem?_eq_some_iff.mp hu).2
      rw [dr] at jv'
      cases jv' with
      | @cons q a MS1 _ hq jv1 =>
        have hq' := kp _ _ hq
        have ml : dn.length + (a.length + MS1.length) ≤ 1000 := by
          rw [← e] at hz
          simpa using hz
        have dl := (List.getElem?_eq_some_iff.mp hd).1
        have bb : (stz dn).length + (stz a).length ≤ 1000000 := by simp [stz]; omega
        have ss : stz dn ++ stz a = stz (dn ++ a) := by simp [stz]
        refine ⟨[some (.ref l), some (.ref h.length), some (.ref q)], h ++ [.lst (stz (dn ++ a))], ⟨kp.trans (Kp.app _ _), h.length, _, dn ++ a, MS1, rfl, by omega, at0, jv1, by rw [← e]; simp⟩, ?_⟩
        show exs (tb s) (callF (tb s) n) 97 _ [some (.ref l), some (.ref d), some (.ref q)] h = _
        have cat : catO d q (.lst (stz dn)) (.lst (stz a)) h = some (.ref h.length, h ++ [.lst (stz (dn ++ a))]) := by
          simp only [catO, if_pos bb, ss]
        generalize stz dn = z1 at hd cat
        generalize stz a = z2 at hq' cat
        generalize stz (dn ++ a) = z3 at cat
        simp [yy, evs, evO, srcU, turns, cmpU, eq_int, truU, subU, opU, addI, biU, biL, slU, fin, hd, hq', cat])
    vs.length 0 [some (.ref l), some (.ref hs.length), none] (hs ++ [.lst []]) (by simp) ⟨Kp.app _ _, hs.length, none, [], MS, rfl, Nat.le_refl _, by simpa [stz] using at0, by simpa using jv, by simp⟩
  rw [List.drop_length] at jv'
  cases jv'
  rw [List.append_nil] at e
  subst e
  refine ⟨d, h', dge, kp, hd, ?_⟩
  rw [y_callF fnL[22] rfl rfl]
  show fin (exs (tb s) (callF (tb s) n) 100 b22 [some (.ref l), none, none] hs) = _
  have e0 : ex (tb s) (callF (tb s) n) 99 (.set 1 (.lst [])) [some (.ref l), none, none] hs = some (.next, [some (.ref l), some (.ref hs.length), none], hs ++ [.lst []]) := by
    simp [yy, evs, evO, srcU, turns, cmpU, eq_int, truU, subU, opU, addI, biU, biL, slU, fin]
  rw [b22_is, x_next e0, y_cons, y_loop]
  simp only [srcU, y_var, List.getElem?_cons_succ, List.getElem?_cons_zero, y_bd, wkS, lstU, hl', Option.map_some, turns, Option.getD_some, lp]
  simp [yy, evs, evO, srcU, turns, cmpU, eq_int, truU, subU, opU, addI, biU, biL, slU, fin]
def gx (h : Hs) (P M D : Nat) : Gk := fun p => if p = P ∨ p = M ∨ p = D then none else h[p]?
theorem gx_is {h : Hs} {P M D p : Nat} {o : O} (e : gx h P M D p = some o) : h[p]? = some o ∧ p ≠ P ∧ p ≠ M ∧ p ≠ D := by
  unfold gx at e
  split at e
  · cases e
  · rename_i c
    exact ⟨e, fun z => c (.inl z), fun z => c (.inr (.inl z)), fun z => c (.inr (.inr z))⟩
theorem gx_of {h : Hs} {P M D p : Nat} {o : O} (e : h[p]? = some o) (a : p ≠ P) (b : p ≠ M) (c : p ≠ D) : gx h P M D p = some o := by
  unfold gx
  rw [if_neg (by rintro (z | z | z) <;> contradiction)]
  exact e
theorem kg_gx {h : Hs} {P M D : Nat} : KG (gx h P M D) (lk h) := fun _ _ e => (gx_is e).1
inductive Tri (g : Gk) (x : Ch) : List U → List U → List U → List (List Nat) → List U → Prop where
  | nil : Tri g x [] [] [] [] []
  | cons {u : U} {q b : Nat} {a MS : List (List Nat)} {d us vs ns DS : List U} : PU g x b u a d → b ≤ 8 → g q = some (.lst (stz a)) → Tri g x us vs ns MS DS → Tri g x (u :: us) (.ref q :: vs) (.int (b : Int) 0 :: ns) (a ++ MS) (d ++ DS)
theorem Tri.keep {g g' : Gk} (kg : KG g g') {x : Ch} {us vs ns DS : List U} {MS : List (List Nat)} (t : Tri g x us vs ns MS DS) : Tri g' x us vs ns MS DS := by
  induction t with
  | nil => exact .nil
  | cons p b q _ ih => exact .cons (PU.keep kg _ _ _ _ p) b (kg _ _ q) ih
theorem Tri.len {g : Gk} {x : Ch} {us vs ns DS : List U} {MS : List (List Nat)} (t : Tri g x us vs ns MS DS) : vs.length = us.length ∧ ns.length = us.length := by
  induction t with
  | nil => exact ⟨rfl, rfl⟩
  | cons _ _ _ _ ih => simp [ih]
theorem Tri.split {g : Gk} {x : Ch} {us vs ns DS : List U} {MS : List (List Nat)} (t : Tri g x us vs ns MS DS) : ∀ n : Nat, ∃ M1 M2 D1 D2, Tri g x (us.take n) (vs.take n) (ns.take n) M1 D1 ∧ Tri g x (us.drop n) (vs.drop n) (ns.drop n) M2 D2 ∧ MS = M1 ++ M2 ∧ DS = D1 ++ D2 := by
  induction t with
  | nil => intro n; exact ⟨[], [], [], [], by simpa using Tri.nil, by simpa using Tri.nil, rfl, rfl⟩
  | @cons u q b a MS d us vs ns DS p b' g' t ih =>
    intro n
    cases n with
    | zero => exact ⟨[], a ++ MS, [], d ++ DS, by simpa using Tri.nil, by simpa using Tri.cons p b' g' t, rfl, rfl⟩
    | succ n =>
      obtain ⟨M1, M2, D1, D2, t1, t2, rfl, rfl⟩ := ih n
      exact ⟨a ++ M1, M2, d ++ D1, D2, by simpa using Tri.cons p b' g' t1, by simpa using t2, by simp, by simp⟩
theorem Tri.app {g : Gk} {x : Ch} {us vs ns DS us' vs' ns' DS' : List U} {MS MS' : List (List Nat)} (t : Tri g x us vs ns MS DS) (t' : Tri g x us' vs' ns' MS' DS') : Tri g x (us ++ us') (vs ++ vs') (ns ++ ns') (MS ++ MS') (DS ++ DS') := by
  induction t with
  | nil => exact t'
  | cons p b q _ ih =>
    rw [List.append_assoc, List.append_assoc]
    exact .cons p b q ih
theorem Tri.cat {g : Gk} {x : Ch} {us vs ns DS : List U} {MS : List (List Nat)} {k : Nat} (t : Tri g x us vs ns MS DS) : (∀ b : Nat, U.int (b : Int) 0 ∈ ns → b ≤ k) → Cat (PU g x k) us MS DS := by
  induction t with
  | nil => intro _; exact .nil
  | cons p _ _ _ ih => intro h; exact .cons (p.up (h _ List.mem_cons_self)) (ih fun b hb => h b (List.mem_cons_of_mem _ hb))
theorem Tri.low {g : Gk} {x : Ch} {us vs ns DS : List U} {MS : List (List Nat)} (t : Tri g x us vs ns MS DS) : ∀ b : Nat, U.int (b : Int) 0 ∈ ns → b ≤ 8 := by
  induction t with
  | nil => intro b h; cases h
  | cons _ b' _ _ ih =>
    intro b h
    rcases List.mem_cons.mp h with e | h
    · injection e with e
      omega
    · exact ih b h
theorem Tri.jv {g : Gk} {x : Ch} {us vs ns DS : List U} {MS : List (List Nat)} (t : Tri g x us vs ns MS DS) : JV g vs MS := by
  induction t with
  | nil => exact .nil
  | cons _ _ q _ ih => exact .cons q ih
theorem JV.keep {g g' : Gk} (kg : KG g g') {vs : List U} {MS : List (List Nat)} (j : JV g vs MS) : JV g' vs MS := by
  induction j with
  | nil => exact .nil
  | cons q _ ih => exact .cons (kg _ _ q) ih
theorem Tri.ints {g : Gk} {x : Ch} {us vs ns DS : List U} {MS : List (List Nat)} (t : Tri g x us vs ns MS DS) : ∃ is : List Int, intsU ns = some is ∧ is.length = us.length ∧ (∀ a ∈ is, 0 ≤ a ∧ a ≤ 8) ∧ ∀ b : Nat, U.int (b : Int) 0 ∈ ns → (b : Int) ∈ is := by
  induction t with
  | nil => exact ⟨[], rfl, rfl, (fun a h => by cases h), fun b h => by cases h⟩
  | @cons u q b a MS d us vs ns DS p b' g' t ih =>
    obtain ⟨is, e, l, al, me⟩ := ih
    refine ⟨(b : Int) :: is, by simp [intsU, e], by simp [l], fun a ha => ?_, fun c hc => ?_⟩
    · rcases List.mem_cons.mp ha with rfl | ha
      · omega
      · exact al a ha
    · rcases List.mem_cons.mp hc with e | h
      · injection e with e
        rw [e]
        exact List.mem_cons_self
      · exact List.mem_cons_of_mem _ (me c h)
theorem Tri.top {g : Gk} {x : Ch} {us vs ns DS : List U} {MS : List (List Nat)} (t : Tri g x us vs ns MS DS) (hp : 0 < us.length) : ∃ (m : Nat) (is : List Int), intsU ns = some is ∧ maxU is = some (m : Int) ∧ m ≤ 8 ∧ ∀ b : Nat, U.int (b : Int) 0 ∈ ns → b ≤ m := by
  obtain ⟨is, e, l, al, me⟩ := t.ints
  cases is with
  | nil => simp at l; omega
  | cons z r =>
    have gg := maxI_ge r z
    have mm : maxI r z ∈ z :: r := by
      rcases maxI_mem r z with q | q
      · rw [q]; exact List.mem_cons_self
      · exact List.mem_cons_of_mem _ q
    have bd := al _ mm
    refine ⟨(maxI r z).toNat, z :: r, e, ?_, by omega, fun b hb => ?_⟩
    · simp only [maxU]
      congr 1
      omega
    · have := me b hb
      rcases List.mem_cons.mp this with q | q
      · have := gg.1; omega
      · have := gg.2 _ q; omega
structure St (x : Ch) (q L : Nat) (cs : List U) (k : Nat) (ρ : Rho) (h : Hs) (P M D : Nat) (us vs ns : List U) (MS : List (List Nat)) (DS : List U) : Prop where
  hP : h[P]? = some (.lst us)
  hM : h[M]? = some (.lst vs)
  hD : h[D]? = some (.lst ns)
  pm : P ≠ M
  pd : P ≠ D
  md : M ≠ D
  t : Tri (gx h P M D) x us vs ns MS DS
  ms : MS.length ≤ 330 + k
  ds : DS.length ≤ k
  uz : us.length ≤ k
  q : gx h P M D q = some (.lst x.us)
  l : gx h P M D L = some (.lst cs)
theorem St.grow {x : Ch} {q L k P M D : Nat} {cs us vs ns DS : List U} {MS : List (List Nat)} {ρ ρ' : Rho} {h h1 : Hs} (s : St x q L cs k ρ h P M D us vs ns MS DS) (kp : Kp h h1) : St x q L cs k ρ' h1 P M D us vs ns MS DS :=
  have kg : KG (gx h P M D) (gx h1 P M D) := fun _ _ e => gx_of (kp _ _ (gx_is e).1) (gx_is e).2.1 (gx_is e).2.2.1 (gx_is e).2.2.2
  ⟨kp _ _ s.hP, kp _ _ s.hM, kp _ _ s.hD, s.pm, s.pd, s.md, s.t.keep kg, s.ms, s.ds, s.uz, kg _ _ s.q, kg _ _ s.l⟩
def stA : List S := [(.set 8 (.call 24 [(.op .Add (.op .FloorDiv (.var 5) (.c (.int 4 0))) (.op .Mod (.var 5) (.c (.int 4 0))))])), (.expr (.bm .append (.var 2) [(.tup [(.c (.str [111, 110, 101])), (.var 8)])])), (.expr (.bm .append (.var 3) [(.lst [(.meth 4 (.var 8) [])])])), (.expr (.bm .append (.var 4) [(.c (.int 0 0))]))]
theorem t_A {s : List U} {n d : Nat} {x : Ch} {q L k P M D : Nat} {cs us vs ns DS : List U} {MS : List (List Nat)} {h : Hs} {c : Int} {c0 c1 o6 o7 o8 o9 o10 o11 : Option U} {ρ0 : Rho} (S0 : St x q L cs k ρ0 h P M D us vs ns MS DS) (hk : k ≤ 90) :
    ∃ o8' h' us' vs' ns' MS' DS' ρ1, St x q L cs (k + 1) ρ1 h' P M D us' vs' ns' MS' DS' ∧
      exs (tb s) (callF (tb s) (n + 3)) (d + 30) stA [c0, c1, some (.ref P), some (.ref M), some (.ref D), some (.int c 0), o6, o7, o8, o9, o10, o11] h = some (.next, [c0, c1, some (.ref P), some (.ref M), some (.ref D), some (.int c 0), o6, o7, o8', o9, o10, o11], h') := by
  obtain ⟨u, h1, ⟨v, o, m, rfl, hv, mk, vge, k1⟩, e24⟩ := c_one (s := s) (n := n) (c := c / 4 + c % 4) (hs := h)
  have hP1 := k1 _ _ S0.hP
  have hM1 := k1 _ _ S0.hM
  have hD1 := k1 _ _ S0.hD
  have lP := (List.getElem?_eq_some_iff.mp S0.hP).1
  have lM := (List.getElem?_eq_some_iff.mp S0.hM).1
  have lD := (List.getElem?_eq_some_iff.mp S0.hD).1
  have l1 := (List.getElem?_eq_some_iff.mp hv).1
  have ul := S0.uz
  have tl := S0.t.len
  -- the three heaps
  generalize g2 : (h1 ++ [O.tup [.str sOne, .ref v]]).set P (.lst (us ++ [.ref h1.length])) = h2
  have l2 : h2.length = h1.length + 1 := by rw [← g2]; simp
  have k2 : ∀ p o, p ≠ P → h1[p]? = some o → h2[p]? = some o := fun p o a e => by
    rw [← g2, List.getElem?_set_ne (Ne.symm a)]; exact keepR e
  have t2 : h2[h1.length]? = some (.tup [.str sOne, .ref v]) := by
    rw [← g2, List.getElem?_set_ne (by omega)]; exact at0
  have P2 : h2[P]? = some (.lst (us ++ [.ref h1.length])) := by
    rw [← g2, List.getElem?_set_self (by simp; omega)]
  generalize g3 : (h2 ++ [O.lst [.str m]]).set M (.lst (vs ++ [.ref h2.length])) = h3
  have l3 : h3.length = h2.length + 1 := by rw [← g3]; simp
  have k3 : ∀ p o, p ≠ M → h2[p]? = some o → h3[p]? = some o := fun p o a e => by
    rw [← g3, List.getElem?_set_ne (Ne.symm a)]; exact keepR e
  have t3 : h3[h2.length]? = some (.lst [.str m]) := by
    rw [← g3, List.getElem?_set_ne (by omega)]; exact at0
  have M3 : h3[M]? = some (.lst (vs ++ [.ref h2.length])) := by
    rw [← g3, List.getElem?_set_self (by simp; omega)]
  generalize g4 : h3.set D (.lst (ns ++ [.int 0 0])) = h4
  have k4 : ∀ p o, p ≠ D → h3[p]? = some o → h4[p]? = some o := fun p o a e => by
    rw [← g4, List.getElem?_set_ne (Ne.symm a)]; exact e
  have D4 : h4[D]? = some (.lst (ns ++ [.int 0 0])) := by
    rw [← g4, List.getElem?_set_self (by omega)]
  have k14 : ∀ p o, p ≠ P → p ≠ M → p ≠ D → h1[p]? = some o → h4[p]? = some o := fun p o a b c e => k4 _ _ c (k3 _ _ b (k2 _ _ a e))
  have kg : KG (gx h P M D) (gx h4 P M D) := fun p o e => by
    obtain ⟨e, a, b, c⟩ := gx_is e
    exact gx_of (k14 _ _ a b c (k1 _ _ e)) a b c
  have tri : Tri (gx h4 P M D) x [.ref h1.length] [.ref h2.length] [.int ((0 : Nat) : Int) 0] ([m] ++ []) ([.str m] ++ []) :=
    .cons (show PU (gx h4 P M D) x 0 _ _ _ from ⟨h1.length, v, o, m, rfl, gx_of (k4 _ _ (by omega) (k3 _ _ (by omega) t2)) (by omega) (by omega) (by omega), gx_of (k14 _ _ (by omega) (by omega) (by omega) hv) (by omega) (by omega) (by omega), mk, rfl, rfl⟩) (by omega) (gx_of (k4 _ _ (by omega) t3) (by omega) (by omega) (by omega)) .nil
  refine ⟨some (.ref v), h4, us ++ [.ref h1.length], vs ++ [.ref h2.length], ns ++ [.int 0 0], MS ++ [m], DS ++ [.str m], [], ⟨k4 _ _ S0.pd (k3 _ _ S0.pm P2), k4 _ _ S0.md M3, D4, S0.pm, S0.pd, S0.md, (S0.t.keep kg).app tri, ?_, ?_, ?_, kg _ _ S0.q, kg _ _ S0.l⟩, ?_⟩
  · have := S0.ms; simp; omega
  · have := S0.ds; simp; omega
  · simp; omega
  · have hv2 : h2[v]? = some o := k2 _ _ (by omega) hv
    obtain ⟨f, e1, e2⟩ := c_mrk (s := s) (n := n + 2) hv2 mk
    have b1 : us.length < 1000000 := by omega
    have b2 : vs.length < 1000000 := by omega
    have b3 : ns.length < 1000000 := by omega
    have hP1' : (h1 ++ [O.tup [.str sOne, .ref v]])[P]? = some (.lst us) := keepR hP1
    have hM2 : h2[M]? = some (.lst vs) := k2 _ _ (Ne.symm S0.pm) hM1
    have hM2' : (h2 ++ [O.lst [.str m]])[M]? = some (.lst vs) := keepR hM2
    have hD3 : h3[D]? = some (.lst ns) := k3 _ _ (Ne.symm S0.md) (k2 _ _ (Ne.symm S0.pd) hD1)
    have x1 : ex (tb s) (callF (tb s) (n + 3)) (d + 29) (.set 8 (.call 24 [(.op .Add (.op .FloorDiv (.var 5) (.c (.int 4 0))) (.op .Mod (.var 5) (.c (.int 4 0))))])) [c0, c1, some (.ref P), some (.ref M), some (.ref D), some (.int c 0), o6, o7, o8, o9, o10, o11] h = some (.next, [c0, c1, some (.ref P), some (.ref M), some (.ref D), some (.int c 0), o6, o7, some (.ref v), o9, o10, o11], h1) := by
      simp [yy, evs, evO, srcU, turns, cmpU, eq_int, truU, subU, opU, addI, biU, biL, slU, fin, modI, divI, gz, e24]
    have x2 : ex (tb s) (callF (tb s) (n + 3)) (d + 28) (.expr (.bm .append (.var 2) [(.tup [(.c (.str [111, 110, 101])), (.var 8)])])) [c0, c1, some (.ref P), some (.ref M), some (.ref D), some (.int c 0), o6, o7, some (.ref v), o9, o10, o11] h1 = some (.next, [c0, c1, some (.ref P), some (.ref M), some (.ref D), some (.int c 0), o6, o7, some (.ref v), o9, o10, o11], h2) := by
      rw [← g2]
      simp [yy, evs, evO, srcU, turns, cmpU, eq_int, truU, subU, opU, addI, biU, biL, slU, fin, rcvU, hP1, bL, bmU, hP1', bmL, b1]
    have x3 : ex (tb s) (callF (tb s) (n + 3)) (d + 27) (.expr (.bm .append (.var 3) [(.lst [(.meth 4 (.var 8) [])])])) [c0, c1, some (.ref P), some (.ref M), some (.ref D), some (.int c 0), o6, o7, some (.ref v), o9, o10, o11] h2 = some (.next, [c0, c1, some (.ref P), some (.ref M), some (.ref D), some (.int c 0), o6, o7, some (.ref v), o9, o10, o11], h3) := by
      rw [← g3]
      simp [yy, evs, evO, srcU, turns, cmpU, eq_int, truU, subU, opU, addI, biU, biL, slU, fin, y_meth, rcvU, hM2, bL, e1, e2, bmU, hM2', bmL, b2]
    have x4 : ex (tb s) (callF (tb s) (n + 3)) (d + 26) (.expr (.bm .append (.var 4) [(.c (.int 0 0))])) [c0, c1, some (.ref P), some (.ref M), some (.ref D), some (.int c 0), o6, o7, some (.ref v), o9, o10, o11] h3 = some (.next, [c0, c1, some (.ref P), some (.ref M), some (.ref D), some (.int c 0), o6, o7, some (.ref v), o9, o10, o11], h4) := by
      rw [← g4]
      simp [yy, evs, evO, srcU, turns, cmpU, eq_int, truU, subU, opU, addI, biU, biL, slU, fin, rcvU, hD3, bL, bmU, bmL, b3]
    unfold stA
    rw [x_next x1, x_next x2, x_next x3, x_next x4]
    exact y_nil
theorem cut_from {α : Type} {xs : List α} {v : Int} (h0 : 0 ≤ v) (h1 : v ≤ xs.length) : cutU xs (some v) none = xs.drop v.toNat := by
  simp only [cutU, cutIx]
  rw [if_neg (by omega), Nat.min_eq_left (by omega)]
  exact List.take_of_length_le (by simp)
theorem cut_to {α : Type} {xs : List α} {v : Int} (h0 : 0 ≤ v) (h1 : v ≤ xs.length) : cutU xs none (some v) = xs.take v.toNat := by
  simp only [cutU, cutIx]
  rw [if_neg (by omega), Nat.min_eq_left (by omega)]
  simp
def elX : E := .bi .max [(.sl (.var 4) (some (.var 9)) none)]
theorem ev_max {T : Tbl} {cf : Cf} {d D : Nat} {ns : List U} {is : List Int} {A m : Int} {ρ : Rho} {h : Hs} (r4 : ρ[4]? = some (some (.ref D))) (r9 : ρ[9]? = some (some (.int A 0))) (hD : h[D]? = some (.lst ns)) (h0 : 0 ≤ A) (h1 : A ≤ ns.length) (ei : intsU (ns.drop A.toNat) = some is) (em : maxU is = some m) :
    ev T cf (d + 10) elX ρ h = some (.int m 0, h ++ [.lst (ns.drop A.toNat)]) := by
  have ct := cut_from h0 h1
  simp [elX, yy, evs, evO, srcU, turns, cmpU, eq_int, truU, subU, opU, addI, biU, biL, slU, fin, r4, r9, hD, ct, lstU, ei, em]
def dA : S := .set 2 (.op .Add (.sl (.var 2) none (some (.var 9))) (.lst [(.tup [(.c (.str [116, 105, 109, 101, 115])), (.var 7), (.sl (.var 2) (some (.var 9)) none)])]))
def dB : S := .set 3 (.op .Add (.sl (.var 3) none (some (.var 9))) (.lst [(.op .Mult (.var 10) (.call 21 [(.var 7), (.var 1)]))]))
def dC : S := .set 4 (.op .Add (.sl (.var 4) none (some (.var 9))) (.lst [(.op .Add (.c (.int 1 0)) elX)]))
section
variable {T : Tbl} {cf : Cf} {d : Nat} {h : Hs}
theorem x_dA {P t : Nat} {us : List U} {A : Int} {c0 c1 c3 c4 c5 c6 c8 c10 c11 : Option U} (hP : h[P]? = some (.lst us)) (h0 : 0 ≤ A) (h1 : A ≤ us.length) (hz : us.length ≤ 1000) :
    ex T cf (d + 20) dA [c0, c1, some (.ref P), c3, c4, c5, c6, some (.ref t), c8, some (.int A 0), c10, c11] h = some (.next, [c0, c1, some (.ref (h.length + 4)), c3, c4, c5, c6, some (.ref t), c8, some (.int A 0), c10, c11], h ++ [.lst (us.take A.toNat), .lst (us.drop A.toNat), .tup [.str sTimes, .ref t, .ref (h.length + 1)], .lst [.ref (h.length + 2)], .lst (us.take A.toNat ++ [.ref (h.length + 2)])]) := by
  have c1' := cut_to h0 h1
  have c2' := cut_from h0 h1
  have hP' : ∀ r, (h ++ r)[P]? = some (.lst us) := fun r => keepR hP
  have bz : (us.take A.toNat).length + (0 + 1) ≤ 1000000 := by rw [List.length_take]; omega
  generalize us.take A.toNat = v1 at c1' bz
  generalize us.drop A.toNat = v2 at c2'
  have eA : ev T cf (d + 18) (.sl (.var 2) none (some (.var 9))) [c0, c1, some (.ref P), c3, c4, c5, c6, some (.ref t), c8, some (.int A 0), c10, c11] h = some (.ref h.length, h ++ [.lst v1]) := by
    simp [yy, evs, evO, srcU, turns, cmpU, eq_int, truU, subU, opU, addI, biU, biL, slU, fin, hP, c1']
  have eB : ev T cf (d + 18) (.lst [(.tup [(.c (.str [116, 105, 109, 101, 115])), (.var 7), (.sl (.var 2) (some (.var 9)) none)])]) [c0, c1, some (.ref P), c3, c4, c5, c6, some (.ref t), c8, some (.int A 0), c10, c11] (h ++ [.lst v1]) = some (.ref (h.length + 3), h ++ [.lst v1, .lst v2, .tup [.str sTimes, .ref t, .ref (h.length + 1)], .lst [.ref (h.length + 2)]]) := by
    simp [yy, evs, evO, srcU, turns, cmpU, eq_int, truU, subU, opU, addI, biU, biL, slU, fin, hP', c2']
  have gA : (h ++ [O.lst v1, .lst v2, .tup [.str sTimes, .ref t, .ref (h.length + 1)], .lst [.ref (h.length + 2)]])[h.length]? = some (.lst v1) := at0
  have gB : (h ++ [O.lst v1, .lst v2, .tup [.str sTimes, .ref t, .ref (h.length + 1)], .lst [.ref (h.length + 2)]])[h.length + 3]? = some (.lst [.ref (h.length + 2)]) := by
    rw [List.getElem?_append_right (by omega), show h.length + 3 - h.length = 3 by omega]; rfl
  rw [show dA = .set 2 (.op .Add (.sl (.var 2) none (some (.var 9))) (.lst [(.tup [(.c (.str [116, 105, 109, 101, 115])), (.var 7), (.sl (.var 2) (some (.var 9)) none)])])) from rfl, y_set, y_op, eA, y_bd, eB, y_bd]
  simp only [opU, addI, gA, gB, catO, List.length_cons, List.length_nil, if_pos bz, y_bd]
  simp
theorem x_dB {M t q r : Nat} {vs : List U} {zs : List (List Nat)} {A w : Int} {c0 c2 c4 c5 c6 c8 c11 : Option U} (hM : h[M]? = some (.lst vs)) (h0 : 0 ≤ A) (h1 : A ≤ vs.length) (hz : vs.length ≤ 1000) (hr : h[r]? = some (.lst (stz zs))) (ho : ∀ rr, cf 21 [.ref t, .ref q] (h ++ rr) = some (.int w 0, h ++ rr)) (w0 : 0 ≤ w) (w1 : w ≤ 4000000) (wz : zs.length * w.toNat ≤ 1000000) :
    ex T cf (d + 20) dB [c0, some (.ref q), c2, some (.ref M), c4, c5, c6, some (.ref t), c8, some (.int A 0), some (.ref r), c11] h = some (.next, [c0, some (.ref q), c2, some (.ref (h.length + 3)), c4, c5, c6, some (.ref t), c8, some (.int A 0), some (.ref r), c11], h ++ [.lst (vs.take A.toNat), .lst (stz (List.replicate w.toNat zs).flatten), .lst [.ref (h.length + 1)], .lst (vs.take A.toNat ++ [.ref (h.length + 1)])]) := by
  have c1' := cut_to h0 h1
  have hr' : ∀ rr, (h ++ rr)[r]? = some (.lst (stz zs)) := fun rr => keepR hr
  have bz : (vs.take A.toNat).length + (0 + 1) ≤ 1000000 := by rw [List.length_take]; omega
  have fl : (List.replicate w.toNat (stz zs)).flatten = stz (List.replicate w.toNat zs).flatten := by
    unfold stz
    rw [List.map_flatten, List.map_replicate]
  generalize vs.take A.toNat = v1 at c1' bz
  have rp : repI r (.int w 0) (h ++ [.lst v1]) = some (.ref (h.length + 1), h ++ [.lst v1, .lst (stz (List.replicate w.toNat zs).flatten)]) := by
    have sl : (stz zs).length * w.toNat ≤ 1000000 := by simp only [stz, List.length_map]; exact wz
    simp only [repI, hr']
    rw [if_pos ⟨by omega, by omega, sl⟩, fl]
    simp
  generalize stz (List.replicate w.toNat zs).flatten = z at rp
  have eA : ev T cf (d + 18) (.sl (.var 3) none (some (.var 9))) [c0, some (.ref q), c2, some (.ref M), c4, c5, c6, some (.ref t), c8, some (.int A 0), some (.ref r), c11] h = some (.ref h.length, h ++ [.lst v1]) := by
    simp [yy, evs, evO, srcU, turns, cmpU, eq_int, truU, subU, opU, addI, biU, biL, slU, fin, hM, c1']
  have eB : ev T cf (d + 18) (.lst [(.op .Mult (.var 10) (.call 21 [(.var 7), (.var 1)]))]) [c0, some (.ref q), c2, some (.ref M), c4, c5, c6, some (.ref t), c8, some (.int A 0), some (.ref r), c11] (h ++ [.lst v1]) = some (.ref (h.length + 2), h ++ [.lst v1, .lst z, .lst [.ref (h.length + 1)]]) := by
    have ho' := ho [.lst v1]
    simp [yy, evs, evO, srcU, turns, cmpU, eq_int, truU, subU, opU, addI, biU, biL, slU, fin, ho', rp]
  have gA : (h ++ [O.lst v1, .lst z, .lst [.ref (h.length + 1)]])[h.length]? = some (.lst v1) := at0
  have gB : (h ++ [O.lst v1, .lst z, .lst [.ref (h.length + 1)]])[h.length + 2]? = some (.lst [.ref (h.length + 1)]) := by
    rw [List.getElem?_append_right (by omega), show h.length + 2 - h.length = 2 by omega]; rfl
  rw [show dB = .set 3 (.op .Add (.sl (.var 3) none (some (.var 9))) (.lst [(.op .Mult (.var 10) (.call 21 [(.var 7), (.var 1)]))])) from rfl, y_set, y_op, eA, y_bd, eB, y_bd]
  simp only [opU, addI, gA, gB, catO, List.length_cons, List.length_nil, if_pos bz, y_bd]
  simp
theorem x_dC {D : Nat} {ns : List U} {is : List Int} {A m : Int} {c0 c1 c2 c3 c5 c6 c7 c8 c10 c11 : Option U} (hD : h[D]? = some (.lst ns)) (h0 : 0 ≤ A) (h1 : A ≤ ns.length) (hz : ns.length ≤ 1000) (ei : intsU (ns.drop A.toNat) = some is) (em : maxU is = some m) :
    ex T cf (d + 20) dC [c0, c1, c2, c3, some (.ref D), c5, c6, c7, c8, some (.int A 0), c10, c11] h = some (.next, [c0, c1, c2, c3, some (.ref (h.length + 3)), c5, c6, c7, c8, some (.int A 0), c10, c11], h ++ [.lst (ns.take A.toNat), .lst (ns.drop A.toNat), .lst [.int (1 + m) 0], .lst (ns.take A.toNat ++ [.int (1 + m) 0])]) := by
  have c1' := cut_to h0 h1
  have bz : (ns.take A.toNat).length + (0 + 1) ≤ 1000000 := by rw [List.length_take]; omega
  have mx := ev_max (T := T) (cf := cf) (d := d + 6) (ρ := [c0, c1, c2, c3, some (.ref D), c5, c6, c7, c8, some (.int A 0), c10, c11]) (h := h ++ [.lst (ns.take A.toNat)]) rfl rfl (keepR hD) h0 h1 ei em
  generalize ns.take A.toNat = v1 at c1' bz mx
  generalize ns.drop A.toNat = v2 at mx
  have eA : ev T cf (d + 18) (.sl (.var 4) none (some (.var 9))) [c0, c1, c2, c3, some (.ref D), c5, c6, c7, c8, some (.int A 0), c10, c11] h = some (.ref h.length, h ++ [.lst v1]) := by
    simp [yy, evs, evO, srcU, turns, cmpU, eq_int, truU, subU, opU, addI, biU, biL, slU, fin, hD, c1']
  have eB : ev T cf (d + 18) (.lst [(.op .Add (.c (.int 1 0)) elX)]) [c0, c1, c2, c3, some (.ref D), c5, c6, c7, c8, some (.int A 0), c10, c11] (h ++ [.lst v1]) = some (.ref (h.length + 2), h ++ [.lst v1, .lst v2, .lst [.int (1 + m) 0]]) := by
    simp [yy, evs, evO, srcU, turns, cmpU, eq_int, truU, subU, opU, addI, biU, biL, slU, fin, mx, gz]
  have gA : (h ++ [O.lst v1, .lst v2, .lst [.int (1 + m) 0]])[h.length]? = some (.lst v1) := at0
  have gB : (h ++ [O.lst v1, .lst v2, .lst [.int (1 + m) 0]])[h.length + 2]? = some (.lst [.int (1 + m) 0]) := by
    rw [List.getElem?_append_right (by omega), show h.length + 2 - h.length = 2 by omega]; rfl
  rw [show dC = .set 4 (.op .Add (.sl (.var 4) none (some (.var 9))) (.lst [(.op .Add (.c (.int 1 0)) elX)])) from rfl, y_set, y_op, eA, y_bd, eB, y_bd]
  simp only [opU, addI, gA, gB, catO, List.length_cons, List.length_nil, if_pos bz, y_bd]
  simp
end
def d9 : S := .set 9 (.op .Sub (.bi .len [(.var 2)]) (.var 6))
def d10 : S := .set 10 (.call 22 [(.sl (.var 3) (some (.var 9)) none)])
def d11 : S := .set 11 (.op .Add (.bi .len [(.call 22 [(.sl (.var 3) none (some (.var 9)))])]) (.op .Mult (.bi .len [(.var 10)]) (.call 21 [(.var 7), (.var 1)])))
def d12 : S := .ite (.cmp .LtE (.var 11) (.c (.int 330 0))) [dA, dB, dC] []
theorem kp_len {a b : Hs} (k : Kp a b) : a.length ≤ b.length := by
  rcases Nat.lt_or_ge b.length a.length with lt | ge
  · have := k b.length _ (List.getElem?_eq_getElem lt)
    rw [List.getElem?_eq_none (Nat.le_refl _)] at this
    cases this
  · exact ge
theorem t_B {s : List U} {n d : Nat} {x : Ch} {q L k P M D t m : Nat} {cs us vs ns DS : List U} {MS : List (List Nat)} {is : List Int} {h : Hs} {K : Int} {su : Su} {c0 c5 o8 o9 o10 o11 : Option U} {ρ0 : Rho} (hx : x.Ok) (S0 : St x q L cs k ρ0 h P M D us vs ns MS DS) (hk : k ≤ 64) (hK : 1 ≤ K) (hK' : K ≤ us.length)
    (ht : gx h P M D t = some (.tup su.us)) (hs : su.Ok) (ei : intsU (ns.drop ((us.length : Int) - K).toNat) = some is) (em : maxU is = some (m : Int)) (m7 : m ≤ 7) (hm : ∀ M2 D2, Tri (gx h P M D) x (us.drop ((us.length : Int) - K).toNat) (vs.drop ((us.length : Int) - K).toNat) (ns.drop ((us.length : Int) - K).toNat) M2 D2 → Cat (PU (gx h P M D) x m) (us.drop ((us.length : Int) - K).toNat) M2 D2) :
    ∃ P' M' D' o9' o10' o11' h' us' vs' ns' MS' DS' ρ1, St x q L cs (k + 1) ρ1 h' P' M' D' us' vs' ns' MS' DS' ∧
      exs (tb s) (callF (tb s) (n + 1)) (d + 30) [d9, d10, d11, d12] [c0, some (.ref q), some (.ref P), some (.ref M), some (.ref D), c5, some (.int K 0), some (.ref t), o8, o9, o10, o11] h = some (.next, [c0, some (.ref q), some (.ref P'), some (.ref M'), some (.ref D'), c5, some (.int K 0), some (.ref t), o8, o9', o10', o11'], h') := by
  have tl := S0.t.len
  have uz := S0.uz
  obtain ⟨A, hA⟩ : ∃ A : Int, A = (us.length : Int) - K := ⟨_, rfl⟩
  rw [← hA] at ei hm
  have A0 : 0 ≤ A := by omega
  have Au : A ≤ us.length := by omega
  have Av : A ≤ vs.length := by omega
  have An : A ≤ ns.length := by omega
  obtain ⟨M1, M2, D1, D2, t1, t2, eM, eD⟩ := S0.t.split A.toNat
  have cat := hm M2 D2 t2
  have mz := S0.ms
  have dz := S0.ds
  rw [eM, List.length_append] at mz
  rw [eD, List.length_append] at dz
  -- inner
  have e9 : ex (tb s) (callF (tb s) (n + 1)) (d + 29) d9 [c0, some (.ref q), some (.ref P), some (.ref M), some (.ref D), c5, some (.int K 0), some (.ref t), o8, o9, o10, o11] h = some (.next, [c0, some (.ref q), some (.ref P), some (.ref M), some (.ref D), c5, some (.int K 0), some (.ref t), o8, some (.int A 0), o10, o11], h) := by
    have hP := S0.hP
    simp [d9, yy, evs, evO, srcU, turns, cmpU, eq_int, truU, subU, opU, addI, biU, biL, slU, fin, seqU, hP, subI, gz, hA]
  have k1 : Kp h (h ++ [.lst (vs.drop A.toNat)]) := Kp.app _ _
  have jv2 : JV (lk (h ++ [.lst (vs.drop A.toNat)])) (vs.drop A.toNat) M2 := t2.jv.keep fun p o e => k1 _ _ (gx_is e).1
  obtain ⟨r, h2, rge, k2, hr, ej⟩ := c_join (s := s) (n := n) (l := h.length) at0 jv2 (by omega)
  have e10 : ex (tb s) (callF (tb s) (n + 1)) (d + 28) d10 [c0, some (.ref q), some (.ref P), some (.ref M), some (.ref D), c5, some (.int K 0), some (.ref t), o8, some (.int A 0), o10, o11] h = some (.next, [c0, some (.ref q), some (.ref P), some (.ref M), some (.ref D), c5, some (.int K 0), some (.ref t), o8, some (.int A 0), some (.ref r), o11], h2) := by
    have ct := cut_from A0 Av
    have hM := S0.hM
    generalize vs.drop A.toNat = v2 at ct ej
    simp [d10, yy, evs, evO, srcU, turns, cmpU, eq_int, truU, subU, opU, addI, biU, biL, slU, fin, hM, ct, ej]
  have k02 := k1.trans k2
  have k3 : Kp h2 (h2 ++ [.lst (vs.take A.toNat)]) := Kp.app _ _
  have jv1 : JV (lk (h2 ++ [.lst (vs.take A.toNat)])) (vs.take A.toNat) M1 := t1.jv.keep fun p o e => k3 _ _ (k02 _ _ (gx_is e).1)
  obtain ⟨r', h4, _, k4, hr', ej'⟩ := c_join (s := s) (n := n) (l := h2.length) at0 jv1 (by omega)
  have k24 := k3.trans k4
  have k04 := k02.trans k24
  have wn := wr_nn hs hx
  have ho : ∀ rr, callF (tb s) (n + 1) 21 [.ref t, .ref q] (h4 ++ rr) = some (.int (wr su x) 0, h4 ++ rr) := fun rr => c_often hs (keepR (k04 _ _ (gx_is ht).1)) (keepR (k04 _ _ (gx_is S0.q).1))
  have ho0 := ho []
  rw [List.append_nil] at ho0
  have ml := mul_lo (i := (M2.length : Int)) (j := wr su x) ⟨by omega, by omega⟩
  have e11 : ex (tb s) (callF (tb s) (n + 1)) (d + 27) d11 [c0, some (.ref q), some (.ref P), some (.ref M), some (.ref D), c5, some (.int K 0), some (.ref t), o8, some (.int A 0), some (.ref r), o11] h2 = some (.next, [c0, some (.ref q), some (.ref P), some (.ref M), some (.ref D), c5, some (.int K 0), some (.ref t), o8, some (.int A 0), some (.ref r), some (.int ((M1.length : Int) + M2.length * wr su x) 0)], h4) := by
    have ct := cut_to A0 Av
    have hM := k02 _ _ S0.hM
    have hr4 := k24 _ _ hr
    have l1 : (stz M1).length = M1.length := by simp [stz]
    have l2 : (stz M2).length = M2.length := by simp [stz]
    generalize vs.take A.toNat = v1 at ct ej'
    generalize stz M1 = z1 at hr' l1
    generalize stz M2 = z2 at hr4 l2
    simp [d11, yy, evs, evO, srcU, turns, cmpU, eq_int, truU, subU, opU, addI, biU, biL, slU, fin, hM, ct, ej', seqU, hr', l1, hr4, l2, ho0, ml, gz]
  by_cases big : (M1.length : Int) + M2.length * wr su x ≤ 330
  case neg =>
    refine ⟨P, M, D, some (.int A 0), some (.ref r), some (.int ((M1.length : Int) + M2.length * wr su x) 0), h4, us, vs, ns, MS, DS, [], ?_, ?_⟩
    · have S4 := S0.grow (ρ' := []) k04
      exact ⟨S4.hP, S4.hM, S4.hD, S4.pm, S4.pd, S4.md, S4.t, by have := S4.ms; omega, by have := S4.ds; omega, by omega, S4.q, S4.l⟩
    · rw [x_next e9, x_next e10, x_next e11]
      have b' : ¬ (M1.length : Int) + M2.length * wr su x ≤ 330 := big
      simp [d12, yy, evs, evO, srcU, turns, cmpU, eq_int, truU, subU, opU, addI, biU, biL, slU, fin, b']
  case pos =>
    have wt : ((wr su x).toNat : Int) = wr su x := by omega
    have rl : (List.replicate (wr su x).toNat M2).flatten.length = (wr su x).toNat * M2.length := by simp
    have pz : M1.length + (wr su x).toNat * M2.length ≤ 330 := by
      have : ((M1.length + (wr su x).toNat * M2.length : Nat) : Int) ≤ 330 := by
        rw [Int.natCast_add, Int.natCast_mul, wt, Int.mul_comm]
        exact big
      omega
    have xA := x_dA (T := tb s) (cf := callF (tb s) (n + 1)) (d := d + 4) (t := t) (c0 := c0) (c1 := some (.ref q)) (c3 := some (.ref M)) (c4 := some (.ref D)) (c5 := c5) (c6 := some (.int K 0)) (c8 := o8) (c10 := some (.ref r)) (c11 := some (.int ((M1.length : Int) + M2.length * wr su x) 0)) (k04 _ _ S0.hP) A0 Au (by omega)
    generalize g5 : h4 ++ [O.lst (us.take A.toNat), .lst (us.drop A.toNat), .tup [.str sTimes, .ref t, .ref (h4.length + 1)], .lst [.ref (h4.length + 2)], .lst (us.take A.toNat ++ [.ref (h4.length + 2)])] = h5 at xA
    have k5 : Kp h4 h5 := by rw [← g5]; exact Kp.app _ _
    have l5 : h5.length = h4.length + 5 := by rw [← g5]; simp
    have i1 : h5[h4.length + 1]? = some (.lst (us.drop A.toNat)) := by
      rw [← g5, List.getElem?_append_right (by omega), show h4.length + 1 - h4.length = 1 by omega]; rfl
    have i2 : h5[h4.length + 2]? = some (.tup [.str sTimes, .ref t, .ref (h4.length + 1)]) := by
      rw [← g5, List.getElem?_append_right (by omega), show h4.length + 2 - h4.length = 2 by omega]; rfl
    have i4 : h5[h4.length + 4]? = some (.lst (us.take A.toNat ++ [.ref (h4.length + 2)])) := by
      rw [← g5, List.getElem?_append_right (by omega), show h4.length + 4 - h4.length = 4 by omega]; rfl
    have ho5 : ∀ rr, callF (tb s) (n + 1) 21 [.ref t, .ref q] (h5 ++ rr) = some (.int (wr su x) 0, h5 ++ rr) := fun rr => by
      rw [← g5, List.append_assoc]; exact ho _
    have xB := x_dB (T := tb s) (cf := callF (tb s) (n + 1)) (d := d + 3) (t := t) (q := q) (r := r) (zs := M2) (w := wr su x) (c0 := c0) (c2 := some (.ref (h4.length + 4))) (c4 := some (.ref D)) (c5 := c5) (c6 := some (.int K 0)) (c8 := o8) (c11 := some (.int ((M1.length : Int) + M2.length * wr su x) 0)) (k5 _ _ (k04 _ _ S0.hM)) A0 Av (by omega) (k5 _ _ (k24 _ _ hr)) ho5 wn.1 wn.2 (by rw [Nat.mul_comm]; omega)
    generalize g6 : h5 ++ [O.lst (vs.take A.toNat), .lst (stz (List.replicate (wr su x).toNat M2).flatten), .lst [.ref (h5.length + 1)], .lst (vs.take A.toNat ++ [.ref (h5.length + 1)])] = h6 at xB
    have k6 : Kp h5 h6 := by rw [← g6]; exact Kp.app _ _
    have l6 : h6.length = h5.length + 4 := by rw [← g6]; simp
    have j1 : h6[h5.length + 1]? = some (.lst (stz (List.replicate (wr su x).toNat M2).flatten)) := by
      rw [← g6, List.getElem?_append_right (by omega), show h5.length + 1 - h5.length = 1 by omega]; rfl
    have j3 : h6[h5.length + 3]? = some (.lst (vs.take A.toNat ++ [.ref (h5.length + 1)])) := by
      rw [← g6, List.getElem?_append_right (by omega), show h5.length + 3 - h5.length = 3 by omega]; rfl
    have xC := x_dC (T := tb s) (cf := callF (tb s) (n + 1)) (d := d + 2) (c0 := c0) (c1 := some (.ref q)) (c2 := some (.ref (h4.length + 4))) (c3 := some (.ref (h5.length + 3))) (c5 := c5) (c6 := some (.int K 0)) (c7 := some (.ref t)) (c8 := o8) (c10 := some (.ref r)) (c11 := some (.int ((M1.length : Int) + M2.length * wr su x) 0)) (k6 _ _ (k5 _ _ (k04 _ _ S0.hD))) A0 An (by omega) ei em
    generalize g7 : h6 ++ [O.lst (ns.take A.toNat), .lst (ns.drop A.toNat), .lst [.int (1 + (m : Int)) 0], .lst (ns.take A.toNat ++ [.int (1 + (m : Int)) 0])] = h7 at xC
    have k7 : Kp h6 h7 := by rw [← g7]; exact Kp.app _ _
    have n3 : h7[h6.length + 3]? = some (.lst (ns.take A.toNat ++ [.int (1 + (m : Int)) 0])) := by
      rw [← g7, List.getElem?_append_right (by omega), show h6.length + 3 - h6.length = 3 by omega]; rfl
    have k57 := k6.trans k7
    have k07 := k04.trans (k5.trans k57)
    have len0 := kp_len k04
    have kg : KG (gx h P M D) (gx h7 (h4.length + 4) (h5.length + 3) (h6.length + 3)) := fun p o e => by
      have e1 := (gx_is e).1
      have lt := (List.getElem?_eq_some_iff.mp e1).1
      exact gx_of (k07 _ _ e1) (by omega) (by omega) (by omega)
    have pu : PU (gx h7 (h4.length + 4) (h5.length + 3) (h6.length + 3)) x (m + 1) (.ref (h4.length + 2)) (List.replicate (wr su x).toNat M2).flatten (.ref t :: D2) :=
      .inr ⟨h4.length + 2, t, h4.length + 1, us.drop A.toNat, su, M2, D2, rfl, gx_of (k57 _ _ i2) (by omega) (by omega) (by omega), kg _ _ ht, hs, gx_of (k57 _ _ i1) (by omega) (by omega) (by omega), by rw [List.length_drop]; omega, cat.mono (PU.keep kg m), rfl, by rw [rl]; omega, rfl, by simp; omega⟩
    have tri : Tri (gx h7 (h4.length + 4) (h5.length + 3) (h6.length + 3)) x [.ref (h4.length + 2)] [.ref (h5.length + 1)] [.int ((m + 1 : Nat) : Int) 0] ((List.replicate (wr su x).toNat M2).flatten ++ []) ((.ref t :: D2) ++ []) :=
      .cons pu (by omega) (gx_of (k7 _ _ j1) (by omega) (by omega) (by omega)) .nil
    have mc : (1 + (m : Int)) = ((m + 1 : Nat) : Int) := by omega
    refine ⟨h4.length + 4, h5.length + 3, h6.length + 3, some (.int A 0), some (.ref r), some (.int ((M1.length : Int) + M2.length * wr su x) 0), h7, us.take A.toNat ++ [.ref (h4.length + 2)], vs.take A.toNat ++ [.ref (h5.length + 1)], ns.take A.toNat ++ [.int (1 + (m : Int)) 0], M1 ++ ((List.replicate (wr su x).toNat M2).flatten ++ []), D1 ++ ((.ref t :: D2) ++ []), [], ⟨k57 _ _ i4, k7 _ _ j3, n3, by omega, by omega, by omega, ?_, ?_, ?_, ?_, kg _ _ S0.q, kg _ _ S0.l⟩, ?_⟩
    · rw [mc]
      exact (t1.keep kg).app tri
    · rw [List.append_nil, List.length_append, rl]; omega
    · rw [List.append_nil, List.length_append, List.length_cons]; omega
    · rw [List.length_append, List.length_take]; simp; omega
    · rw [x_next e9, x_next e10, x_next e11, y_cons, show d12 = .ite (.cmp .LtE (.var 11) (.c (.int 330 0))) [dA, dB, dC] [] from rfl, y_ite]
      have tst : evT (tb s) (callF (tb s) (n + 1)) (d + 25) (.cmp .LtE (.var 11) (.c (.int 330 0))) [c0, some (.ref q), some (.ref P), some (.ref M), some (.ref D), c5, some (.int K 0), some (.ref t), o8, some (.int A 0), some (.ref r), some (.int ((M1.length : Int) + M2.length * wr su x) 0)] h4 = some (true, h4) := by
        simp [yy, evs, evO, srcU, turns, cmpU, eq_int, truU, subU, opU, addI, biU, biL, slU, fin, big]
      rw [tst, y_bd, if_pos rfl, x_next xA, x_next xB, x_next xC, y_nil]
      exact y_nil
def cnd : E := .or (.cmp .Lt (.op .Mod (.var 5) (.c (.int 4 0))) (.c (.int 3 0))) (.or (.cmp .Eq (.var 6) (.c (.int 0 0))) (.cmp .Eq (.bi .max [(.sl (.var 4) (some (.op .Sub (.bi .len [(.var 4)]) (.var 6))) none)]) (.c (.int 8 0))))
def bd6 : S := .set 6 (.bi .min [(.bi .len [(.var 2)]), (.op .Add (.c (.int 1 0)) (.op .Mod (.op .FloorDiv (.var 5) (.c (.int 4 0))) (.c (.int 3 0))))])
def bd7 : S := .set 7 (.call 20 [(.op .FloorDiv (.var 5) (.c (.int 12 0)))])
def bdi : S := .ite cnd stA [d9, d10, d11, d12]
theorem b25_is : b25 = [.set 2 (.lst []), .set 3 (.lst []), .set 4 (.lst []), .loop (.name 5) (.seq (.var 0)) [bd6, bd7, bdi], .ret (.tup [(.var 2), (.call 22 [(.var 3)])])] := rfl
theorem c_turn {s : List U} {n d : Nat} {x : Ch} {q L k P M D : Nat} {cs us vs ns DS : List U} {MS : List (List Nat)} {h : Hs} {c : Int} {c0 o5 o6 o7 o8 o9 o10 o11 : Option U} {ρ0 : Rho} (hx : x.Ok) (S0 : St x q L cs k ρ0 h P M D us vs ns MS DS) (hk : k ≤ 64) :
    ∃ P' M' D' o6' o7' o8' o9' o10' o11' h' us' vs' ns' MS' DS' ρ1, St x q L cs (k + 1) ρ1 h' P' M' D' us' vs' ns' MS' DS' ∧
      exs (tb s) (callF (tb s) (n + 3)) (d + 60) [bd6, bd7, bdi] [c0, some (.ref q), some (.ref P), some (.ref M), some (.ref D), some (.int c 0), o6, o7, o8, o9, o10, o11] h = some (.next, [c0, some (.ref q), some (.ref P'), some (.ref M'), some (.ref D'), some (.int c 0), o6', o7', o8', o9', o10', o11'], h') := by
  have b : ∃ K : Int, 0 ≤ K ∧ K ≤ us.length ∧ (us.length ≠ 0 → 1 ≤ K) ∧ (if 1 + c / 4 % 3 < (us.length : Int) then 1 + c / 4 % 3 else (us.length : Int)) = K := by
    refine ⟨_, ?_, ?_, ?_, rfl⟩ <;> split <;> omega
  obtain ⟨K, K0, K1, K2, eK⟩ := b
  have x6 : ex (tb s) (callF (tb s) (n + 3)) (d + 59) bd6 [c0, some (.ref q), some (.ref P), some (.ref M), some (.ref D), some (.int c 0), o6, o7, o8, o9, o10, o11] h = some (.next, [c0, some (.ref q), some (.ref P), some (.ref M), some (.ref D), some (.int c 0), some (.int K 0), o7, o8, o9, o10, o11], h) := by
    have hP := S0.hP
    simp [bd6, yy, evs, evO, srcU, turns, cmpU, eq_int, truU, subU, opU, addI, biU, biL, slU, fin, seqU, hP, modI, divI, gz, eK]
  obtain ⟨su, so, e20⟩ := c_sum (s := s) (n := n + 2) (c := c / 12) (hs := h)
  have x7 : ex (tb s) (callF (tb s) (n + 3)) (d + 58) bd7 [c0, some (.ref q), some (.ref P), some (.ref M), some (.ref D), some (.int c 0), some (.int K 0), o7, o8, o9, o10, o11] h = some (.next, [c0, some (.ref q), some (.ref P), some (.ref M), some (.ref D), some (.int c 0), some (.int K 0), some (.ref (h.length + 1)), o8, o9, o10, o11], h ++ [.lst [.int 2 0, .int 1 0, .int 0 0], .tup su.us]) := by
    simp [bd7, yy, evs, evO, srcU, turns, cmpU, eq_int, truU, subU, opU, addI, biU, biL, slU, fin, divI, e20]
  have k1 : Kp h (h ++ [.lst [.int 2 0, .int 1 0, .int 0 0], .tup su.us]) := Kp.app _ _
  have ht : (h ++ [O.lst [.int 2 0, .int 1 0, .int 0 0], .tup su.us])[h.length + 1]? = some (.tup su.us) := by
    rw [List.getElem?_append_right (by omega), show h.length + 1 - h.length = 1 by omega]; rfl
  have lP := (List.getElem?_eq_some_iff.mp S0.hP).1
  have lM := (List.getElem?_eq_some_iff.mp S0.hM).1
  have lD := (List.getElem?_eq_some_iff.mp S0.hD).1
  have tl := S0.t.len
  have S1 := S0.grow (ρ' := []) k1
  generalize h ++ [O.lst [.int 2 0, .int 1 0, .int 0 0], .tup su.us] = h1 at x7 ht S1
  have ht' : gx h1 P M D (h.length + 1) = some (.tup su.us) := gx_of ht (by omega) (by omega) (by omega)
  generalize h.length + 1 = t at x7 ht'
  have goA : ∀ h2, Kp h1 h2 → evT (tb s) (callF (tb s) (n + 3)) (d + 56) cnd [c0, some (.ref q), some (.ref P), some (.ref M), some (.ref D), some (.int c 0), some (.int K 0), some (.ref t), o8, o9, o10, o11] h1 = some (true, h2) → ∃ P' M' D' o6' o7' o8' o9' o10' o11' h' us' vs' ns' MS' DS' ρ1, St x q L cs (k + 1) ρ1 h' P' M' D' us' vs' ns' MS' DS' ∧
      exs (tb s) (callF (tb s) (n + 3)) (d + 60) [bd6, bd7, bdi] [c0, some (.ref q), some (.ref P), some (.ref M), some (.ref D), some (.int c 0), o6, o7, o8, o9, o10, o11] h = some (.next, [c0, some (.ref q), some (.ref P'), some (.ref M'), some (.ref D'), some (.int c 0), o6', o7', o8', o9', o10', o11'], h') := fun h2 k2 et => by
    obtain ⟨o8', h', us', vs', ns', MS', DS', ρ1, S2, e⟩ := t_A (s := s) (n := n) (d := d + 26) (c := c) (c0 := c0) (c1 := some (.ref q)) (o6 := some (.int K 0)) (o7 := some (.ref t)) (o8 := o8) (o9 := o9) (o10 := o10) (o11 := o11) (S1.grow (ρ' := []) k2) (by omega)
    refine ⟨P, M, D, some (.int K 0), some (.ref t), o8', o9, o10, o11, h', us', vs', ns', MS', DS', ρ1, S2, ?_⟩
    rw [x_next x6, x_next x7, y_cons, show bdi = .ite cnd stA [d9, d10, d11, d12] from rfl, y_ite, et, y_bd, if_pos rfl, e]
    exact y_nil
  by_cases z1 : c % 4 < 3
  · exact goA h1 (Kp.refl _) (by simp [cnd, yy, evs, evO, srcU, turns, truU, subU, opU, addI, biU, biL, slU, fin, e_lti, modI, z1])
  · by_cases z2 : K = 0
    · exact goA h1 (Kp.refl _) (by simp [cnd, yy, evs, evO, srcU, turns, truU, subU, opU, addI, biU, biL, slU, fin, e_eqi, e_lti, modI, z1, z2])
    · have up : 0 < us.length := by omega
      obtain ⟨M1, M2, D1, D2, t1, t2, eM, eD⟩ := S1.t.split ((us.length : Int) - K).toNat
      have dl : 0 < (us.drop ((us.length : Int) - K).toNat).length := by rw [List.length_drop]; omega
      obtain ⟨m, is, ei, em, m8, bnd⟩ := t2.top dl
      have ct := cut_from (xs := ns) (v := (us.length : Int) - K) (by omega) (by omega)
      have nl : ns.length = us.length := tl.2
      have et : evT (tb s) (callF (tb s) (n + 3)) (d + 56) cnd [c0, some (.ref q), some (.ref P), some (.ref M), some (.ref D), some (.int c 0), some (.int K 0), some (.ref t), o8, o9, o10, o11] h1 = some (decide ((m : Int) = 8), h1 ++ [.lst (ns.drop ((us.length : Int) - K).toNat)]) := by
        have hD := S1.hD
        generalize ns.drop ((us.length : Int) - K).toNat = v2 at ct ei
        simp [cnd, yy, evs, evO, srcU, turns, truU, subU, opU, addI, biU, biL, slU, fin, e_eqi, e_lti, modI, z1, z2, hD, seqU, nl, subI, gz, ct, lstU, ei, em]
      have k2 : Kp h1 (h1 ++ [.lst (ns.drop ((us.length : Int) - K).toNat)]) := Kp.app _ _
      by_cases z3 : (m : Int) = 8
      · rw [decide_eq_true z3] at et
        exact goA _ k2 et
      · rw [decide_eq_false z3] at et
        have S2 := S1.grow (ρ' := []) k2
        have ht2 : gx (h1 ++ [.lst (ns.drop ((us.length : Int) - K).toNat)]) P M D t = some (.tup su.us) := gx_of (k2 _ _ (gx_is ht').1) (gx_is ht').2.1 (gx_is ht').2.2.1 (gx_is ht').2.2.2
        generalize h1 ++ [O.lst (ns.drop ((us.length : Int) - K).toNat)] = h2 at et S2 ht2
        obtain ⟨P', M', D', o9', o10', o11', h', us', vs', ns', MS', DS', ρ1, S3, e⟩ := t_B (s := s) (n := n + 2) (d := d + 26) (c0 := c0) (c5 := some (.int c 0)) (o8 := o8) (o9 := o9) (o10 := o10) (o11 := o11) hx S2 hk (K2 (by omega)) K1 ht2 so ei em (by omega) (fun A B tt => tt.cat bnd)
        refine ⟨P', M', D', some (.int K 0), some (.ref t), o8, o9', o10', o11', h', us', vs', ns', MS', DS', ρ1, S3, ?_⟩
        rw [x_next x6, x_next x7, y_cons, show bdi = .ite cnd stA [d9, d10, d11, d12] from rfl, y_ite, et, y_bd, if_neg (by simp), e]
        exact y_nil
theorem c_drawn {s : List U} {n L q : Nat} {x : Ch} {cs : List Int} {hs : Hs} (hx : x.Ok) (hL : hs[L]? = some (.lst (cs.map fun i => .int i 0))) (hq : hs[q]? = some (.lst x.us)) (hz : cs.length ≤ 64) :
    ∃ (p P r : Nat) (us : List U) (MS : List (List Nat)) (DS : List U) (h' : Hs), h'[p]? = some (.tup [.ref P, .ref r]) ∧ h'[P]? = some (.lst us) ∧ us.length ≤ 64 ∧ h'[r]? = some (.lst (stz MS)) ∧ MS.length ≤ 394 ∧ DS.length ≤ 64 ∧ Cat (PU (lk h') x 8) us MS DS ∧ h'[q]? = some (.lst x.us) ∧ callF (tb s) (n + 4) 25 [.ref L, .ref q] hs = some (.ref p, h') := by
  have lL := (List.getElem?_eq_some_iff.mp hL).1
  have lq := (List.getElem?_eq_some_iff.mp hq).1
  have a1 : (hs ++ [O.lst [], .lst [], .lst []])[hs.length]? = some (.lst []) := at0
  have a2 : (hs ++ [O.lst [], .lst [], .lst []])[hs.length + 1]? = some (.lst []) := by
    rw [List.getElem?_append_right (by omega), show hs.length + 1 - hs.length = 1 by omega]; rfl
  have a3 : (hs ++ [O.lst [], .lst [], .lst []])[hs.length + 2]? = some (.lst []) := by
    rw [List.getElem?_append_right (by omega), show hs.length + 2 - hs.length = 2 by omega]; rfl
  obtain ⟨ρ', h', ⟨P, M, D, us, vs, ns, MS, DS, o5, o6, o7, o8, o9, o10, o11, rfl, ρ0, S1⟩, lp⟩ := for_lst (T := tb s) (x := 5) (l := L) (us := cs.map fun i => U.int i 0) (body := exs (tb s) (callF (tb s) (n + 3)) 95 [bd6, bd7, bdi])
    (fun i ρ h => ∃ (P M D : Nat) (us vs ns : List U) (MS : List (List Nat)) (DS : List U) (o5 o6 o7 o8 o9 o10 o11 : Option U), ρ = [some (.ref L), some (.ref q), some (.ref P), some (.ref M), some (.ref D), o5, o6, o7, o8, o9, o10, o11] ∧ ∃ ρ0, St x q L (cs.map fun i => U.int i 0) (min i 64) ρ0 h P M D us vs ns MS DS)
    (fun i ρ h hI => by
      obtain ⟨P, M, D, us, vs, ns, MS, DS, o5, o6, o7, o8, o9, o10, o11, _, ρ0, S1⟩ := hI
      exact (gx_is S1.l).1)
    (fun i u ρ h hu hI => by
      obtain ⟨P, M, D, us, vs, ns, MS, DS, o5, o6, o7, o8, o9, o10, o11, rfl, ρ0, S1⟩ := hI
      rw [List.getElem?_map, Option.map_eq_some_iff] at hu
      obtain ⟨c, hc, rfl⟩ := hu
      have lt := (List.getElem?_eq_some_iff.mp hc).1
      obtain ⟨P', M', D', o6', o7', o8', o9', o10', o11', h2, us', vs', ns', MS', DS', ρ1, S2, e⟩ := c_turn (s := s) (n := n) (d := 35) (c := c) (c0 := some (.ref L)) (o5 := o5) (o6 := o6) (o7 := o7) (o8 := o8) (o9 := o9) (o10 := o10) (o11 := o11) hx S1 (by omega)
      refine ⟨_, h2, ⟨P', M', D', us', vs', ns', MS', DS', _, _, _, _, _, _, _, rfl, ρ1, ?_⟩, e⟩
      rw [show min (i + 1) 64 = min i 64 + 1 by omega]
      exact S2)
    (cs.map fun i => U.int i 0).length 0 [some (.ref L), some (.ref q), some (.ref hs.length), some (.ref (hs.length + 1)), some (.ref (hs.length + 2)), none, none, none, none, none, none, none] (hs ++ [.lst [], .lst [], .lst []]) (by simp) ⟨hs.length, hs.length + 1, hs.length + 2, [], [], [], [], [], _, _, _, _, _, _, _, rfl, [], ⟨a1, a2, a3, by omega, by omega, by omega, .nil, by simp, by simp, by simp, gx_of (keepR hq) (by omega) (by omega) (by omega), gx_of (keepR hL) (by omega) (by omega) (by omega)⟩⟩
  have mz := S1.ms
  have dz := S1.ds
  have uz := S1.uz
  have ml : min (cs.map fun i => U.int i 0).length 64 ≤ 64 := Nat.min_le_right _ _
  obtain ⟨r, h2, rge, k2, hr, ej⟩ := c_join (s := s) (n := n + 2) S1.hM (S1.t.jv.keep kg_gx) (by omega)
  have k3 : Kp h' (h2 ++ [.tup [.ref P, .ref r]]) := k2.trans (Kp.app _ _)
  have kgc : KG (gx h' P M D) (lk (h2 ++ [.tup [.ref P, .ref r]])) := fun p o e => k3 _ _ (gx_is e).1
  refine ⟨h2.length, P, r, us, MS, DS, h2 ++ [.tup [.ref P, .ref r]], at0, k3 _ _ S1.hP, by omega, keepR hr, by omega, by omega, (S1.t.cat S1.t.low).mono (PU.keep kgc 8), k3 _ _ (gx_is S1.q).1, ?_⟩
  rw [y_callF fnL[25] rfl rfl]
  show fin (exs (tb s) (callF (tb s) (n + 3)) 100 b25 [some (.ref L), some (.ref q), none, none, none, none, none, none, none, none, none, none] hs) = _
  have hL3 : (hs ++ [O.lst [], .lst [], .lst []])[L]? = some (.lst (cs.map fun i => .int i 0)) := keepR hL
  have e0 : ex (tb s) (callF (tb s) (n + 3)) 99 (.set 2 (.lst [])) [some (.ref L), some (.ref q), none, none, none, none, none, none, none, none, none, none] hs = some (.next, [some (.ref L), some (.ref q), some (.ref hs.length), none, none, none, none, none, none, none, none, none], hs ++ [.lst []]) := by
    simp [yy, evs, evO, srcU, turns, cmpU, eq_int, truU, subU, opU, addI, biU, biL, slU, fin]
  have e1 : ex (tb s) (callF (tb s) (n + 3)) 98 (.set 3 (.lst [])) [some (.ref L), some (.ref q), some (.ref hs.length), none, none, none, none, none, none, none, none, none] (hs ++ [.lst []]) = some (.next, [some (.ref L), some (.ref q), some (.ref hs.length), some (.ref (hs.length + 1)), none, none, none, none, none, none, none, none], hs ++ [.lst [], .lst []]) := by
    simp [yy, evs, evO, srcU, turns, cmpU, eq_int, truU, subU, opU, addI, biU, biL, slU, fin]
  have e2 : ex (tb s) (callF (tb s) (n + 3)) 97 (.set 4 (.lst [])) [some (.ref L), some (.ref q), some (.ref hs.length), some (.ref (hs.length + 1)), none, none, none, none, none, none, none, none] (hs ++ [.lst [], .lst []]) = some (.next, [some (.ref L), some (.ref q), some (.ref hs.length), some (.ref (hs.length + 1)), some (.ref (hs.length + 2)), none, none, none, none, none, none, none], hs ++ [.lst [], .lst [], .lst []]) := by
    simp [yy, evs, evO, srcU, turns, cmpU, eq_int, truU, subU, opU, addI, biU, biL, slU, fin]
  rw [b25_is, x_next e0, x_next e1, x_next e2, y_cons, y_loop]
  simp only [srcU, y_var, List.getElem?_cons_succ, List.getElem?_cons_zero, y_bd, wkS, lstU, hL3, Option.map_some, turns, Option.getD_some]
  rw [lp]
  simp [yy, evs, evO, srcU, turns, cmpU, eq_int, truU, subU, opU, addI, biU, biL, slU, fin, ej]
theorem c_cell {s : List U} {n k : Nat} {ns : List Int} {hs : Hs} (hsc : (tb s).scr = ns.map fun i => .int i 0) : ∃ i, callF (tb s) (n + 1) 18 [.scr, .int (k : Int) 0] hs = some (.int i 0, hs) := by
  rw [y_callF fnL[18] rfl rfl]
  show ∃ i, fin (exs (tb s) (callF (tb s) n) 100 b18 [some .scr, some (.int (k : Int) 0)] hs) = _
  by_cases z : k < ns.length
  · have e : atU (ns.map fun i => U.int i 0) (k : Int) = some (.int ns[k] 0) := by
      unfold atU ixU
      rw [if_pos (by omega), if_pos (by simp; omega)]
      simp [z]
    exact ⟨ns[k], by simp [b18, yy, evs, evO, srcU, turns, cmpU, eq_int, truU, subU, opU, addI, biU, biL, slU, fin, seqU, hsc, z, e]⟩
  · exact ⟨0, by simp [b18, yy, evs, evO, srcU, turns, cmpU, eq_int, truU, subU, opU, addI, biU, biL, slU, fin, seqU, hsc, z]⟩
def elC : E := .op .Mod (.call 18 [(.var 0), (.var 8)]) (.ix (.lst [(.c (.int 5 0)), (.c (.int 4 0)), (.c (.int 3 0)), (.c (.int 200 0))]) (.var 8))
abbrev l4 : O := .lst [.int 5 0, .int 4 0, .int 3 0, .int 200 0]
theorem c_cell4 {s : List U} {n d : Nat} {k : Nat} {v : Int} {ns : List Int} {hs : Hs} {ρ : Rho} (hsc : (tb s).scr = ns.map fun i => .int i 0) (r0 : ρ[0]? = some (some .scr)) (r8 : ρ[8]? = some (some (.int (k : Int) 0))) (hv : atU [U.int 5 0, .int 4 0, .int 3 0, .int 200 0] (k : Int) = some (.int v 0)) (v0 : 0 < v) : ∃ i : Int, ev (tb s) (callF (tb s) (n + 1)) (d + 10) elC ρ hs = some (.int (i % v) 0, hs ++ [l4]) := by
  obtain ⟨i, e⟩ := c_cell (s := s) (n := n) (k := k) (hs := hs) hsc
  exact ⟨i, by simp [elC, yy, evs, evO, srcU, turns, cmpU, eq_int, truU, subU, opU, addI, biU, biL, slU, fin, r0, r8, e, at0, hv, modI, v0]⟩
theorem lo_mod {i v : Int} (h : 0 < v) (h' : v ≤ 1000) : Lo (i % v) := ⟨Int.emod_nonneg _ (by omega), Int.lt_of_lt_of_le (Int.emod_lt_of_pos _ h) h'⟩
theorem c_choice {s : List U} {n : Nat} {ns : List Int} (hsc : (tb s).scr = ns.map fun i => .int i 0) : ∃ x : Ch, x.Ok ∧ ex (tb s) (callF (tb s) (n + 1)) 99 (.set 1 (.comp (.rng (.c (.int 4 0))) false none elC)) [some .scr, none, none, none, none, none, none, none] [] = some (.next, [some .scr, some (.ref 4), none, none, none, none, none, none], [l4, l4, l4, l4, .lst x.us]) := by
  obtain ⟨i0, e0⟩ := c_cell4 (s := s) (n := n) (d := 87) (k := 0) (v := 5) (hs := []) (ρ := [some .scr, none, none, none, none, none, none, none, some (.int (0 + ((0 : Nat) : Int)) 0)]) hsc rfl rfl rfl (by decide)
  obtain ⟨i1, e1⟩ := c_cell4 (s := s) (n := n) (d := 87) (k := 1) (v := 4) (hs := [l4]) (ρ := [some .scr, none, none, none, none, none, none, none, some (.int (0 + ((1 : Nat) : Int)) 0)]) hsc rfl rfl rfl (by decide)
  obtain ⟨i2, e2⟩ := c_cell4 (s := s) (n := n) (d := 87) (k := 2) (v := 3) (hs := [l4, l4]) (ρ := [some .scr, none, none, none, none, none, none, none, some (.int (0 + ((2 : Nat) : Int)) 0)]) hsc rfl rfl rfl (by decide)
  obtain ⟨i3, e3⟩ := c_cell4 (s := s) (n := n) (d := 87) (k := 3) (v := 200) (hs := [l4, l4, l4]) (ρ := [some .scr, none, none, none, none, none, none, none, some (.int (0 + ((3 : Nat) : Int)) 0)]) hsc rfl rfl rfl (by decide)
  refine ⟨⟨i0 % 5, i1 % 4, i2 % 3, i3 % 200⟩, ⟨lo_mod (by decide) (by decide), lo_mod (by decide) (by decide), lo_mod (by decide) (by decide), lo_mod (by decide) (by decide)⟩, ?_⟩
  have s4 : small64 16 = true := by decide
  have cp : compU (tb s) (ev (tb s) (callF (tb s) (n + 1)) 97) (evTO (evT (tb s) (callF (tb s) (n + 1)) 97) none) (.rng 0 4) false elC [some .scr, none, none, none, none, none, none, none] 5 0 [] [] = some ([.int (i0 % 5) 0, .int (i1 % 4) 0, .int (i2 % 3) 0, .int (i3 % 200) 0], [l4, l4, l4, l4]) := by
    simp only [Nat.reduceAdd, List.nil_append, List.cons_append] at e0 e1 e2 e3
    rw [compU]
    show (bd (ev (tb s) (callF (tb s) (n + 1)) 97 elC [some .scr, none, none, none, none, none, none, none, some (.int (0 + ((0 : Nat) : Int)) 0)] []) fun u h2 => compU _ _ _ _ _ _ _ 4 1 ([] ++ [u]) h2) = _
    rw [e0, y_bd, compU]
    show (bd (ev (tb s) (callF (tb s) (n + 1)) 97 elC [some .scr, none, none, none, none, none, none, none, some (.int (0 + ((1 : Nat) : Int)) 0)] [l4]) fun u h2 => compU _ _ _ _ _ _ _ 3 2 ([] ++ [U.int (i0 % 5) 0] ++ [u]) h2) = _
    rw [e1, y_bd, compU]
    show (bd (ev (tb s) (callF (tb s) (n + 1)) 97 elC [some .scr, none, none, none, none, none, none, none, some (.int (0 + ((2 : Nat) : Int)) 0)] [l4, l4]) fun u h2 => compU _ _ _ _ _ _ _ 2 3 ([] ++ [U.int (i0 % 5) 0] ++ [U.int (i1 % 4) 0] ++ [u]) h2) = _
    rw [e2, y_bd, compU]
    show (bd (ev (tb s) (callF (tb s) (n + 1)) 97 elC [some .scr, none, none, none, none, none, none, none, some (.int (0 + ((3 : Nat) : Int)) 0)] [l4, l4, l4]) fun u h2 => compU _ _ _ _ _ _ _ 1 4 ([] ++ [U.int (i0 % 5) 0] ++ [U.int (i1 % 4) 0] ++ [U.int (i2 % 3) 0] ++ [u]) h2) = _
    rw [e3, y_bd, compU]
    rfl
  have sq : srcU (tb s) (ev (tb s) (callF (tb s) (n + 1)) 97) [some .scr, none, none, none, none, none, none, none] (.rng (.c (.int 4 0))) [] = some (.rng 0 4, []) := by
    simp [yy, evs, evO, srcU, turns, cmpU, eq_int, truU, subU, opU, addI, biU, biL, slU, fin, s4]
  rw [y_set, y_comp, sq, y_bd]
  show (bd (bd (compU (tb s) (ev (tb s) (callF (tb s) (n + 1)) 97) (evTO (evT (tb s) (callF (tb s) (n + 1)) 97) none) (.rng 0 4) false elC [some .scr, none, none, none, none, none, none, none] 5 0 [] []) _) _) = _
  rw [cp]
  rfl
theorem MkO.ascii {o : O} {m : List Nat} (h : MkO o m) : ∀ c ∈ m, c < 128 := by
  have sd : ∀ {x c}, Sd x c → c < 128 := fun h => by rcases h with ⟨_, rfl⟩ | ⟨_, rfl⟩ <;> decide
  have cd : ∀ {x c}, Cd x c → c < 128 := fun h => by rcases h with ⟨_, rfl⟩ | ⟨_, rfl⟩ <;> decide
  have dg : ∀ {x c}, Dg x c → c < 128 := fun h => by rcases h with ⟨_, rfl⟩ | ⟨_, rfl⟩ | ⟨_, rfl⟩ | ⟨_, rfl⟩ <;> decide
  intro c hc
  cases h with
  | plain a => simp only [List.mem_cons, List.not_mem_nil, or_false] at hc; subst hc; exact sd a
  | slip => simp only [List.mem_cons, List.not_mem_nil, or_false] at hc; subst hc; decide
  | over => simp only [List.mem_cons, List.not_mem_nil, or_false] at hc; subst hc; decide
  | off => simp only [List.mem_cons, List.not_mem_nil, or_false] at hc; subst hc; decide
  | keep a => simp only [List.mem_cons, List.not_mem_nil, or_false] at hc; rcases hc with rfl | rfl <;> first | decide | exact a
  | fetch a => simp only [List.mem_cons, List.not_mem_nil, or_false] at hc; rcases hc with rfl | rfl <;> first | decide | exact a
  | lean a b e => simp only [List.mem_cons, List.not_mem_nil, or_false] at hc; rcases hc with rfl | rfl | rfl <;> first | exact sd a | exact dg b | exact e
  | grow a b => simp only [List.mem_cons, List.not_mem_nil, or_false] at hc; rcases hc with rfl | rfl | rfl <;> first | exact sd a | decide | exact dg b
  | cross a b e f => simp only [List.mem_cons, List.not_mem_nil, or_false] at hc; rcases hc with rfl | rfl | rfl | rfl <;> first | exact cd a | exact dg b | exact e | exact dg f
def Dt (hs : Hs) (d : U) : Prop := (∃ m : List Nat, d = .str m ∧ ∀ c ∈ m, c < 128) ∨ ∃ (t : Nat) (su : Su), d = .ref t ∧ hs[t]? = some (.tup su.us)
theorem Cat.all {R : U → List (List Nat) → List U → Prop} {Q : U → Prop} {us ds : List U} {ms : List (List Nat)} (ct : Cat R us ms ds) (h : ∀ u a d, R u a d → ∀ e ∈ d, Q e) : ∀ e ∈ ds, Q e := by
  induction ct with
  | nil => intro e he; cases he
  | cons r _ ih =>
    intro e he
    rcases List.mem_append.mp he with q | q
    · exact h _ _ _ r e q
    · exact ih e q
theorem PU.dt {hs : Hs} {x : Ch} : ∀ (k : Nat) (u : U) (ms : List (List Nat)) (ds : List U), PU (lk hs) x k u ms ds → ∀ e ∈ ds, Dt hs e := by
  have one : ∀ {u : U} {ms : List (List Nat)} {ds : List U}, PO (lk hs) u ms ds → ∀ e ∈ ds, Dt hs e := fun {u ms ds} h e he => by
    obtain ⟨p, v, o, m, _, _, _, mk, _, rfl⟩ := h
    simp at he
    exact .inl ⟨m, he, mk.ascii⟩
  intro k
  induction k with
  | zero => intro u ms ds h; exact one h
  | succ k ih =>
    rintro u ms ds (h | ⟨p, t, l, us, m, ms', ds', _, _, ht, _, _, _, c, _, _, rfl, _⟩)
    · exact one h
    · intro e he
      rcases List.mem_cons.mp he with rfl | he
      · exact .inr ⟨t, m, rfl, ht⟩
      · exact c.all ih e he
theorem PU.ref {g : Gk} {x : Ch} {k : Nat} {u : U} {ms : List (List Nat)} {ds : List U} (h : PU g x k u ms ds) : ∃ p, u = .ref p := by
  cases k with
  | zero => obtain ⟨p, _, _, _, e, _⟩ := h; exact ⟨p, e⟩
  | succ k => rcases h with ⟨p, _, _, _, e, _⟩ | ⟨p, _, _, _, _, _, _, e, _⟩ <;> exact ⟨p, e⟩
theorem Cat.refs {g : Gk} {x : Ch} {k : Nat} {us ds : List U} {ms : List (List Nat)} (ct : Cat (PU g x k) us ms ds) : (us.all fun u => match u with | .ref _ => true | _ => false) = true := by
  induction ct with
  | nil => rfl
  | cons r _ ih =>
    obtain ⟨p, rfl⟩ := r.ref
    rw [List.all_cons, ih]
    rfl
theorem eq_same {T : Tbl} {a b : Nat} {xs : List U} {hs : Hs} (ha : hs[a]? = some (.lst xs)) (hb : hs[b]? = some (.lst xs)) (ok : (xs.all fun u => match u with | .ref _ => true | _ => false) = true ∨ ∀ u ∈ xs, okW T 19 u hs = true ∧ eqW T 19 u u hs = true) : cmpU T .Eq (.ref a) (.ref b) hs = some true ∧ cmpU T .NotEq (.ref a) (.ref b) hs = some false := by
  have la : lstU T (.ref a) hs = some xs := by simp only [lstU, ha]
  have lb : lstU T (.ref b) hs = some xs := by simp only [lstU, hb]
  have n : lenNe T (.ref a) (.ref b) hs = false := by unfold lenNe; rw [la, lb]; simp
  have e : eqA T (.ref a) (.ref b) hs = some true := by
    unfold eqA
    rw [show eqS (.ref a) (.ref b) = none from rfl]
    show (if lenNe T (.ref a) (.ref b) hs = true then some false else if sameR T (.ref a) (.ref b) hs = true then some true else if (okW T 20 (.ref a) hs && okW T 20 (.ref b) hs) = true then some (eqW T 20 (.ref a) (.ref b) hs) else none) = _
    rw [n, if_neg (by decide)]
    by_cases sr : sameR T (.ref a) (.ref b) hs = true
    · rw [if_pos sr]
    · rw [if_neg sr]
      rcases ok with r | ok
      · refine absurd ?_ sr
        unfold sameR
        rw [la, lb]
        simp only [decide_true, Bool.true_and]
        exact r
      · have o : ∀ p, lstU T (.ref p) hs = some xs → okW T 20 (.ref p) hs = true := fun p h => by
          show (match lstU T (.ref p) hs with | some xs => xs.all fun x => okW T 19 x hs | none => _) = true
          rw [h]
          exact List.all_eq_true.mpr fun u hu => (ok u hu).1
        have w : eqW T 20 (.ref a) (.ref b) hs = true := by
          show (match lstU T (.ref a) hs with
            | some xs => (match lstU T (.ref b) hs with
              | some ys => (xs.length == ys.length) && (xs.zip ys).all fun p => eqW T 19 p.1 p.2 hs
              | none => false)
            | none => _) = true
          rw [la, lb]
          have : ∀ (ys : List U) (p : U × U), p ∈ ys.zip ys → p.1 = p.2 ∧ p.1 ∈ ys := by
            intro ys
            induction ys with
            | nil => intro p h; cases h
            | cons y r ih =>
              intro p h
              rcases List.mem_cons.mp h with rfl | h
              · exact ⟨rfl, List.mem_cons_self⟩
              · exact ⟨(ih p h).1, List.mem_cons_of_mem _ (ih p h).2⟩
          simp only [beq_self_eq_true, Bool.true_and]
          refine List.all_eq_true.mpr fun p hp => ?_
          obtain ⟨e1, e2⟩ := this xs p hp
          rw [← e1]
          exact (ok _ e2).2
        rw [o a la, o b lb, w]
        rfl
  refine ⟨e, ?_⟩
  show (eqA T (.ref a) (.ref b) hs).map (!·) = _
  rw [e]
  rfl
theorem dt_ok {T : Tbl} {hs : Hs} {d : U} (h : Dt hs d) : okW T 19 d hs = true ∧ eqW T 19 d d hs = true := by
  rcases h with ⟨m, rfl, lt⟩ | ⟨t, su, rfl, ht⟩
  · refine ⟨List.all_eq_true.mpr fun c hc => decide_eq_true (lt c hc), ?_⟩
    show (m == m) = true
    exact beq_self_eq_true m
  · have a : lstU T (.ref t) hs = none := by simp only [lstU, ht]
    have b : tupU T (.ref t) hs = some su.us := by simp only [tupU, ht]
    refine ⟨?_, ?_⟩
    · show (match lstU T (.ref t) hs with
        | some xs => xs.all fun x => okW T 18 x hs
        | none => match tupU T (.ref t) hs with
          | some xs => xs.all fun x => okW T 18 x hs
          | none => _) = true
      rw [a, b]
      rfl
    · show (match lstU T (.ref t) hs with
        | some xs => _
        | none => match tupU T (.ref t) hs with
          | some xs => (match lstU T (.ref t) hs with
            | some _ => false
            | none => match tupU T (.ref t) hs with
              | some ys => (xs.length == ys.length) && (xs.zip ys).all fun p => eqW T 18 p.1 p.2 hs
              | none => false)
          | none => _) = true
      rw [a, b]
      have e : ∀ i : Int, eqW T 18 (.int i 0) (.int i 0) hs = true := fun i => by
        show (i == i) = true
        exact beq_self_eq_true i
      show (true && (eqW T 18 (.int su.a 0) (.int su.a 0) hs && (eqW T 18 (.int su.b 0) (.int su.b 0) hs && (eqW T 18 (.int su.c 0) (.int su.c 0) hs && (eqW T 18 (.int su.d 0) (.int su.d 0) hs && (eqW T 18 (.int su.e 0) (.int su.e 0) hs && true)))))) = true
      rw [e, e, e, e, e]
      rfl
theorem int_ok {T : Tbl} {hs : Hs} {i : Int} : okW T 19 (.int i 0) hs = true ∧ eqW T 19 (.int i 0) (.int i 0) hs = true := by
  refine ⟨?_, ?_⟩
  · simp [okW, lstU, tupU]
  · simp [eqW, lstU, tupU, eqB]
def q0 : S := .set 1 (.comp (.rng (.c (.int 4 0))) false none elC)
def q1 : S := .unp 2 3 (.call 25 [(.sl (.var 0) (some (.c (.int 4 0))) (some (.c (.int 68 0)))), (.var 1)])
def q2 : S := .set 4 (.bi .list [(.var 2)])
def q3 : S := .set 5 (.bi .list [(.var 1)])
def q4 : S := .set 6 (.call 23 [(.var 2)])
def q5 : S := .set 7 (.call 16 [(.var 4), (.var 5)])
def q6 : S := .ite (.or (.not (.call 26 [(.var 7), (.var 3)])) (.or (.cmp .NotEq (.var 4) (.var 2)) (.cmp .NotEq (.var 5) (.var 1)))) [(.ret (.c (.bl false)))] []
def q7 : S := .expr (.bm .clear (.var 7) [])
def q8 : S := .ite (.not (.call 26 [(.call 16 [(.var 4), (.var 5)]), (.var 3)])) [(.ret (.c (.bl false)))] []
def q9 : S := .ret (.and (.cmp .Eq (.var 4) (.var 2)) (.cmp .Eq (.call 23 [(.var 2)]) (.var 6)))
theorem b27_is : b27 = [q0, q1, q2, q3, q4, q5, q6, q7, q8, q9] := rfl
theorem comp0 (n : Nat) (ns : List Int) (hl : ns.length ≤ 63) : ∃ s hs', Paired (fun (u : U) (i : Int) => ∃ r m, u = .int r m ∧ ∃ q : Int, i = r + m * q) s ns ∧ callF (tb s) (n + 19) 27 [.scr] [] = some (.bl true, hs') := by
  refine ⟨ns.map fun i => .int i 0, ?_⟩
  have pr : ∀ ns : List Int, Paired (fun (u : U) (i : Int) => ∃ r m, u = .int r m ∧ ∃ q : Int, i = r + m * q) (ns.map fun i => .int i 0) ns := fun ns => by
    induction ns with
    | nil => exact .nil
    | cons i r ih => exact .cons ⟨i, 0, rfl, 0, by simp⟩ ih
  generalize hs0 : (ns.map fun i => U.int i 0) = s
  have hs1 : (tb s).scr = s := rfl
  have cut : cutU s (some 4) (some 68) = (cutU ns (some 4) (some 68)).map fun i => .int i 0 := by
    rw [← hs0]; simp [cutU]
  have cl : (cutU ns (some 4) (some 68)).length ≤ 63 := by simp [cutU]; omega
  generalize hc : cutU ns (some 4) (some 68) = cs at cut cl
  obtain ⟨x, hx, e0⟩ := c_choice (s := s) (n := n + 17) (ns := ns) (hs1.trans hs0.symm)
  obtain ⟨p, P, r, us, MS, DS, h1, hp, hP, uz, hr, mz, dz, ct, hq, e25⟩ := c_drawn (s := s) (n := n + 14) (L := 5) (q := 4) (x := x) (cs := cs) (hs := [l4, l4, l4, l4, .lst x.us, .lst (cs.map fun i => .int i 0)]) hx rfl rfl (by omega)
  have e1 : ex (tb s) (callF (tb s) (n + 18)) 98 q1 [some .scr, some (.ref 4), none, none, none, none, none, none] [l4, l4, l4, l4, .lst x.us] = some (.next, [some .scr, some (.ref 4), some (.ref P), some (.ref r), none, none, none, none], h1) := by
    simp [q1, yy, evs, evO, srcU, turns, cmpU, eq_int, truU, subU, opU, addI, biU, biL, slU, fin, hs1, cut, e25, tgt, hp]
  have e2 : ex (tb s) (callF (tb s) (n + 18)) 97 q2 [some .scr, some (.ref 4), some (.ref P), some (.ref r), none, none, none, none] h1 = some (.next, [some .scr, some (.ref 4), some (.ref P), some (.ref r), some (.ref h1.length), none, none, none], h1 ++ [.lst us]) := by
    simp [q2, yy, evs, evO, srcU, turns, cmpU, eq_int, truU, subU, opU, addI, biU, biL, slU, fin, seqU, hP]
  have e3 : ex (tb s) (callF (tb s) (n + 18)) 96 q3 [some .scr, some (.ref 4), some (.ref P), some (.ref r), some (.ref h1.length), none, none, none] (h1 ++ [.lst us]) = some (.next, [some .scr, some (.ref 4), some (.ref P), some (.ref r), some (.ref h1.length), some (.ref (h1.length + 1)), none, none], h1 ++ [.lst us, .lst x.us]) := by
    have hq' : (h1 ++ [O.lst us])[4]? = some (.lst x.us) := keepR hq
    simp [q3, yy, evs, evO, srcU, turns, cmpU, eq_int, truU, subU, opU, addI, biU, biL, slU, fin, seqU, hq']
  have k2 : Kp h1 (h1 ++ [.lst us, .lst x.us]) := Kp.app _ _
  have hA : (h1 ++ [O.lst us, .lst x.us])[h1.length]? = some (.lst us) := at0
  have hB : (h1 ++ [O.lst us, .lst x.us])[h1.length + 1]? = some (.lst x.us) := by
    rw [List.getElem?_append_right (by omega), show h1.length + 1 - h1.length = 1 by omega]; rfl
  generalize h1 ++ [O.lst us, .lst x.us] = h2 at e3 k2 hA hB
  generalize h1.length + 1 = B at e3 hB
  generalize h1.length = A at e2 e3 hA
  have ct2 := ct.mono (PU.keep (kg_kp k2) 8)
  obtain ⟨r6, h3, _, k3, hr6, e23⟩ := c_mks (s := s) (n := n + 8) 8 h2 P us DS MS (k2 _ _ hP) ct2 (by omega)
  have e4 : ex (tb s) (callF (tb s) (n + 18)) 95 q4 [some .scr, some (.ref 4), some (.ref P), some (.ref r), some (.ref A), some (.ref B), none, none] h2 = some (.next, [some .scr, some (.ref 4), some (.ref P), some (.ref r), some (.ref A), some (.ref B), some (.ref r6), none], h3) := by
    simp [q4, yy, evs, evO, srcU, turns, cmpU, eq_int, truU, subU, opU, addI, biU, biL, slU, fin, e23]
  have k13 := k2.trans k3
  have ct3 := ct.mono (PU.keep (kg_kp k13) 8)
  obtain ⟨r7, is, h4, r7ge, k4, hr7, pr7, e16⟩ := c_unr (s := s) (n := n) (q := B) hx 8 h3 A us DS MS (k3 _ _ hA) (k3 _ _ hB) ct3 (by omega)
  have e5 : ex (tb s) (callF (tb s) (n + 18)) 94 q5 [some .scr, some (.ref 4), some (.ref P), some (.ref r), some (.ref A), some (.ref B), some (.ref r6), none] h3 = some (.next, [some .scr, some (.ref 4), some (.ref P), some (.ref r), some (.ref A), some (.ref B), some (.ref r6), some (.ref r7)], h4) := by
    simp [q5, yy, evs, evO, srcU, turns, cmpU, eq_int, truU, subU, opU, addI, biU, biL, slU, fin, e16]
  have k14 := k13.trans k4
  have t26 := c_told (s := s) (n := n + 16) hr7 pr7 (k14 _ _ hr) (by omega)
  have rf := ct.refs
  have q1' := eq_same (T := tb s) (k4 _ _ (k3 _ _ hA)) (k14 _ _ hP) (.inl rf)
  have io : ∀ h : Hs, ∀ u ∈ x.us, okW (tb s) 19 u h = true ∧ eqW (tb s) 19 u u h = true := fun h u hu => by
    simp only [Ch.us, List.mem_cons, List.not_mem_nil, or_false] at hu
    rcases hu with rfl | rfl | rfl | rfl <;> exact int_ok
  have q2' := eq_same (T := tb s) (k4 _ _ (k3 _ _ hB)) (k14 _ _ hq) (.inr (io h4))
  have e6 : ex (tb s) (callF (tb s) (n + 18)) 93 q6 [some .scr, some (.ref 4), some (.ref P), some (.ref r), some (.ref A), some (.ref B), some (.ref r6), some (.ref r7)] h4 = some (.next, [some .scr, some (.ref 4), some (.ref P), some (.ref r), some (.ref A), some (.ref B), some (.ref r6), some (.ref r7)], h4) := by
    have b1 := q1'.2
    have b2 := q2'.2
    simp [q6, yy, evs, evO, srcU, turns, truU, subU, opU, addI, biU, biL, slU, fin, t26, b1, b2]
  have e7 : ex (tb s) (callF (tb s) (n + 18)) 92 q7 [some .scr, some (.ref 4), some (.ref P), some (.ref r), some (.ref A), some (.ref B), some (.ref r6), some (.ref r7)] h4 = some (.next, [some .scr, some (.ref 4), some (.ref P), some (.ref r), some (.ref A), some (.ref B), some (.ref r6), some (.ref r7)], h4.set r7 (.lst [])) := by
    simp [q7, yy, evs, evO, srcU, turns, cmpU, eq_int, truU, subU, opU, addI, biU, biL, slU, fin, rcvU, hr7, bL, bmU, bmL]
  have k35 : Kp h3 (h4.set r7 (.lst [])) := k4.put r7ge
  generalize h4.set r7 (.lst []) = h5 at e7 k35
  have k15 := k13.trans k35
  have ct5 := ct.mono (PU.keep (kg_kp k15) 8)
  obtain ⟨r8, is8, h6, _, k6, hr8, pr8, e16'⟩ := c_unr (s := s) (n := n) (q := B) hx 8 h5 A us DS MS (k35 _ _ (k3 _ _ hA)) (k35 _ _ (k3 _ _ hB)) ct5 (by omega)
  have k16 := k15.trans k6
  have t26' := c_told (s := s) (n := n + 16) hr8 pr8 (k16 _ _ hr) (by omega)
  have e8 : ex (tb s) (callF (tb s) (n + 18)) 91 q8 [some .scr, some (.ref 4), some (.ref P), some (.ref r), some (.ref A), some (.ref B), some (.ref r6), some (.ref r7)] h5 = some (.next, [some .scr, some (.ref 4), some (.ref P), some (.ref r), some (.ref A), some (.ref B), some (.ref r6), some (.ref r7)], h6) := by
    simp [q8, yy, evs, evO, srcU, turns, cmpU, eq_int, truU, subU, opU, addI, biU, biL, slU, fin, e16', t26']
  have ct6 := ct.mono (PU.keep (kg_kp k16) 8)
  obtain ⟨r9, h7, _, k7, hr9, e23'⟩ := c_mks (s := s) (n := n + 8) 8 h6 P us DS MS (k16 _ _ hP) ct6 (by omega)
  have k17 := k16.trans k7
  have q3' := (eq_same (T := tb s) (k6 _ _ (k35 _ _ (k3 _ _ hA))) (k16 _ _ hP) (.inl rf)).1
  have q4' := (eq_same (T := tb s) hr9 (k7 _ _ (k6 _ _ (k35 _ _ hr6))) (.inr fun u hu => dt_ok ((ct.mono (PU.keep (kg_kp k17) 8)).all (PU.dt 8) u hu))).1
  refine ⟨h7, hs0 ▸ pr ns, ?_⟩
  rw [y_callF fnL[27] rfl rfl]
  show fin (exs (tb s) (callF (tb s) (n + 18)) 100 b27 [some .scr, none, none, none, none, none, none, none] []) = _
  have e0' : ex (tb s) (callF (tb s) (n + 18)) 99 q0 [some .scr, none, none, none, none, none, none, none] [] = some (.next, [some .scr, some (.ref 4), none, none, none, none, none, none], [l4, l4, l4, l4, .lst x.us]) := e0
  rw [b27_is, x_next e0', x_next e1, x_next e2, x_next e3, x_next e4, x_next e5, x_next e6, x_next e7, x_next e8]
  simp [q9, yy, evs, evO, srcU, turns, truU, subU, opU, addI, biU, biL, slU, fin, q3', e23', q4']
theorem comp (ns : List Int) (hl : ns.length ≤ 63) : ∃ s hs', Paired (fun (u : U) (i : Int) => ∃ r m, u = .int r m ∧ ∃ q : Int, i = r + m * q) s ns ∧ callF (tb s) 19 27 [.scr] [] = some (.bl true, hs') := comp0 0 ns hl
theorem sc0 : FnScope N0 ["self", "side"] (defScope st0) := ⟨rfl, rfl, rfl, by decide +kernel, rfl, by decide +kernel, by decide +kernel⟩
theorem sc1 : FnScope N1 ["self"] (defScope st1) := ⟨rfl, rfl, rfl, by decide +kernel, rfl, by decide +kernel, by decide +kernel⟩
theorem sc2 : FnScope N2 ["self"] (defScope st2) := ⟨rfl, rfl, rfl, by decide +kernel, rfl, by decide +kernel, by decide +kernel⟩
theorem sc3 : FnScope N3 ["self"] (defScope st3) := ⟨rfl, rfl, rfl, by decide +kernel, rfl, by decide +kernel, by decide +kernel⟩
theorem sc4 : FnScope N4 ["self", "many", "way", "side"] (defScope st4) := ⟨rfl, rfl, rfl, by decide +kernel, rfl, by decide +kernel, by decide +kernel⟩
theorem sc5 : FnScope N5 ["self"] (defScope st5) := ⟨rfl, rfl, rfl, by decide +kernel, rfl, by decide +kernel, by decide +kernel⟩
theorem sc6 : FnScope N6 ["self", "many", "side"] (defScope st6) := ⟨rfl, rfl, rfl, by decide +kernel, rfl, by decide +kernel, by decide +kernel⟩
theorem sc7 : FnScope N7 ["self"] (defScope st7) := ⟨rfl, rfl, rfl, by decide +kernel, rfl, by decide +kernel, by decide +kernel⟩
theorem sc8 : FnScope N8 ["self", "first", "second", "way", "side"] (defScope st8) := ⟨rfl, rfl, rfl, by decide +kernel, rfl, by decide +kernel, by decide +kernel⟩
theorem sc9 : FnScope N9 ["self"] (defScope st9) := ⟨rfl, rfl, rfl, by decide +kernel, rfl, by decide +kernel, by decide +kernel⟩
theorem sc10 : FnScope N10 ["self"] (defScope st10) := ⟨rfl, rfl, rfl, by decide +kernel, rfl, by decide +kernel, by decide +kernel⟩
theorem sc11 : FnScope N11 ["self", "keeper"] (defScope st11) := ⟨rfl, rfl, rfl, by decide +kernel, rfl, by decide +kernel, by decide +kernel⟩
theorem sc12 : FnScope N12 ["self"] (defScope st12) := ⟨rfl, rfl, rfl, by decide +kernel, rfl, by decide +kernel, by decide +kernel⟩
theorem sc13 : FnScope N13 ["self", "keeper"] (defScope st13) := ⟨rfl, rfl, rfl, by decide +kernel, rfl, by decide +kernel, by decide +kernel⟩
theorem sc14 : FnScope N14 ["self"] (defScope st14) := ⟨rfl, rfl, rfl, by decide +kernel, rfl, by decide +kernel, by decide +kernel⟩
theorem sc15 : FnScope N15 ["one", "choice"] (defScope st15) := ⟨rfl, rfl, rfl, by decide +kernel, rfl, by decide +kernel, by decide +kernel⟩
theorem sc16 : FnScope N16 ["parts", "choice"] (defScope st16) := ⟨rfl, rfl, rfl, by decide +kernel, rfl, by decide +kernel, by decide +kernel⟩
theorem sc17 : FnScope N17 ["parts", "often", "choice"] (defScope st17) := ⟨rfl, rfl, rfl, by decide +kernel, rfl, by decide +kernel, by decide +kernel⟩
theorem sc18 : FnScope N18 ["_law_script", "_law_k"] (defScope st18) := ⟨rfl, rfl, rfl, by decide +kernel, rfl, by decide +kernel, by decide +kernel⟩
theorem sc19 : FnScope N19 ["_law_cell", "_law_keepers"] (defScope st19) := ⟨rfl, rfl, rfl, by decide +kernel, rfl, by decide +kernel, by decide +kernel⟩
theorem sc20 : FnScope N20 ["_law_cell"] (defScope st20) := ⟨rfl, rfl, rfl, by decide +kernel, rfl, by decide +kernel, by decide +kernel⟩
theorem sc21 : FnScope N21 ["_law_one_here", "_law_choice"] (defScope st21) := ⟨rfl, rfl, rfl, by decide +kernel, rfl, by decide +kernel, by decide +kernel⟩
theorem sc22 : FnScope N22 ["_law_lists"] (defScope st22) := ⟨rfl, rfl, rfl, by decide +kernel, rfl, by decide +kernel, by decide +kernel⟩
theorem sc23 : FnScope N23 ["_law_parts"] (defScope st23) := ⟨rfl, rfl, rfl, by decide +kernel, rfl, by decide +kernel, by decide +kernel⟩
theorem sc24 : FnScope N24 ["_law_cell"] (defScope st24) := ⟨rfl, rfl, rfl, by decide +kernel, rfl, by decide +kernel, by decide +kernel⟩
theorem sc25 : FnScope N25 ["_law_cells", "_law_choice"] (defScope st25) := ⟨rfl, rfl, rfl, by decide +kernel, rfl, by decide +kernel, by decide +kernel⟩
theorem sc26 : FnScope N26 ["_law_found", "_law_marks_here"] (defScope st26) := ⟨rfl, rfl, rfl, by decide +kernel, rfl, by decide +kernel, by decide +kernel⟩
theorem sc27 : FnScope N27 ["_law_script"] (defScope st27) := ⟨rfl, rfl, rfl, by decide +kernel, rfl, by decide +kernel, by decide +kernel⟩
theorem bo0 (s : List U) : compSs 100 ⟨tb s, N0, (defScope st0).names, glo, bltN, false⟩ (defBody st0) = some b0 := by kernel_rfl
theorem bo1 (s : List U) : compSs 100 ⟨tb s, N1, (defScope st1).names, glo, bltN, false⟩ (defBody st1) = some b1 := by kernel_rfl
theorem bo2 (s : List U) : compSs 100 ⟨tb s, N2, (defScope st2).names, glo, bltN, false⟩ (defBody st2) = some b2 := by kernel_rfl
theorem bo3 (s : List U) : compSs 100 ⟨tb s, N3, (defScope st3).names, glo, bltN, false⟩ (defBody st3) = some b3 := by kernel_rfl
theorem bo4 (s : List U) : compSs 100 ⟨tb s, N4, (defScope st4).names, glo, bltN, false⟩ (defBody st4) = some b4 := by kernel_rfl
theorem bo5 (s : List U) : compSs 100 ⟨tb s, N5, (defScope st5).names, glo, bltN, false⟩ (defBody st5) = some b5 := by kernel_rfl
theorem bo6 (s : List U) : compSs 100 ⟨tb s, N6, (defScope st6).names, glo, bltN, false⟩ (defBody st6) = some b6 := by kernel_rfl
theorem bo7 (s : List U) : compSs 100 ⟨tb s, N7, (defScope st7).names, glo, bltN, false⟩ (defBody st7) = some b7 := by kernel_rfl
theorem bo8 (s : List U) : compSs 100 ⟨tb s, N8, (defScope st8).names, glo, bltN, false⟩ (defBody st8) = some b8 := by kernel_rfl
theorem bo9 (s : List U) : compSs 100 ⟨tb s, N9, (defScope st9).names, glo, bltN, false⟩ (defBody st9) = some b9 := by kernel_rfl
theorem bo10 (s : List U) : compSs 100 ⟨tb s, N10, (defScope st10).names, glo, bltN, false⟩ (defBody st10) = some b10 := by kernel_rfl
theorem bo11 (s : List U) : compSs 100 ⟨tb s, N11, (defScope st11).names, glo, bltN, false⟩ (defBody st11) = some b11 := by kernel_rfl
theorem bo12 (s : List U) : compSs 100 ⟨tb s, N12, (defScope st12).names, glo, bltN, false⟩ (defBody st12) = some b12 := by kernel_rfl
theorem bo13 (s : List U) : compSs 100 ⟨tb s, N13, (defScope st13).names, glo, bltN, false⟩ (defBody st13) = some b13 := by kernel_rfl
theorem bo14 (s : List U) : compSs 100 ⟨tb s, N14, (defScope st14).names, glo, bltN, false⟩ (defBody st14) = some b14 := by kernel_rfl
theorem bo15 (s : List U) : compSs 100 ⟨tb s, N15, (defScope st15).names, glo, bltN, false⟩ (defBody st15) = some b15 := by kernel_rfl
theorem bo16 (s : List U) : compSs 100 ⟨tb s, N16, (defScope st16).names, glo, bltN, false⟩ (defBody st16) = some b16 := by kernel_rfl
theorem bo17 (s : List U) : compSs 100 ⟨tb s, N17, (defScope st17).names, glo, bltN, false⟩ (defBody st17) = some b17 := by kernel_rfl
theorem bo18 (s : List U) : compSs 100 ⟨tb s, N18, (defScope st18).names, glo, bltN, false⟩ (defBody st18) = some b18 := by kernel_rfl
theorem bo19 (s : List U) : compSs 100 ⟨tb s, N19, (defScope st19).names, glo, bltN, false⟩ (defBody st19) = some b19 := by kernel_rfl
theorem bo20 (s : List U) : compSs 100 ⟨tb s, N20, (defScope st20).names, glo, bltN, false⟩ (defBody st20) = some b20 := by kernel_rfl
theorem bo21 (s : List U) : compSs 100 ⟨tb s, N21, (defScope st21).names, glo, bltN, false⟩ (defBody st21) = some b21 := by kernel_rfl
theorem bo22 (s : List U) : compSs 100 ⟨tb s, N22, (defScope st22).names, glo, bltN, false⟩ (defBody st22) = some b22 := by kernel_rfl
theorem bo23 (s : List U) : compSs 100 ⟨tb s, N23, (defScope st23).names, glo, bltN, false⟩ (defBody st23) = some b23 := by kernel_rfl
theorem bo24 (s : List U) : compSs 100 ⟨tb s, N24, (defScope st24).names, glo, bltN, false⟩ (defBody st24) = some b24 := by kernel_rfl
theorem bo25 (s : List U) : compSs 100 ⟨tb s, N25, (defScope st25).names, glo, bltN, false⟩ (defBody st25) = some b25 := by kernel_rfl
theorem bo26 (s : List U) : compSs 100 ⟨tb s, N26, (defScope st26).names, glo, bltN, false⟩ (defBody st26) = some b26 := by kernel_rfl
theorem bo27 (s : List U) : compSs 100 ⟨tb s, N27, (defScope st27).names, glo, bltN, true⟩ (defBody st27) = some b27 := by kernel_rfl
theorem bodies (s : List U) : Bodies (tb s) glo bltN := bodies_mk (.cons (bo0 s) (.cons (bo1 s) (.cons (bo2 s) (.cons (bo3 s) (.cons (bo4 s) (.cons (bo5 s) (.cons (bo6 s) (.cons (bo7 s) (.cons (bo8 s) (.cons (bo9 s) (.cons (bo10 s) (.cons (bo11 s) (.cons (bo12 s) (.cons (bo13 s) (.cons (bo14 s) (.cons (bo15 s) (.cons (bo16 s) (.cons (bo17 s) (.cons (bo18 s) (.cons (bo19 s) (.cons (bo20 s) (.cons (bo21 s) (.cons (bo22 s) (.cons (bo23 s) (.cons (bo24 s) (.cons (bo25 s) (.cons (bo26 s) (.cons (bo27 s) .nil))))))))))))))))))))))))))))
theorem all_mk {l : W.OpenLaw} {w : World} {K : W.Frag} {h : Heap} {mg : Str → Option Value} {f0 f1 f2 f3 f4 f5 f6 f7 f8 f9 f10 f11 f12 f13 f14 f15 f16 f17 f18 f19 f20 f21 f22 f23 f24 f25 f26 f27 c0 c1 c2 c3 c4 c5 c6 c7 c8 c9 fa : Addr} (X : K.In h) (G : h.Ns mainGlobals mg) (hfa : mg "law" = some (.ref fa))
    {od0 an0 : Option Addr} {sl0 : Array (Option Value)} {oc0 kV0 dc0 pm0 cd0 ct0 : Value}
    {od1 an1 : Option Addr} {sl1 : Array (Option Value)} {oc1 kV1 dc1 pm1 cd1 ct1 : Value}
    {od2 an2 : Option Addr} {sl2 : Array (Option Value)} {oc2 kV2 dc2 pm2 cd2 ct2 : Value}
    {od3 an3 : Option Addr} {sl3 : Array (Option Value)} {oc3 kV3 dc3 pm3 cd3 ct3 : Value}
    {od4 an4 : Option Addr} {sl4 : Array (Option Value)} {oc4 kV4 dc4 pm4 cd4 ct4 : Value}
    {od5 an5 : Option Addr} {sl5 : Array (Option Value)} {oc5 kV5 dc5 pm5 cd5 ct5 : Value}
    {od6 an6 : Option Addr} {sl6 : Array (Option Value)} {oc6 kV6 dc6 pm6 cd6 ct6 : Value}
    {od7 an7 : Option Addr} {sl7 : Array (Option Value)} {oc7 kV7 dc7 pm7 cd7 ct7 : Value}
    {od8 an8 : Option Addr} {sl8 : Array (Option Value)} {oc8 kV8 dc8 pm8 cd8 ct8 : Value}
    {od9 an9 : Option Addr} {sl9 : Array (Option Value)} {oc9 kV9 dc9 pm9 cd9 ct9 : Value}
    {od10 an10 : Option Addr} {sl10 : Array (Option Value)} {oc10 kV10 dc10 pm10 cd10 ct10 : Value}
    {od11 an11 : Option Addr} {sl11 : Array (Option Value)} {oc11 kV11 dc11 pm11 cd11 ct11 : Value}
    {od12 an12 : Option Addr} {sl12 : Array (Option Value)} {oc12 kV12 dc12 pm12 cd12 ct12 : Value}
    {od13 an13 : Option Addr} {sl13 : Array (Option Value)} {oc13 kV13 dc13 pm13 cd13 ct13 : Value}
    {od14 an14 : Option Addr} {sl14 : Array (Option Value)} {oc14 kV14 dc14 pm14 cd14 ct14 : Value}
    {od15 an15 : Option Addr} {sl15 : Array (Option Value)} {oc15 kV15 dc15 pm15 cd15 ct15 : Value}
    {od16 an16 : Option Addr} {sl16 : Array (Option Value)} {oc16 kV16 dc16 pm16 cd16 ct16 : Value}
    {od17 an17 : Option Addr} {sl17 : Array (Option Value)} {oc17 kV17 dc17 pm17 cd17 ct17 : Value}
    {od18 an18 : Option Addr} {sl18 : Array (Option Value)} {oc18 kV18 dc18 pm18 cd18 ct18 : Value}
    {od19 an19 : Option Addr} {sl19 : Array (Option Value)} {oc19 kV19 dc19 pm19 cd19 ct19 : Value}
    {od20 an20 : Option Addr} {sl20 : Array (Option Value)} {oc20 kV20 dc20 pm20 cd20 ct20 : Value}
    {od21 an21 : Option Addr} {sl21 : Array (Option Value)} {oc21 kV21 dc21 pm21 cd21 ct21 : Value}
    {od22 an22 : Option Addr} {sl22 : Array (Option Value)} {oc22 kV22 dc22 pm22 cd22 ct22 : Value}
    {od23 an23 : Option Addr} {sl23 : Array (Option Value)} {oc23 kV23 dc23 pm23 cd23 ct23 : Value}
    {od24 an24 : Option Addr} {sl24 : Array (Option Value)} {oc24 kV24 dc24 pm24 cd24 ct24 : Value}
    {od25 an25 : Option Addr} {sl25 : Array (Option Value)} {oc25 kV25 dc25 pm25 cd25 ct25 : Value}
    {od26 an26 : Option Addr} {sl26 : Array (Option Value)} {oc26 kV26 dc26 pm26 cd26 ct26 : Value}
    {od27 an27 : Option Addr} {sl27 : Array (Option Value)} {oc27 kV27 dc27 pm27 cd27 ct27 : Value}
    {kk0 kk1 : Addr}
    {h0_0 h0_1 : Int} {z0_0 y0_0 z0_1 y0_1 : Tok} {p0 : Nat}
    {h1_0 h1_1 : Int} {z1_0 y1_0 z1_1 y1_1 : Tok} {p1 : Nat}
    (n0 : W.nsIn K mainGlobals "Stitch" = some (some (.ref c0)))
    (n1 : W.nsIn K mainGlobals "Plain" = some (some (.ref c1)))
    (n2 : W.nsIn K mainGlobals "Slip" = some (some (.ref c2)))
    (n3 : W.nsIn K mainGlobals "Over" = some (some (.ref c3)))
    (n4 : W.nsIn K mainGlobals "Lean" = some (some (.ref c4)))
    (n5 : W.nsIn K mainGlobals "Grow" = some (some (.ref c5)))
    (n6 : W.nsIn K mainGlobals "Cross" = some (some (.ref c6)))
    (n7 : W.nsIn K mainGlobals "Off" = some (some (.ref c7)))
    (n8 : W.nsIn K mainGlobals "Keep" = some (some (.ref c8)))
    (n9 : W.nsIn K mainGlobals "Fetch" = some (some (.ref c9)))
    (a0 : W.findIn K (.ref c1) "__init__" = some (some (.ref f0)))
    (i0 : W.isFn K (.ref f0) = true)
    (l0 : K.lookup f0 = some ⟨oc0, od0, .func (W.fnOf "__init__" "Plain.__init__" (defArgs st0) (defBody st0) (defScope st0) .none kV0 dc0 pm0 an0 cd0 ct0), sl0⟩)
    (e0 : W.codeIn K cd0 "Plain.__init__" = true)
    (k0 : W.keepIn K (.ref f0) = true)
    (a1 : W.findIn K (.ref c1) "mark" = some (some (.ref f1)))
    (i1 : W.isFn K (.ref f1) = true)
    (l1 : K.lookup f1 = some ⟨oc1, od1, .func (W.fnOf "mark" "Plain.mark" (defArgs st1) (defBody st1) (defScope st1) .none kV1 dc1 pm1 an1 cd1 ct1), sl1⟩)
    (e1 : W.codeIn K cd1 "Plain.mark" = true)
    (k1 : W.keepIn K (.ref f1) = true)
    (a2 : W.findIn K (.ref c2) "mark" = some (some (.ref f2)))
    (i2 : W.isFn K (.ref f2) = true)
    (l2 : K.lookup f2 = some ⟨oc2, od2, .func (W.fnOf "mark" "Slip.mark" (defArgs st2) (defBody st2) (defScope st2) .none kV2 dc2 pm2 an2 cd2 ct2), sl2⟩)
    (e2 : W.codeIn K cd2 "Slip.mark" = true)
    (k2 : W.keepIn K (.ref f2) = true)
    (a3 : W.findIn K (.ref c3) "mark" = some (some (.ref f3)))
    (i3 : W.isFn K (.ref f3) = true)
    (l3 : K.lookup f3 = some ⟨oc3, od3, .func (W.fnOf "mark" "Over.mark" (defArgs st3) (defBody st3) (defScope st3) .none kV3 dc3 pm3 an3 cd3 ct3), sl3⟩)
    (e3 : W.codeIn K cd3 "Over.mark" = true)
    (k3 : W.keepIn K (.ref f3) = true)
    (a4 : W.findIn K (.ref c4) "__init__" = some (some (.ref f4)))
    (i4 : W.isFn K (.ref f4) = true)
    (l4 : K.lookup f4 = some ⟨oc4, od4, .func (W.fnOf "__init__" "Lean.__init__" (defArgs st4) (defBody st4) (defScope st4) .none kV4 dc4 pm4 an4 cd4 ct4), sl4⟩)
    (e4 : W.codeIn K cd4 "Lean.__init__" = true)
    (k4 : W.keepIn K (.ref f4) = true)
    (a5 : W.findIn K (.ref c4) "mark" = some (some (.ref f5)))
    (i5 : W.isFn K (.ref f5) = true)
    (l5 : K.lookup f5 = some ⟨oc5, od5, .func (W.fnOf "mark" "Lean.mark" (defArgs st5) (defBody st5) (defScope st5) .none kV5 dc5 pm5 an5 cd5 ct5), sl5⟩)
    (e5 : W.codeIn K cd5 "Lean.mark" = true)
    (k5 : W.keepIn K (.ref f5) = true)
    (a6 : W.findIn K (.ref c5) "__init__" = some (some (.ref f6)))
    (i6 : W.isFn K (.ref f6) = true)
    (l6 : K.lookup f6 = some ⟨oc6, od6, .func (W.fnOf "__init__" "Grow.__init__" (defArgs st6) (defBody st6) (defScope st6) .none kV6 dc6 pm6 an6 cd6 ct6), sl6⟩)
    (e6 : W.codeIn K cd6 "Grow.__init__" = true)
    (k6 : W.keepIn K (.ref f6) = true)
    (a7 : W.findIn K (.ref c5) "mark" = some (some (.ref f7)))
    (i7 : W.isFn K (.ref f7) = true)
    (l7 : K.lookup f7 = some ⟨oc7, od7, .func (W.fnOf "mark" "Grow.mark" (defArgs st7) (defBody st7) (defScope st7) .none kV7 dc7 pm7 an7 cd7 ct7), sl7⟩)
    (e7 : W.codeIn K cd7 "Grow.mark" = true)
    (k7 : W.keepIn K (.ref f7) = true)
    (a8 : W.findIn K (.ref c6) "__init__" = some (some (.ref f8)))
    (i8 : W.isFn K (.ref f8) = true)
    (l8 : K.lookup f8 = some ⟨oc8, od8, .func (W.fnOf "__init__" "Cross.__init__" (defArgs st8) (defBody st8) (defScope st8) .none kV8 dc8 pm8 an8 cd8 ct8), sl8⟩)
    (e8 : W.codeIn K cd8 "Cross.__init__" = true)
    (k8 : W.keepIn K (.ref f8) = true)
    (a9 : W.findIn K (.ref c6) "mark" = some (some (.ref f9)))
    (i9 : W.isFn K (.ref f9) = true)
    (l9 : K.lookup f9 = some ⟨oc9, od9, .func (W.fnOf "mark" "Cross.mark" (defArgs st9) (defBody st9) (defScope st9) .none kV9 dc9 pm9 an9 cd9 ct9), sl9⟩)
    (e9 : W.codeIn K cd9 "Cross.mark" = true)
    (k9 : W.keepIn K (.ref f9) = true)
    (a10 : W.findIn K (.ref c7) "mark" = some (some (.ref f10)))
    (i10 : W.isFn K (.ref f10) = true)
    (l10 : K.lookup f10 = some ⟨oc10, od10, .func (W.fnOf "mark" "Off.mark" (defArgs st10) (defBody st10) (defScope st10) .none kV10 dc10 pm10 an10 cd10 ct10), sl10⟩)
    (e10 : W.codeIn K cd10 "Off.mark" = true)
    (k10 : W.keepIn K (.ref f10) = true)
    (a11 : W.findIn K (.ref c8) "__init__" = some (some (.ref f11)))
    (i11 : W.isFn K (.ref f11) = true)
    (l11 : K.lookup f11 = some ⟨oc11, od11, .func (W.fnOf "__init__" "Keep.__init__" (defArgs st11) (defBody st11) (defScope st11) .none kV11 dc11 pm11 an11 cd11 ct11), sl11⟩)
    (e11 : W.codeIn K cd11 "Keep.__init__" = true)
    (k11 : W.keepIn K (.ref f11) = true)
    (a12 : W.findIn K (.ref c8) "mark" = some (some (.ref f12)))
    (i12 : W.isFn K (.ref f12) = true)
    (l12 : K.lookup f12 = some ⟨oc12, od12, .func (W.fnOf "mark" "Keep.mark" (defArgs st12) (defBody st12) (defScope st12) .none kV12 dc12 pm12 an12 cd12 ct12), sl12⟩)
    (e12 : W.codeIn K cd12 "Keep.mark" = true)
    (k12 : W.keepIn K (.ref f12) = true)
    (a13 : W.findIn K (.ref c9) "__init__" = some (some (.ref f13)))
    (i13 : W.isFn K (.ref f13) = true)
    (l13 : K.lookup f13 = some ⟨oc13, od13, .func (W.fnOf "__init__" "Fetch.__init__" (defArgs st13) (defBody st13) (defScope st13) .none kV13 dc13 pm13 an13 cd13 ct13), sl13⟩)
    (e13 : W.codeIn K cd13 "Fetch.__init__" = true)
    (k13 : W.keepIn K (.ref f13) = true)
    (a14 : W.findIn K (.ref c9) "mark" = some (some (.ref f14)))
    (i14 : W.isFn K (.ref f14) = true)
    (l14 : K.lookup f14 = some ⟨oc14, od14, .func (W.fnOf "mark" "Fetch.mark" (defArgs st14) (defBody st14) (defScope st14) .none kV14 dc14 pm14 an14 cd14 ct14), sl14⟩)
    (e14 : W.codeIn K cd14 "Fetch.mark" = true)
    (k14 : W.keepIn K (.ref f14) = true)
    (a15 : W.nsIn K mainGlobals "worth" = some (some (.ref f15)))
    (l15 : K.lookup f15 = some ⟨oc15, od15, .func (W.fnOf "worth" "worth" (defArgs st15) (defBody st15) (defScope st15) .none kV15 dc15 pm15 an15 cd15 ct15), sl15⟩)
    (e15 : W.codeIn K cd15 "worth" = true)
    (k15 : W.keepIn K (.ref f15) = true)
    (a16 : W.nsIn K mainGlobals "unrolled" = some (some (.ref f16)))
    (l16 : K.lookup f16 = some ⟨oc16, od16, .func (W.fnOf "unrolled" "unrolled" (defArgs st16) (defBody st16) (defScope st16) .none kV16 dc16 pm16 an16 cd16 ct16), sl16⟩)
    (e16 : W.codeIn K cd16 "unrolled" = true)
    (k16 : W.keepIn K (.ref f16) = true)
    (a17 : W.nsIn K mainGlobals "unrolled_often" = some (some (.ref f17)))
    (l17 : K.lookup f17 = some ⟨oc17, od17, .func (W.fnOf "unrolled_often" "unrolled_often" (defArgs st17) (defBody st17) (defScope st17) .none kV17 dc17 pm17 an17 cd17 ct17), sl17⟩)
    (e17 : W.codeIn K cd17 "unrolled_often" = true)
    (k17 : W.keepIn K (.ref f17) = true)
    (a18 : W.nsIn K mainGlobals "_law_cell_at" = some (some (.ref f18)))
    (l18 : K.lookup f18 = some ⟨oc18, od18, .func (W.fnOf "_law_cell_at" "_law_cell_at" (defArgs st18) (defBody st18) (defScope st18) .none kV18 dc18 pm18 an18 cd18 ct18), sl18⟩)
    (e18 : W.codeIn K cd18 "_law_cell_at" = true)
    (k18 : W.keepIn K (.ref f18) = true)
    (a19 : W.nsIn K mainGlobals "_law_stitch" = some (some (.ref f19)))
    (l19 : K.lookup f19 = some ⟨oc19, od19, .func (W.fnOf "_law_stitch" "_law_stitch" (defArgs st19) (defBody st19) (defScope st19) .none kV19 dc19 pm19 an19 cd19 ct19), sl19⟩)
    (e19 : W.codeIn K cd19 "_law_stitch" = true)
    (k19 : W.keepIn K (.ref f19) = true)
    (a20 : W.nsIn K mainGlobals "_law_sum" = some (some (.ref f20)))
    (l20 : K.lookup f20 = some ⟨oc20, od20, .func (W.fnOf "_law_sum" "_law_sum" (defArgs st20) (defBody st20) (defScope st20) .none kV20 dc20 pm20 an20 cd20 ct20), sl20⟩)
    (e20 : W.codeIn K cd20 "_law_sum" = true)
    (k20 : W.keepIn K (.ref f20) = true)
    (a21 : W.nsIn K mainGlobals "_law_often" = some (some (.ref f21)))
    (l21 : K.lookup f21 = some ⟨oc21, od21, .func (W.fnOf "_law_often" "_law_often" (defArgs st21) (defBody st21) (defScope st21) .none kV21 dc21 pm21 an21 cd21 ct21), sl21⟩)
    (e21 : W.codeIn K cd21 "_law_often" = true)
    (k21 : W.keepIn K (.ref f21) = true)
    (a22 : W.nsIn K mainGlobals "_law_joined" = some (some (.ref f22)))
    (l22 : K.lookup f22 = some ⟨oc22, od22, .func (W.fnOf "_law_joined" "_law_joined" (defArgs st22) (defBody st22) (defScope st22) .none kV22 dc22 pm22 an22 cd22 ct22), sl22⟩)
    (e22 : W.codeIn K cd22 "_law_joined" = true)
    (k22 : W.keepIn K (.ref f22) = true)
    (a23 : W.nsIn K mainGlobals "_law_marks" = some (some (.ref f23)))
    (l23 : K.lookup f23 = some ⟨oc23, od23, .func (W.fnOf "_law_marks" "_law_marks" (defArgs st23) (defBody st23) (defScope st23) .none kV23 dc23 pm23 an23 cd23 ct23), sl23⟩)
    (e23 : W.codeIn K cd23 "_law_marks" = true)
    (k23 : W.keepIn K (.ref f23) = true)
    (a24 : W.nsIn K mainGlobals "_law_one" = some (some (.ref f24)))
    (l24 : K.lookup f24 = some ⟨oc24, od24, .func (W.fnOf "_law_one" "_law_one" (defArgs st24) (defBody st24) (defScope st24) .none kV24 dc24 pm24 an24 cd24 ct24), sl24⟩)
    (e24 : W.codeIn K cd24 "_law_one" = true)
    (k24 : W.keepIn K (.ref f24) = true)
    (a25 : W.nsIn K mainGlobals "_law_drawn" = some (some (.ref f25)))
    (l25 : K.lookup f25 = some ⟨oc25, od25, .func (W.fnOf "_law_drawn" "_law_drawn" (defArgs st25) (defBody st25) (defScope st25) .none kV25 dc25 pm25 an25 cd25 ct25), sl25⟩)
    (e25 : W.codeIn K cd25 "_law_drawn" = true)
    (k25 : W.keepIn K (.ref f25) = true)
    (a26 : W.nsIn K mainGlobals "_law_as_told" = some (some (.ref f26)))
    (l26 : K.lookup f26 = some ⟨oc26, od26, .func (W.fnOf "_law_as_told" "_law_as_told" (defArgs st26) (defBody st26) (defScope st26) .none kV26 dc26 pm26 an26 cd26 ct26), sl26⟩)
    (e26 : W.codeIn K cd26 "_law_as_told" = true)
    (k26 : W.keepIn K (.ref f26) = true)
    (a27 : W.nsIn K mainGlobals "law" = some (some (.ref f27)))
    (l27 : K.lookup f27 = some ⟨oc27, od27, .func (W.fnOf "law" "law" (defArgs st27) (defBody st27) (defScope st27) .none kV27 dc27 pm27 an27 cd27 ct27), sl27⟩)
    (e27 : W.codeIn K cd27 "law" = true)
    (k27 : W.keepIn K (.ref f27) = true)
    (hn : W.specialIn K (.builtin "object.__class__") "__get__" = some (some (.builtin "getset_descriptor.__get__")))
    (htk : W.takesIn K (.builtin "object.__class__") = some true)
    (pg0 : W.plainGet K c0 Str.empty = true)
    (hd0 : W.hasDictIn K c0 = true)
    (po0 : W.plainOver K c0 = true)
    (sa0 : W.findIn K (.ref c0) "__setattr__" = some (some (.builtin "object.__setattr__")))
    (mk0 : W.makesIn K c0 = true)
    (kc0 : W.keepIn K (.ref c0) = true)
    (ha0 : W.findIn K (.ref c0) "__class__" = some (some (.builtin "object.__class__")))
    (hm0 : W.mroIn K c0 (.type "object") = some true)
    (ii0 : W.findIn K (.ref c0) "__init__" = some (some (.builtin "object.__init__")))
    (x0_0 : W.findIn K (.ref c0) "side" = some none)
    (x0_1 : W.findIn K (.ref c0) "many" = some none)
    (x0_2 : W.findIn K (.ref c0) "way" = some none)
    (x0_3 : W.findIn K (.ref c0) "first" = some none)
    (x0_4 : W.findIn K (.ref c0) "second" = some none)
    (x0_5 : W.findIn K (.ref c0) "keeper" = some none)
    (pg1 : W.plainGet K c1 Str.empty = true)
    (hd1 : W.hasDictIn K c1 = true)
    (po1 : W.plainOver K c1 = true)
    (sa1 : W.findIn K (.ref c1) "__setattr__" = some (some (.builtin "object.__setattr__")))
    (mk1 : W.makesIn K c1 = true)
    (kc1 : W.keepIn K (.ref c1) = true)
    (ha1 : W.findIn K (.ref c1) "__class__" = some (some (.builtin "object.__class__")))
    (hm1 : W.mroIn K c1 (.type "object") = some true)
    (x1_0 : W.findIn K (.ref c1) "side" = some none)
    (x1_1 : W.findIn K (.ref c1) "many" = some none)
    (x1_2 : W.findIn K (.ref c1) "way" = some none)
    (x1_3 : W.findIn K (.ref c1) "first" = some none)
    (x1_4 : W.findIn K (.ref c1) "second" = some none)
    (x1_5 : W.findIn K (.ref c1) "keeper" = some none)
    (pg2 : W.plainGet K c2 Str.empty = true)
    (hd2 : W.hasDictIn K c2 = true)
    (po2 : W.plainOver K c2 = true)
    (sa2 : W.findIn K (.ref c2) "__setattr__" = some (some (.builtin "object.__setattr__")))
    (mk2 : W.makesIn K c2 = true)
    (kc2 : W.keepIn K (.ref c2) = true)
    (ha2 : W.findIn K (.ref c2) "__class__" = some (some (.builtin "object.__class__")))
    (hm2 : W.mroIn K c2 (.type "object") = some true)
    (ii2 : W.findIn K (.ref c2) "__init__" = some (some (.builtin "object.__init__")))
    (x2_0 : W.findIn K (.ref c2) "side" = some none)
    (x2_1 : W.findIn K (.ref c2) "many" = some none)
    (x2_2 : W.findIn K (.ref c2) "way" = some none)
    (x2_3 : W.findIn K (.ref c2) "first" = some none)
    (x2_4 : W.findIn K (.ref c2) "second" = some none)
    (x2_5 : W.findIn K (.ref c2) "keeper" = some none)
    (pg3 : W.plainGet K c3 Str.empty = true)
    (hd3 : W.hasDictIn K c3 = true)
    (po3 : W.plainOver K c3 = true)
    (sa3 : W.findIn K (.ref c3) "__setattr__" = some (some (.builtin "object.__setattr__")))
    (mk3 : W.makesIn K c3 = true)
    (kc3 : W.keepIn K (.ref c3) = true)
    (ha3 : W.findIn K (.ref c3) "__class__" = some (some (.builtin "object.__class__")))
    (hm3 : W.mroIn K c3 (.type "object") = some true)
    (ii3 : W.findIn K (.ref c3) "__init__" = some (some (.builtin "object.__init__")))
    (x3_0 : W.findIn K (.ref c3) "side" = some none)
    (x3_1 : W.findIn K (.ref c3) "many" = some none)
    (x3_2 : W.findIn K (.ref c3) "way" = some none)
    (x3_3 : W.findIn K (.ref c3) "first" = some none)
    (x3_4 : W.findIn K (.ref c3) "second" = some none)
    (x3_5 : W.findIn K (.ref c3) "keeper" = some none)
    (pg4 : W.plainGet K c4 Str.empty = true)
    (hd4 : W.hasDictIn K c4 = true)
    (po4 : W.plainOver K c4 = true)
    (sa4 : W.findIn K (.ref c4) "__setattr__" = some (some (.builtin "object.__setattr__")))
    (mk4 : W.makesIn K c4 = true)
    (kc4 : W.keepIn K (.ref c4) = true)
    (ha4 : W.findIn K (.ref c4) "__class__" = some (some (.builtin "object.__class__")))
    (hm4 : W.mroIn K c4 (.type "object") = some true)
    (x4_0 : W.findIn K (.ref c4) "side" = some none)
    (x4_1 : W.findIn K (.ref c4) "many" = some none)
    (x4_2 : W.findIn K (.ref c4) "way" = some none)
    (x4_3 : W.findIn K (.ref c4) "first" = some none)
    (x4_4 : W.findIn K (.ref c4) "second" = some none)
    (x4_5 : W.findIn K (.ref c4) "keeper" = some none)
    (pg5 : W.plainGet K c5 Str.empty = true)
    (hd5 : W.hasDictIn K c5 = true)
    (po5 : W.plainOver K c5 = true)
    (sa5 : W.findIn K (.ref c5) "__setattr__" = some (some (.builtin "object.__setattr__")))
    (mk5 : W.makesIn K c5 = true)
    (kc5 : W.keepIn K (.ref c5) = true)
    (ha5 : W.findIn K (.ref c5) "__class__" = some (some (.builtin "object.__class__")))
    (hm5 : W.mroIn K c5 (.type "object") = some true)
    (x5_0 : W.findIn K (.ref c5) "side" = some none)
    (x5_1 : W.findIn K (.ref c5) "many" = some none)
    (x5_2 : W.findIn K (.ref c5) "way" = some none)
    (x5_3 : W.findIn K (.ref c5) "first" = some none)
    (x5_4 : W.findIn K (.ref c5) "second" = some none)
    (x5_5 : W.findIn K (.ref c5) "keeper" = some none)
    (pg6 : W.plainGet K c6 Str.empty = true)
    (hd6 : W.hasDictIn K c6 = true)
    (po6 : W.plainOver K c6 = true)
    (sa6 : W.findIn K (.ref c6) "__setattr__" = some (some (.builtin "object.__setattr__")))
    (mk6 : W.makesIn K c6 = true)
    (kc6 : W.keepIn K (.ref c6) = true)
    (ha6 : W.findIn K (.ref c6) "__class__" = some (some (.builtin "object.__class__")))
    (hm6 : W.mroIn K c6 (.type "object") = some true)
    (x6_0 : W.findIn K (.ref c6) "side" = some none)
    (x6_1 : W.findIn K (.ref c6) "many" = some none)
    (x6_2 : W.findIn K (.ref c6) "way" = some none)
    (x6_3 : W.findIn K (.ref c6) "first" = some none)
    (x6_4 : W.findIn K (.ref c6) "second" = some none)
    (x6_5 : W.findIn K (.ref c6) "keeper" = some none)
    (pg7 : W.plainGet K c7 Str.empty = true)
    (hd7 : W.hasDictIn K c7 = true)
    (po7 : W.plainOver K c7 = true)
    (sa7 : W.findIn K (.ref c7) "__setattr__" = some (some (.builtin "object.__setattr__")))
    (mk7 : W.makesIn K c7 = true)
    (kc7 : W.keepIn K (.ref c7) = true)
    (ha7 : W.findIn K (.ref c7) "__class__" = some (some (.builtin "object.__class__")))
    (hm7 : W.mroIn K c7 (.type "object") = some true)
    (ii7 : W.findIn K (.ref c7) "__init__" = some (some (.builtin "object.__init__")))
    (x7_0 : W.findIn K (.ref c7) "side" = some none)
    (x7_1 : W.findIn K (.ref c7) "many" = some none)
    (x7_2 : W.findIn K (.ref c7) "way" = some none)
    (x7_3 : W.findIn K (.ref c7) "first" = some none)
    (x7_4 : W.findIn K (.ref c7) "second" = some none)
    (x7_5 : W.findIn K (.ref c7) "keeper" = some none)
    (pg8 : W.plainGet K c8 Str.empty = true)
    (hd8 : W.hasDictIn K c8 = true)
    (po8 : W.plainOver K c8 = true)
    (sa8 : W.findIn K (.ref c8) "__setattr__" = some (some (.builtin "object.__setattr__")))
    (mk8 : W.makesIn K c8 = true)
    (kc8 : W.keepIn K (.ref c8) = true)
    (ha8 : W.findIn K (.ref c8) "__class__" = some (some (.builtin "object.__class__")))
    (hm8 : W.mroIn K c8 (.type "object") = some true)
    (x8_0 : W.findIn K (.ref c8) "side" = some none)
    (x8_1 : W.findIn K (.ref c8) "many" = some none)
    (x8_2 : W.findIn K (.ref c8) "way" = some none)
    (x8_3 : W.findIn K (.ref c8) "first" = some none)
    (x8_4 : W.findIn K (.ref c8) "second" = some none)
    (x8_5 : W.findIn K (.ref c8) "keeper" = some none)
    (pg9 : W.plainGet K c9 Str.empty = true)
    (hd9 : W.hasDictIn K c9 = true)
    (po9 : W.plainOver K c9 = true)
    (sa9 : W.findIn K (.ref c9) "__setattr__" = some (some (.builtin "object.__setattr__")))
    (mk9 : W.makesIn K c9 = true)
    (kc9 : W.keepIn K (.ref c9) = true)
    (ha9 : W.findIn K (.ref c9) "__class__" = some (some (.builtin "object.__class__")))
    (hm9 : W.mroIn K c9 (.type "object") = some true)
    (x9_0 : W.findIn K (.ref c9) "side" = some none)
    (x9_1 : W.findIn K (.ref c9) "many" = some none)
    (x9_2 : W.findIn K (.ref c9) "way" = some none)
    (x9_3 : W.findIn K (.ref c9) "first" = some none)
    (x9_4 : W.findIn K (.ref c9) "second" = some none)
    (x9_5 : W.findIn K (.ref c9) "keeper" = some none)
    (q0 : W.nsIn K mainGlobals "SIDE_SIGNS" = some (some (.ref kk0)))
    (r0 : K.lookup kk0 = some ⟨.type "dict", none, .dict #[⟨h0_0, .int 1 z0_0, .str (Str.ofString "k") y0_0⟩, ⟨h0_1, .int (-1) z0_1, .str (Str.ofString "p") y0_1⟩] p0, #[]⟩)
    (g0_0 : h0_0 = keyH w (Sum.inl (1) : Key))
    (g0_1 : h0_1 = keyH w (Sum.inl (-1) : Key))
    (u0 : (kk0 == sysModules) = false)
    (q1 : W.nsIn K mainGlobals "CROSS_SIGNS" = some (some (.ref kk1)))
    (r1 : K.lookup kk1 = some ⟨.type "dict", none, .dict #[⟨h1_0, .int 1 z1_0, .str (Str.ofString "c") y1_0⟩, ⟨h1_1, .int (-1) z1_1, .str (Str.ofString "q") y1_1⟩] p1, #[]⟩)
    (g1_0 : h1_0 = keyH w (Sum.inl (1) : Key))
    (g1_1 : h1_1 = keyH w (Sum.inl (-1) : Key))
    (u1 : (kk1 == sysModules) = false)
    (z_len : W.nsIn K mainGlobals "len" = some none)
    (z_str : W.nsIn K mainGlobals "str" = some none)
    (z_tuple : W.nsIn K mainGlobals "tuple" = some none)
    (z_list : W.nsIn K mainGlobals "list" = some none)
    (z_isinstance : W.nsIn K mainGlobals "isinstance" = some none)
    (z_range : W.nsIn K mainGlobals "range" = some none)
    (z_zip : W.nsIn K mainGlobals "zip" = some none)
    (z_sum : W.nsIn K mainGlobals "sum" = some none)
    (z_max : W.nsIn K mainGlobals "max" = some none)
    (z_min : W.nsIn K mainGlobals "min" = some none) :
    ∃ fd : FuncData, (∀ (s : Shared) (v : Value), BindsTo s fd ⟨[v], []⟩ [("_law_script", v)]) ∧ ∀ base : Heap, K.In base → base.Ns mainGlobals mg → FnOk l.prog w K mg base CX0 (2 * 19) fa fd ["_law_script"] (spLaw K) := by
  have e := hfa.symm.trans (W.mg_of X G a27)
  cases e
  let adr : Addr → Adr := fun a => ⟨fun i => [f0, f1, f2, f3, f4, f5, f6, f7, f8, f9, f10, f11, f12, f13, f14, f15, f16, f17, f18, f19, f20, f21, f22, f23, f24, f25, f26, f27].getD i 0, fun i => [c0, c1, c2, c3, c4, c5, c6, c7, c8, c9].getD i 0, fun i => [kk0, kk1].getD i 0, a⟩
  have F0 := funD_mk (st := st0) l0 e0 k0
  have B0 := bindsD F0 (ps := ["self", "side"]) fun us hl => match us, hl with | [_, _], _ => rfl
  have F1 := funD_mk (st := st1) l1 e1 k1
  have B1 := bindsD F1 (ps := ["self"]) fun us hl => match us, hl with | [_], _ => rfl
  have F2 := funD_mk (st := st2) l2 e2 k2
  have B2 := bindsD F2 (ps := ["self"]) fun us hl => match us, hl with | [_], _ => rfl
  have F3 := funD_mk (st := st3) l3 e3 k3
  have B3 := bindsD F3 (ps := ["self"]) fun us hl => match us, hl with | [_], _ => rfl
  have F4 := funD_mk (st := st4) l4 e4 k4
  have B4 := bindsD F4 (ps := ["self", "many", "way", "side"]) fun us hl => match us, hl with | [_, _, _, _], _ => rfl
  have F5 := funD_mk (st := st5) l5 e5 k5
  have B5 := bindsD F5 (ps := ["self"]) fun us hl => match us, hl with | [_], _ => rfl
  have F6 := funD_mk (st := st6) l6 e6 k6
  have B6 := bindsD F6 (ps := ["self", "many", "side"]) fun us hl => match us, hl with | [_, _, _], _ => rfl
  have F7 := funD_mk (st := st7) l7 e7 k7
  have B7 := bindsD F7 (ps := ["self"]) fun us hl => match us, hl with | [_], _ => rfl
  have F8 := funD_mk (st := st8) l8 e8 k8
  have B8 := bindsD F8 (ps := ["self", "first", "second", "way", "side"]) fun us hl => match us, hl with | [_, _, _, _, _], _ => rfl
  have F9 := funD_mk (st := st9) l9 e9 k9
  have B9 := bindsD F9 (ps := ["self"]) fun us hl => match us, hl with | [_], _ => rfl
  have F10 := funD_mk (st := st10) l10 e10 k10
  have B10 := bindsD F10 (ps := ["self"]) fun us hl => match us, hl with | [_], _ => rfl
  have F11 := funD_mk (st := st11) l11 e11 k11
  have B11 := bindsD F11 (ps := ["self", "keeper"]) fun us hl => match us, hl with | [_, _], _ => rfl
  have F12 := funD_mk (st := st12) l12 e12 k12
  have B12 := bindsD F12 (ps := ["self"]) fun us hl => match us, hl with | [_], _ => rfl
  have F13 := funD_mk (st := st13) l13 e13 k13
  have B13 := bindsD F13 (ps := ["self", "keeper"]) fun us hl => match us, hl with | [_, _], _ => rfl
  have F14 := funD_mk (st := st14) l14 e14 k14
  have B14 := bindsD F14 (ps := ["self"]) fun us hl => match us, hl with | [_], _ => rfl
  have F15 := funD_mk (st := st15) l15 e15 k15
  have B15 := bindsD F15 (ps := ["one", "choice"]) fun us hl => match us, hl with | [_, _], _ => rfl
  have F16 := funD_mk (st := st16) l16 e16 k16
  have B16 := bindsD F16 (ps := ["parts", "choice"]) fun us hl => match us, hl with | [_, _], _ => rfl
  have F17 := funD_mk (st := st17) l17 e17 k17
  have B17 := bindsD F17 (ps := ["parts", "often", "choice"]) fun us hl => match us, hl with | [_, _, _], _ => rfl
  have F18 := funD_mk (st := st18) l18 e18 k18
  have B18 := bindsD F18 (ps := ["_law_script", "_law_k"]) fun us hl => match us, hl with | [_, _], _ => rfl
  have F19 := funD_mk (st := st19) l19 e19 k19
  have B19 := bindsD F19 (ps := ["_law_cell", "_law_keepers"]) fun us hl => match us, hl with | [_, _], _ => rfl
  have F20 := funD_mk (st := st20) l20 e20 k20
  have B20 := bindsD F20 (ps := ["_law_cell"]) fun us hl => match us, hl with | [_], _ => rfl
  have F21 := funD_mk (st := st21) l21 e21 k21
  have B21 := bindsD F21 (ps := ["_law_one_here", "_law_choice"]) fun us hl => match us, hl with | [_, _], _ => rfl
  have F22 := funD_mk (st := st22) l22 e22 k22
  have B22 := bindsD F22 (ps := ["_law_lists"]) fun us hl => match us, hl with | [_], _ => rfl
  have F23 := funD_mk (st := st23) l23 e23 k23
  have B23 := bindsD F23 (ps := ["_law_parts"]) fun us hl => match us, hl with | [_], _ => rfl
  have F24 := funD_mk (st := st24) l24 e24 k24
  have B24 := bindsD F24 (ps := ["_law_cell"]) fun us hl => match us, hl with | [_], _ => rfl
  have F25 := funD_mk (st := st25) l25 e25 k25
  have B25 := bindsD F25 (ps := ["_law_cells", "_law_choice"]) fun us hl => match us, hl with | [_, _], _ => rfl
  have F26 := funD_mk (st := st26) l26 e26 k26
  have B26 := bindsD F26 (ps := ["_law_found", "_law_marks_here"]) fun us hl => match us, hl with | [_, _], _ => rfl
  have F27 := funD_mk (st := st27) l27 e27 k27
  have B27 := bindsD F27 (ps := ["_law_script"]) fun us hl => match us, hl with | [_], _ => rfl
  have tp : ∀ (s : List U) (a : Addr), Top (tb s) (adr a) K mg glo bltN := fun s a => top_mk
    (.cons ⟨_, F0, B0, sc0, rfl, rfl⟩ (.cons ⟨_, F1, B1, sc1, rfl, rfl⟩ (.cons ⟨_, F2, B2, sc2, rfl, rfl⟩ (.cons ⟨_, F3, B3, sc3, rfl, rfl⟩ (.cons ⟨_, F4, B4, sc4, rfl, rfl⟩ (.cons ⟨_, F5, B5, sc5, rfl, rfl⟩ (.cons ⟨_, F6, B6, sc6, rfl, rfl⟩ (.cons ⟨_, F7, B7, sc7, rfl, rfl⟩ (.cons ⟨_, F8, B8, sc8, rfl, rfl⟩ (.cons ⟨_, F9, B9, sc9, rfl, rfl⟩ (.cons ⟨_, F10, B10, sc10, rfl, rfl⟩ (.cons ⟨_, F11, B11, sc11, rfl, rfl⟩ (.cons ⟨_, F12, B12, sc12, rfl, rfl⟩ (.cons ⟨_, F13, B13, sc13, rfl, rfl⟩ (.cons ⟨_, F14, B14, sc14, rfl, rfl⟩ (.cons ⟨_, F15, B15, sc15, rfl, rfl⟩ (.cons ⟨_, F16, B16, sc16, rfl, rfl⟩ (.cons ⟨_, F17, B17, sc17, rfl, rfl⟩ (.cons ⟨_, F18, B18, sc18, rfl, rfl⟩ (.cons ⟨_, F19, B19, sc19, rfl, rfl⟩ (.cons ⟨_, F20, B20, sc20, rfl, rfl⟩ (.cons ⟨_, F21, B21, sc21, rfl, rfl⟩ (.cons ⟨_, F22, B22, sc22, rfl, rfl⟩ (.cons ⟨_, F23, B23, sc23, rfl, rfl⟩ (.cons ⟨_, F24, B24, sc24, rfl, rfl⟩ (.cons ⟨_, F25, B25, sc25, rfl, rfl⟩ (.cons ⟨_, F26, B26, sc26, rfl, rfl⟩ (.cons ⟨_, F27, B27, sc27, rfl, rfl⟩ .nil))))))))))))))))))))))))))))
    (.cons (cl_mk (A := adr a) (i := 0) ⟨pg0, hd0, po0, sa0⟩ (.cons x0_0 (.cons x0_1 (.cons x0_2 (.cons x0_3 (.cons x0_4 (.cons x0_5 .nil)))))) .nil mk0 kc0 ii0 ha0 hn htk hm0) (.cons (cl_mk (A := adr a) (i := 1) ⟨pg1, hd1, po1, sa1⟩ (.cons x1_0 (.cons x1_1 (.cons x1_2 (.cons x1_3 (.cons x1_4 (.cons x1_5 .nil)))))) (.cons ⟨_, rfl, a1, i1, k1⟩ .nil) mk1 kc1 ⟨a0, i0⟩ ha1 hn htk hm1) (.cons (cl_mk (A := adr a) (i := 2) ⟨pg2, hd2, po2, sa2⟩ (.cons x2_0 (.cons x2_1 (.cons x2_2 (.cons x2_3 (.cons x2_4 (.cons x2_5 .nil)))))) (.cons ⟨_, rfl, a2, i2, k2⟩ .nil) mk2 kc2 ii2 ha2 hn htk hm2) (.cons (cl_mk (A := adr a) (i := 3) ⟨pg3, hd3, po3, sa3⟩ (.cons x3_0 (.cons x3_1 (.cons x3_2 (.cons x3_3 (.cons x3_4 (.cons x3_5 .nil)))))) (.cons ⟨_, rfl, a3, i3, k3⟩ .nil) mk3 kc3 ii3 ha3 hn htk hm3) (.cons (cl_mk (A := adr a) (i := 4) ⟨pg4, hd4, po4, sa4⟩ (.cons x4_0 (.cons x4_1 (.cons x4_2 (.cons x4_3 (.cons x4_4 (.cons x4_5 .nil)))))) (.cons ⟨_, rfl, a5, i5, k5⟩ .nil) mk4 kc4 ⟨a4, i4⟩ ha4 hn htk hm4) (.cons (cl_mk (A := adr a) (i := 5) ⟨pg5, hd5, po5, sa5⟩ (.cons x5_0 (.cons x5_1 (.cons x5_2 (.cons x5_3 (.cons x5_4 (.cons x5_5 .nil)))))) (.cons ⟨_, rfl, a7, i7, k7⟩ .nil) mk5 kc5 ⟨a6, i6⟩ ha5 hn htk hm5) (.cons (cl_mk (A := adr a) (i := 6) ⟨pg6, hd6, po6, sa6⟩ (.cons x6_0 (.cons x6_1 (.cons x6_2 (.cons x6_3 (.cons x6_4 (.cons x6_5 .nil)))))) (.cons ⟨_, rfl, a9, i9, k9⟩ .nil) mk6 kc6 ⟨a8, i8⟩ ha6 hn htk hm6) (.cons (cl_mk (A := adr a) (i := 7) ⟨pg7, hd7, po7, sa7⟩ (.cons x7_0 (.cons x7_1 (.cons x7_2 (.cons x7_3 (.cons x7_4 (.cons x7_5 .nil)))))) (.cons ⟨_, rfl, a10, i10, k10⟩ .nil) mk7 kc7 ii7 ha7 hn htk hm7) (.cons (cl_mk (A := adr a) (i := 8) ⟨pg8, hd8, po8, sa8⟩ (.cons x8_0 (.cons x8_1 (.cons x8_2 (.cons x8_3 (.cons x8_4 (.cons x8_5 .nil)))))) (.cons ⟨_, rfl, a12, i12, k12⟩ .nil) mk8 kc8 ⟨a11, i11⟩ ha8 hn htk hm8) (.cons (cl_mk (A := adr a) (i := 9) ⟨pg9, hd9, po9, sa9⟩ (.cons x9_0 (.cons x9_1 (.cons x9_2 (.cons x9_3 (.cons x9_4 (.cons x9_5 .nil)))))) (.cons ⟨_, rfl, a14, i14, k14⟩ .nil) mk9 kc9 ⟨a13, i13⟩ ha9 hn htk hm9) .nil))))))))))
    (show (fldN.all fun x => !(mthN.contains x)) = true by decide +kernel) (show fldN.Nodup by decide +kernel) .nil (.cons trivial (.cons trivial .nil))
    .nil
    (.cons (W.mg_of X G q0) (.cons (W.mg_of X G q1) (.cons (W.mg_of X G n0) (.cons (W.mg_of X G n1) (.cons (W.mg_of X G n2) (.cons (W.mg_of X G n3) (.cons (W.mg_of X G n4) (.cons (W.mg_of X G n5) (.cons (W.mg_of X G n6) (.cons (W.mg_of X G n7) (.cons (W.mg_of X G n8) (.cons (W.mg_of X G n9) (.cons (W.mg_of X G a15) (.cons (W.mg_of X G a16) (.cons (W.mg_of X G a17) (.cons (W.mg_of X G a18) (.cons (W.mg_of X G a19) (.cons (W.mg_of X G a20) (.cons (W.mg_of X G a21) (.cons (W.mg_of X G a22) (.cons (W.mg_of X G a23) (.cons (W.mg_of X G a24) (.cons (W.mg_of X G a25) (.cons (W.mg_of X G a26) (.cons (W.mg_of X G a27) .nil))))))))))))))))))))))))) (.cons (W.mg_none_of X G z_len) (.cons (W.mg_none_of X G z_str) (.cons (W.mg_none_of X G z_tuple) (.cons (W.mg_none_of X G z_list) (.cons (W.mg_none_of X G z_isinstance) (.cons (W.mg_none_of X G z_range) (.cons (W.mg_none_of X G z_zip) (.cons (W.mg_none_of X G z_sum) (.cons (W.mg_none_of X G z_max) (.cons (W.mg_none_of X G z_min) .nil))))))))))
  have tab : ∀ (s : List U) (a : Addr), TabOk l.prog w (tb s) (adr a) K := fun s a k kvs e => by
    match k, e with
    | 0, e =>
      cases e
      exact ⟨[((Sum.inl (1) : Key), Value.str (Str.ofString "k") y0_0), ((Sum.inl (-1) : Key), Value.str (Str.ofString "p") y0_1)], u0, tab_mk r0 ⟨rfl, rfl, rfl⟩ rfl (.cons ⟨_, keyIs_int (1) z0_0, g0_0⟩ (.cons ⟨_, keyIs_int (-1) z0_1, g0_1⟩ .nil)) (.cons (keyIs_int (1) z0_0) rfl (.cons (keyIs_int (-1) z0_1) rfl (.nil))) (show ([Sum.inl (1), Sum.inl (-1)] : List Key).Nodup by decide +kernel), .cons ⟨rfl, tv (by decide +kernel)⟩ (.cons ⟨rfl, tv (by decide +kernel)⟩ (.nil))⟩
    | 1, e =>
      cases e
      exact ⟨[((Sum.inl (1) : Key), Value.str (Str.ofString "c") y1_0), ((Sum.inl (-1) : Key), Value.str (Str.ofString "q") y1_1)], u1, tab_mk r1 ⟨rfl, rfl, rfl⟩ rfl (.cons ⟨_, keyIs_int (1) z1_0, g1_0⟩ (.cons ⟨_, keyIs_int (-1) z1_1, g1_1⟩ .nil)) (.cons (keyIs_int (1) z1_0) rfl (.cons (keyIs_int (-1) z1_1) rfl (.nil))) (show ([Sum.inl (1), Sum.inl (-1)] : List Key).Nodup by decide +kernel), .cons ⟨rfl, tv (by decide +kernel)⟩ (.cons ⟨rfl, tv (by decide +kernel)⟩ (.nil))⟩
    | n + 2, e => simp [tb, conL] at e
  exact ⟨_, fun s v => .of_eq rfl, fun base _ _ => law_ok (tb := tb) (adr := adr) (L := 27) (F := ⟨"law", "law", st27, ["_law_script"], N27, 1, 8, true, b27⟩) (fun _ => rfl) (fun _ => rfl) rfl rfl (fun _ => rfl) (fun _ => rfl) tp tab bodies F27 comp⟩
theorem walk {l : W.OpenLaw} {q : Program} {loose : List Str} {XP : (Str → Option Value) → Heap → Prop} {YP : World → Heap → Prop} {d : DefRec} {K : Params → W.Frag} (hn : l.most = some 63) (hdf : d.params.defaults = [])
    (hY : ∀ (w : World) (h : Heap), YP w h → (K w.params).In h)
    (F : ∀ (w : World) (mg : Str → Option Value) (fa : Addr) (h : Heap), (K w.params).In h → h.Ns mainGlobals mg → mg d.name = some (.ref fa) →
      ∃ fd : FuncData, (∀ (s : Shared) (u : Value), BindsTo s fd ⟨[u], []⟩ [("_law_script", u)]) ∧ ∀ base : Heap, (K w.params).In base → base.Ns mainGlobals mg → FnOk l.prog w (K w.params) mg base CX0 (2 * 19) fa fd ["_law_script"] (spLaw (K w.params))) :
    W.WalkO q loose XP YP l.row.toRowW d [] (fun f vs => PySem.call f vs) :=
  L2.walk_of (n := 63) (k := 2 * 19) (x := "_law_script") (CX := fun _ => CX0) (sp := fun w => spLaw (K w.params)) hn (by decide) hdf ⟨rfl, by decide, by decide⟩ hY F (fun _ _ a ns hl hO hS => ⟨a, ns, rfl, hS, hO, hl, fun _ => rfl⟩) fun _ _ _ _ _ z => z
end K20
open PySem PySem.W PyProof.Rows
set_option maxRecDepth 100000 in
set_option maxHeartbeats 0 in
theorem PySem.Challenge.cw_stitchroom_k20_unrolled_holds : PySem.Challenge.rw_stitchroom_k20_unrolled.Holds := by
  w_on; refine W.holds_law (by kernel_rfl) fun said => ?_
  refine holds_open (q := K20.hq) (loose := K20.hlo) (Xt := K20.hXt) (XP := XL K20.hq []) (Yf := K20.hYf) (Ya := K20.hYa) (YP := Hook.says (kHook K20.K K20.KA K20.hKA)) (N := 9298) K20.hleft (Hook.of (kHook K20.K K20.KA K20.hKA)) (Hook.keeps (kHook K20.K K20.KA K20.hKA)) (fun s e => xl_of s (Bool.and_eq_true_iff.mp e).1) XL.keeps (by rfl) (by rfl) (by rfl) (fun s e => recFacts_of (Bool.and_eq_true_iff.mp e).2) (by rfl) (by first | assumption | decide +kernel) (by decide +kernel) ⟨rfl, rfl, rfl, rfl, rfl, by decide +kernel⟩ ?hw ?hc
  (case hw => w_witness2)
  k_fill
  refine K20.walk (l := PySem.Challenge.rw_stitchroom_k20_unrolled) rfl rfl (fun w h Y => W.kIn_of Y) ?F
  case F =>
    intro w mg fa h KX G hmg
    refine' K20.all_mk KX G hmg ?n0 ?n1 ?n2 ?n3 ?n4 ?n5 ?n6 ?n7 ?n8 ?n9 ?a0 ?i0 ?l0 ?e0 ?k0 ?a1 ?i1 ?l1 ?e1 ?k1 ?a2 ?i2 ?l2 ?e2 ?k2 ?a3 ?i3 ?l3 ?e3 ?k3 ?a4 ?i4 ?l4 ?e4 ?k4 ?a5 ?i5 ?l5 ?e5 ?k5 ?a6 ?i6 ?l6 ?e6 ?k6 ?a7 ?i7 ?l7 ?e7 ?k7 ?a8 ?i8 ?l8 ?e8 ?k8 ?a9 ?i9 ?l9 ?e9 ?k9 ?a10 ?i10 ?l10 ?e10 ?k10 ?a11 ?i11 ?l11 ?e11 ?k11 ?a12 ?i12 ?l12 ?e12 ?k12 ?a13 ?i13 ?l13 ?e13 ?k13 ?a14 ?i14 ?l14 ?e14 ?k14 ?a15 ?l15 ?e15 ?k15 ?a16 ?l16 ?e16 ?k16 ?a17 ?l17 ?e17 ?k17 ?a18 ?l18 ?e18 ?k18 ?a19 ?l19 ?e19 ?k19 ?a20 ?l20 ?e20 ?k20 ?a21 ?l21 ?e21 ?k21 ?a22 ?l22 ?e22 ?k22 ?a23 ?l23 ?e23 ?k23 ?a24 ?l24 ?e24 ?k24 ?a25 ?l25 ?e25 ?k25 ?a26 ?l26 ?e26 ?k26 ?a27 ?l27 ?e27 ?k27 ?hn ?htk ?pg0 ?hd0 ?po0 ?sa0 ?mk0 ?kc0 ?ha0 ?hm0 ?ii0 ?x0_0 ?x0_1 ?x0_2 ?x0_3 ?x0_4 ?x0_5 ?pg1 ?hd1 ?po1 ?sa1 ?mk1 ?kc1 ?ha1 ?hm1 ?x1_0 ?x1_1 ?x1_2 ?x1_3 ?x1_4 ?x1_5 ?pg2 ?hd2 ?po2 ?sa2 ?mk2 ?kc2 ?ha2 ?hm2 ?ii2 ?x2_0 ?x2_1 ?x2_2 ?x2_3 ?x2_4 ?x2_5 ?pg3 ?hd3 ?po3 ?sa3 ?mk3 ?kc3 ?ha3 ?hm3 ?ii3 ?x3_0 ?x3_1 ?x3_2 ?x3_3 ?x3_4 ?x3_5 ?pg4 ?hd4 ?po4 ?sa4 ?mk4 ?kc4 ?ha4 ?hm4 ?x4_0 ?x4_1 ?x4_2 ?x4_3 ?x4_4 ?x4_5 ?pg5 ?hd5 ?po5 ?sa5 ?mk5 ?kc5 ?ha5 ?hm5 ?x5_0 ?x5_1 ?x5_2 ?x5_3 ?x5_4 ?x5_5 ?pg6 ?hd6 ?po6 ?sa6 ?mk6 ?kc6 ?ha6 ?hm6 ?x6_0 ?x6_1 ?x6_2 ?x6_3 ?x6_4 ?x6_5 ?pg7 ?hd7 ?po7 ?sa7 ?mk7 ?kc7 ?ha7 ?hm7 ?ii7 ?x7_0 ?x7_1 ?x7_2 ?x7_3 ?x7_4 ?x7_5 ?pg8 ?hd8 ?po8 ?sa8 ?mk8 ?kc8 ?ha8 ?hm8 ?x8_0 ?x8_1 ?x8_2 ?x8_3 ?x8_4 ?x8_5 ?pg9 ?hd9 ?po9 ?sa9 ?mk9 ?kc9 ?ha9 ?hm9 ?x9_0 ?x9_1 ?x9_2 ?x9_3 ?x9_4 ?x9_5 ?q0 ?r0 ?g0_0 ?g0_1 ?u0 ?q1 ?r1 ?g1_0 ?g1_1 ?u1 ?z_len ?z_str ?z_tuple ?z_list ?z_isinstance ?z_range ?z_zip ?z_sum ?z_max ?z_min
    case n0 | n1 | n2 | n3 | n4 | n5 | n6 | n7 | n8 | n9 | a0 | i0 | l0 | e0 | k0 | a1 | i1 | l1 | e1 | k1 | a2 | i2 | l2 | e2 | k2 | a3 | i3 | l3 | e3 | k3 | a4 | i4 | l4 | e4 | k4 | a5 | i5 | l5 | e5 | k5 | a6 | i6 | l6 | e6 | k6 | a7 | i7 | l7 | e7 | k7 | a8 | i8 | l8 | e8 | k8 | a9 | i9 | l9 | e9 | k9 | a10 | i10 | l10 | e10 | k10 | a11 | i11 | l11 | e11 | k11 | a12 | i12 | l12 | e12 | k12 | a13 | i13 | l13 | e13 | k13 | a14 | i14 | l14 | e14 | k14 | a15 | l15 | e15 | k15 | a16 | l16 | e16 | k16 | a17 | l17 | e17 | k17 | a18 | l18 | e18 | k18 | a19 | l19 | e19 | k19 | a20 | l20 | e20 | k20 | a21 | l21 | e21 | k21 | a22 | l22 | e22 | k22 | a23 | l23 | e23 | k23 | a24 | l24 | e24 | k24 | a25 | l25 | e25 | k25 | a26 | l26 | e26 | k26 | a27 | l27 | e27 | k27 | hn | htk | pg0 | hd0 | po0 | sa0 | mk0 | kc0 | ha0 | hm0 | ii0 | x0_0 | x0_1 | x0_2 | x0_3 | x0_4 | x0_5 | pg1 | hd1 | po1 | sa1 | mk1 | kc1 | ha1 | hm1 | x1_0 | x1_1 | x1_2 | x1_3 | x1_4 | x1_5 | pg2 | hd2 | po2 | sa2 | mk2 | kc2 | ha2 | hm2 | ii2 | x2_0 | x2_1 | x2_2 | x2_3 | x2_4 | x2_5 | pg3 | hd3 | po3 | sa3 | mk3 | kc3 | ha3 | hm3 | ii3 | x3_0 | x3_1 | x3_2 | x3_3 | x3_4 | x3_5 | pg4 | hd4 | po4 | sa4 | mk4 | kc4 | ha4 | hm4 | x4_0 | x4_1 | x4_2 | x4_3 | x4_4 | x4_5 | pg5 | hd5 | po5 | sa5 | mk5 | kc5 | ha5 | hm5 | x5_0 | x5_1 | x5_2 | x5_3 | x5_4 | x5_5 | pg6 | hd6 | po6 | sa6 | mk6 | kc6 | ha6 | hm6 | x6_0 | x6_1 | x6_2 | x6_3 | x6_4 | x6_5 | pg7 | hd7 | po7 | sa7 | mk7 | kc7 | ha7 | hm7 | ii7 | x7_0 | x7_1 | x7_2 | x7_3 | x7_4 | x7_5 | pg8 | hd8 | po8 | sa8 | mk8 | kc8 | ha8 | hm8 | x8_0 | x8_1 | x8_2 | x8_3 | x8_4 | x8_5 | pg9 | hd9 | po9 | sa9 | mk9 | kc9 | ha9 | hm9 | x9_0 | x9_1 | x9_2 | x9_3 | x9_4 | x9_5 | q0 | r0 => k_is
    case g0_0 | g0_1 | u0 => rfl
    case q1 | r1 => k_is
    case g1_0 | g1_1 | u1 => rfl
    case z_len | z_str | z_tuple | z_list | z_isinstance | z_range | z_zip | z_sum | z_max | z_min => k_is
