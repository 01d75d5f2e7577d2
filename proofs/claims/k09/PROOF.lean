import PyProof.Rows.All
import Wide.All
import OpenK.AllK
import Wide.FinOn
import Lean
import PyProof.EqAt
import PyProof.EqKinds
import PyProof.TupleCall
import PySem.Challenge.RW_planestacks_k09_bare_rows
set_option Elab.async false
set_option linter.all false
set_option maxRecDepth 100000
namespace L2
open PySem PySem.Spec PyProof.Rows
abbrev Key := Sum Int Str
def keyIs : Key -> Value -> Bool
  | .inl k, v => Value.isInt k v
  | .inr x, v => Value.isStrOf x v
def keyH (w : World) : Key -> Int
  | .inl k => hashInt k
  | .inr x => hashStr w x
theorem qQ : ∀ {k : Key} {v : Value}, keyIs k v = true -> (∃ i t, k = Sum.inl i /\ v = Value.int i t) \/ (∃ x t, k = Sum.inr x /\ v = Value.str x t)
  | .inl i, v, h => by
    obtain ⟨t, e⟩ := Value.isInt_shape (k := i) (v := v) h
    exact .inl ⟨i, t, rfl, e⟩
  | .inr x, v, h => by
    obtain ⟨t, e⟩ := Value.isStrOf_shape (x := x) (v := v) h
    exact .inr ⟨x, t, rfl, e⟩
theorem eCZ (a b : Int) : decide ((Sum.inl a : Key) = Sum.inl b) = (a == b) := by
  by_cases e : a = b
  . subst e; simp
  . have h : ¬ (Sum.inl a : Key) = Sum.inl b := fun q => e (Sum.inl.inj q)
    rw [decide_eq_false h]
    exact (beq_eq_false_iff_ne.mpr e).symm
theorem eCW (a b : Str) : decide ((Sum.inr a : Key) = Sum.inr b) = decide (a = b) := by
  by_cases e : a = b
  . subst e; simp
  . have h : ¬ (Sum.inr a : Key) = Sum.inr b := fun q => e (Sum.inr.inj q)
    rw [decide_eq_false h, decide_eq_false e]
theorem eCY (a : Int) (b : Str) : decide ((Sum.inl a : Key) = Sum.inr b) = false := decide_eq_false (fun q => nomatch q)
theorem eCX (a : Str) (b : Int) : decide ((Sum.inr a : Key) = Sum.inl b) = false := decide_eq_false (fun q => nomatch q)
def mixKind (prog : Program) (w : World) : PySem.KeyKind prog w Key where
  is := keyIs
  hash := keyH w
  inj := fun v a b ha hb => by
    rcases qQ ha with ⟨i, t, rfl, rfl⟩ | ⟨x, t, rfl, rfl⟩
    . rcases qQ hb with ⟨j, u, rfl, e⟩ | ⟨y, u, rfl, e⟩
      . injection e with e1 _; rw [e1]
      . exact nomatch e
    . rcases qQ hb with ⟨j, u, rfl, e⟩ | ⟨y, u, rfl, e⟩
      . exact nomatch e
      . injection e with e1 _; rw [e1]
  byValue := fun k v h => by
    rcases qQ h with ⟨i, t, rfl, rfl⟩ | ⟨x, t, rfl, rfl⟩ <;> rfl
  pyHash := fun hv h => by
    rcases qQ hv with ⟨i, t, rfl, rfl⟩ | ⟨x, t, rfl, rfl⟩
    . exact wpAny_pyHash_int h
    . exact wpAny_pyHash_str h
  eqBool := fun hu hv h => by
    rcases qQ hu with ⟨i, t, rfl, rfl⟩ | ⟨x, t, rfl, rfl⟩
    . rcases qQ hv with ⟨j, u, rfl, rfl⟩ | ⟨y, u, rfl, rfl⟩
      . rw [eCZ] at h; exact wpAny_eqBool_int h
      . rw [eCY] at h; exact SeqAt.EqAt.int_str i t y u _ _ _ _ h
    . rcases qQ hv with ⟨j, u, rfl, rfl⟩ | ⟨y, u, rfl, rfl⟩
      . rw [eCX] at h; exact SeqAt.EqAt.str_int x t j u _ _ _ _ h
      . rw [eCW] at h; exact wpAny_eqBool_str h
  «strs» := fun k x t v h => by
    rcases qQ h with ⟨i, u, rfl, e⟩ | ⟨y, u, rfl, e⟩
    . exact nomatch e
    . injection e with e1 _
      subst e1
      cases v <;> rfl
end L2
namespace L2
open PySem PySem.Spec PyProof.Rows
inductive V where
  | non | bl (b : Bool) | int (i : Int) | str (x : Str) | byt (b : Array UInt8) | flt (b : UInt64) | ref (a : Addr) | ty (n : String)
  deriving DecidableEq
def RelV : V -> Value -> Prop
  | .non, u => u = Value.none
  | .bl b, u => u = Value.bool b
  | .int i, u => ∃ t, u = Value.int i t
  | .str x, u => ∃ t, u = Value.str x t
  | .byt b, u => ∃ t, u = Value.bytes b t
  | .flt b, u => ∃ t, u = Value.float b t
  | .ref a, u => u = Value.ref a
  | .ty n, u => u = Value.type n
abbrev Vals : List V -> List Value -> Prop := Paired RelV
theorem Vals.length {xs : List V} {us : List Value} (r : Vals xs us) : xs.length = us.length := Paired.length r
theorem Vals.get : ∀ {xs : List V} {us : List Value} {i : Nat} {x : V}, Vals xs us -> xs[i]? = some x -> ∃ u, us[i]? = some u /\ RelV x u
  | _, _, _, _, .nil, e => by simp at e
  | _, _, 0, _, .cons r _, e => by simp at e; subst e; exact ⟨_, rfl, r⟩
  | _, _, i + 1, x, .cons _ t, e => by
    obtain ⟨u, h1, h2⟩ := Vals.get (i := i) (x := x) t (by simpa using e)
    exact ⟨u, by simpa using h1, h2⟩
theorem Vals.set {x : V} {u : Value} (r : RelV x u) : ∀ {xs : List V} {us : List Value} (i : Nat), Vals xs us -> Vals (xs.set i x) (us.set i u)
  | _, _, _, .nil => .nil
  | _, _, 0, .cons _ t => .cons r t
  | _, _, i + 1, .cons q t => .cons q (Vals.set r i t)
theorem Vals.append : ∀ {xs ys : List V} {us ws : List Value}, Vals xs us -> Vals ys ws -> Vals (xs ++ ys) (us ++ ws)
  | _, _, _, _, .nil, s => s
  | _, _, _, _, .cons r t, s => .cons r (Vals.append t s)
theorem Vals.take : ∀ {xs : List V} {us : List Value} (n : Nat), Vals xs us -> Vals (xs.take n) (us.take n)
  | _, _, 0, _ => .nil
  | _, _, _ + 1, .nil => .nil
  | _, _, n + 1, .cons r t => .cons r (Vals.take n t)
theorem Vals.drop : ∀ {xs : List V} {us : List Value} (n : Nat), Vals xs us -> Vals (xs.drop n) (us.drop n)
  | _, _, 0, r => r
  | _, _, _ + 1, .nil => .nil
  | _, _, n + 1, .cons _ t => Vals.drop n t
def RelO : Option V -> Option Value -> Prop
  | some v, some u => RelV v u
  | none, none => True
  | _, _ => False
def KV {κ : Type} : List (κ × V) -> List (κ × Value) -> Prop := Paired fun (p : κ × V) (q : κ × Value) => p.1 = q.1 /\ RelV p.2 q.2
def kV : Key -> V
  | .inl i => .int i
  | .inr x => .str x
inductive HO where
  /-- a list -/
  | lst (xs : List V)
  /-- a tuple (never changes) -/
  | tup (xs : List V)
  /-- a dict whose keys are ints and texts; one whose keys are tuples of ints and texts (the empty one is both) -/
  | dK (kvs : List (Key × V)) | dT (kvs : List (List Key × V))
  /-- a set of ints: its members, its size -/
  | set (S : Int -> Bool) (n : Nat)
  /-- an instance of the class at C, its dict at dx, its attributes -/
  | ins (C dx : Addr) (fs : List (Str × V))
  /-- the dict of the instance at x -/
  | own (x : Addr)
  /-- the dict of an exception -/
  | xd (fs : List (Str × V))
  /-- a bound method, f of x -/
  | met (f x : Addr)
  /-- a range object lo, lo + 1, .. below hi -/
  | rng (lo hi : Int)
  /-- a thing that is known to the object (the script; a dict while a loop walks it): read, never written while it is so -/
  | frz (o : Obj) (u : HO)
  /-- a code object's table -/
  | tbl (ps : Array Value)
  /-- any other thing, by what is true of its one object (a def of one's own: SetO a S n := HO.ext fun h => ..) -/
  | ext (φ : Heap -> Prop)
abbrev Hp := Addr -> Option HO
def upd (H : Hp) (a : Addr) (o : HO) : Hp := fun b => if b = a then some o else H b
theorem zA {H : Hp} {a : Addr} {o : HO} : upd H a o a = some o := by unfold upd; rw [if_pos rfl]
theorem yQ {H : Hp} {a b : Addr} {o : HO} (h : b ≠ a) : upd H a o b = H b := by unfold upd; rw [if_neg h]
theorem zZ {H : Hp} {a b : Addr} {o : HO} (h : H a = some o) (h' : H b = none) : a ≠ b := by
  intro e; subst e; rw [h] at h'; cases h'
section
variable (P : Program) (w : World)
def ObjOk (H : Hp) (h : Heap) (a : Addr) : HO -> Prop
  | .lst xs => xs.length <= sizeLine /\ ∃ (its : List Value) (n : Nat), Vals xs its /\ h.get? a = some { cls := .type "list", data := .seq its.toArray n }
  | .tup xs => xs.length <= sizeLine /\ ∃ its : List Value, Vals xs its /\ IsTup h a its.toArray
  | .dK kvs => kvs.length <= sizeLine /\ (a == sysModules) = false /\ ∃ vs, KV kvs vs /\ h.DictOf (mixKind P w) a vs
  | .dT kvs => kvs.length <= sizeLine /\ (a == sysModules) = false /\ ∃ xs : List (List Key × Addr × Value),
      Paired (fun (p : List Key × V) (q : List Key × Addr × Value) => p.1 = q.1 /\ H q.2.1 = some (.tup (p.1.map kV)) /\ RelV p.2 q.2.2) kvs xs /\
      ∃ o es ep, h.get? a = some o /\ o.ExactDict /\ o.data = .dict es ep /\ es.toList = xs.map (entryOfKey (tupleKind (mixKind P w))) /\ (xs.map (·.1)).Nodup
  | .set S n => h.SetOf (intKind P w) a S n
  | .ins C dx fs => H dx = some (.own a) /\ fs.length <= 1000 /\ dx ≠ a /\ h.get? a = some (PySem.W.instObj C dx) /\
      ∃ mA, h.Ns1 dx mA /\ (∀ f, RelO (fs.lookup f) (mA f)) /\ PySem.Within mA (fs.map (·.1))
  | .own _ => ∃ o, h.get? a = some o
  | .xd fs => ∃ mA, h.Ns1 a mA /\ ∀ f, RelO (fs.lookup f) (mA f)
  | .rng lo hi => ∃ t u v, h.get? a = some { cls := .type "range", data := .fields #[.int lo t, .int hi u, .int 1 v] }
  | .frz o u => h.get? a = some o /\ ObjOk H h a u
  | .tbl ps => h.get? a = some { cls := .none, data := .fields ps }
  | .met f x => h.get? a = some (PySem.W.methodObj (.ref f) (.ref x))
  | .ext φ => φ h /\ (∃ o, h.get? a = some o) /\ ∀ h1 h2 : Heap, φ h1 -> (∀ o, h1.get? a = some o -> h2.get? a = some o) -> φ h2
def HOk (H : Hp) (h : Heap) : Prop := ∀ a o, H a = some o -> ObjOk P w H h a o
end
section
variable {P : Program} {w : World} {H H' : Hp} {h h' : Heap} {a : Addr} {o : HO}
theorem ObjOk.lt (x : ObjOk P w H h a o) : a < h.objs.size := by
  cases o with
  | lst xs => obtain ⟨_, _, _, _, e⟩ := x; exact Heap.lt_size e
  | tup xs => obtain ⟨_, _, _, p⟩ := x; exact p.lt
  | dK kvs => obtain ⟨_, _, _, _, o, _, _, e, _⟩ := x; exact Heap.lt_size e
  | dT kvs => obtain ⟨_, _, _, _, o, _, _, e, _⟩ := x; exact Heap.lt_size e
  | set S n => obtain ⟨o, _, _, _, e, _⟩ := x; exact Heap.lt_size e
  | ins C dx fs => obtain ⟨_, _, _, e, _⟩ := x; exact Heap.lt_size e
  | own y => obtain ⟨_, e⟩ := x; exact Heap.lt_size e
  | xd fs => obtain ⟨_, ⟨_, _, _, e, _⟩, _⟩ := x; exact Heap.lt_size e
  | rng lo hi => obtain ⟨_, _, _, e⟩ := x; exact Heap.lt_size e
  | frz ob u => obtain ⟨e, _⟩ := x; exact Heap.lt_size e
  | tbl ps => exact Heap.lt_size (show h.get? a = some _ from x)
  | met f y => exact Heap.lt_size (show h.get? a = some _ from x)
  | ext φ => obtain ⟨_, ⟨_, e⟩, _⟩ := x; exact Heap.lt_size e
theorem Paired.mapP {α β : Type} {F G : α -> β -> Prop} : ∀ {l₁ : List α} {l₂ : List β}, Paired F l₁ l₂ -> (∀ a b, F a b -> G a b) -> Paired G l₁ l₂
  | _, _, .nil, _ => .nil
  | _, _, .cons r t, f => .cons (f _ _ r) (Paired.mapP t f)
theorem ObjOk.stay (x : ObjOk P w H h a o) (k : ∀ b u, (b = a \/ H b = some (.own a)) -> h.get? b = some u -> h'.get? b = some u)
    (ho : ∀ b, H b = some (.own a) -> H' b = some (.own a)) (ht : ∀ b xs, H b = some (.tup xs) -> H' b = some (.tup xs)) : ObjOk P w H' h' a o := by
  induction o with
  | lst xs => obtain ⟨z, its, n, r, e⟩ := x; exact ⟨z, its, n, r, k _ _ (.inl rfl) e⟩
  | tup xs => obtain ⟨z, its, r, ob, e, c⟩ := x; exact ⟨z, its, r, ob, k _ _ (.inl rfl) e, c⟩
  | dK kvs => obtain ⟨z, y, vs, r, ob, es, ep, e, c⟩ := x; exact ⟨z, y, vs, r, ob, es, ep, k _ _ (.inl rfl) e, c⟩
  | dT kvs =>
    obtain ⟨z, y, xs, r, ob, es, ep, e, c⟩ := x
    exact ⟨z, y, xs, Paired.mapP r fun p q z => ⟨z.1, ht _ _ z.2.1, z.2.2⟩, ob, es, ep, k _ _ (.inl rfl) e, c⟩
  | set S n => obtain ⟨ob, es, ep, t, e, c⟩ := x; exact ⟨ob, es, ep, t, k _ _ (.inl rfl) e, c⟩
  | ins C dx fs =>
    obtain ⟨d, z, ne, e, mA, ⟨od, es, ep, e2, c⟩, r⟩ := x
    exact ⟨ho _ d, z, ne, k _ _ (.inl rfl) e, mA, ⟨od, es, ep, k _ _ (.inr d) e2, c⟩, r⟩
  | own y => obtain ⟨ob, e⟩ := x; exact ⟨ob, k _ _ (.inl rfl) e⟩
  | xd fs => obtain ⟨mA, ⟨od, es, ep, e, c⟩, r⟩ := x; exact ⟨mA, ⟨od, es, ep, k _ _ (.inl rfl) e, c⟩, r⟩
  | rng lo hi => obtain ⟨t, u, v, e⟩ := x; exact ⟨t, u, v, k _ _ (.inl rfl) e⟩
  | frz ob u ih => obtain ⟨e, q⟩ := x; exact ⟨k _ _ (.inl rfl) e, ih q⟩
  | tbl ps =>
    have e : h.get? a = some { cls := .none, data := .fields ps } := x
    show h'.get? a = some { cls := .none, data := .fields ps }
    exact k a _ (.inl rfl) e
  | met f y =>
    have e : h.get? a = some (PySem.W.methodObj (.ref f) (.ref y)) := x
    show h'.get? a = some (PySem.W.methodObj (.ref f) (.ref y))
    exact k a _ (.inl rfl) e
  | ext φ => obtain ⟨p, ⟨o, e⟩, st⟩ := x; exact ⟨st _ _ p fun o q => k _ _ (.inl rfl) q, ⟨o, k _ _ (.inl rfl) e⟩, st⟩
theorem HOk.lt (x : HOk P w H h) (e : H a = some o) : a < h.objs.size := (x a o e).lt
theorem HOk.fresh (x : HOk P w H h) (e : h.objs.size <= a) : H a = none := by
  cases q : H a with
  | none => rfl
  | some u => exact absurd (Nat.lt_of_lt_of_le (x.lt q) e) (Nat.lt_irrefl _)
theorem HOk.kept (x : HOk P w H h) (k : ∀ b u, h.get? b = some u -> h'.get? b = some u) : HOk P w H h' := fun a o e =>
  (x a o e).stay (fun b u _ q => k b u q) (fun _ q => q) fun _ _ q => q
theorem HOk.laid (x : HOk P w H h) (k : ∀ b u, h.get? b = some u -> h'.get? b = some u) (hp : h.objs.size <= a) (new : ObjOk P w (upd H a o) h' a o) : HOk P w (upd H a o) h' := fun b u e => by
  have hn := x.fresh hp
  by_cases hb : b = a
  . subst hb; rw [zA] at e; cases e; exact new
  . rw [yQ hb] at e
    exact (x b u e).stay (fun c v _ q => k c v q) (fun c q => by rw [yQ (zZ q hn)]; exact q) fun c xs q => by rw [yQ (zZ q hn)]; exact q
end
def Rd (H : Hp) (a : Addr) (u : HO) : Prop := H a = some u \/ ∃ o, H a = some (.frz o u)
theorem Rd.ok {P : Program} {w : World} {H : Hp} {h : Heap} {a : Addr} {u : HO} (r : Rd H a u) (x : HOk P w H h) : ObjOk P w H h a u := by
  rcases r with r | ⟨o, r⟩
  . exact x a u r
  . obtain ⟨_, q⟩ := x a _ r
    exact q
def Mut : Option HO -> Prop
  | some (.lst _) => True
  | some (.dK _) => True
  | some (.dT _) => True
  | some (.set _ _) => True
  | some (.ins _ _ _) => True
  | some (.ext _) => True
  | _ => False
section
variable {P : Program} {w : World} {H : Hp} {h h' : Heap} {x e : Addr} {o' : HO}
theorem HOk.write (ok : HOk P w H h) (mu : Mut (H x)) (he : e = x \/ H e = some (.own x)) (k : ∀ b u, b ≠ e -> h.get? b = some u -> h'.get? b = some u) (heo : ∃ u, h'.get? e = some u)
    (new : ObjOk P w (upd H x o') h' x o') : HOk P w (upd H x o') h' := fun b u q => by
  have nown : ∀ c y, H c = some (.own y) -> c ≠ x := fun c y r z => by subst z; rw [r] at mu; exact mu
  have ntup : ∀ c xs, H c = some (.tup xs) -> c ≠ x := fun c xs r z => by subst z; rw [r] at mu; exact mu
  by_cases hb : b = x
  . subst hb; rw [zA] at q; cases q; exact new
  . rw [yQ hb] at q
    by_cases hbe : b = e
    . have q' : H b = some (.own x) := by
        rcases he with z | z
        . exact absurd (hbe.trans z) hb
        . rw [hbe]; exact z
      rw [q] at q'; cases q'
      obtain ⟨v, hv⟩ := heo
      exact ⟨v, by rw [hbe]; exact hv⟩
    . refine (ok b u q).stay (fun c v hc r => k c v ?_ r) (fun c r => by rw [yQ (nown c b r)]; exact r) fun c xs r => by rw [yQ (ntup c xs r)]; exact r
      rcases hc with rfl | hc
      . exact hbe
      . rintro rfl
        rcases he with z | z
        . exact nown c b hc z
        . rw [hc] at z; cases z; exact hb rfl
end
structure Un (fs ex : List Addr) (H H' : Hp) (h h' : Heap) : Prop where
  keep : ∀ b o, h.get? b = some o -> H b = none -> b ∉ fs -> b ∉ ex -> h'.get? b = some o
  slot : ∀ b o, h.get? b = some o -> H b = none -> b ∈ fs -> b ∉ ex -> ∃ sl, h'.get? b = some { o with slots := sl }
  free : ∀ b o, h.get? b = some o -> H b = none -> b ∉ ex -> H' b = none
  there : ∀ b o, h.get? b = some o -> b ∉ ex -> ∃ o', h'.get? b = some o'
  tups : ∀ b xs, H b = some (.tup xs) -> H' b = some (.tup xs)
  frzs : ∀ b o u, H b = some (.frz o u) -> H' b = some (.frz o u)
  tbls : ∀ b ps, H b = some (.tbl ps) -> ∃ more, H' b = some (.tbl (ps ++ more))
section
variable {fs fs' ex ex' : List Addr} {H H1 H2 : Hp} {h h1 h2 h' : Heap} {a x e : Addr} {o : HO}
theorem Un.any (u : Un fs ex H H1 h h1) {b : Addr} {ob : Obj} (q : h.get? b = some ob) (n : H b = none) (hx : b ∉ ex) : ∃ sl, h1.get? b = some { ob with slots := sl } := by
  by_cases hb : b ∈ fs
  . exact u.slot b ob q n hb hx
  . exact ⟨ob.slots, u.keep b ob q n hb hx⟩
theorem Un.kept (k : ∀ b u, h.get? b = some u -> h'.get? b = some u) : Un fs ex H H h h' :=
  ⟨fun b ob q _ _ _ => k b ob q, fun b ob q _ _ _ => ⟨ob.slots, k b ob q⟩, fun _ _ _ n _ => n, fun b ob q _ => ⟨ob, k b ob q⟩, fun _ _ q => q, fun _ _ _ q => q, fun _ ps q => ⟨#[], by rw [q]; simp⟩⟩
theorem Un.refl : Un fs ex H H h h := Un.kept fun _ _ q => q
theorem Un.laid (k : ∀ b u, h.get? b = some u -> h'.get? b = some u) (hp : h.objs.size <= a) (hn : H a = none) : Un fs ex H (upd H a o) h h' where
  keep := fun b u q _ _ _ => k b u q
  slot := fun b u q _ _ _ => ⟨u.slots, k b u q⟩
  free := fun b u q n _ => by rw [yQ (Nat.ne_of_lt (Nat.lt_of_lt_of_le (Heap.lt_size q) hp))]; exact n
  there := fun b u q _ => ⟨u, k b u q⟩
  tups := fun b xs q => by rw [yQ (zZ q hn)]; exact q
  frzs := fun b u xs q => by rw [yQ (zZ q hn)]; exact q
  tbls := fun b ps q => ⟨#[], by rw [yQ (zZ q hn), q]; simp⟩
theorem Un.write (mu : Mut (H x)) (he : e = x \/ H e = some (.own x)) (k : ∀ b u, b ≠ e -> h.get? b = some u -> h'.get? b = some u) (heo : ∃ u, h'.get? e = some u) : Un fs ex H (upd H x o) h h' := by
  have hx : ∀ b, H b = none -> b ≠ x := fun b n z => by subst z; rw [n] at mu; exact mu
  have hb : ∀ b, H b = none -> b ≠ e := fun b n z => by
    subst z
    rcases he with r | r
    . exact hx b n r
    . rw [n] at r; cases r
  have hm : ∀ b u, H b = some u -> ¬ Mut (some u) -> b ≠ x := fun b u q nm z => by subst z; rw [q] at mu; exact nm mu
  refine ⟨fun b u q n _ _ => k b u (hb b n) q, fun b u q n _ _ => ⟨u.slots, k b u (hb b n) q⟩, fun b u q n _ => by rw [yQ (hx b n)]; exact n, fun b u q _ => ?_,
    fun b xs q => by rw [yQ (hm b _ q fun z => z)]; exact q, fun b u xs q => by rw [yQ (hm b _ q fun z => z)]; exact q, fun b ps q => ⟨#[], by rw [yQ (hm b _ q fun z => z), q]; simp⟩⟩
  by_cases hbe : b = e
  . subst hbe; exact heo
  . exact ⟨u, k b u hbe q⟩
end
def trk (h : Heap) (H : Hp) : List Addr := (List.range h.objs.size).filter fun a => (H a).isSome
def hidT (h : Heap) (H : Hp) : Heap := PySem.W.hideAll h (trk h H)
theorem aUL (h : Heap) (H : Hp) : (hidT h H).objs.size = h.objs.size := PySem.W.hideAll_size _ _
theorem aXC {h : Heap} {H : Hp} {b : Addr} {o : Obj} (e : h.get? b = some o) (n : H b = none) : (hidT h H).get? b = some o :=
  PySem.W.hideAll_get _ e fun hm => by
    have q : (H b).isSome = true := (List.mem_filter.mp hm).2
    rw [n] at q; simp at q
theorem aZS {h : Heap} {H : Hp} {b : Addr} {o : Obj} (e : (hidT h H).get? b = some o) : h.get? b = some o /\ H b = none := by
  have e' : h.get? b = some o := PySem.W.of_hideAll (trk h H) e
  refine ⟨e', ?_⟩
  cases q : H b with
  | none => rfl
  | some x =>
    have hm : b ∈ trk h H := List.mem_filter.mpr ⟨List.mem_range.mpr (Heap.lt_size e'), by simp [q]⟩
    have z : (hidT h H).get? b = none := PySem.W.hideAll_none (trk h H) hm
    rw [z] at e; cases e
def allNews (g h : Heap) (L : Addr) : List (Addr × Obj) := (List.range h.objs.size).filterMap fun a => if a = L \/ (g.get? a).isSome = true then none else (h.get? a).map fun o => (a, o)
def rest (g h : Heap) (L d : Addr) : List (Addr × Obj) := (allNews g h L).filter fun p => decide (p.1 ≠ d)
end L2
namespace L2
open PySem PySem.Spec PyProof.Rows
structure Mod (K : PySem.W.Frag) (mg : Str -> Option Value) (base : Heap) : Prop where
  kin : K.In base
  glob : base.Ns mainGlobals mg
  blt : ∃ mb, base.Ns builtinsNs mb /\ ∀ x : Str, x ≠ "__name__" -> mb x = bootBuiltins x
  nolimit : base.NoLimit
  seer : base.NoSeer
structure Cx where
  prog : Program
  w : World
  K : PySem.W.Frag
  mg : Str -> Option Value
  base : Heap
  A : Around
  N : List Str
  s₀ : Shared
  H₀ : Hp
  env : Env
  outer : List Env
  stack : List Env
  ex : List Addr
  fn : Str -> Bool
  calm : Bool
  pn : List (Addr × Obj)
  xe : Value -> Shared -> Prop
def frs (l : List Env) : List Addr := l.filterMap (·.frame)
abbrev Cx.fs (X : Cx) : List Addr := frs X.outer
def Vis (sc : Scope) (x : Str) : Prop := sc.names.lookup x = some .local \/ sc.names.lookup x = some .cell \/ sc.names.lookup x = some .free
def Loc (sc : Scope) (x : Str) : Prop := sc.names.lookup x = some .local \/ sc.names.lookup x = some .cell
def Look (env : Env) (h : Heap) (m : Str -> Option Value) (x : Str) (u : Value) : Prop :=
  (env.kindOf x = some .local /\ m x = some u) \/ ((env.kindOf x = some .cell \/ env.kindOf x = some .free) /\ ∃ c, env.cells.lookup x = some c /\ h.IsCell c (some u))
structure Cx.Ok (X : Cx) : Prop where
  mod : Mod X.K X.mg X.base
  kind : X.env.scope.kind = .function
  glob : X.env.globals = mainGlobals
  blt : X.env.builtins = builtinsNs
  above : X.s₀.heap.objs.size <= X.env.locals
  inj : ∀ x y c, X.env.cells.lookup x = some c -> X.env.cells.lookup y = some c -> x = y
  has : ∀ x, (X.env.kindOf x = some .cell \/ X.env.kindOf x = some .free) -> ∃ c, X.env.cells.lookup x = some c
  cab : ∀ x c, X.fn x = true -> X.env.cells.lookup x = some c -> X.s₀.heap.objs.size <= c
  hd : X.calm = true -> X.A.handled = none
  frames : X.A.frames = some X.stack
  stk : X.stack = X.outer \/ (X.stack = X.env :: X.outer /\ X.env.frame = some X.env.locals)
  exf : ∀ b ∈ X.ex, b ≠ X.env.locals /\ ∀ x c, X.env.cells.lookup x = some c -> c ≠ b
  bs : ∀ b o, X.base.get? b = some o -> X.s₀.heap.get? b = some o /\ X.H₀ b = none
  bsz : X.base.objs.size <= X.s₀.heap.objs.size
  noex : ∀ b o, X.base.get? b = some o -> b ∉ X.ex
  exfs : ∀ b ∈ X.ex, b ∉ X.fs
  funs : X.s₀.heap.FunFrames X.base X.outer
  frf : ∀ b ∈ X.fs, X.H₀ b = none
structure Inv (X : Cx) (pins : List (Addr × Obj)) (σ : List (Option V)) (H : Hp) (s : Shared) : Prop where
  ok : X.Ok
  os : s.os = X.s₀.os
  bare : AllBare s.gens
  base : Un X.fs X.ex X.H₀ H X.s₀.heap s.heap
  loc : ∃ m, s.heap.Ns X.env.locals m /\ ∀ (i : Nat) (x : Str) (v : V), X.N[i]? = some x -> σ[i]? = some (some v) -> Vis X.env.scope x -> ∃ u, RelV v u /\ Look X.env s.heap m x u
  cell : ∀ x c, X.env.cells.lookup x = some c -> ∃ v, s.heap.IsCell c v
  free : H X.env.locals = none
  freeC : ∀ x c, X.env.cells.lookup x = some c -> H c = none
  pin : ∀ p ∈ X.pn ++ pins, s.heap.get? p.1 = some p.2 /\ H p.1 = none /\ p.1 ≠ X.env.locals /\ p.1 ∉ X.fs /\ ∀ v, p.2.data ≠ .cell v
  hok : HOk X.prog X.w H s.heap
  len : σ.length = X.N.length
section
variable {X : Cx} {pins : List (Addr × Obj)} {σ : List (Option V)} {H H' : Hp} {s : Shared} {h' : Heap}
theorem Cx.Ok.nofr (ok : X.Ok) {b : Addr} {o : Obj} (e : X.base.get? b = some o) : b ∉ X.fs := fun hb => by
  have := (ok.funs.mem hb).1
  rw [e] at this; cases this
theorem Inv.bs (I : Inv X pins σ H s) : ∀ b o, X.base.get? b = some o -> s.heap.get? b = some o /\ H b = none := fun b o e =>
  ⟨I.base.keep b o (I.ok.bs b o e).1 (I.ok.bs b o e).2 (I.ok.nofr e) (I.ok.noex b o e), I.base.free b o (I.ok.bs b o e).1 (I.ok.bs b o e).2 (I.ok.noex b o e)⟩
theorem Inv.bk (I : Inv X pins σ H s) : ∀ b o, X.base.get? b = some o -> s.heap.get? b = some o := fun b o e => (I.bs b o e).1
theorem Inv.mod (I : Inv X pins σ H s) : Mod X.K X.mg X.base := I.ok.mod
theorem Inv.kIn (I : Inv X pins σ H s) : X.K.In s.heap := I.ok.mod.kin.keeps I.bk
theorem Inv.nolimit (I : Inv X pins σ H s) : s.heap.NoLimit := I.ok.mod.nolimit.keeps I.bk
theorem Inv.lt (I : Inv X pins σ H s) : X.env.locals < s.heap.objs.size := let ⟨_, hn, _⟩ := I.loc; hn.lt
theorem Inv.sz (I : Inv X pins σ H s) : X.s₀.heap.objs.size <= s.heap.objs.size := Nat.le_trans I.ok.above (Nat.le_of_lt I.lt)
theorem Inv.nofs (I : Inv X pins σ H s) {a : Addr} (h : s.heap.objs.size <= a) : a ∉ X.fs := fun hb => by
  obtain ⟨_, o, ho, _⟩ := I.ok.funs.mem hb
  exact absurd (Nat.lt_of_lt_of_le (Heap.lt_size ho) (Nat.le_trans I.sz h)) (Nat.lt_irrefl _)
theorem Inv.cne (I : Inv X pins σ H s) : ∀ x c, X.env.cells.lookup x = some c -> c ≠ X.env.locals := fun x c e z => by
  obtain ⟨v, o, ho, hd⟩ := I.cell x c e
  obtain ⟨m, ⟨o', es, ep, ho', hd', _⟩, _⟩ := I.loc
  rw [z, ho'] at ho; cases ho; rw [hd'] at hd; cases hd
theorem Inv.funs (I : Inv X pins σ H s) : s.heap.FunFrames X.base X.outer := by
  have all : ∀ (l : List Env), (∀ b ∈ frs l, b ∈ X.fs) -> X.s₀.heap.FunFrames X.base l -> s.heap.FunFrames X.base l := by
    intro l
    induction l with
    | nil => intro _ _; trivial
    | cons env r ih =>
      intro hs hl
      obtain ⟨hk, ⟨L, o, hf, hn, ho, hd⟩, hr⟩ := hl
      have hL : L ∈ X.fs := hs L (by unfold frs; rw [List.filterMap_cons, hf]; exact List.mem_cons_self)
      obtain ⟨sl, e⟩ := I.base.slot L o ho (I.ok.frf L hL) hL fun z => I.ok.exfs L z hL
      exact ⟨hk, ⟨L, _, hf, hn, e, hd⟩, ih (fun b hb => hs b (by unfold frs; rw [List.filterMap_cons, hf]; exact List.mem_cons_of_mem _ hb)) hr⟩
  exact all X.outer (fun _ hb => hb) I.ok.funs
theorem Inv.stack (I : Inv X pins σ H s) : s.heap.FunFrames X.base X.stack := by
  rcases I.ok.stk with e | ⟨e, hf⟩
  . rw [e]; exact I.funs
  . rw [e]
    obtain ⟨m, hn, _⟩ := I.loc
    refine .cons (by rw [I.ok.kind]; decide) hf hn ?_ I.funs
    exact Heap.get?_none_of_le (Nat.le_trans I.ok.bsz I.ok.above)
theorem Inv.stkSub (I : Inv X pins σ H s) : ∀ b ∈ frs X.stack, b ∈ X.env.locals :: X.fs := fun b hb => by
  rcases I.ok.stk with e | ⟨e, hf⟩
  . rw [e] at hb; exact List.mem_cons_of_mem _ hb
  . rw [e] at hb
    unfold frs at hb
    rw [List.filterMap_cons, hf] at hb
    exact hb
theorem Inv.stkFree (I : Inv X pins σ H s) : ∀ b ∈ frs X.stack, H b = none := fun b hb => by
  rcases List.mem_cons.mp (I.stkSub b hb) with e | hb
  . rw [e]; exact I.free
  . obtain ⟨_, o, ho, _⟩ := I.ok.funs.mem hb
    exact I.base.free b o ho (I.ok.frf b hb) fun z => I.ok.exfs b z hb
theorem Inv.step {g' : Array GenState} {t' : Nat} {d' : Drawn} {ch : List Addr} (I : Inv X pins σ H s)
    (hch : ∀ b ∈ ch, (b ∈ X.ex \/ X.s₀.heap.objs.size <= b) /\ b ≠ X.env.locals /\ (∀ x c, X.env.cells.lookup x = some c -> c ≠ b) /\ ∀ p ∈ X.pn ++ pins, p.1 ≠ b)
    (keep : ∀ b o, b ≠ X.env.locals -> b ∉ X.fs -> b ∉ ch -> s.heap.get? b = some o -> H b = none -> h'.get? b = some o)
    (slot : ∀ b o, b ≠ X.env.locals -> b ∈ X.fs -> b ∉ ch -> s.heap.get? b = some o -> H b = none -> ∃ sl, h'.get? b = some { o with slots := sl }) (free : ∀ b o, b ∉ ch -> s.heap.get? b = some o -> H b = none -> H' b = none)
    (there : ∀ b o, b ∉ ch -> s.heap.get? b = some o -> ∃ o', h'.get? b = some o')
    (tups : ∀ b xs, H b = some (.tup xs) -> H' b = some (.tup xs)) (frzs : ∀ b o u, H b = some (.frz o u) -> H' b = some (.frz o u)) (tbls : ∀ b ps, H b = some (.tbl ps) -> ∃ more, H' b = some (.tbl (ps ++ more)))
    (ns : ∀ m, s.heap.Ns X.env.locals m -> h'.Ns X.env.locals m) (hok : HOk X.prog X.w H' h') (hg : AllBare g') :
    Inv X pins σ H' { s with heap := h', gens := g', drawn := d', toks := t' } := by
  have neL : ∀ b o, X.s₀.heap.get? b = some o -> b ≠ X.env.locals := fun b o e => Nat.ne_of_lt (Nat.lt_of_lt_of_le (Heap.lt_size e) I.ok.above)
  have neC : ∀ b o, X.s₀.heap.get? b = some o -> b ∉ X.ex -> b ∉ ch := fun b o e hx hb => by
    rcases (hch b hb).1 with z | z
    . exact hx z
    . exact absurd (Nat.lt_of_lt_of_le (Heap.lt_size e) z) (Nat.lt_irrefl _)
  have cellK : ∀ x c, X.env.cells.lookup x = some c -> ∀ v, s.heap.IsCell c v -> h'.IsCell c v := fun x c e v ⟨o, ho, hd⟩ => by
    have nch : c ∉ ch := fun z => (hch c z).2.2.1 x c e rfl
    by_cases hc : c ∈ X.fs
    . obtain ⟨sl, q⟩ := slot c o (I.cne x c e) hc nch ho (I.freeC x c e)
      exact ⟨_, q, hd⟩
    . exact ⟨o, keep c o (I.cne x c e) hc nch ho (I.freeC x c e), hd⟩
  refine ⟨I.ok, I.os, hg, ⟨fun b o e n hb hx => ?_, fun b o e n hb hx => ?_, fun b o e n hx => ?_, fun b o e hx => ?_, fun b xs e => tups b xs (I.base.tups b xs e), fun b o xs e => frzs b o xs (I.base.frzs b o xs e), fun b ps e => ?_⟩, ?_, fun x c e => ?_, ?_, fun x c e => ?_, fun p hp => ?_, hok, I.len⟩
  . exact keep b o (neL b o e) hb (neC b o e hx) (I.base.keep b o e n hb hx) (I.base.free b o e n hx)
  . obtain ⟨sl, e1⟩ := I.base.slot b o e n hb hx
    obtain ⟨sl', e2⟩ := slot b _ (neL b o e) hb (neC b o e hx) e1 (I.base.free b o e n hx)
    exact ⟨sl', e2⟩
  . obtain ⟨o', e1⟩ := I.base.there b o e hx
    exact free b o' (neC b o e hx) e1 (I.base.free b o e n hx)
  . obtain ⟨o', e1⟩ := I.base.there b o e hx
    exact there b o' (neC b o e hx) e1
  . obtain ⟨m1, e1⟩ := I.base.tbls b ps e
    obtain ⟨m2, e2⟩ := tbls b _ e1
    exact ⟨m1 ++ m2, by rw [e2, Array.append_assoc]⟩
  . obtain ⟨m, hn, hl⟩ := I.loc
    refine ⟨m, ns m hn, fun i x v e1 e2 e3 => ?_⟩
    obtain ⟨u, r, l⟩ := hl i x v e1 e2 e3
    refine ⟨u, r, ?_⟩
    rcases l with l | ⟨k, c, e, z⟩
    . exact .inl l
    . exact .inr ⟨k, c, e, cellK x c e _ z⟩
  . obtain ⟨v, z⟩ := I.cell x c e
    exact ⟨v, cellK x c e v z⟩
  . obtain ⟨m, ⟨o, _, _, ho, _⟩, _⟩ := I.loc
    exact free _ o (fun z => (hch _ z).2.1 rfl) ho I.free
  . obtain ⟨v, o, ho, hd⟩ := I.cell x c e
    exact free c o (fun z => (hch c z).2.2.1 x c e rfl) ho (I.freeC x c e)
  . obtain ⟨e, n, ne, nf, d⟩ := I.pin p hp
    have nch : p.1 ∉ ch := fun z => (hch p.1 z).2.2.2 p hp rfl
    exact ⟨keep p.1 p.2 ne nf nch e n, free p.1 p.2 nch e n, ne, nf, d⟩
theorem Inv.un {t' : Nat} (I : Inv X pins σ H s) (u : Un X.fs [] H H' s.heap h') (hok : HOk X.prog X.w H' h') : Inv X pins σ H' { s with heap := h', toks := t' } := by
  obtain ⟨m, ⟨o, es, ep, ho, r⟩, _⟩ := id I.loc
  obtain ⟨sl, hL⟩ := u.any ho I.free (by simp)
  exact I.step (g' := s.gens) (d' := s.drawn) (ch := []) (fun _ z => nomatch z) (fun b o _ hb _ e n => u.keep b o e n hb (by simp)) (fun b o _ hb _ e n => u.slot b o e n hb (by simp)) (fun b o _ e n => u.free b o e n (by simp)) (fun b o _ e => u.there b o e (by simp)) u.tups u.frzs u.tbls (fun m' hm => by
    obtain ⟨o', es', ep', ho', r'⟩ := hm
    rw [ho] at ho'; cases ho'
    exact ⟨_, es', ep', hL, r'⟩) hok I.bare
theorem Inv.call {g' : Array GenState} {t' : Nat} {d' : Drawn} {ch : List Addr} (I : Inv X pins σ H s) (u : Un (frs X.stack) ch H H' s.heap h') (hok : HOk X.prog X.w H' h') (hg : AllBare g')
    (hch : ∀ b ∈ ch, (b ∈ X.ex \/ X.s₀.heap.objs.size <= b) /\ b ≠ X.env.locals /\ (∀ x c, X.env.cells.lookup x = some c -> c ≠ b) /\ ∀ p ∈ X.pn ++ pins, p.1 ≠ b) :
    Inv X pins σ H' { s with heap := h', gens := g', drawn := d', toks := t' } := by
  obtain ⟨m, ⟨o, es, ep, ho, r⟩, _⟩ := id I.loc
  obtain ⟨sl, hL⟩ := u.any ho I.free fun z => (hch _ z).2.1 rfl
  exact I.step (ch := ch) hch (fun b o hL hb hc e n => u.keep b o e n (fun z => (List.mem_cons.mp (I.stkSub b z)).elim hL hb) hc) (fun b o _ _ hc e n => u.any e n hc) (fun b o hc e n => u.free b o e n hc) (fun b o hc e => u.there b o e hc) u.tups u.frzs u.tbls (fun m' hm => by
    obtain ⟨o', es', ep', ho', r'⟩ := hm
    rw [ho] at ho'; cases ho'
    exact ⟨_, es', ep', hL, r'⟩) hok hg
theorem Inv.turned {t' : Nat} {it : Addr} (I : Inv X pins σ H s) (k : ∀ b o, b ≠ it -> s.heap.get? b = some o -> h'.get? b = some o) (hn : H it = none) (hL : it ≠ X.env.locals)
    (h1 : it ∈ X.ex \/ X.s₀.heap.objs.size <= it) (h2 : ∀ x c, X.env.cells.lookup x = some c -> c ≠ it) (h3 : ∀ p ∈ X.pn ++ pins, p.1 ≠ it) : Inv X pins σ H { s with heap := h', toks := t' } := by
  have nit : ∀ b u, H b = some u -> b ≠ it := fun b u e z => by rw [z, hn] at e; cases e
  refine I.step (g' := s.gens) (d' := s.drawn) (ch := [it]) (fun b hb => ?_) (fun b o _ _ hc e _ => k b o (fun z => hc (by simp [z])) e) (fun b o _ _ hc e _ => ⟨o.slots, k b o (fun z => hc (by simp [z])) e⟩) (fun _ _ _ _ n => n)
    (fun b o hc e => ⟨o, k b o (fun z => hc (by simp [z])) e⟩) (fun _ _ e => e) (fun _ _ _ e => e) (fun b ps e => ⟨#[], by rw [e]; simp⟩) (fun m hm => ?_) (fun b u e => ?_) I.bare
  . have e : b = it := by simpa using hb
    subst e
    exact ⟨h1, hL, h2, h3⟩
  . obtain ⟨o, es, ep, ho, r⟩ := hm
    exact ⟨o, es, ep, k _ o (Ne.symm hL) ho, r⟩
  . refine (I.hok b u e).stay (fun c v hc q => k c v ?_ q) (fun _ q => q) fun _ _ q => q
    rcases hc with z | z
    . rw [z]; exact nit b u e
    . exact nit c _ z
theorem Inv.tok (I : Inv X pins σ H s) (t : Nat) : Inv X pins σ H { s with toks := t } := I.un (h' := s.heap) (t' := t) Un.refl I.hok
theorem Inv.kept {t' : Nat} (I : Inv X pins σ H s) (k : ∀ b u, s.heap.get? b = some u -> h'.get? b = some u) : Inv X pins σ H { s with heap := h', toks := t' } := I.un (Un.kept k) (I.hok.kept k)
theorem Inv.laid {a : Addr} {o : HO} {t' : Nat} (I : Inv X pins σ H s) (k : ∀ b u, s.heap.get? b = some u -> h'.get? b = some u) (hp : s.heap.objs.size <= a) (new : ObjOk X.prog X.w (upd H a o) h' a o) :
    Inv X pins σ (upd H a o) { s with heap := h', toks := t' } := I.un (Un.laid k hp (I.hok.fresh hp)) (I.hok.laid k hp new)
theorem Inv.write {x e : Addr} {o : HO} {t' : Nat} (I : Inv X pins σ H s) (mu : Mut (H x)) (he : e = x \/ H e = some (.own x)) (k : ∀ b u, b ≠ e -> s.heap.get? b = some u -> h'.get? b = some u) (heo : ∃ u, h'.get? e = some u)
    (new : ObjOk X.prog X.w (upd H x o) h' x o) : Inv X pins σ (upd H x o) { s with heap := h', toks := t' } := I.un (Un.write mu he k heo) (I.hok.write mu he k heo new)
theorem Inv.pins_of {pins' : List (Addr × Obj)} (I : Inv X pins σ H s) (h : ∀ p ∈ pins', s.heap.get? p.1 = some p.2 /\ H p.1 = none /\ p.1 ≠ X.env.locals /\ p.1 ∉ X.fs /\ ∀ v, p.2.data ≠ .cell v) : Inv X pins' σ H s :=
  ⟨I.ok, I.os, I.bare, I.base, I.loc, I.cell, I.free, I.freeC, fun p hp => (List.mem_append.mp hp).elim (fun z => I.pin p (List.mem_append_left _ z)) (h p), I.hok, I.len⟩
theorem aJP {N : List Str} (hN : N.Nodup) {i j : Nat} {x : Str} (a : N[i]? = some x) (b : N[j]? = some x) : i = j := by
  obtain ⟨h1, e1⟩ := List.getElem?_eq_some_iff.mp a
  obtain ⟨h2, e2⟩ := List.getElem?_eq_some_iff.mp b
  exact (List.getElem_inj hN).mp (e1.trans e2.symm)
theorem aKY {M : Model} {A : Around} {E : Value -> Shared -> Prop} {i : Nat} {x : Str} {v : V} {u : Value} {Q : Unit -> Shared -> Prop} (I : Inv X pins σ H s) (hN : X.N.Nodup) (hi : X.N[i]? = some x) (hx : Loc X.env.scope x) (r : RelV v u)
    (h : ∀ s', Inv X pins (σ.set i (some v)) H s' -> (∃ a, Heap.SameBut a s.heap s'.heap /\ (a = X.env.locals \/ X.env.cells.lookup x = some a)) -> Q () s') (hf : X.fn x = true \/ X.env.scope.names.lookup x = some .local := by first | exact .inl rfl | exact .inr rfl | assumption) : wpAny M A (storeName X.env x u) Q E s := by
  obtain ⟨m, hn, hl⟩ := id I.loc
  have hcls : (X.env.scope.kind == .class || (X.env.scope.kind == .module && X.env.locals != X.env.globals)) = false := by rw [I.ok.kind]; rfl
  have hiσ : i < σ.length := by rw [I.len]; exact (List.getElem?_eq_some_iff.mp hi).1
  have cne := I.cne
  have tracked : ∀ {a : Addr} {h' : Heap}, (∃ o, s.heap.get? a = some o /\ H a = none) -> Heap.SameBut a s.heap h' -> HOk X.prog X.w H h' := fun {a h'} ha hs b ob e => by
    obtain ⟨_, _, hfree⟩ := ha
    refine (I.hok b ob e).stay (fun c w' hc q => (hs.2 c ?_).trans q) (fun _ q => q) fun _ _ q => q
    rintro rfl
    rcases hc with rfl | hc
    . rw [hfree] at e; cases e
    . rw [hfree] at hc; cases hc
  rcases hx with hk | hk
  . refine wpAny_storeName_local hk hn (fun h' hn' hs => ?_) hcls
    obtain ⟨oL, _, _, hoL, _⟩ := id hn
    refine h _ ⟨I.ok, I.os, I.bare, ⟨fun b o e n hb hx => ?_, fun b o e n hb hx => ?_, I.base.free, fun b o e hx => ?_, I.base.tups, I.base.frzs, I.base.tbls⟩, ⟨_, hn', fun j y v' e1 e2 e3 => ?_⟩, fun y c e => ?_, I.free, I.freeC, fun p hp => ?_, tracked ⟨oL, hoL, I.free⟩ hs, by simpa using I.len⟩ ⟨_, hs, .inl rfl⟩
    . exact (hs.2 b (Nat.ne_of_lt (Nat.lt_of_lt_of_le (Heap.lt_size e) I.ok.above))).trans (I.base.keep b o e n hb hx)
    . obtain ⟨sl, e1⟩ := I.base.slot b o e n hb hx
      exact ⟨sl, (hs.2 b (Nat.ne_of_lt (Nat.lt_of_lt_of_le (Heap.lt_size e) I.ok.above))).trans e1⟩
    . obtain ⟨o', e1⟩ := I.base.there b o e hx
      exact ⟨o', (hs.2 b (Nat.ne_of_lt (Nat.lt_of_lt_of_le (Heap.lt_size e) I.ok.above))).trans e1⟩
    . by_cases hj : j = i
      . subst hj
        rw [hi] at e1; cases e1
        rw [List.getElem?_set_self hiσ] at e2
        cases e2
        exact ⟨u, r, .inl ⟨hk, by simp⟩⟩
      . rw [List.getElem?_set_ne (Ne.symm hj)] at e2
        obtain ⟨u', r', q⟩ := hl j y v' e1 e2 e3
        refine ⟨u', r', ?_⟩
        rcases q with ⟨k, e⟩ | ⟨k, c, e, z⟩
        . refine .inl ⟨k, ?_⟩
          have : y ≠ x := fun e => hj (aJP hN e1 (e ▸ hi))
          simp [this, e]
        . exact .inr ⟨k, c, e, z.sameBut hs (cne y c e)⟩
    . obtain ⟨w', z⟩ := I.cell y c e
      exact ⟨w', z.sameBut hs (cne y c e)⟩
    . obtain ⟨e, n, ne, nf, d⟩ := I.pin p hp
      exact ⟨(hs.2 p.1 ne).trans e, n, ne, nf, d⟩
  . have hfn : X.fn x = true := by
      rcases hf with z | z
      . exact z
      . rw [z] at hk; cases hk
    obtain ⟨c, hc⟩ := I.ok.has x (.inl hk)
    obtain ⟨w', z⟩ := I.cell x c hc
    refine wpAny_storeName_cell I.ok.kind hk hc z (fun h' hc' hs => ?_)
    obtain ⟨oc, hoc, hocd⟩ := id z
    refine h { s with heap := h' } ⟨I.ok, I.os, I.bare, ⟨fun b o e n hb hx => ?_, fun b o e n hb hx => ?_, I.base.free, fun b o e hx => ?_, I.base.tups, I.base.frzs, I.base.tbls⟩, ⟨m, hn.sameBut hs (Ne.symm (cne x c hc)), fun j y v' e1 e2 e3 => ?_⟩, fun y c' e => ?_, I.free, I.freeC, fun p hp => ?_, tracked ⟨oc, hoc, I.freeC x c hc⟩ hs, by simpa using I.len⟩ ⟨c, hs, .inr hc⟩
    . exact (hs.2 b (Nat.ne_of_lt (Nat.lt_of_lt_of_le (Heap.lt_size e) (I.ok.cab x c hfn hc)))).trans (I.base.keep b o e n hb hx)
    . obtain ⟨sl, e1⟩ := I.base.slot b o e n hb hx
      exact ⟨sl, (hs.2 b (Nat.ne_of_lt (Nat.lt_of_lt_of_le (Heap.lt_size e) (I.ok.cab x c hfn hc)))).trans e1⟩
    . obtain ⟨o', e1⟩ := I.base.there b o e hx
      exact ⟨o', (hs.2 b (Nat.ne_of_lt (Nat.lt_of_lt_of_le (Heap.lt_size e) (I.ok.cab x c hfn hc)))).trans e1⟩
    . by_cases hj : j = i
      . subst hj
        rw [hi] at e1; cases e1
        rw [List.getElem?_set_self hiσ] at e2
        cases e2
        exact ⟨u, r, .inr ⟨.inl hk, c, hc, hc'⟩⟩
      . rw [List.getElem?_set_ne (Ne.symm hj)] at e2
        obtain ⟨u', r', q⟩ := hl j y v' e1 e2 e3
        refine ⟨u', r', ?_⟩
        rcases q with q | ⟨k, c', e, z'⟩
        . exact .inl q
        . refine .inr ⟨k, c', e, z'.sameBut hs ?_⟩
          rintro rfl
          exact hj (aJP hN e1 (I.ok.inj _ _ _ e hc ▸ hi))
    . by_cases hcc : c' = c
      . subst hcc; exact ⟨_, hc'⟩
      . obtain ⟨w2, z2⟩ := I.cell y c' e
        exact ⟨w2, z2.sameBut hs hcc⟩
    . obtain ⟨e, n, ne, nf, d⟩ := I.pin p hp
      refine ⟨(hs.2 p.1 ?_).trans e, n, ne, nf, d⟩
      intro q
      rw [q, hoc] at e
      have q' : oc = p.2 := Option.some.inj e
      exact d w' (by rw [<- q']; exact hocd)
theorem aBO {M : Model} {A : Around} {E : Value -> Shared -> Prop} {i : Nat} {x : Str} {v : V} {u : Value} {Q : Unit -> Shared -> Prop} (I : Inv X pins σ H s) (hN : X.N.Nodup) (hi : X.N[i]? = some x) (hx : Loc X.env.scope x) (r : RelV v u)
    (h : ∀ s', Inv X pins (σ.set i (some v)) H s' -> Q () s') (hf : X.fn x = true \/ X.env.scope.names.lookup x = some .local := by first | exact .inl rfl | exact .inr rfl | assumption) : wpAny M A (storeName X.env x u) Q E s :=
  aKY I hN hi hx r (fun s' I' _ => h s' I') hf
theorem Inv.call' {s' : Shared} {ch : List Addr} (I : Inv X pins σ H s) (ho : s'.os = s.os) (u : Un (frs X.stack) ch H H' s.heap s'.heap) (hok : HOk X.prog X.w H' s'.heap) (hg : AllBare s'.gens)
    (hch : ∀ b ∈ ch, (b ∈ X.ex \/ X.s₀.heap.objs.size <= b) /\ b ≠ X.env.locals /\ (∀ x c, X.env.cells.lookup x = some c -> c ≠ b) /\ ∀ p ∈ X.pn ++ pins, p.1 ≠ b) : Inv X pins σ H' s' := by
  obtain ⟨h', g', d', t', o'⟩ := s'
  have e : o' = s.os := ho
  subst e
  exact I.call (g' := g') (t' := t') (d' := d') u hok hg hch
end
abbrev XK := Value -> Option Addr -> Hp -> Prop
abbrev St := List (Option V)
abbrev VK := V -> Hp -> Prop
abbrev TE := St -> Hp -> VK -> Prop
abbrev TT := St -> Hp -> (Bool -> Hp -> Prop) -> Prop
abbrev TA := St -> Hp -> (List V -> Hp -> Prop) -> Prop
structure Ends where
  nx : St -> Hp -> Prop
  rt : VK
  bk : St -> Hp -> Prop := fun _ _ => False
  ct : St -> Hp -> Prop := fun _ _ => False
abbrev TS := Ends -> St -> Hp -> Prop
def EP (X : Cx) (pins : List (Addr × Obj)) (σ : St) (Q : VK) (u : Value) (s' : Shared) : Prop := ∃ v H', Inv X pins σ H' s' /\ RelV v u /\ Q v H'
def TP (X : Cx) (pins : List (Addr × Obj)) (σ : St) (Q : Bool -> Hp -> Prop) (b : Bool) (s' : Shared) : Prop := ∃ H', Inv X pins σ H' s' /\ Q b H'
def AP (X : Cx) (pins : List (Addr × Obj)) (σ : St) (Q : List V -> Hp -> Prop) (us : List Value) (s' : Shared) : Prop := ∃ vs H', Inv X pins σ H' s' /\ Vals vs us /\ Q vs H'
def SP (X : Cx) (pins : List (Addr × Obj)) (D : Ends) (f : Flow) (s' : Shared) : Prop :=
  match f with
  | .next => ∃ σ' H', Inv X pins σ' H' s' /\ D.nx σ' H'
  | .brk => ∃ σ' H', Inv X pins σ' H' s' /\ D.bk σ' H'
  | .cont => ∃ σ' H', Inv X pins σ' H' s' /\ D.ct σ' H'
  | .ret u => ∃ v σ' H', Inv X pins σ' H' s' /\ RelV v u /\ D.rt v H'
def PE (X : Cx) (e : Expr) (t : TE) : Prop :=
  ∀ (pins : List (Addr × Obj)) (s : Shared) (σ : St) (H : Hp) (Q : VK), Inv X pins σ H s -> t σ H Q -> wpAny (model X.prog X.w) X.A (eval e X.env) (EP X pins σ Q) X.xe s
def PT (X : Cx) (e : Expr) (t : TT) : Prop :=
  ∀ (pins : List (Addr × Obj)) (s : Shared) (σ : St) (H : Hp) (Q : Bool -> Hp -> Prop), Inv X pins σ H s -> t σ H Q -> wpAny (model X.prog X.w) X.A (isTrue e X.env (eval e X.env)) (TP X pins σ Q) X.xe s
def PW (X : Cx) (e : Expr) (t : TT) : Prop :=
  ∀ (whole : Sem Value) (pins : List (Addr × Obj)) (s : Shared) (σ : St) (H : Hp) (Q : Bool -> Hp -> Prop), Inv X pins σ H s -> t σ H Q -> wpAny (model X.prog X.w) X.A (isTrue e X.env whole) (TP X pins σ Q) X.xe s
def PA (X : Cx) (es : List Expr) (t : TA) : Prop :=
  ∀ (pos : Pos) (pins : List (Addr × Obj)) (s : Shared) (σ : St) (H : Hp) (Q : List V -> Hp -> Prop), Inv X pins σ H s -> t σ H Q -> wpAny (model X.prog X.w) X.A (spliced (backTo pos (starEach es X.env))) (AP X pins σ Q) X.xe s
def PS (X : Cx) (st : Stmt) (t : TS) : Prop :=
  ∀ (pins : List (Addr × Obj)) (s : Shared) (σ : St) (H : Hp) (D : Ends), Inv X pins σ H s -> t D σ H -> wpAny (model X.prog X.w) X.A (exec st X.env) (SP X pins D) X.xe s
def PSs (X : Cx) (st : List Stmt) (t : TS) : Prop :=
  ∀ (pins : List (Addr × Obj)) (s : Shared) (σ : St) (H : Hp) (D : Ends), Inv X pins σ H s -> t D σ H -> wpAny (model X.prog X.w) X.A (execs st X.env) (SP X pins D) X.xe s
theorem thn {α : Type} {t : Sem α} {Q Q' : α -> Shared -> Prop} {M : Model} {A : Around} {E : Value -> Shared -> Prop} {s : Shared} (h : wpAny M A t Q E s) (hQ : ∀ a s, Q a s -> Q' a s) : wpAny M A t Q' E s := wpAny_mono h hQ fun _ _ x => x
end L2
namespace L2
open PySem PySem.Spec PyProof.Rows
section
variable {X : Cx}
theorem bin {a b : Expr} {ta tb : TE} (ha : PE X a ta) (hb : PE X b tb) {pins : List (Addr × Obj)} {s : Shared} {σ : St} {H : Hp} {R : V -> V -> Hp -> Prop} (I : Inv X pins σ H s) (h : ta σ H fun x H1 => tb σ H1 fun y H2 => R x y H2)
    {α : Type} {Q : α -> Shared -> Prop} {f : Value -> Value -> Sem α}
    (hf : ∀ v u s2 x y H2, Inv X pins σ H2 s2 -> RelV x v -> RelV y u -> R x y H2 -> wpAny (model X.prog X.w) X.A (f v u) Q X.xe s2) :
    wpAny (model X.prog X.w) X.A (eval a X.env) (fun v s₁ => wpAny (model X.prog X.w) X.A (eval b X.env) (fun u s₂ => wpAny (model X.prog X.w) X.A (f v u) Q X.xe s₂) X.xe s₁) X.xe s := by
  refine thn (ha pins s σ H _ I h) fun v s1 ⟨x, H1, I1, r1, q1⟩ => ?_
  refine thn (hb pins s1 σ H1 _ I1 q1) fun u s2 ⟨y, H2, I2, r2, q2⟩ => ?_
  exact hf v u s2 x y H2 I2 r1 r2 q2
def tVar (i : Nat) : TE := fun σ H Q => ∃ v, σ[i]? = some (some v) /\ Q v H
def tC (v : V) : TE := fun _ H Q => Q v H
theorem aYB {i : Nat} {x : Str} {pos : Pos} (hN : X.N[i]? = some x) (hv : Vis X.env.scope x) (hd : (x == ("__debug__" : Str)) = false := by decide) (hcd : (x == ("__classdict__" : Str)) = false := by decide) : PE X (.Name x pos) (tVar i) := by
  intro pins s σ H Q I h
  obtain ⟨v, e, h⟩ := h
  obtain ⟨m, hn, hl⟩ := I.loc
  obtain ⟨u, r, l⟩ := hl i x v hN e hv
  have fin : EP X pins σ Q u s := ⟨v, H, I, r, h⟩
  rcases l with ⟨hk, hm⟩ | ⟨hk, c, hc, hcell⟩
  . exact wpAny_Name (wpAny_loadName_local I.ok.kind hk hn hm fin) hd
  . rcases hk with hk | hk
    . exact wpAny_Name (wpAny_loadName_cell I.ok.kind hk hc hcell fin) hd
    . exact wpAny_Name (wpAny_loadName_free I.ok.kind hk hc hcell fin hcd) hd
theorem eCI {i j pos} : PE X (.Constant (.int i) j pos) (tC (.int i)) := fun _ _ _ H _ I h => wpAny_Constant_int ⟨.int i, H, I.tok _, ⟨_, rfl⟩, h⟩
theorem eCF {j pos} : PE X (.Constant .none j pos) (tC .non) := fun _ _ _ H _ I h => Constant_none ⟨.non, H, I, rfl, h⟩
theorem eCC {x j pos} : PE X (.Constant (.str x) j pos) (tC (.str x)) := fun _ _ _ H _ I h => Calls.Constant_str ⟨.str x, H, I.tok _, ⟨_, rfl⟩, h⟩
def Gl (X : Cx) (x : Str) : Prop := X.env.kindOf x = some .globalImplicit
theorem aCG {E : Value -> Shared -> Prop} {pins : List (Addr × Obj)} {s : Shared} {σ : St} {H : Hp} {x : Str} {u : Value} {pos : Pos} {Q : Value -> Shared -> Prop} (I : Inv X pins σ H s) (hg : Gl X x) (hm : X.mg x = some u) (h : Q u s)
    (hd : (x == ("__debug__" : Str)) = false := by decide) : wpAny (model X.prog X.w) X.A (eval (.Name x pos) X.env) Q E s :=
  Calls.Name_function_global I.ok.kind hg (Calls.loadGlobal_global (by rw [I.ok.glob]; exact I.mod.glob.keeps I.bk) hm h) hd
theorem aIB {E : Value -> Shared -> Prop} {pins : List (Addr × Obj)} {s : Shared} {σ : St} {H : Hp} {x : Str} {u : Value} {pos : Pos} {Q : Value -> Shared -> Prop} (I : Inv X pins σ H s) (hg : Gl X x) (hm : X.mg x = none) (hv : bootBuiltins x = some u) (h : Q u s)
    (hn : x ≠ "__name__" := by decide) (hd : (x == ("__debug__" : Str)) = false := by decide) : wpAny (model X.prog X.w) X.A (eval (.Name x pos) X.env) Q E s := by
  obtain ⟨mb, h1, h2⟩ := I.mod.blt
  exact Calls.Name_function_global I.ok.kind hg (Calls.loadGlobal_builtin (by rw [I.ok.glob]; exact I.mod.glob.keeps I.bk) hm (by rw [I.ok.blt]; exact h1.keeps I.bk) ((h2 x hn).trans hv) h) hd
theorem aTJ {x : Str} {v : V} {u : Value} {pos : Pos} (hg : Gl X x) (hm : X.mg x = some u) (r : RelV v u) (hd : (x == ("__debug__" : Str)) = false := by decide) : PE X (.Name x pos) (tC v) :=
  fun _ _ _ H _ I h => aCG I hg hm ⟨v, H, I, r, h⟩ hd
theorem aTL {x : Str} {v : V} {u : Value} {pos : Pos} (hg : Gl X x) (hm : X.mg x = none) (hv : bootBuiltins x = some u) (r : RelV v u) (hn : x ≠ "__name__" := by decide) (hd : (x == ("__debug__" : Str)) = false := by decide) : PE X (.Name x pos) (tC v) :=
  fun _ _ _ H _ I h => aIB I hg hm hv ⟨v, H, I, r, h⟩ hn hd
variable {a b : Expr} {ta tb : TE} {pos : Pos}
def PC (X : Cx) (op : CmpOp) (a b : Expr) (t : TE) : Prop :=
  ∀ (pins : List (Addr × Obj)) (s : Shared) (σ : St) (H : Hp) (Q : VK), Inv X pins σ H s -> t σ H Q ->
    wpAny (model X.prog X.w) X.A (eval a X.env) (fun v s₁ => wpAny (model X.prog X.w) X.A (eval b X.env) (fun u s₂ => wpAny (model X.prog X.w) X.A (compareOp op v u) (EP X pins σ Q) X.xe s₂) X.xe s₁) X.xe s
theorem nobehind (b : Expr) {op : CmpOp} (h : op ≠ .In) (h2 : op ≠ .NotIn) : behindInMarks op b = false := by
  have e1 : (op == CmpOp.In) = false := by cases op <;> first | rfl | exact absurd rfl h
  have e2 : (op == CmpOp.NotIn) = false := by cases op <;> first | rfl | exact absurd rfl h2
  cases b <;> simp [behindInMarks, e1, e2]
def tB (t : TE) : TT := fun σ H Q => t σ H fun x H1 => ∃ c, x = .bl c /\ Q c H1
theorem eEE {op : CmpOp} {t : TE} (h : PC X op a b t) (h1 : behindInMarks op b = false := by first | exact nobehind _ (by decide) (by decide) | rfl) : PT X (.Compare a [op] [b] pos) (tB t) := by
  intro pins s σ H Q I hw
  refine wpAny_isTrue_Compare1 (thn (h pins s σ H _ I hw) fun v s1 h1 => thn h1 fun u s2 h2 => thn h2 fun c s3 ⟨x, H1, I1, r1, q1⟩ => ?_) h1
  obtain ⟨d, rfl, q⟩ := q1
  cases r1
  exact wpAny_truthy_bool ⟨H1, I1, q⟩
theorem eBS {e : Expr} {t : TE} (h : PE X e t) (he : ∀ whole, isTrue e X.env whole = (do let v <- whole; standAt e.pos; holding [v] (truthy v)) := by intro _; rfl) : PT X e (tB t) := by
  intro pins s σ H Q I hw
  refine isTrue_plain (thn (h pins s σ H _ I hw) fun v s1 ⟨x, H1, I1, r1, q1⟩ => ?_) (he _)
  obtain ⟨d, rfl, q⟩ := q1
  cases r1
  exact wpAny_truthy_bool ⟨H1, I1, q⟩
variable {tA tB' : TT} {rest : List Expr}
def tAnd (t u : TT) : TT := fun σ H Q => t σ H fun c H1 => if c = true then u σ H1 Q else Q false H1
def tOr (t u : TT) : TT := fun σ H Q => t σ H fun c H1 => if c = true then Q true H1 else u σ H1 Q
def tNot (t : TT) : TT := fun σ H Q => t σ H fun c H1 => Q (!c) H1
theorem aZE (ha : PT X a tA) : PW X (.BoolOp .And [a] pos) tA := by
  intro wh pins s σ H Q I h
  refine isTrue_and (thn (ha pins s σ H Q I h) fun c s1 e => ?_)
  cases c with
  | true => exact isTrue_and_nil e
  | false => exact e
theorem eBQ (ha : PT X a tA) : PW X (.BoolOp .Or [a] pos) tA := by
  intro wh pins s σ H Q I h
  refine isTrue_or (thn (ha pins s σ H Q I h) fun c s1 e => ?_)
  cases c with
  | false => exact isTrue_or_nil e
  | true => exact e
theorem aXV (ha : PT X a tA) (hb : PW X (.BoolOp .And (b :: rest) pos) tB') : PW X (.BoolOp .And (a :: b :: rest) pos) (tAnd tA tB') := by
  intro wh pins s σ H Q I h
  refine isTrue_and (thn (ha pins s σ H _ I h) fun c s1 ⟨H1, I1, q1⟩ => ?_)
  cases c with
  | true => exact hb wh pins s1 σ H1 Q I1 q1
  | false => exact ⟨H1, I1, q1⟩
theorem eBR (ha : PT X a tA) (hb : PW X (.BoolOp .Or (b :: rest) pos) tB') : PW X (.BoolOp .Or (a :: b :: rest) pos) (tOr tA tB') := by
  intro wh pins s σ H Q I h
  refine isTrue_or (thn (ha pins s σ H _ I h) fun c s1 ⟨H1, I1, q1⟩ => ?_)
  cases c with
  | true => exact ⟨H1, I1, q1⟩
  | false => exact hb wh pins s1 σ H1 Q I1 q1
theorem eBT (ha : PT X a tA) : PT X (.UnaryOp .Not a pos) (tNot tA) := by
  intro pins s σ H Q I h
  exact isTrue_not (ha pins s σ H (fun c H1 => Q (!c) H1) I h)
def tAndV (ta tb : TE) : TE := fun σ H Q => ta σ H fun x H1 => ∃ c, x = .bl c /\ if c = true then tb σ H1 Q else Q (.bl false) H1
def tNotV (ta : TE) : TE := fun σ H Q => ta σ H fun x H1 => ∃ c, x = .bl c /\ Q (.bl (!c)) H1
theorem eCD {op} {t : TE} (h : PE X a t) : PE X (.BoolOp op [a] pos) t := fun pins s σ H Q I hw => BoolOp_one (h pins s σ H Q I hw)
theorem aYC (ha : PE X a ta) (hb : PE X (.BoolOp .And (b :: rest) pos) tb) : PE X (.BoolOp .And (a :: b :: rest) pos) (tAndV ta tb) := by
  intro pins s σ H Q I h
  refine BoolOp_and (thn (ha pins s σ H _ I h) fun v s1 ⟨x, H1, I1, r1, q1⟩ => ?_)
  obtain ⟨c, rfl, q1⟩ := q1
  cases r1
  refine wpAny_truthy_bool ?_
  cases c with
  | true => exact hb pins s1 σ H1 Q I1 q1
  | false => exact ⟨.bl false, H1, I1, rfl, q1⟩
theorem eCE (ha : PE X a ta) : PE X (.UnaryOp .Not a pos) (tNotV ta) := by
  intro pins s σ H Q I h
  refine UnaryOp_ (thn (ha pins s σ H _ I h) fun v s1 ⟨x, H1, I1, r1, q1⟩ => ?_)
  obtain ⟨c, rfl, q1⟩ := q1
  cases r1
  exact not_of (wpAny_truthy_bool ⟨.bl (!c), H1, I1, rfl, q1⟩)
def tIf (t : TT) (ta tb : TE) : TE := fun σ H Q => t σ H fun c H1 => if c = true then ta σ H1 Q else tb σ H1 Q
theorem aPU {c : Expr} (hc : PT X c tA) (ha : PE X a ta) (hb : PE X b tb) : PE X (.IfExp c a b pos) (tIf tA ta tb) := by
  intro pins s σ H Q I h
  refine wpAny_IfExp (thn (hc pins s σ H _ I h) fun d s1 ⟨H1, I1, q1⟩ => ?_)
  cases d with
  | true => exact ha pins s1 σ H1 Q I1 q1
  | false => exact hb pins s1 σ H1 Q I1 q1
end
end L2
namespace L2
open PySem PySem.Spec PyProof.Rows
def SqL (K : PySem.W.Frag) (H : Hp) (a : Addr) (xs : List V) : Prop :=
  Rd H a (.lst xs) \/
    ∃ (o : Obj) (its : Array Value) (n : Nat), K.lookup a = some o /\ o.cls = .type "list" /\ o.dict = none /\ o.data = .seq its n /\ its.size <= sizeLine /\ Vals xs its.toList
def SqT (K : PySem.W.Frag) (H : Hp) (a : Addr) (xs : List V) : Prop :=
  Rd H a (.tup xs) \/
    ∃ (o : Obj) (its : Array Value) (n : Nat), K.lookup a = some o /\ o.cls = .type "tuple" /\ o.data = .seq its n /\ its.size <= sizeLine /\ Vals xs its.toList
def absV : Value -> Option V
  | .none => some .non
  | .bool b => some (.bl b)
  | .int i _ => some (.int i)
  | .str x _ => some (.str x)
  | .bytes b _ => some (.byt b)
  | .float b _ => some (.flt b)
  | .ref a => some (.ref a)
  | .type n => some (.ty n)
  | _ => none
theorem RelV.abs {x : V} {u : Value} (r : RelV x u) : absV u = some x := by
  cases x with
  | non => cases r; rfl
  | bl _ => cases r; rfl
  | int _ => obtain ⟨t, rfl⟩ := r; rfl
  | str _ => obtain ⟨t, rfl⟩ := r; rfl
  | byt _ => obtain ⟨t, rfl⟩ := r; rfl
  | flt _ => obtain ⟨t, rfl⟩ := r; rfl
  | ref _ => cases r; rfl
  | ty _ => cases r; rfl
theorem RelV.inj {x y : V} {u : Value} (r : RelV x u) (q : RelV y u) : x = y := Option.some.inj (r.abs.symm.trans q.abs)
theorem Vals.inj : ∀ {xs ys : List V} {us : List Value}, Vals xs us -> Vals ys us -> xs = ys
  | _, _, _, .nil, .nil => rfl
  | _, _, _, .cons r t, .cons r' t' => by rw [r.inj r', Vals.inj t t']
section
variable {X : Cx} {pins : List (Addr × Obj)} {σ : St} {H : Hp} {s : Shared} {a : Addr} {xs ys : List V}
theorem SqL.of {K : PySem.W.Frag} (h : H a = some (.lst xs)) : SqL K H a xs := .inl (.inl h)
theorem SqT.of {K : PySem.W.Frag} (h : H a = some (.tup xs)) : SqT K H a xs := .inl (.inl h)
theorem Inv.list (I : Inv X pins σ H s) (h : SqL X.K H a xs) : ∃ its : List Value, Vals xs its /\ PlainL s.heap a its.toArray /\ xs.length <= sizeLine := by
  rcases h with h | ⟨o, its, n, hk, hc, hd, hs, hz, r⟩
  . obtain ⟨z, its, n, r, e⟩ := h.ok I.hok
    exact ⟨its, r, ⟨_, n, e, rfl, rfl, rfl⟩, z⟩
  . refine ⟨its.toList, r, ⟨o, n, I.kIn a o hk, hc, hd, by simpa using hs⟩, ?_⟩
    have e := r.length
    simp only [Array.length_toList] at e
    omega
theorem Inv.tuple (I : Inv X pins σ H s) (h : SqT X.K H a xs) : ∃ its : List Value, Vals xs its /\ IsTup s.heap a its.toArray /\ xs.length <= sizeLine := by
  rcases h with h | ⟨o, its, n, hk, hc, hs, hz, r⟩
  . obtain ⟨z, its, r, p⟩ := h.ok I.hok
    exact ⟨its, r, p, z⟩
  . refine ⟨its.toList, r, ⟨o, I.kIn a o hk, hc, n, by simpa using hs⟩, ?_⟩
    have e := r.length
    simp only [Array.length_toList] at e
    omega
theorem Inv.list_inj (I : Inv X pins σ H s) (h : SqL X.K H a xs) (h' : SqL X.K H a ys) : xs = ys := by
  obtain ⟨its, r, ⟨o, n, e, _, _, d⟩, _⟩ := I.list h
  obtain ⟨its', r', ⟨o', n', e', _, _, d'⟩, _⟩ := I.list h'
  rw [e] at e'; cases e'
  rw [d] at d'
  injection d' with d1 _
  have : its = its' := by simpa using congrArg Array.toList d1
  subst this
  exact r.inj r'
theorem Inv.tuple_inj (I : Inv X pins σ H s) (h : SqT X.K H a xs) (h' : SqT X.K H a ys) : xs = ys := by
  obtain ⟨its, r, ⟨o, e, _, n, d⟩, _⟩ := I.tuple h
  obtain ⟨its', r', ⟨o', e', _, n', d'⟩, _⟩ := I.tuple h'
  rw [e] at e'; cases e'
  rw [d] at d'
  injection d' with d1 _
  have : its = its' := by simpa using congrArg Array.toList d1
  subst this
  exact r.inj r'
end
abbrev Cx.wish (X : Cx) (E : Value -> Shared -> Prop) : Cx := { X with xe := E }
abbrev Cx.nox (X : Cx) : Cx := X.wish fun _ _ => False
theorem Cx.Ok.wish {X : Cx} (ok : X.Ok) (E : Value -> Shared -> Prop) : (X.wish E).Ok :=
  ⟨ok.mod, ok.kind, ok.glob, ok.blt, ok.above, ok.inj, ok.has, ok.cab, ok.hd, ok.frames, ok.stk, ok.exf, ok.bs, ok.bsz, ok.noex, ok.exfs, ok.funs, ok.frf⟩
theorem Cx.Ok.unwish {X : Cx} {E : Value -> Shared -> Prop} (ok : (X.wish E).Ok) : X.Ok :=
  ⟨ok.mod, ok.kind, ok.glob, ok.blt, ok.above, ok.inj, ok.has, ok.cab, ok.hd, ok.frames, ok.stk, ok.exf, ok.bs, ok.bsz, ok.noex, ok.exfs, ok.funs, ok.frf⟩
section
variable {X : Cx} {pins : List (Addr × Obj)} {σ : St} {H : Hp} {s : Shared} {E : Value -> Shared -> Prop}
theorem Inv.wish (I : Inv X pins σ H s) (E : Value -> Shared -> Prop) : Inv (X.wish E) pins σ H s := ⟨I.ok.wish E, I.os, I.bare, I.base, I.loc, I.cell, I.free, I.freeC, I.pin, I.hok, I.len⟩
theorem Inv.unwish (I : Inv (X.wish E) pins σ H s) : Inv X pins σ H s := ⟨I.ok.unwish, I.os, I.bare, I.base, I.loc, I.cell, I.free, I.freeC, I.pin, I.hok, I.len⟩
theorem SP.unwish {D : Ends} {f : Flow} {s' : Shared} (h : SP (X.wish E) pins D f s') : SP X pins D f s' := by
  cases f with
  | next => obtain ⟨σ', H', I, q⟩ := h; exact ⟨σ', H', I.unwish, q⟩
  | brk => obtain ⟨σ', H', I, q⟩ := h; exact ⟨σ', H', I.unwish, q⟩
  | cont => obtain ⟨σ', H', I, q⟩ := h; exact ⟨σ', H', I.unwish, q⟩
  | ret u => obtain ⟨v, σ', H', I, r, q⟩ := h; exact ⟨v, σ', H', I.unwish, r, q⟩
theorem PSs.nox {st : List Stmt} {t : TS} (h : PSs X.nox st t) : PSs X st t := fun pins s σ H D I hw =>
  wpAny_mono (h pins s σ H D (I.wish _) hw) (fun _ _ q => q.unwish) fun _ _ z => False.elim z
end
section
variable {X : Cx} {st : Stmt} {rest : List Stmt} {t u : TS} {e : Expr} {te : TE} {pos : Pos}
def tNext : TS := fun D σ H => D.nx σ H
def tSeq (t u : TS) : TS := fun D σ H => t { D with nx := u D } σ H
theorem aZG : PSs X [] tNext := fun _ _ σ H _ I h => wpAny_execs_nil ⟨σ, H, I, h⟩
theorem aPS (h1 : PS X st t) (h2 : PSs X rest u) : PSs X (st :: rest) (tSeq t u) := by
  intro pins s σ H D I h
  refine wpAny_execs_cons (thn (h1 pins s σ H { D with nx := u D } I h) fun f s1 q => ?_)
  cases f with
  | next =>
    obtain ⟨σ', H', I', q⟩ := q
    exact h2 pins s1 σ' H' D I' q
  | ret v => exact q
  | brk => exact q
  | cont => exact q
theorem aZF (h1 : PS X st t) : PSs X [st] t := by
  intro pins s σ H D I h
  refine wpAny_execs_cons (thn (h1 pins s σ H D I h) fun f s1 q => ?_)
  cases f with
  | next => exact wpAny_execs_nil q
  | ret v => exact q
  | brk => exact q
  | cont => exact q
theorem Inv.quiet {pins : List (Addr × Obj)} {σ : St} {H : Hp} {s : Shared} (I : Inv X pins σ H s) : interactive X.env = false := by simp [interactive, I.ok.kind]
def tDrop (te : TE) : TS := fun D σ H => te σ H fun _ H1 => D.nx σ H1
theorem aTB (he : PE X e te) (hs : swapsWith e none pos.line X.env = pure false := by rfl) : PS X (.Expr e pos) (tDrop te) := by
  intro pins s σ H D I h
  exact wpAny_Expr_any (thn (he pins s σ H _ I h) fun v s1 ⟨x, H1, I1, r1, q1⟩ => ⟨σ, H1, I1, q1⟩) I.quiet hs
def tRet (te : TE) : TS := fun D σ H => te σ H D.rt
theorem eBU (he : PE X e te) : PS X (.Return (some e) pos) (tRet te) := by
  intro pins s σ H D I h
  exact wpAny_Return_some (thn (he pins s σ H _ I h) fun v s1 ⟨x, H1, I1, r1, q1⟩ => ⟨x, σ, H1, I1, r1, q1⟩)
def tIfS (c : TT) (t u : TS) : TS := fun D σ H => c σ H fun b H1 => if b = true then t D σ H1 else u D σ H1
theorem eBV {c : Expr} {a b : List Stmt} {tc : TT} (hc : PT X c tc) (ha : PSs X a t) (hb : PSs X b u) : PS X (.If c a b pos) (tIfS tc t u) := by
  intro pins s σ H D I h
  refine wpAny_If (thn (hc pins s σ H _ I h) fun d s1 ⟨H1, I1, q1⟩ => ?_)
  cases d with
  | true => exact ha pins s1 σ H1 D I1 q1
  | false => exact hb pins s1 σ H1 D I1 q1
end
abbrev TG := V -> St -> Hp -> (St -> Hp -> Prop) -> Prop
abbrev TGs := List V -> St -> Hp -> (St -> Hp -> Prop) -> Prop
def PG (X : Cx) (target : Expr) (t : TG) : Prop :=
  ∀ (pins : List (Addr × Obj)) (s : Shared) (σ : St) (H : Hp) (v : V) (u : Value) (Q : St -> Hp -> Prop), Inv X pins σ H s -> RelV v u -> t v σ H Q ->
    wpAny (model X.prog X.w) X.A (assign target X.env u) (fun _ s' => ∃ σ' H', Inv X pins σ' H' s' /\ Q σ' H') X.xe s
def PGs (X : Cx) (ts : List Expr) (t : TGs) : Prop :=
  ∀ (pins : List (Addr × Obj)) (s : Shared) (σ : St) (H : Hp) (vs : List V) (us : List Value) (Q : St -> Hp -> Prop), Inv X pins σ H s -> Vals vs us -> t vs σ H Q ->
    wpAny (model X.prog X.w) X.A (assignInOrder ((assignEach ts X.env).map (·.2)) us) (fun _ s' => ∃ σ' H', Inv X pins σ' H' s' /\ Q σ' H') X.xe s
abbrev TSet := V -> V -> V -> Hp -> (Hp -> Prop) -> Prop
def PSet (X : Cx) (t : TSet) : Prop :=
  ∀ (pins : List (Addr × Obj)) (s : Shared) (σ : St) (H : Hp) (o i v : V) (ov iv u : Value) (Q : Hp -> Prop), Inv X pins σ H s -> RelV o ov -> RelV i iv -> RelV v u -> t o i v H Q ->
    wpAny (model X.prog X.w) X.A (setItem ov iv u) (fun _ s' => ∃ H', Inv X pins σ H' s' /\ Q H') X.xe s
abbrev TIp := V -> V -> Hp -> VK -> Prop
def PIp (X : Cx) (op : Operator) (t : TIp) : Prop :=
  ∀ (pins : List (Addr × Obj)) (s : Shared) (σ : St) (H : Hp) (x y : V) (v u : Value) (Q : VK), Inv X pins σ H s -> RelV x v -> RelV y u -> t x y H Q ->
    wpAny (model X.prog X.w) X.A (inplaceOp op v u) (EP X pins σ Q) X.xe s
section
variable {X : Cx} {pos : Pos}
def gName (i : Nat) : TG := fun v σ H Q => Q (σ.set i (some v)) H
theorem aFZ {i : Nat} {x : Str} (hN : X.N.Nodup) (hi : X.N[i]? = some x) (hx : Loc X.env.scope x) (hf : X.fn x = true \/ X.env.scope.names.lookup x = some .local := by first | exact .inl rfl | exact .inr rfl | assumption) : PG X (.Name x pos) (gName i) := by
  intro pins s σ H v u Q I r h
  exact wpAny_assign_Name (aBO I hN hi hx r (fun s' I' => ⟨_, H, I', h⟩) hf)
def gNil : TGs := fun vs σ H Q => vs = [] /\ Q σ H
def gCons (t : TG) (u : TGs) : TGs := fun vs σ H Q => ∃ v r, vs = v :: r /\ t v σ H fun σ' H' => u r σ' H' Q
theorem aTH : PGs X [] gNil := by
  intro pins s σ H vs us Q I r h
  obtain ⟨e, h⟩ := h
  subst e
  cases r
  exact assignInOrder_nil ⟨σ, H, I, h⟩
theorem aJK {e : Expr} {es : List Expr} {t : TG} {u : TGs} (h1 : PG X e t) (h2 : PGs X es u)
    (hs : (assignEach (e :: es) X.env).map (·.2) = assign e X.env :: (assignEach es X.env).map (·.2) := by rfl) : PGs X (e :: es) (gCons t u) := by
  intro pins s σ H vs us Q I r h
  obtain ⟨v, vr, e1, h⟩ := h
  subst e1
  cases r with
  | cons r rr =>
    rw [hs]
    refine assignInOrder_cons (thn (h1 pins s σ H _ _ _ I r h) fun _ s1 ⟨σ1, H1, I1, q1⟩ => ?_)
    exact h2 pins s1 σ1 H1 _ _ Q I1 rr q1
def gTup (K : PySem.W.Frag) (n : Nat) (t : TGs) : TG := fun v σ H Q => ∃ a xs, v = .ref a /\ SqT K H a xs /\ xs.length = n /\ t xs σ H Q
theorem aYA {es : List Expr} {k : Nat} {t : TGs} {n : Nat} (hc : X.calm = true) (h : PGs X es t)
    (hn : (assignEach es X.env).length = n := by rfl) (hst : (assignEach es X.env).findIdx? (·.1) = none := by rfl) : PG X (.Tuple es k pos) (gTup X.K n t) := by
  intro pins s σ H v u Q I r hw
  obtain ⟨a, xs, e1, hq, hl, hw⟩ := hw
  subst e1
  cases r
  obtain ⟨its, rv, ht, hz⟩ := I.tuple hq
  refine assign_Tuple_tuple (I.ok.hd hc) ht (by simp [hn, <- hl, rv.length]) hst fun h' hx => ?_
  have I1 : Inv X pins σ H { s with heap := h' } := I.kept (t' := s.toks) fun b o e => hx b o (Nat.ne_of_lt (Heap.lt_size e)) e
  exact h pins _ σ H xs _ Q I1 (by simpa using rv) hw
def gSub (to ti : TE) (t : TSet) : TG := fun v σ H Q => to σ H fun o H1 => ti σ H1 fun i H2 => t o i v H2 fun H3 => Q σ H3
theorem eCA {o i : Expr} {to ti : TE} {t : TSet} (ho : PE X o to) (hi : PE X i ti) (hs : PSet X t)
    (ha : ∀ v, assign (.Subscript o i pos) X.env v = (do
      let ov <- holding [v] (eval o X.env)
      let iv <- holding [v, ov] (eval i X.env)
      standAt pos
      holding [v, ov, iv] (setItem ov iv v)
      release [v, ov, iv] []) := by intro _; rfl) : PG X (.Subscript o i pos) (gSub to ti t) := by
  intro pins s σ H v u Q I r h
  rw [ha]
  refine wpAny_bind (wpAny_holding (thn (ho pins s σ H _ I h) fun ov s1 ⟨x, H1, I1, r1, q1⟩ => ?_))
  refine wpAny_bind (wpAny_holding (thn (hi pins s1 σ H1 _ I1 q1) fun iv s2 ⟨y, H2, I2, r2, q2⟩ => ?_))
  refine wpAny_bind (wpAny_standAt (wpAny_bind (wpAny_holding (thn (hs pins s2 σ H2 x y v ov iv u _ I2 r1 r2 r q2) fun _ s3 ⟨H3, I3, q3⟩ => ?_))))
  exact wpAny_release ⟨σ, H3, I3, q3⟩
def tAsg (te : TE) (g : TG) : TS := fun D σ H => te σ H fun x H1 => g x σ H1 D.nx
theorem aXW {tg e : Expr} {te : TE} {g : TG} (he : PE X e te) (hg : PG X tg g) (hs : swapsWithSole [tg] e pos.line X.env = pure false := by rfl) (hw : swappedStores [tg] e X.env = pure none := by rfl)
    (h1 : (assignEach [tg] X.env).map (·.2) = [assign tg X.env] := by rfl) : PS X (.Assign [tg] e pos) (tAsg te g) := by
  intro pins s σ H D I h
  refine wpAny_Assign_stores (thn (he pins s σ H _ I h) fun v s1 ⟨x, H1, I1, r1, q1⟩ => ?_) hs hw
  rw [h1]
  exact thn (hg pins s1 σ H1 x v _ I1 r1 q1) fun _ s2 q => q
theorem aLT {i : Nat} {x : Str} {e : Expr} {te : TE} {pos' : Pos} (hN : X.N.Nodup) (hi : X.N[i]? = some x) (hx : Loc X.env.scope x) (he : PE X e te) (hs : swapsWith e (some (.Name x pos')) pos.line X.env = pure false := by rfl) (hf : X.fn x = true \/ X.env.scope.names.lookup x = some .local := by first | exact .inl rfl | exact .inr rfl | assumption) :
    PS X (.Assign [.Name x pos'] e pos) (tAsg te (gName i)) := by
  intro pins s σ H D I h
  refine wpAny_Assign_Name (thn (he pins s σ H _ I h) fun v s1 ⟨y, H1, I1, r1, q1⟩ => ?_) hs
  exact aBO I1 hN hi hx r1 (fun s2 I2 => ⟨_, H1, I2, q1⟩) hf
def tPar (i j : Nat) (ta : TA) : TS := fun D σ H => ta σ H fun vs H1 => ∃ v w, vs = [v, w] /\ D.nx ((σ.set i (some v)).set j (some w)) H1
theorem aSZ {i j : Nat} {x y : Str} {a b : Expr} {ta : TA} {px py pt : Pos} {kt k2 pt2} (hc : X.calm = true) (hN : X.N.Nodup) (hi : X.N[i]? = some x) (hj : X.N[j]? = some y) (hij : i ≠ j)
    (hx : X.env.scope.names.lookup x = some .local) (hy : X.env.scope.names.lookup y = some .local) (ha : PA X [a, b] ta)
    (hw : swappedStores [.Tuple [.Name x px, .Name y py] kt pt] (.Tuple [a, b] k2 pt2) X.env = pure (some [x, y]))
    (hs : swapsWithSole [.Tuple [.Name x px, .Name y py] kt pt] (.Tuple [a, b] k2 pt2) pos.line X.env = pure false := by rfl) :
    PS X (.Assign [.Tuple [.Name x px, .Name y py] kt pt] (.Tuple [a, b] k2 pt2) pos) (tPar i j ta) := by
  intro pins s σ H D I h
  rw [exec_Assign_arm]
  refine wpAny_bind (wpAny_standAt ?_)
  rw [hs]
  refine wpAny_bind (wpAny_pure ?_)
  rw [if_neg (by decide)]
  refine wpAny_bind (Tuple_ (thn (ha _ pins s σ H _ I h) fun us s1 ⟨vs, H1, I1, r1, q1⟩ => ?_))
  obtain ⟨v, w, e1, q1⟩ := q1
  subst e1
  obtain ⟨u1, u2, rfl, rv, rw'⟩ : ∃ u1 u2, us = [u1, u2] /\ RelV v u1 /\ RelV w u2 := by
    cases r1 with
    | cons p q =>
      cases q with
      | cons p' q' =>
        cases q'
        exact ⟨_, _, rfl, p, p'⟩
  refine wpAny_newObj_type ?_ (by show 2 <= sizeLine; decide)
  have I2 : Inv X pins σ H1 { s1 with heap := s1.heap.push { cls := .type "tuple", data := .seq [u1, u2].toArray } } := I1.kept (t' := s1.toks) fun b o e => Heap.get?_push_of_some _ e
  rw [hw]
  refine wpAny_bind (wpAny_pure ?_)
  show wpAny (model X.prog X.w) X.A (do rule "assign.swapped-stores"; let items <- unpackItems (.ref s1.heap.objs.size) 2 none; assignInOrder [fun v => bindName X.env y v, fun v => bindName X.env x v] items.reverse; pure Flow.next) _ _ _
  refine wpAny_bind (wpAny_rule (wpAny_bind (unpackItems_tuple (items := #[u1, u2]) (I.ok.hd hc) (IsTup.new s1.heap _) fun h' hx' => ?_)))
  have I3 := I2.kept (h' := h') (t' := s1.toks) fun b o e => hx' b o (Nat.ne_of_lt (Heap.lt_size e)) e
  show wpAny _ _ (assignInOrder [fun v => bindName X.env y v, fun v => bindName X.env x v] [u2, u1] >>= fun _ => pure Flow.next) _ _ _
  refine wpAny_bind (assignInOrder_cons (wpAny_bindName (aBO I3 hN hj (.inl hy) rw' (fun s2 I4 => ?_) (.inr hy))))
  refine assignInOrder_cons (wpAny_bindName (aBO I4 hN hi (.inl hx) rv (fun s3 I5 => assignInOrder_nil (wpAny_pure ?_)) (.inr hx)))
  rw [List.set_comm _ _ (Ne.symm hij)] at I5
  exact ⟨_, H1, I5, q1⟩
def tAug (i : Nat) (te : TE) (ti : TIp) : TS := fun D σ H => ∃ x, σ[i]? = some (some x) /\ te σ H fun y H1 => ti x y H1 fun z H2 => D.nx (σ.set i (some z)) H2
theorem eBX {i : Nat} {x : Str} {e : Expr} {te : TE} {op : Operator} {ti : TIp} {pos' : Pos} (hN : X.N.Nodup) (hi : X.N[i]? = some x) (hx : Loc X.env.scope x) (he : PE X e te) (ho : PIp X op ti) (hf : X.fn x = true \/ X.env.scope.names.lookup x = some .local := by first | exact .inl rfl | exact .inr rfl | assumption) :
    PS X (.AugAssign (.Name x pos') op e pos) (tAug i te ti) := by
  intro pins s σ H D I h
  obtain ⟨v, e1, h⟩ := h
  obtain ⟨m, hn, hl⟩ := I.loc
  have vis : Vis X.env.scope x := by rcases hx with k | k; exact .inl k; exact .inr (.inl k)
  obtain ⟨u, r, l⟩ := hl i x v hi e1 vis
  refine wpAny_AugAssign_Name ?_
  have go : wpAny (model X.prog X.w) X.A (eval e X.env) (fun w s₂ => wpAny (model X.prog X.w) X.A (inplaceOp op u w) (fun r s₃ => wpAny (model X.prog X.w) X.A (storeName X.env x r) (fun _ => SP X pins D .next) X.xe s₃) X.xe s₂) X.xe s := by
    refine thn (he pins s σ H _ I h) fun w s1 ⟨y, H1, I1, r1, q1⟩ => ?_
    refine thn (ho pins s1 σ H1 v y u w _ I1 r r1 q1) fun z s2 ⟨zv, H2, I2, r2, q2⟩ => ?_
    exact aBO I2 hN hi hx r2 (fun s3 I3 => ⟨_, H2, I3, q2⟩) hf
  rcases l with ⟨hk, hm⟩ | ⟨hk, c, hc, hcell⟩
  . exact wpAny_loadName_local I.ok.kind hk hn hm go
  . rcases hk with hk | hk
    . exact wpAny_loadName_cell I.ok.kind hk hc hcell go
    . rcases hx with k | k
      . have : X.env.scope.names.lookup x = some .free := hk
        rw [k] at this; cases this
      . have : X.env.scope.names.lookup x = some .free := hk
        rw [k] at this; cases this
def tAugS (to ti te : TE) (tget : V -> V -> Hp -> VK -> Prop) (tip : TIp) (tset : TSet) : TS := fun D σ H => to σ H fun o H1 => ti σ H1 fun i H2 => tget o i H2 fun x H3 => te σ H3 fun y H4 => tip x y H4 fun z H5 => tset o i z H5 fun H6 => D.nx σ H6
def PGet (X : Cx) (t : V -> V -> Hp -> VK -> Prop) : Prop :=
  ∀ (pins : List (Addr × Obj)) (s : Shared) (σ : St) (H : Hp) (o i : V) (ov iv : Value) (Q : VK), Inv X pins σ H s -> RelV o ov -> RelV i iv -> t o i H Q ->
    wpAny (model X.prog X.w) X.A (getItem ov iv) (EP X pins σ Q) X.xe s
theorem aZH {o i e : Expr} {to ti te : TE} {tget : V -> V -> Hp -> VK -> Prop} {tip : TIp} {tset : TSet} {op : Operator} {tpos : Pos} (ho : PE X o to) (hi : PE X i ti) (hg : PGet X tget) (he : PE X e te) (hp : PIp X op tip) (hs : PSet X tset)
    (ha : ∀ ov iv new, augStore i ov iv new = (do holding [new, ov, iv] (setItem ov iv new); release [new, ov, iv] []; pure .next) := by intros; rfl) : PS X (.AugAssign (.Subscript o i tpos) op e pos) (tAugS to ti te tget tip tset) := by
  intro pins s σ H D I h
  refine wpAny_AugAssign_SubscriptAny (thn (ho pins s σ H _ I h) fun ov s1 ⟨x1, H1, I1, r1, q1⟩ => ?_) ha
  refine thn (hi pins s1 σ H1 _ I1 q1) fun iv s2 ⟨x2, H2, I2, r2, q2⟩ => ?_
  refine thn (hg pins s2 σ H2 x1 x2 ov iv _ I2 r1 r2 q2) fun old s3 ⟨x3, H3, I3, r3, q3⟩ => ?_
  refine thn (he pins s3 σ H3 _ I3 q3) fun v s4 ⟨x4, H4, I4, r4, q4⟩ => ?_
  refine thn (hp pins s4 σ H4 x3 x4 old v _ I4 r3 r4 q4) fun new s5 ⟨x5, H5, I5, r5, q5⟩ => ?_
  exact thn (hs pins s5 σ H5 x1 x2 x5 ov iv new _ I5 r1 r2 r5 q5) fun _ s6 ⟨H6, I6, q6⟩ => ⟨σ, H6, I6, q6⟩
end
section
variable {X : Cx} {pos : Pos}
def tWhile (c : TT) (tb : TS) : TS := fun D σ H => ∃ W : Nat -> St -> Hp -> Prop, (∃ m, W m σ H) /\ ∀ m σ H, W m σ H ->
  c σ H fun b H1 => if b = true then ∃ N : St -> Hp -> Prop, (∀ σ' H', N σ' H' -> ∃ m', m' < m /\ W m' σ' H') /\ tb { D with nx := N, ct := N, bk := D.nx } σ H1 else D.nx σ H1
theorem aWO {c : Expr} {body : List Stmt} {tc : TT} {tb : TS} (hp : PassesOwn (model X.prog X.w) X.A X.env X.xe) (hc : PT X c tc) (hb : PSs X body tb) : PS X (.While c body [] pos) (tWhile tc tb) := by
  intro pins s σ H D I h
  obtain ⟨W, ⟨m0, w0⟩, turn⟩ := h
  refine wpAny_While (codeAny_whileLoop (fun n s' => ∃ σ' H', Inv X pins σ' H' s' /\ W n σ' H') ?_ m0 ⟨σ, H, I, w0⟩)
  rintro n s1 ⟨σ1, H1, I1, w1⟩
  refine wpAny_passesOwn hp (thn (hc pins s1 σ1 H1 _ I1 (turn n σ1 H1 w1)) fun b s2 ⟨H2, I2, q2⟩ => ?_)
  cases b with
  | true =>
    obtain ⟨N, hN, q2⟩ := q2
    rw [if_pos rfl]
    refine wpAny_passesOwn hp (thn (hb pins s2 σ1 H2 _ I2 q2) fun f s3 q3 => ?_)
    cases f with
    | next =>
      obtain ⟨σ3, H3, I3, n3⟩ := q3
      obtain ⟨m', hm, w3⟩ := hN σ3 H3 n3
      exact ⟨m', hm, σ3, H3, I3, w3⟩
    | cont =>
      obtain ⟨σ3, H3, I3, n3⟩ := q3
      obtain ⟨m', hm, w3⟩ := hN σ3 H3 n3
      exact ⟨m', hm, σ3, H3, I3, w3⟩
    | brk => exact q3
    | ret v => exact q3
  | false =>
    rw [if_neg Bool.false_ne_true]
    exact wpAny_execs_nil ⟨σ1, H2, I2, q2⟩
end
structure It where
  go : Nat -> Hp -> Prop
  yld : Nat -> Hp -> V -> Hp -> Prop
  stop : Nat -> Hp -> Prop
  hot : Prop
def HotX (X : Cx) : Prop := ∃ (ea : Addr) (oe : Obj) (u : HO) (vs : Array Value), X.A.handled = some (.ref ea) /\ X.H₀ ea = some (.frz oe u) /\ oe.data = .fields vs /\ vs[2]? = some .none
def FpOk (X : Cx) (pins : List (Addr × Obj)) (H : Hp) (b : Addr) : Prop :=
  H b = none /\ b ≠ X.env.locals /\ b ∉ X.fs /\ (b ∈ X.ex \/ X.s₀.heap.objs.size <= b) /\ (∀ x c, X.env.cells.lookup x = some c -> c ≠ b) /\ ∀ p ∈ X.pn ++ pins, p.1 ≠ b
theorem Inv.fpOk {X : Cx} {pins : List (Addr × Obj)} {σ : St} {H H' : Hp} {s : Shared} {b : Addr} (I : Inv X pins σ H s) (hb : s.heap.objs.size <= b) (hn : H' b = none) : FpOk X pins H' b := by
  refine ⟨hn, Nat.ne_of_gt (Nat.lt_of_lt_of_le I.lt hb), I.nofs hb, .inr (Nat.le_trans I.sz hb), fun x c e z => ?_, fun p hp z => ?_⟩
  . obtain ⟨v, q⟩ := I.cell x c e
    exact absurd (Nat.lt_of_lt_of_le q.lt (by rw [z]; exact hb)) (Nat.lt_irrefl _)
  . exact absurd (Nat.lt_of_lt_of_le (Heap.lt_size (I.pin p hp).1) (by rw [z]; exact hb)) (Nat.lt_irrefl _)
structure Turn (P : Program) (w : World) (K : PySem.W.Frag) (tg : Expr) (J : It) (fp : List Addr) (it : Addr) (tn : Nat -> Heap -> Prop) : Prop where
  mem : it ∈ fp
  obj : ∀ i h, tn i h -> ∀ b ∈ fp, ∃ o, h.get? b = some o /\ ∀ v, o.data ≠ .cell v
  keep : ∀ i h h', tn i h -> (∀ b ∈ fp, ∀ o, h.get? b = some o -> h'.get? b = some o) -> tn i h'
  item : ∀ (X : Cx), X.prog = P -> X.w = w -> X.K = K -> (X.calm = true \/ (J.hot /\ HotX X)) -> ∀ (i : Nat) (pins : List (Addr × Obj)) (s : Shared) (σ : St) (H : Hp) (E : Value -> Shared -> Prop), Inv X pins σ H s -> (∀ b ∈ fp, FpOk X pins H b) -> tn i s.heap -> J.go i H ->
    wpAny (model P w) X.A (pyNext (.ref it)) (fun r s1 => ∃ u, r = some u /\
      wpAny (model P w) X.A (letOwnedTupleGo tg (.ref it) u) (fun _ s2 => ∃ x H', Inv X pins σ H' s2 /\ RelV x u /\ J.yld i H x H' /\ tn (i + 1) s2.heap /\ ∀ b ∈ fp, H' b = none) E s1) E s
  done : ∀ (X : Cx), X.prog = P -> X.w = w -> X.K = K -> (X.calm = true \/ (J.hot /\ HotX X)) -> ∀ (i : Nat) (pins : List (Addr × Obj)) (s : Shared) (σ : St) (H : Hp) (E : Value -> Shared -> Prop), Inv X pins σ H s -> (∀ b ∈ fp, FpOk X pins H b) -> tn i s.heap -> J.stop i H ->
    wpAny (model P w) X.A (pyNext (.ref it)) (fun r s1 => r = none /\ Inv X pins σ H s1) E s
  self : ∀ (A : Around) (i : Nat) (s : Shared) (Q : Value -> Shared -> Prop) (E : Value -> Shared -> Prop), tn i s.heap -> Q (.ref it) s -> wpAny (model P w) A (pyIter (.ref it)) Q E s
abbrev TI := St -> Hp -> (It -> Hp -> Prop) -> Prop
def PIE (X : Cx) (pins : List (Addr × Obj)) (σ : St) (tg : Expr) (R : It -> Hp -> Prop) (itv : Value) (s2 : Shared) : Prop :=
  ∃ (it : Addr) (fp : List Addr) (tn : Nat -> Heap -> Prop) (J : It) (H' : Hp), itv = .ref it /\ Inv X pins σ H' s2 /\ Turn X.prog X.w X.K tg J fp it tn /\ tn 0 s2.heap /\ (∀ b ∈ fp, FpOk X pins H' b) /\ R J H'
def PI (X : Cx) (tg iter : Expr) (wi : TI) : Prop :=
  ∀ (pins : List (Addr × Obj)) (s : Shared) (σ : St) (H : Hp) (R : It -> Hp -> Prop), Inv X pins σ H s -> wi σ H R ->
    wpAny (model X.prog X.w) X.A (eval iter X.env) (fun v s1 => wpAny (model X.prog X.w) X.A (pyIter v) (PIE X pins σ tg R) X.xe s1) X.xe s
theorem eAF {M : Model} {A : Around} {E : Value -> Shared -> Prop} {s : Shared} {tg : Expr} {it : Addr} {u : Value} {o : Obj} {n : String} {vs : Array Value} {Q : Unit -> Shared -> Prop} (ho : s.heap.get? it = some o) (hc : o.cls = .type n) (hd : o.data = .fields vs)
    (hn : ["enumerate", "zip", "dict_itemiterator", "dict_reverseitemiterator", "odict_iterator", "itertools.zip_longest", "itertools.pairwise"].contains n = false) (hQ : Q () s) : wpAny M A (letOwnedTupleGo tg (.ref it) u) Q E s := by
  unfold letOwnedTupleGo
  cases tg <;> first
    | exact wpAny_pure hQ
    | (cases u <;> first
        | exact wpAny_pure hQ
        | (refine wpAny_bind (wpAny_load ho ?_)
           rw [hc, hd]
           show wpAny M A (if (["enumerate", "zip", "dict_itemiterator", "dict_reverseitemiterator", "odict_iterator", "itertools.zip_longest", "itertools.pairwise"].contains n && vs[0]? == some (rawInt _)) = true then _ else _) Q E s
           rw [if_neg (by intro h; rw [hn, Bool.false_and] at h; cases h)]
           exact wpAny_pure hQ))
def Itl (K : PySem.W.Frag) (a : Addr) : It :=
  ⟨fun i H => ∃ xs x, SqL K H a xs /\ xs[i]? = some x, fun i H x H' => H' = H /\ ∀ xs, SqL K H a xs -> xs[i]? = some x, fun i H => ∃ xs, SqL K H a xs /\ xs.length <= i, False⟩
def Itt (K : PySem.W.Frag) (a : Addr) : It :=
  ⟨fun i H => ∃ xs x, SqT K H a xs /\ xs[i]? = some x, fun i H x H' => H' = H /\ ∀ xs, SqT K H a xs -> xs[i]? = some x, fun i H => ∃ xs, SqT K H a xs /\ xs.length <= i, False⟩
def Itr (lo : Int) (n : Nat) : It := ⟨fun i _ => i < n, fun i H x H' => H' = H /\ x = .int (lo + i), fun i _ => n <= i, True⟩
theorem aRY {P : Program} {w : World} {K : PySem.W.Frag} {tg : Expr} (a it : Addr) : Turn P w K tg (Itl K a) [it] it (fun i h => h.IsListIter it a i) where
  mem := by simp
  obj := fun i h st b hb => by
    have e : b = it := by simpa using hb
    subst e
    obtain ⟨o, e, c, d⟩ := st
    exact ⟨o, e, fun v z => by rw [d] at z; cases z⟩
  keep := fun i h h' st k => st.at fun o e => k it (by simp) o e
  item := by
    intro X hP hw hK hc i pins s σ H E I hf st hg
    subst hP hw hK
    replace hc := hc.resolve_right fun z => z.1
    obtain ⟨xs, x, hq, hx⟩ := hg
    obtain ⟨its, rv, p, hz⟩ := I.list hq
    obtain ⟨u, hu, ru⟩ := rv.get hx
    obtain ⟨f0, f1, f2, f3, f4, f5⟩ := hf it (by simp)
    refine wpAny_pyNext_list_item st p.isList (x := u) (by simpa using hu) fun h' st' sb => ?_
    have I1 : Inv X pins σ H { s with heap := h' } := I.turned (t' := s.toks) (fun b o hb e => (sb.2 b hb).trans e) f0 f1 f3 f4 f5
    obtain ⟨o, e, c, d⟩ := id st'
    exact ⟨u, rfl, eAF (s := { s with heap := h' }) e c d (by decide) ⟨x, H, I1, ru, ⟨rfl, fun ys hy => by rw [I.list_inj hy hq]; exact hx⟩, st', fun b hb => (hf b hb).1⟩⟩
  done := by
    intro X hP hw hK hc i pins s σ H E I hf st hg
    subst hP hw hK
    replace hc := hc.resolve_right fun z => z.1
    obtain ⟨xs, hq, hx⟩ := hg
    obtain ⟨its, rv, p, hz⟩ := I.list hq
    obtain ⟨f0, f1, f2, f3, f4, f5⟩ := hf it (by simp)
    have hl := rv.length
    exact wpAny_pyNext_list_end (I.ok.hd hc) st p.isList (by simp; omega) fun h' eb => ⟨rfl, I.turned (t' := s.toks) (fun b o hb e => eb b o hb e) f0 f1 f3 f4 f5⟩
  self := fun _ _ _ _ _ st h => wpAny_pyIter_listiter st h
theorem aQO {P : Program} {w : World} {K : PySem.W.Frag} {tg : Expr} (a it : Addr) : Turn P w K tg (Itt K a) [it] it (fun i h => h.IsTupleIter it a i) where
  mem := by simp
  obj := fun i h st b hb => by
    have e : b = it := by simpa using hb
    subst e
    obtain ⟨o, e, c, d⟩ := st
    exact ⟨o, e, fun v z => by rw [d] at z; cases z⟩
  keep := fun i h h' st k => st.at fun o e => k it (by simp) o e
  item := by
    intro X hP hw hK hc i pins s σ H E I hf st hg
    subst hP hw hK
    replace hc := hc.resolve_right fun z => z.1
    obtain ⟨xs, x, hq, hx⟩ := hg
    obtain ⟨its, rv, p, hz⟩ := I.tuple hq
    obtain ⟨u, hu, ru⟩ := rv.get hx
    obtain ⟨f0, f1, f2, f3, f4, f5⟩ := hf it (by simp)
    refine wpAny_pyNext_tuple_item st (show s.heap.IsTuple a its.toArray from p) (x := u) (by simpa using hu) fun h' st' sb => ?_
    have I1 : Inv X pins σ H { s with heap := h' } := I.turned (t' := s.toks) (fun b o hb e => (sb.2 b hb).trans e) f0 f1 f3 f4 f5
    obtain ⟨o, e, c, d⟩ := id st'
    exact ⟨u, rfl, eAF (s := { s with heap := h' }) e c d (by decide) ⟨x, H, I1, ru, ⟨rfl, fun ys hy => by rw [I.tuple_inj hy hq]; exact hx⟩, st', fun b hb => (hf b hb).1⟩⟩
  done := by
    intro X hP hw hK hc i pins s σ H E I hf st hg
    subst hP hw hK
    replace hc := hc.resolve_right fun z => z.1
    obtain ⟨xs, hq, hx⟩ := hg
    obtain ⟨its, rv, p, hz⟩ := I.tuple hq
    obtain ⟨f0, f1, f2, f3, f4, f5⟩ := hf it (by simp)
    have hl := rv.length
    exact wpAny_pyNext_tuple_end (I.ok.hd hc) st (show s.heap.IsTuple a its.toArray from p) (by simp; omega) fun h' eb => ⟨rfl, I.turned (t' := s.toks) (fun b o hb e => eb b o hb e) f0 f1 f3 f4 f5⟩
  self := fun _ _ _ _ _ st h => wpAny_pyIter_tupleiter st h
theorem aKH : entryFor table "proto.unchain" = some Builtin.«proto.unchain» := entryFor_of_tree (by kernel_rfl)
theorem aJF {prog : Program} {w : World} {A : Around} {E : Value -> Shared -> Prop} {s : Shared} {it ea : Addr} {x left step : Int} {oe : Obj} {vs : Array Value} {Q : Option Value -> Shared -> Prop} (hh : A.handled = some (.ref ea)) (he : s.heap.get? ea = some oe) (hd : oe.data = .fields vs) (h2 : vs[2]? = some .none)
    (hit : IsRangeIter s.heap it x left step) (hleft : left <= 0) (hQ : ∀ h', Heap.ExtBut it s.heap h' -> Q none { s with heap := h' }) : wpAny (model prog w) A (pyNext (.ref it)) Q E s := by
  have hT : s.TypeIs (.ref it) "range_iterator" := ⟨_, hit, rfl⟩
  unfold pyNext
  refine wpAny_bind (wpAny_attempt (wpAny_callSpecial?_slot (name := Str.ofString "__next__") hT F.slot_range_iterator_next (wpAny_call_entry F.slot_range_iterator_next hT F.entry_range_iterator_next ?_ (F.args_range_iterator_next_1 _))))
  show wpAny _ _ (field (.ref it) 0 >>= _) _ _ s
  refine wpAny_bind (wpAny_field hit rfl (x := rawInt x) rfl ?_)
  show wpAny _ _ (field (.ref it) 1 >>= _) _ _ s
  refine wpAny_bind (wpAny_field hit rfl (x := rawInt left) rfl ?_)
  show wpAny _ _ (field (.ref it) 2 >>= _) _ _ s
  refine wpAny_bind (wpAny_field hit rfl (x := rawInt step) rfl ?_)
  show wpAny _ _ (if left <= 0 then _ else _) _ _ s
  rw [if_pos hleft]
  refine wpAny_bind (wpAny_rule (wpAny_bind ?_))
  show wpAny _ _ (newExc (.type "StopIteration") [] >>= _) _ _ _
  refine wpAny_bind ?_
  simp only [newExc, newTuple]
  refine wpAny_bind (wpAny_newObj_type ?_ (by size_fits))
  refine wpAny_bind (m := firstArgMember _ _) (wpAny_of_eq (a := Value.none) (by first | rfl | (simp only [firstArgMember]; rfl)) ?_)
  refine wpAny_newObj_type ?_ (by size_fits)
  have hlt : ea < s.heap.objs.size := Heap.lt_size he
  simp only [raiseNew]
  refine wpAny_bind (wpAny_handled ?_)
  rw [show A.in1.handled = some (.ref ea) from hh]
  dsimp only
  have ne : (Value.ref ea != Value.ref (s.heap.push { cls := .type "tuple", data := .seq ([] : List Value).toArray }).objs.size) = true := by
    rw [Heap.size_push]
    have : ea ≠ s.heap.objs.size + 1 := Nat.ne_of_lt (Nat.lt_succ_of_lt hlt)
    simp [this]
  rw [if_pos ne]
  have he' : ((s.heap.push { cls := .type "tuple", data := .seq ([] : List Value).toArray }).push { cls := .type "StopIteration", data := .fields (#[.ref s.heap.objs.size, .none, .none, .none, .bool false, Value.none] ++ ownMembersOf (.type "StopIteration") []) }).get? ea = some oe := Heap.get?_push_of_some _ (Heap.get?_push_of_some _ he)
  refine wpAny_bind (wpAny_holding (wpAny_runValue (codeAny_builtin aKH ?_)))
  unfold Builtin.«proto.unchain»
  dsimp only
  refine wpAny_bind (wpAny_field he' hd h2 ?_)
  rw [if_pos (by decide)]
  refine wpAny_pure ?_
  dsimp only
  refine wpAny_bind ?_
  simp only [updateField]
  refine wpAny_bind (wpAny_load (Heap.get?_push_size _ rfl) ?_)
  dsimp only
  rw [if_pos (by rw [Array.size_append]; show 2 < 6 + _; omega)]
  refine wpAny_update (Heap.get?_push_size _ rfl) ?_
  refine wpAny_throw ?_
  refine wpAny_bind (wpAny_isInstance (T := "StopIteration") (b := true) ⟨_, Heap.get?_update_self _ (Heap.get?_push_size _ rfl) rfl, rfl⟩ isSubtype_stop ?_)
  refine wpAny_pure (hQ _ fun b o hb q => ?_)
  have hb2 : b < s.heap.objs.size := Heap.lt_size q
  rw [Heap.get?_update_other _ _ (by rw [Heap.size_push]; exact Nat.ne_of_gt (Nat.lt_succ_of_lt hb2))]
  exact Heap.get?_push_of_some _ (Heap.get?_push_of_some _ q)
theorem aQP {P : Program} {w : World} {K : PySem.W.Frag} {tg : Expr} (it : Addr) (lo : Int) (n : Nat) : Turn P w K tg (Itr lo n) [it] it (fun i h => IsRangeIter h it (lo + (i : Nat) * 1) ((n : Int) - (i : Nat)) 1) where
  mem := by simp
  obj := fun i h st b hb => by
    have e : b = it := by simpa using hb
    subst e
    exact ⟨_, st, fun v z => by
      have z' : Data.fields _ = Data.cell v := z
      cases z'⟩
  keep := fun i h h' st k => k it (by simp) _ st
  item := by
    intro X hP hw hK hc i pins s σ H E I hf st hg
    subst hP hw hK
    obtain ⟨f0, f1, f2, f3, f4, f5⟩ := hf it (by simp)
    refine wpAny_pyNext_range_item st (by have : i < n := hg; omega) fun h' st' sb => ?_
    have I1 : Inv X pins σ H { s with heap := h', toks := s.toks + 1 } := I.turned (fun b o hb e => (sb.2 b hb).trans e) f0 f1 f3 f4 f5
    have e1 : lo + (i : Nat) * 1 + 1 = lo + ((i + 1 : Nat) : Int) * 1 := by omega
    have e2 : (n : Int) - (i : Nat) - 1 = (n : Int) - ((i + 1 : Nat) : Int) := by omega
    rw [e1, e2] at st'
    refine ⟨_, rfl, eAF (s := { s with heap := h', toks := s.toks + 1 }) (n := "range_iterator") st' rfl rfl (by decide) ⟨.int (lo + i), H, I1, ⟨s.toks, ?_⟩, ⟨rfl, rfl⟩, st', fun b hb => (hf b hb).1⟩⟩
    rw [Int.mul_one]
  done := by
    intro X hP hw hK hc i pins s σ H E I hf st hg
    subst hP hw hK
    obtain ⟨f0, f1, f2, f3, f4, f5⟩ := hf it (by simp)
    rcases hc with hc | ⟨_, ea, oe, u, vs, k1, k2, k3, k4⟩
    rotate_left
    . obtain ⟨ho, _⟩ := (show ObjOk X.prog X.w H s.heap ea (.frz oe u) from I.hok ea _ (I.base.frzs ea oe u k2))
      exact aJF k1 ho k3 k4 st (by have : n <= i := hg; omega) fun h' eb => ⟨rfl, I.turned (t' := s.toks) (fun b o hb e => eb b o hb e) f0 f1 f3 f4 f5⟩
    exact wpAny_pyNext_range_end (I.ok.hd hc) st (by have : n <= i := hg; omega) fun h' eb => ⟨rfl, I.turned (t' := s.toks) (fun b o hb e => eb b o hb e) f0 f1 f3 f4 f5⟩
  self := fun _ _ _ _ _ st h => wpAny_pyIter_rangeiter st h
end L2
namespace L2
open PySem PySem.Spec PyProof.Rows
section
variable {X : Cx} {tg : Expr}
def iList (K : PySem.W.Frag) (tl : TE) : TI := fun σ H R => tl σ H fun x H1 => ∃ a, x = .ref a /\ (∃ xs, SqL K H1 a xs) /\ R (Itl K a) H1
def iTup (K : PySem.W.Frag) (tl : TE) : TI := fun σ H R => tl σ H fun x H1 => ∃ a, x = .ref a /\ (∃ xs, SqT K H1 a xs) /\ R (Itt K a) H1
theorem aZN {l : Expr} {tl : TE} (hl : PE X l tl) : PI X tg l (iList X.K tl) := by
  intro pins s σ H R I h
  refine thn (hl pins s σ H _ I h) fun v s1 ⟨x, H1, I1, r1, q1⟩ => ?_
  obtain ⟨a, e, ⟨xs, hq⟩, q⟩ := q1
  subst e
  cases r1
  obtain ⟨its, rv, p, hz⟩ := I1.list hq
  refine wpAny_pyIter_list p.isList ?_
  refine ⟨s1.heap.objs.size, [s1.heap.objs.size], _, _, H1, rfl, I1.kept (t' := s1.toks) fun b o e => Heap.get?_push_of_some _ e, aRY a _, ⟨_, Heap.get?_push_size _ rfl, rfl, rfl⟩, fun b hb => ?_, q⟩
  have e : b = s1.heap.objs.size := by simpa using hb
  subst e
  exact I1.fpOk (Nat.le_refl _) (I1.hok.fresh (Nat.le_refl _))
theorem aXZ {l : Expr} {tl : TE} (hl : PE X l tl) : PI X tg l (iTup X.K tl) := by
  intro pins s σ H R I h
  refine thn (hl pins s σ H _ I h) fun v s1 ⟨x, H1, I1, r1, q1⟩ => ?_
  obtain ⟨a, e, ⟨xs, hq⟩, q⟩ := q1
  subst e
  cases r1
  obtain ⟨its, rv, p, hz⟩ := I1.tuple hq
  refine wpAny_pyIter_tuple (show s1.heap.IsTuple a its.toArray from p) ?_
  refine ⟨s1.heap.objs.size, [s1.heap.objs.size], _, _, H1, rfl, I1.kept (t' := s1.toks) fun b o e => Heap.get?_push_of_some _ e, aQO a _, ⟨_, Heap.get?_push_size _ rfl, rfl, rfl⟩, fun b hb => ?_, q⟩
  have e : b = s1.heap.objs.size := by simpa using hb
  subst e
  exact I1.fpOk (Nat.le_refl _) (I1.hok.fresh (Nat.le_refl _))
theorem aPQ {pins : List (Addr × Obj)} {σ : St} {H : Hp} {s : Shared} {R : It -> Hp -> Prop} {E : Value -> Shared -> Prop} {lo hi : Int} {t u v : Tok} {tk : Nat} (I : Inv X pins σ H s) (h1 : -(2 ^ 62) <= lo) (h2 : lo < 2 ^ 62) (h3 : -(2 ^ 62) <= hi) (h4 : hi < 2 ^ 62)
    (q : R (Itr lo (hi - lo).toNat) H) : wpAny (model X.prog X.w) X.A (pyIter (.ref s.heap.objs.size)) (PIE X pins σ tg R) E { s with heap := s.heap.push { cls := .type "range", data := .fields #[.int lo t, .int hi u, .int 1 v] }, toks := tk } := by
  refine wpAny_pyIter_range (IsRange.new ..) (small_one h1 h2 h3 h4) ?_
  have I1 : Inv X pins σ H { s with heap := s.heap.push { cls := .type "range", data := .fields #[.int lo t, .int hi u, .int 1 v] }, toks := tk } := I.kept fun b o e => Heap.get?_push_of_some _ e
  refine ⟨(s.heap.push { cls := .type "range", data := .fields #[.int lo t, .int hi u, .int 1 v] }).objs.size, [(s.heap.push { cls := .type "range", data := .fields #[.int lo t, .int hi u, .int 1 v] }).objs.size], _, _, H, rfl,
    I1.kept (t' := tk) fun b o e => Heap.get?_push_of_some _ e, aQP _ lo (hi - lo).toNat, ?_, fun b hb => ?_, q⟩
  . have e1 : lo + ((0 : Nat) : Int) * 1 = lo := by simp
    have e2 : (((hi - lo).toNat : Nat) : Int) - ((0 : Nat) : Int) = Builtin.Range.rangeSize lo hi 1 := by rw [rangeSize_one]; split <;> omega
    show IsRangeIter _ _ (lo + ((0 : Nat) : Int) * 1) ((((hi - lo).toNat : Nat) : Int) - ((0 : Nat) : Int)) 1
    rw [e1, e2]
    exact Heap.get?_push_size _ rfl
  . have e : b = (s.heap.push { cls := .type "range", data := .fields #[.int lo t, .int hi u, .int 1 v] }).objs.size := by simpa using hb
    subst e
    exact I1.fpOk (Nat.le_refl _) (I1.hok.fresh (Nat.le_refl _))
def iRng1 (ta : TA) : TI := fun σ H R => ta σ H fun vs H1 => ∃ j : Int, vs = [.int j] /\ -(2 ^ 62) <= j /\ j < 2 ^ 62 /\ R (Itr 0 j.toNat) H1
def iRng2 (ta : TA) : TI := fun σ H R => ta σ H fun vs H1 => ∃ i j : Int, vs = [.int i, .int j] /\ (-(2 ^ 62) <= i /\ i < 2 ^ 62 /\ -(2 ^ 62) <= j /\ j < 2 ^ 62) /\ R (Itr i (j - i).toNat) H1
theorem aLY {a : Expr} {ta : TA} {p pos : Pos} (hg : Gl X "range") (hm : X.mg "range" = none) (ha : PA X [a] ta) (hs : starEach [a] X.env = [(false, eval a X.env)] := by rfl) : PI X tg (.Call (.Name "range" p) [a] [] pos) (iRng1 ta) := by
  intro pins s σ H R I h
  refine Call_ (aIB I hg hm boot_range (PyProof.Rows.callWith_type1 (thn (ha pos pins s σ H _ I h) fun us s1 ⟨vs, H1, I1, r1, q1⟩ => ?_) hs rfl))
  obtain ⟨j, e, q1, q2, q⟩ := q1
  subst e
  cases r1 with
  | cons r rr =>
    cases rr
    obtain ⟨t, rfl⟩ := r
    exact call_range_1 (aPQ I1 (by omega) (by omega) q1 q2 (by simpa using q))
theorem aTG {a b : Expr} {ta : TA} {p pos : Pos} (hg : Gl X "range") (hm : X.mg "range" = none) (ha : PA X [a, b] ta) (hs : starEach [a, b] X.env = [(false, eval a X.env), (false, eval b X.env)] := by rfl) (hs2 : starEach [b] X.env = [(false, eval b X.env)] := by rfl) :
    PI X tg (.Call (.Name "range" p) [a, b] [] pos) (iRng2 ta) := by
  intro pins s σ H R I h
  refine Call_ (aIB I hg hm boot_range (PyProof.Rows.callWith_type1 (thn (ha pos pins s σ H _ I h) fun us s1 ⟨vs, H1, I1, r1, q1⟩ => ?_) (by rw [hs, hs2]) (by rw [hs2]; rfl)))
  obtain ⟨i, j, e, ⟨q1, q2, q3, q4⟩, q⟩ := q1
  subst e
  cases r1 with
  | cons r rr =>
    cases rr with
    | cons r' rr =>
      cases rr
      obtain ⟨t, rfl⟩ := r
      obtain ⟨t', rfl⟩ := r'
      exact call_range_2 (aPQ I1 q1 q2 q3 q4 q)
def tFor (wi : TI) (g : TG) (tb : TS) : TS := fun D σ H => wi σ H fun J H1 => ∃ W : Nat -> Nat -> St -> Hp -> Prop, (∃ m, W 0 m σ H1) /\ ∀ i m σ H, W i m σ H ->
  (J.stop i H /\ D.nx σ H) \/ (J.go i H /\ ∃ N : St -> Hp -> Prop, (∀ σ' H', N σ' H' -> ∃ m', m' < m /\ W (i + 1) m' σ' H') /\ ∀ x H', J.yld i H x H' -> g x σ H' fun σ2 H2 => tb { D with nx := N, ct := N, bk := D.nx } σ2 H2)
def pinsAt (fp : List Addr) (h : Heap) : List (Addr × Obj) := fp.filterMap fun b => (h.get? b).map fun o => (b, o)
theorem aBS {fp : List Addr} {h : Heap} {b : Addr} {o : Obj} (hb : b ∈ fp) (e : h.get? b = some o) : (b, o) ∈ pinsAt fp h := List.mem_filterMap.mpr ⟨b, hb, by rw [e]; rfl⟩
theorem aTQ {fp : List Addr} {h : Heap} {p : Addr × Obj} (hp : p ∈ pinsAt fp h) : p.1 ∈ fp /\ h.get? p.1 = some p.2 := by
  obtain ⟨b, hb, e⟩ := List.mem_filterMap.mp hp
  cases q : h.get? b with
  | none => rw [q] at e; cases e
  | some o =>
    rw [q] at e
    have e' : (b, o) = p := Option.some.inj e
    subst e'
    exact ⟨hb, q⟩
theorem Inv.pinned {pins : List (Addr × Obj)} {σ : St} {H : Hp} {s : Shared} {fp : List Addr} (I : Inv X pins σ H s) (hf : ∀ b ∈ fp, FpOk X pins H b) (ho : ∀ b ∈ fp, ∃ o, s.heap.get? b = some o /\ ∀ v, o.data ≠ .cell v) : Inv X (pins ++ pinsAt fp s.heap) σ H s :=
  I.pins_of fun p hp => (List.mem_append.mp hp).elim (fun z => I.pin p (List.mem_append_right _ z)) fun z => by
    obtain ⟨hb, e⟩ := aTQ z
    obtain ⟨f0, f1, f2, _⟩ := hf p.1 hb
    obtain ⟨o, e', d⟩ := ho p.1 hb
    rw [e] at e'; cases e'
    exact ⟨e, f0, f1, f2, d⟩
theorem Inv.unpinned {pins pl : List (Addr × Obj)} {σ : St} {H : Hp} {s : Shared} (I : Inv X (pins ++ pl) σ H s) : Inv X pins σ H s := I.pins_of fun p hp => I.pin p (List.mem_append_right _ (List.mem_append_left _ hp))
theorem eBW {iter : Expr} {body : List Stmt} {wi : TI} {g : TG} {tb : TS} {pos : Pos} (hp : PassesOwn (model X.prog X.w) X.A X.env X.xe) (hc : X.calm = true) (hi : PI X tg iter wi) (hg : PG X tg g) (hb : PSs X body tb)
    (hs : ∀ x, foldedSetIterable iter X.env x = pure x := by intro _; rfl) : PS X (.For tg iter body [] pos) (tFor wi g tb) := by
  intro pins s σ H D I h
  refine wpAny_For (thn (hi pins s σ H _ I h) fun v s1 h1 => thn h1 fun itv s2 h2 => ?_) hs
  obtain ⟨it, fp, tn, J, H2, e, I2, T, st2, f2, W, ⟨m0, w0⟩, turn⟩ := h2
  subst e
  have stat : ∀ {H' : Hp}, (∀ b ∈ fp, H' b = none) -> ∀ b ∈ fp, FpOk X pins H' b := fun hn b hb => ⟨hn b hb, (f2 b hb).2⟩
  refine codeAny_forLoop_any (fun n s' => ∃ i σ' H', Inv X pins σ' H' s' /\ tn i s'.heap /\ (∀ b ∈ fp, H' b = none) /\ W i n σ' H') ?_ m0 ⟨0, σ, H2, I2, st2, fun b hb => (f2 b hb).1, w0⟩
  rintro n s3 ⟨i, σ3, H3, I3, st3, fr3, w3⟩
  rcases turn i n σ3 H3 w3 with ⟨stop, qn⟩ | ⟨go, N, hN, step⟩
  . refine wpAny_passesOwn hp (thn (T.done X rfl rfl rfl (.inl hc) i pins s3 σ3 H3 X.xe I3 (stat fr3) st3 stop) fun r s4 ⟨hr, I4⟩ => ?_)
    subst hr
    exact wpAny_execs_nil ⟨σ3, H3, I4, qn⟩
  . refine wpAny_passesOwn hp (thn (T.item X rfl rfl rfl (.inl hc) i pins s3 σ3 H3 X.xe I3 (stat fr3) st3 go) fun r s4 ⟨u, hr, h4⟩ => ?_)
    subst hr
    refine wpAny_passesOwn hp (thn h4 fun _ s5 ⟨x, H5, I5, r5, y5, st5, fr5⟩ => ?_)
    have I5' := I5.pinned (stat fr5) (T.obj _ _ st5)
    refine wpAny_passesOwn hp (thn (hg _ s5 σ3 H5 x u _ I5' r5 (step x H5 y5)) fun _ s6 ⟨σ6, H6, I6, q6⟩ => ?_)
    refine wpAny_passesOwn hp (thn (hb _ s6 σ6 H6 _ I6 q6) fun f s7 q7 => ?_)
    have again : ∀ {σ7 : St} {H7 : Hp}, Inv X (pins ++ pinsAt fp s5.heap) σ7 H7 s7 -> N σ7 H7 -> ∃ m, m < n /\ ∃ i σ' H', Inv X pins σ' H' s7 /\ tn i s7.heap /\ (∀ b ∈ fp, H' b = none) /\ W i m σ' H' := fun {σ7 H7} I7 n7 => by
      obtain ⟨m', hm, w7⟩ := hN σ7 H7 n7
      refine ⟨m', hm, i + 1, σ7, H7, I7.unpinned, T.keep _ _ _ st5 fun b hb o e => (I7.pin (b, o) (List.mem_append_right _ (List.mem_append_right _ (aBS hb e)))).1, fun b hb => ?_, w7⟩
      obtain ⟨o, e, d⟩ := T.obj _ _ st5 b hb
      exact (I7.pin (b, o) (List.mem_append_right _ (List.mem_append_right _ (aBS hb e)))).2.1
    cases f with
    | next => obtain ⟨σ7, H7, I7, n7⟩ := q7; exact again I7 n7
    | cont => obtain ⟨σ7, H7, I7, n7⟩ := q7; exact again I7 n7
    | brk => obtain ⟨σ7, H7, I7, q7⟩ := q7; exact ⟨σ7, H7, I7.unpinned, q7⟩
    | ret v => obtain ⟨x7, σ7, H7, I7, r7, q7⟩ := q7; exact ⟨x7, σ7, H7, I7.unpinned, r7, q7⟩
end
end L2
namespace L2
open PySem PySem.Spec PyProof.Rows
abbrev R2 := V -> V -> Hp -> VK -> Prop
def OpR (X : Cx) (f : Value -> Value -> Sem Value) (r : R2) : Prop :=
  ∀ (pins : List (Addr × Obj)) (s : Shared) (σ : St) (H : Hp) (x y : V) (v u : Value) (Q : VK), Inv X pins σ H s -> RelV x v -> RelV y u -> r x y H Q ->
    wpAny (model X.prog X.w) X.A (f v u) (EP X pins σ Q) X.xe s
def UnR (X : Cx) (f : Value -> Sem Value) (r : V -> Hp -> VK -> Prop) : Prop :=
  ∀ (pins : List (Addr × Obj)) (s : Shared) (σ : St) (H : Hp) (x : V) (v : Value) (Q : VK), Inv X pins σ H s -> RelV x v -> r x H Q ->
    wpAny (model X.prog X.w) X.A (f v) (EP X pins σ Q) X.xe s
def CallR (X : Cx) (f : Value) (r : List V -> Hp -> VK -> Prop) : Prop :=
  ∀ (pins : List (Addr × Obj)) (s : Shared) (σ : St) (H : Hp) (xs : List V) (us : List Value) (Q : VK), Inv X pins σ H s -> Vals xs us -> r xs H Q ->
    wpAny (model X.prog X.w) X.A (call f us) (EP X pins σ Q) X.xe s
def TruR (X : Cx) (r : V -> Hp -> (Bool -> Hp -> Prop) -> Prop) : Prop :=
  ∀ (pins : List (Addr × Obj)) (s : Shared) (σ : St) (H : Hp) (x : V) (v : Value) (Q : Bool -> Hp -> Prop), Inv X pins σ H s -> RelV x v -> r x H Q ->
    wpAny (model X.prog X.w) X.A (truthy v) (TP X pins σ Q) X.xe s
def tOp (r : R2) (ta tb : TE) : TE := fun σ H Q => ta σ H fun x H1 => tb σ H1 fun y H2 => r x y H2 Q
def tUn (r : V -> Hp -> VK -> Prop) (ta : TE) : TE := fun σ H Q => ta σ H fun x H1 => r x H1 Q
def rI (C : Int -> Int -> Prop) (g : Int -> Int -> V) : R2 := fun x y H Q => ∃ i j, x = .int i /\ y = .int j /\ C i j /\ Q (g i j) H
def rI0 (g : Int -> Int -> V) : R2 := fun x y H Q => ∃ i j, x = .int i /\ y = .int j /\ Q (g i j) H
def rU (g : Int -> V) : V -> Hp -> VK -> Prop := fun x H Q => ∃ i, x = .int i /\ Q (g i) H
section
variable {X : Cx} {a b c : Expr} {ta tb tc : TE} {pos : Pos}
theorem binT (ha : PE X a ta) (hb : PE X b tb) {pins : List (Addr × Obj)} {s : Shared} {σ : St} {H : Hp} {R : V -> V -> Hp -> Prop} (I : Inv X pins σ H s)
    (h : ta σ H fun x H1 => tb σ H1 fun y H2 => R x y H2) {Q : Value -> Shared -> Prop} {f : Value -> Value -> Sem Value}
    (hf : ∀ v u s2 x y H2, Inv X pins σ H2 s2 -> RelV x v -> RelV y u -> R x y H2 -> wpAny (model X.prog X.w) X.A (f v u) Q X.xe s2) :
    wpAny (model X.prog X.w) X.A (eval a X.env) (fun v s₁ => wpAny (model X.prog X.w) X.A (eval b X.env) (fun u s₂ => wpAny (model X.prog X.w) X.A (f v u) Q X.xe s₂) X.xe s₁) X.xe s := by
  refine thn (ha pins s σ H _ I h) fun v s1 ⟨x, H1, I1, r1, q1⟩ => ?_
  refine thn (hb pins s1 σ H1 _ I1 q1) fun u s2 ⟨y, H2, I2, r2, q2⟩ => ?_
  exact hf v u s2 x y H2 I2 r1 r2 q2
theorem aTI {op : Operator} {r : R2} (ho : OpR X (binaryOp op) r) (ha : PE X a ta) (hb : PE X b tb) : PE X (.BinOp a op b pos) (tOp r ta tb) := by
  intro pins s σ H Q I h
  exact wpAny_BinOp (binT ha hb I h fun v u s2 x y H2 I2 rx ry q => ho pins s2 σ H2 x y v u Q I2 rx ry q)
theorem eDV {op : UnaryOp} {r : V -> Hp -> VK -> Prop} (ho : UnR X (unaryOp op) r) (ha : PE X a ta) : PE X (.UnaryOp op a pos) (tUn r ta) := by
  intro pins s σ H Q I h
  exact UnaryOp_ (thn (ha pins s σ H _ I h) fun v s1 ⟨x, H1, I1, r1, q1⟩ => ho pins s1 σ H1 x v Q I1 r1 q1)
theorem opI {f : Value -> Value -> Sem Value} {C : Int -> Int -> Prop} {g : Int -> Int -> Int}
    (rule : ∀ (i j : Int) (t u : Tok) (s : Shared) (Q : Value -> Shared -> Prop) (E : Value -> Shared -> Prop), C i j -> Q (.int (g i j) s.toks) { s with toks := s.toks + 1 } -> wpAny (model X.prog X.w) X.A (f (.int i t) (.int j u)) Q E s) :
    OpR X f (rI C fun i j => .int (g i j)) := by
  intro pins s σ H x y v u Q I rx ry h
  obtain ⟨i, j, rfl, rfl, hc, q⟩ := h
  obtain ⟨t, rfl⟩ := rx
  obtain ⟨t', rfl⟩ := ry
  exact rule i j t t' s _ _ hc ⟨.int (g i j), H, I.tok _, ⟨_, rfl⟩, q⟩
theorem opI0 {f : Value -> Value -> Sem Value} {g : Int -> Int -> Int}
    (rule : ∀ (i j : Int) (t u : Tok) (s : Shared) (Q : Value -> Shared -> Prop) (E : Value -> Shared -> Prop), Q (.int (g i j) s.toks) { s with toks := s.toks + 1 } -> wpAny (model X.prog X.w) X.A (f (.int i t) (.int j u)) Q E s) :
    OpR X f (rI0 fun i j => .int (g i j)) := by
  intro pins s σ H x y v u Q I rx ry h
  obtain ⟨i, j, rfl, rfl, q⟩ := h
  obtain ⟨t, rfl⟩ := rx
  obtain ⟨t', rfl⟩ := ry
  exact rule i j t t' s _ _ ⟨.int (g i j), H, I.tok _, ⟨_, rfl⟩, q⟩
theorem opB0 {f : Value -> Value -> Sem Value} {g : Int -> Int -> Bool}
    (rule : ∀ (i j : Int) (t u : Tok) (s : Shared) (Q : Value -> Shared -> Prop) (E : Value -> Shared -> Prop), Q (.bool (g i j)) s -> wpAny (model X.prog X.w) X.A (f (.int i t) (.int j u)) Q E s) :
    OpR X f (rI0 fun i j => .bl (g i j)) := by
  intro pins s σ H x y v u Q I rx ry h
  obtain ⟨i, j, rfl, rfl, q⟩ := h
  obtain ⟨t, rfl⟩ := rx
  obtain ⟨t', rfl⟩ := ry
  exact rule i j t t' s _ _ ⟨.bl (g i j), H, I, rfl, q⟩
def CPow (i j : Int) : Prop := 0 <= j /\ j <= 1000000 /\ i.natAbs < 2 ^ 64
theorem eCS : OpR X (binaryOp .Add) (rI0 fun i j => .int (i + j)) := opI0 fun _ _ _ _ _ _ _ q => add_int q
theorem eCJ : OpR X (binaryOp .Sub) (rI0 fun i j => .int (i - j)) := opI0 fun _ _ _ _ _ _ _ q => sub_int q
theorem eCN : OpR X (binaryOp .Mod) (rI (fun _ j => 0 < j) fun i j => .int (i % j)) := opI fun i j _ _ _ _ _ hc q => by
  have h1 : (0 : Int) < j := hc
  exact mod_int' (by omega) (by rw [Int.fmod_eq_emod_of_nonneg i (by omega)]; exact q)
theorem eCM : OpR X (binaryOp .Pow) (rI CPow fun i j => .int (i ^ j.toNat)) := opI fun _ _ _ _ _ _ _ hc q => pow_int_small hc.1 hc.2.1 hc.2.2 q
theorem eCK : OpR X (binaryOp .LShift) (rI CPow fun i j => .int (i * 2 ^ j.toNat)) := opI fun _ _ _ _ _ _ _ hc q => lshift_int_small hc.1 hc.2.1 hc.2.2 q
theorem unI {f : Value -> Sem Value} {g : Int -> Int}
    (rule : ∀ (i : Int) (t : Tok) (s : Shared) (Q : Value -> Shared -> Prop) (E : Value -> Shared -> Prop), Q (.int (g i) s.toks) { s with toks := s.toks + 1 } -> wpAny (model X.prog X.w) X.A (f (.int i t)) Q E s) :
    UnR X f (rU fun i => .int (g i)) := by
  intro pins s σ H x v Q I rx h
  obtain ⟨i, rfl, q⟩ := h
  obtain ⟨t, rfl⟩ := rx
  exact rule i t s _ _ ⟨.int (g i), H, I.tok _, ⟨_, rfl⟩, q⟩
theorem eBH : UnR X (unaryOp .USub) (rU fun i => .int (-i)) := unI fun _ _ _ _ _ q => neg_int q
end
def scal : V -> V -> Bool
  | .non, .non => true | .non, .int _ => true | .int _, .non => true | .non, .bl _ => true | .bl _, .non => true | .non, .str _ => true | .str _, .non => true
  | .int _, .int _ => true | .bl _, .bl _ => true | .str _, .str _ => true | .byt _, .byt _ => true
  | .int _, .str _ => true | .str _, .int _ => true | .bl _, .str _ => true | .str _, .bl _ => true
  | _, _ => false
def rEq : R2 := fun x y H Q => scal x y = true /\ Q (.bl (decide (x = y))) H
def rNe : R2 := fun x y H Q => scal x y = true /\ Q (.bl (!decide (x = y))) H
theorem aOK {i j : Int} : decide (V.int i = V.int j) = (i == j) := by
  rw [Bool.eq_iff_iff]
  simp
theorem aYP {i j : Bool} : decide (V.bl i = V.bl j) = (i == j) := by
  rw [Bool.eq_iff_iff]
  simp
theorem aVF {i j : Str} : decide (V.str i = V.str j) = (i == j) := by
  rw [Bool.eq_iff_iff]
  simp
theorem aVG {i j : Array UInt8} : decide (V.byt i = V.byt j) = (i.toList == j.toList) := by
  rw [Bool.eq_iff_iff]
  cases i
  cases j
  simp
section
variable {X : Cx} {a b c : Expr} {ta tb tc : TE} {pos : Pos}
theorem zU {pins : List (Addr × Obj)} {σ : St} {H : Hp} {s : Shared} {Q : VK} {k k' : Bool} (I : Inv X pins σ H s) (q : Q (.bl k) H) (e : k = k') : EP X pins σ Q (.bool k') s := by
  subst e
  exact ⟨.bl k, H, I, rfl, q⟩
theorem eDZ : OpR X (compareOp .Eq) rEq := by
  intro pins s σ H x y v u Q I rx ry h
  obtain ⟨hs, q⟩ := h
  cases x with
  | non =>
    cases rx
    cases y with
    | non => cases ry; exact PySem.EqNone.eq_none_none (zU I q (by simp))
    | bl j => cases ry; exact PySem.EqNone.eq_none_bool (zU I q (by simp))
    | int j => obtain ⟨t', rfl⟩ := ry; exact PySem.EqNone.eq_none_int (zU I q (by simp))
    | str j => obtain ⟨t', rfl⟩ := ry; exact PySem.EqNone.eq_none_str (zU I q (by simp))
    | _ => exact absurd (show false = true from hs) Bool.false_ne_true
  | bl i =>
    cases rx
    cases y with
    | non => cases ry; exact PySem.EqNone.eq_bool_none (zU I q (by simp))
    | bl j => cases ry; exact eq_bool (zU I q aYP)
    | str j => obtain ⟨t', rfl⟩ := ry; exact PySem.EqMixed.eq_bool_str (zU I q (by simp))
    | _ => exact absurd (show false = true from hs) Bool.false_ne_true
  | int i =>
    obtain ⟨t, rfl⟩ := rx
    cases y with
    | non => cases ry; exact PySem.EqNone.eq_int_none (zU I q (by simp))
    | int j => obtain ⟨t', rfl⟩ := ry; exact eq_int (zU I q aOK)
    | str j => obtain ⟨t', rfl⟩ := ry; exact PySem.EqMixed.eq_int_str (zU I q (by simp))
    | _ => exact absurd (show false = true from hs) Bool.false_ne_true
  | str i =>
    obtain ⟨t, rfl⟩ := rx
    cases y with
    | non => cases ry; exact PySem.EqNone.eq_str_none (zU I q (by simp))
    | bl j => cases ry; exact PySem.EqMixed.eq_str_bool (zU I q (by simp))
    | int j => obtain ⟨t', rfl⟩ := ry; exact PySem.EqMixed.eq_str_int (zU I q (by simp))
    | str j => obtain ⟨t', rfl⟩ := ry; exact eq_str (zU I q aVF)
    | _ => exact absurd (show false = true from hs) Bool.false_ne_true
  | byt i =>
    obtain ⟨t, rfl⟩ := rx
    cases y with
    | byt j => obtain ⟨t', rfl⟩ := ry; exact PySem.W.eq_bytes (zU I q aVG)
    | _ => exact absurd (show false = true from hs) Bool.false_ne_true
  | _ => cases y <;> exact absurd (show false = true from hs) Bool.false_ne_true
theorem eDX : OpR X (compareOp .NotEq) rNe := by
  intro pins s σ H x y v u Q I rx ry h
  obtain ⟨hs, q⟩ := h
  cases x with
  | non =>
    cases rx
    cases y with
    | non => cases ry; exact PySem.EqNone.ne_none_none (zU I q (by simp))
    | bl j => cases ry; exact PySem.EqNone.ne_none_bool (zU I q (by simp))
    | int j => obtain ⟨t', rfl⟩ := ry; exact PySem.EqNone.ne_none_int (zU I q (by simp))
    | str j => obtain ⟨t', rfl⟩ := ry; exact PySem.EqNone.ne_none_str (zU I q (by simp))
    | _ => exact absurd (show false = true from hs) Bool.false_ne_true
  | bl i =>
    cases rx
    cases y with
    | non => cases ry; exact PySem.EqNone.ne_bool_none (zU I q (by simp))
    | bl j => cases ry; exact ne_bool (zU I q (congrArg not aYP))
    | str j => obtain ⟨t', rfl⟩ := ry; exact PySem.EqMixed.ne_bool_str (zU I q (by simp))
    | _ => exact absurd (show false = true from hs) Bool.false_ne_true
  | int i =>
    obtain ⟨t, rfl⟩ := rx
    cases y with
    | non => cases ry; exact PySem.EqNone.ne_int_none (zU I q (by simp))
    | int j => obtain ⟨t', rfl⟩ := ry; exact ne_int (zU I q (congrArg not aOK))
    | str j => obtain ⟨t', rfl⟩ := ry; exact PySem.EqMixed.ne_int_str (zU I q (by simp))
    | _ => exact absurd (show false = true from hs) Bool.false_ne_true
  | str i =>
    obtain ⟨t, rfl⟩ := rx
    cases y with
    | non => cases ry; exact PySem.EqNone.ne_str_none (zU I q (by simp))
    | bl j => cases ry; exact PySem.EqMixed.ne_str_bool (zU I q (by simp))
    | int j => obtain ⟨t', rfl⟩ := ry; exact PySem.EqMixed.ne_str_int (zU I q (by simp))
    | str j => obtain ⟨t', rfl⟩ := ry; exact ne_str (zU I q (congrArg not aVF))
    | _ => exact absurd (show false = true from hs) Bool.false_ne_true
  | byt i =>
    obtain ⟨t, rfl⟩ := rx
    cases y with
    | byt j => obtain ⟨t', rfl⟩ := ry; exact PySem.W.ne_bytes (zU I q (congrArg not aVG))
    | _ => exact absurd (show false = true from hs) Bool.false_ne_true
  | _ => cases y <;> exact absurd (show false = true from hs) Bool.false_ne_true
theorem eCO : OpR X (compareOp .Lt) (rI0 fun i j => .bl (decide (i < j))) := opB0 fun _ _ _ _ _ _ _ q => lt_int q
theorem eCQ : OpR X (compareOp .Gt) (rI0 fun i j => .bl (decide (j < i))) := opB0 fun _ _ _ _ _ _ _ q => gt_int q
theorem eDY : OpR X (compareOp .GtE) (rI0 fun i j => .bl (decide (j <= i))) := opB0 fun _ _ _ _ _ _ _ q => ge_int q
theorem eCP : OpR X (compareOp .Is) (fun x y H Q => y = .non /\ Q (.bl (decide (x = .non))) H) := by
  intro pins s σ H x y v u Q I rx ry h
  obtain ⟨rfl, q⟩ := h
  cases ry
  refine is_none_gen (zU I q ?_)
  cases x <;> first
    | (cases rx; rfl)
    | (obtain ⟨t, rfl⟩ := rx; rfl)
theorem aTO : OpR X (compareOp .IsNot) (fun x y H Q => y = .non /\ Q (.bl (!decide (x = .non))) H) := by
  intro pins s σ H x y v u Q I rx ry h
  obtain ⟨rfl, q⟩ := h
  cases ry
  refine isnot_none_gen (zU I q ?_)
  cases x <;> first
    | (cases rx; rfl)
    | (obtain ⟨t, rfl⟩ := rx; rfl)
theorem nomark (b : Expr) {op : CmpOp} (h : op ≠ .In := by decide) (h2 : op ≠ .NotIn := by decide) : behindInMarks op b = false := by
  have e1 : (op == CmpOp.In) = false := by cases op <;> first | rfl | exact absurd rfl h
  have e2 : (op == CmpOp.NotIn) = false := by cases op <;> first | rfl | exact absurd rfl h2
  cases b <;> simp [behindInMarks, e1, e2]
theorem aJL {op : CmpOp} {r : R2} (ho : OpR X (compareOp op) r) (ha : PE X a ta) (hb : PE X b tb) (hm : behindInMarks op b = false) : PE X (.Compare a [op] [b] pos) (tOp r ta tb) := by
  intro pins s σ H Q I h
  exact wpAny_Compare1 (binT ha hb I h fun v u s2 x y H2 I2 rx ry q => ho pins s2 σ H2 x y v u Q I2 rx ry q) hm
def tTest (t : TE) : TT := fun σ H Q => t σ H fun x H' => ∃ k, x = .bl k /\ Q k H'
theorem aJG {op : CmpOp} {r : R2} (ho : OpR X (compareOp op) r) (ha : PE X a ta) (hb : PE X b tb) (hm : behindInMarks op b = false) : PT X (.Compare a [op] [b] pos) (tTest (tOp r ta tb)) := by
  intro pins s σ H Q I h
  refine wpAny_isTrue_Compare1 (thn (ha pins s σ H _ I h) fun v s1 ⟨x, H1, I1, r1, q1⟩ => thn (hb pins s1 σ H1 _ I1 q1) fun u s2 ⟨y, H2, I2, r2, q2⟩ =>
    thn (ho pins s2 σ H2 x y v u _ I2 r1 r2 q2) fun c s3 ⟨z, H3, I3, r3, k, e, q3⟩ => ?_) hm
  subst e
  cases r3
  exact wpAny_truthy_bool ⟨H3, I3, q3⟩
def TruV (K : PySem.W.Frag) (x : V) (H : Hp) (k : Bool) : Prop :=
  match x with
  | .non => k = false
  | .bl b => k = b
  | .int i => k = (i != 0)
  | .str y => y.length <= sizeLine /\ k = ((y.length : Int) != 0)
  | .byt y => y.size <= sizeLine /\ k = ((y.size : Int) != 0)
  | .ref p => (∃ xs, SqL K H p xs /\ k = !xs.isEmpty) \/ (∃ xs, SqT K H p xs /\ k = !xs.isEmpty) \/ ∃ kvs, H p = some (.dK kvs) /\ k = !kvs.isEmpty
  | _ => False
theorem aRK {κ : Type} {kvs : List (κ × V)} {vs : List (κ × Value)} (r : KV kvs vs) : (!vs.isEmpty) = !kvs.isEmpty := by
  cases r <;> rfl
theorem aID {xs : List V} {its : List Value} (r : Vals xs its) : (!its.toArray.isEmpty) = !xs.isEmpty := by
  cases r <;> simp
theorem line63 : (sizeLine : Nat) < 2 ^ 63 := by rw [sizeLine_eq]; decide
theorem eBI : TruR X (fun x H Q => ∃ k, TruV X.K x H k /\ Q k H) := by
  intro pins s σ H x v Q I rx h
  obtain ⟨k, e, q⟩ := h
  have hl := line63
  have hs : sizeLine = 16777216 := sizeLine_eq
  cases x with
  | non =>
    cases rx
    have e' : k = false := e
    subst e'
    exact truthy_none ⟨H, I, q⟩
  | bl b =>
    cases rx
    have e' : k = b := e
    subst e'
    exact wpAny_truthy_bool ⟨H, I, q⟩
  | int i =>
    obtain ⟨t, rfl⟩ := rx
    have e' : k = (i != 0) := e
    subst e'
    exact PySem.P.truthy_int ⟨H, I, q⟩
  | str y =>
    obtain ⟨t, rfl⟩ := rx
    obtain ⟨hy, e'⟩ : y.length <= sizeLine /\ k = ((y.length : Int) != 0) := e
    subst e'
    exact PySem.P.truthy_str (by omega) ⟨H, I.tok _, q⟩
  | byt y =>
    obtain ⟨t, rfl⟩ := rx
    obtain ⟨hy, e'⟩ : y.size <= sizeLine /\ k = ((y.size : Int) != 0) := e
    subst e'
    exact PySem.W.truthy_bytes (by omega) ⟨H, I.tok _, q⟩
  | ref p =>
    cases rx
    have e' : (∃ xs, SqL X.K H p xs /\ k = !xs.isEmpty) \/ (∃ xs, SqT X.K H p xs /\ k = !xs.isEmpty) \/ ∃ kvs, H p = some (.dK kvs) /\ k = !kvs.isEmpty := e
    rcases e' with ⟨xs, hx, e'⟩ | ⟨xs, hx, e'⟩ | ⟨kvs, hx, e'⟩
    . subst e'
      obtain ⟨its, r, pl, hz⟩ := I.list hx
      have hlen := r.length
      exact wpAny_truthy_list pl.isList (by simp only [List.size_toArray]; omega) ⟨H, I.tok _, by rw [aID r]; exact q⟩
    . subst e'
      obtain ⟨its, r, pl, hz⟩ := I.tuple hx
      have hlen := r.length
      exact truthy_tuple pl (by simp only [List.size_toArray]; omega) ⟨H, I.tok _, by rw [aID r]; exact q⟩
    . subst e'
      obtain ⟨hz, hS, vs, r, m⟩ : kvs.length <= sizeLine /\ (p == sysModules) = false /\ ∃ vs, KV kvs vs /\ s.heap.DictOf (mixKind X.prog X.w) p vs := I.hok p _ hx
      have hlen : kvs.length = vs.length := Paired.length r
      exact wpAny_truthy_dict hS m (by omega) ⟨H, I.tok _, by rw [aRK r]; exact q⟩
  | _ => exact (show False from e).elim
theorem aWN (ha : PE X a ta) (he : ∀ whole, isTrue a X.env whole = (do let v <- whole; standAt a.pos; holding [v] (truthy v))) :
    PT X a (fun σ H Q => ta σ H fun x H' => ∃ k, TruV X.K x H' k /\ Q k H') := by
  intro pins s σ H Q I h
  exact isTrue_plain (thn (ha pins s σ H _ I h) fun v s1 ⟨x, H1, I1, r1, q1⟩ => eBI pins s1 σ H1 x v Q I1 r1 q1) (he _)
theorem vals1 {x : V} {us : List Value} (r : Vals [x] us) : ∃ u, us = [u] /\ RelV x u := by
  cases r with
  | cons r1 r2 => cases r2; exact ⟨_, rfl, r1⟩
theorem vals2 {x y : V} {us : List Value} (r : Vals [x, y] us) : ∃ u w', us = [u, w'] /\ RelV x u /\ RelV y w' := by
  cases r with
  | cons r1 r2 =>
    cases r2 with
    | cons r3 r4 => cases r4; exact ⟨_, _, rfl, r1, r3⟩
theorem aXI : CallR X (.builtin "abs") (fun xs H Q => ∃ i, xs = [.int i] /\ Q (.int (if i < 0 then -i else i)) H) := by
  intro pins s σ H xs us Q I r h
  obtain ⟨i, rfl, q⟩ := h
  obtain ⟨u, rfl, t, rfl⟩ := vals1 r
  exact call_abs_int fun u tk => ⟨.int (if i < 0 then -i else i), H, I.tok _, ⟨_, rfl⟩, q⟩
theorem aVP (hc : X.calm = true) : CallR X (.builtin "max") (fun xs H Q => ∃ i j, xs = [.int i, .int j] /\ Q (.int (if j > i then j else i)) H) := by
  intro pins s σ H xs us Q I r h
  obtain ⟨i, j, rfl, q⟩ := h
  obtain ⟨u, w', rfl, ⟨t, rfl⟩, ⟨t', rfl⟩⟩ := vals2 r
  refine max_two_ints (I.ok.hd hc) fun h' tk k => ⟨_, H, I.kept k, ?_, q⟩
  by_cases hj : j > i
  . rw [if_pos hj, if_pos hj]; exact ⟨_, rfl⟩
  . rw [if_neg hj, if_neg hj]; exact ⟨_, rfl⟩
theorem aVQ : CallR X (.type "int") (fun xs H Q => (∃ i, xs = [.int i] /\ Q (.int i) H) \/ ∃ k, xs = [.bl k] /\ Q (.int (if k then 1 else 0)) H) := by
  intro pins s σ H xs us Q I r h
  rcases h with ⟨i, rfl, q⟩ | ⟨k, rfl, q⟩
  . obtain ⟨u, rfl, t, rfl⟩ := vals1 r
    exact call_int_int ⟨.int i, H, I, ⟨_, rfl⟩, q⟩
  . obtain ⟨u, rfl, r1⟩ := vals1 r
    cases r1
    exact call_int_bool ⟨.int (if k then 1 else 0), H, I.tok _, ⟨_, rfl⟩, q⟩
end
end L2
namespace L2
open PySem PySem.Spec PyProof.Rows
structure ObjM (h : Heap) (x dx C : Addr) (mA : Str -> Option Value) : Prop where
  obj : h.get? x = some (PySem.W.instObj C dx)
  ns : h.Ns1 dx mA
  ne : dx ≠ x
theorem aTZ {h : Heap} {dx : Addr} {mA : Str -> Option Value} (n : h.Ns1 dx mA) : ∃ od, h.get? dx = some od /\ ∀ name, PySem.W.lookIn name od = some (mA name) := by
  obtain ⟨o, es, ep, ho, hd, hk, _, hm⟩ := n
  refine ⟨o, ho, fun name => ?_⟩
  have e := hm name
  unfold nsFind findBy at e
  rw [<- Array.find?_toList] at e
  unfold PySem.W.lookIn
  rw [hd]
  dsimp only
  split
  . rename_i y q
    rw [q] at e
    exact congrArg some e
  . rename_i q
    rw [q] at e
    have a : es.toList.any (·.refKey) = false := by
      rw [List.any_eq_false]
      intro y hy
      obtain ⟨z, t, hkey⟩ := hk y (Array.mem_toList_iff.mp hy)
      simp [DictEntry.refKey, hkey]
    have a' : ¬ es.toList.any (·.refKey) = true := by rw [a]; exact Bool.false_ne_true
    rw [if_neg a']
    exact congrArg some e
theorem ObjM.look {h : Heap} {x dx C : Addr} {mA : Str -> Option Value} (I : ObjM h x dx C mA) : ∃ od, PySem.W.InstAt h x (PySem.W.instObj C dx) C (some od) /\ ∀ name, PySem.W.lookIn name od = some (mA name) :=
  let ⟨od, ho, hl⟩ := aTZ I.ns
  ⟨od, ⟨I.obj, rfl, rfl, ho⟩, hl⟩
section
variable {prog : Program} {w : World} {A : Around} {E : Value -> Shared -> Prop} {s : Shared} {K : PySem.W.Frag} {x dx C f : Addr} {mA : Str -> Option Value} {name : Str} {v : Value}
end
section
variable {P : Program} {w : World} {H H' : Hp} {h h' : Heap} {a C dx : Addr} {fs fs' : List (Str × V)}
theorem eAE (hok : HOk P w H h) (e : H a = some (.ins C dx fs)) : ∃ mA, ObjM h a dx C mA /\ (∀ f, RelO (fs.lookup f) (mA f)) /\ PySem.Within mA (fs.map (·.1)) /\ fs.length <= 1000 /\ H dx = some (.own a) := by
  obtain ⟨d, z, ne, ob, mA, n, r, q⟩ := (show ObjOk P w H h a (.ins C dx fs) from hok a _ e)
  exact ⟨mA, ⟨ob, n, ne⟩, r, q, z, d⟩
end
structure Cls (K : PySem.W.Frag) (C : Addr) : Prop where
  pg : PySem.W.plainGet K C Str.empty = true
  hd : PySem.W.hasDictIn K C = true
  po : PySem.W.plainOver K C = true
  sa : PySem.W.findIn K (.ref C) "__setattr__" = some (some (.builtin "object.__setattr__"))
theorem Cls.get {K : PySem.W.Frag} {C : Addr} (c : Cls K C) (f : Str) : PySem.W.plainGet K C f = true := c.pg
structure Con (K : PySem.W.Frag) (C : Addr) (f : Str) (v : V) (u : Value) : Prop where
  at_ : PySem.W.findIn K (.ref C) f = some (some u)
  rel : RelV v u
  get : PySem.W.specialIn K u "__get__" = some none
  cp : PySem.W.copiedNames.contains f = false
structure Meth (K : PySem.W.Frag) (C : Addr) (m : Str) (f : Addr) : Prop where
  at_ : PySem.W.findIn K (.ref C) m = some (some (.ref f))
  fn : PySem.W.isFn K (.ref f) = true
  kp : PySem.W.keepIn K (.ref f) = true
section
variable {X : Cx} {pins : List (Addr × Obj)} {σ : St} {H : Hp} {s : Shared} {a C dx : Addr} {fs : List (Str × V)} {f : Str} {v : V} {A : Around} {E : Value -> Shared -> Prop}
end
section
variable {X : Cx} {o e value : Expr} {f : Str} {pos pos' tpos : Pos} {ta tv : TE}
end
section
variable {X : Cx} {pins : List (Addr × Obj)} {σ : St} {H : Hp} {s : Shared} {A : Around} {E : Value -> Shared -> Prop} {Q : Value -> Shared -> Prop} {c : Value} {b : Bool}
inductive TyOf (K : PySem.W.Frag) (H : Hp) : V -> Value -> Prop where
  | non : TyOf K H .non (.type "NoneType")
  | bl (x : Bool) : TyOf K H (.bl x) (.type "bool")
  | int (i : Int) : TyOf K H (.int i) (.type "int")
  | str (x : Str) : TyOf K H (.str x) (.type "str")
  | flt (x : UInt64) : TyOf K H (.flt x) (.type "float")
  | lst {a : Addr} {xs : List V} (e : H a = some (.lst xs)) : TyOf K H (.ref a) (.type "list")
  | frz {a : Addr} {o : Obj} {xs : List V} (e : H a = some (.frz o (.lst xs))) : TyOf K H (.ref a) (.type "list")
  | tup {a : Addr} {xs : List V} (e : H a = some (.tup xs)) : TyOf K H (.ref a) (.type "tuple")
  | dK {a : Addr} {kvs : List (Key × V)} (e : H a = some (.dK kvs)) : TyOf K H (.ref a) (.type "dict")
  | dT {a : Addr} {kvs : List (List Key × V)} (e : H a = some (.dT kvs)) : TyOf K H (.ref a) (.type "dict")
  | ins {a C dx : Addr} {fs : List (Str × V)} (e : H a = some (.ins C dx fs)) (cl : Cls K C) (ha : PySem.W.findIn K (.ref C) "__class__" = some (some (.builtin "object.__class__")))
      (hn : PySem.W.specialIn K (.builtin "object.__class__") "__get__" = some (some (.builtin "getset_descriptor.__get__"))) (htk : PySem.W.takesIn K (.builtin "object.__class__") = some true)
      (hm : PySem.W.mroIn K C (.type "object") = some true) : TyOf K H (.ref a) (.ref C)
theorem aUJ {x : V} {u t : Value} (I : Inv X pins σ H s) (rx : RelV x u) (ty : TyOf X.K H x t) (e : PySem.W.kitOne X.K t c = some b) (h : ∀ tk, Q (.bool b) { s with toks := tk }) :
    wpAny (model X.prog X.w) A (call (.builtin "isinstance") [u, c]) Q E s := by
  cases ty with
  | non => cases (show u = Value.none from rx); exact PySem.W.kia_one PySem.W.kitx_none I.kIn True.intro e (fun z => nomatch z) h
  | bl y => cases (show u = Value.bool y from rx); exact PySem.W.kia_one PySem.W.kitx_bool I.kIn True.intro e (fun z => nomatch z) h
  | int i => obtain ⟨t, q⟩ := (show ∃ t, u = Value.int i t from rx); cases q; exact PySem.W.kia_one PySem.W.kitx_int I.kIn True.intro e (fun z => nomatch z) h
  | str y => obtain ⟨t, q⟩ := (show ∃ t, u = Value.str y t from rx); cases q; exact PySem.W.kia_one PySem.W.kitx_str I.kIn True.intro e (fun z => nomatch z) h
  | flt y => obtain ⟨t, q⟩ := (show ∃ t, u = Value.float y t from rx); cases q; exact PySem.W.kia_one PySem.W.kitx_float I.kIn True.intro e (fun z => nomatch z) h
  | @lst a xs ea =>
    cases (show u = Value.ref a from rx)
    obtain ⟨_, _, n, _, h1⟩ := (show ObjOk X.prog X.w H s.heap a (.lst xs) from I.hok a _ ea)
    exact PySem.W.kia_one PySem.W.kitx_list I.kIn ⟨_, h1, rfl⟩ e (fun z => nomatch z) h
  | @frz a ob xs ea =>
    cases (show u = Value.ref a from rx)
    obtain ⟨_, _, _, n, _, h1⟩ := (show ObjOk X.prog X.w H s.heap a (.frz ob (.lst xs)) from I.hok a _ ea)
    exact PySem.W.kia_one PySem.W.kitx_list I.kIn ⟨_, h1, rfl⟩ e (fun z => nomatch z) h
  | @tup a xs ea =>
    cases (show u = Value.ref a from rx)
    obtain ⟨_, _, _, p⟩ := (show ObjOk X.prog X.w H s.heap a (.tup xs) from I.hok a _ ea)
    obtain ⟨o, h1, h2, _⟩ := p
    exact PySem.W.kia_one PySem.W.kitx_tuple I.kIn ⟨o, h1, h2⟩ e (fun z => nomatch z) h
  | @dK a kvs ea =>
    cases (show u = Value.ref a from rx)
    obtain ⟨_, _, vs, _, p⟩ := (show ObjOk X.prog X.w H s.heap a (.dK kvs) from I.hok a _ ea)
    obtain ⟨o, es, ep, h1, h2, _⟩ := p
    exact PySem.W.kia_one PySem.W.kitx_dict I.kIn ⟨o, h1, h2.1⟩ e (fun z => nomatch z) h
  | @dT a kvs ea =>
    cases (show u = Value.ref a from rx)
    obtain ⟨_, _, xs, _, o, es, ep, h1, h2, _⟩ := (show ObjOk X.prog X.w H s.heap a (.dT kvs) from I.hok a _ ea)
    exact PySem.W.kia_one PySem.W.kitx_dict I.kIn ⟨o, h1, h2.1⟩ e (fun z => nomatch z) h
  | @ins a C dx fs ea cl ha hn htk hm =>
    cases (show u = Value.ref a from rx)
    obtain ⟨mA, O, _⟩ := eAE I.hok ea
    obtain ⟨od, J, _⟩ := O.look
    exact PySem.W.kia_one (PySem.W.kitx_own (cl.get _) cl.hd ha hn htk hm) I.kIn J e (fun z => nomatch z) h
end
end L2
namespace L2
open PySem PySem.Spec PyProof.Rows
structure Room (k : Nat) (A : Around) : Prop where
  hd : A.handled = none
  dp : A.depth + 3 * k + 105 < recursionLimit
  un : A.units + 16 * k + 200 < cLine
theorem Room.mono {j k : Nat} {A : Around} (r : Room k A) (h : j <= k) : Room j A := ⟨r.hd, by have := r.dp; omega, by have := r.un; omega⟩
theorem Room.deeper {k : Nat} {A : Around} (r : Room (k + 1) A) (env : Env) : Room k (A.deeper env) :=
  ⟨r.hd, by have := r.dp; show A.depth + 1 + 3 * k + 105 < _; omega, by have := r.un; show A.units + 3 + 16 * k + 200 < _; omega⟩
theorem Room.dp100 {k : Nat} {A : Around} (r : Room k A) : A.depth + 100 < recursionLimit := by have := r.dp; omega
theorem Room.depth {k : Nat} {A : Around} (r : Room k A) : A.depth < recursionLimit := by have := r.dp; omega
theorem Room.units {k : Nat} {A : Around} (r : Room k A) : A.units + 64 < cLine := by have := r.un; omega
def tNil : TA := fun _ H Q => Q [] H
def tCons (ta : TE) (tr : TA) : TA := fun σ H Q => ta σ H fun x H1 => tr σ H1 fun xs H2 => Q (x :: xs) H2
section
variable {X : Cx} {e : Expr} {es : List Expr} {te : TE} {t : TA} {pos : Pos}
theorem vG : PA X [] tNil := fun _ _ _ _ H Q I h => Calls.spliced_nil ⟨[], H, I, .nil, h⟩
theorem zJ (ha : PE X e te) (hr : PA X es t) (hs : starEach (e :: es) X.env = (false, eval e X.env) :: starEach es X.env := by rfl) : PA X (e :: es) (tCons te t) := by
  intro pos pins s σ H Q I h
  rw [hs]
  show wpAny _ _ (spliced ((false, eval e X.env) :: backTo pos (starEach es X.env))) _ _ s
  refine Calls.spliced_cons (thn (ha pins s σ H _ I h) fun u s1 ⟨x, H1, I1, r1, q1⟩ => ?_)
  exact thn (hr pos pins s1 σ H1 _ I1 q1) fun us s2 ⟨xs, H2, I2, r2, q2⟩ => ⟨x :: xs, H2, I2, .cons r1 r2, q2⟩
def tTup (t : TA) : TE := fun σ H Q => t σ H fun xs H1 => xs.length <= sizeLine /\ ∀ p, H1 p = none -> Q (.ref p) (upd H1 p (.tup xs))
def tLst (t : TA) : TE := fun σ H Q => t σ H fun xs H1 => xs.length <= sizeLine /\ ∀ p, H1 p = none -> Q (.ref p) (upd H1 p (.lst xs))
theorem eCB {x1} (h : PA X es t) : PE X (.Tuple es x1 pos) (tTup t) := by
  intro pins s σ H Q I hq
  refine wpAny_Tuple_spliced (thn (h pos pins s σ H _ I hq) fun us s1 ⟨xs, H1, I1, r, z, q⟩ => ⟨by rw [<- r.length]; exact z, ?_⟩)
  have hf : H1 s1.heap.objs.size = none := I1.hok.fresh (Nat.le_refl _)
  refine ⟨.ref s1.heap.objs.size, upd H1 s1.heap.objs.size (.tup xs), I1.laid (t' := s1.toks) (fun b u e => Heap.get?_push_of_some _ e) (Nat.le_refl _) ?_, rfl, q _ hf⟩
  exact ⟨z, us, r, ⟨_, Heap.get?_push_size _ rfl, rfl, _, rfl⟩⟩
theorem eCG (h : PA X es t) : PE X (.List es pos) (tLst t) := by
  intro pins s σ H Q I hq
  refine wpAny_List_spliced (thn (h pos pins s σ H _ I hq) fun us s1 ⟨xs, H1, I1, r, z, q⟩ => ⟨by rw [<- r.length]; exact z, ?_⟩)
  have hf : H1 s1.heap.objs.size = none := I1.hok.fresh (Nat.le_refl _)
  refine ⟨.ref s1.heap.objs.size, upd H1 s1.heap.objs.size (.lst xs), I1.laid (t' := s1.toks) (fun b u e => Heap.get?_push_of_some _ e) (Nat.le_refl _) ?_, rfl, q _ hf⟩
  exact ⟨z, us, 0, r, Heap.get?_push_size _ rfl⟩
end
abbrev Sp := List V -> Hp -> VK -> XK -> Prop
abbrev CXT := List Env -> Hp -> Shared -> XK -> Value -> Shared -> Prop
structure Env0 (P : Program) (w : World) (K : PySem.W.Frag) (mg : Str -> Option Value) (base : Heap) (A : Around) (outer : List Env) (s : Shared) (H : Hp) : Prop where
  frames : A.frames = some outer
  mod : Mod K mg base
  bs : ∀ b o, base.get? b = some o -> s.heap.get? b = some o /\ H b = none
  bsz : base.objs.size <= s.heap.objs.size
  funs : s.heap.FunFrames base outer
  frf : ∀ b ∈ frs outer, H b = none
  hok : HOk P w H s.heap
  bare : AllBare s.gens
def CE (outer : List Env) (P : Program) (w : World) (H : Hp) (s : Shared) (Q : VK) (u : Value) (s' : Shared) : Prop :=
  ∃ v H', s'.os = s.os /\ AllBare s'.gens /\ Un (frs outer) [] H H' s.heap s'.heap /\ HOk P w H' s'.heap /\ RelV v u /\ Q v H'
def CR (CX : CXT) (outer : List Env) (P : Program) (w : World) (H : Hp) (s : Shared) (Q : VK) (E : XK) (r : Result) (s' : Shared) : Prop :=
  match r with
  | .ok (.ret u) => CE outer P w H s Q u s'
  | .ok _ => False
  | .error e => CX outer H s E e s'
structure FnOk (P : Program) (w : World) (K : PySem.W.Frag) (mg : Str -> Option Value) (base : Heap) (CX : CXT) (k : Nat) (f : Addr) (fd : FuncData) (ps : List Str) (sp : Sp) : Prop where
  len : ∀ vs H Q E, sp vs H Q E -> vs.length = ps.length
  run : ∀ (A : Around) (outer : List Env) (s : Shared) (H : Hp) (args : Args) (us : List Value) (vs : List V) (Q : VK) (E : XK), Room k A -> Env0 P w K mg base A outer s H -> BindsTo s fd args (ps.zip us) -> Vals vs us -> sp vs H Q E ->
    codeAny (model P w) A (.call (.ref f) args) (CR CX outer P w H s Q E) s
section
variable {X : Cx} {pins : List (Addr × Obj)} {σ : St} {H : Hp} {s s' : Shared}
theorem Inv.env0 (I : Inv X pins σ H s) : Env0 X.prog X.w X.K X.mg X.base X.A X.stack s H :=
  ⟨I.ok.frames, I.ok.mod, I.bs, Nat.le_trans I.ok.bsz I.sz, I.stack, I.stkFree, I.hok, I.bare⟩
theorem Inv.after {Q : VK} {u : Value} (I : Inv X pins σ H s) (h : CE X.stack X.prog X.w H s Q u s') : EP X pins σ Q u s' := by
  obtain ⟨v, H', os, bare, un, hok, r, q⟩ := h
  obtain ⟨hh, g, d, t, os'⟩ := s'
  obtain rfl : os' = s.os := os
  exact ⟨v, H', I.call (h' := hh) (g' := g) (d' := d) (t' := t) (ch := []) un hok bare (fun b z => absurd z (by simp)), r, q⟩
end
def tCall (sp : Sp) (dvs : List V) (E : XK) (t : TA) : TE := fun σ H Q => t σ H fun vs H1 => sp (vs ++ dvs) H1 Q E
def Binds (K : PySem.W.Frag) (fd : FuncData) (ps : List Str) (ds : List Value) : Prop :=
  ∀ (s : Shared) (us : List Value), K.In s.heap -> (us ++ ds).length = ps.length -> BindsTo s fd ⟨us, []⟩ (ps.zip (us ++ ds))
theorem Binds.all {K : PySem.W.Frag} {fd : FuncData} {ps : List Str} (h : ∀ us : List Value, us.length = ps.length -> bindArgs fd ⟨us, []⟩ = pure (ps.zip us)) : Binds K fd ps [] := fun s us _ hl => by
  rw [List.append_nil] at hl ⊢
  exact .of_eq (h us hl)
def Passes (CX : CXT) (X : Cx) (E : XK) : Prop := ∀ (pins : List (Addr × Obj)) (σ : St) (H : Hp) (s : Shared) (e : Value) (s' : Shared), Inv X pins σ H s -> CX X.stack H s E e s' -> X.xe e s'
section
variable {X : Cx} {CX : CXT} {k : Nat} {f C : Addr} {fd : FuncData} {ps : List Str} {sp : Sp} {dvs : List V} {ds : List Value} {E : XK} {x m : Str} {p pos apos : Pos} {e o : Expr} {es : List Expr} {ta : TE} {t : TA}
theorem eBM {pins : List (Addr × Obj)} {σ : St} {H : Hp} {s : Shared} {Q : VK} {us : List Value} {vs : List V} (F : FnOk X.prog X.w X.K X.mg X.base CX k f fd ps sp) (hr : Room k X.A) (hb : Binds X.K fd ps ds) (hd : Vals dvs ds) (hx : Passes CX X E)
    (I : Inv X pins σ H s) (r : Vals vs us) (h : sp (vs ++ dvs) H Q E) : wpAny (model X.prog X.w) X.A (call (.ref f) us) (EP X pins σ Q) X.xe s := by
  have r2 : Vals (vs ++ dvs) (us ++ ds) := r.append hd
  have hl : (us ++ ds).length = ps.length := by rw [<- r2.length]; exact F.len _ _ _ _ h
  refine wpAny_call (codeAny_mono (F.run X.A X.stack s H ⟨us, []⟩ (us ++ ds) (vs ++ dvs) Q E hr I.env0 (hb s us I.kIn hl) r2 h) fun r s' hq => ?_)
  cases r with
  | error e => exact hx pins σ H s e s' I hq
  | ok fl =>
    cases fl with
    | ret u => exact I.after hq
    | next => exact False.elim hq
    | brk => exact False.elim hq
    | cont => exact False.elim hq
theorem aZP (F : FnOk X.prog X.w X.K X.mg X.base CX k f fd ps sp) (hr : Room k X.A) (hg : Gl X x) (hm : X.mg x = some (.ref f)) (hk : PySem.W.keepIn X.K (.ref f) = true) (hb : Binds X.K fd ps ds) (hd : Vals dvs ds) (hx : Passes CX X E)
    (ha : PA X (e :: es) t) (hdb : (x == ("__debug__" : Str)) = false := by decide) (he : starEach (e :: es) X.env = (false, eval e X.env) :: starEach es X.env := by rfl) (hpl : (backTo pos (starEach es X.env)).any (·.1) = false := by rfl) :
    PE X (.Call (.Name x p) (e :: es) [] pos) (tCall sp dvs E t) := by
  intro pins s σ H Q I h
  refine wpAny_Call_Name_kw (aCG I hg hm ?_ hdb)
  refine PySem.W.callWith_K (h₀ := X.base) I.ok.mod.kin hk (thn (ha pos pins s σ H _ I h) fun us s1 ⟨vs, H1, I1, r, q⟩ => ⟨I1.kIn, ?_⟩) he hpl
  exact eBM F hr hb hd hx I1 r q
structure Mk (K : PySem.W.Frag) (C f : Addr) : Prop where
  makes : PySem.W.makesIn K C = true
  init : PySem.W.findIn K (.ref C) "__init__" = some (some (.ref f))
  fn : PySem.W.isFn K (.ref f) = true
  kp : PySem.W.keepIn K (.ref C) = true
end
section
variable {X : Cx} {CX : CXT} {k : Nat} {f C : Addr} {fd : FuncData} {ps ks : List Str} {sp : Sp} {E : XK} {x m : Str} {p pos apos kpos : Pos} {e o : Expr} {es : List Expr} {kws : List Keyword} {te ta : TE} {t tk : TA} {nm : Option Str}
structure KBinds (K : PySem.W.Frag) (fd : FuncData) (ps ks : List Str) (g : List Value -> List Value -> List Value) (gV : List V -> List V -> List V) : Prop where
  to : ∀ (s : Shared) (us ws : List Value), K.In s.heap -> (g us ws).length = ps.length -> BindsTo s fd ⟨us, ks.zip ws⟩ (ps.zip (g us ws))
  rel : ∀ {vs : List V} {us : List Value} {zs : List V} {ws : List Value}, Vals vs us -> Vals zs ws -> Vals (gV vs zs) (g us ws)
variable {g : List Value -> List Value -> List Value} {gV : List V -> List V -> List V}
end
structure FnScope (N P : List Str) (sc : Scope) : Prop where
  kind : sc.kind = .function
  co : sc.isCoroutine = false
  gen : sc.isGenerator = false
  nd : N.Nodup
  pre : N.take P.length = P
  par : ∀ x ∈ P, sc.names.lookup x = some .local \/ sc.names.lookup x = some .cell
  nofree : ∀ y ∈ sc.names, y.2 ≠ .free
theorem aMZ {kindOf : Str -> Option NameKind} {x : Str} : ∀ {binds : List (Str × Value)} {m : Str -> Option Value}, (∀ v, (x, v) ∉ binds) -> bindL kindOf binds m x = m x
  | [], _, _ => rfl
  | (n, v) :: r, m, h => by
    unfold bindL
    rw [aMZ fun w hw => h w (List.mem_cons_of_mem _ hw)]
    split
    . have : x ≠ n := by rintro rfl; exact h v List.mem_cons_self
      simp [this]
    . rfl
theorem aNB {kindOf : Str -> Option NameKind} {x : Str} : ∀ {binds : List (Str × Value)} {m : Str -> Option Value}, (∀ v, (x, v) ∉ binds) -> bindC kindOf binds m x = m x
  | [], _, _ => rfl
  | (n, v) :: r, m, h => by
    unfold bindC
    rw [aNB fun w hw => h w (List.mem_cons_of_mem _ hw)]
    split
    . rfl
    . have : x ≠ n := by rintro rfl; exact h v List.mem_cons_self
      simp [this]
theorem aNA {kindOf : Str -> Option NameKind} {x : Str} {v : Value} : ∀ {P : List Str} {vs : List Value} {i : Nat} {m : Str -> Option Value}, P.Nodup -> P[i]? = some x -> vs[i]? = some v -> kindOf x = some .local ->
    bindL kindOf (P.zip vs) m x = some v
  | [], _, _, _, _, h, _, _ => by simp at h
  | _ :: _, [], _, _, _, _, h, _ => by simp at h
  | p :: P, w :: vs, 0, m, nd, h1, h2, hk => by
    simp at h1 h2; subst h1; subst h2
    show bindL kindOf ((p, w) :: P.zip vs) m p = _
    unfold bindL
    rw [aMZ fun v hv => (List.nodup_cons.mp nd).1 (List.of_mem_zip hv).1, if_pos hk]
    simp
  | p :: P, w :: vs, i + 1, m, nd, h1, h2, hk => by
    show bindL kindOf ((p, w) :: P.zip vs) m x = _
    unfold bindL
    exact aNA (i := i) (List.nodup_cons.mp nd).2 (by simpa using h1) (by simpa using h2) hk
theorem aNC {kindOf : Str -> Option NameKind} {x : Str} {v : Value} : ∀ {P : List Str} {vs : List Value} {i : Nat} {m : Str -> Option Value}, P.Nodup -> P[i]? = some x -> vs[i]? = some v -> kindOf x ≠ some .local ->
    bindC kindOf (P.zip vs) m x = some v
  | [], _, _, _, _, h, _, _ => by simp at h
  | _ :: _, [], _, _, _, _, h, _ => by simp at h
  | p :: P, w :: vs, 0, m, nd, h1, h2, hk => by
    simp at h1 h2; subst h1; subst h2
    show bindC kindOf ((p, w) :: P.zip vs) m p = _
    unfold bindC
    rw [aNB fun v hv => (List.nodup_cons.mp nd).1 (List.of_mem_zip hv).1, if_neg hk]
    simp
  | p :: P, w :: vs, i + 1, m, nd, h1, h2, hk => by
    show bindC kindOf ((p, w) :: P.zip vs) m x = _
    unfold bindC
    exact aNC (i := i) (List.nodup_cons.mp nd).2 (by simpa using h1) (by simpa using h2) hk
def start (N : List Str) (vs : List V) : St := vs.map some ++ List.replicate (N.length - vs.length) none
def cxOf (CX : CXT) (P : Program) (w : World) (K : PySem.W.Frag) (mg : Str -> Option Value) (base : Heap) (N : List Str) (qual : Str) (scope : Scope) (f : Addr) (cd : Value) (A : Around) (outer : List Env) (s : Shared) (H : Hp) (E : XK) : Cx where
  prog := P
  w := w
  K := K
  mg := mg
  base := base
  A := A.deeper (envOfC qual scope s.heap.objs.size f cd)
  N := N
  s₀ := s
  H₀ := H
  env := envOfC qual scope s.heap.objs.size f cd
  outer := outer
  stack := envOfC qual scope s.heap.objs.size f cd :: outer
  ex := []
  calm := true
  fn := fun _ => true
  pn := []
  xe := fun e s' => wpAny (model P w) (A.deeper (envOfC qual scope s.heap.objs.size f cd)) (leaving (envOfC qual scope s.heap.objs.size f cd) e) (fun _ s'' => CX outer H s E e s'') (fun e' s'' => CX outer H s E e' s'') s'
theorem aQL {sc : Scope} {n : Nat} {x : Str} (h : sc.names.lookup x = some .cell) : ∃ c, (cellsFrom n sc.names []).lookup x = some c := by
  have q := PySem.W.cellsFrom_some sc.names n [] (.inl h)
  exact Option.isSome_iff_exists.mp q
theorem aMK {CX : CXT} {P : Program} {w : World} {K : PySem.W.Frag} {mg : Str -> Option Value} {base : Heap} {N ps : List Str} {qual : Str} {scope : Scope} {f : Addr} {cd : Value} {A : Around} {outer : List Env} {s s1 : Shared} {H : Hp} {E : XK} {us : List Value} {vs : List V}
    (S : FnScope N ps scope) (hd : A.handled = none) (e0 : Env0 P w K mg base A outer s H) (hl : vs.length = ps.length) (r : Vals vs us)
    (x : InCallC s s.heap.objs.size (bindL (envOfC qual scope s.heap.objs.size f cd).kindOf (ps.zip us) fun _ => none) (cellsFrom (s.heap.objs.size + 1) scope.names []) (bindC (envOfC qual scope s.heap.objs.size f cd).kindOf (ps.zip us) fun _ => none) s1) :
    Inv (cxOf CX P w K mg base N qual scope f cd A outer s H E) [] (start N vs) H s1 := by
  have hpl : ps.length <= N.length := by have := congrArg List.length S.pre; rw [List.length_take] at this; omega
  obtain ⟨h1, tk, rfl, hk⟩ := x.done
  have noA : ∀ b : Addr, b ∉ (cxOf CX P w K mg base N qual scope f cd A outer s H E).ex := fun b z => absurd (show b ∈ ([] : List Addr) from z) (by simp)
  refine ⟨⟨e0.mod, S.kind, rfl, rfl, Nat.le_refl _, fun y z c h1 h2 => ?_, fun y hy => ?_, fun y c _ h => ?_, fun _ => hd, Around.frames_deeper e0.frames, .inr ⟨rfl, rfl⟩, fun b z => absurd z (noA b), e0.bs, e0.bsz, fun b _ _ => noA b, fun b z => absurd z (noA b), e0.funs, e0.frf⟩,
    rfl, e0.bare, Un.kept hk, ⟨_, x.toInCall.ns, fun i y v h1 h2 h3 => ?_⟩, fun y c h => ⟨_, x.cell y c h⟩, e0.hok.fresh (Nat.le_refl _), fun y c h => ?_, fun p hp => absurd (show p ∈ ([] : List (Addr × Obj)) from hp) (by simp), e0.hok.kept hk, ?_⟩
  . exact name_of_addr x.apart (PySem.mem_of_lookup h1) (PySem.mem_of_lookup h2)
  . have hy : scope.names.lookup y = some .cell \/ scope.names.lookup y = some .free := hy
    rcases hy with hy | hy
    . exact aQL hy
    . exact absurd rfl (S.nofree _ (PySem.mem_of_lookup hy))
  . exact Nat.le_of_lt (x.above y c (PySem.mem_of_lookup h))
  . have hi : i < vs.length := by
      unfold start at h2
      by_cases hi : i < vs.length
      . exact hi
      . rw [List.getElem?_append_right (by simpa using hi)] at h2
        rw [List.getElem?_replicate] at h2
        split at h2 <;> cases h2
    have ha : vs[i]? = some v := by
      unfold start at h2
      rw [List.getElem?_append_left (by simpa using hi), List.getElem?_map] at h2
      cases e : vs[i]? with
      | none => rw [e] at h2; cases h2
      | some a => rw [e] at h2; cases h2; rfl
    obtain ⟨u, hu, rv⟩ := r.get ha
    have hp : ps[i]? = some y := by
      rw [<- S.pre, List.getElem?_take_of_lt (by omega)]; exact h1
    have ndP : ps.Nodup := by rw [<- S.pre]; exact S.nd.sublist (List.take_sublist _ _)
    refine ⟨u, rv, ?_⟩
    rcases S.par y (List.mem_of_getElem? hp) with k | k
    . exact .inl ⟨k, aNA ndP hp hu k⟩
    . obtain ⟨c, e⟩ := aQL (n := s.heap.objs.size + 1) k
      refine .inr ⟨.inl k, c, e, ?_⟩
      have q := x.cell y c e
      rw [aNC ndP hp hu (by show scope.names.lookup y ≠ _; rw [k]; decide)] at q
      exact q
  . exact e0.hok.fresh (Nat.le_of_lt (x.above y c (PySem.mem_of_lookup h)))
  . unfold start
    show _ = N.length
    rw [List.length_append, List.length_map, List.length_replicate]
    omega
theorem eDF {CX : CXT} {P : Program} {w : World} {K : PySem.W.Frag} {mg : Str -> Option Value} {base : Heap} {k : Nat} {f : Addr} {name qual : Str} {params : Arguments} {body : List Stmt} {scope : Scope} {dV kV doc pm cdv ct oc : Value} {an od : Option Addr}
    {osl : Array (Option Value)} {N ps : List Str} {sp : Sp} (lk : K.lookup f = some ⟨oc, od, .func (PySem.W.fnOf name qual params body scope dV kV doc pm an cdv ct), osl⟩) (hcd : PySem.W.codeIn K cdv qual = true) (S : FnScope N ps scope)
    (len : ∀ vs H Q E, sp vs H Q E -> vs.length = ps.length)
    (hbody : ∀ (A : Around) (outer : List Env) (s : Shared) (H : Hp) (vs : List V) (Q : VK) (E : XK), Room k (A.deeper (envOfC qual scope s.heap.objs.size f cdv)) -> sp vs H Q E ->
      ∃ t, PSs (cxOf CX P w K mg base N qual scope f cdv A outer s H E) body t /\ t { nx := fun _ H' => Q .non H', rt := Q } (start N vs) H) :
    FnOk P w K mg base CX (k + 1) f (PySem.W.fnOf name qual params body scope dV kV doc pm an cdv ct) ps sp := by
  refine ⟨len, fun A outer s H args us vs Q E hr e0 hb r hsp => ?_⟩
  have hl := len _ _ _ _ hsp
  have KX : K.In s.heap := e0.mod.kin.keeps fun b o e => (e0.bs b o e).1
  have lim : s.heap.NoLimit := e0.mod.nolimit.keeps fun b o e => (e0.bs b o e).1
  have hkind : ∀ y ∈ ps.zip us, scope.names.lookup y.1 = some .local \/ (scope.names.lookup y.1 = some .cell /\ ((cellsFrom (s.heap.objs.size + 1) scope.names []).lookup y.1).isSome = true) := fun ⟨n, v⟩ hy => by
    rcases S.par n (List.of_mem_zip hy).1 with q | q
    . exact .inl q
    . exact .inr ⟨q, PySem.W.cellsFrom_some _ _ _ (.inl q)⟩
  refine codeAny_call_function hr.depth (KX _ _ lk) rfl S.co S.gen rfl (PySem.W.codeRec_of KX hcd) (hb _ _ _ _ ?_)
  refine wpAny_newFunctionEnv_cells S.kind hkind fun env he s1 x => ?_
  subst he
  refine ⟨lim.keeps x.toInCall.keep, codeAny_func ?_⟩
  obtain ⟨t, ht, hq⟩ := hbody A outer s H vs Q E (hr.deeper _) hsp
  have I : Inv (cxOf CX P w K mg base N qual scope f cdv A outer s H E) [] (start N vs) H s1 := aMK S hr.hd e0 hl r x
  refine wpAny_mono (ht [] s1 (start N vs) H _ I hq) (fun fl s' hs => ?_) fun e s' hs => hs
  have fin : ∀ {σ' : St} {H' : Hp} {v : V} {u : Value}, Inv (cxOf CX P w K mg base N qual scope f cdv A outer s H E) [] σ' H' s' -> RelV v u -> Q v H' -> CE outer P w H s Q u s' :=
    fun {σ' H' v u} J rv q => ⟨v, H', J.os, J.bare, J.base, J.hok, rv, q⟩
  cases fl with
  | ret u =>
    obtain ⟨v, σ', H', J, rv, q⟩ := hs
    exact fin J rv q
  | next =>
    obtain ⟨σ', H', J, q⟩ := hs
    exact fin (v := V.non) (u := Value.none) J rfl q
  | brk =>
    obtain ⟨_, _, _, q⟩ := hs
    exact False.elim q
  | cont =>
    obtain ⟨_, _, _, q⟩ := hs
    exact False.elim q
end L2
namespace L2
open PySem PySem.Spec PyProof.Rows
section
variable {X : Cx} {x : Str} {p pos : Pos} {e : Expr} {es : List Expr} {t : TA} {id T : String} {r : List V -> Hp -> VK -> Prop}
def tCB (r : List V -> Hp -> VK -> Prop) (t : TA) : TE := fun σ H Q => t σ H fun vs H1 => r vs H1 Q
theorem wR (hc : CallR X (.builtin id) r) (hg : Gl X x) (hm : X.mg x = none) (hv : bootBuiltins x = some (.builtin id)) (ha : PA X (e :: es) t) (hn : x ≠ "__name__" := by decide) (hdb : (x == ("__debug__" : Str)) = false := by decide)
    (he : starEach (e :: es) X.env = (false, eval e X.env) :: starEach es X.env := by rfl) (hpl : (backTo pos (starEach es X.env)).any (·.1) = false := by rfl) : PE X (.Call (.Name x p) (e :: es) [] pos) (tCB r t) := by
  intro pins s σ H Q I h
  refine wpAny_Call_Name_kw (aIB I hg hm hv ?_ hn hdb)
  exact PyProof.Rows.callWith_builtin1 (thn (ha pos pins s σ H _ I h) fun us s1 ⟨vs, H1, I1, r1, q1⟩ => hc pins s1 σ H1 vs us Q I1 r1 q1) he hpl
theorem aGA (hc : CallR X (.type T) r) (hg : Gl X x) (hm : X.mg x = none) (hv : bootBuiltins x = some (.type T)) (ha : PA X (e :: es) t) (hn : x ≠ "__name__" := by decide) (hdb : (x == ("__debug__" : Str)) = false := by decide)
    (he : starEach (e :: es) X.env = (false, eval e X.env) :: starEach es X.env := by rfl) (hpl : (backTo pos (starEach es X.env)).any (·.1) = false := by rfl) : PE X (.Call (.Name x p) (e :: es) [] pos) (tCB r t) := by
  intro pins s σ H Q I h
  refine wpAny_Call_Name_kw (aIB I hg hm hv ?_ hn hdb)
  exact PyProof.Rows.callWith_type1 (thn (ha pos pins s σ H _ I h) fun us s1 ⟨vs, H1, I1, r1, q1⟩ => hc pins s1 σ H1 vs us Q I1 r1 q1) he hpl
end
end L2
namespace HT
open PySem PyProof.Rows
section
open PySem.SeqAt
open PySem.AutoSeq1 (wpAny_loadPart')
open PySem.MeetsSeq PySem.MeetsSeq2 PySem.MeetsSeq3
end
section
variable {prog : Program} {w : World} {A : Around} {E : Value -> Shared -> Prop} {s : Shared}
def sIx (n d : Nat) : Option Int -> Nat
  | none => d
  | some v => if v < 0 then (v + (n : Int)).toNat else min v.toNat n
end
end HT
namespace L2
open PySem PySem.Spec PyProof.Rows
abbrev TO := St -> Hp -> (Option Int -> Hp -> Prop) -> Prop
def PO (X : Cx) (e : Option Expr) (t : TO) : Prop :=
  ∀ (pins : List (Addr × Obj)) (s : Shared) (σ : St) (H : Hp) (Q : Option Int -> Hp -> Prop), Inv X pins σ H s -> t σ H Q ->
    wpAny (model X.prog X.w) X.A (evalPart e X.env) (fun u s' => ∃ o H', Inv X pins σ H' s' /\ IsPart u o /\ Q o H') X.xe s
def tNoPart : TO := fun _ H Q => Q none H
def tPart (t : TE) : TO := fun σ H Q => t σ H fun x H1 => ∃ i, x = .int i /\ Q (some i) H1
theorem aRL {ns : List Int} : ∀ {us : List Value}, Vals (ns.map V.int) us -> IntsAre us ns := by
  induction ns with
  | nil => intro us r; rw [List.map_nil] at r; cases r; exact .nil
  | cons n ns ih =>
    intro us r
    rw [List.map_cons] at r
    cases r with
    | cons r1 r2 =>
      obtain ⟨t, e⟩ := r1
      subst e
      exact .cons n t (ih r2)
section
variable {X : Cx} {e : Expr} {te : TE} {lo hi : Option Expr} {tl th : TO} {pos p2 : Pos}
theorem aZM : PO X none tNoPart := by
  intro pins s σ H Q I h
  rw [evalPart_none]
  exact wpAny_pure ⟨none, H, I, .none, h⟩
theorem aZL (h : PE X e te) : PO X (some e) (tPart te) := by
  intro pins s σ H Q I hw
  rw [evalPart_some]
  refine thn (h pins s σ H _ I hw) fun u s1 ⟨x, H1, I1, r1, q1⟩ => ?_
  obtain ⟨i, rfl, q⟩ := q1
  obtain ⟨t, rfl⟩ := r1
  exact ⟨some i, H1, I1, .int i t, q⟩
def SlR (X : Cx) (r : V -> Option Int -> Option Int -> Hp -> VK -> Prop) : Prop :=
  ∀ (pins : List (Addr × Obj)) (s : Shared) (σ : St) (H : Hp) (x : V) (v vl vu : Value) (lo hi : Option Int) (sl : Addr) (Q : VK), Inv X pins σ H s -> RelV x v -> s.heap.IsSliceOf sl vl vu .none -> IsPart vl lo -> IsPart vu hi -> r x lo hi H Q ->
    ∃ T id, typeLookup (.type T) "__getitem__" = pure (some (.builtin id)) /\ s.TypeIs v T /\ wpAny (model X.prog X.w) X.A (getItem v (.ref sl)) (EP X pins σ Q) X.xe s
def tSl (r : V -> Option Int -> Option Int -> Hp -> VK -> Prop) (te : TE) (tl th : TO) : TE := fun σ H Q => te σ H fun x H1 => tl σ H1 fun l H2 => th σ H2 fun u H3 => r x l u H3 Q
theorem aWU {r : V -> Option Int -> Option Int -> Hp -> VK -> Prop} (hr : SlR X r) (he : PE X e te) (hl : PO X lo tl) (hu : PO X hi th) : PE X (.Subscript e (.Slice lo hi none p2) pos) (tSl r te tl th) := by
  intro pins s σ H Q I h
  refine Subscript_ (thn (he pins s σ H _ I h) fun v s1 ⟨x, H1, I1, r1, q1⟩ => ?_)
  refine wpAny_Slice (thn (hl pins s1 σ H1 _ I1 q1) fun vl s2 ⟨l, H2, I2, pl, q2⟩ => thn (hu pins s2 σ H2 _ I2 q2) fun vu s3 ⟨u, H3, I3, pu, q3⟩ => ?_)
  rw [evalPart_none]
  refine wpAny_pure ?_
  have I4 : Inv X pins σ H3 { s3 with heap := s3.heap.push { cls := .type "slice", data := .fields #[vl, vu, .none] } } := I3.kept (t' := s3.toks) fun b ob q => Heap.get?_push_of_some _ q
  obtain ⟨T, id, hT, ht, hg⟩ := hr pins { s3 with heap := s3.heap.push { cls := .type "slice", data := .fields #[vl, vu, .none] } } σ H3 x v vl vu l u s3.heap.objs.size Q I4 r1 (Heap.IsSliceOf.new ..) pl pu q3
  show wpAny (model X.prog X.w) X.A (subscriptTail e (.Slice lo hi none p2) v (.ref s3.heap.objs.size)) (EP X pins σ Q) X.xe { s3 with heap := s3.heap.push { cls := .type "slice", data := .fields #[vl, vu, .none] } }
  exact tail_any (ops := [.ref s3.heap.objs.size, v]) ht hT hg (by with_unfolding_all rfl)
def cutV (xs : List V) (lo hi : Option Int) : List V := (xs.drop (HT.sIx xs.length 0 lo)).take (HT.sIx xs.length xs.length hi - HT.sIx xs.length 0 lo)
theorem aOL (xs : List V) (lo hi : Option Int) : (cutV xs lo hi).length <= xs.length := by
  unfold cutV
  rw [List.length_take, List.length_drop]
  omega
end
end L2
namespace L2
open PySem PySem.Spec PyProof.Rows
def ixN (n : Nat) (i : Int) : Option Nat := if 0 <= i then (if i < n then some i.toNat else none) else if -(n : Int) <= i then some (i + n).toNat else none
def atI {α : Type} (xs : List α) (i : Int) : Option α := (ixN xs.length i).bind fun j => xs[j]?
theorem aUH {n : Nat} {i : Int} {j : Nat} (h : ixN n i = some j) : seqIndex? i n = some j /\ j < n /\ -(n : Int) <= i /\ i < n := by
  unfold ixN at h
  by_cases h0 : 0 <= i
  . rw [if_pos h0] at h
    by_cases h1 : i < n
    . rw [if_pos h1] at h
      have e : i.toNat = j := Option.some.inj h
      exact ⟨by rw [seqIndex_of h0 h1, e], by omega, by omega, h1⟩
    . rw [if_neg h1] at h; cases h
  . rw [if_neg h0] at h
    by_cases h1 : -(n : Int) <= i
    . rw [if_pos h1] at h
      have e : (i + n).toNat = j := Option.some.inj h
      exact ⟨by rw [seqIndex_neg (by omega) h1, e], by omega, h1, by omega⟩
    . rw [if_neg h1] at h; cases h
theorem aOY {α : Type} {xs : List α} {i : Int} {v : α} (h : atI xs i = some v) : ∃ j, seqIndex? i xs.length = some j /\ xs[j]? = some v /\ j < xs.length /\ -(xs.length : Int) <= i /\ i < xs.length := by
  unfold atI at h
  cases e : ixN xs.length i with
  | none => rw [e] at h; cases h
  | some j =>
    rw [e] at h
    obtain ⟨h1, h2, h3, h4⟩ := aUH e
    exact ⟨j, h1, h, h2, h3, h4⟩
theorem aVY {α : Type} {xs : List α} {j : Nat} {v : α} (h : xs[j]? = some v) : atI xs (j : Int) = some v := by
  have hj : j < xs.length := (List.getElem?_eq_some_iff.mp h).1
  have e : ixN xs.length (j : Int) = some j := by
    unfold ixN
    rw [if_pos (by omega), if_pos (by omega)]; simp
  unfold atI; rw [e]; exact h
theorem aXM {α : Type} (xs : List α) (v : α) : atI (xs ++ [v]) (-1) = some v := by
  have hl : (xs ++ [v]).length = xs.length + 1 := by simp
  have e : ixN (xs ++ [v]).length (-1) = some xs.length := by
    unfold ixN
    rw [hl, if_neg (by decide), if_pos (by omega)]
    congr 1
    omega
  unfold atI
  rw [e]
  show (xs ++ [v])[xs.length]? = some v
  simp
def PlainIx (b : Expr) : Prop := ∀ o i, subscripted b false o i = operate [o, i] (getItem o i)
def IxR (X : Cx) (r : R2) : Prop :=
  ∀ (value slice : Expr) (pins : List (Addr × Obj)) (s : Shared) (σ : St) (H : Hp) (x y : V) (v u : Value) (Q : VK), Inv X pins σ H s -> RelV x v -> RelV y u -> r x y H Q ->
    subscripted slice false v u = operate [v, u] (getItem v u) -> wpAny (model X.prog X.w) X.A (subscriptTail value slice v u) (EP X pins σ Q) X.xe s
def MtR (X : Cx) (id : String) (r : V -> List V -> Hp -> VK -> Prop) : Prop :=
  ∀ (pins : List (Addr × Obj)) (s : Shared) (σ : St) (H : Hp) (x : V) (xs : List V) (v : Value) (us : List Value) (Q : VK), Inv X pins σ H s -> RelV x v -> Vals xs us -> r x xs H Q ->
    wpAny (model X.prog X.w) X.A (call (.builtin id) (v :: us)) (EP X pins σ Q) X.xe s
section
variable {X : Cx} {a b : Expr} {ta tb : TE} {pos : Pos}
theorem eCH {r : R2} (hr : IxR X r) (ha : PE X a ta) (hb : PE X b tb) (hs : PlainIx b) : PE X (.Subscript a b pos) (tOp r ta tb) := by
  intro pins s σ H Q I h
  exact Subscript_ (binT ha hb I h fun v u s2 x y H2 I2 rx ry q => hr a b pins s2 σ H2 x y v u Q I2 rx ry q (hs _ _))
def rIxL (K : PySem.W.Frag) : R2 := fun x y H Q => ∃ p xs i v, x = .ref p /\ y = .int i /\ SqL K H p xs /\ atI xs i = some v /\ Q v H
def rIxT (K : PySem.W.Frag) : R2 := fun x y H Q => ∃ p xs i v, x = .ref p /\ y = .int i /\ SqT K H p xs /\ atI xs i = some v /\ Q v H
theorem eAA : IxR X (rIxL X.K) := by
  intro value slice pins s σ H x y v u Q I rx ry h hs
  obtain ⟨p, xs, i, z, rfl, rfl, hq, he, q⟩ := h
  cases rx
  obtain ⟨t, rfl⟩ := ry
  obtain ⟨its, r, pl, hz⟩ := I.list hq
  obtain ⟨j, h1, h2, h3, h4, h5⟩ := aOY he
  obtain ⟨w, ew, rw'⟩ := r.get h2
  have hl := r.length
  have hn := line63
  have fin : EP X pins σ Q w s := ⟨z, H, I, rw', q⟩
  by_cases h0 : 0 <= i
  . have hj : i.toNat = j := by
      rw [seqIndex_of h0 h5] at h1
      exact Option.some.inj h1
    exact item_listR pl.isList h0 (by omega) (by rw [hj]; simpa using ew) fin hs
  . have hj : (i + (its.toArray.size : Int)).toNat = j := by
      rw [seqIndex_neg (by omega) h4] at h1
      rw [List.size_toArray, <- hl]
      exact Option.some.inj h1
    exact subscriptTail_builtinR (x := w) pl.isList.typeIs slot_list_getitem.lookup
      (wpAny_getItem_list_neg (Q := fun r s' => r = w /\ EP X pins σ Q r s') pl.isList (by omega) (by rw [List.size_toArray] <;> omega) (by omega) (by rw [hj]; simpa using ew) ⟨rfl, fin⟩) hs
theorem eDA : IxR X (rIxT X.K) := by
  intro value slice pins s σ H x y v u Q I rx ry h hs
  obtain ⟨p, xs, i, z, rfl, rfl, hq, he, q⟩ := h
  cases rx
  obtain ⟨t, rfl⟩ := ry
  obtain ⟨its, r, pl, hz⟩ := I.tuple hq
  obtain ⟨j, h1, h2, h3, h4, h5⟩ := aOY he
  obtain ⟨w, ew, rw'⟩ := r.get h2
  have hl := r.length
  have hn := line63
  have fin : EP X pins σ Q w s := ⟨z, H, I, rw', q⟩
  exact subscriptTail_builtinR (x := w) pl.typeIs slot_tuple_getitem.lookup
    (getItem_tuple (j := j) (Q := fun r s' => r = w /\ EP X pins σ Q r s') pl (by omega) (by omega) (by rw [List.size_toArray, <- hl]; exact h1) (by simpa using ew) ⟨rfl, fin⟩) hs
theorem aRG (its : List Value) (n j : Nat) (u : Value) : Obj.mapSeq (·.setIfInBounds j u) { cls := .type "list", data := .seq its.toArray n } = { cls := .type "list", data := .seq (its.set j u).toArray n } := by
  simp [Obj.mapSeq]
theorem Inv.lst {pins : List (Addr × Obj)} {σ : St} {H : Hp} {s : Shared} {p : Addr} {xs : List V} (I : Inv X pins σ H s) (h : H p = some (.lst xs)) :
    ∃ (its : List Value) (n : Nat), Vals xs its /\ s.heap.get? p = some { cls := .type "list", data := .seq its.toArray n } /\ xs.length <= sizeLine := by
  obtain ⟨z, its, n, r, e⟩ := I.hok p _ h
  exact ⟨its, n, r, e, z⟩
theorem Inv.lstUpd {pins : List (Addr × Obj)} {σ : St} {H : Hp} {s : Shared} {p : Addr} {xs ys : List V} {its its' : List Value} {n n' : Nat} {f : Obj -> Obj} (I : Inv X pins σ H s) (h : H p = some (.lst xs))
    (ho : s.heap.get? p = some { cls := .type "list", data := .seq its.toArray n }) (hf : f { cls := .type "list", data := .seq its.toArray n } = { cls := .type "list", data := .seq its'.toArray n' }) (r : Vals ys its') (hz : ys.length <= sizeLine) (t : Nat) :
    Inv X pins σ (upd H p (.lst ys)) { s with heap := s.heap.update p f, toks := t } := by
  have e : (s.heap.update p f).get? p = some { cls := .type "list", data := .seq its'.toArray n' } := by
    rw [Heap.get?_update_self f ho (by rw [hf] <;> rfl), hf]
  refine I.write (x := p) (e := p) (by rw [h]; trivial) (.inl rfl) (fun b u hb q => (Heap.get?_update_other _ _ (Ne.symm hb)).trans q) ⟨_, e⟩ ?_
  exact ⟨hz, its', n', r, e⟩
def rSetL : V -> V -> V -> Hp -> (Hp -> Prop) -> Prop := fun o i v H Q => ∃ p xs k j, o = .ref p /\ i = .int k /\ H p = some (.lst xs) /\ ixN xs.length k = some j /\ Q (upd H p (.lst (xs.set j v)))
theorem aPI : PSet X rSetL := by
  intro pins s σ H o i v ov iv u Q I ro ri rv h
  obtain ⟨p, xs, k, j, rfl, rfl, hp, hj, q⟩ := h
  cases ro
  obtain ⟨t, rfl⟩ := ri
  obtain ⟨its, n, r, ho, hz⟩ := I.lst hp
  obtain ⟨h1, h2, h3, h4⟩ := aUH hj
  have hl := r.length
  have hn := line63
  have I' : Inv X pins σ (upd H p (.lst (xs.set j v))) { s with heap := s.heap.update p (Obj.mapSeq (·.setIfInBounds j u)) } :=
    I.lstUpd hp ho (aRG its n j u) (r.set rv j) (by rw [List.length_set]; exact hz) s.toks
  by_cases h0 : 0 <= k
  . have hk : k.toNat = j := by
      rw [seqIndex_of h0 h4] at h1
      exact Option.some.inj h1
    exact PySem.W.ki_setAt ho h0 (by omega) (by rw [List.size_toArray, <- hl]; exact h4) (by rw [hk]; exact ⟨_, I', q⟩)
  . have hk : (k + (its.toArray.size : Int)).toNat = j := by
      rw [seqIndex_neg (by omega) h3] at h1
      rw [List.size_toArray, <- hl]
      exact Option.some.inj h1
    exact PySem.W.ki_setBack ho (by omega) (by rw [List.size_toArray, <- hl]; exact h3) (by omega) (by rw [hk]; exact ⟨_, I', q⟩)
theorem aLC (lo hi : Option Int) (n : Nat) : (sliceBounds lo hi none n).1 = ((HT.sIx n 0 lo : Nat) : Int) /\ (sliceBounds lo hi none n).2.1 = ((HT.sIx n n hi : Nat) : Int) /\ (sliceBounds lo hi none n).2.2 = 1 := by
  refine ⟨?_, ?_, rfl⟩
  . cases lo with
    | none => simp [sliceBounds, HT.sIx]
    | some i =>
      simp only [sliceBounds, HT.sIx, Option.getD_none, show (1 : Int) > 0 by decide, if_true]
      by_cases h : i < 0
      . simp only [h, if_true] <;> omega
      . simp only [h, if_false] <;> omega
  . cases hi with
    | none => simp [sliceBounds, HT.sIx]
    | some i =>
      simp only [sliceBounds, HT.sIx, Option.getD_none, show (1 : Int) > 0 by decide, if_true]
      by_cases h : i < 0
      . simp only [h, if_true] <;> omega
      . simp only [h, if_false] <;> omega
theorem aIN (its : List Value) (lo hi : Option Int) : slicePick its.toArray lo hi none = ((its.drop (HT.sIx its.length 0 lo)).take (HT.sIx its.length its.length hi - HT.sIx its.length 0 lo)).toArray := by
  obtain ⟨h1, h2, h3⟩ := aLC lo hi its.toArray.size
  unfold slicePick
  rw [h1, h2, h3]
  simp only [sliceRange_one, pick_run, List.size_toArray] <;> rfl
def rSlL (K : PySem.W.Frag) : V -> Option Int -> Option Int -> Hp -> VK -> Prop := fun x lo hi H Q => ∃ a xs, x = .ref a /\ SqL K H a xs /\ ∀ p, H p = none -> Q (.ref p) (upd H p (.lst (cutV xs lo hi)))
theorem aYU : SlR X (rSlL X.K) := by
  intro pins s σ H x v vl vu lo hi sl Q I rx hs pl pu h
  obtain ⟨a, xs, rfl, hx, q⟩ := h
  cases rx
  obtain ⟨its, r, ht, hz⟩ := I.list hx
  have hlen := r.length
  refine ⟨"list", _, slot_list_getitem.lookup, ht.isList.typeIs, ?_⟩
  refine wpAny_getItem_list_slice ht.isList hs pl pu .none (by simp) ?_ (by rw [List.size_toArray] <;> omega)
  rw [aIN, <- hlen]
  refine ⟨.ref s.heap.objs.size, _, I.laid (t' := s.toks) (o := .lst (cutV xs lo hi)) (fun b ob q => Heap.get?_push_of_some _ q) (Nat.le_refl _) ?_, rfl, q _ (I.hok.fresh (Nat.le_refl _))⟩
  exact ⟨Nat.le_trans (aOL xs lo hi) hz, _, 0, (r.drop (HT.sIx xs.length 0 lo)).take (HT.sIx xs.length xs.length hi - HT.sIx xs.length 0 lo), Heap.get?_push_size _ rfl⟩
theorem aMV : CallR X (.builtin "len") (fun xs H Q => ∃ p ys, xs = [.ref p] /\ (SqL X.K H p ys \/ SqT X.K H p ys) /\ Q (.int ys.length) H) := by
  intro pins s σ H xs us Q I r h
  obtain ⟨p, ys, rfl, hq, q⟩ := h
  obtain ⟨u, rfl, rx⟩ := vals1 r
  cases rx
  have hn := line63
  rcases hq with hq | hq
  . obtain ⟨its, r', pl, hz⟩ := I.list hq
    have hlen := r'.length
    exact Calls.call_len_list pl.isList (by simp only [List.size_toArray] <;> omega) ⟨.int ys.length, H, I.tok _, ⟨s.toks + 1, by rw [List.size_toArray, hlen]⟩, q⟩
  . obtain ⟨its, r', pl, hz⟩ := I.tuple hq
    have hlen := r'.length
    exact len_tuple pl (by simp only [List.size_toArray] <;> omega) ⟨.int ys.length, H, I.tok _, ⟨s.toks + 1, by rw [List.size_toArray, hlen]⟩, q⟩
theorem aMU : CallR X (.type "list") (fun xs H Q => ∃ p ys, xs = [.ref p] /\ (SqL X.K H p ys \/ SqT X.K H p ys) /\ ∀ l, H l = none -> Q (.ref l) (upd H l (.lst ys))) := by
  intro pins s σ H xs us Q I r h
  obtain ⟨p, ys, rfl, hq, q⟩ := h
  obtain ⟨u, rfl, rx⟩ := vals1 r
  cases rx
  have fin : ∀ (its : List Value), Vals ys its -> ys.length <= sizeLine -> ∀ (h' : Heap) (c' : Nat), (∀ b o', s.heap.get? b = some o' -> h'.get? b = some o') ->
      h'.get? s.heap.objs.size = some { cls := .type "list", dict := none, data := .seq its.toArray c', slots := #[] } -> EP X pins σ Q (.ref s.heap.objs.size) { s with heap := h' } := fun its r' hz h' c' kp e =>
    ⟨.ref s.heap.objs.size, _, I.laid (t' := s.toks) kp (Nat.le_refl _) (show ObjOk X.prog X.w _ h' _ (.lst ys) from ⟨hz, its, c', r', e⟩), rfl, q _ (I.hok.fresh (Nat.le_refl _))⟩
  rcases hq with hq | hq
  . obtain ⟨its, r', pl, hz⟩ := I.list hq
    have hlen := r'.length
    obtain ⟨o, ho, hc, n, hd⟩ := pl.isList
    exact call_list_seq p (.inl rfl) ho hc hd (fun h' c' kp e => fin its r' hz h' c' kp e) (by simp only [List.size_toArray] <;> omega)
  . obtain ⟨its, r', pl, hz⟩ := I.tuple hq
    have hlen := r'.length
    obtain ⟨o, ho, hc, n, hd⟩ := pl
    exact call_list_seq p (.inr rfl) ho hc hd (fun h' c' kp e => fin its r' hz h' c' kp e) (by simp only [List.size_toArray] <;> omega)
theorem aKN : CallR X (.type "tuple") (fun xs H Q => ∃ p ys, xs = [.ref p] /\ ((SqL X.K H p ys /\ ∀ l, H l = none -> Q (.ref l) (upd H l (.tup ys))) \/ (SqT X.K H p ys /\ Q (.ref p) H))) := by
  intro pins s σ H xs us Q I r h
  obtain ⟨p, ys, rfl, h⟩ := h
  obtain ⟨u, rfl, rx⟩ := vals1 r
  cases rx
  rcases h with ⟨hq, q⟩ | ⟨hq, q⟩
  . obtain ⟨its, r', pl, hz⟩ := I.list hq
    have hlen := r'.length
    refine call_tuple_list pl.isList (fun h' kp => ?_) (by simp only [List.size_toArray] <;> omega)
    have I1 : Inv X pins σ H { s with heap := h' } := I.kept (t' := s.toks) kp
    have I2 : Inv X pins σ (upd H h'.objs.size (.tup ys)) { s with heap := h'.push { cls := .type "tuple", data := .seq its.toArray } } :=
      I1.laid (t' := s.toks) (fun b o e => Heap.get?_push_of_some _ e) (Nat.le_refl _) (show ObjOk X.prog X.w _ _ _ (.tup ys) from ⟨hz, its, r', IsTup.new _ _⟩)
    exact ⟨.ref h'.objs.size, _, I2, rfl, q _ (I1.hok.fresh (Nat.le_refl _))⟩
  . obtain ⟨its, r', pl, hz⟩ := I.tuple hq
    exact call_tuple_same pl ⟨.ref p, H, I, rfl, q⟩
def tyV (K : PySem.W.Frag) (T : String) (x : V) (H : Hp) : Prop := match x with
  | .str _ => T = "str"
  | .int _ => T = "int"
  | .ref p => (T = "list" /\ ∃ xs, SqL K H p xs) \/ (T = "tuple" /\ ∃ o, K.lookup p = some o /\ o.cls = .type "tuple" /\ o.dict = none) \/
      (T = "dict" /\ ((∃ kvs, H p = some (.dK kvs)) \/ ∃ kvs, H p = some (.dT kvs))) \/ (T = "set" /\ ∃ S n, H p = some (.set S n))
  | _ => False
theorem aXS {pins : List (Addr × Obj)} {σ : St} {H : Hp} {s : Shared} {T : String} {x : V} {v : Value} (I : Inv X pins σ H s) (r : RelV x v) (ty : tyV X.K T x H) :
    s.TypeIs v T /\ ∀ a, v = .ref a -> ∃ ob, s.heap.get? a = some ob /\ ob.dict = none := by
  cases x with
  | str z =>
    obtain ⟨t, rfl⟩ := r
    cases (show T = "str" from ty)
    exact ⟨typeIs_str s z t, fun _ e => nomatch e⟩
  | int i =>
    obtain ⟨t, rfl⟩ := r
    cases (show T = "int" from ty)
    exact ⟨typeIs_int s i t, fun _ e => nomatch e⟩
  | ref p =>
    cases r
    rcases ty with ⟨rfl, xs, hq⟩ | ⟨rfl, o, hk, hc, hd⟩ | ⟨rfl, hk⟩ | ⟨rfl, S, n, hk⟩
    . obtain ⟨its, _, pl, _⟩ := I.list hq
      refine ⟨pl.isList.typeIs, fun a e => ?_⟩
      cases e
      obtain ⟨o, n, e, c, hd, _⟩ := pl
      exact ⟨o, e, hd⟩
    . refine ⟨⟨o, I.kIn p o hk, hc⟩, fun a e => ?_⟩
      cases e
      exact ⟨o, I.kIn _ o hk, hd⟩
    . have z : ∃ o, s.heap.get? p = some o /\ o.ExactDict := by
        rcases hk with ⟨kvs, hk⟩ | ⟨kvs, hk⟩
        . obtain ⟨_, _, _, _, o, _, _, e, ex, _⟩ := I.hok p _ hk
          exact ⟨o, e, ex⟩
        . obtain ⟨_, _, _, _, o, _, _, e, ex, _⟩ := I.hok p _ hk
          exact ⟨o, e, ex⟩
      obtain ⟨o, e, ex⟩ := z
      refine ⟨⟨o, e, ex.1⟩, fun a e2 => ?_⟩
      cases e2
      exact ⟨o, e, ex.2.1⟩
    . obtain ⟨o, _, _, _, e, ex, _⟩ := I.hok p _ hk
      refine ⟨⟨o, e, ex.1⟩, fun a e2 => ?_⟩
      cases e2
      exact ⟨o, e, ex.2.1⟩
  | _ => exact False.elim ty
def tBM0 (K : PySem.W.Frag) (T : String) (r : V -> List V -> Hp -> VK -> Prop) (to : TE) : TE := fun σ H Q => to σ H fun x H1 => tyV K T x H1 /\ r x [] H1 Q
def tBM (K : PySem.W.Frag) (T : String) (r : V -> List V -> Hp -> VK -> Prop) (to : TE) (t : TA) : TE := fun σ H Q => to σ H fun x H1 => tyV K T x H1 /\ t σ H1 fun xs H2 => r x xs H2 Q
variable {o e : Expr} {es : List Expr} {to : TE} {t : TA} {name : Str} {apos cpos : Pos} {T id : String} {r : V -> List V -> Hp -> VK -> Prop}
theorem aTK (pa : PlainAttrs T) (slot : Slot T name id) (hty : typeOf (.builtin id) = pure (.type "method_descriptor")) (hm : MtR X id r) (ho : PE X o to)
    (hbase : attributeBase o name X.env (eval o X.env) = eval o X.env := by rfl) (hline : (apos.endLine == cpos.line) = true := by rfl) : PE X (.Call (.Attribute o name apos) [] [] cpos) (tBM0 X.K T r to) := by
  intro pins s σ H Q I h
  refine wpAny_Call_method0_late hbase hline (thn (ho pins s σ H _ I h) fun v s1 ⟨x, H1, I1, r1, ty, q1⟩ => ?_)
  obtain ⟨h1, h2⟩ := aXS I1 r1 ty
  exact ⟨T, id, pa, slot, hty, h1, h2, Calls.callWith_builtin rfl (PySem.evalArgs_none (hm pins s1 σ H1 x [] v [] Q I1 r1 .nil q1))⟩
theorem eDW (pa : PlainAttrs T) (slot : Slot T name id) (hty : typeOf (.builtin id) = pure (.type "method_descriptor")) (hm : MtR X id r) (ho : PE X o to) (ha : PA X (e :: es) t)
    (hbase : attributeBase o name X.env (eval o X.env) = eval o X.env := by rfl)
    (hfew : ((backTo cpos (starEach (e :: es) X.env)).all (fun x => !x.1) && (backToKw cpos (keywordEach [] X.env)).all (fun x => x.1.isSome)
      && decide ((e :: es).length + ([] : List Keyword).length + (if ([] : List Keyword).isEmpty then 0 else 1) < 30)) = true := by rfl)
    (hline : (apos.endLine == cpos.line) = true := by rfl) (hs : starEach (e :: es) X.env = (false, eval e X.env) :: starEach es X.env := by rfl) (hplain : (backTo cpos (starEach es X.env)).any (·.1) = false := by rfl) :
    PE X (.Call (.Attribute o name apos) (e :: es) [] cpos) (tBM X.K T r to t) := by
  intro pins s σ H Q I h
  refine wpAny_Call_method_late hbase hfew hline rfl (thn (ho pins s σ H _ I h) fun v s1 ⟨x, H1, I1, r1, ty, q1⟩ => ?_)
  obtain ⟨h1, h2⟩ := aXS I1 r1 ty
  refine ⟨T, id, pa, slot, hty, h1, h2, ?_⟩
  have hA := ha cpos pins s1 σ H1 _ I1 q1
  rw [hs] at hA ⊢
  refine Calls.callWith_builtin (by show (false || (backTo cpos (starEach es X.env)).any (·.1)) = false; rw [hplain] <;> rfl) (Calls.evalArgs_plain ?_)
  exact thn hA fun us s2 ⟨vs, H2, I2, r2, q2⟩ => hm pins s2 σ H2 x vs v us Q I2 r1 r2 q2
/- xs.append(e), list.index on a module's tuple .. are MtR facts of 06m -/
end
end L2
namespace L2
open PySem PySem.Spec PyProof.Rows
def MtM (X : Cx) (id : String) (r : V -> List V -> Hp -> VK -> Prop) : Prop :=
  ∀ (pins : List (Addr × Obj)) (s : Shared) (σ : St) (H : Hp) (x : V) (xs : List V) (v : Value) (us : List Value) (Q : VK), Inv X pins σ H s -> RelV x v -> Vals xs us -> r x xs H Q ->
    wpAny (model X.prog X.w) X.A (call (.builtin id) (v :: us)) (EP X pins σ Q) X.xe s
theorem Vals.one : ∀ {x : V} {us : List Value}, Vals [x] us -> ∃ u, us = [u] /\ RelV x u
  | _, _, .cons r .nil => ⟨_, rfl, r⟩
theorem Vals.zero : ∀ {us : List Value}, Vals [] us -> us = []
  | _, .nil => rfl
theorem Vals.dropLast {xs : List V} {us : List Value} (h : Vals xs us) : Vals xs.dropLast us.dropLast := by
  induction h with
  | nil => exact .nil
  | cons r t ih =>
    cases t with
    | nil => exact .nil
    | cons q t' => exact .cons r ih
theorem Vals.reverse {xs : List V} {us : List Value} (h : Vals xs us) : Vals xs.reverse us.reverse := by
  induction h with
  | nil => exact .nil
  | cons r t ih => rw [List.reverse_cons, List.reverse_cons]; exact Vals.append ih (.cons r .nil)
theorem Vals.rep {xs : List V} {us : List Value} (h : Vals xs us) : ∀ k : Nat, Vals (List.replicate k xs).flatten (List.replicate k us).flatten
  | 0 => .nil
  | k + 1 => by
    rw [List.replicate_succ, List.replicate_succ, List.flatten_cons, List.flatten_cons]
    exact Vals.append h (Vals.rep h k)
theorem aRO {α : Type} (l : List α) : l.eraseIdx (l.length - 1) = l.dropLast := by
  induction l with
  | nil => rfl
  | cons a r ih =>
    cases r with
    | nil => rfl
    | cons b r =>
      have e : (a :: b :: r).length - 1 = ((b :: r).length - 1) + 1 := by
        have h1 : (a :: b :: r).length = r.length + 2 := rfl
        have h2 : (b :: r).length = r.length + 1 := rfl
        omega
      rw [e, List.eraseIdx_cons_succ, ih]
      all_goals rfl
theorem aMM (its : List Value) : ∀ (k : Nat) (acc : List Value),
    List.foldl (fun x1 x2 => x1 ++ x2) acc.toArray (List.replicate k its.toArray) = (acc ++ (List.replicate k its).flatten).toArray
  | 0, acc => by simp
  | k + 1, acc => by
    have e : acc.toArray ++ its.toArray = (acc ++ its).toArray := by simp
    have e2 : (acc ++ its) ++ (List.replicate k its).flatten = acc ++ (List.replicate (k + 1) its).flatten := by
      rw [List.replicate_succ, List.flatten_cons, List.append_assoc]
    rw [<- e2, <- aMM its k (acc ++ its), <- e, List.replicate_succ, List.foldl_cons]
section
variable {X : Cx} {pins : List (Addr × Obj)} {σ : St} {H : Hp} {s : Shared} {l b : Addr} {xs ys zs : List V}
theorem Inv.lset {its its' : List Value} {n : Nat} {f : Array Value -> Array Value} {t' : Nat} (I : Inv X pins σ H s) (hH : H l = some (.lst xs))
    (e : s.heap.get? l = some { cls := .type "list", data := .seq its.toArray n }) (hf : f its.toArray = its'.toArray) (hv : Vals ys its') (hz : ys.length <= sizeLine) :
    Inv X pins σ (upd H l (.lst ys)) { s with heap := s.heap.update l (Obj.mapSeq f), toks := t' } := by
  have q := PySem.IsL.update e f
  rw [hf] at q
  refine I.write (x := l) (e := l) (by rw [hH]; exact trivial) (.inl rfl) (fun b' u hb hu => (Heap.get?_update_other s.heap (Obj.mapSeq f) (Ne.symm hb)).trans hu) ⟨_, q⟩ ?_
  exact ⟨hz, its', _, hv, q⟩
theorem Inv.lnew {its : List Value} {t' : Nat} (I : Inv X pins σ H s) (hv : Vals ys its) (hz : ys.length <= sizeLine) :
    Inv X pins σ (upd H s.heap.objs.size (.lst ys)) { s with heap := s.heap.push { cls := .type "list", data := .seq its.toArray }, toks := t' } :=
  I.laid (fun _ _ q => Heap.get?_push_of_some _ q) (Nat.le_refl _) ⟨hz, its, 0, hv, Heap.get?_push_size _ rfl⟩
theorem Inv.fresh (I : Inv X pins σ H s) : H s.heap.objs.size = none := I.hok.fresh (Nat.le_refl _)
theorem Inv.lstM (I : Inv X pins σ H s) (hH : H l = some (.lst xs)) : xs.length <= sizeLine /\ ∃ (its : List Value) (n : Nat), Vals xs its /\ xs.length = its.length /\ s.heap.get? l = some { cls := .type "list", data := .seq its.toArray n } := by
  obtain ⟨z, its, n, r, e⟩ := I.hok l _ hH
  exact ⟨z, its, n, r, r.length, e⟩
theorem notLongL {n : Nat} (h : n <= sizeLine) : Builtin.List.listTooLong n = false := by
  unfold Builtin.List.listTooLong
  exact decide_eq_false (by omega)
end
section
variable {X : Cx}
def rAppend : V -> List V -> Hp -> VK -> Prop := fun x vs H Q => ∃ l xs y, x = .ref l /\ vs = [y] /\ H l = some (.lst xs) /\ xs.length < sizeLine /\ Q .non (upd H l (.lst (xs ++ [y])))
theorem aMB : MtM X "list.append" rAppend := by
  intro pins s σ H x vs v us Q I rx rv h
  obtain ⟨l, xs, y, rfl, rfl, hH, hz, q⟩ := h
  cases rx
  obtain ⟨u, rfl, ru⟩ := rv.one
  obtain ⟨z, its, n, r, hl, e⟩ := I.lstM hH
  refine call_meets F.slot_list_append ⟨_, e, rfl⟩ F.entry_list_append (F.args_list_append_2 _ _) (PySem.list_append l its.toArray n u (by rw [List.size_toArray]; omega)) ⟨e, ?_⟩
  refine ⟨.non, _, I.lset (its' := its ++ [u]) hH e (by simp) (r.append (.cons ru .nil)) ?_, rfl, q⟩
  rw [List.length_append, List.length_singleton]
  omega
def rExtend : V -> List V -> Hp -> VK -> Prop := fun x vs H Q => ∃ l b xs zs, x = .ref l /\ vs = [.ref b] /\ H l = some (.lst xs) /\ H b = some (.lst zs) /\ xs.length + zs.length <= sizeLine /\ Q .non (upd H l (.lst (xs ++ zs)))
theorem eCT : MtM X "list.extend" rExtend := by
  intro pins s σ H x vs v us Q I rx rv h
  obtain ⟨l, b, xs, zs, rfl, rfl, hH, hB, hz, q⟩ := h
  cases rx
  obtain ⟨u, rfl, ru⟩ := rv.one
  cases ru
  obtain ⟨z, its, n, r, hl, e⟩ := I.lstM hH
  obtain ⟨z2, its2, n2, r2, hl2, e2⟩ := I.lstM hB
  have hsz : its.toArray.size + its2.toArray.size <= sizeLine := by rw [List.size_toArray, List.size_toArray]; omega
  have hlong : ¬ (!its.toArray.isEmpty && Builtin.List.listTooLong (its.toArray.size + its2.toArray.size)) = true := by
    rw [notLongL hsz, Bool.and_false]
    exact Bool.false_ne_true
  refine call_meets F.slot_list_extend ⟨_, e, rfl⟩ F.entry_list_extend (F.args_list_extend_2 _ _)
    (AutoSeq1.list_extend_list_list_0 l its.toArray n b its2.toArray n2 hlong (by rw [List.size_toArray]; omega) (by omega)) ⟨e, e2, ?_⟩
  refine ⟨.non, _, I.lset (its' := its ++ its2) hH e (by simp) (r.append r2) ?_, rfl, q⟩
  rw [List.length_append]
  omega
def rPop : V -> List V -> Hp -> VK -> Prop := fun x vs H Q => ∃ l xs y, x = .ref l /\ vs = [] /\ H l = some (.lst xs) /\ xs[xs.length - 1]? = some y /\ Q y (upd H l (.lst xs.dropLast))
theorem aTU : MtM X "list.pop" rPop := by
  intro pins s σ H x vs v us Q I rx rv h
  obtain ⟨l, xs, y, rfl, rfl, hH, hy, q⟩ := h
  cases rx
  have hus := rv.zero
  subst hus
  obtain ⟨z, its, n, r, hl, e⟩ := I.lstM hH
  obtain ⟨u, hu, ru⟩ := r.get hy
  have hy' : its.toArray[its.toArray.size - 1]? = some u := by
    show its.toArray[its.length - 1]? = some u
    rw [<- Array.getElem?_toList, <- hl]
    exact hu
  refine call_meets F.slot_list_pop ⟨_, e, rfl⟩ F.entry_list_pop (F.args_list_pop_1 _) (MeetsSeq.list_pop_last l its.toArray n u hy' (by rw [List.size_toArray]; omega)) ⟨e, ?_⟩
  refine ⟨y, _, I.lset (its' := its.dropLast) hH e ?_ r.dropLast ?_, ru, q⟩
  . show its.toArray.eraseIdxIfInBounds (its.toArray.size - 1) = its.dropLast.toArray
    rw [List.size_toArray, List.eraseIdxIfInBounds_toArray, aRO]
  . rw [List.length_dropLast]
    omega
def rCat : R2 := fun x y H Q => ∃ l b xs zs, x = .ref l /\ y = .ref b /\ H l = some (.lst xs) /\ H b = some (.lst zs) /\ xs.length + zs.length <= sizeLine /\ ∀ p, H p = none -> Q (.ref p) (upd H p (.lst (xs ++ zs)))
theorem eCR : OpR X (binaryOp .Add) rCat := by
  intro pins s σ H x y v u Q I rx ry h
  obtain ⟨l, b, xs, zs, rfl, rfl, hH, hB, hz, q⟩ := h
  cases rx
  cases ry
  obtain ⟨z, its, n, r, hl, e⟩ := I.lstM hH
  obtain ⟨z2, its2, n2, r2, hl2, e2⟩ := I.lstM hB
  refine PySem.P.add_list e e2 ?_ (by rw [List.size_toArray, List.size_toArray]; omega)
  have ea : its.toArray ++ its2.toArray = (its ++ its2).toArray := by simp
  rw [ea]
  exact ⟨.ref _, _, I.lnew (t' := s.toks) (r.append r2) (by rw [List.length_append]; omega), rfl, q _ I.fresh⟩
def rRep : R2 := fun x y H Q => ∃ l k xs, x = .ref l /\ y = .int k /\ H l = some (.lst xs) /\ -(2 ^ 63) <= k /\ k < 2 ^ 63 /\ xs.length * k.toNat <= sizeLine /\
  ∀ p, H p = none -> Q (.ref p) (upd H p (.lst (List.replicate k.toNat xs).flatten))
theorem aZY {α : Type} (xs : List α) (k : Nat) : (List.replicate k xs).flatten.length = k * xs.length := by
  induction k with
  | zero => simp
  | succ k ih => rw [List.replicate_succ, List.flatten_cons, List.length_append, ih, Nat.succ_mul, Nat.add_comm]
theorem eCL : OpR X (binaryOp .Mult) rRep := by
  intro pins s σ H x y v u Q I rx ry h
  obtain ⟨l, k, xs, rfl, rfl, hH, h1, h2, hz, q⟩ := h
  cases rx
  obtain ⟨t, rfl⟩ := ry
  obtain ⟨z, its, n, r, hl, e⟩ := I.lstM hH
  have hlen : its.toArray.size * k.toNat <= sizeLine := by rw [List.size_toArray, <- hl]; exact hz
  have hcap : ¬ its.toArray.size * k.toNat > (2 ^ 63 - 1) / 8 := by
    have : (sizeLine : Nat) <= (2 ^ 63 - 1) / 8 := by decide
    omega
  have hfit : ¬ (!Builtin.List.listFitsIndex k) = true := by
    rw [fitsIndex_both h1 h2]
    exact Bool.false_ne_true
  have hlong : ¬ Builtin.List.listTooLong (its.toArray.size * k.toNat) = true := by
    rw [notLongL hlen]
    exact Bool.false_ne_true
  have hnew : List.foldl (fun x1 x2 => x1 ++ x2) #[] (List.replicate (if its.toArray.isEmpty = true then 0 else k.toNat) its.toArray) = (List.replicate k.toNat its).flatten.toArray := by
    have f0 : ∀ m : Nat, List.foldl (fun x1 x2 => x1 ++ x2) #[] (List.replicate m its.toArray) = (List.replicate m its).flatten.toArray := fun m => by
      have := aMM its m []
      rw [List.nil_append] at this
      exact this
    rw [f0]
    cases its with
    | nil => simp
    | cons a r' => rw [if_neg (by simp)]
  refine wpAny_binaryOp_repeat_ref (T := "list") (U := "int") (by decide) ⟨_, e, rfl⟩ (fun s' => typeIs_int s' k t) noFill_list_mul F.fills_int_mul F.slot_int_rmul repeat_list F.slot_int_index.lookup
    (call_meets F.slot_int_rmul (typeIs_int s k t) F.entry_int_rmul (F.args_int_rmul_2 _ _) (int___rmul___int_list k t l its.toArray n)
      ⟨e, rfl, ⟨_, e, rfl⟩, call_meets F.slot_list_mul ⟨_, e, rfl⟩ F.entry_list_mul (F.args_list_mul_2 _ _) (AutoListH.list___mul___list_int_3 l its.toArray n k t hfit hcap hlong) ⟨e, ?_⟩⟩)
  rw [hnew]
  exact ⟨.ref _, _, I.lnew (t' := s.toks) (r.rep k.toNat) (by rw [aZY, Nat.mul_comm]; exact hz), rfl, q _ I.fresh⟩
end
section
variable {prog : Program} {w : World} {A : Around} {E : Value -> Shared -> Prop} {s : Shared}
end
section
variable {X : Cx}
end
end L2
namespace Att
open PySem PySem.W PySem.Calls PyProof.Rows
theorem aGJ {P : Params} {h : Heap} : ∀ (ns : List Int) (vs : List Value), WellAll P h vs (ns.map WData.int) -> IntsAre vs ns := by
  intro ns
  induction ns with
  | nil =>
    intro vs w
    rw [List.map_nil] at w
    cases w
    exact .nil
  | cons n ns ih =>
    intro vs w
    rw [List.map_cons] at w
    cases w with
    | cons a b =>
      cases a
      exact .cons _ _ (ih _ b)
theorem aSN {l : OpenLaw} {n : Nat} (hn : l.most = some n) {P : Params} {h : Heap} {args : List WData} {vals : List Value}
    (hpre : l.row.toRowW.claim.pre args = true) (hwl : WellAll P h vals args) :
    ∃ a vs ns, vals = [Value.ref a] /\ args = [WData.list (ns.map WData.int)] /\ h.get? a = some { cls := .type "list", data := .seq vs.toArray } /\ IntsAre vs ns /\ ns.length <= n := by
  have hsh : WShape.hasAll [] args [.list .int] = true := (pre_splitW hpre).1
  have hc : l.pre.holds [] { args := args } = true := (pre_splitW hpre).2
  obtain ⟨d, r, rfl, h1, h2⟩ := hasAllW_cons hsh
  obtain rfl := hasAllW_nil h2
  obtain ⟨xs, rfl, h3⟩ := hasW_list h1
  obtain ⟨ns, rfl⟩ := items_int h3
  have hlen : ns.length <= n := by
    unfold OpenLaw.pre at hc
    have h4 : (WTm.not (.lt (.lit (.int (n : Int))) (.len (.arg 0)))).holds [] { args := [.list (ns.map .int)] } = true := by
      have h4 := (holds_andW hc).1
      rw [hn] at h4
      exact h4
    have h5 := condW_of h4 (w_not (w_lt w_lit (w_len_list (w_arg rfl))))
    rw [List.length_map] at h5
    refine Nat.le_of_not_lt fun q => ?_
    have q' : (n : Int) < ((ns.length : Nat) : Int) := by omega
    first
      | (rw [decide_eq_true q'] at h5; exact absurd h5 (by decide))
      | (simp at h5; omega)
  cases hwl with
  | cons w1 w2 =>
    cases w2
    cases w1 with
    | list ho hall => exact ⟨_, _, ns, rfl, rfl, ho, aGJ ns _ hall, hlen⟩
theorem aTE (l : OpenLaw) (args : List WData) : l.row.toRowW.claim.post args (.bool true) args = true :=
  postW_of (r := l.row.toRowW) (X := (true == true))
    (show WShape.has [] (.bool true) .bool = true by first | rfl | decide | simp [WShape.has, WShape.arms, WShape.armsAll])
    (show (WTm.eq .res (.lit (.bool true))).value [] { args := args, res := some (.bool true), after := args } = some (.bool (true == true)) from w_eq_bool (w_res rfl) w_lit) rfl
theorem attach_call {l : OpenLaw} {n : Nat} {q : Program} {loose : List Str} {XP : (Str -> Option Value) -> Heap -> Prop} {YP : World -> Heap -> Prop} {d : DefRec}
    (hn : l.most = some n) (hdf : d.params.defaults = [])
    (call : ∀ (w : World) (s₀ s₁ : Shared) (mg mb : Str -> Option Value) (fa : Addr) (o : Obj) (pm cd doc : Value) (a : Addr) (vs : List Value) (ns : List Int),
      Ground q loose [] XP w s₀ mg mb s₁.heap -> YP w s₁.heap ->
      s₁.heap.get? fa = some o -> o.data = .func (docDef d.name d.params d.body d.scope pm cd doc) -> s₁.heap.CodeRec cd d.name -> mg d.name = some (.ref fa) ->
      s₁.heap.get? a = some { cls := .type "list", data := .seq vs.toArray } -> IntsAre vs ns -> ns.length <= n -> s₁.gens = #[] ->
      codeAny (model l.prog w) callerA (.call (.ref fa) ⟨[.ref a], []⟩) (fun r s' => r = .ok (.ret (.bool true)) /\ OldK s₁.heap s'.heap /\ s'.os = s₁.os /\ AllBare s'.gens) s₁) :
    WalkO q loose XP YP l.row.toRowW d [] (fun f vs => PySem.call f vs) := by
  intro w s₀ s₁ mg mb G Y fa o pm cd doc dV kV ho hd hcd hD hmg hg args vals as hpre hlay hrd hwl hlo
  obtain rfl : dV = .none := Dflts.none hD hdf
  obtain rfl : kV = .none := Dflts.noKw hD
  obtain ⟨a, vs, ns, rfl, rfl, hobj, hints, hlen⟩ := aSN hn hpre hwl
  refine enter_call (codeAny_mono (call w s₀ s₁ mg mb fa o pm cd doc a vs ns G Y ho (fd_plain hd) hcd hmg hobj hints hlen hg) fun r s' hq => ?_)
  obtain ⟨rfl, h2, h3, h4⟩ := hq
  exact ⟨.inl ⟨.bool true, .bool true, [], rfl, fun _ => rfl, .bool true, aTE l _, fun _ => ⟨List.Pairwise.nil, fun _ hm => (nomatch hm)⟩⟩, h2, h3, h4⟩
section
variable {prog : Program} {w : World} {A : Around} {E : Value -> Shared -> Prop} {s : Shared} {K : Frag}
def ledger (h : Heap) (L d : Addr) : List (Addr × Obj) := (List.range h.objs.size).filterMap fun a => if a = L \/ a = d then none else (h.get? a).map fun o => (a, o)
end
end Att
namespace L2
open PySem PySem.Spec PyProof.Rows
theorem aKS : ∀ {vs : List Value} {ns : List Int}, IntsAre vs ns -> Vals (ns.map V.int) vs
  | _, _, .nil => .nil
  | _, _, .cons n t h => .cons ⟨t, rfl⟩ (aKS h)
def Only (H : Hp) : Prop := ∀ b, H b = none \/ ∃ o xs, H b = some (.frz o (.lst xs))
theorem aXA {P : Program} {w : World} {K : PySem.W.Frag} {mg mb : Str -> Option Value} {CX : CXT} {k : Nat} {fa a : Addr} {fd : FuncData} {x : Str} {sp : Sp} {s₁ : Shared} {vs : List Value} {ns : List Int}
    (KX : K.In s₁.heap) (hns : s₁.heap.Ns mainGlobals mg) (hb : s₁.heap.Ns builtinsNs mb) (hbb : ∀ x : Str, x ≠ "__name__" -> mb x = bootBuiltins x) (hlim : s₁.heap.NoLimit) (hseer : s₁.heap.NoSeer) (hg : s₁.gens = #[])
    (ha : s₁.heap.get? a = some { cls := .type "list", data := .seq vs.toArray }) (hi : IntsAre vs ns) (hl : ns.length <= sizeLine) (hr : Room k callerA)
    (F : ∀ base : Heap, K.In base -> base.Ns mainGlobals mg -> FnOk P w K mg base CX k fa fd [x] sp) (hbind : ∀ (s : Shared) (u : Value), BindsTo s fd ⟨[u], []⟩ [(x, u)])
    (hsp : ∀ H : Hp, Only H -> SqL K H a (ns.map V.int) -> sp [.ref a] H (fun v _ => v = .bl true) fun _ _ _ => False)
    (hCX : ∀ H e s', CX [] H s₁ (fun _ _ _ => False) e s' -> False) :
    codeAny (model P w) callerA (.call (.ref fa) ⟨[.ref a], []⟩) (fun r s' => r = .ok (.ret (.bool true)) /\ OldK s₁.heap s'.heap /\ s'.os = s₁.os /\ AllBare s'.gens) s₁ := by
  have rv := aKS hi
  have lenV := hi.length
  have core : ∀ H : Hp, Only H -> SqL K H a (ns.map V.int) -> HOk P w H s₁.heap -> (∀ b, H b ≠ none -> b = a) -> (H a ≠ none -> K.lookup a = none) ->
      codeAny (model P w) callerA (.call (.ref fa) ⟨[.ref a], []⟩) (fun r s' => r = .ok (.ret (.bool true)) /\ OldK s₁.heap s'.heap /\ s'.os = s₁.os /\ AllBare s'.gens) s₁ := by
    intro H hO hS hok hA hK
    have base_of : ∀ {b : Addr} {o : Obj}, s₁.heap.get? b = some o -> H b = none -> (hidT s₁.heap H).get? b = some o := fun e n => aXC e n
    have noA : ∀ {b : Addr} {o : Obj} {es : Array DictEntry} {ep : Nat}, s₁.heap.get? b = some o -> o.data = .dict es ep -> H b = none := fun {b o es ep} e d => by
      cases q : H b with
      | none => rfl
      | some u =>
        have e' : b = a := hA b (by rw [q]; simp)
        subst e'
        rw [ha] at e; cases e
        have d' : Data.seq vs.toArray _ = Data.dict es ep := d
        cases d'
    have nsK : ∀ {b : Addr} {m : Str -> Option Value}, s₁.heap.Ns b m -> (hidT s₁.heap H).Ns b m := fun {b m} ⟨o, es, ep, e, d, r⟩ => ⟨o, es, ep, base_of e (noA e d), d, r⟩
    have hKb : K.In (hidT s₁.heap H) := fun b o e => base_of (KX b o e) (by
      cases q : H b with
      | none => rfl
      | some u =>
        have e' : b = a := hA b (by rw [q]; simp)
        subst e'
        rw [hK (by rw [q]; simp)] at e; cases e)
    have hSeer : (hidT s₁.heap H).NoSeer := {
      statics := let ⟨mc, a1, b1⟩ := hseer.statics; ⟨mc, nsK a1, b1⟩
      mods := let ⟨mc, a1, b1⟩ := hseer.mods; ⟨mc, nsK a1, b1⟩
      imp := let ⟨mc, a1, b1⟩ := hseer.imp; ⟨mc, nsK a1, b1⟩
      main := let ⟨mg', bm, ob, a1, b1, c1, d1, e1⟩ := hseer.main; ⟨mg', bm, ob, nsK a1, b1, base_of c1 (by
        cases q : H bm with
        | none => rfl
        | some u =>
          have e' : bm = a := hA bm (by rw [q]; simp)
          subst e'
          rw [ha] at c1; cases c1
          injection d1 with d2
          exact absurd d2 (by decide)), d1, e1⟩ }
    have hM : Mod K mg (hidT s₁.heap H) := ⟨hKb, nsK hns, ⟨mb, nsK hb, hbb⟩, let ⟨mc, h1, h2⟩ := hlim; ⟨mc, nsK h1, h2⟩, hSeer⟩
    have e0 : Env0 P w K mg (hidT s₁.heap H) callerA [] s₁ H := ⟨rfl, hM, fun b o e => aZS e, Nat.le_of_eq (aUL _ _), trivial, fun b hb => absurd (show b ∈ ([] : List Addr) from hb) (by simp), hok, .of_eq hg⟩
    refine codeAny_mono ((F _ hKb (nsK hns)).run callerA [] s₁ H ⟨[.ref a], []⟩ [.ref a] [.ref a] _ _ hr e0 (hbind s₁ (.ref a)) (.cons rfl .nil) (hsp H hO hS)) fun r s' h => ?_
    cases r with
    | error e => exact (hCX H e s' h).elim
    | ok fl =>
      cases fl with
      | next => exact False.elim h
      | brk => exact False.elim h
      | cont => exact False.elim h
      | ret u =>
        obtain ⟨v, H', os, bare, un, hok', r', q⟩ := h
        have q' : v = .bl true := q
        subst q'
        obtain rfl : u = Value.bool true := r'
        refine ⟨rfl, OldK.of_keep fun b o e => ?_, os, bare⟩
        cases q : H b with
        | none => exact un.keep b o e q (by intro z; exact absurd (show b ∈ ([] : List Addr) from z) (by simp)) (by simp)
        | some u =>
          rcases hO b with z | ⟨ob, xs, z⟩
          . rw [q] at z; cases z
          . have z2 := un.frzs b ob _ z
            obtain ⟨e1, _⟩ := hok b _ z
            obtain ⟨e2, _⟩ := hok' b _ z2
            rw [e] at e1; cases e1
            exact e2
  cases hk : K.lookup a with
  | some o =>
    have e := KX a o hk
    rw [ha] at e
    cases e
    refine core (fun _ => none) (fun _ => .inl rfl) (.inr ⟨_, vs.toArray, _, hk, rfl, rfl, rfl, by rw [List.size_toArray, lenV]; exact hl, by simpa using rv⟩) (fun b u z => by have z' : (none : Option HO) = some u := z; cases z') (fun b z => absurd rfl z) fun z => absurd rfl z
  | none =>
    refine core (fun b => if b = a then some (.frz { cls := .type "list", data := .seq vs.toArray } (.lst (ns.map V.int))) else none) (fun b => ?_) (.inl (.inr ⟨{ cls := .type "list", data := .seq vs.toArray }, if_pos rfl⟩)) (fun b u z => ?_) (fun b z => ?_) fun _ => hk
    . by_cases hb : b = a
      . exact .inr ⟨_, _, if_pos hb⟩
      . exact .inl (if_neg hb)
    . by_cases hb : b = a
      . have z' := (if_pos hb).symm.trans z
        cases z'
        subst hb
        exact ⟨ha, by rw [List.length_map]; exact hl, vs, _, rv, ha⟩
      . have z' := (if_neg hb).symm.trans z
        cases z'
    . by_cases hb : b = a
      . exact hb
      . exact absurd (if_neg hb) z
end L2
namespace L2
open PySem PySem.Spec PyProof.Rows
theorem walk_of {l : PySem.W.OpenLaw} {n k : Nat} {q : Program} {loose : List Str} {XP : (Str -> Option Value) -> Heap -> Prop} {YP : World -> Heap -> Prop} {d : DefRec} {K : Params -> PySem.W.Frag} {CX : World -> CXT} {sp : World -> Sp} {x : Str}
    (hq : importsNone q = true) (hn : l.most = some n) (hn2 : n <= sizeLine) (hdf : d.params.defaults = []) (hr : Room k callerA)
    (hY : ∀ (w : World) (h : Heap), YP w h -> (K w.params).In h)
    (F : ∀ (w : World) (mg : Str -> Option Value) (fa : Addr) (h : Heap), (K w.params).In h -> h.Ns mainGlobals mg -> mg d.name = some (.ref fa) ->
      ∃ fd : FuncData, (∀ (s : Shared) (u : Value), BindsTo s fd ⟨[u], []⟩ [(x, u)]) /\
        ∀ base : Heap, (K w.params).In base -> base.Ns mainGlobals mg -> FnOk l.prog w (K w.params) mg base (CX w) k fa fd [x] (sp w))
    (hsp : ∀ (w : World) (H : Hp) (a : Addr) (ns : List Int), ns.length <= n -> Only H -> SqL (K w.params) H a (ns.map V.int) -> sp w [.ref a] H (fun v _ => v = .bl true) fun _ _ _ => False)
    (hCX : ∀ (w : World) (H : Hp) (s : Shared) (e : Value) (s' : Shared), CX w [] H s (fun _ _ _ => False) e s' -> False) :
    PySem.W.WalkO q loose XP YP l.row.toRowW d [] (fun f vs => PySem.call f vs) := by
  refine Att.attach_call hn hdf fun w s₀ s₁ mg mb fa o pm cd doc a vs ns G Y ho hd hcd hmg hobj hints hlen hg => ?_
  have KX := hY w _ Y
  obtain ⟨fd, hb, hF⟩ := F w mg fa _ KX G.T.g hmg
  exact aXA KX G.T.g G.T.b G.T.builtins G.T.nolimit (G.T.seer hq) hg hobj hints (Nat.le_trans hlen hn2) hr hF hb (fun H hO hS => hsp w H a ns hlen hO hS) fun H e s' => hCX w H s₁ e s'
end L2
/- THE LAST THEOREM (shape; LID, My.* are yours):
   My.Adr: a structure of the addresses that your layer names (classes, functions); My.Txt K t: a structure (Prop) of the equations over K;
   My.txt_mk : {K} {implicit addresses ..} (e1 : nsIn K mainGlobals "law" = some (some (.ref f))) (e2 : K.lookup f = some ⟨oc, od, .func (fnOf "law" "law" params body scope dV kV doc pm an cdv ct), sl⟩) (e3 : codeIn K cdv "law" = true) .. : ∃ t, My.Txt K t
(the tactic k_is has no namespace: write k_is) -/
namespace L2
open PySem PySem.Spec PyProof.Rows
def defArgs (s : Stmt) : Arguments := match s with
  | .FunctionDef _ a _ _ _ _ _ _ _ _ => a
  | _ => { posonlyargs := [], args := [], vararg := none, kwonlyargs := [], kw_defaults := [], kwarg := none, defaults := [] }
def defBody (s : Stmt) : List Stmt := match s with
  | .FunctionDef _ _ b _ _ _ _ _ _ _ => b
  | _ => []
def defScope (s : Stmt) : Scope := match s with
  | .FunctionDef _ _ _ _ _ _ sc _ _ _ => sc
  | _ => { kind := .function, names := [], isGenerator := false, isCoroutine := false }
abbrev CX0 : CXT := fun _ _ _ _ _ _ => False
abbrev E0 : XK := fun _ _ _ => False
theorem pass0 {X : Cx} : Passes CX0 X E0 := fun _ _ _ _ _ _ _ h => h.elim
structure Fun (K : PySem.W.Frag) (x qual : Str) (st : Stmt) (f : Addr) (fd : FuncData) : Prop where
  ex : ∃ (oc : Value) (od : Option Addr) (kV doc pm : Value) (an : Option Addr) (cdv ct : Value) (osl : Array (Option Value)),
    fd = PySem.W.fnOf x qual (defArgs st) (defBody st) (defScope st) .none kV doc pm an cdv ct /\ K.lookup f = some ⟨oc, od, .func fd, osl⟩ /\ PySem.W.codeIn K cdv qual = true
  kp : PySem.W.keepIn K (.ref f) = true
section
variable {P : Program} {w : World} {K : PySem.W.Frag} {mg : Str -> Option Value} {base : Heap}
theorem Fun.ok {x qual : Str} {st : Stmt} {f : Addr} {fd : FuncData} {N ps : List Str} {k : Nat} {sp : Sp} (F : Fun K x qual st f fd) (S : FnScope N ps (defScope st)) (len : ∀ vs H Q E, sp vs H Q E -> vs.length = ps.length)
    (hbody : ∀ (cdv : Value) (A : Around) (outer : List Env) (s : Shared) (H : Hp) (vs : List V) (Q : VK) (E : XK), Room k (A.deeper (envOfC qual (defScope st) s.heap.objs.size f cdv)) -> sp vs H Q E ->
      ∃ t, PSs (cxOf CX0 P w K mg base N qual (defScope st) f cdv A outer s H E).nox (defBody st) t /\ t { nx := fun _ H' => Q .non H', rt := Q } (start N vs) H) : FnOk P w K mg base CX0 (k + 1) f fd ps sp := by
  obtain ⟨oc, od, kV, doc, pm, an, cdv, ct, osl, rfl, lk, hcd⟩ := F.ex
  refine eDF lk hcd S len fun A outer s H vs Q E hr hsp => ?_
  obtain ⟨t, h, q⟩ := hbody cdv A outer s H vs Q E hr hsp
  exact ⟨t, h.nox, q⟩
theorem Fun.binds {x qual : Str} {st : Stmt} {f : Addr} {fd : FuncData} {ps : List Str} (F : Fun K x qual st f fd)
    (h : ∀ (kV doc pm : Value) (an : Option Addr) (cdv ct : Value) (us : List Value), us.length = ps.length -> bindArgs (PySem.W.fnOf x qual (defArgs st) (defBody st) (defScope st) .none kV doc pm an cdv ct) ⟨us, []⟩ = pure (ps.zip us)) : Binds K fd ps [] := by
  obtain ⟨oc, od, kV, doc, pm, an, cdv, ct, osl, rfl, lk, hcd⟩ := F.ex
  exact .all (h kV doc pm an cdv ct)
theorem yX {x qual : Str} {st : Stmt} {f : Addr} {oc : Value} {od an : Option Addr} {osl : Array (Option Value)} {kV doc pm cdv ct : Value} (l : K.lookup f = some ⟨oc, od, .func (PySem.W.fnOf x qual (defArgs st) (defBody st) (defScope st) .none kV doc pm an cdv ct), osl⟩)
    (c : PySem.W.codeIn K cdv qual = true) (k : PySem.W.keepIn K (.ref f) = true) : Fun K x qual st f (PySem.W.fnOf x qual (defArgs st) (defBody st) (defScope st) .none kV doc pm an cdv ct) := ⟨⟨oc, od, kV, doc, pm, an, cdv, ct, osl, rfl, l, c⟩, k⟩
end
section
variable {X : Cx}
end
def Same (H H' : Hp) : Prop := ∀ b o, H b = some o -> H' b = some o
theorem Same.refl (H : Hp) : Same H H := fun _ _ h => h
theorem Same.trans {H H1 H2 : Hp} (a : Same H H1) (b : Same H1 H2) : Same H H2 := fun c o h => b c o (a c o h)
theorem Same.free {H H' : Hp} (e : Same H H') {l : Addr} (h : H' l = Option.none) : H l = Option.none := by
  cases q : H l with
  | none => rfl
  | some o =>
    rw [e l o q] at h
    cases h
theorem Same.seq {K : PySem.W.Frag} {H H' : Hp} {a : Addr} {xs : List V} (e : Same H H') (h : SqL K H a xs) : SqL K H' a xs := by
  rcases h with (h | ⟨o, h⟩) | h
  . exact .inl (.inl (e _ _ h))
  . exact .inl (.inr ⟨o, e _ _ h⟩)
  . exact .inr h
end L2
namespace L2.EV
open PySem PySem.Spec PyProof.Rows
inductive D where
  | non | bl (b : Bool) | int (i : Int) | str (x : Str) | tup (xs : List D) | lst (xs : List D) | scr (ns : List Int) | exc (C : Addr) | exh (C ea : Addr) | dic (kvs : List (List Int × Int)) | adr (p : Addr)
def excAt (a C : Addr) : Heap -> Prop := fun h => ∃ ob vs, h.get? a = some ob /\ ob.cls = .ref C /\ ob.data = .fields vs /\ vs[2]? = some .none
def dcObj (o : Obj) (xs : List (List Int × Addr × Int)) : Prop := o.ExactDict /\ ∃ (es : Array DictEntry) (ep : Nat) (ys : List (List Int × Addr × Value)), o.data = .dict es ep /\ (∀ (P : Program) (w : World), es.toList = ys.map (entryOfKey (tupleKind (intKind P w)))) /\
  Paired (fun (x : List Int × Addr × Int) (y : List Int × Addr × Value) => y.1 = x.1 /\ y.2.1 = x.2.1 /\ RelV (.int x.2.2) y.2.2) xs ys /\ (ys.map (·.1)).Nodup
def dcAt (a : Addr) (xs : List (List Int × Addr × Int)) : Heap -> Prop := fun h => xs.length <= sizeLine /\ (a == sysModules) = false /\ ∃ o, h.get? a = some o /\ dcObj o xs
def DicR (F : Hp) (kvs : List (List Int × Int)) (xs : List (List Int × Addr × Int)) : Prop := kvs = xs.map (fun x => (x.1, x.2.2)) /\ ∀ x ∈ xs, F x.2.1 = some (.tup (x.1.map V.int))
theorem DicR.mono {F F' : Hp} {kvs : List (List Int × Int)} {xs : List (List Int × Addr × Int)} (h : Same F F') (r : DicR F kvs xs) : DicR F' kvs xs := ⟨r.1, fun x hx => h _ _ (r.2 x hx)⟩
mutual
inductive Rep (K : PySem.W.Frag) (F : Hp) : V -> D -> Prop where
  | non : Rep K F .non .non
  | bl (b : Bool) : Rep K F (.bl b) (.bl b)
  | int (i : Int) : Rep K F (.int i) (.int i)
  | str (x : Str) : Rep K F (.str x) (.str x)
  | tup {a : Addr} {vs : List V} {ds : List D} : F a = some (.tup vs) -> RepL K F vs ds -> Rep K F (.ref a) (.tup ds)
  | lst {a : Addr} {vs : List V} {ds : List D} : F a = some (.lst vs) -> RepL K F vs ds -> Rep K F (.ref a) (.lst ds)
  | scr {a : Addr} {ns : List Int} : SqL K F a (ns.map V.int) -> Rep K F (.ref a) (.scr ns)
  | exc {a C : Addr} {ob : Obj} : F a = some (.frz ob (.ext (excAt a C))) -> Rep K F (.ref a) (.exc C)
  | exh {a C : Addr} {ob : Obj} : F a = some (.frz ob (.ext (excAt a C))) -> Rep K F (.ref a) (.exh C a)
  | dic {a : Addr} {ob : Obj} {kvs : List (List Int × Int)} {xs : List (List Int × Addr × Int)} : F a = some (.frz ob (.ext (dcAt a xs))) -> DicR F kvs xs -> Rep K F (.ref a) (.dic kvs)
  | adr (a : Addr) : Rep K F (.ref a) (.adr a)
inductive RepL (K : PySem.W.Frag) (F : Hp) : List V -> List D -> Prop where
  | nil : RepL K F [] []
  | cons {v : V} {d : D} {vs : List V} {ds : List D} : Rep K F v d -> RepL K F vs ds -> RepL K F (v :: vs) (d :: ds)
end
section
variable {K : PySem.W.Frag} {F F' : Hp}
mutual
theorem Rep.mono (h : Same F F') : ∀ {v : V} {d : D}, Rep K F v d -> Rep K F' v d
  | _, _, .non => .non
  | _, _, .bl b => .bl b
  | _, _, .int i => .int i
  | _, _, .str x => .str x
  | _, _, .tup e r => .tup (h _ _ e) (RepL.mono h r)
  | _, _, .lst e r => .lst (h _ _ e) (RepL.mono h r)
  | _, _, .scr e => .scr (h.seq e)
  | _, _, .exc e => .exc (h _ _ e)
  | _, _, .exh e => .exh (h _ _ e)
  | _, _, .dic e r => .dic (h _ _ e) (r.mono h)
  | _, _, .adr a => .adr a
theorem RepL.mono (h : Same F F') : ∀ {vs : List V} {ds : List D}, RepL K F vs ds -> RepL K F' vs ds
  | _, _, .nil => .nil
  | _, _, .cons r t => .cons (Rep.mono h r) (RepL.mono h t)
end
theorem RepL.length : ∀ {vs : List V} {ds : List D}, RepL K F vs ds -> vs.length = ds.length
  | _, _, .nil => rfl
  | _, _, .cons _ t => congrArg Nat.succ (RepL.length t)
theorem RepL.get : ∀ {vs : List V} {ds : List D} {i : Nat} {d : D}, RepL K F vs ds -> ds[i]? = some d -> ∃ v, vs[i]? = some v /\ Rep K F v d
  | _, _, _, _, .nil, e => by simp at e
  | _, _, 0, _, .cons r _, e => by simp at e; subst e; exact ⟨_, rfl, r⟩
  | _, _, i + 1, d, .cons _ t, e => by
    obtain ⟨v, h1, h2⟩ := RepL.get (i := i) (d := d) t (by simpa using e)
    exact ⟨v, by simpa using h1, h2⟩
theorem RepL.append : ∀ {vs us : List V} {ds es : List D}, RepL K F vs ds -> RepL K F us es -> RepL K F (vs ++ us) (ds ++ es)
  | _, _, _, _, .nil, s => s
  | _, _, _, _, .cons r t, s => .cons r (RepL.append t s)
theorem RepL.take : ∀ {vs : List V} {ds : List D} (n : Nat), RepL K F vs ds -> RepL K F (vs.take n) (ds.take n)
  | _, _, 0, _ => .nil
  | _, _, _ + 1, .nil => .nil
  | _, _, n + 1, .cons r t => .cons r (RepL.take n t)
theorem RepL.drop : ∀ {vs : List V} {ds : List D} (n : Nat), RepL K F vs ds -> RepL K F (vs.drop n) (ds.drop n)
  | _, _, 0, r => r
  | _, _, _ + 1, .nil => .nil
  | _, _, n + 1, .cons _ t => RepL.drop n t
theorem RepL.set {v : V} {d : D} (r : Rep K F v d) : ∀ {vs : List V} {ds : List D} (i : Nat), RepL K F vs ds -> RepL K F (vs.set i v) (ds.set i d)
  | _, _, _, .nil => .nil
  | _, _, 0, .cons _ t => .cons r t
  | _, _, i + 1, .cons q t => .cons q (RepL.set r i t)
theorem RepL.dropLast {vs : List V} {ds : List D} (h : RepL K F vs ds) : RepL K F vs.dropLast ds.dropLast := by
  rw [List.dropLast_eq_take, List.dropLast_eq_take, h.length]
  exact h.take _
theorem RepL.reverse : ∀ {vs : List V} {ds : List D}, RepL K F vs ds -> RepL K F vs.reverse ds.reverse
  | _, _, .nil => .nil
  | _, _, .cons r t => by rw [List.reverse_cons, List.reverse_cons]; exact RepL.append (RepL.reverse t) (.cons r .nil)
theorem RepL.rep {vs : List V} {ds : List D} (h : RepL K F vs ds) : ∀ k : Nat, RepL K F (List.replicate k vs).flatten (List.replicate k ds).flatten
  | 0 => .nil
  | k + 1 => by
    rw [List.replicate_succ, List.replicate_succ, List.flatten_cons, List.flatten_cons]
    exact RepL.append h (RepL.rep h k)
theorem RepL.ints : ∀ ns : List Int, RepL K F (ns.map V.int) (ns.map D.int)
  | [] => .nil
  | n :: ns => .cons (.int n) (RepL.ints ns)
end
structure B0 where
  F : Hp
  H : Hp
structure Ext (B : B0) (F H : Hp) : Prop where
  sub : Same F H
  sh : Same B.H H
  sf : Same B.F F
  nw : ∀ a, F a ≠ none -> B.F a ≠ none \/ B.H a = none
inductive Sl where
  | un | val (d : D) | own (xs : List D) | dct (kvs : List (List Int × Int))
structure DOk (B : B0) (F H : Hp) (σ : St) (ρ : List Sl) : Prop where
  dcts : ∀ (i : Nat) kvs, ρ[i]? = some (.dct kvs) -> ∃ a es, σ[i]? = some (some (.ref a)) /\ H a = some (.ext (dcAt a es)) /\ F a = none /\ B.H a = none /\ DicR F kvs es
  distD : ∀ (i j : Nat) xs ys a, ρ[i]? = some (.dct xs) -> ρ[j]? = some (.dct ys) -> σ[i]? = some (some (.ref a)) -> σ[j]? = some (some (.ref a)) -> i = j
theorem DOk.to {B : B0} {F F' H H' : Hp} {σ σ' : St} {ρ ρ' : List Sl} (k : DOk B F H σ ρ) (hF : Same F F') (hH : ∀ a φ, H a = some (.ext φ) -> F a = none -> B.H a = none -> H' a = some (.ext φ) /\ F' a = none)
    (hρ : ∀ (i : Nat) kvs, ρ'[i]? = some (.dct kvs) -> ρ[i]? = some (.dct kvs) /\ σ'[i]? = σ[i]?) : DOk B F' H' σ' ρ' := by
  refine ⟨fun i kvs e => ?_, fun i j xs ys a e1 e2 e3 e4 => ?_⟩
  . obtain ⟨q, z⟩ := hρ i kvs e
    obtain ⟨a, es, h1, h2, h3, h4, h5⟩ := k.dcts i kvs q
    obtain ⟨g1, g2⟩ := hH a _ h2 h3 h4
    exact ⟨a, es, z.trans h1, g1, g2, h4, h5.mono hF⟩
  . obtain ⟨q1, z1⟩ := hρ i xs e1
    obtain ⟨q2, z2⟩ := hρ j ys e2
    exact k.distD i j xs ys a q1 q2 (z1 ▸ e3) (z2 ▸ e4)
theorem aIR {σ : St} {ρ : List Sl} {i : Nat} {v : Option V} {s : Sl} (hs : ∀ kvs, s ≠ .dct kvs) (j : Nat) (kvs : List (List Int × Int)) (h : (ρ.set i s)[j]? = some (.dct kvs)) : ρ[j]? = some (.dct kvs) /\ (σ.set i v)[j]? = σ[j]? := by
  by_cases e : i = j
  . subst e
    rw [List.getElem?_set_self'] at h
    cases z : ρ[i]? with
    | none => rw [z] at h; cases h
    | some w => rw [z] at h; exact absurd (Option.some.inj h) (hs kvs)
  . rw [List.getElem?_set_ne e] at h ⊢
    exact ⟨h, rfl⟩
theorem aPK {σ : St} {ρ : List Sl} {i : Nat} {s : Sl} (hs : ∀ kvs, s ≠ .dct kvs) (j : Nat) (kvs : List (List Int × Int)) (h : (ρ.set i s)[j]? = some (.dct kvs)) : ρ[j]? = some (.dct kvs) /\ σ[j]? = σ[j]? :=
  ⟨(aIR (σ := []) (v := none) hs j kvs h).1, rfl⟩
structure Ok (K : PySem.W.Frag) (B : B0) (F H : Hp) (σ : St) (ρ : List Sl) : Prop extends Ext B F H where
  len : σ.length = ρ.length
  vals : ∀ (i : Nat) d, ρ[i]? = some (.val d) -> ∃ v, σ[i]? = some (some v) /\ Rep K F v d
  owns : ∀ (i : Nat) xs, ρ[i]? = some (.own xs) -> ∃ a vs, σ[i]? = some (some (.ref a)) /\ H a = some (.lst vs) /\ F a = none /\ B.H a = none /\ RepL K F vs xs
  dist : ∀ (i j : Nat) xs ys a, ρ[i]? = some (.own xs) -> ρ[j]? = some (.own ys) -> σ[i]? = some (some (.ref a)) -> σ[j]? = some (some (.ref a)) -> i = j
  dic : DOk B F H σ ρ
theorem yL {H : Hp} {p : Addr} {o : HO} (h : H p = none) : Same H (upd H p o) := fun b u q => by rw [yQ (zZ q h)]; exact q
theorem aWA {F H : Hp} {p : Addr} {o : HO} (h : Same F H) : Same (upd F p o) (upd H p o) := fun b u q => by
  by_cases hb : b = p
  . subst hb; rw [zA] at q ⊢; exact q
  . rw [yQ hb] at q ⊢; exact h b u q
section
variable {K : PySem.W.Frag} {B : B0} {F H F' H' : Hp} {σ : St} {ρ : List Sl} {p : Addr} {o : HO}
theorem Ext.refl (h : Same F H) : Ext ⟨F, H⟩ F H := ⟨h, .refl _, .refl _, fun a q => .inl q⟩
theorem Ext.trans (x : Ext B F H) (y : Ext ⟨F, H⟩ F' H') : Ext B F' H' :=
  ⟨y.sub, x.sh.trans y.sh, x.sf.trans y.sf, fun a q => by
    rcases y.nw a q with z | z
    . exact x.nw a z
    . exact .inr (x.sh.free z)⟩
theorem Ext.grow (x : Ext B F H) (hp : H p = none) : Ext B (upd F p o) (upd H p o) :=
  ⟨aWA x.sub, x.sh.trans (yL hp), x.sf.trans (yL (x.sub.free hp)), fun a q => by
    by_cases h : a = p
    . subst h; exact .inr (x.sh.free hp)
    . rw [yQ h] at q; exact x.nw a q⟩
theorem Ok.ext (k : Ok K B F H σ ρ) (y : Ext ⟨F, H⟩ F' H') : Ok K B F' H' σ ρ := by
  refine ⟨k.toExt.trans y, k.len, fun i d e => ?_, fun i xs e => ?_, k.dist, k.dic.to y.sf (fun a φ e1 e2 e3 => ⟨y.sh _ _ e1, ?_⟩) fun _ _ e => ⟨e, rfl⟩⟩
  rotate_left 2
  . cases q : F' a with
    | none => rfl
    | some u =>
      rcases y.nw a (by rw [q]; exact fun z => nomatch z) with z | z
      . exact absurd e2 z
      . have z' : H a = none := z
        rw [e1] at z'; cases z'
  . obtain ⟨v, h1, h2⟩ := k.vals i d e
    exact ⟨v, h1, h2.mono y.sf⟩
  . obtain ⟨a, vs, h1, h2, h3, h4, h5⟩ := k.owns i xs e
    refine ⟨a, vs, h1, y.sh _ _ h2, ?_, h4, h5.mono y.sf⟩
    cases q : F' a with
    | none => rfl
    | some u =>
      rcases y.nw a (by rw [q]; exact fun z => nomatch z) with z | z
      . exact absurd h3 z
      . have z' : H a = none := z
        rw [h2] at z'; cases z'
theorem Ok.grow (k : Ok K B F H σ ρ) (hp : H p = none) : Ok K B (upd F p o) (upd H p o) σ ρ :=
  k.ext ((Ext.refl k.sub).grow hp)
theorem Ok.growH (k : Ok K B F H σ ρ) (hp : H p = none) : Ok K B F (upd H p o) σ ρ :=
  k.ext ⟨k.sub.trans (yL hp), yL hp, .refl _, fun a q => .inl q⟩
def NoOwn (σ : St) (ρ : List Sl) (p : Addr) : Prop := ∀ (i : Nat) xs, ρ[i]? = some (.own xs) -> σ[i]? ≠ some (some (.ref p))
theorem Ok.noOwn (k : Ok K B F H σ ρ) (hp : H p = none) : NoOwn σ ρ p := fun i xs e q => by
  obtain ⟨a, vs, h1, h2, _⟩ := k.owns i xs e
  rw [h1] at q
  cases q
  rw [hp] at h2; cases h2
theorem Ok.setVal {v : V} {d : D} (k : Ok K B F H σ ρ) (i : Nat) (r : Rep K F v d) : Ok K B F H (σ.set i (some v)) (ρ.set i (.val d)) := by
  refine ⟨k.toExt, by rw [List.length_set, List.length_set, k.len], fun j e q => ?_, fun j xs q => ?_, fun j l xs ys a q1 q2 q3 q4 => ?_, k.dic.to (.refl _) (fun _ _ e1 e2 _ => ⟨e1, e2⟩) (aIR fun _ z => nomatch z)⟩
  . by_cases h : i = j
    . subst h
      rw [List.getElem?_set_self'] at q
      cases z : ρ[i]? with
      | none => rw [z] at q; cases q
      | some w =>
        rw [z] at q; cases q
        have hi : i < σ.length := by rw [k.len]; exact (List.getElem?_eq_some_iff.mp z).1
        exact ⟨v, by rw [List.getElem?_set_self hi], r⟩
    . rw [List.getElem?_set_ne h] at q ⊢
      exact k.vals j e q
  . by_cases h : i = j
    . subst h
      rw [List.getElem?_set_self'] at q
      cases z : ρ[i]? with
      | none => rw [z] at q; cases q
      | some w => rw [z] at q; cases q
    . rw [List.getElem?_set_ne h] at q ⊢
      exact k.owns j xs q
  . have n1 : i ≠ j := by
      rintro rfl
      rw [List.getElem?_set_self'] at q1
      cases z : ρ[i]? with
      | none => rw [z] at q1; cases q1
      | some w => rw [z] at q1; cases q1
    have n2 : i ≠ l := by
      rintro rfl
      rw [List.getElem?_set_self'] at q2
      cases z : ρ[i]? with
      | none => rw [z] at q2; cases q2
      | some w => rw [z] at q2; cases q2
    rw [List.getElem?_set_ne n1] at q1 q3
    rw [List.getElem?_set_ne n2] at q2 q4
    exact k.dist j l xs ys a q1 q2 q3 q4
theorem Ok.setOwn {vs : List V} {ds : List D} (k : Ok K B F H σ ρ) (i : Nat) (hp : H p = some (.lst vs)) (hf : F p = none) (hb : B.H p = none) (hn : NoOwn σ ρ p) (r : RepL K F vs ds) :
    Ok K B F H (σ.set i (some (.ref p))) (ρ.set i (.own ds)) := by
  refine ⟨k.toExt, by rw [List.length_set, List.length_set, k.len], fun j e q => ?_, fun j xs q => ?_, fun j l xs ys a q1 q2 q3 q4 => ?_, k.dic.to (.refl _) (fun _ _ e1 e2 _ => ⟨e1, e2⟩) (aIR fun _ z => nomatch z)⟩
  . by_cases h : i = j
    . subst h
      rw [List.getElem?_set_self'] at q
      cases z : ρ[i]? with
      | none => rw [z] at q; cases q
      | some w => rw [z] at q; cases q
    . rw [List.getElem?_set_ne h] at q ⊢
      exact k.vals j e q
  . by_cases h : i = j
    . subst h
      rw [List.getElem?_set_self'] at q
      cases z : ρ[i]? with
      | none => rw [z] at q; cases q
      | some w =>
        rw [z] at q; cases q
        have hi : i < σ.length := by rw [k.len]; exact (List.getElem?_eq_some_iff.mp z).1
        exact ⟨p, vs, by rw [List.getElem?_set_self hi], hp, hf, hb, r⟩
    . rw [List.getElem?_set_ne h] at q ⊢
      exact k.owns j xs q
  . by_cases n1 : i = j
    . by_cases n2 : i = l
      . exact n1.symm.trans n2
      . subst n1
        rw [List.getElem?_set_ne n2] at q2 q4
        have hi : i < σ.length := by
          have := (List.getElem?_eq_some_iff.mp q3).1
          rw [List.length_set] at this; exact this
        rw [List.getElem?_set_self hi] at q3
        cases q3
        exact absurd q4 (hn l ys q2)
    . by_cases n2 : i = l
      . subst n2
        rw [List.getElem?_set_ne n1] at q1 q3
        have hi : i < σ.length := by
          have := (List.getElem?_eq_some_iff.mp q4).1
          rw [List.length_set] at this; exact this
        rw [List.getElem?_set_self hi] at q4
        cases q4
        exact absurd q3 (hn j xs q1)
      . rw [List.getElem?_set_ne n1] at q1 q3
        rw [List.getElem?_set_ne n2] at q2 q4
        exact k.dist j l xs ys a q1 q2 q3 q4
theorem Ok.chgOwn {vs ws : List V} {xs ds : List D} {i : Nat} (k : Ok K B F H σ ρ) (hi : ρ[i]? = some (.own xs)) (hs : σ[i]? = some (some (.ref p))) (r : RepL K F ws ds) :
    Ok K B F (upd H p (.lst ws)) σ (ρ.set i (.own ds)) := by
  obtain ⟨a, us, h1, h2, h3, h4, h5⟩ := k.owns i xs hi
  rw [h1] at hs
  cases hs
  have hlt : i < ρ.length := (List.getElem?_eq_some_iff.mp hi).1
  refine ⟨⟨fun b u q => ?_, fun b u q => ?_, k.sf, k.nw⟩, by rw [List.length_set, k.len], fun j e q => ?_, fun j ys q => ?_, fun j l ys zs b q1 q2 q3 q4 => ?_, k.dic.to (.refl _) (fun b φ e1 e2 _ => ⟨by rw [yQ (fun z => by subst z; rw [h2] at e1; cases e1)]; exact e1, e2⟩) (aPK fun _ z => nomatch z)⟩
  . have ne : b ≠ p := fun z => by subst z; rw [h3] at q; cases q
    rw [yQ ne]; exact k.sub b u q
  . have ne : b ≠ p := fun z => by subst z; rw [h4] at q; cases q
    rw [yQ ne]; exact k.sh b u q
  . by_cases h : i = j
    . subst h
      rw [List.getElem?_set_self hlt] at q; cases q
    . rw [List.getElem?_set_ne h] at q
      exact k.vals j e q
  . by_cases h : i = j
    . subst h
      rw [List.getElem?_set_self hlt] at q; cases q
      exact ⟨p, ws, h1, zA, h3, h4, r⟩
    . rw [List.getElem?_set_ne h] at q
      obtain ⟨b, us', g1, g2, g3, g4, g5⟩ := k.owns j ys q
      have ne : b ≠ p := fun z => by subst z; exact h (k.dist i j xs ys b hi q h1 g1)
      exact ⟨b, us', g1, by rw [yQ ne]; exact g2, g3, g4, g5⟩
  . have own : ∀ (m : Nat) ys, (ρ.set i (.own ds))[m]? = some (.own ys) -> ∃ zs, ρ[m]? = some (.own zs) := fun m ys q => by
      by_cases h : i = m
      . subst h; exact ⟨xs, hi⟩
      . rw [List.getElem?_set_ne h] at q; exact ⟨ys, q⟩
    obtain ⟨y1, z1⟩ := own j ys q1
    obtain ⟨y2, z2⟩ := own l zs q2
    exact k.dist j l _ _ b z1 z2 q3 q4
theorem Ok.freezeAt {xs : List D} {i : Nat} (k : Ok K B F H σ ρ) (hi : ρ[i]? = some (.own xs)) : ∃ F', Same F F' /\ Ok K B F' H σ (ρ.set i (.val (.lst xs))) := by
  obtain ⟨a, us, h1, h2, h3, h4, h5⟩ := k.owns i xs hi
  have hlt : i < ρ.length := (List.getElem?_eq_some_iff.mp hi).1
  have sf : Same F (upd F a (.lst us)) := yL h3
  have nown : ∀ (j : Nat) ys, (ρ.set i (.val (.lst xs)))[j]? = some (.own ys) -> i ≠ j /\ ρ[j]? = some (.own ys) := fun j ys q => by
    by_cases h : i = j
    . subst h; rw [List.getElem?_set_self hlt] at q; cases q
    . rw [List.getElem?_set_ne h] at q; exact ⟨h, q⟩
  refine ⟨upd F a (.lst us), sf, ⟨fun b u q => ?_, k.sh, k.sf.trans sf, fun b q => ?_⟩, by rw [List.length_set, k.len], fun j e q => ?_, fun j ys q => ?_, fun j l ys zs b q1 q2 q3 q4 => ?_, k.dic.to sf (fun b φ e1 e2 _ => ⟨e1, by rw [yQ (fun z => by subst z; rw [h2] at e1; cases e1)]; exact e2⟩) (aPK fun _ z => nomatch z)⟩
  . by_cases h : b = a
    . subst h; rw [zA] at q; cases q; exact h2
    . rw [yQ h] at q; exact k.sub b u q
  . by_cases h : b = a
    . subst h; exact .inr h4
    . rw [yQ h] at q; exact k.nw b q
  . by_cases h : i = j
    . subst h
      rw [List.getElem?_set_self hlt] at q; cases q
      exact ⟨_, h1, .lst zA (h5.mono sf)⟩
    . rw [List.getElem?_set_ne h] at q
      obtain ⟨v, g1, g2⟩ := k.vals j e q
      exact ⟨v, g1, g2.mono sf⟩
  . obtain ⟨h, q⟩ := nown j ys q
    obtain ⟨b, us', g1, g2, g3, g4, g5⟩ := k.owns j ys q
    have ne : b ≠ a := fun z => by subst z; exact h (k.dist i j xs ys b hi q h1 g1)
    exact ⟨b, us', g1, g2, by rw [yQ ne]; exact g3, g4, g5.mono sf⟩
  . exact k.dist j l _ _ b (nown j ys q1).2 (nown l zs q2).2 q3 q4
end
end L2.EV
set_option autoImplicit false
namespace L2.EV
open PySem PySem.Spec PyProof.Rows
def wE (X : Cx) (e : Expr) : TE := fun σ H Q => ∀ (pins : List (Addr × Obj)) (s : Shared), Inv X pins σ H s -> wpAny (model X.prog X.w) X.A (eval e X.env) (EP X pins σ Q) X.xe s
def wT (X : Cx) (e : Expr) : TT := fun σ H Q => ∀ (pins : List (Addr × Obj)) (s : Shared), Inv X pins σ H s -> wpAny (model X.prog X.w) X.A (isTrue e X.env (eval e X.env)) (TP X pins σ Q) X.xe s
def wW (X : Cx) (e : Expr) : TT := fun σ H Q => ∀ (whole : Sem Value) (pins : List (Addr × Obj)) (s : Shared), Inv X pins σ H s -> wpAny (model X.prog X.w) X.A (isTrue e X.env whole) (TP X pins σ Q) X.xe s
def wA (X : Cx) (es : List Expr) : TA := fun σ H Q => ∀ (pos : Pos) (pins : List (Addr × Obj)) (s : Shared), Inv X pins σ H s -> wpAny (model X.prog X.w) X.A (spliced (backTo pos (starEach es X.env))) (AP X pins σ Q) X.xe s
def wS (X : Cx) (st : Stmt) : TS := fun D σ H => ∀ (pins : List (Addr × Obj)) (s : Shared), Inv X pins σ H s -> wpAny (model X.prog X.w) X.A (exec st X.env) (SP X pins D) X.xe s
def wSs (X : Cx) (st : List Stmt) : TS := fun D σ H => ∀ (pins : List (Addr × Obj)) (s : Shared), Inv X pins σ H s -> wpAny (model X.prog X.w) X.A (execs st X.env) (SP X pins D) X.xe s
def wO (X : Cx) (e : Option Expr) : TO := fun σ H Q => ∀ (pins : List (Addr × Obj)) (s : Shared), Inv X pins σ H s -> wpAny (model X.prog X.w) X.A (evalPart e X.env) (fun u s' => ∃ o H', Inv X pins σ H' s' /\ IsPart u o /\ Q o H') X.xe s
def wG (X : Cx) (e : Expr) : TG := fun v σ H Q => ∀ (pins : List (Addr × Obj)) (s : Shared) (u : Value), Inv X pins σ H s -> RelV v u -> wpAny (model X.prog X.w) X.A (assign e X.env u) (fun _ s' => ∃ σ' H', Inv X pins σ' H' s' /\ Q σ' H') X.xe s
section
variable {X : Cx} {e : Expr} {es : List Expr} {st : Stmt} {sts : List Stmt} {oe : Option Expr}
theorem pe_w : PE X e (wE X e) := fun pins s _ _ _ I h => h pins s I
theorem pt_w : PT X e (wT X e) := fun pins s _ _ _ I h => h pins s I
theorem pw_w : PW X e (wW X e) := fun wh pins s _ _ _ I h => h wh pins s I
theorem pa_w : PA X es (wA X es) := fun pos pins s _ _ _ I h => h pos pins s I
theorem ps_w : PS X st (wS X st) := fun pins s _ _ _ I h => h pins s I
theorem aHD : PSs X sts (wSs X sts) := fun pins s _ _ _ I h => h pins s I
theorem po_w : PO X oe (wO X oe) := fun pins s _ _ _ I h => h pins s I
theorem pg_w : PG X e (wG X e) := fun pins s _ _ _ u _ I r h => h pins s u I r
end
abbrev Rho := List Sl
def EvE (X : Cx) (ρ : Rho) (e : Expr) (d : D) : Prop := ∀ (B : B0) (F H : Hp) (σ : St) (Q : VK), Ok X.K B F H σ ρ ->
  (∀ v F' H', Ext ⟨F, H⟩ F' H' -> Rep X.K F' v d -> Q v H') -> wE X e σ H Q
def EvN (X : Cx) (ρ : Rho) (e : Expr) (xs : List D) : Prop := ∀ (B : B0) (F H : Hp) (σ : St) (Q : VK), Ok X.K B F H σ ρ ->
  (∀ p vs F' H', Ext ⟨F, H⟩ F' H' -> H p = none -> H' p = some (.lst vs) -> F' p = none -> RepL X.K F' vs xs -> Q (.ref p) H') -> wE X e σ H Q
def SqB (K : PySem.W.Frag) (k : Bool) (H : Hp) (a : Addr) (vs : List V) : Prop := if k = true then SqL K H a vs else SqT K H a vs
def EvQ (X : Cx) (ρ : Rho) (e : Expr) (k : Bool) (xs : List D) : Prop := ∀ (B : B0) (F H : Hp) (σ : St) (Q : VK), Ok X.K B F H σ ρ ->
  (∀ a vs F' H', Ext ⟨F, H⟩ F' H' -> SqB X.K k H' a vs -> RepL X.K F' vs xs -> Q (.ref a) H') -> wE X e σ H Q
def EvT (X : Cx) (ρ : Rho) (e : Expr) (b : Bool) : Prop := ∀ (B : B0) (F H : Hp) (σ : St) (Q : Bool -> Hp -> Prop), Ok X.K B F H σ ρ ->
  (∀ F' H', Ext ⟨F, H⟩ F' H' -> Q b H') -> wT X e σ H Q
def EvW (X : Cx) (ρ : Rho) (e : Expr) (b : Bool) : Prop := ∀ (B : B0) (F H : Hp) (σ : St) (Q : Bool -> Hp -> Prop), Ok X.K B F H σ ρ ->
  (∀ F' H', Ext ⟨F, H⟩ F' H' -> Q b H') -> wW X e σ H Q
def Pl (e : Expr) : Prop := ∀ (es : List Expr) (env : Env), starEach (e :: es) env = (false, eval e env) :: starEach es env
def PlA : List Expr -> Prop
  | [] => True
  | e :: es => Pl e /\ PlA es
theorem PlA.any {env : Env} {pos : Pos} : ∀ {es : List Expr}, PlA es -> (backTo pos (starEach es env)).any (·.1) = false
  | [], _ => rfl
  | e :: es, h => by
    rw [h.1 es env]
    show (false || (backTo pos (starEach es env)).any (·.1)) = false
    rw [PlA.any h.2]; rfl
def EvA (X : Cx) (ρ : Rho) (es : List Expr) (ds : List D) : Prop := PlA es /\ ∀ (B : B0) (F H : Hp) (σ : St) (Q : List V -> Hp -> Prop), Ok X.K B F H σ ρ ->
  (∀ vs F' H', Ext ⟨F, H⟩ F' H' -> RepL X.K F' vs ds -> Q vs H') -> wA X es σ H Q
def EvO (X : Cx) (ρ : Rho) (e : Option Expr) (o : Option Int) : Prop := ∀ (B : B0) (F H : Hp) (σ : St) (Q : Option Int -> Hp -> Prop), Ok X.K B F H σ ρ ->
  (∀ F' H', Ext ⟨F, H⟩ F' H' -> Q o H') -> wO X e σ H Q
inductive Out where
  | nx (ρ : Rho) | rt (d : D)
def Post (K : PySem.W.Frag) (B : B0) (F₀ : Hp) (E : Ends) : Out -> Prop
  | .nx ρ => ∀ F H σ, Ok K B F H σ ρ -> Same F₀ F -> E.nx σ H
  | .rt d => ∀ v F H, Ext B F H -> Rep K F v d -> E.rt v H
theorem Post.later {K : PySem.W.Frag} {B : B0} {F₀ F₁ : Hp} {E : Ends} {o : Out} (h : Post K B F₀ E o) (s : Same F₀ F₁) : Post K B F₁ E o := by
  cases o with
  | nx ρ => exact fun F H σ k s' => h F H σ k (s.trans s')
  | rt d => exact h
def EvS (X : Cx) (ρ : Rho) (st : Stmt) (o : Out) : Prop := ∀ (B : B0) (F H : Hp) (σ : St) (E : Ends), Ok X.K B F H σ ρ -> Post X.K B F E o -> wS X st E σ H
def EvSs (X : Cx) (ρ : Rho) (sts : List Stmt) (o : Out) : Prop := ∀ (B : B0) (F H : Hp) (σ : St) (E : Ends), Ok X.K B F H σ ρ -> Post X.K B F E o -> wSs X sts E σ H
def EvG (X : Cx) (ρ : Rho) (tg : Expr) (d : D) (ρ' : Rho) : Prop := ∀ (B : B0) (F H : Hp) (σ : St) (v : V) (Q : St -> Hp -> Prop), Ok X.K B F H σ ρ -> Rep X.K F v d ->
  (∀ F' H' σ', Ok X.K B F' H' σ' ρ' -> Same F F' -> Q σ' H') -> wG X tg v σ H Q
def EvGn (X : Cx) (ρ : Rho) (tg : Expr) (d : D) (ρ' : Rho) : Prop := ∀ (B : B0) (F H : Hp) (σ : St) (v : V) (Q : St -> Hp -> Prop), Ok X.K B F H σ ρ -> Rep X.K F v d ->
  (∀ σ', Ok X.K B F H σ' ρ' -> (∀ p, NoOwn σ ρ p -> NoOwn σ' ρ' p) -> Q σ' H) -> wG X tg v σ H Q
theorem Ext.t {F H F' H' F2 H2 : Hp} (x : Ext ⟨F, H⟩ F' H') (y : Ext ⟨F', H'⟩ F2 H2) : Ext ⟨F, H⟩ F2 H2 := x.trans y
section
variable {X : Cx} {ρ : Rho} {e a b c : Expr} {d : D} {pos : Pos}
theorem EvE.of {t : TE} (h : PE X e t) (r : ∀ (B : B0) (F H : Hp) (σ : St) (Q : VK), Ok X.K B F H σ ρ -> (∀ v F' H', Ext ⟨F, H⟩ F' H' -> Rep X.K F' v d -> Q v H') -> t σ H Q) : EvE X ρ e d :=
  fun B F H σ Q k q pins s I => h pins s σ H Q I (r B F H σ Q k q)
theorem EvN.of {t : TE} {xs : List D} (h : PE X e t) (r : ∀ (B : B0) (F H : Hp) (σ : St) (Q : VK), Ok X.K B F H σ ρ ->
    (∀ p vs F' H', Ext ⟨F, H⟩ F' H' -> H p = none -> H' p = some (.lst vs) -> F' p = none -> RepL X.K F' vs xs -> Q (.ref p) H') -> t σ H Q) : EvN X ρ e xs :=
  fun B F H σ Q k q pins s I => h pins s σ H Q I (r B F H σ Q k q)
theorem EvQ.of {t : TE} {k : Bool} {xs : List D} (h : PE X e t) (r : ∀ (B : B0) (F H : Hp) (σ : St) (Q : VK), Ok X.K B F H σ ρ ->
    (∀ a vs F' H', Ext ⟨F, H⟩ F' H' -> SqB X.K k H' a vs -> RepL X.K F' vs xs -> Q (.ref a) H') -> t σ H Q) : EvQ X ρ e k xs :=
  fun B F H σ Q k q pins s I => h pins s σ H Q I (r B F H σ Q k q)
theorem EvT.of {t : TT} {b : Bool} (h : PT X e t) (r : ∀ (B : B0) (F H : Hp) (σ : St) (Q : Bool -> Hp -> Prop), Ok X.K B F H σ ρ -> (∀ F' H', Ext ⟨F, H⟩ F' H' -> Q b H') -> t σ H Q) : EvT X ρ e b :=
  fun B F H σ Q k q pins s I => h pins s σ H Q I (r B F H σ Q k q)
theorem EvW.of {t : TT} {b : Bool} (h : PW X e t) (r : ∀ (B : B0) (F H : Hp) (σ : St) (Q : Bool -> Hp -> Prop), Ok X.K B F H σ ρ -> (∀ F' H', Ext ⟨F, H⟩ F' H' -> Q b H') -> t σ H Q) : EvW X ρ e b :=
  fun B F H σ Q k q wh pins s I => h wh pins s σ H Q I (r B F H σ Q k q)
theorem EvS.of {st : Stmt} {o : Out} {t : TS} (h : PS X st t) (r : ∀ (B : B0) (F H : Hp) (σ : St) (E : Ends), Ok X.K B F H σ ρ -> Post X.K B F E o -> t E σ H) : EvS X ρ st o :=
  fun B F H σ E k q pins s I => h pins s σ H E I (r B F H σ E k q)
theorem EvSs.of {sts : List Stmt} {o : Out} {t : TS} (h : PSs X sts t) (r : ∀ (B : B0) (F H : Hp) (σ : St) (E : Ends), Ok X.K B F H σ ρ -> Post X.K B F E o -> t E σ H) : EvSs X ρ sts o :=
  fun B F H σ E k q pins s I => h pins s σ H E I (r B F H σ E k q)
theorem EvG.of {ρ' : Rho} {t : TG} (h : PG X e t) (r : ∀ (B : B0) (F H : Hp) (σ : St) (v : V) (Q : St -> Hp -> Prop), Ok X.K B F H σ ρ -> Rep X.K F v d -> (∀ F' H' σ', Ok X.K B F' H' σ' ρ' -> Same F F' -> Q σ' H') -> t v σ H Q) : EvG X ρ e d ρ' :=
  fun B F H σ v Q k rv q pins s u I ru => h pins s σ H v u Q I ru (r B F H σ v Q k rv q)
theorem EvGn.of {ρ' : Rho} {t : TG} (h : PG X e t) (r : ∀ (B : B0) (F H : Hp) (σ : St) (v : V) (Q : St -> Hp -> Prop), Ok X.K B F H σ ρ -> Rep X.K F v d -> (∀ σ', Ok X.K B F H σ' ρ' -> (∀ p, NoOwn σ ρ p -> NoOwn σ' ρ' p) -> Q σ' H) -> t v σ H Q) : EvGn X ρ e d ρ' :=
  fun B F H σ v Q k rv q pins s u I ru => h pins s σ H v u Q I ru (r B F H σ v Q k rv q)
theorem NoOwn.setVal {σ : St} {ρ : Rho} {p : Addr} (h : NoOwn σ ρ p) (i : Nat) (v : Option V) (d : D) : NoOwn (σ.set i v) (ρ.set i (.val d)) p := fun j xs e q => by
  by_cases hj : i = j
  . subst hj
    rw [List.getElem?_set_self'] at e
    cases z : ρ[i]? with
    | none => rw [z] at e; cases e
    | some w => rw [z] at e; cases e
  . rw [List.getElem?_set_ne hj] at e q
    exact h j xs e q
theorem Ext.freeze {F H F' H' : Hp} {p : Addr} {vs : List V} (x : Ext ⟨F, H⟩ F' H') (h0 : H p = none) (hp : H' p = some (.lst vs)) (hf : F' p = none) : Ext ⟨F, H⟩ (upd F' p (.lst vs)) H' :=
  ⟨fun b u q => by
    by_cases h : b = p
    . subst h; rw [zA] at q; cases q; exact hp
    . rw [yQ h] at q; exact x.sub b u q, x.sh, x.sf.trans (yL hf), fun a q => by
    by_cases h : a = p
    . subst h; exact .inr h0
    . rw [yQ h] at q; exact x.nw a q⟩
theorem EvN.toE {xs : List D} (h : EvN X ρ e xs) : EvE X ρ e (.lst xs) := fun B F H σ Q k q =>
  h B F H σ Q k fun p vs F' H' x h0 hp hf r => q _ _ _ (x.freeze h0 hp hf) (.lst zA (r.mono (yL hf)))
theorem SqB.mono {K : PySem.W.Frag} {k : Bool} {H H' : Hp} {a : Addr} {vs : List V} (s : Same H H') (h : SqB K k H a vs) : SqB K k H' a vs := by
  cases k with
  | true => exact s.seq h
  | false =>
    have h' : SqT K H a vs := h
    show SqT K H' a vs
    rcases h' with (h | ⟨o, h⟩) | h
    . exact .inl (.inl (s _ _ h))
    . exact .inl (.inr ⟨o, s _ _ h⟩)
    . exact .inr h
theorem EvE.ql {xs : List D} (h : EvE X ρ e (.lst xs)) : EvQ X ρ e true xs := fun B F H σ Q k q =>
  h B F H σ Q k fun v F' H' x r => by
    cases r with
    | lst hf rl => exact q _ _ _ _ x (show SqL _ _ _ _ from SqL.of (x.sub _ _ hf)) rl
theorem EvE.qt {xs : List D} (h : EvE X ρ e (.tup xs)) : EvQ X ρ e false xs := fun B F H σ Q k q =>
  h B F H σ Q k fun v F' H' x r => by
    cases r with
    | tup hf rl => exact q _ _ _ _ x (show SqT _ _ _ _ from SqT.of (x.sub _ _ hf)) rl
theorem EvE.qs {ns : List Int} (h : EvE X ρ e (.scr ns)) : EvQ X ρ e true (ns.map D.int) := fun B F H σ Q k q =>
  h B F H σ Q k fun v F' H' x r => by
    cases r with
    | scr hs => exact q _ _ _ _ x (show SqL _ _ _ _ from x.sub.seq hs) (RepL.ints ns)
theorem EvN.toQ {xs : List D} (h : EvN X ρ e xs) : EvQ X ρ e true xs := h.toE.ql
structure At (X : Cx) (N : List Str) (sc : Scope) : Prop where
  eN : X.N = N
  eS : X.env.scope = sc
  calm : X.calm = true
  nd : X.N.Nodup
  nox : X.xe = fun _ _ => False
  un : X.A.units + 64 < cLine
  dp : X.A.depth + 100 < recursionLimit
  tree : X.prog.given.tree = none
  fr : ∃ env l, X.stack = env :: l /\ env.scope.isGenerator = false /\ env.scope.isCoroutine = false /\ env.builtins = builtinsNs /\ env.globals = mainGlobals
structure At0 (X : Cx) (N : List Str) (sc : Scope) : Prop where
  eN : X.N = N
  eS : X.env.scope = sc
  nd : X.N.Nodup
  nox : X.xe = fun _ _ => False
  un : X.A.units + 64 < cLine
  dp : X.A.depth + 100 < recursionLimit
  tree : X.prog.given.tree = none
  fr : ∃ env l, X.stack = env :: l /\ env.scope.isGenerator = false /\ env.scope.isCoroutine = false /\ env.builtins = builtinsNs /\ env.globals = mainGlobals
theorem At.z {X : Cx} {N : List Str} {sc : Scope} (t : At X N sc) : At0 X N sc := ⟨t.eN, t.eS, t.nd, t.nox, t.un, t.dp, t.tree, t.fr⟩
theorem At0.at {X : Cx} {N : List Str} {sc : Scope} (t : At0 X N sc) (h : X.calm = true) : At X N sc := ⟨t.eN, t.eS, h, t.nd, t.nox, t.un, t.dp, t.tree, t.fr⟩
def HotH (A : Around) (H : Hp) : Prop := ∃ (ea : Addr) (oe : Obj) (u : HO) (vs : Array Value), A.handled = some (.ref ea) /\ H ea = some (.frz oe u) /\ oe.data = .fields vs /\ vs[2]? = some .none
class FnT (X : Cx) : Prop where
  fn : ∀ x, X.fn x = true
variable {N : List Str} {sc : Scope}
theorem At.pass (a : At X N sc) : PassesOwn (model X.prog X.w) X.A X.env X.xe := by rw [a.nox]; exact PassesOwn.never
def VisS (sc : Scope) (x : Str) : Bool := match sc.names.lookup x with
  | some .local => true
  | some .cell => true
  | some .free => true
  | _ => false
def LocS (sc : Scope) (x : Str) : Bool := match sc.names.lookup x with
  | some .local => true
  | some .cell => true
  | _ => false
theorem aXQ {x : Str} (h : VisS sc x = true) : Vis sc x := by
  unfold VisS at h
  cases e : sc.names.lookup x with
  | none => rw [e] at h; cases h
  | some k =>
    rw [e] at h
    cases k <;> first | exact .inl e | exact .inr (.inl e) | exact .inr (.inr e) | cases h
theorem aUB {x : Str} (h : LocS sc x = true) : Loc sc x := by
  unfold LocS at h
  cases e : sc.names.lookup x with
  | none => rw [e] at h; cases h
  | some k =>
    rw [e] at h
    cases k <;> first | exact .inl e | exact .inr e | cases h
def NameOk (x : Str) : Bool := !(x == ("__debug__" : Str)) && !(x == ("__classdict__" : Str))
theorem pvAt (t : At X N sc) {i : Nat} {x : Str} (hN : N[i]? = some x) (hv : VisS sc x = true) (hx : NameOk x = true) : PE X (.Name x pos) (tVar i) := by
  unfold NameOk at hx
  rw [Bool.and_eq_true, Bool.not_eq_true', Bool.not_eq_true'] at hx
  exact aYB (by rw [t.eN]; exact hN) (by rw [t.eS]; exact aXQ hv) hx.1 hx.2
theorem yA (t : At X N sc) (i : Nat) {x : Str} (hr : ρ[i]? = some (.val d)) (hN : N[i]? = some x := by rfl) (hv : VisS sc x = true := by rfl) (hx : NameOk x = true := by rfl) : EvE X ρ (.Name x pos) d :=
  .of (pvAt t hN hv hx) fun B F H σ Q k q => by
    obtain ⟨v, h1, h2⟩ := k.vals i d hr
    exact ⟨v, h1, q v F H (.refl k.sub) h2⟩
theorem jN (t : At X N sc) (i : Nat) {x : Str} {xs : List D} (hr : ρ[i]? = some (.own xs)) (hN : N[i]? = some x := by rfl) (hv : VisS sc x = true := by rfl) (hx : NameOk x = true := by rfl) : EvQ X ρ (.Name x pos) true xs :=
  .of (pvAt t hN hv hx) fun B F H σ Q k q => by
    obtain ⟨p, vs, h1, h2, h3, h4, h5⟩ := k.owns i xs hr
    exact ⟨_, h1, q p vs F H (.refl k.sub) (show SqL _ _ _ _ from SqL.of h2) h5⟩
theorem yC {i : Int} {j : Nat} : EvE X ρ (.Constant (.int i) j pos) (.int i) := .of eCI fun B F H σ Q k q => q _ F H (.refl k.sub) (.int i)
theorem aEJ {j : Nat} : EvE X ρ (.Constant .none j pos) .non := .of eCF fun B F H σ Q k q => q _ F H (.refl k.sub) .non
theorem aYI {x : Str} {j : Nat} : EvE X ρ (.Constant (.str x) j pos) (.str x) := .of eCC fun B F H σ Q k q => q _ F H (.refl k.sub) (.str x)
theorem two {da db : D} (ha : EvE X ρ a da) (hb : EvE X ρ b db) {B : B0} {F H : Hp} {σ : St} {R : V -> V -> Hp -> Prop} (k : Ok X.K B F H σ ρ)
    (h : ∀ x y F' H', Ext ⟨F, H⟩ F' H' -> Rep X.K F' x da -> Rep X.K F' y db -> R x y H') : wE X a σ H fun x H1 => wE X b σ H1 fun y H2 => R x y H2 :=
  ha B F H σ _ k fun x F1 H1 x1 r1 => hb B F1 H1 σ _ (k.ext x1) fun y F2 H2 x2 r2 => h x y F2 H2 (x1.t x2) (r1.mono x2.sf) r2
theorem aED {op : Operator} {i j m : Int} {C : Int -> Int -> Prop} {g : Int -> Int -> Int} (ho : OpR X (binaryOp op) (rI C fun i j => .int (g i j))) (ha : EvE X ρ a (.int i)) (hb : EvE X ρ b (.int j)) (hc : C i j) (hm : g i j = m) :
    EvE X ρ (.BinOp a op b pos) (.int m) :=
  .of (aTI ho pe_w pe_w) fun B F H σ Q k q => two ha hb k fun x y F' H' x' rx ry => by
    cases rx; cases ry; subst hm
    exact ⟨i, j, rfl, rfl, hc, q _ F' H' x' (.int _)⟩
theorem aQE {op : Operator} {i j m : Int} {g : Int -> Int -> Int} (ho : OpR X (binaryOp op) (rI0 fun i j => .int (g i j))) (ha : EvE X ρ a (.int i)) (hb : EvE X ρ b (.int j)) (hm : g i j = m) :
    EvE X ρ (.BinOp a op b pos) (.int m) :=
  .of (aTI ho pe_w pe_w) fun B F H σ Q k q => two ha hb k fun x y F' H' x' rx ry => by
    cases rx; cases ry; subst hm
    exact ⟨i, j, rfl, rfl, q _ F' H' x' (.int _)⟩
theorem yW {i j : Int} (ha : EvE X ρ a (.int i)) (hb : EvE X ρ b (.int j)) : EvE X ρ (.BinOp a .Add b pos) (.int (i + j)) := aQE eCS ha hb rfl
theorem qE {i j : Int} (ha : EvE X ρ a (.int i)) (hb : EvE X ρ b (.int j)) : EvE X ρ (.BinOp a .Sub b pos) (.int (i - j)) := aQE eCJ ha hb rfl
theorem aZR : OpR X (binaryOp .Mult) (rI IntMulOk fun i j => .int (i * j)) := opI fun _ _ _ _ _ _ _ hc q => mul_int q hc
theorem At.pylong (t : At X N sc) {pins : List (Addr × Obj)} {σ : St} {H : Hp} {s : Shared} (I : Inv X pins σ H s) : PylongRoom (model X.prog X.w) X.A s := by
  obtain ⟨env, l, h1, h2, h3, h4, h5⟩ := t.fr
  exact PylongRoom.of I.nolimit t.dp (SeerAt.of (I.ok.mod.seer.keeps I.bk) t.tree (by rw [I.ok.frames, h1]) h2 h3 h4 h5)
theorem aTP (t : At X N sc) : OpR X (binaryOp .FloorDiv) (rI (fun _ j => j ≠ 0) fun i j => .int (i.fdiv j)) := by
  intro pins s σ H x y v u Q I rx ry h
  obtain ⟨i, j, rfl, rfl, hc, q⟩ := h
  obtain ⟨t1, rfl⟩ := rx
  obtain ⟨t2, rfl⟩ := ry
  exact floordiv_int hc ⟨.int (i.fdiv j), H, I.tok _, ⟨_, rfl⟩, q⟩ (.inr (t.pylong I))
theorem yY {i j : Int} (ha : EvE X ρ a (.int i)) (hb : EvE X ρ b (.int j)) (hc : IntMulOk i j) : EvE X ρ (.BinOp a .Mult b pos) (.int (i * j)) := aED aZR ha hb hc rfl
theorem aQC (t : At X N sc) {i j : Int} (ha : EvE X ρ a (.int i)) (hb : EvE X ρ b (.int j)) (h0 : j ≠ 0) : EvE X ρ (.BinOp a .FloorDiv b pos) (.int (i.fdiv j)) := aED (aTP t) ha hb h0 rfl
theorem aEC (t : At X N sc) {i j : Int} (ha : EvE X ρ a (.int i)) (hb : EvE X ρ b (.int j)) (h0 : 0 < j) : EvE X ρ (.BinOp a .FloorDiv b pos) (.int (i / j)) :=
  aED (aTP t) ha hb (by omega) (Int.fdiv_eq_ediv_of_nonneg i (by omega))
theorem yO {i j : Int} (ha : EvE X ρ a (.int i)) (hb : EvE X ρ b (.int j)) (h0 : 0 < j) : EvE X ρ (.BinOp a .Mod b pos) (.int (i % j)) := aED eCN ha hb h0 rfl
theorem aYK {i j : Int} (ha : EvE X ρ a (.int i)) (hb : EvE X ρ b (.int j)) (h0 : CPow i j) : EvE X ρ (.BinOp a .Pow b pos) (.int (i ^ j.toNat)) := aED eCM ha hb h0 rfl
theorem jH {i : Int} (ha : EvE X ρ a (.int i)) : EvE X ρ (.UnaryOp .USub a pos) (.int (-i)) :=
  .of (eDV eBH pe_w) fun B F H σ Q k q => ha B F H σ _ k fun x F' H' x' rx => by
    cases rx
    exact ⟨i, rfl, q _ F' H' x' (.int _)⟩
theorem aUW {op : CmpOp} {i j : Int} {g : Int -> Int -> Bool} (ho : OpR X (compareOp op) (rI0 fun i j => .bl (g i j))) (ha : EvE X ρ a (.int i)) (hb : EvE X ρ b (.int j)) (hm : behindInMarks op b = false) : EvE X ρ (.Compare a [op] [b] pos) (.bl (g i j)) :=
  .of (aJL ho pe_w pe_w hm) fun B F H σ Q k q => two ha hb k fun x y F' H' x' rx ry => by
    cases rx; cases ry
    exact ⟨i, j, rfl, rfl, q _ F' H' x' (.bl _)⟩
theorem eEC {i j : Int} (ha : EvE X ρ a (.int i)) (hb : EvE X ρ b (.int j)) : EvE X ρ (.Compare a [.Lt] [b] pos) (.bl (decide (i < j))) := aUW eCO ha hb (nobehind _ (by decide) (by decide))
theorem eDI {i j : Int} (ha : EvE X ρ a (.int i)) (hb : EvE X ρ b (.int j)) : EvE X ρ (.Compare a [.Gt] [b] pos) (.bl (decide (j < i))) := aUW eCQ ha hb (nobehind _ (by decide) (by decide))
end
end L2.EV
namespace L2.EV
open PySem PySem.Spec PyProof.Rows
mutual
def toP : D -> PyData
  | .non => .none
  | .bl b => .bool b
  | .int i => .int i
  | .str x => .str x
  | .tup xs => .tuple (toPs xs)
  | .lst xs => .list (toPs xs)
  | .scr ns => .list (ns.map PyData.int)
  | .exc _ => .dict []
  | .exh _ _ => .dict []
  | .dic _ => .dict []
  | .adr _ => .dict []
def toPs : List D -> List PyData
  | [] => []
  | d :: ds => toP d :: toPs ds
end
theorem aWC (xs : List D) : toPs xs = xs.map toP := by
  induction xs with
  | nil => rfl
  | cons d ds ih => rw [toPs, ih, List.map_cons]
theorem wB (ns : List Int) : toPs (ns.map D.int) = ns.map PyData.int := by
  rw [aWC, List.map_map]; rfl
section
variable {X : Cx} {pins : List (Addr × Obj)} {σ : St} {F H : Hp} {s : Shared}
theorem readsInts : ∀ {ns : List Int} {us : List Value}, Vals (ns.map V.int) us -> ∃ as, ReadsAll s.heap us (ns.map PyData.int) as
  | [], _, r => by cases r; exact ⟨_, .nil⟩
  | n :: ns, _, r => by
    rw [List.map_cons] at r
    cases r with
    | cons r1 r2 =>
      obtain ⟨as, h⟩ := readsInts r2
      obtain ⟨t, rfl⟩ := r1
      exact ⟨_, .cons (Reads.int n t) h⟩
mutual
theorem Rep.reads (I : Inv X pins σ H s) (sub : Same F H) : ∀ {v : V} {d : D} {u : Value}, Rep X.K F v d -> RelV v u -> (toP d).canLay0 = true -> ∃ as, Reads s.heap u (toP d) as
  | _, _, u, .non, r, hs => by cases (show u = Value.none from r); exact ⟨_, Reads.none⟩
  | _, _, u, .bl b, r, hs => by cases (show u = Value.bool b from r); exact ⟨_, Reads.bool b⟩
  | _, _, u, .int i, r, hs => by obtain ⟨t, e⟩ := (show ∃ t, u = Value.int i t from r); cases e; exact ⟨_, Reads.int i t⟩
  | _, _, u, .str x, r, hs => by obtain ⟨t, e⟩ := (show ∃ t, u = Value.str x t from r); cases e; exact ⟨_, Reads.str x t⟩
  | _, _, u, .tup (a := a) h rl, r, hs => by
    cases (show u = Value.ref a from r)
    obtain ⟨its, rv, p, _⟩ := I.tuple (SqT.of (sub _ _ h))
    obtain ⟨o, e, c, n, dt⟩ := p
    obtain ⟨as, ra⟩ := RepL.reads I sub rl rv (by simpa [toP, PyData.canLay0] using hs)
    exact ⟨_, Reads.tuple e c dt (by simpa using ra)⟩
  | _, _, u, .lst (a := a) h rl, r, hs => by
    cases (show u = Value.ref a from r)
    obtain ⟨its, rv, p, _⟩ := I.list (SqL.of (sub _ _ h))
    obtain ⟨o, e, c, n, dt⟩ := p.isList
    obtain ⟨as, ra⟩ := RepL.reads I sub rl rv (by simpa [toP, PyData.canLay0] using hs)
    exact ⟨_, Reads.list e c dt (by simpa using ra)⟩
  | _, _, u, .exc h, r, hs => by simp [toP, PyData.canLay0] at hs
  | _, _, u, .exh h, r, hs => by simp [toP, PyData.canLay0] at hs
  | _, _, u, .dic h _, r, hs => by simp [toP, PyData.canLay0] at hs
  | _, _, u, .adr _, r, hs => by simp [toP, PyData.canLay0] at hs
  | _, _, u, .scr (a := a) h, r, hs => by
    cases (show u = Value.ref a from r)
    obtain ⟨its, rv, p, _⟩ := I.list (sub.seq h)
    obtain ⟨o, e, c, n, dt⟩ := p.isList
    obtain ⟨as, ra⟩ := readsInts (s := s) rv
    exact ⟨_, Reads.list e c dt (by simpa using ra)⟩
theorem RepL.reads (I : Inv X pins σ H s) (sub : Same F H) : ∀ {vs : List V} {ds : List D} {us : List Value}, RepL X.K F vs ds -> Vals vs us -> PyData.canLayAll0 (toPs ds) = true -> ∃ as, ReadsAll s.heap us (toPs ds) as
  | _, _, _, .nil, r, hs => by cases r; exact ⟨_, .nil⟩
  | _, _, _, .cons r1 r2, r, hs => by
    cases r with
    | cons q1 q2 =>
      rw [toPs, PyData.canLayAll0, Bool.and_eq_true] at hs
      have hs2 := hs
      obtain ⟨as, h1⟩ := Rep.reads I sub r1 q1 hs2.1
      obtain ⟨bs, h2⟩ := RepL.reads I sub r2 q2 hs2.2
      exact ⟨_, .cons h1 h2⟩
end
theorem SqB.reads {k : Bool} {a : Addr} {vs : List V} {xs : List D} (I : Inv X pins σ H s) (sub : Same F H) (h : SqB X.K k H a vs) (r : RepL X.K F vs xs) (hs : (if k = true then PyData.list (toPs xs) else .tuple (toPs xs)).canLay0 = true) : ∃ as, Reads s.heap (.ref a) (if k = true then PyData.list (toPs xs) else .tuple (toPs xs)) as := by
  cases k with
  | true =>
    obtain ⟨its, rv, p, _⟩ := I.list (show SqL _ _ _ _ from h)
    obtain ⟨o, e, c, n, dt⟩ := p.isList
    obtain ⟨as, ra⟩ := RepL.reads I sub r rv (by simpa [PyData.canLay0] using hs)
    exact ⟨_, Reads.list e c dt (by simpa using ra)⟩
  | false =>
    obtain ⟨its, rv, p, _⟩ := I.tuple (show SqT _ _ _ _ from h)
    obtain ⟨o, e, c, n, dt⟩ := p
    obtain ⟨as, ra⟩ := RepL.reads I sub r rv (by simpa [PyData.canLay0] using hs)
    exact ⟨_, Reads.tuple e c dt (by simpa using ra)⟩
end
def RdP (X : Cx) (H : Hp) (v : V) (p : PyData) : Prop := p.canLay0 = true -> ∀ (H' : Hp), Same H H' -> ∀ (pins : List (Addr × Obj)) (σ : St) (s : Shared) (u : Value), Inv X pins σ H' s -> RelV v u -> ∃ as, Reads s.heap u p as
def EvP (X : Cx) (ρ : Rho) (e : Expr) (p : PyData) : Prop := ∀ (B : B0) (F H : Hp) (σ : St) (Q : VK), Ok X.K B F H σ ρ -> (∀ v F' H', Ext ⟨F, H⟩ F' H' -> RdP X H' v p -> Q v H') -> wE X e σ H Q
section
variable {X : Cx} {ρ : Rho} {e a b c : Expr} {d : D} {pos : Pos} {N : List Str} {sc : Scope}
theorem EvE.p (h : EvE X ρ e d) : EvP X ρ e (toP d) := fun B F H σ Q k q => h B F H σ Q k fun v F' H' x r => q v F' H' x fun hs H2 s2 pins σ s u I ru => r.reads I (x.sub.trans s2) ru hs
theorem EvQ.p {k : Bool} {xs : List D} (h : EvQ X ρ e k xs) : EvP X ρ e (if k = true then PyData.list (toPs xs) else .tuple (toPs xs)) := fun B F H σ Q k' q => h B F H σ Q k' fun a vs F' H' x hs r => q _ F' H' x fun hc H2 s2 pins σ s u I ru => by
  cases (show u = Value.ref a from ru)
  exact SqB.reads I (x.sub.trans s2) (hs.mono s2) r hc
theorem eBP (t : At X N sc) {p q : PyData} (sp : SeqAt.shaped p = true) (sq : SeqAt.shaped q = true) : OpR X (compareOp .Eq) (fun x y H Q => RdP X H x p /\ RdP X H y q /\ Q (.bl (p.eqv q)) H) := by
  intro pins s σ H x y v u Q I rx ry h
  obtain ⟨h1, h2, h3⟩ := h
  obtain ⟨as, r1⟩ := h1 (SeqAt.canLay_of_shaped sp) H (.refl _) pins σ s v I rx
  obtain ⟨bs, r2⟩ := h2 (SeqAt.canLay_of_shaped sq) H (.refl _) pins σ s u I ry
  exact eq_dataH r1 r2 sp sq t.un ⟨.bl _, H, I, rfl, h3⟩
theorem eDU (t : At X N sc) {p q : PyData} (sp : SeqAt.shaped p = true) (sq : SeqAt.shaped q = true) : OpR X (compareOp .NotEq) (fun x y H Q => RdP X H x p /\ RdP X H y q /\ Q (.bl (!p.eqv q)) H) := by
  intro pins s σ H x y v u Q I rx ry h
  obtain ⟨h1, h2, h3⟩ := h
  obtain ⟨as, r1⟩ := h1 (SeqAt.canLay_of_shaped sp) H (.refl _) pins σ s v I rx
  obtain ⟨bs, r2⟩ := h2 (SeqAt.canLay_of_shaped sq) H (.refl _) pins σ s u I ry
  exact ne_dataH r1 r2 sp sq t.un ⟨.bl _, H, I, rfl, h3⟩
theorem RdP.mono {H H' : Hp} {v : V} {p : PyData} (h : RdP X H v p) (s : Same H H') : RdP X H' v p := fun hc H2 s2 => h hc H2 (s.trans s2)
theorem twoP {p q : PyData} (ha : EvP X ρ a p) (hb : EvP X ρ b q) {B : B0} {F H : Hp} {σ : St} {R : V -> V -> Hp -> Prop} (k : Ok X.K B F H σ ρ)
    (h : ∀ x y F' H', Ext ⟨F, H⟩ F' H' -> RdP X H' x p -> RdP X H' y q -> R x y H') : wE X a σ H fun x H1 => wE X b σ H1 fun y H2 => R x y H2 :=
  ha B F H σ _ k fun x F1 H1 x1 r1 => hb B F1 H1 σ _ (k.ext x1) fun y F2 H2 x2 r2 => h x y F2 H2 (x1.t x2) (r1.mono x2.sh) r2
theorem eDJ (t : At X N sc) {p q : PyData} (ha : EvP X ρ a p) (hb : EvP X ρ b q) (sp : SeqAt.shaped p = true) (sq : SeqAt.shaped q = true) {r : Bool} (hr : p.eqv q = r) : EvE X ρ (.Compare a [.Eq] [b] pos) (.bl r) :=
  .of (aJL (eBP t sp sq) pe_w pe_w (nobehind _ (by decide) (by decide))) fun B F H σ Q k q => twoP ha hb k fun x y F' H' x' rx ry => ⟨rx, ry, by rw [hr]; exact q _ F' H' x' (.bl r)⟩
theorem RepL.at {K : PySem.W.Frag} {F : Hp} {vs : List V} {xs : List D} {i : Int} {d : D} (r : RepL K F vs xs) (h : atI xs i = some d) : ∃ v, atI vs i = some v /\ Rep K F v d := by
  unfold atI at h ⊢
  rw [r.length]
  cases e : ixN xs.length i with
  | none => rw [e] at h; cases h
  | some j =>
    rw [e] at h
    obtain ⟨v, h1, h2⟩ := r.get h
    exact ⟨v, h1, h2⟩
theorem qe {k : Bool} {xs : List D} {db : D} (ha : EvQ X ρ a k xs) (hb : EvE X ρ b db) {B : B0} {F H : Hp} {σ : St} {R : V -> V -> Hp -> Prop} (k' : Ok X.K B F H σ ρ)
    (h : ∀ l vs y F' H', Ext ⟨F, H⟩ F' H' -> SqB X.K k H' l vs -> RepL X.K F' vs xs -> Rep X.K F' y db -> R (.ref l) y H') : wE X a σ H fun x H1 => wE X b σ H1 fun y H2 => R x y H2 :=
  ha B F H σ _ k' fun l vs F1 H1 x1 s1 r1 => hb B F1 H1 σ _ (k'.ext x1) fun y F2 H2 x2 r2 => h l vs y F2 H2 (x1.t x2) (s1.mono x2.sh) (r1.mono x2.sf) r2
theorem yU {k : Bool} {xs : List D} {i : Int} (ha : EvQ X ρ a k xs) (hb : EvE X ρ b (.int i)) (h : atI xs i = some d) (hs : PlainIx b := by intro _ _; rfl) : EvE X ρ (.Subscript a b pos) d := by
  cases k with
  | true =>
    exact .of (eCH eAA pe_w pe_w hs) fun B F H σ Q k' q => qe ha hb k' fun l vs y F' H' x' sl rl ry => by
      cases ry
      obtain ⟨v, h1, h2⟩ := rl.at h
      exact ⟨l, vs, i, v, rfl, rfl, sl, h1, q v F' H' x' h2⟩
  | false =>
    exact .of (eCH eDA pe_w pe_w hs) fun B F H σ Q k' q => qe ha hb k' fun l vs y F' H' x' sl rl ry => by
      cases ry
      obtain ⟨v, h1, h2⟩ := rl.at h
      exact ⟨l, vs, i, v, rfl, rfl, sl, h1, q v F' H' x' h2⟩
theorem wM : EvO X ρ none none := fun B F H σ Q k q pins s I => aZM pins s σ H Q I (q F H (.refl k.sub))
theorem vK {i : Int} (h : EvE X ρ e (.int i)) : EvO X ρ (some e) (some i) := fun B F H σ Q k q pins s I => aZL pe_w pins s σ H Q I (h B F H σ _ k fun v F' H' x r => by
  cases r
  exact ⟨i, rfl, q F' H' x⟩)
def cutD (xs : List D) (lo hi : Option Int) : List D := (xs.drop (HT.sIx xs.length 0 lo)).take (HT.sIx xs.length xs.length hi - HT.sIx xs.length 0 lo)
theorem RepL.cut {K : PySem.W.Frag} {F : Hp} {vs : List V} {xs : List D} (r : RepL K F vs xs) (lo hi : Option Int) : RepL K F (cutV vs lo hi) (cutD xs lo hi) := by
  unfold cutV cutD
  rw [r.length]
  exact (r.drop _).take _
theorem aAF {xs : List D} {lo hi : Option Expr} {l h : Option Int} {p2 : Pos} (ha : EvQ X ρ a true xs) (hl : EvO X ρ lo l) (hh : EvO X ρ hi h) : EvN X ρ (.Subscript a (.Slice lo hi none p2) pos) (cutD xs l h) :=
  .of (aWU aYU pe_w po_w po_w) fun B F H σ Q k q => ha B F H σ _ k fun p vs F1 H1 x1 s1 r1 => hl B F1 H1 σ _ (k.ext x1) fun F2 H2 x2 => hh B F2 H2 σ _ (k.ext (x1.t x2)) fun F3 H3 x3 => by
    have x := x1.t (x2.t x3)
    refine ⟨p, vs, rfl, (s1.mono x2.sh).mono x3.sh, fun l' hl' => ?_⟩
    have r3 := (r1.mono x2.sf).mono x3.sf
    exact q l' _ F3 _ ⟨x.sub.trans (yL hl'), x.sh.trans (yL hl'), x.sf, x.nw⟩ (x.sh.free hl') zA (x.sub.free hl') (r3.cut l h)
theorem yE : EvA X ρ [] [] := ⟨trivial, fun B F H σ Q k q pos pins s I => vG pos pins s σ H Q I (q [] F H (.refl k.sub) .nil)⟩
theorem yB {es : List Expr} {ds : List D} (h1 : EvE X ρ e d) (h2 : EvA X ρ es ds) (hs : Pl e := by intro _ _; rfl) : EvA X ρ (e :: es) (d :: ds) :=
  ⟨⟨hs, h2.1⟩, fun B F H σ Q k q pos pins s I => zJ pe_w pa_w (hs _ _) pos pins s σ H Q I (h1 B F H σ _ k fun v F1 H1 x1 r1 => h2.2 B F1 H1 σ _ (k.ext x1) fun vs F2 H2 x2 r2 => q _ F2 H2 (x1.t x2) (.cons (r1.mono x2.sf) r2))⟩
theorem zC {es : List Expr} {ds : List D} {x1 : Nat} (h : EvA X ρ es ds) (hl : ds.length <= sizeLine := by exact Nat.le_of_ble_eq_true rfl) : EvE X ρ (.Tuple es x1 pos) (.tup ds) :=
  .of (eCB pa_w) fun B F H σ Q k q => h.2 B F H σ _ k fun vs F' H' x r => ⟨by rw [r.length]; exact hl, fun p hp => q _ _ _ (x.grow hp) (.tup zA (r.mono (yL (x.sub.free hp))))⟩
theorem vH {es : List Expr} {ds : List D} (h : EvA X ρ es ds) (hl : ds.length <= sizeLine := by exact Nat.le_of_ble_eq_true rfl) : EvN X ρ (.List es pos) ds :=
  .of (eCG pa_w) fun B F H σ Q k q => h.2 B F H σ _ k fun vs F' H' x r => ⟨by rw [r.length]; exact hl, fun p hp => q p vs F' _ ⟨x.sub.trans (yL hp), x.sh.trans (yL hp), x.sf, x.nw⟩ (x.sh.free hp) zA (x.sub.free hp) r⟩
theorem aQG {xs ys : List D} (ha : EvE X ρ a (.lst xs)) (hb : EvE X ρ b (.lst ys)) (hz : xs.length + ys.length <= sizeLine) : EvN X ρ (.BinOp a .Add b pos) (xs ++ ys) :=
  .of (aTI eCR pe_w pe_w) fun B F H σ Q k q => two ha hb k fun x y F' H' x' rx ry => by
    cases rx with
    | lst h1 r1 =>
      cases ry with
      | lst h2 r2 =>
        refine ⟨_, _, _, _, rfl, rfl, x'.sub _ _ h1, x'.sub _ _ h2, by rw [r1.length, r2.length]; exact hz, fun p hp => ?_⟩
        exact q p _ F' _ ⟨x'.sub.trans (yL hp), x'.sh.trans (yL hp), x'.sf, x'.nw⟩ (x'.sh.free hp) zA (x'.sub.free hp) (r1.append r2)
theorem aVC {xs : List D} {n : Int} (ha : EvE X ρ a (.lst xs)) (hb : EvE X ρ b (.int n)) (h1 : -(2 ^ 63) <= n) (h2 : n < 2 ^ 63) (hz : xs.length * n.toNat <= sizeLine) : EvN X ρ (.BinOp a .Mult b pos) (List.replicate n.toNat xs).flatten :=
  .of (aTI eCL pe_w pe_w) fun B F H σ Q k q => two ha hb k fun x y F' H' x' rx ry => by
    cases rx with
    | lst g1 r1 =>
      cases ry
      refine ⟨_, n, _, rfl, rfl, x'.sub _ _ g1, h1, h2, by rw [r1.length]; exact hz, fun p hp => ?_⟩
      exact q p _ F' _ ⟨x'.sub.trans (yL hp), x'.sh.trans (yL hp), x'.sf, x'.nw⟩ (x'.sh.free hp) zA (x'.sub.free hp) (r1.rep _)
theorem aEB {r : Bool} (ha : EvT X ρ a r) : EvW X ρ (.BoolOp .And [a] pos) r := .of (aZE pt_w) fun B F H σ Q k q => ha B F H σ Q k q
theorem aGL {r : Bool} (ha : EvT X ρ a r) : EvW X ρ (.BoolOp .Or [a] pos) r := .of (eBQ pt_w) fun B F H σ Q k q => ha B F H σ Q k q
theorem aEA {rest : List Expr} {r : Bool} (ha : EvT X ρ a true) (hb : EvW X ρ (.BoolOp .And (b :: rest) pos) r) : EvW X ρ (.BoolOp .And (a :: b :: rest) pos) r :=
  .of (aXV pt_w pw_w) fun B F H σ Q k q => ha B F H σ _ k fun F1 H1 x1 => by rw [if_pos rfl]; exact hb B F1 H1 σ _ (k.ext x1) fun F2 H2 x2 => q F2 H2 (x1.t x2)
theorem aKG {rest : List Expr} (ha : EvT X ρ a false) : EvW X ρ (.BoolOp .And (a :: b :: rest) pos) false :=
  .of (aXV pt_w pw_w) fun B F H σ Q k q => ha B F H σ _ k fun F1 H1 x1 => by rw [if_neg Bool.false_ne_true]; exact q F1 H1 x1
theorem aGK {rest : List Expr} {r : Bool} (ha : EvT X ρ a false) (hb : EvW X ρ (.BoolOp .Or (b :: rest) pos) r) : EvW X ρ (.BoolOp .Or (a :: b :: rest) pos) r :=
  .of (eBR pt_w pw_w) fun B F H σ Q k q => ha B F H σ _ k fun F1 H1 x1 => by rw [if_neg Bool.false_ne_true]; exact hb B F1 H1 σ _ (k.ext x1) fun F2 H2 x2 => q F2 H2 (x1.t x2)
theorem aQA {rest : List Expr} (ha : EvT X ρ a true) : EvW X ρ (.BoolOp .Or (a :: b :: rest) pos) true :=
  .of (eBR pt_w pw_w) fun B F H σ Q k q => ha B F H σ _ k fun F1 H1 x1 => by rw [if_pos rfl]; exact q F1 H1 x1
theorem EvW.toT {r : Bool} (h : EvW X ρ e r) : EvT X ρ e r := fun B F H σ Q k q pins s I => h B F H σ Q k q _ pins s I
theorem aMO {r : Bool} (ha : EvT X ρ a r) : EvT X ρ (.UnaryOp .Not a pos) (!r) := .of (eBT pt_w) fun B F H σ Q k q => ha B F H σ _ k q
theorem aQB {op : BoolOp} (h : EvE X ρ a d) : EvE X ρ (.BoolOp op [a] pos) d := .of (eCD pe_w) fun B F H σ Q k q => h B F H σ Q k q
theorem aEE {rest : List Expr} (ha : EvE X ρ a (.bl true)) (hb : EvE X ρ (.BoolOp .And (b :: rest) pos) d) : EvE X ρ (.BoolOp .And (a :: b :: rest) pos) d :=
  .of (aYC pe_w pe_w) fun B F H σ Q k q => ha B F H σ _ k fun v F1 H1 x1 r => by
    cases r
    exact ⟨true, rfl, by rw [if_pos rfl]; exact hb B F1 H1 σ _ (k.ext x1) fun v F2 H2 x2 r2 => q v F2 H2 (x1.t x2) r2⟩
theorem eAL {rest : List Expr} (ha : EvE X ρ a (.bl false)) : EvE X ρ (.BoolOp .And (a :: b :: rest) pos) (.bl false) :=
  .of (aYC pe_w pe_w) fun B F H σ Q k q => ha B F H σ _ k fun v F1 H1 x1 r => by
    cases r
    exact ⟨false, rfl, by rw [if_neg Bool.false_ne_true]; exact q _ F1 H1 x1 (.bl false)⟩
theorem eAI {r : Bool} (ha : EvE X ρ a (.bl r)) : EvE X ρ (.UnaryOp .Not a pos) (.bl (!r)) :=
  .of (eCE pe_w) fun B F H σ Q k q => ha B F H σ _ k fun v F1 H1 x1 rv => by
    cases rv
    exact ⟨r, rfl, q _ F1 H1 x1 (.bl _)⟩
theorem aIE (hc : EvT X ρ c true) (ha : EvE X ρ a d) : EvE X ρ (.IfExp c a b pos) d :=
  .of (aPU pt_w pe_w pe_w) fun B F H σ Q k q => hc B F H σ _ k fun F1 H1 x1 => by rw [if_pos rfl]; exact ha B F1 H1 σ _ (k.ext x1) fun v F2 H2 x2 r2 => q v F2 H2 (x1.t x2) r2
theorem aGM (hc : EvT X ρ c false) (hb : EvE X ρ b d) : EvE X ρ (.IfExp c a b pos) d :=
  .of (aPU pt_w pe_w pe_w) fun B F H σ Q k q => hc B F H σ _ k fun F1 H1 x1 => by rw [if_neg Bool.false_ne_true]; exact hb B F1 H1 σ _ (k.ext x1) fun v F2 H2 x2 r2 => q v F2 H2 (x1.t x2) r2
theorem eDL {i : Int} (ha : EvE X ρ e (.int i)) (he : ∀ whole, isTrue e X.env whole = (do let v <- whole; standAt e.pos; holding [v] (truthy v)) := by intro _; rfl) : EvT X ρ e (i != 0) :=
  .of (aWN pe_w he) fun B F H σ Q k q => ha B F H σ _ k fun v F1 H1 x1 r => by
    cases r
    exact ⟨_, rfl, q F1 H1 x1⟩
theorem aOH {r : Bool} (ha : EvE X ρ e (.bl r)) (he : ∀ whole, isTrue e X.env whole = (do let v <- whole; standAt e.pos; holding [v] (truthy v)) := by intro _; rfl) : EvT X ρ e r :=
  .of (eBS pe_w he) fun B F H σ Q k q => ha B F H σ _ k fun v F1 H1 x1 rv => by
    cases rv
    exact ⟨r, rfl, q F1 H1 x1⟩
end
end L2.EV
namespace L2.EV
open PySem PySem.Spec PyProof.Rows
section
variable {X : Cx} {ρ : Rho} {e a b c : Expr} {d : D} {pos : Pos} {N : List Str} {sc : Scope}
theorem aGP {op : CmpOp} {r : R2} {da db : D} {k : Bool} (ho : OpR X (compareOp op) r) (ha : EvE X ρ a da) (hb : EvE X ρ b db) (hm : behindInMarks op b = false)
    (hr : ∀ (F H : Hp) x y (Q : VK), Rep X.K F x da -> Rep X.K F y db -> Q (.bl k) H -> r x y H Q) : EvT X ρ (.Compare a [op] [b] pos) k :=
  .of (aJG ho pe_w pe_w hm) fun B F H σ Q k' q => two ha hb k' fun x y F' H' x' rx ry => hr F' H' x y _ rx ry ⟨k, rfl, q F' H' x'⟩
theorem aGN {i j : Int} (ha : EvE X ρ a (.int i)) (hb : EvE X ρ b (.int j)) : EvT X ρ (.Compare a [.Lt] [b] pos) (decide (i < j)) := aGP eCO ha hb (nobehind _ (by decide) (by decide)) fun F H x y Q rx ry q => by cases rx; cases ry; exact ⟨i, j, rfl, rfl, q⟩
theorem aOG {i j : Int} (ha : EvE X ρ a (.int i)) (hb : EvE X ρ b (.int j)) : EvT X ρ (.Compare a [.Gt] [b] pos) (decide (j < i)) := aGP eCQ ha hb (nobehind _ (by decide) (by decide)) fun F H x y Q rx ry q => by cases rx; cases ry; exact ⟨i, j, rfl, rfl, q⟩
theorem aRN {i j : Int} (ha : EvE X ρ a (.int i)) (hb : EvE X ρ b (.int j)) : EvT X ρ (.Compare a [.GtE] [b] pos) (decide (j <= i)) := aGP eDY ha hb (nobehind _ (by decide) (by decide)) fun F H x y Q rx ry q => by cases rx; cases ry; exact ⟨i, j, rfl, rfl, q⟩
theorem aQI {i j : Int} : decide (V.int i = V.int j) = decide (i = j) := by rw [aOK, Bool.beq_eq_decide_eq]
theorem vA {i j : Int} (ha : EvE X ρ a (.int i)) (hb : EvE X ρ b (.int j)) : EvT X ρ (.Compare a [.Eq] [b] pos) (decide (i = j)) := aGP eDZ ha hb (nobehind _ (by decide) (by decide)) fun F H x y Q rx ry q => by
  cases rx; cases ry; exact ⟨rfl, by rw [aQI]; exact q⟩
theorem aYM {i j : Int} (ha : EvE X ρ a (.int i)) (hb : EvE X ρ b (.int j)) : EvT X ρ (.Compare a [.NotEq] [b] pos) (!decide (i = j)) := aGP eDX ha hb (nobehind _ (by decide) (by decide)) fun F H x y Q rx ry q => by
  cases rx; cases ry; exact ⟨rfl, by rw [aQI]; exact q⟩
theorem aGO (t : At X N sc) {p q : PyData} (ha : EvP X ρ a p) (hb : EvP X ρ b q) (sp : SeqAt.shaped p = true) (sq : SeqAt.shaped q = true) {r : Bool} (hr : p.eqv q = r) : EvT X ρ (.Compare a [.Eq] [b] pos) r :=
  .of (aJG (eBP t sp sq) pe_w pe_w (nobehind _ (by decide) (by decide))) fun B F H σ Q k q => twoP ha hb k fun x y F' H' x' rx ry => ⟨rx, ry, r, by rw [hr], q F' H' x'⟩
theorem aDG (t : At X N sc) {p q : PyData} (ha : EvP X ρ a p) (hb : EvP X ρ b q) (sp : SeqAt.shaped p = true) (sq : SeqAt.shaped q = true) {r : Bool} (hr : (!p.eqv q) = r) : EvT X ρ (.Compare a [.NotEq] [b] pos) r :=
  .of (aJG (eDU t sp sq) pe_w pe_w (nobehind _ (by decide) (by decide))) fun B F H σ Q k q => twoP ha hb k fun x y F' H' x' rx ry => ⟨rx, ry, r, by rw [hr], q F' H' x'⟩
structure Blt (X : Cx) (sc : Scope) (x : Str) (u : Value) : Prop where
  g : sc.names.lookup x = some .globalImplicit
  m : X.mg x = none
  v : bootBuiltins x = some u
  n : x ≠ "__name__"
  d : (x == ("__debug__" : Str)) = false
theorem aAU (t : At X N sc) {x : Str} (h : sc.names.lookup x = some .globalImplicit) : Gl X x := by
  show X.env.scope.names.lookup x = _
  rw [t.eS]; exact h
variable {x : Str} {p : Pos} {es : List Expr} {ds : List D}
theorem aQD (t : At X N sc) {id : String} {r : List V -> Hp -> VK -> Prop} (bl : Blt X sc x (.builtin id)) (hc : CallR X (.builtin id) r) (ha : EvA X ρ (e :: es) ds)
    (hr : ∀ (F H : Hp) vs (Q : VK), Same F H -> RepL X.K F vs ds -> (∀ v F' H', Ext ⟨F, H⟩ F' H' -> Rep X.K F' v d -> Q v H') -> r vs H Q) : EvE X ρ (.Call (.Name x p) (e :: es) [] pos) d :=
  .of (wR hc (aAU t bl.g) bl.m bl.v pa_w bl.n bl.d (ha.1.1 _ _) (PlA.any ha.1.2)) fun B F H σ Q k q => ha.2 B F H σ _ k fun vs F' H' x' rv => hr F' H' vs Q x'.sub rv fun v F2 H2 x2 r2 => q v F2 H2 (x'.t x2) r2
theorem aUX (t : At X N sc) {T : String} {r : List V -> Hp -> VK -> Prop} (bl : Blt X sc x (.type T)) (hc : CallR X (.type T) r) (ha : EvA X ρ (e :: es) ds)
    (hr : ∀ (F H : Hp) vs (Q : VK), Same F H -> RepL X.K F vs ds -> (∀ v F' H', Ext ⟨F, H⟩ F' H' -> Rep X.K F' v d -> Q v H') -> r vs H Q) : EvE X ρ (.Call (.Name x p) (e :: es) [] pos) d :=
  .of (aGA hc (aAU t bl.g) bl.m bl.v pa_w bl.n bl.d (ha.1.1 _ _) (PlA.any ha.1.2)) fun B F H σ Q k q => ha.2 B F H σ _ k fun vs F' H' x' rv => hr F' H' vs Q x'.sub rv fun v F2 H2 x2 r2 => q v F2 H2 (x'.t x2) r2
theorem RepL.one {K : PySem.W.Frag} {F : Hp} {vs : List V} {d : D} (h : RepL K F vs [d]) : ∃ v, vs = [v] /\ Rep K F v d := by
  cases h with
  | cons r t => cases t; exact ⟨_, rfl, r⟩
theorem RepL.two {K : PySem.W.Frag} {F : Hp} {vs : List V} {d e : D} (h : RepL K F vs [d, e]) : ∃ v u, vs = [v, u] /\ Rep K F v d /\ Rep K F u e := by
  cases h with
  | cons r t => obtain ⟨u, rfl, q⟩ := t.one; exact ⟨_, _, rfl, r, q⟩
theorem yT (t : At X N sc) {k : Bool} {xs : List D} (bl : Blt X sc x (.builtin "len")) (ha : EvQ X ρ e k xs) (hpe : Pl e := by intro _ _; rfl) : EvE X ρ (.Call (.Name x p) [e] [] pos) (.int xs.length) :=
  .of (wR aMV (aAU t bl.g) bl.m bl.v (zJ pe_w vG (hpe _ _)) bl.n bl.d (hpe _ _) rfl) fun B F H σ Q k' q => ha B F H σ _ k' fun l vs F' H' x' sl rl => by
    refine ⟨l, vs, rfl, ?_, ?_⟩
    . cases k with
      | true => exact .inl sl
      | false => exact .inr sl
    . rw [rl.length]; exact q _ F' H' x' (.int _)
theorem aIF (t : At X N sc) {i : Int} (bl : Blt X sc x (.builtin "abs")) (ha : EvE X ρ e (.int i)) (hpe : Pl e := by intro _ _; rfl) : EvE X ρ (.Call (.Name x p) [e] [] pos) (.int i.natAbs) :=
  aQD t bl aXI (yB ha yE hpe) fun F H vs Q sub r q => by
    obtain ⟨v, rfl, rv⟩ := r.one
    cases rv
    have e : (if i < 0 then -i else i) = (i.natAbs : Int) := by split <;> omega
    exact ⟨i, rfl, by rw [e]; exact q _ F H (.refl sub) (.int _)⟩
theorem eAJ (t : At X N sc) {i j : Int} (bl : Blt X sc x (.builtin "max")) (ha : EvE X ρ a (.int i)) (hb : EvE X ρ b (.int j)) (hpa : Pl a := by intro _ _; rfl) (hpb : Pl b := by intro _ _; rfl) : EvE X ρ (.Call (.Name x p) [a, b] [] pos) (.int (max i j)) :=
  aQD t bl (aVP t.calm) (yB ha (yB hb yE hpb) hpa) fun F H vs Q sub r q => by
    obtain ⟨v, u, rfl, rv, ru⟩ := r.two
    cases rv; cases ru
    have e : (if j > i then j else i) = max i j := by split <;> omega
    exact ⟨i, j, rfl, by rw [e]; exact q _ F H (.refl sub) (.int _)⟩
theorem eAK (t : At X N sc) {k : Bool} (bl : Blt X sc x (.type "int")) (ha : EvE X ρ e (.bl k)) (hpe : Pl e := by intro _ _; rfl) : EvE X ρ (.Call (.Name x p) [e] [] pos) (.int (if k then 1 else 0)) :=
  aUX t bl aVQ (yB ha yE hpe) fun F H vs Q sub r q => by
    obtain ⟨v, rfl, rv⟩ := r.one
    cases rv
    exact .inr ⟨k, rfl, q _ F H (.refl sub) (.int _)⟩
theorem aCI (t : At X N sc) {k : Bool} {xs : List D} (bl : Blt X sc x (.type "list")) (ha : EvQ X ρ e k xs) (hpe : Pl e := by intro _ _; rfl) : EvN X ρ (.Call (.Name x p) [e] [] pos) xs :=
  .of (aGA aMU (aAU t bl.g) bl.m bl.v (zJ pe_w vG (hpe _ _)) bl.n bl.d (hpe _ _) rfl) fun B F H σ Q k' q => ha B F H σ _ k' fun l vs F' H' x' sl rl => by
    refine ⟨l, vs, rfl, ?_, fun p hp => ?_⟩
    . cases k with
      | true => exact .inl sl
      | false => exact .inr sl
    . exact q p vs F' _ ⟨x'.sub.trans (yL hp), x'.sh.trans (yL hp), x'.sf, x'.nw⟩ (x'.sh.free hp) zA (x'.sub.free hp) rl
theorem vS (t : At X N sc) {xs : List D} (bl : Blt X sc x (.type "tuple")) (ha : EvQ X ρ e true xs) (hpe : Pl e := by intro _ _; rfl) : EvE X ρ (.Call (.Name x p) [e] [] pos) (.tup xs) :=
  .of (aGA aKN (aAU t bl.g) bl.m bl.v (zJ pe_w vG (hpe _ _)) bl.n bl.d (hpe _ _) rfl) fun B F H σ Q k' q => ha B F H σ _ k' fun l vs F' H' x' sl rl => by
    refine ⟨l, vs, rfl, .inl ⟨sl, fun p hp => ?_⟩⟩
    exact q _ _ _ (x'.grow hp) (.tup zA (rl.mono (yL (x'.sub.free hp))))
def tyD : D -> Value
  | .non => .type "NoneType" | .bl _ => .type "bool" | .int _ => .type "int" | .str _ => .type "str" | .tup _ => .type "tuple" | .lst _ => .type "list" | .scr _ => .type "list" | .exc C => .ref C | .exh C _ => .ref C | .dic _ => .type "dict" | .adr _ => .type "dict"
theorem tyOf {F H : Hp} (sub : Same F H) {v : V} {d : D} (r : Rep X.K F v d) (hd : ∀ ns, d ≠ .scr ns) (hx : ∀ C ea, d ≠ .exc C /\ d ≠ .exh C ea /\ d ≠ .adr C := by intro _ _; exact And.intro (fun h => by cases h) (And.intro (fun h => by cases h) (fun h => by cases h))) (hq : ∀ kvs, d ≠ .dic kvs := by intro _ h; cases h) : TyOf X.K H v (tyD d) := by
  cases r with
  | non => exact .non
  | bl b => exact .bl b
  | int i => exact .int i
  | str x => exact .str x
  | tup h _ => exact .tup (sub _ _ h)
  | lst h _ => exact .lst (sub _ _ h)
  | scr h => exact absurd rfl (hd _)
  | exc h => exact absurd rfl (hx _ 0).1
  | exh h => exact absurd rfl (hx _ _).2.1
  | adr a => exact absurd rfl (hx a 0).2.2
  | dic h _ => exact absurd rfl (hq _)
theorem eDC {T : String} {k : Bool} (hx : ∀ C ea, d ≠ .exc C /\ d ≠ .exh C ea /\ d ≠ .adr C) (hd : ∀ ns, d ≠ .scr ns) (hq : ∀ kvs, d ≠ .dic kvs) (hk : PySem.W.kitOne X.K (tyD d) (.type T) = some k) :
    CallR X (.builtin "isinstance") (fun xs H Q => ∃ x F, xs = [x, .ty T] /\ Same F H /\ Rep X.K F x d /\ Q (.bl k) H) := by
  intro pins s σ H xs us Q I r h
  obtain ⟨v, F, rfl, sub, rv, q⟩ := h
  obtain ⟨u, w, rfl, ru, rw'⟩ := vals2 r
  cases (show w = Value.type T from rw')
  exact aUJ I ru (tyOf sub rv hd hx hq) hk fun tk => ⟨.bl k, H, I.tok tk, rfl, q⟩
theorem aUV (t : At X N sc) {T : String} {y : Str} {k : Bool} {py : Pos} (bl : Blt X sc x (.builtin "isinstance")) (bt : Blt X sc y (.type T)) (ha : EvE X ρ a d) (hk : PySem.W.kitOne X.K (tyD d) (.type T) = some k) (hd : ∀ ns, d ≠ .scr ns := by intro _ h; cases h) (hpa : Pl a := by intro _ _; rfl) (hx : ∀ C ea, d ≠ .exc C /\ d ≠ .exh C ea /\ d ≠ .adr C := by intro _ _; exact And.intro (fun h => by cases h) (And.intro (fun h => by cases h) (fun h => by cases h))) (hq : ∀ kvs, d ≠ .dic kvs := by intro _ h; cases h) :
    EvE X ρ (.Call (.Name x p) [a, .Name y py] [] pos) (.bl k) :=
  .of (wR (eDC hx hd hq hk) (aAU t bl.g) bl.m bl.v (zJ pe_w (zJ (aTL (v := .ty T) (aAU t bt.g) bt.m bt.v rfl bt.n bt.d) vG) (hpa _ _)) bl.n bl.d (hpa _ _) rfl) fun B F H σ Q k' q =>
    ha B F H σ _ k' fun v F' H' x' r => ⟨v, F', rfl, x'.sub, r, q _ F' H' x' (.bl k)⟩
theorem RepL.bls {K : PySem.W.Frag} {F : Hp} : ∀ {bs : List Bool} {vs : List V}, RepL K F vs (bs.map D.bl) -> vs = bs.map V.bl
  | [], _, h => by cases h; rfl
  | b :: bs, _, h => by
    cases h with
    | cons r t => cases r; rw [List.map_cons, RepL.bls t]
theorem boolsAre : ∀ {bs : List Bool} {us : List Value}, Vals (bs.map V.bl) us -> LSm.BoolsAre us bs
  | [], _, r => by cases r; exact .nil
  | b :: bs, _, r => by
    rw [List.map_cons] at r
    cases r with
    | cons r1 r2 =>
      cases (show _ = Value.bool b from r1)
      exact .cons b (boolsAre r2)
theorem aVS (hc : X.calm = true) : CallR X (.builtin "all") (fun xs H Q => ∃ (l : Addr) (bs : List Bool), xs = [.ref l] /\ SqL X.K H l (bs.map V.bl) /\ Q (.bl (bs.all id)) H) := by
  intro pins s σ H xs us Q I r h
  obtain ⟨l, bs, rfl, sl, q⟩ := h
  obtain ⟨u, rfl, ru⟩ := vals1 r
  cases (show u = Value.ref l from ru)
  obtain ⟨vs, rv, pl, hz⟩ := I.list sl
  have hb := boolsAre rv
  have hl := pl.isList
  have hlt : l < s.heap.objs.size := by obtain ⟨_, e, _⟩ := hl; exact Heap.lt_size e
  refine call_all_walk (wpAny_pyIter_list hl ?_)
  refine ⟨s.heap.objs.size, [s.heap.objs.size, l], [s.heap.objs.size], vs.toArray.size, _, _, fun i => (bs[i]?).getD true, rfl, Walks.list (A := X.A.in1) (I.ok.hd hc) _ l (Nat.ne_of_lt hlt) vs.toArray,
    ⟨⟨_, Heap.get?_push_size _ rfl, rfl, rfl⟩, hl.push _⟩, fun i v s' Q' E' hP hQ => ?_, fun h' tk hk => ?_⟩
  . obtain ⟨b, e, rfl⟩ := hb.get i v (by simpa using hP)
    simp only [e, Option.getD_some] at hQ
    exact wpAny_truthy_bool hQ
  . have e : ((List.range vs.toArray.size).all fun i => (bs[i]?).getD true) = bs.all id := by
      rw [List.size_toArray, hb.length]; exact LSm.range_all bs
    rw [e]
    exact ⟨.bl _, H, I.kept (LSm.kept_iter hk), rfl, q⟩
theorem eDK (t : At X N sc) {bs : List Bool} (bl : Blt X sc x (.builtin "all")) (ha : EvQ X ρ e true (bs.map D.bl)) (hpe : Pl e := by intro _ _; rfl) : EvE X ρ (.Call (.Name x p) [e] [] pos) (.bl (bs.all id)) :=
  .of (wR (aVS t.calm) (aAU t bl.g) bl.m bl.v (zJ pe_w vG (hpe _ _)) bl.n bl.d (hpe _ _) rfl) fun B F H σ Q k' q => ha B F H σ _ k' fun l vs F' H' x' sl rl => by
    have e := rl.bls
    subst e
    exact ⟨l, bs, rfl, sl, q _ F' H' x' (.bl _)⟩
def spC (K : PySem.W.Frag) (C : List D -> D -> Prop) : Sp := fun vs H Q _ => ∃ F ds d, Same F H /\ RepL K F vs ds /\ C ds d /\ ∀ v F' H', Ext ⟨F, H⟩ F' H' -> Rep K F' v d -> Q v H'
def Callee (X : Cx) (x : Str) (C : List D -> D -> Prop) : Prop := ∃ (f : Addr) (fd : FuncData) (ps : List Str) (k : Nat), FnOk X.prog X.w X.K X.mg X.base CX0 k f fd ps (spC X.K C) /\ Room k X.A /\ X.mg x = some (.ref f) /\ PySem.W.keepIn X.K (.ref f) = true /\ Binds X.K fd ps []
theorem yF (t : At X N sc) {C : List D -> D -> Prop} (h : Callee X x C) (ha : EvA X ρ (e :: es) ds) (hC : C ds d) (hg : sc.names.lookup x = some .globalImplicit := by rfl) (hdb : (x == ("__debug__" : Str)) = false := by rfl) : EvE X ρ (.Call (.Name x p) (e :: es) [] pos) d := by
  obtain ⟨f, fd, ps, k, F, hr, hm, hk, hb⟩ := h
  have pz : Passes CX0 X E0 := pass0
  refine .of (aZP F hr (aAU t hg) hm hk hb .nil pz pa_w hdb (ha.1.1 _ _) (PlA.any ha.1.2)) fun B F' H σ Q k' q => ha.2 B F' H σ _ k' fun vs F1 H1 x1 r1 => ?_
  refine ⟨F1, ds, d, x1.sub, by rw [List.append_nil]; exact r1, hC, fun v F2 H2 x2 r2 => q v F2 H2 (x1.t x2) r2⟩
def dE (sc : Scope) : Env := { scope := sc, locals := 0, globals := 0, cells := [], qual := "", func := none, code := .none, frame := none, builtins := 0 }
theorem aFF {ts : List Expr} {v : Expr} {env env' : Env} (h : env.scope = env'.scope) : swappedStores ts v env = swappedStores ts v env' := by
  unfold swappedStores Env.blockKind Env.kindOf
  rw [h]
theorem eBJ {v : Expr} {tg : Option Expr} {n : Nat} {env env' : Env} (h : env.scope = env'.scope) : swapsWith v tg n env = swapsWith v tg n env' := by
  unfold swapsWith Env.blockKind Env.kindOf
  rw [h]
variable {st : Stmt} {rest : List Stmt} {o : Out} {ρ' : Rho}
theorem jK : EvSs X ρ [] (.nx ρ) := .of aZG fun B F H σ E k q => q F H σ k (.refl _)
theorem yD (h1 : EvS X ρ st (.nx ρ')) (h2 : EvSs X ρ' rest o) : EvSs X ρ (st :: rest) o :=
  .of (aPS ps_w aHD) fun B F H σ E k q => h1 B F H σ _ k fun F1 H1 σ1 k1 s1 => h2 B F1 H1 σ1 E k1 (q.later s1)
theorem aAK (h1 : EvS X ρ st (.rt d)) : EvSs X ρ (st :: rest) (.rt d) :=
  .of (aPS ps_w aHD) fun B F H σ E k q => h1 B F H σ _ k q
theorem yG (h1 : EvS X ρ st o) : EvSs X ρ [st] o := .of (aZF ps_w) fun B F H σ E k q => h1 B F H σ E k q
theorem qW {xs : List D} (i : Nat) (hi : ρ[i]? = some (.own xs)) (h : EvSs X (ρ.set i (.val (.lst xs))) rest o) : EvSs X ρ rest o := fun B F H σ E k q => by
  obtain ⟨F', sf, k'⟩ := k.freezeAt hi
  exact h B F' H σ E k' (q.later sf)
theorem zI (h : EvE X ρ e d) : EvS X ρ (.Return (some e) pos) (.rt d) :=
  .of (eBU pe_w) fun B F H σ E k q => h B F H σ _ k fun v F' H' x r => q v F' H' (k.toExt.trans x) r
theorem aBD {ss us : List Stmt} (hc : EvT X ρ c true) (h : EvSs X ρ ss o) : EvS X ρ (.If c ss us pos) o :=
  .of (eBV pt_w aHD aHD) fun B F H σ E k q => hc B F H σ _ k fun F1 H1 x1 => by rw [if_pos rfl]; exact h B F1 H1 σ E (k.ext x1) (q.later x1.sf)
theorem aAE {ss us : List Stmt} (hc : EvT X ρ c false) (h : EvSs X ρ us o) : EvS X ρ (.If c ss us pos) o :=
  .of (eBV pt_w aHD aHD) fun B F H σ E k q => hc B F H σ _ k fun F1 H1 x1 => by rw [if_neg Bool.false_ne_true]; exact h B F1 H1 σ E (k.ext x1) (q.later x1.sf)
theorem hfT [FnT X] {x : Str} : X.fn x = true \/ X.env.scope.names.lookup x = some .local := .inl (FnT.fn x)
theorem At.loc (t : At X N sc) {x : Str} (hx : LocS sc x = true) : Loc X.env.scope x := by rw [t.eS]; exact aUB hx
theorem At.ix (t : At X N sc) {i : Nat} {x : Str} (h : N[i]? = some x) : X.N[i]? = some x := by rw [t.eN]; exact h
theorem zK [FnT X] (t : At X N sc) (i : Nat) {pos' : Pos} (h : EvE X ρ e d) (hi : N[i]? = some x := by rfl) (hx : LocS sc x = true := by rfl) (hs : swapsWith e (some (.Name x pos')) pos.line X.env = pure false := by rfl) :
    EvS X ρ (.Assign [.Name x pos'] e pos) (.nx (ρ.set i (.val d))) :=
  .of (aLT (i := i) t.nd (t.ix hi) (t.loc hx) pe_w hs hfT) fun B F H σ E k q => h B F H σ _ k fun v F' H' x' r => q F' H' _ ((k.ext x').setVal i r) x'.sf
theorem aFR [FnT X] (t : At X N sc) (i : Nat) {pos' : Pos} {xs : List D} (h : EvN X ρ e xs) (hi : N[i]? = some x := by rfl) (hx : LocS sc x = true := by rfl) (hs : swapsWith e (some (.Name x pos')) pos.line X.env = pure false := by rfl) :
    EvS X ρ (.Assign [.Name x pos'] e pos) (.nx (ρ.set i (.own xs))) :=
  .of (aLT (i := i) t.nd (t.ix hi) (t.loc hx) pe_w hs hfT) fun B F H σ E k q => h B F H σ _ k fun p vs F' H' x' h0 hp hf r =>
    q F' H' _ ((k.ext x').setOwn i hp hf (k.sh.free h0) (k.noOwn h0) r) x'.sf
theorem eBL [FnT X] (t : At X N sc) (i : Nat) {op : Operator} {g : Int -> Int -> Int} {C : Int -> Int -> Prop} {n m : Int} {pos' : Pos} (ho : OpR X (inplaceOp op) (rI C fun i j => .int (g i j))) (hr : ρ[i]? = some (.val (.int n))) (h : EvE X ρ e (.int m)) (hc : C n m) (hi : N[i]? = some x := by rfl) (hx : LocS sc x = true := by rfl) :
    EvS X ρ (.AugAssign (.Name x pos') op e pos) (.nx (ρ.set i (.val (.int (g n m))))) :=
  .of (eBX (i := i) t.nd (t.ix hi) (t.loc hx) pe_w (show PIp X op (rI C fun i j => .int (g i j)) from ho) hfT) fun B F H σ E k q => by
    obtain ⟨v, h1, h2⟩ := k.vals i _ hr
    cases h2
    exact ⟨_, h1, h B F H σ _ k fun v F' H' x' r => by
      cases r
      exact ⟨n, m, rfl, rfl, hc, q F' H' _ ((k.ext x').setVal i (.int _)) x'.sf⟩⟩
theorem aKC : OpR X (inplaceOp .Sub) (rI (fun _ _ => True) fun i j => .int (i - j)) := opI fun _ _ _ _ _ _ _ _ q => isub_int q
theorem aWK [FnT X] (t : At X N sc) (i : Nat) {n m : Int} {pos' : Pos} (hr : ρ[i]? = some (.val (.int n))) (h : EvE X ρ e (.int m)) (hi : N[i]? = some x := by rfl) (hx : LocS sc x = true := by rfl) :
    EvS X ρ (.AugAssign (.Name x pos') .Sub e pos) (.nx (ρ.set i (.val (.int (n - m))))) := eBL t i aKC hr h trivial hi hx
theorem aLO (t : At X N sc) (i j : Nat) {y : Str} {u v : D} {px py pt : Pos} {kt k2 : Nat} {pt2 : Pos} (h1 : EvE X ρ a u) (h2 : EvE X ρ b v) (hij : i ≠ j) (hi : N[i]? = some x := by rfl) (hj : N[j]? = some y := by rfl)
    (hx : sc.names.lookup x = some .local := by rfl) (hy : sc.names.lookup y = some .local := by rfl)
    (hw : swappedStores [.Tuple [.Name x px, .Name y py] kt pt] (.Tuple [a, b] k2 pt2) (dE sc) = pure (some [x, y]) := by rfl)
    (hs : swapsWithSole [.Tuple [.Name x px, .Name y py] kt pt] (.Tuple [a, b] k2 pt2) pos.line X.env = pure false := by rfl)
    (hs1 : starEach [a, b] X.env = (false, eval a X.env) :: starEach [b] X.env := by rfl) (hs2 : starEach [b] X.env = (false, eval b X.env) :: starEach [] X.env := by rfl) :
    EvS X ρ (.Assign [.Tuple [.Name x px, .Name y py] kt pt] (.Tuple [a, b] k2 pt2) pos) (.nx ((ρ.set i (.val u)).set j (.val v))) :=
  .of (aSZ (i := i) (j := j) t.calm t.nd (t.ix hi) (t.ix hj) hij (by rw [t.eS]; exact hx) (by rw [t.eS]; exact hy) (zJ pe_w (zJ pe_w vG hs2) hs1) ((aFF (show X.env.scope = (dE sc).scope from t.eS)).trans hw) hs) fun B F H σ E k q =>
    h1 B F H σ _ k fun v1 F1 H1 x1 r1 => h2 B F1 H1 σ _ (k.ext x1) fun v2 F2 H2 x2 r2 => ⟨v1, v2, rfl, q F2 H2 _ (((k.ext (x1.t x2)).setVal i (r1.mono x2.sf)).setVal j r2) (x1.t x2).sf⟩
theorem yS [FnT X] (t : At X N sc) (i : Nat) (hi : N[i]? = some x := by rfl) (hx : LocS sc x = true := by rfl) : EvG X ρ (.Name x pos) d (ρ.set i (.val d)) :=
  .of (aFZ (i := i) t.nd (t.ix hi) (t.loc hx) hfT) fun B F H σ v Q k r q => q F H _ (k.setVal i r) (.refl _)
theorem eAP [FnT X] (t : At X N sc) (i j : Nat) {y : Str} {u v : D} {px py : Pos} {kt : Nat} (hi : N[i]? = some x := by rfl) (hj : N[j]? = some y := by rfl) (hx : LocS sc x = true := by rfl) (hy : LocS sc y = true := by rfl) :
    EvG X ρ (.Tuple [.Name x px, .Name y py] kt pos) (.tup [u, v]) ((ρ.set i (.val u)).set j (.val v)) :=
  .of (aYA t.calm (aJK (aFZ (i := i) t.nd (t.ix hi) (t.loc hx) hfT) (aJK (aFZ (i := j) t.nd (t.ix hj) (t.loc hy) hfT) aTH))) fun B F H σ w Q k r q => by
    cases r with
    | tup h rl =>
      obtain ⟨v1, v2, rfl, r1, r2⟩ := rl.two
      exact ⟨_, _, rfl, SqT.of (k.sub _ _ h), rfl, _, _, rfl, _, _, rfl, rfl, q F H _ ((k.setVal i r1).setVal j r2) (.refl _)⟩
theorem yK (t : At X N sc) (i : Nat) (hi : N[i]? = some x := by rfl) (hx : sc.names.lookup x = some .local := by rfl) : EvGn X ρ (.Name x pos) d (ρ.set i (.val d)) :=
  .of (aFZ (i := i) t.nd (t.ix hi) (by rw [t.eS]; exact .inl hx) (by rw [t.eS]; exact .inr hx)) fun B F H σ v Q k r q => q _ (k.setVal i r) fun p h => h.setVal i _ d
theorem aHC (t : At X N sc) {tg : Expr} (h : EvE X ρ e d) (hg : EvG X ρ tg d ρ') (hs : swapsWithSole [tg] e pos.line X.env = pure false := by rfl) (hw : swappedStores [tg] e (dE sc) = pure none := by rfl)
    (h1 : (assignEach [tg] X.env).map (·.2) = [assign tg X.env] := by rfl) : EvS X ρ (.Assign [tg] e pos) (.nx ρ') :=
  .of (aXW pe_w pg_w hs ((aFF (show X.env.scope = (dE sc).scope from t.eS)).trans hw) h1) fun B F H σ E k q => h B F H σ _ k fun v F1 H1 x1 r1 => hg B F1 H1 σ v _ (k.ext x1) r1 fun F2 H2 σ2 k2 s2 => q F2 H2 σ2 k2 (x1.sf.trans s2)
theorem aHZ (t : At X N sc) {i : Nat} {xs : List D} (hr : ρ[i]? = some (.own xs)) (hN : N[i]? = some x) (hv : VisS sc x = true) (hx : NameOk x = true) {B : B0} {F H : Hp} {σ : St} {Q : VK} (k : Ok X.K B F H σ ρ)
    (h : ∀ p vs, σ[i]? = some (some (.ref p)) -> H p = some (.lst vs) -> RepL X.K F vs xs -> Q (.ref p) H) : wE X (.Name x pos) σ H Q := fun pins s I => by
  obtain ⟨p, vs, h1, h2, h3, h4, h5⟩ := k.owns i xs hr
  exact pvAt t hN hv hx pins s σ H Q I ⟨_, h1, h p vs h1 h2 h5⟩
theorem aEW (t : At X N sc) (i : Nat) {xs : List D} {apos cpos : Pos} {y : Str} (hr : ρ[i]? = some (.own xs)) (h : EvE X ρ e d) (hz : xs.length < sizeLine) (hN : N[i]? = some y := by rfl) (hv : VisS sc y = true := by rfl) (hx : NameOk y = true := by rfl)
    (hs : starEach [e] X.env = (false, eval e X.env) :: starEach [] X.env := by rfl) (hline : (apos.endLine == cpos.line) = true := by rfl) (hpl : (backTo cpos (starEach [] X.env)).any (·.1) = false := by rfl)
    (hfew : ((backTo cpos (starEach [e] X.env)).all (fun x => !x.1) && (backToKw cpos (keywordEach [] X.env)).all (fun x => x.1.isSome) && decide (([e] : List Expr).length + ([] : List Keyword).length + (if ([] : List Keyword).isEmpty then 0 else 1) < 30)) = true := by rfl)
    (hsw : swapsWith (.Call (.Attribute (.Name y p) "append" apos) [e] [] cpos) none pos.line X.env = pure false := by rfl) :
    EvS X ρ (.Expr (.Call (.Attribute (.Name y p) "append" apos) [e] [] cpos) pos) (.nx (ρ.set i (.own (xs ++ [d])))) :=
  .of (aTB (eDW PySem.F.plainAttrs_list PySem.F.slot_list_append PySem.F.type_list_append aMB pe_w (zJ pe_w vG hs) rfl hfew hline hs hpl) hsw) fun B F H σ E k q =>
    aHZ t hr hN hv hx k fun l vs h1 h2 h3 => ⟨.inl ⟨rfl, _, SqL.of h2⟩, h B F H σ _ k fun v F' H' x' r => by
      have k' := k.ext x'
      have h2' := x'.sh _ _ h2
      refine ⟨l, vs, v, rfl, rfl, h2', by rw [h3.length]; exact hz, ?_⟩
      exact q F' _ _ (k'.chgOwn (vs := vs) hr h1 ((h3.mono x'.sf).append (.cons r .nil))) x'.sf⟩
theorem aYX (t : At X N sc) (i : Nat) {xs : List D} {apos cpos : Pos} {y : Str} (hr : ρ[i]? = some (.own xs)) (hz : xs ≠ []) (hN : N[i]? = some y := by rfl) (hv : VisS sc y = true := by rfl) (hx : NameOk y = true := by rfl)
    (hline : (apos.endLine == cpos.line) = true := by rfl) (hsw : swapsWith (.Call (.Attribute (.Name y p) "pop" apos) [] [] cpos) none pos.line X.env = pure false := by rfl) :
    EvS X ρ (.Expr (.Call (.Attribute (.Name y p) "pop" apos) [] [] cpos) pos) (.nx (ρ.set i (.own xs.dropLast))) :=
  .of (aTB (aTK PySem.F.plainAttrs_list PySem.F.slot_list_pop PySem.F.type_list_pop aTU pe_w rfl hline) hsw) fun B F H σ E k q =>
    aHZ t hr hN hv hx k fun l vs h1 h2 h3 => ⟨.inl ⟨rfl, _, SqL.of h2⟩, by
      have hl := h3.length
      have hne : vs ≠ [] := fun z => hz (List.eq_nil_of_length_eq_zero (by rw [<- hl, z]; rfl))
      obtain ⟨w, hw⟩ : ∃ w, vs[vs.length - 1]? = some w := ⟨vs[vs.length - 1]'(by have := List.length_pos_iff.mpr hne; omega), List.getElem?_eq_getElem _⟩
      exact ⟨l, vs, w, rfl, rfl, h2, hw, q F _ _ (k.chgOwn (vs := vs) hr h1 h3.dropLast) (.refl _)⟩⟩
theorem aGR (t : At X N sc) (i : Nat) {xs : List D} {n : Int} {j : Nat} {y : Str} (hr : ρ[i]? = some (.own xs)) (h : EvE X ρ b (.int n)) (hj : ixN xs.length n = some j) (hN : N[i]? = some y := by rfl) (hv : VisS sc y = true := by rfl) (hx : NameOk y = true := by rfl)
    (ha : ∀ v, assign (.Subscript (.Name y p) b pos) X.env v = (do
      let ov <- holding [v] (eval (.Name y p) X.env)
      let iv <- holding [v, ov] (eval b X.env)
      standAt pos
      holding [v, ov, iv] (setItem ov iv v)
      release [v, ov, iv] []) := by intro _; rfl) : EvG X ρ (.Subscript (.Name y p) b pos) d (ρ.set i (.own (xs.set j d))) :=
  .of (eCA pe_w pe_w aPI ha) fun B F H σ v Q k r q =>
    aHZ t hr hN hv hx k fun l vs h1 h2 h3 => h B F H σ _ k fun w F' H' x' rw' => by
      cases rw'
      have h2' := x'.sh _ _ h2
      refine ⟨l, vs, n, j, rfl, rfl, h2', by rw [h3.length]; exact hj, ?_⟩
      exact q F' _ _ ((k.ext x').chgOwn (vs := vs) hr h1 ((h3.mono x'.sf).set (r.mono x'.sf) j)) x'.sf
theorem aUO : PGet X (rIxL X.K) := by
  intro pins s σ H o i ov iv Q I ro ri h
  obtain ⟨p, xs, n, z, rfl, rfl, hq, he, q⟩ := h
  cases ro
  obtain ⟨t, rfl⟩ := ri
  obtain ⟨its, r, pl, hz⟩ := I.list hq
  obtain ⟨j, h1, h2, h3, h4, h5⟩ := aOY he
  obtain ⟨w, ew, rw'⟩ := r.get h2
  have hl := r.length
  have hn := line63
  have fin : EP X pins σ Q w s := ⟨z, H, I, rw', q⟩
  by_cases h0 : 0 <= n
  . have hj : n.toNat = j := by
      rw [seqIndex_of h0 h5] at h1
      exact Option.some.inj h1
    exact wpAny_getItem_list pl.isList h0 (by omega) (by rw [hj]; simpa using ew) fin
  . have hj : (n + (its.toArray.size : Int)).toNat = j := by
      rw [seqIndex_neg (by omega) h4] at h1
      rw [List.size_toArray, <- hl]
      exact Option.some.inj h1
    exact wpAny_getItem_list_neg pl.isList (by omega) (by rw [List.size_toArray] <;> omega) (by omega) (by rw [hj]; simpa using ew) fin
theorem aLP (t : At X N sc) (i : Nat) {op : Operator} {g : Int -> Int -> Int} {C : Int -> Int -> Prop} {xs : List D} {n u m : Int} {j : Nat} {y : Str} {tpos : Pos} (ho : OpR X (inplaceOp op) (rI C fun i j => .int (g i j))) (hr : ρ[i]? = some (.own xs))
    (hb : EvE X ρ b (.int n)) (hj : ixN xs.length n = some j) (hu : xs[j]? = some (.int u)) (he : EvE X ρ e (.int m)) (hc : C u m) (hN : N[i]? = some y := by rfl) (hv : VisS sc y = true := by rfl) (hx : NameOk y = true := by rfl)
    (ha : ∀ ov iv new, augStore b ov iv new = (do holding [new, ov, iv] (setItem ov iv new); release [new, ov, iv] []; pure .next) := by intros; rfl) :
    EvS X ρ (.AugAssign (.Subscript (.Name y p) b tpos) op e pos) (.nx (ρ.set i (.own (xs.set j (.int (g u m)))))) :=
  .of (aZH pe_w pe_w aUO pe_w (show PIp X op (rI C fun i j => .int (g i j)) from ho) aPI ha) fun B F H σ E k q =>
    aHZ t hr hN hv hx k fun l vs h1 h2 h3 => hb B F H σ _ k fun w F1 H1 x1 rw' => by
      cases rw'
      have h21 := x1.sh _ _ h2
      have hat : atI xs n = some (.int u) := by unfold atI; rw [hj]; exact hu
      obtain ⟨w, hw1, hw2⟩ := (h3.mono x1.sf).at hat
      cases hw2
      refine ⟨l, vs, n, _, rfl, rfl, SqL.of h21, hw1, he B F1 H1 σ _ (k.ext x1) fun w F2 H2 x2 rw2 => ?_⟩
      cases rw2
      have h22 := x2.sh _ _ h21
      refine ⟨u, m, rfl, rfl, hc, l, vs, n, j, rfl, rfl, h22, by rw [h3.length]; exact hj, ?_⟩
      exact q F2 _ _ ((k.ext (x1.t x2)).chgOwn (vs := vs) hr h1 (((h3.mono x1.sf).mono x2.sf).set (.int _) j)) (x1.t x2).sf
end
end L2.EV
namespace L2.EV
open PySem PySem.Spec PyProof.Rows
def wI (X : Cx) (tg e : Expr) : TI := fun σ H R => ∀ (pins : List (Addr × Obj)) (s : Shared), Inv X pins σ H s ->
  wpAny (model X.prog X.w) X.A (eval e X.env) (fun v s1 => wpAny (model X.prog X.w) X.A (pyIter v) (PIE X pins σ tg R) X.xe s1) X.xe s
theorem pi_w {X : Cx} {tg e : Expr} : PI X tg e (wI X tg e) := fun pins s _ _ _ I h => h pins s I
def ItOk (K : PySem.W.Frag) (J : It) (F : Hp) (ds : List D) : Prop := ∀ (i : Nat) (F2 H2 : Hp), Same F F2 -> Same F2 H2 ->
  (∀ d, ds[i]? = some d -> J.go i H2 /\ ∀ x H', J.yld i H2 x H' -> ∃ F', Ext ⟨F2, H2⟩ F' H' /\ Rep K F' x d) /\ (ds.length <= i -> J.stop i H2)
def EvI (X : Cx) (ρ : Rho) (tg e : Expr) (ds : List D) : Prop := ∀ (B : B0) (F H : Hp) (σ : St) (R : It -> Hp -> Prop), Ok X.K B F H σ ρ ->
  (∀ J F' H', Ext ⟨F, H⟩ F' H' -> ItOk X.K J F' ds -> R J H') -> wI X tg e σ H R
section
variable {X : Cx} {ρ : Rho} {tg e a b c : Expr} {d : D} {pos : Pos} {N : List Str} {sc : Scope} {ds : List D}
theorem EvI.of {t : TI} (h : PI X tg e t) (r : ∀ (B : B0) (F H : Hp) (σ : St) (R : It -> Hp -> Prop), Ok X.K B F H σ ρ -> (∀ J F' H', Ext ⟨F, H⟩ F' H' -> ItOk X.K J F' ds -> R J H') -> t σ H R) : EvI X ρ tg e ds :=
  fun B F H σ R k q pins s I => h pins s σ H R I (r B F H σ R k q)
theorem eAB {K : PySem.W.Frag} {F : Hp} {l : Addr} {vs : List V} (hs : ∀ H, Same F H -> SqL K H l vs) (r : RepL K F vs ds) : ItOk K (Itl K l) F ds := fun i F2 H2 s1 s2 =>
  ⟨fun d hd => by
    obtain ⟨v, hv, rv⟩ := r.get hd
    have sq := hs H2 (s1.trans s2)
    refine ⟨⟨vs, v, sq, hv⟩, fun x H' y => ?_⟩
    obtain ⟨rfl, y⟩ := y
    have e := y vs sq
    rw [hv] at e; cases e
    exact ⟨F2, .refl s2, rv.mono s1⟩, fun h => ⟨vs, hs H2 (s1.trans s2), by rw [r.length]; exact h⟩⟩
theorem aYD {K : PySem.W.Frag} {F : Hp} {l : Addr} {vs : List V} (hs : ∀ H, Same F H -> SqT K H l vs) (r : RepL K F vs ds) : ItOk K (Itt K l) F ds := fun i F2 H2 s1 s2 =>
  ⟨fun d hd => by
    obtain ⟨v, hv, rv⟩ := r.get hd
    have sq := hs H2 (s1.trans s2)
    refine ⟨⟨vs, v, sq, hv⟩, fun x H' y => ?_⟩
    obtain ⟨rfl, y⟩ := y
    have e := y vs sq
    rw [hv] at e; cases e
    exact ⟨F2, .refl s2, rv.mono s1⟩, fun h => ⟨vs, hs H2 (s1.trans s2), by rw [r.length]; exact h⟩⟩
theorem aBL (h : EvE X ρ e (.lst ds)) : EvI X ρ tg e ds := .of (aZN pe_w) fun B F H σ R k q => h B F H σ _ k fun v F' H' x r => by
  cases r with
  | lst hf rl => exact ⟨_, rfl, ⟨_, SqL.of (x.sub _ _ hf)⟩, q _ F' H' x (eAB (fun H2 s2 => SqL.of (s2 _ _ hf)) rl)⟩
theorem aBZ (h : EvE X ρ e (.tup ds)) : EvI X ρ tg e ds := .of (aXZ pe_w) fun B F H σ R k q => h B F H σ _ k fun v F' H' x r => by
  cases r with
  | tup hf rl => exact ⟨_, rfl, ⟨_, SqT.of (x.sub _ _ hf)⟩, q _ F' H' x (aYD (fun H2 s2 => SqT.of (s2 _ _ hf)) rl)⟩
def rangeD (lo : Int) (n : Nat) : List D := (List.range n).map fun (i : Nat) => D.int (lo + (i : Int))
theorem aUI {K : PySem.W.Frag} {F : Hp} {lo : Int} {n : Nat} : ItOk K (Itr lo n) F (rangeD lo n) := fun i F2 H2 s1 s2 =>
  ⟨fun d hd => by
    unfold rangeD at hd
    rw [List.getElem?_map] at hd
    have hi : i < n := by
      by_cases h : i < n
      . exact h
      . rw [List.getElem?_eq_none (by simpa using h)] at hd; cases hd
    rw [List.getElem?_range hi] at hd
    cases hd
    refine ⟨hi, fun x H' y => ?_⟩
    obtain ⟨rfl, rfl⟩ := y
    exact ⟨F2, .refl s2, .int _⟩, fun h => by
      have h' : n <= i := by simpa [rangeD] using h
      exact h'⟩
theorem qX (t : At X N sc) {j : Int} {p : Pos} (bl : Blt X sc "range" (.type "range")) (h : EvE X ρ a (.int j)) (h1 : -(2 ^ 62) <= j) (h2 : j < 2 ^ 62) (hs : Pl a := by intro _ _; rfl) : EvI X ρ tg (.Call (.Name "range" p) [a] [] pos) (rangeD 0 j.toNat) :=
  .of (aLY (aAU t bl.g) bl.m (zJ pe_w vG (hs _ _)) (hs _ _)) fun B F H σ R k q => h B F H σ _ k fun v F' H' x r => by
    cases r
    exact ⟨j, rfl, h1, h2, q _ F' H' x aUI⟩
theorem aMR (t : At X N sc) {i j : Int} {p : Pos} (bl : Blt X sc "range" (.type "range")) (ha : EvE X ρ a (.int i)) (hb : EvE X ρ b (.int j)) (hc : -(2 ^ 62) <= i /\ i < 2 ^ 62 /\ -(2 ^ 62) <= j /\ j < 2 ^ 62) (hsa : Pl a := by intro _ _; rfl) (hsb : Pl b := by intro _ _; rfl) :
    EvI X ρ tg (.Call (.Name "range" p) [a, b] [] pos) (rangeD i (j - i).toNat) :=
  .of (aTG (aAU t bl.g) bl.m (zJ pe_w (zJ pe_w vG (hsb _ _)) (hsa _ _)) (by rw [hsa, hsb]; rfl) (hsb _ _)) fun B F H σ R k q => ha B F H σ _ k fun v F1 H1 x1 r1 => hb B F1 H1 σ _ (k.ext x1) fun w F2 H2 x2 r2 => by
    cases r1; cases r2
    exact ⟨i, j, rfl, hc, q _ F2 H2 (x1.t x2) aUI⟩
inductive FRun (X : Cx) (tg : Expr) (body : List Stmt) : List D -> Rho -> Out -> Prop where
  | nil {ρ : Rho} : FRun X tg body [] ρ (.nx ρ)
  | cons {d : D} {ds : List D} {ρ ρ1 ρ2 : Rho} {o : Out} : EvG X ρ tg d ρ1 -> EvSs X ρ1 body (.nx ρ2) -> FRun X tg body ds ρ2 o -> FRun X tg body (d :: ds) ρ o
  | ret {d r : D} {ds : List D} {ρ ρ1 : Rho} : EvG X ρ tg d ρ1 -> EvSs X ρ1 body (.rt r) -> FRun X tg body (d :: ds) ρ (.rt r)
theorem aDH {α : Type} {xs ys : List α} {x : α} {i : Nat} (h : xs.drop i = x :: ys) : xs[i]? = some x /\ xs.drop (i + 1) = ys /\ i < xs.length := by
  have hi : i < xs.length := by
    by_cases q : i < xs.length
    . exact q
    . rw [List.drop_eq_nil_of_le (by omega)] at h; cases h
  have e := List.drop_eq_getElem_cons hi
  rw [h] at e
  injection e with e1 e2
  exact ⟨by rw [List.getElem?_eq_getElem hi, e1], e2.symm, hi⟩
theorem aAP (t : At X N sc) {body : List Stmt} {o : Out} (hi : EvI X ρ tg e ds) (h : FRun X tg body ds ρ o) (hs : ∀ x, foldedSetIterable e X.env x = pure x := by intro _; rfl) : EvS X ρ (.For tg e body [] pos) o :=
  .of (eBW t.pass t.calm pi_w pg_w aHD hs) fun B F H σ E k q => hi B F H σ _ k fun J F1 H1 x1 J1 => by
    refine ⟨fun i m σ H => ∃ ρ' F', Ok X.K B F' H σ ρ' /\ Same F1 F' /\ FRun X tg body (ds.drop i) ρ' o /\ m = ds.length - i, ⟨ds.length, ρ, F1, k.ext x1, .refl _, by simpa using h, by simp⟩, ?_⟩
    rintro i m σ H ⟨ρ', F', k', sf, run, rfl⟩
    have q' : Post X.K B F' E o := q.later (x1.sf.trans sf)
    have J2 := J1 i F' H sf k'.sub
    generalize e1 : ds.drop i = rest at run
    cases run with
    | nil =>
      have hl : ds.length <= i := by
        have := congrArg List.length e1
        rw [List.length_drop, List.length_nil] at this
        omega
      exact .inl ⟨J2.2 hl, q' F' H σ k' (.refl _)⟩
    | @cons d0 ds0 ρ0 ρ1 ρ2 o0 g b r =>
      obtain ⟨hd, hr, hlt⟩ := aDH e1
      obtain ⟨go, yl⟩ := J2.1 _ hd
      refine .inr ⟨go, fun σ' H' => ∃ F'', Ok X.K B F'' H' σ' ρ2 /\ Same F1 F'', fun σ' H' ⟨F'', k'', s''⟩ => ⟨ds.length - (i + 1), by omega, _, F'', k'', s'', by rw [hr]; exact r, rfl⟩, fun x H' y => ?_⟩
      obtain ⟨F2, x2, rx⟩ := yl x H' y
      refine g B F2 H' σ x _ (k'.ext x2) rx fun F3 H3 σ3 k3 s3 => b B F3 H3 σ3 _ k3 fun F4 H4 σ4 k4 s4 => ⟨F4, k4, sf.trans (x2.sf.trans (s3.trans s4))⟩
    | ret g b =>
      obtain ⟨hd, hr, hlt⟩ := aDH e1
      obtain ⟨go, yl⟩ := J2.1 _ hd
      refine .inr ⟨go, fun _ _ => False, fun σ' H' z => z.elim, fun x H' y => ?_⟩
      obtain ⟨F2, x2, rx⟩ := yl x H' y
      exact g B F2 H' σ x _ (k'.ext x2) rx fun F3 H3 σ3 k3 s3 => b B F3 H3 σ3 _ k3 q
theorem FRun.of (body : List Stmt) (R : Nat -> Rho) : ∀ (ds : List D) (i : Nat), (∀ (j : Nat) d, ds[j]? = some d -> ∃ ρ1, EvG X (R (i + j)) tg d ρ1 /\ EvSs X ρ1 body (.nx (R (i + j + 1)))) -> FRun X tg body ds (R i) (.nx (R (i + ds.length)))
  | [], i, _ => .nil
  | d :: ds, i, h => by
    obtain ⟨ρ1, h1, h2⟩ := h 0 d rfl
    refine .cons h1 h2 ?_
    have r := FRun.of body R ds (i + 1) fun j e he => by
      have := h (j + 1) e (by simpa using he)
      rw [show i + 1 + j = i + (j + 1) by omega]
      exact this
    rw [show i + (d :: ds).length = i + 1 + ds.length by simp; omega]
    exact r
inductive WRun (X : Cx) (c : Expr) (body : List Stmt) : Nat -> Rho -> Out -> Prop where
  | stop {ρ : Rho} : EvT X ρ c false -> WRun X c body 0 ρ (.nx ρ)
  | step {n : Nat} {ρ ρ1 : Rho} {o : Out} : EvT X ρ c true -> EvSs X ρ body (.nx ρ1) -> WRun X c body n ρ1 o -> WRun X c body (n + 1) ρ o
  | ret {ρ : Rho} {r : D} : EvT X ρ c true -> EvSs X ρ body (.rt r) -> WRun X c body 0 ρ (.rt r)
theorem jY (t : At X N sc) {body : List Stmt} {o : Out} (h : ∃ n, WRun X c body n ρ o) : EvS X ρ (.While c body [] pos) o :=
  .of (aWO t.pass pt_w aHD) fun B F H σ E k q => by
    obtain ⟨n, h⟩ := h
    refine ⟨fun m σ H => ∃ ρ' F', Ok X.K B F' H σ ρ' /\ Same F F' /\ WRun X c body m ρ' o, ⟨n, ρ, F, k, .refl _, h⟩, ?_⟩
    rintro m σ H ⟨ρ', F', k', sf, run⟩
    cases run with
    | stop hc =>
      refine hc B F' H σ _ k' fun F1 H1 x1 => ?_
      rw [if_neg Bool.false_ne_true]
      exact q F1 H1 σ (k'.ext x1) (sf.trans x1.sf)
    | @step n0 ρ0 ρ1 o0 hc hb r =>
      refine hc B F' H σ _ k' fun F1 H1 x1 => ?_
      rw [if_pos rfl]
      exact ⟨fun σ' H' => ∃ F'', Ok X.K B F'' H' σ' ρ1 /\ Same F F'', fun σ' H' ⟨F'', k'', s''⟩ => ⟨_, Nat.lt_succ_self _, _, F'', k'', s'', r⟩, hb B F1 H1 σ _ (k'.ext x1) fun F2 H2 σ2 k2 s2 => ⟨F2, k2, sf.trans (x1.sf.trans s2)⟩⟩
    | ret hc hb =>
      refine hc B F' H σ _ k' fun F1 H1 x1 => ?_
      rw [if_pos rfl]
      exact ⟨fun _ _ => False, fun σ' H' z => z.elim, hb B F1 H1 σ _ (k'.ext x1) q⟩
structure DefX (P : Program) (w : World) (K : PySem.W.Frag) (mg : Str -> Option Value) (base : Heap) (k : Nat) (N : List Str) (sc : Scope) (X : Cx) : Prop where
  at' : At X N sc
  prog : X.prog = P
  w' : X.w = w
  k' : X.K = K
  mg' : X.mg = mg
  base' : X.base = base
  room : Room k X.A
  fnT : FnT X
  stk : X.stack = X.env :: X.outer /\ X.env.frame = some X.env.locals
theorem aJO {K : PySem.W.Frag} {F H : Hp} {vs : List V} (sub : Same F H) (r : RepL K F vs ds) (n : Nat) : Ok K ⟨F, H⟩ F H (vs.map some ++ List.replicate n none) (ds.map Sl.val ++ List.replicate n Sl.un) := by
  have hl := r.length
  have own : ∀ (i : Nat) xs, (ds.map Sl.val ++ List.replicate n Sl.un)[i]? ≠ some (.own xs) := fun i xs h => by
    by_cases hi : i < ds.length
    . rw [List.getElem?_append_left (by simpa using hi), List.getElem?_map] at h
      cases e : ds[i]? with
      | none => rw [e] at h; cases h
      | some d => rw [e] at h; cases h
    . rw [List.getElem?_append_right (by simpa using hi), List.getElem?_replicate] at h
      split at h <;> cases h
  have ownD : ∀ (i : Nat) xs, (ds.map Sl.val ++ List.replicate n Sl.un)[i]? ≠ some (.dct xs) := fun i xs h => by
    by_cases hi : i < ds.length
    . rw [List.getElem?_append_left (by simpa using hi), List.getElem?_map] at h
      cases e : ds[i]? with
      | none => rw [e] at h; cases h
      | some d => rw [e] at h; cases h
    . rw [List.getElem?_append_right (by simpa using hi), List.getElem?_replicate] at h
      split at h <;> cases h
  refine ⟨.refl sub, by simp [hl], fun i d h => ?_, fun i xs h => absurd h (own i xs), fun i j xs ys a h => absurd h (own i xs), ⟨fun i kvs h => absurd h (ownD i kvs), fun i j xs ys a h => absurd h (ownD i xs)⟩⟩
  by_cases hi : i < ds.length
  . rw [List.getElem?_append_left (by simpa using hi), List.getElem?_map] at h
    cases e : ds[i]? with
    | none => rw [e] at h; cases h
    | some d' =>
      rw [e] at h; cases h
      obtain ⟨v, hv, rv⟩ := r.get e
      exact ⟨v, by rw [List.getElem?_append_left (by rw [List.length_map]; omega), List.getElem?_map, hv]; rfl, rv⟩
  . rw [List.getElem?_append_right (by simpa using hi), List.getElem?_replicate] at h
    split at h <;> cases h
theorem qR {P : Program} (htree : P.given.tree = none) {w : World} {K : PySem.W.Frag} {mg : Str -> Option Value} {base : Heap} {x qual : Str} {st : Stmt} {f : Addr} {fd : FuncData} {N ps : List Str} {k : Nat} {C : List D -> D -> Prop} (F : Fun K x qual st f fd) (S : FnScope N ps (defScope st))
    (len : ∀ ds d, C ds d -> ds.length = ps.length)
    (body : ∀ X, DefX P w K mg base k N (defScope st) X -> ∀ ds d, C ds d -> EvSs X (ds.map Sl.val ++ List.replicate (N.length - ds.length) Sl.un) (defBody st) (.rt d)) : FnOk P w K mg base CX0 (k + 1) f fd ps (spC K C) := by
  refine F.ok S (fun vs H Q E h => ?_) (fun cdv A outer s H vs Q E hr h => ?_)
  . obtain ⟨F', ds, d, sub, r, hC, q⟩ := h
    rw [r.length]; exact len ds d hC
  . obtain ⟨F', ds, d, sub, r, hC, q⟩ := h
    refine ⟨_, aHD, ?_⟩
    have hx : DefX P w K mg base k N (defScope st) (cxOf CX0 P w K mg base N qual (defScope st) f cdv A outer s H E).nox :=
      ⟨⟨rfl, rfl, rfl, S.nd, rfl, hr.units, hr.dp100, htree, ⟨_, _, rfl, S.gen, S.co, rfl, rfl⟩⟩, rfl, rfl, rfl, rfl, rfl, hr, ⟨fun _ => rfl⟩, rfl, rfl⟩
    have hb := body _ hx ds d hC
    have hk : Ok K ⟨F', H⟩ F' H (start N vs) (ds.map Sl.val ++ List.replicate (N.length - ds.length) Sl.un) := by
      unfold start
      rw [r.length]
      exact aJO sub r _
    exact hb ⟨F', H⟩ F' H _ _ hk fun v F2 H2 x2 r2 => q v F2 H2 x2 r2
theorem DefX.callee {P : Program} {w : World} {K : PySem.W.Frag} {mg : Str -> Option Value} {base : Heap} {k j : Nat} {f : Addr} {fd : FuncData} {ps : List Str} {x : Str} {C : List D -> D -> Prop} (h : DefX P w K mg base k N sc X)
    (F : FnOk P w K mg base CX0 j f fd ps (spC K C)) (hj : j <= k) (hm : mg x = some (.ref f)) (hk : PySem.W.keepIn K (.ref f) = true) (hb : Binds K fd ps []) : Callee X x C := by
  obtain ⟨h0, rfl, rfl, rfl, rfl, rfl, hr, _⟩ := h
  exact ⟨f, fd, ps, j, F, hr.mono hj, hm, hk, hb⟩
end
end L2.EV
namespace L2.EV
open PySem PySem.Spec PyProof.Rows
def relS (scope sc : Scope) : Scope := { scope with names := scope.names.map fun (n, k) => if (k == .free && sc.kind == .function && sc.names.lookup n == some .cell) then (n, .cell) else (n, k) }
theorem aPP {scope : Scope} {env : Env} {sc : Scope} (h : env.scope = sc) : relabel scope env = relS scope sc := by subst h; rfl
theorem aOM (env : Env) : ∀ (names : List (Str × NameKind)) (cs : List (Str × Addr)), (∀ n, (n, NameKind.free) ∈ names -> ∃ c, env.cells.lookup n = some c) ->
    (∀ n c, cs.lookup n = some c -> env.cells.lookup n = some c) ->
    ∃ cl : List (Str × Addr), (forIn (m := Sem) names cs fun (x : Str × NameKind) r => if x.2 == .free then do let c <- cellOf env x.1; pure (ForInStep.yield ((x.1, c) :: r)) else pure (ForInStep.yield r)) = pure cl /\
      (∀ n c, cl.lookup n = some c -> env.cells.lookup n = some c) /\ (∀ n, (n, NameKind.free) ∈ names -> ∃ c, cl.lookup n = some c) /\ (∀ n c, cs.lookup n = some c -> ∃ c', cl.lookup n = some c')
  | [], cs, _, h => ⟨cs, rfl, h, (fun n hn => nomatch hn), fun n c e => ⟨c, e⟩⟩
  | (n, k) :: r, cs, hf, h => by
    rw [List.forIn_cons]
    by_cases hk : k = .free
    . subst hk
      obtain ⟨c, hc⟩ := hf n List.mem_cons_self
      have hcell : cellOf env n = pure c := by unfold cellOf; rw [hc]
      have h' : ∀ m c', ((n, c) :: cs).lookup m = some c' -> env.cells.lookup m = some c' := fun m c' e => by
        rw [List.lookup_cons] at e
        cases hm : m == n with
        | true => rw [hm] at e; cases e; rw [eq_of_beq hm]; exact hc
        | false => rw [hm] at e; exact h m c' e
      obtain ⟨cl, e1, e2, e3, e4⟩ := aOM env r ((n, c) :: cs) (fun m hm => hf m (List.mem_cons_of_mem _ hm)) h'
      refine ⟨cl, ?_, e2, fun m hm => ?_, fun m c' e => ?_⟩
      . show ((do let c <- cellOf env n; pure (ForInStep.yield ((n, c) :: cs))) >>= _ : Sem (List (Str × Addr))) = _
        rw [hcell]
        exact e1
      . rcases List.mem_cons.mp hm with z | z
        . cases z
          exact e4 n c (by rw [List.lookup_cons, beq_self_eq_true])
        . exact e3 m z
      . by_cases hm : m = n
        . subst hm; exact e4 m c (by rw [List.lookup_cons, beq_self_eq_true])
        . exact e4 m c' (by rw [List.lookup_cons, beq_eq_false_iff_ne.mpr hm]; exact e)
    . have hb : (k == NameKind.free) = false := beq_eq_false_iff_ne.mpr hk
      obtain ⟨cl, e1, e2, e3, e4⟩ := aOM env r cs (fun m hm => hf m (List.mem_cons_of_mem _ hm)) h
      refine ⟨cl, ?_, e2, fun m hm => ?_, e4⟩
      . show ((if (k == NameKind.free) = true then _ else pure (ForInStep.yield cs)) >>= _ : Sem (List (Str × Addr))) = _
        rw [hb, if_neg Bool.false_ne_true]
        exact e1
      . rcases List.mem_cons.mp hm with z | z
        . cases z; exact absurd rfl hk
        . exact e3 m z
theorem aRP {env : Env} {scope : Scope} (hf : ∀ n, (n, NameKind.free) ∈ scope.names -> ∃ c, env.cells.lookup n = some c) :
    ∃ cl : List (Str × Addr), closureFor scope env = pure cl /\ (∀ n c, cl.lookup n = some c -> env.cells.lookup n = some c) /\ (∀ n, (n, NameKind.free) ∈ scope.names -> ∃ c, cl.lookup n = some c) := by
  obtain ⟨cl, e1, e2, e3, _⟩ := aOM env scope.names [] hf (fun n c e => nomatch e)
  refine ⟨cl, ?_, e2, e3⟩
  show (forIn (m := Sem) scope.names ([] : List (Str × Addr)) (fun (x : Str × NameKind) r => if x.2 == .free then do let c <- cellOf env x.1; pure (ForInStep.yield ((x.1, c) :: r)) else pure (ForInStep.yield r)) >>= fun s => pure s) = pure cl
  rw [e1]; rfl
structure CScope (N : List Str) (sc : Scope) (N' : List Str) (scope : Scope) : Prop where
  kind : scope.kind = .function
  cells : ∀ y ∈ scope.names, y.2 = .cell -> scope.names.lookup y.1 = some .cell
  names : ∀ y ∈ scope.names, y.2 = .local -> scope.names.lookup y.1 = some .local
  free : ∀ y ∈ scope.names, y.2 = .free -> sc.names.lookup y.1 = some .cell
  fun' : sc.kind = .function
  nd : N'.Nodup
  old : ∀ (i : Nat) x, i < N.length -> N'[i]? = some x -> VisS (relS scope sc) x = true -> N[i]? = some x /\ scope.names.lookup x = some .free
  len : N.length <= N'.length
def ownS (scope : Scope) (x : Str) : Bool := match scope.names.lookup x with
  | some .cell => true
  | _ => false
structure FC (names : List (Str × NameKind)) (cells : List (Str × Addr)) (n : Nat) (cl : List (Str × Addr)) (h : Heap) : Prop where
  look : ∀ m c, cl.lookup m = some c -> (cells.lookup m = some c /\ ¬ (m, NameKind.cell) ∈ names) \/ (n <= c /\ (m, NameKind.cell) ∈ names /\ h.IsCell c none)
  has : ∀ m, ((m, NameKind.cell) ∈ names \/ ∃ c, cells.lookup m = some c) -> ∃ c, cl.lookup m = some c
  inj : ∀ x y c, n <= c -> cl.lookup x = some c -> cl.lookup y = some c -> x = y
theorem aCH {M : Model} {A : Around} {E : Value -> Shared -> Prop} : ∀ (names : List (Str × NameKind)) (cells : List (Str × Addr)) (s : Shared) (Q : List (Str × Addr) -> Shared -> Prop), (∀ m c, cells.lookup m = some c -> c < s.heap.objs.size) ->
    (∀ cl h, (∀ b o, s.heap.get? b = some o -> h.get? b = some o) -> FC names cells s.heap.objs.size cl h -> Q cl { s with heap := h }) ->
    wpAny M A (forIn names cells fun x __s => match x with
      | (name, kind) => if (kind == NameKind.cell) = true then do
          let a <- alloc { cls := Value.type "cell", data := Data.cell none }
          pure (ForInStep.yield ((name, a) :: __s))
        else pure (ForInStep.yield __s)) Q E s
  | [], cells, s, Q, hb, q => by
    refine wpAny_pure (q cells s.heap (fun _ _ e => e) ⟨fun m c e => .inl ⟨e, fun z => nomatch z⟩, fun m hm => hm.elim (fun z => nomatch z) id, fun x y c hc e _ => absurd (hb x c e) (Nat.not_lt_of_le hc)⟩)
  | (name, kind) :: rest, cells, s, Q, hb, q => by
    rw [List.forIn_cons]
    by_cases hk : kind = .cell
    . subst hk
      refine wpAny_bind ?_
      show wpAny M A (alloc _ >>= _) _ _ s
      refine wpAny_bind (wpAny_alloc (wpAny_pure ?_))
      have hsz : (s.heap.push { cls := Value.type "cell", data := Data.cell none }).objs.size = s.heap.objs.size + 1 := by rw [Heap.size_push]
      refine aCH rest _ _ _ (fun m c e => ?_) fun cl h kp f => q cl h (fun b o e => kp b o (Heap.get?_push_of_some _ e)) ⟨fun m c e => ?_, fun m hm => f.has m ?_, fun x y c hc ex ey => ?_⟩
      . show c < (s.heap.push { cls := Value.type "cell", data := Data.cell none }).objs.size
        rw [hsz]
        rw [List.lookup_cons] at e
        split at e
        . cases e; exact Nat.lt_succ_self _
        . exact Nat.lt_succ_of_lt (hb m c e)
      . have f' := f.look m c e
        rcases f' with ⟨e1, e2⟩ | ⟨e1, e2, e3⟩
        . rw [List.lookup_cons] at e1
          split at e1
          . rename_i hm
            cases e1
            have hm' : m = name := by simpa using hm
            subst hm'
            exact .inr ⟨Nat.le_refl _, by simp, ⟨_, kp _ _ (Heap.get?_push_size _ rfl), rfl⟩⟩
          . rename_i hm
            have hm' : m ≠ name := by simpa using hm
            exact .inl ⟨e1, fun z => by
              rcases List.mem_cons.mp z with z | z
              . exact hm' (congrArg Prod.fst z)
              . exact e2 z⟩
        . have e1' : s.heap.objs.size + 1 <= c := by rw [<- hsz]; exact e1
          exact .inr ⟨by omega, by simp [e2], e3⟩
      . rcases hm with hm | ⟨c, hc⟩
        . rcases List.mem_cons.mp hm with z | z
          . right
            have : m = name := congrArg Prod.fst z
            subst this
            exact ⟨s.heap.objs.size, by rw [List.lookup_cons]; simp⟩
          . exact .inl z
        . right
          rw [List.lookup_cons]
          split
          . exact ⟨_, rfl⟩
          . exact ⟨c, hc⟩
      . by_cases hc' : s.heap.objs.size + 1 <= c
        . exact f.inj x y c (by show (s.heap.push _).objs.size <= c; rw [hsz]; exact hc') ex ey
        . have one : ∀ z, cl.lookup z = some c -> z = name := fun z ez => by
            rcases f.look z c ez with ⟨e1, _⟩ | ⟨e1, _⟩
            . rw [List.lookup_cons] at e1
              split at e1
              . rename_i hm; simpa using hm
              . exact absurd (hb z c e1) (Nat.not_lt_of_le hc)
            . exact absurd (show s.heap.objs.size + 1 <= c from Nat.le_trans (Nat.le_of_eq hsz.symm) e1) hc'
          rw [one x ex, one y ey]
    . have hk' : (kind == NameKind.cell) = false := by simpa using hk
      have mem : ∀ m, (m, NameKind.cell) ∈ (name, kind) :: rest ↔ (m, NameKind.cell) ∈ rest := fun m => by
        constructor
        . intro z
          rcases List.mem_cons.mp z with z | z
          . exact absurd (congrArg Prod.snd z).symm hk
          . exact z
        . intro z; simp [z]
      refine wpAny_bind ?_
      show wpAny M A (if (kind == NameKind.cell) = true then _ else _) _ _ s
      rw [hk', if_neg Bool.false_ne_true]
      refine wpAny_pure (aCH rest cells s Q hb fun cl h kp f => q cl h kp ⟨fun m c e => ?_, fun m hm => f.has m ?_, f.inj⟩)
      . rw [mem]; exact f.look m c e
      . rw [mem] at hm; exact hm
theorem aNW {M : Model} {A : Around} {E : Value -> Shared -> Prop} {s : Shared} {scope : Scope} {env : Env} {cl : List (Str × Addr)} {Q : Env -> Shared -> Prop} (hb : ∀ m c, cl.lookup m = some c -> c < s.heap.objs.size)
    (h : ∀ cl' h', (∀ b o, s.heap.get? b = some o -> h'.get? b = some o) -> (∃ m, h'.Ns s.heap.objs.size m) -> FC scope.names cl s.heap.objs.size cl' h' -> Q { scope := scope, locals := s.heap.objs.size, globals := env.globals, cells := cl', qual := env.qual, func := none, code := env.code, frame := env.frame, builtins := env.builtins } { s with heap := h' }) :
    wpAny M A (newFunctionEnv scope env.globals cl [] env.qual none .none (some env)) Q E s := by
  unfold newFunctionEnv
  refine wpAny_bind (wpAny_alloc ?_)
  have hsz : (s.heap.push { cls := Value.type "dict", data := Data.dict #[] }).objs.size = s.heap.objs.size + 1 := by rw [Heap.size_push]
  refine wpAny_bind (aCH scope.names cl _ _ (fun m c e => ?_) fun cl' h' kp f => ?_)
  . show c < (s.heap.push { cls := Value.type "dict", data := Data.dict #[] }).objs.size
    rw [hsz]; exact Nat.lt_succ_of_lt (hb m c e)
  . refine wpAny_bind (wpAny_pure (wpAny_pure ?_))
    obtain ⟨o, es, ep, g1, g2, g3, g4⟩ := Heap.Ns.new s.heap (.type "dict")
    refine h cl' h' (fun b o e => kp b o (Heap.get?_push_of_some _ e)) ⟨_, o, es, ep, kp _ _ g1, g2, g3, g4⟩ ⟨fun m c e => ?_, f.has, fun x y c hc ex ey => ?_⟩
    . rcases f.look m c e with z | ⟨z1, z2, z3⟩
      . exact .inl z
      . have z1' : s.heap.objs.size + 1 <= c := Nat.le_trans (Nat.le_of_eq hsz.symm) z1
        exact .inr ⟨Nat.le_of_succ_le z1', z2, z3⟩
    . by_cases hc' : s.heap.objs.size + 1 <= c
      . exact f.inj x y c (Nat.le_trans (Nat.le_of_eq hsz) hc') ex ey
      . have e : c = s.heap.objs.size := Nat.le_antisymm (Nat.le_of_lt_succ (Nat.lt_of_not_le hc')) hc
        rcases f.look x c ex with ⟨z, _⟩ | ⟨z, _⟩
        . exact absurd (hb x c z) (Nat.not_lt_of_le hc)
        . have z' : s.heap.objs.size + 1 <= c := Nat.le_trans (Nat.le_of_eq hsz.symm) z
          exact absurd z' hc'
structure CompX0 (X X' : Cx) (N' : List Str) (sc' : Scope) (ow : Str -> Bool) : Prop where
  at0 : At0 X' N' sc'
  cal : X'.calm = X.calm
  prog : X'.prog = X.prog
  w' : X'.w = X.w
  k' : X'.K = X.K
  mg' : X'.mg = X.mg
  base' : X'.base = X.base
  a' : X'.A = X.A
  fn' : ∀ x, ow x = true -> X'.fn x = true
structure CompX (X X' : Cx) (N' : List Str) (sc' : Scope) (ow : Str -> Bool) : Prop where
  at' : At X' N' sc'
  prog : X'.prog = X.prog
  w' : X'.w = X.w
  k' : X'.K = X.K
  mg' : X'.mg = X.mg
  base' : X'.base = X.base
  a' : X'.A = X.A
  fn' : ∀ x, ow x = true -> X'.fn x = true
section
variable {X X' : Cx} {N N' : List Str} {sc sc' : Scope} {ow : Str -> Bool}
theorem CompX0.calm (h : CompX0 X X' N' sc' ow) (hc : X.calm = true) : CompX X X' N' sc' ow := ⟨h.at0.at (h.cal.trans hc), h.prog, h.w', h.k', h.mg', h.base', h.a', h.fn'⟩
theorem CompX.callee {x : Str} {C : List D -> D -> Prop} (h : CompX X X' N' sc' ow) (c : Callee X x C) : Callee X' x C := by
  obtain ⟨f, fd, ps, k, F, hr, hm, hk, hb⟩ := c
  refine ⟨f, fd, ps, k, ?_, ?_, ?_, ?_, ?_⟩
  . rw [h.prog, h.w', h.k', h.mg', h.base']; exact F
  . rw [h.a']; exact hr
  . rw [h.mg']; exact hm
  . rw [h.k']; exact hk
  . rw [h.k']; exact hb
end
inductive CRun (X : Cx) (tg elt : Expr) (ifs : List Expr) : List D -> Rho -> List D -> Prop where
  | nil {ρ : Rho} : CRun X tg elt ifs [] ρ []
  | take {d r : D} {ds rs : List D} {ρ ρ1 : Rho} : EvGn X ρ tg d ρ1 -> (ifs = [] \/ ∃ c, ifs = [c] /\ EvT X ρ1 c true) -> EvE X ρ1 elt r -> CRun X tg elt ifs ds ρ1 rs -> CRun X tg elt ifs (d :: ds) ρ (r :: rs)
  | skip {d : D} {ds rs : List D} {ρ ρ1 : Rho} {c : Expr} : EvGn X ρ tg d ρ1 -> ifs = [c] -> EvT X ρ1 c false -> CRun X tg elt ifs ds ρ1 rs -> CRun X tg elt ifs (d :: ds) ρ rs
section
variable {prog : Program} {w : World} {A : Around} {R : Result -> Shared -> Prop} {s : Shared}
theorem aMT {elt target iter : Expr} {ifs : List Expr} {scope : Scope} {pos : Pos} {it acc : Value} {env : Env} (I : Nat -> Shared -> Prop)
    (turn : ∀ n s, I n s -> wpAny (model prog w) A (pyNext it) (fun r s₁ => match r with
      | none => R (.ok .next) s₁
      | some v => wpAny (model prog w) A (letOwnedTupleGo target it v) (fun _ s₀ => wpAny (model prog w) A (assign target env v) (fun _ s₂ =>
          wpAny (model prog w) A (forIn ifs true fun c r => if r = true then do let ok <- isTrue c env (eval c env); pure (ForInStep.yield ok) else pure (ForInStep.yield r)) (fun ok s₃ =>
            if ok = true then wpAny (model prog w) A (eval elt env) (fun x s₄ =>
              wpAny (model prog w) A (call (.builtin "list.append") [acc, x]) (fun _ s₅ => ∃ m, m < n /\ I m s₅) (fun _ _ => False) s₄) (fun _ _ => False) s₃
            else ∃ m, m < n /\ I m s₃) (fun _ _ => False) s₂) (fun _ _ => False) s₀) (fun _ _ => False) s₁) (fun _ _ => False) s)
    (n : Nat) (h : I n s) :
    codeAny (model prog w) A (.compLoop (.ListComp elt [⟨target, iter, ifs, 0⟩] scope pos) 0 it acc env) R s := by
  refine codeAny_loop rfl I (fun n s hI => ?_) n h
  show wpAny _ A ((compTurn (.ListComp elt [⟨target, iter, ifs, 0⟩] scope pos) 0 it acc env).onRaise (fun x => do noteFrame x env; theTreesLotGoes x)) _ _ s
  refine wpAny_noted ?_
  rw [compTurn_list]
  refine wpAny_bind (wpAny_standAt (wpAny_bind (wpAny_mono (turn n s hI) (fun r s₁ h₁ => ?_) fun _ _ h' => h'.elim)))
  cases r with
  | none => exact wpAny_pure h₁
  | some v =>
    refine wpAny_bind (wpAny_mono h₁ (fun _ s₀ h₀ => wpAny_bind (wpAny_mono h₀ (fun _ s₂ h₂ => wpAny_bind (wpAny_mono h₂ (fun ok s₃ h₃ => ?_) fun _ _ h' => h'.elim)) fun _ _ h' => h'.elim)) fun _ _ h' => h'.elim)
    cases ok with
    | false => exact wpAny_pure ⟨rfl, h₃⟩
    | true =>
      exact wpAny_bind (wpAny_bind (wpAny_mono h₃ (fun x s₄ h₄ => wpAny_bind (wpAny_mono h₄ (fun _ s₅ h₅ => wpAny_pure (wpAny_pure ⟨rfl, h₅⟩)) fun _ _ h' => h'.elim)) fun _ _ h' => h'.elim))
end
theorem Ok.chgFree {K : PySem.W.Frag} {B : B0} {F H : Hp} {σ : St} {ρ : Rho} {p : Addr} {o : HO} (k : Ok K B F H σ ρ) (hf : F p = none) (hb : B.H p = none) (hn : NoOwn σ ρ p) (hl : ∃ vs, H p = some (.lst vs)) : Ok K B F (upd H p o) σ ρ := by
  refine ⟨⟨fun b u q => ?_, fun b u q => ?_, k.sf, k.nw⟩, k.len, k.vals, fun i xs e => ?_, k.dist, k.dic.to (.refl _) (fun b φ e1 e2 _ => ⟨by rw [yQ (fun z => by subst z; obtain ⟨vs, hl⟩ := hl; rw [hl] at e1; cases e1)]; exact e1, e2⟩) fun _ _ e => ⟨e, rfl⟩⟩
  . have ne : b ≠ p := fun z => by subst z; rw [hf] at q; cases q
    rw [yQ ne]; exact k.sub b u q
  . have ne : b ≠ p := fun z => by subst z; rw [hb] at q; cases q
    rw [yQ ne]; exact k.sh b u q
  . obtain ⟨a, vs, h1, h2, h3, h4, h5⟩ := k.owns i xs e
    have ne : a ≠ p := fun z => by subst z; exact hn i xs e h1
    exact ⟨a, vs, h1, by rw [yQ ne]; exact h2, h3, h4, h5⟩
theorem Ok.more {K : PySem.W.Frag} {B : B0} {F H : Hp} {σ : St} {ρ : Rho} (k : Ok K B F H σ ρ) (n : Nat) : Ok K B F H (σ ++ List.replicate n none) (ρ ++ List.replicate n .un) := by
  have get : ∀ (i : Nat) s, (ρ ++ List.replicate n Sl.un)[i]? = some s -> s ≠ .un -> ρ[i]? = some s /\ (σ ++ List.replicate n none)[i]? = σ[i]? := fun i s h hn => by
    by_cases hi : i < ρ.length
    . rw [List.getElem?_append_left hi] at h
      exact ⟨h, List.getElem?_append_left (by rw [k.len]; exact hi)⟩
    . rw [List.getElem?_append_right (by omega), List.getElem?_replicate] at h
      split at h
      . cases h; exact absurd rfl hn
      . cases h
  refine ⟨k.toExt, by simp [k.len], fun i d h => ?_, fun i xs h => ?_, fun i j xs ys a h1 h2 h3 h4 => ?_, k.dic.to (.refl _) (fun _ _ e1 e2 _ => ⟨e1, e2⟩) fun i kvs h => get i _ h fun z => nomatch z⟩
  . obtain ⟨e1, e2⟩ := get i _ h fun z => nomatch z
    rw [e2]; exact k.vals i d e1
  . obtain ⟨e1, e2⟩ := get i _ h fun z => nomatch z
    rw [e2]; exact k.owns i xs e1
  . obtain ⟨e1, e2⟩ := get i _ h1 fun z => nomatch z
    obtain ⟨g1, g2⟩ := get j _ h2 fun z => nomatch z
    rw [e2] at h3; rw [g2] at h4
    exact k.dist i j xs ys a e1 g1 h3 h4
theorem aAI {names : List (Str × NameKind)} {x : Str} {k : NameKind} (h : names.lookup x = some k) : (x, k) ∈ names := PySem.mem_of_lookup h
theorem aHV {scope sc : Scope} (hf : sc.kind = .function) (fr : ∀ y ∈ scope.names, y.2 = .free -> sc.names.lookup y.1 = some .cell) {x : Str} {k : NameKind} (h : (relS scope sc).names.lookup x = some k) :
    ∃ k', scope.names.lookup x = some k' /\ (k' = .free -> k = .cell) /\ (k' ≠ .free -> k = k') := by
  have go : ∀ names : List (Str × NameKind), (∀ y ∈ names, y.2 = .free -> sc.names.lookup y.1 = some .cell) -> (names.map fun (n, k) => if (k == NameKind.free && sc.kind == .function && sc.names.lookup n == some .cell) then (n, NameKind.cell) else (n, k)).lookup x = some k ->
      ∃ k', names.lookup x = some k' /\ (k' = .free -> k = .cell) /\ (k' ≠ .free -> k = k') := by
    intro names
    induction names with
    | nil => intro _ h; cases h
    | cons y r ih =>
      intro fr h
      obtain ⟨n, kk⟩ := y
      have hr := ih fun y hy => fr y (List.mem_cons_of_mem _ hy)
      by_cases hkk : kk = .free
      . subst hkk
        have hc := fr (n, .free) List.mem_cons_self rfl
        have e : (if (NameKind.free == NameKind.free && sc.kind == .function && sc.names.lookup n == some .cell) = true then (n, NameKind.cell) else (n, NameKind.free)) = (n, NameKind.cell) := by
          have hc' : sc.names.lookup n = some .cell := hc
          rw [hc', hf]; rfl
        rw [List.map_cons] at h
        simp only [e] at h
        rw [List.lookup_cons] at h ⊢
        cases hx : x == n with
        | true => rw [hx] at h; cases h; exact ⟨.free, rfl, fun _ => rfl, fun z => absurd rfl z⟩
        | false => rw [hx] at h; exact hr h
      . have e : (if (kk == NameKind.free && sc.kind == .function && sc.names.lookup n == some .cell) = true then (n, NameKind.cell) else (n, kk)) = (n, kk) := by
          have hb : (kk == NameKind.free) = false := beq_eq_false_iff_ne.mpr hkk
          rw [hb]; rfl
        rw [List.map_cons] at h
        simp only [e] at h
        rw [List.lookup_cons] at h ⊢
        cases hx : x == n with
        | true => rw [hx] at h; cases h; exact ⟨_, rfl, fun z => absurd z hkk, fun _ => rfl⟩
        | false => rw [hx] at h; exact hr h
  exact go scope.names fr h
end L2.EV
namespace L2.EV
open PySem PySem.Spec PyProof.Rows
def cxC (X : Cx) (N' : List Str) (scope : Scope) (cl : List (Str × Addr)) (C : Addr) (s3 : Shared) (H3 : Hp) (fp : List Addr) : Cx :=
  { X with N := N', s₀ := s3, H₀ := H3, env := compEnvC scope cl C X.env, outer := X.stack, stack := X.stack, ex := fp, fn := ownS scope, pn := [], xe := fun _ _ => False }
section
variable {X : Cx} {N N' : List Str} {sc scope : Scope} {ρ : Rho} {tg elt iter : Expr} {ifs : List Expr} {pos : Pos} {pins : List (Addr × Obj)} {σ : St} {B : B0} {F2 H2 : Hp} {s2 : Shared} {it : Addr} {fp : List Addr} {tn : Nat -> Heap -> Prop} {J : It} {ds rs : List D}
theorem eDN {s3 : Shared} {H3 : Hp} {cl cl0 : List (Str × Addr)} (t : At0 X N sc) (S : CScope N sc N' scope) (I3 : Inv X pins σ H3 s3) (hc1 : ∀ n c, cl0.lookup n = some c -> X.env.cells.lookup n = some c) (hc2 : ∀ n, (n, NameKind.free) ∈ scope.names -> ∃ c, cl0.lookup n = some c) {h₁ : Heap} (CN : FC scope.names cl0 s3.heap.objs.size cl h₁)
    (fo : ∀ b ∈ fp, FpOk X pins H3 b) (fl : ∀ b ∈ fp, b < s3.heap.objs.size) : (cxC X N' scope cl s3.heap.objs.size s3 H3 fp).Ok := by
  refine ⟨I3.ok.mod, ?_, I3.ok.glob, I3.ok.blt, Nat.le_refl _, fun x y c h1 h2 => ?_, fun x hx => ?_, (fun x c hf h => ?_), I3.ok.hd, I3.ok.frames, .inl rfl, fun b hb => ⟨?_, fun x c h => ?_⟩, I3.bs, Nat.le_trans I3.ok.bsz I3.sz, fun b o h hb => ?_, fun b hb h => ?_, I3.stack, I3.stkFree⟩
  . exact S.kind
  . by_cases hc : s3.heap.objs.size <= c
    . exact CN.inj x y c hc h1 h2
    . have old : ∀ z, cl.lookup z = some c -> X.env.cells.lookup z = some c := fun z ez => by
        rcases CN.look z c ez with ⟨e, _⟩ | ⟨e, _⟩
        . exact hc1 z c e
        . exact absurd e hc
      exact I3.ok.inj x y c (old x h1) (old y h2)
  . have hx' : (relabel scope X.env).names.lookup x = some .cell \/ (relabel scope X.env).names.lookup x = some .free := hx
    rw [aPP t.eS] at hx'
    have hk : ∃ k, (k = NameKind.cell \/ k = .free) /\ (relS scope sc).names.lookup x = some k := by
      rcases hx' with h | h
      . exact ⟨_, .inl rfl, h⟩
      . exact ⟨_, .inr rfl, h⟩
    obtain ⟨k, hk, h⟩ := hk
    obtain ⟨k', h1, h2, h3⟩ := aHV S.fun' S.free h
    by_cases hf : k' = .free
    . subst hf; exact CN.has x (.inr (hc2 x (aAI h1)))
    . have e := h3 hf
      rcases hk with hk | hk
      . have e' : k' = .cell := e.symm.trans hk
        subst e'
        exact CN.has x (.inl (aAI h1))
      . exact absurd (e.symm.trans hk) hf
  . have hm : (x, NameKind.cell) ∈ scope.names := by
      have hf' : ownS scope x = true := hf
      unfold ownS at hf'
      cases e : scope.names.lookup x with
      | none => rw [e] at hf'; cases hf'
      | some kk => rw [e] at hf'; cases kk <;> first | exact aAI e | cases hf'
    rcases CN.look x c h with ⟨_, e⟩ | ⟨e, _⟩
    . exact absurd hm e
    . exact e
  . exact Nat.ne_of_lt (fl b hb)
  . rcases CN.look x c h with ⟨e, _⟩ | ⟨e, _⟩
    . exact (fo b hb).2.2.2.2.1 x c (hc1 x c e)
    . exact fun z => absurd (fl b hb) (by rw [<- z]; exact Nat.not_lt_of_le e)
  . rcases (fo b hb).2.2.2.1 with z | z
    . exact I3.ok.noex b o h z
    . have h1 := Heap.lt_size h
      have h2 := I3.ok.bsz
      exact absurd (Nat.lt_of_lt_of_le h1 (Nat.le_trans h2 z)) (Nat.lt_irrefl _)
  . have h' : b ∈ frs X.stack := h
    rcases List.mem_cons.mp (I3.stkSub b h') with z | z
    . exact (fo b hb).2.1 z
    . exact (fo b hb).2.2.1 z
theorem eAQ {s3 : Shared} {H3 : Hp} {cl cl0 : List (Str × Addr)} {tk : Nat} (t : At0 X N sc) (S : CScope N sc N' scope) (I3 : Inv X pins σ H3 s3) (hc1 : ∀ n c, cl0.lookup n = some c -> X.env.cells.lookup n = some c) (hc2 : ∀ n, (n, NameKind.free) ∈ scope.names -> ∃ c, cl0.lookup n = some c) {h₁ : Heap} (CN : FC scope.names cl0 s3.heap.objs.size cl h₁)
    (fo : ∀ b ∈ fp, FpOk X pins H3 b) (fl : ∀ b ∈ fp, b < s3.heap.objs.size) (hns : ∃ m, h₁.Ns s3.heap.objs.size m) (kp : ∀ b o, s3.heap.get? b = some o -> h₁.get? b = some o) :
    Inv (cxC X N' scope cl s3.heap.objs.size s3 H3 fp) [] (σ ++ List.replicate (N'.length - N.length) none) H3 { s3 with heap := h₁, toks := tk } := by
  obtain ⟨m, hm⟩ := hns
  have hlen : σ.length = N.length := by rw [I3.len, t.eN]
  refine ⟨eDN t S I3 hc1 hc2 CN fo fl, rfl, I3.bare, Un.kept kp, ⟨m, hm, fun i x v h1 h2 h3 => ?_⟩, fun x c h => ?_, I3.hok.fresh (Nat.le_refl _), fun x c h => (CN.look x c h).elim (fun z => I3.freeC x c (hc1 x c z.1)) (fun z => I3.hok.fresh z.1), (fun p hp => nomatch hp), I3.hok.kept kp, ?_⟩
  . have hi : i < σ.length := by
      by_cases hi : i < σ.length
      . exact hi
      . rw [List.getElem?_append_right (by omega), List.getElem?_replicate] at h2
        split at h2 <;> cases h2
    rw [List.getElem?_append_left hi] at h2
    have h3' : Vis (relS scope sc) x := by rw [<- aPP t.eS]; exact h3
    have hv : VisS (relS scope sc) x = true := by
      unfold VisS
      rcases h3' with z | z | z <;> rw [z]
    obtain ⟨e1, e2⟩ := S.old i x (by omega) h1 hv
    have hcell : sc.names.lookup x = some .cell := S.free _ (aAI e2) rfl
    obtain ⟨m0, hn0, hl0⟩ := I3.loc
    obtain ⟨u, ru, lk⟩ := hl0 i x v (by rw [t.eN]; exact e1) h2 (by rw [t.eS]; exact .inr (.inl hcell))
    refine ⟨u, ru, ?_⟩
    have hkx : X.env.kindOf x = some .cell := by show X.env.scope.names.lookup x = _; rw [t.eS]; exact hcell
    rcases lk with ⟨k, _⟩ | ⟨_, c, hc, hcc⟩
    . rw [hkx] at k; cases k
    . obtain ⟨c', hc'⟩ := CN.has x (.inr (hc2 x (aAI e2)))
      have ho : cl0.lookup x = some c' := by
        rcases CN.look x c' hc' with ⟨z, _⟩ | ⟨_, z, _⟩
        . exact z
        . have z' := S.cells _ z rfl
          rw [e2] at z'; cases z'
      have e : c' = c := Option.some.inj ((hc1 x c' ho).symm.trans hc)
      subst e
      refine .inr ⟨?_, c', hc', ?_⟩
      . show (relabel scope X.env).names.lookup x = _ \/ (relabel scope X.env).names.lookup x = _
        rw [aPP t.eS]
        rcases h3' with z | z | z
        . obtain ⟨k', g1, g2, g3⟩ := aHV S.fun' S.free z
          by_cases hk' : k' = .free
          . have := g2 hk'; cases this
          . have e := g3 hk'
            subst e
            rw [e2] at g1
            cases g1
        . exact .inl z
        . exact .inr z
      . obtain ⟨oc, ho, hd⟩ := hcc
        exact ⟨oc, kp _ _ ho, hd⟩
  . rcases CN.look x c h with ⟨z, _⟩ | ⟨_, _, z⟩
    . obtain ⟨v, oc, ho, hd⟩ := I3.cell x c (hc1 x c z)
      exact ⟨v, oc, kp _ _ ho, hd⟩
    . exact ⟨_, z⟩
  . show (σ ++ List.replicate (N'.length - N.length) none).length = N'.length
    have := S.len
    rw [List.length_append, List.length_replicate, hlen]
    omega
end
end L2.EV
namespace L2.EV
open PySem PySem.Spec PyProof.Rows
def CEnd (X : Cx) (pins : List (Addr × Obj)) (σ : St) (F2 H2 : Hp) (rs : List D) (D' C : Addr) (s' : Shared) : Prop :=
  ∃ (F' H' : Hp) (vs : List V) (m : Str -> Option Value), Inv X pins σ H' s' /\ s'.heap.Ns C m /\ H' C = none /\ C ≠ X.env.locals /\ X.s₀.heap.objs.size <= C /\ (∀ x c, X.env.cells.lookup x = some c -> c ≠ C) /\ (∀ p ∈ X.pn ++ pins, p.1 ≠ C) /\
    Ext ⟨F2, H2⟩ F' H' /\ H2 D' = none /\ H' D' = some (.lst vs) /\ F' D' = none /\ RepL X.K F' vs rs /\ D' ≠ C
section
variable {X : Cx} {N N' : List Str} {sc scope : Scope} {ρ : Rho} {tg elt iter : Expr} {ifs : List Expr} {pos : Pos} {pins : List (Addr × Obj)} {σ : St} {B : B0} {F2 H2 : Hp} {s2 : Shared} {it : Addr} {fp : List Addr} {tn : Nat -> Heap -> Prop} {J : It} {ds rs : List D}
theorem aVL {cl cl0 : List (Str × Addr)} {s3 : Shared} {DD C : Addr} {h₁ : Heap} {tk : Nat} (t : At0 X N sc) (md : X.calm = true \/ (J.hot /\ HotH X.A H2)) (S : CScope N sc N' scope) (hC : s3.heap.objs.size = C) (hDC : DD ≠ C) (I3 : Inv X pins σ (upd H2 DD (.lst [])) s3) (hD0 : H2 DD = none)
    (fo3 : ∀ b ∈ fp, FpOk X pins (upd H2 DD (.lst [])) b) (fl3 : ∀ b ∈ fp, b < s3.heap.objs.size) (T : Turn X.prog X.w X.K tg J fp it tn) (tn3 : tn 0 s3.heap)
    (hns₁ : ∃ m, h₁.Ns s3.heap.objs.size m) (kp4 : ∀ b o, s3.heap.get? b = some o -> h₁.get? b = some o)
    (k2 : Ok X.K B F2 H2 σ ρ) (JO : ItOk X.K J F2 ds) (hz : ds.length < sizeLine)
    (hc1 : ∀ n c, cl0.lookup n = some c -> X.env.cells.lookup n = some c) (hc2 : ∀ n, (n, NameKind.free) ∈ scope.names -> ∃ c, cl0.lookup n = some c) (CN : FC scope.names cl0 s3.heap.objs.size cl h₁)
    (run : ∀ X', CompX0 X X' N' (relS scope sc) (ownS scope) -> CRun X' tg elt ifs ds (ρ ++ List.replicate (N'.length - N.length) .un) rs)
    {RR : Value -> Addr -> Result -> Shared -> Prop} (hRR : ∀ D' C s', CEnd X pins σ F2 H2 rs D' C s' -> RR (.ref D') C (.ok .next) s') :
    codeAny (model X.prog X.w) X.A (.compStart (.ListComp elt [⟨tg, iter, ifs, 0⟩] scope pos) 0 (.ref it) (.ref DD) (compEnvC scope cl C X.env)) (RR (.ref DD) C) { s3 with heap := h₁, toks := tk } := by
  have I4 : Inv (cxC X N' scope cl C s3 (upd H2 DD (.lst [])) fp) [] (σ ++ List.replicate (N'.length - N.length) none) (upd H2 DD (.lst [])) { s3 with heap := h₁, toks := tk } := by
    have q := eAQ (N' := N') (tk := tk) (fp := fp) t S I3 hc1 hc2 CN fo3 fl3 hns₁ kp4
    rw [hC] at q
    exact q
  generalize hX' : cxC X N' scope cl C s3 (upd H2 DD (.lst [])) fp = X' at I4
  have cx : CompX0 X X' N' (relS scope sc) (ownS scope) := by
    subst hX'
    exact ⟨⟨rfl, aPP t.eS, S.nd, rfl, t.un, t.dp, t.tree, t.fr⟩, rfl, rfl, rfl, rfl, rfl, rfl, rfl, fun x hx => hx⟩
  have md' : X'.calm = true \/ (J.hot /\ HotX X') := by
    rcases md with z | ⟨z, ea, oe, u, vs, k1, k2, k3, k4⟩
    . exact .inl (cx.cal.trans z)
    . refine .inr ⟨z, ea, oe, u, vs, by rw [cx.a']; exact k1, ?_, k3, k4⟩
      have e : X'.H₀ = upd H2 DD (.lst []) := by subst hX'; rfl
      rw [e, yQ (zZ k2 hD0)]; exact k2
  have run' := run X' cx
  have eP : X'.prog = X.prog := cx.prog
  have eW : X'.w = X.w := cx.w'
  have eA : X'.A = X.A := cx.a'
  have eK : X'.K = X.K := cx.k'
  have eEnv : X'.env = compEnvC scope cl C X.env := by subst hX'; rfl
  have eX : X'.xe = fun _ _ => False := cx.at0.nox
  have eEx : X'.ex = fp := by subst hX'; rfl
  have ePn : X'.pn = [] := by subst hX'; rfl
  have k4 : Ok X.K B F2 (upd H2 DD (.lst [])) (σ ++ List.replicate (N'.length - N.length) none) (ρ ++ List.replicate (N'.length - N.length) .un) := (k2.growH hD0).more _
  have no4 : NoOwn (σ ++ List.replicate (N'.length - N.length) none) (ρ ++ List.replicate (N'.length - N.length) .un) DD := (k2.more _).noOwn hD0
  have bD : B.H DD = none := k2.sh.free hD0
  have fD : F2 DD = none := k2.sub.free hD0
  have fp4 : ∀ {H' : Hp}, (∀ b ∈ fp, H' b = none) -> ∀ b ∈ fp, FpOk X' [] H' b := fun {H'} hn b hb => by
    refine ⟨hn b hb, ?_, ?_, .inl (by rw [eEx]; exact hb), fun x c h => ?_, fun p hp => ?_⟩
    . exact (I4.ok.exf b (by rw [eEx]; exact hb)).1
    . exact I4.ok.exfs b (by rw [eEx]; exact hb)
    . exact (I4.ok.exf b (by rw [eEx]; exact hb)).2 x c h
    . rw [ePn] at hp; exact nomatch hp
  have fin : ∀ (σ' : St) (F' H' : Hp) (vs : List V) (s' : Shared), Inv X' [] σ' H' s' -> Ext ⟨F2, H2⟩ F' H' -> H' DD = some (.lst vs) -> F' DD = none -> RepL X.K F' vs rs -> RR (.ref DD) C (.ok .next) s' := fun σ' F' H' vs s' I' x' h1 h2 h3 => by
    refine hRR DD C s' ?_
    have base := I'.base
    have hos := I'.os
    have hhok := I'.hok
    have hfree := I'.free
    obtain ⟨m, hm, _⟩ := I'.loc
    rw [eEnv] at hfree hm
    rw [eEx] at base
    have e1 : X'.fs = frs X.stack := by subst hX'; rfl
    have e2 : X'.H₀ = upd H2 DD (.lst []) := by subst hX'; rfl
    have e3 : X'.s₀ = s3 := by subst hX'; rfl
    rw [e1, e2, e3] at base
    rw [e3] at hos
    rw [eP, eW] at hhok
    have IX : Inv X pins σ H' s' := I3.call' (ch := fp) hos base hhok I'.bare fun b hb => ⟨(fo3 b hb).2.2.2.1, (fo3 b hb).2.1, (fo3 b hb).2.2.2.2.1, (fo3 b hb).2.2.2.2.2⟩
    refine ⟨F', H', vs, m, IX, hm, hfree, ?_, ?_, fun x c h z => ?_, fun p hp z => ?_, x', hD0, h1, h2, h3, hDC⟩
    . have := I3.lt; rw [hC] at this; exact fun z => absurd (z ▸ this) (Nat.lt_irrefl _)
    . have := I3.sz; rw [hC] at this; exact this
    . obtain ⟨v, q⟩ := I3.cell x c h
      have := q.lt; rw [hC, z] at this; exact absurd this (Nat.lt_irrefl _)
    . have := Heap.lt_size (I3.pin p hp).1
      rw [hC, z] at this; exact absurd this (Nat.lt_irrefl _)
  have tn4 : tn 0 h₁ := T.keep 0 _ _ tn3 fun b hb o e => kp4 b o e
  have loop : ∀ s4 : Shared, s4 = { s3 with heap := h₁, toks := tk } ->
      codeAny (model X.prog X.w) X.A (.compLoop (.ListComp elt [⟨tg, iter, ifs, 0⟩] scope pos) 0 (.ref it) (.ref DD) (compEnvC scope cl C X.env)) (RR (.ref DD) C) s4 := by
    rintro s4 rfl
    refine aMT (fun n s' => ∃ (i : Nat) (σ' : St) (F' H' : Hp) (ρ' : Rho) (vs : List V) (r0 r1 : List D), Inv X' [] σ' H' s' /\ tn i s'.heap /\ (∀ b ∈ fp, H' b = none) /\ Ok X.K B F' H' σ' ρ' /\ Ext ⟨F2, H2⟩ F' H' /\ H' DD = some (.lst vs) /\ F' DD = none /\ NoOwn σ' ρ' DD /\
        RepL X.K F' vs r0 /\ CRun X' tg elt ifs (ds.drop i) ρ' r1 /\ r0 ++ r1 = rs /\ r0.length <= i /\ i <= ds.length /\ n = ds.length + 1 - i) ?_ (ds.length + 1)
      ⟨0, _, F2, _, _, [], [], rs, I4, tn4, fun b hb => (fo3 b hb).1, k4, ⟨k2.sub.trans (yL hD0), yL hD0, .refl _, fun a h => .inl h⟩, zA, fD, no4, .nil, by simpa using run', rfl, Nat.zero_le _, Nat.zero_le _, by simp⟩
    rintro n s' ⟨i, σ', F', H', ρ', vs, r0, r1, I', tni, fpi, k', x', hH, hF, no', rv, cr, er, hr0, hi, rfl⟩
    have JO' := JO i F' H' x'.sf k'.sub
    have TI := T.item X' eP eW eK md' i [] s' σ' H' (fun _ _ => False) I' (fp4 fpi) tni
    have TD := T.done X' eP eW eK md' i [] s' σ' H' (fun _ _ => False) I' (fp4 fpi) tni
    rw [eA] at TI TD
    generalize e1 : ds.drop i = rest at cr
    have stepI : ∀ {d : D} {rest' : List D} {ρ1 : Rho} (hd : ds[i]? = some d) (g : EvGn X' ρ' tg d ρ1)
        (K : ∀ (pins' : List (Addr × Obj)) (s5 : Shared) (σ5 : St) (F5 H5 : Hp), Inv X' pins' σ5 H5 s5 -> Ok X.K B F5 H5 σ5 ρ1 -> Ext ⟨F2, H2⟩ F5 H5 -> H5 DD = some (.lst vs) -> F5 DD = none -> NoOwn σ5 ρ1 DD -> RepL X.K F5 vs r0 ->
          (∀ (s6 : Shared) (σ6 : St) (H6 : Hp), Inv X' pins' σ6 H6 s6 -> Inv X' [] σ6 H6 s6 /\ tn (i + 1) s6.heap /\ ∀ b ∈ fp, H6 b = none) ->
          wpAny (model X.prog X.w) X.A (forIn ifs true fun c r => if r = true then do let ok <- isTrue c (compEnvC scope cl C X.env) (eval c (compEnvC scope cl C X.env)); pure (ForInStep.yield ok) else pure (ForInStep.yield r)) (fun ok s₃ =>
            if ok = true then wpAny (model X.prog X.w) X.A (eval elt (compEnvC scope cl C X.env)) (fun x s₄ =>
              wpAny (model X.prog X.w) X.A (call (.builtin "list.append") [.ref DD, x]) (fun _ s₅ => ∃ m, m < ds.length + 1 - i /\ ∃ (i : Nat) (σ' : St) (F' H' : Hp) (ρ' : Rho) (vs : List V) (r0 r1 : List D), Inv X' [] σ' H' s₅ /\ tn i s₅.heap /\ (∀ b ∈ fp, H' b = none) /\ Ok X.K B F' H' σ' ρ' /\ Ext ⟨F2, H2⟩ F' H' /\ H' DD = some (.lst vs) /\ F' DD = none /\ NoOwn σ' ρ' DD /\
        RepL X.K F' vs r0 /\ CRun X' tg elt ifs (ds.drop i) ρ' r1 /\ r0 ++ r1 = rs /\ r0.length <= i /\ i <= ds.length /\ m = ds.length + 1 - i) (fun _ _ => False) s₄) (fun _ _ => False) s₃
            else ∃ m, m < ds.length + 1 - i /\ ∃ (i : Nat) (σ' : St) (F' H' : Hp) (ρ' : Rho) (vs : List V) (r0 r1 : List D), Inv X' [] σ' H' s₃ /\ tn i s₃.heap /\ (∀ b ∈ fp, H' b = none) /\ Ok X.K B F' H' σ' ρ' /\ Ext ⟨F2, H2⟩ F' H' /\ H' DD = some (.lst vs) /\ F' DD = none /\ NoOwn σ' ρ' DD /\
        RepL X.K F' vs r0 /\ CRun X' tg elt ifs (ds.drop i) ρ' r1 /\ r0 ++ r1 = rs /\ r0.length <= i /\ i <= ds.length /\ m = ds.length + 1 - i) (fun _ _ => False) s5),
        wpAny (model X.prog X.w) X.A (pyNext (.ref it)) (fun r s₁ => match r with
      | none => RR (.ref DD) C (.ok .next) s₁
      | some v => wpAny (model X.prog X.w) X.A (letOwnedTupleGo tg (.ref it) v) (fun _ s₀ => wpAny (model X.prog X.w) X.A (assign tg (compEnvC scope cl C X.env) v) (fun _ s₂ =>
          wpAny (model X.prog X.w) X.A (forIn ifs true fun c r => if r = true then do let ok <- isTrue c (compEnvC scope cl C X.env) (eval c (compEnvC scope cl C X.env)); pure (ForInStep.yield ok) else pure (ForInStep.yield r)) (fun ok s₃ =>
            if ok = true then wpAny (model X.prog X.w) X.A (eval elt (compEnvC scope cl C X.env)) (fun x s₄ =>
              wpAny (model X.prog X.w) X.A (call (.builtin "list.append") [.ref DD, x]) (fun _ s₅ => ∃ m, m < ds.length + 1 - i /\ ∃ (i : Nat) (σ' : St) (F' H' : Hp) (ρ' : Rho) (vs : List V) (r0 r1 : List D), Inv X' [] σ' H' s₅ /\ tn i s₅.heap /\ (∀ b ∈ fp, H' b = none) /\ Ok X.K B F' H' σ' ρ' /\ Ext ⟨F2, H2⟩ F' H' /\ H' DD = some (.lst vs) /\ F' DD = none /\ NoOwn σ' ρ' DD /\
        RepL X.K F' vs r0 /\ CRun X' tg elt ifs (ds.drop i) ρ' r1 /\ r0 ++ r1 = rs /\ r0.length <= i /\ i <= ds.length /\ m = ds.length + 1 - i) (fun _ _ => False) s₄) (fun _ _ => False) s₃
            else ∃ m, m < ds.length + 1 - i /\ ∃ (i : Nat) (σ' : St) (F' H' : Hp) (ρ' : Rho) (vs : List V) (r0 r1 : List D), Inv X' [] σ' H' s₃ /\ tn i s₃.heap /\ (∀ b ∈ fp, H' b = none) /\ Ok X.K B F' H' σ' ρ' /\ Ext ⟨F2, H2⟩ F' H' /\ H' DD = some (.lst vs) /\ F' DD = none /\ NoOwn σ' ρ' DD /\
        RepL X.K F' vs r0 /\ CRun X' tg elt ifs (ds.drop i) ρ' r1 /\ r0 ++ r1 = rs /\ r0.length <= i /\ i <= ds.length /\ m = ds.length + 1 - i) (fun _ _ => False) s₂) (fun _ _ => False) s₀) (fun _ _ => False) s₁) (fun _ _ => False) s' := by
      intro d rest' ρ1 hd g K
      obtain ⟨go, yl⟩ := JO'.1 _ hd
      refine thn (TI go) fun r s4 ⟨u, hr, h4⟩ => ?_
      subst hr
      refine thn h4 fun _ s5 ⟨x, H5, I5, r5, y5, st5, fr5⟩ => ?_
      obtain ⟨F5, x5, rx⟩ := yl x H5 y5
      have I5' := I5.pinned (fp4 fr5) (T.obj _ _ st5)
      have gg := g B F5 H5 σ' x (fun σ6 H6 => H6 = H5 /\ Ok X.K B F5 H5 σ6 ρ1 /\ NoOwn σ6 ρ1 DD) (by rw [eK]; exact k'.ext x5) (by rw [eK]; exact rx) (fun σ6 k6 n6 => ⟨rfl, by rw [eK] at k6; exact k6, n6 DD no'⟩) _ s5 u I5' r5
      rw [eP, eW, eA, eEnv, eX] at gg
      refine thn gg fun _ s6 ⟨σ6, H6, I6, e6, k6, n6⟩ => ?_
      subst e6
      refine K _ s6 σ6 F5 H6 I6 k6 (x'.t x5) (x5.sh _ _ hH) ?_ n6 (rv.mono x5.sf) fun s7 σ7 H7 I7 => ⟨I7.unpinned, T.keep _ _ _ st5 fun b hb o e => (I7.pin (b, o) (List.mem_append_right _ (List.mem_append_right _ (aBS hb e)))).1, fun b hb => ?_⟩
      . cases q : F5 DD with
        | none => rfl
        | some w =>
          rcases x5.nw DD (by rw [q]; exact fun z => nomatch z) with z | z
          . exact absurd hF z
          . have z' : H' DD = none := z
            rw [hH] at z'; cases z'
      . obtain ⟨o, e, d⟩ := T.obj _ _ st5 b hb
        exact (I7.pin (b, o) (List.mem_append_right _ (List.mem_append_right _ (aBS hb e)))).2.1
    have eltI : ∀ {d r : D} {rest' rs' : List D} {ρ1 : Rho} (hlt : i < ds.length) (hdr : ds.drop (i + 1) = rest') (ev : EvE X' ρ1 elt r) (cr' : CRun X' tg elt ifs rest' ρ1 rs') (er' : r0 ++ (r :: rs') = rs) (pins' : List (Addr × Obj)) (s5 : Shared) (σ5 : St) (F5 H5 : Hp), Inv X' pins' σ5 H5 s5 -> Ok X.K B F5 H5 σ5 ρ1 -> Ext ⟨F2, H2⟩ F5 H5 -> H5 DD = some (.lst vs) -> F5 DD = none -> NoOwn σ5 ρ1 DD -> RepL X.K F5 vs r0 ->
          (∀ (s6 : Shared) (σ6 : St) (H6 : Hp), Inv X' pins' σ6 H6 s6 -> Inv X' [] σ6 H6 s6 /\ tn (i + 1) s6.heap /\ ∀ b ∈ fp, H6 b = none) ->
          wpAny (model X.prog X.w) X.A (eval elt (compEnvC scope cl C X.env)) (fun x s₄ =>
              wpAny (model X.prog X.w) X.A (call (.builtin "list.append") [.ref DD, x]) (fun _ s₅ => ∃ m, m < ds.length + 1 - i /\ ∃ (i : Nat) (σ' : St) (F' H' : Hp) (ρ' : Rho) (vs : List V) (r0 r1 : List D), Inv X' [] σ' H' s₅ /\ tn i s₅.heap /\ (∀ b ∈ fp, H' b = none) /\ Ok X.K B F' H' σ' ρ' /\ Ext ⟨F2, H2⟩ F' H' /\ H' DD = some (.lst vs) /\ F' DD = none /\ NoOwn σ' ρ' DD /\
        RepL X.K F' vs r0 /\ CRun X' tg elt ifs (ds.drop i) ρ' r1 /\ r0 ++ r1 = rs /\ r0.length <= i /\ i <= ds.length /\ m = ds.length + 1 - i) (fun _ _ => False) s₄) (fun _ _ => False) s5 := by
      intro d r rest' rs' ρ1 hlt hdr ev cr' er' pins' s5 σ5 F5 H5 I5 k5 x5 h5 f5 n5 rv5 back
      have ee := ev B F5 H5 σ5 (fun v H6 => ∃ F6, Ext ⟨F5, H5⟩ F6 H6 /\ Rep X.K F6 v r) (by rw [eK]; exact k5) (fun v F6 H6 x6 r6 => ⟨F6, x6, by rw [eK] at r6; exact r6⟩) pins' s5 I5
      rw [eP, eW, eA, eEnv, eX] at ee
      refine thn ee fun u s6 ⟨v, H6, I6, ru, F6, x6, r6⟩ => ?_
      have h6 := x6.sh _ _ h5
      have f6 : F6 DD = none := by
        cases q : F6 DD with
        | none => rfl
        | some w =>
          rcases x6.nw DD (by rw [q]; exact fun z => nomatch z) with z | z
          . exact absurd f5 z
          . have z' : H5 DD = none := z
            rw [h5] at z'; cases z'
      have hlen : vs.length < sizeLine := by
        have := rv5.length
        omega
      have app := aMB (X := X') pins' s6 σ5 H6 (.ref DD) [v] (.ref DD) [u] (fun z H7 => H7 = upd H6 DD (.lst (vs ++ [v]))) I6 rfl (.cons ru .nil) ⟨DD, vs, v, rfl, rfl, h6, hlen, rfl⟩
      rw [eP, eW, eA, eX] at app
      refine thn app fun _ s7 ⟨z, H7, I7, _, e7⟩ => ?_
      subst e7
      obtain ⟨I8, t8, f8⟩ := back s7 σ5 _ I7
      have x7 := x5.t x6
      refine ⟨ds.length + 1 - (i + 1), by omega, i + 1, σ5, F6, _, ρ1, vs ++ [v], r0 ++ [r], rs', I8, t8, f8, (k5.ext x6).chgFree f6 bD n5 ⟨_, h6⟩, ⟨fun b w q => ?_, fun b w q => ?_, x7.sf, x7.nw⟩, zA, f6, n5, (rv5.mono x6.sf).append (.cons r6 .nil), by rw [hdr]; exact cr', by rw [List.append_assoc]; exact er', by rw [List.length_append, List.length_singleton]; omega, hlt, rfl⟩
      . have ne : b ≠ DD := fun z => by subst z; rw [f6] at q; cases q
        rw [yQ ne]; exact x6.sub b w q
      . have ne : b ≠ DD := fun z => by subst z; have q' : H2 b = some w := q; rw [hD0] at q'; cases q'
        rw [yQ ne]; exact x7.sh b w q
    cases cr with
    | nil =>
      have hl : ds.length <= i := by
        have := congrArg List.length e1
        rw [List.length_drop, List.length_nil] at this
        omega
      refine thn (TD (JO'.2 hl)) fun r s4 ⟨hr, I4'⟩ => ?_
      subst hr
      rw [List.append_nil] at er
      subst er
      exact fin σ' F' H' vs s4 I4' x' hH hF rv
    | @take d r ds0 rs0 ρ0 ρ1 g ci ev cr' =>
      obtain ⟨hd, hdr, hlt⟩ := aDH e1
      refine stepI (rest' := ds0) hd g fun pins' s5 σ5 F5 H5 I5 k5 x5 h5 f5 n5 rv5 back => ?_
      rcases ci with rfl | ⟨c, rfl, et⟩
      . refine wpAny_tests_nil ?_
        rw [if_pos rfl]
        exact eltI (d := d) hlt hdr ev cr' er pins' s5 σ5 F5 H5 I5 k5 x5 h5 f5 n5 rv5 back
      . have tt := et B F5 H5 σ5 (fun b H6 => b = true /\ ∃ F6, Ext ⟨F5, H5⟩ F6 H6) (by rw [eK]; exact k5) (fun F6 H6 x6 => ⟨rfl, F6, x6⟩) pins' s5 I5
        rw [eP, eW, eA, eEnv, eX] at tt
        refine wpAny_tests_one (thn tt fun b s6 ⟨H6, I6, eb, F6, x6⟩ => ?_)
        subst eb
        rw [if_pos rfl]
        have f6 : F6 DD = none := by
          cases q : F6 DD with
          | none => rfl
          | some w =>
            rcases x6.nw DD (by rw [q]; exact fun z => nomatch z) with z | z
            . exact absurd f5 z
            . have z' : H5 DD = none := z
              rw [h5] at z'; cases z'
        exact eltI (d := d) hlt hdr ev cr' er pins' s6 σ5 F6 H6 I6 (k5.ext x6) (x5.t x6) (x6.sh _ _ h5) f6 n5 (rv5.mono x6.sf) back
    | @skip d ds0 rs0 ρ0 ρ1 c g hc et cr' =>
      obtain ⟨hd, hdr, hlt⟩ := aDH e1
      subst hc
      refine stepI (rest' := ds0) hd g fun pins' s5 σ5 F5 H5 I5 k5 x5 h5 f5 n5 rv5 back => ?_
      have tt := et B F5 H5 σ5 (fun b H6 => b = false /\ ∃ F6, Ext ⟨F5, H5⟩ F6 H6) (by rw [eK]; exact k5) (fun F6 H6 x6 => ⟨rfl, F6, x6⟩) pins' s5 I5
      rw [eP, eW, eA, eEnv, eX] at tt
      refine wpAny_tests_one (thn tt fun b s6 ⟨H6, I6, eb, F6, x6⟩ => ?_)
      subst eb
      rw [if_neg Bool.false_ne_true]
      have f6 : F6 DD = none := by
        cases q : F6 DD with
        | none => rfl
        | some w =>
          rcases x6.nw DD (by rw [q]; exact fun z => nomatch z) with z | z
          . exact absurd f5 z
          . have z' : H5 DD = none := z
            rw [h5] at z'; cases z'
      obtain ⟨I8, t8, f8⟩ := back s6 σ5 _ I6
      exact ⟨ds.length + 1 - (i + 1), by omega, i + 1, σ5, F6, H6, ρ1, vs, r0, _, I8, t8, f8, k5.ext x6, x5.t x6, x6.sh _ _ h5, f6, n5, rv5.mono x6.sf, by rw [hdr]; exact cr', er, by omega, hlt, rfl⟩
  exact codeAny_compStart_list (loop _ rfl) (T.self _ 0 _ _ _ tn4 (loop _ rfl))
theorem aKL {E : Value -> Shared -> Prop} {cl : List (Str × Addr)} (t : At0 X N sc) (md : X.calm = true \/ (J.hot /\ HotH X.A H2)) (S : CScope N sc N' scope) (I2 : Inv X pins σ H2 s2) (T : Turn X.prog X.w X.K tg J fp it tn) (t0 : tn 0 s2.heap) (fo2 : ∀ b ∈ fp, FpOk X pins H2 b)
    (k2 : Ok X.K B F2 H2 σ ρ) (JO : ItOk X.K J F2 ds) (hz : ds.length < sizeLine)
    (hc1 : ∀ n c, cl.lookup n = some c -> X.env.cells.lookup n = some c) (hc2 : ∀ n, (n, NameKind.free) ∈ scope.names -> ∃ c, cl.lookup n = some c)
    (run : ∀ X', CompX0 X X' N' (relS scope sc) (ownS scope) -> CRun X' tg elt ifs ds (ρ ++ List.replicate (N'.length - N.length) .un) rs)
    {RR : Value -> Addr -> Result -> Shared -> Prop} (hRR : ∀ D' C s', CEnd X pins σ F2 H2 rs D' C s' -> RR (.ref D') C (.ok .next) s') :
    wpAny (model X.prog X.w) X.A (newList []) (fun acc s₃ => wpAny (model X.prog X.w) X.A (newFunctionEnv scope X.env.globals cl [] X.env.qual none .none (some X.env)) (fun cenv s₄ =>
      codeAny (model X.prog X.w) X.A (.compStart (.ListComp elt [⟨tg, iter, ifs, 0⟩] scope pos) 0 (.ref it) acc { cenv with scope := relabel scope X.env }) (RR acc cenv.locals) s₄) E s₃) E s2 := by
  have hclb : ∀ m c, cl.lookup m = some c -> c < (s2.heap.push { cls := .type "list", data := .seq ([] : List Value).toArray }).objs.size := fun m c e => by
    obtain ⟨v, q⟩ := I2.cell m c (hc1 m c e)
    rw [Heap.size_push]; exact Nat.lt_succ_of_lt q.lt
  refine wpAny_newObj_type (aNW hclb fun cl' h₁ kp₁ hns₁ CN => ?_)
  have I3 : Inv X pins σ (upd H2 s2.heap.objs.size (.lst [])) { s2 with heap := s2.heap.push { cls := .type "list", data := .seq ([] : List Value).toArray } } := I2.lnew (t' := s2.toks) (ys := []) .nil (Nat.zero_le _)
  have hD0 : H2 s2.heap.objs.size = none := I2.hok.fresh (Nat.le_refl _)
  have hsz : (s2.heap.push { cls := .type "list", data := .seq ([] : List Value).toArray }).objs.size = s2.heap.objs.size + 1 := by rw [Heap.size_push]
  have tfp : ∀ b ∈ fp, b < s2.heap.objs.size := fun b hb => by
    obtain ⟨o, e, _⟩ := T.obj 0 _ t0 b hb
    exact Heap.lt_size e
  refine aVL (s3 := { s2 with heap := s2.heap.push { cls := .type "list", data := .seq ([] : List Value).toArray } }) t md S rfl (by
    show s2.heap.objs.size ≠ (s2.heap.push { cls := .type "list", data := .seq ([] : List Value).toArray }).objs.size
    rw [hsz]; exact Nat.ne_of_lt (Nat.lt_succ_self _)) I3 hD0 (fun b hb => ?_) (fun b hb => ?_) T (T.keep 0 _ _ t0 fun b hb o e => Heap.get?_push_of_some _ e) hns₁ kp₁ k2 JO hz hc1 hc2 CN run hRR
  . obtain ⟨f0, f1⟩ := fo2 b hb
    exact ⟨by rw [yQ (Nat.ne_of_lt (tfp b hb))]; exact f0, f1⟩
  . show b < (s2.heap.push { cls := .type "list", data := .seq ([] : List Value).toArray }).objs.size
    rw [hsz]; exact Nat.lt_succ_of_lt (tfp b hb)
end
end L2.EV
namespace L2.EV
open PySem PySem.Spec PyProof.Rows
section
variable {X : Cx} {N : List Str} {sc scope : Scope} {ρ : Rho} {tg elt iter : Expr} {ifs : List Expr} {pos : Pos} {ds rs : List D}
theorem aON (t : At0 X N sc) {N' : List Str} (S : CScope N sc N' scope) {pins : List (Addr × Obj)} {σ : St} {H : Hp} {s : Shared} (I : Inv X pins σ H s) :
    ∃ cl : List (Str × Addr), closureFor scope X.env = pure cl /\ (∀ n c, cl.lookup n = some c -> X.env.cells.lookup n = some c) /\ (∀ n, (n, NameKind.free) ∈ scope.names -> ∃ c, cl.lookup n = some c) :=
  aRP fun n hn => I.ok.has n (.inl (by show X.env.scope.names.lookup n = _; rw [t.eS]; exact S.free _ hn rfl))
theorem vC (t : At X N sc) (N' : List Str) (S : CScope N sc N' scope) (hi : EvI X ρ tg iter ds) (hz : ds.length < sizeLine) (run : ∀ X', CompX X X' N' (relS scope sc) (ownS scope) -> CRun X' tg elt ifs ds (ρ ++ List.replicate (N'.length - N.length) .un) rs)
    (hs : ∀ x, foldedSetIterable iter X.env x = pure x := by intro _; rfl) : EvN X ρ (.ListComp elt [⟨tg, iter, ifs, 0⟩] scope pos) rs := fun B F H σ Q k q pins s I => by
  obtain ⟨cl, e1, e2, e3⟩ := aON t.z S I
  rw [eval_ListComp]
  have h1 := hi B F H σ (fun J H1 => ∃ F1, Ext ⟨F, H⟩ F1 H1 /\ ItOk X.K J F1 ds) k (fun J F' H' x j => ⟨F', x, j⟩) pins s I
  refine wpAny_comprehension_free (use := none) rfl hs e1 S.kind S.names (thn h1 fun v s1 h => thn h fun itv s2 h2 => ?_)
  obtain ⟨it, fp, tn, J, H', e, I2, T, t0, fo, F1, x1, JO⟩ := h2
  subst e
  refine aKL (RR := fun acc C => compPost (model X.prog X.w) X.A X.xe none (EP X pins σ Q) acc C) t.z (.inl t.calm) S I2 T t0 fo (k.ext x1) JO hz e2 e3 (fun X' c0 => run X' (c0.calm t.calm)) ?_
  rintro D' C s' ⟨F', H'', vs, m, IX, hm, h0, hL, hs0, hcl, hpn, x', hd0, hd, hf, rv, hDC⟩
  refine ⟨m, hm, fun h'' sb => ?_⟩
  have IX' : Inv X pins σ H'' { s' with heap := h'' } := IX.turned (t' := s'.toks) (it := C) (fun b o hb e => sb.extBut b o hb e) h0 hL (.inr hs0) hcl hpn
  exact ⟨.ref D', H'', IX', rfl, q D' vs F' H'' (x1.t x') (x1.sh.free hd0) hd hf rv⟩
def EvIh (X : Cx) (ρ : Rho) (tg e : Expr) (ds : List D) : Prop := ∀ (B : B0) (F H : Hp) (σ : St) (R : It -> Hp -> Prop), Ok X.K B F H σ ρ ->
  (∀ J F' H', J.hot -> Ext ⟨F, H⟩ F' H' -> ItOk X.K J F' ds -> R J H') -> wI X tg e σ H R
theorem eBA (t : At0 X N sc) (N' : List Str) (S : CScope N sc N' scope) (hot : ∀ {pins : List (Addr × Obj)} {σ : St} {H : Hp} {s : Shared}, Inv X pins σ H s -> HotH X.A H) (hi : EvIh X ρ tg iter ds) (hz : ds.length < sizeLine) (run : ∀ X', CompX0 X X' N' (relS scope sc) (ownS scope) -> CRun X' tg elt ifs ds (ρ ++ List.replicate (N'.length - N.length) .un) rs)
    (hs : ∀ x, foldedSetIterable iter X.env x = pure x := by intro _; rfl) : EvN X ρ (.ListComp elt [⟨tg, iter, ifs, 0⟩] scope pos) rs := fun B F H σ Q k q pins s I => by
  obtain ⟨cl, e1, e2, e3⟩ := aON t S I
  rw [eval_ListComp]
  have h1 := hi B F H σ (fun J H1 => J.hot /\ ∃ F1, Ext ⟨F, H⟩ F1 H1 /\ ItOk X.K J F1 ds) k (fun J F' H' hj x j => ⟨hj, F', x, j⟩) pins s I
  refine wpAny_comprehension_free (use := none) rfl hs e1 S.kind S.names (thn h1 fun v s1 h => thn h fun itv s2 h2 => ?_)
  obtain ⟨it, fp, tn, J, H', e, I2, T, t0, fo, hJ, F1, x1, JO⟩ := h2
  subst e
  refine aKL (RR := fun acc C => compPost (model X.prog X.w) X.A X.xe none (EP X pins σ Q) acc C) t (.inr ⟨hJ, hot I2⟩) S I2 T t0 fo (k.ext x1) JO hz e2 e3 run ?_
  rintro D' C s' ⟨F', H'', vs, m, IX, hm, h0, hL, hs0, hcl, hpn, x', hd0, hd, hf, rv, hDC⟩
  refine ⟨m, hm, fun h'' sb => ?_⟩
  have IX' : Inv X pins σ H'' { s' with heap := h'' } := IX.turned (t' := s'.toks) (it := C) (fun b o hb e => sb.extBut b o hb e) h0 hL (.inr hs0) hcl hpn
  exact ⟨.ref D', H'', IX', rfl, q D' vs F' H'' (x1.t x') (x1.sh.free hd0) hd hf rv⟩
theorem aBH [FnT X] (t : At X N sc) (i : Nat) (N' : List Str) (S : CScope N sc N' scope) {y : Str} {py spos : Pos} (hi : EvI X ρ tg iter ds) (hz : ds.length < sizeLine) (run : ∀ X', CompX X X' N' (relS scope sc) (ownS scope) -> CRun X' tg elt ifs ds (ρ ++ List.replicate (N'.length - N.length) .un) rs)
    (hsw : swapsWith (.ListComp elt [⟨tg, iter, ifs, 0⟩] scope pos) (some (.Name y py)) spos.line (dE sc) = pure true := by rfl)
    (hN : N[i]? = some y := by rfl) (hy : LocS sc y = true := by rfl)
    (hs : ∀ x, foldedSetIterable iter X.env x = pure x := by intro _; rfl) : EvS X ρ (.Assign [.Name y py] (.ListComp elt [⟨tg, iter, ifs, 0⟩] scope pos) spos) (.nx (ρ.set i (.own rs))) := fun B F H σ E k q pins s I => by
  obtain ⟨cl, e1, e2, e3⟩ := aON t.z S I
  rw [exec_Assign_Name_used _ _ _ _ ((eBJ (show X.env.scope = (dE sc).scope from t.eS)).trans hsw)]
  refine wpAny_bind (wpAny_standAt (wpAny_bind ?_))
  show wpAny _ X.A (do let _ <- comprehension (.ListComp elt [⟨tg, iter, ifs, 0⟩] scope pos) scope X.env _ (newList []) false (eval iter X.env) (some (assign (.Name y py) X.env))) _ _ s
  have h1 := hi B F H σ (fun J H1 => ∃ F1, Ext ⟨F, H⟩ F1 H1 /\ ItOk X.K J F1 ds) k (fun J F' H' x j => ⟨F', x, j⟩) pins s I
  refine wpAny_bind (wpAny_mono (wpAny_comprehension_free (use := some (assign (.Name y py) X.env)) (Q := fun _ s' => SP X pins E .next s') rfl hs e1 S.kind S.names (thn h1 fun v s1 h => thn h fun itv s2 h2 => ?_)) (fun _ s' hq => wpAny_pure (wpAny_pure hq)) fun _ _ e => e)
  obtain ⟨it, fp, tn, J, H', e, I2, T, t0, fo, F1, x1, JO⟩ := h2
  subst e
  refine aKL (RR := fun acc C => compPost (model X.prog X.w) X.A X.xe (some (assign (.Name y py) X.env)) (fun _ s' => SP X pins E .next s') acc C) t.z (.inl t.calm) S I2 T t0 fo (k.ext x1) JO hz e2 e3 (fun X' c0 => run X' (c0.calm t.calm)) ?_
  rintro D' C s' ⟨F', H'', vs, m, IX, hm, h0, hL, hs0, hcl, hpn, x', hd0, hd, hf, rv, hDC⟩
  show wpAny _ X.A (assign (.Name y py) X.env (.ref D')) _ _ s'
  refine wpAny_assign_Name (aKY (v := .ref D') IX t.nd (t.ix hN) (t.loc hy) rfl (fun s'' I'' hsame => ?_) hfT)
  obtain ⟨a, sb, ha⟩ := hsame
  have hCa : C ≠ a := by
    rcases ha with z | z
    . rw [z]; exact hL
    . exact Ne.symm (hcl y a z)
  refine ⟨m, hm.sameBut sb hCa, fun h'' sb' => ?_⟩
  have I3 : Inv X pins (σ.set i (some (.ref D'))) H'' { s'' with heap := h'' } := I''.turned (t' := s''.toks) (it := C) (fun b o hb e => sb'.extBut b o hb e) h0 hL (.inr hs0) hcl hpn
  have k1 := k.ext (x1.t x')
  have hH : H D' = none := x1.sh.free hd0
  exact ⟨_, H'', I3, q F' H'' _ (k1.setOwn i hd hf (k.sh.free hH) (k.noOwn hH) rv) (x1.t x').sf⟩
theorem CRun.all {X : Cx} {tg elt : Expr} (R : D -> Rho) (f : D -> D) : ∀ (ds : List D) (ρ : Rho), (∀ d ∈ ds, EvGn X ρ tg d (R d)) -> (∀ d ∈ ds, ∀ e ∈ ds, EvGn X (R d) tg e (R e)) -> (∀ d ∈ ds, EvE X (R d) elt (f d)) -> CRun X tg elt [] ds ρ (ds.map f)
  | [], _, _, _, _ => .nil
  | d :: ds, ρ, h1, h2, h3 => .take (h1 d List.mem_cons_self) (.inl rfl) (h3 d List.mem_cons_self)
      (CRun.all R f ds (R d) (fun e he => h2 d List.mem_cons_self e (List.mem_cons_of_mem _ he)) (fun a ha e he => h2 a (List.mem_cons_of_mem _ ha) e (List.mem_cons_of_mem _ he)) fun e he => h3 e (List.mem_cons_of_mem _ he))
end
end L2.EV
namespace L2.EV
open PySem PySem.Spec PyProof.Rows
def cscB (N : List Str) (sc : Scope) (N' : List Str) (scope : Scope) : Bool :=
  decide (scope.kind = .function) && scope.names.all (fun y => decide (y.2 = .cell -> scope.names.lookup y.1 = some .cell)) && scope.names.all (fun y => decide (y.2 = .local -> scope.names.lookup y.1 = some .local)) &&
    scope.names.all (fun y => decide (y.2 = .free -> sc.names.lookup y.1 = some .cell)) && decide (sc.kind = .function) && decide N'.Nodup &&
    (List.range N.length).all (fun i => match N'[i]? with
      | some x => !(VisS (relS scope sc) x) || (decide (N[i]? = some x) && decide (scope.names.lookup x = some .free))
      | none => true) && decide (N.length <= N'.length)
theorem csc {N N' : List Str} {sc scope : Scope} (h : cscB N sc N' scope = true) : CScope N sc N' scope := by
  unfold cscB at h
  simp only [Bool.and_eq_true, decide_eq_true_eq, List.all_eq_true] at h
  obtain ⟨⟨⟨⟨⟨⟨⟨h1, h2⟩, h3⟩, h4⟩, h5⟩, h6⟩, h7⟩, h8⟩ := h
  refine ⟨h1, h2, h3, h4, h5, h6, fun i x hi hx hv => ?_, h8⟩
  have q := h7 i (List.mem_range.mpr hi)
  rw [hx] at q
  simp only [hv, Bool.not_true, Bool.false_or, Bool.and_eq_true, decide_eq_true_eq] at q
  exact q
theorem yN {X : Cx} {sc : Scope} {x : Str} {u : Value} (hm : X.mg x = none) (g : sc.names.lookup x = some .globalImplicit := by rfl) (v : bootBuiltins x = some u := by rfl) (n : x ≠ "__name__" := by decide) (d : (x == ("__debug__" : Str)) = false := by rfl) : Blt X sc x u := ⟨g, hm, v, n, d⟩
abbrev rowD (f : List Int) : D := .tup (f.map D.int)
abbrev intsD (f : List Int) : D := .lst (f.map D.int)
theorem aEG {xs : List Int} {i : Int} {n : Nat} (h0 : 0 <= i) (hn : i.toNat = n) (h : n < xs.length) : atI (xs.map D.int) i = some (.int xs[n]) := by
  have e : i = ((n : Nat) : Int) := by omega
  subst e
  exact aVY (by rw [List.getElem?_map, List.getElem?_eq_getElem h]; rfl)
theorem aGI {n : Nat} {i : Int} {j : Nat} (h0 : 0 <= i) (hn : i.toNat = j) (h : j < n) : ixN n i = some j := by
  unfold ixN
  rw [if_pos h0, if_pos (by omega), hn]
theorem aQF (xs ys : List Int) : PyData.eqvAll (xs.map PyData.int) (ys.map PyData.int) = decide (xs = ys) := by
  induction xs generalizing ys with
  | nil => cases ys <;> simp [PyData.eqvAll]
  | cons x xs ih =>
    cases ys with
    | nil => simp [PyData.eqvAll]
    | cons y ys =>
      simp only [List.map_cons, PyData.eqvAll, PyData.eqv, ih]
      by_cases h1 : x = y <;> by_cases h2 : xs = ys <;> simp [h1, h2]
theorem jS (xs ys : List Int) : (toP (rowD xs)).eqv (toP (rowD ys)) = decide (xs = ys) := by
  show (PyData.tuple (toPs (xs.map D.int))).eqv (.tuple (toPs (ys.map D.int))) = _
  rw [wB, wB]
  simp only [PyData.eqv]
  exact aQF xs ys
theorem aOI (xs ys : List Int) : (PyData.list (toPs (xs.map D.int))).eqv (.list (toPs (ys.map D.int))) = decide (xs = ys) := by
  rw [wB, wB]
  simp only [PyData.eqv]
  exact aQF xs ys
theorem aOO (xs : List Int) : PyData.canLayAll0 (xs.map PyData.int) = true := PySem.W.canLayAll0_ints xs
theorem yI (xs : List Int) : SeqAt.shaped (toP (rowD xs)) = true := by
  show SeqAt.shaped (.tuple (toPs (xs.map D.int))) = true
  rw [wB]
  have h1 := PySem.W.depthAll_ints xs
  have h2 : PyData.depth (.tuple (xs.map PyData.int)) <= 64 := by simp only [PyData.depth]; omega
  show (PyData.canLay0 (.tuple (xs.map PyData.int)) && decide (PyData.depth (.tuple (xs.map PyData.int)) <= 64)) = true
  rw [Bool.and_eq_true]
  exact ⟨by simp only [PyData.canLay0]; exact aOO xs, decide_eq_true h2⟩
theorem vY (xs : List Int) : SeqAt.shaped (PyData.list (toPs (xs.map D.int))) = true := by
  rw [wB]; exact PySem.W.shaped_ints xs
end L2.EV
namespace L2.EV
open PySem PySem.Spec PyProof.Rows
inductive Weak : Rho -> Rho -> Prop where
  | nil : Weak [] []
  | keep {s : Sl} {a b : Rho} : Weak a b -> Weak (s :: a) (s :: b)
  | forget {s : Sl} {a b : Rho} : Weak a b -> Weak (s :: a) (.un :: b)
theorem Weak.len : ∀ {a b : Rho}, Weak a b -> a.length = b.length
  | _, _, .nil => rfl
  | _, _, .keep h => congrArg Nat.succ h.len
  | _, _, .forget h => congrArg Nat.succ h.len
theorem Weak.get : ∀ {a b : Rho}, Weak a b -> ∀ (i : Nat) (s : Sl), b[i]? = some s -> s ≠ .un -> a[i]? = some s
  | _, _, .nil, _, _, h, _ => by simp at h
  | _, _, .keep h, 0, s, e, _ => by simpa using e
  | _, _, .keep h, i + 1, s, e, hn => by simpa using h.get i s (by simpa using e) hn
  | _, _, .forget h, 0, s, e, hn => by simp at e; exact absurd e.symm hn
  | _, _, .forget h, i + 1, s, e, hn => by simpa using h.get i s (by simpa using e) hn
theorem Ok.weak {K : PySem.W.Frag} {B : B0} {F H : Hp} {σ : St} {a b : Rho} (k : Ok K B F H σ a) (w : Weak a b) : Ok K B F H σ b :=
  ⟨k.toExt, k.len.trans w.len, fun i d h => k.vals i d (w.get i _ h fun z => nomatch z), fun i xs h => k.owns i xs (w.get i _ h fun z => nomatch z), fun i j xs ys p h1 h2 => k.dist i j xs ys p (w.get i _ h1 fun z => nomatch z) (w.get j _ h2 fun z => nomatch z), k.dic.to (.refl _) (fun _ _ e1 e2 _ => ⟨e1, e2⟩) fun i kvs h => ⟨w.get i _ h (fun z => nomatch z), rfl⟩⟩
section
variable {X : Cx} {ρ ρ1 ρ2 : Rho} {sts : List Stmt} {o : Out}
theorem EvSs.weak (h : EvSs X ρ sts (.nx ρ1)) (w : Weak ρ1 ρ2) : EvSs X ρ sts (.nx ρ2) := fun B F H σ E k q => h B F H σ E k fun F' H' σ' k' s' => q F' H' σ' (k'.weak w) s'
end
section
variable {X : Cx} {ρ : Rho} {e : Expr}
theorem EvT.eq {b b' : Bool} (h : EvT X ρ e b) (q : b = b') : EvT X ρ e b' := q ▸ h
theorem EvE.eq {d d' : D} (h : EvE X ρ e d) (q : d = d') : EvE X ρ e d' := q ▸ h
theorem EvN.eq {d d' : List D} (h : EvN X ρ e d) (q : d = d') : EvN X ρ e d' := q ▸ h
theorem EvQ.eq {k : Bool} {d d' : List D} (h : EvQ X ρ e k d) (q : d = d') : EvQ X ρ e k d' := q ▸ h
theorem EvI.eq {tg : Expr} {d d' : List D} (h : EvI X ρ tg e d) (q : d = d') : EvI X ρ tg e d' := q ▸ h
theorem EvSs.eq {sts : List Stmt} {o o' : Out} (h : EvSs X ρ sts o) (q : o = o') : EvSs X ρ sts o' := q ▸ h
theorem EvS.eq {st : Stmt} {o o' : Out} (h : EvS X ρ st o) (q : o = o') : EvS X ρ st o' := q ▸ h
end
theorem FRun.same {X : Cx} {tg : Expr} {body : List Stmt} (ρ : Rho) : ∀ (ds : List D), (∀ d ∈ ds, ∃ ρ1, EvG X ρ tg d ρ1 /\ EvSs X ρ1 body (.nx ρ)) -> FRun X tg body ds ρ (.nx ρ)
  | [], _ => .nil
  | d :: ds, h => by
    obtain ⟨ρ1, h1, h2⟩ := h d List.mem_cons_self
    exact .cons h1 h2 (FRun.same ρ ds fun e he => h e (List.mem_cons_of_mem _ he))
theorem FRun.upto {X : Cx} {tg : Expr} {body : List Stmt} {ds : List D} (R : Nat -> Rho) (h : ∀ (j : Nat) d, ds[j]? = some d -> ∃ ρ1, EvG X (R j) tg d ρ1 /\ EvSs X ρ1 body (.nx (R (j + 1)))) : FRun X tg body ds (R 0) (.nx (R ds.length)) := by
  have q := FRun.of (X := X) (tg := tg) body R ds 0 fun j d e => by
    obtain ⟨ρ1, h1, h2⟩ := h j d e
    exact ⟨ρ1, by simpa using h1, by simpa using h2⟩
  simpa using q
theorem FRun.uptoE {X : Cx} {tg : Expr} {body : List Stmt} {ds : List D} {ρ ρ' : Rho} (R : Nat -> Rho) (h : ∀ (j : Nat) d, ds[j]? = some d -> ∃ ρ1, EvG X (R j) tg d ρ1 /\ EvSs X ρ1 body (.nx (R (j + 1)))) (e0 : R 0 = ρ) (e1 : R ds.length = ρ') : FRun X tg body ds ρ (.nx ρ') := by
  subst e0; subst e1; exact FRun.upto R h
theorem aKF {X : Cx} {c : Expr} {body : List Stmt} (R : Nat -> Nat -> Rho) (h1 : ∀ a b : Nat, EvT X (R a b) c (decide (0 < b))) (h2 : ∀ a b : Nat, 0 < b -> EvSs X (R a b) body (.nx (R b (a % b)))) :
    ∀ (n a b : Nat), b <= n -> ∃ m, WRun X c body m (R a b) (.nx (R (Nat.gcd a b) 0))
  | n, a, 0, _ => ⟨0, by
      rw [Nat.gcd_zero_right]
      exact .stop (by have := h1 a 0; simpa using this)⟩
  | 0, a, b + 1, h => by omega
  | n + 1, a, b + 1, h => by
    obtain ⟨m, q⟩ := aKF R h1 h2 n (b + 1) (a % (b + 1)) (by have := Nat.mod_lt a (show 0 < b + 1 by omega); omega)
    refine ⟨m + 1, .step (by have := h1 a (b + 1); simpa using this) (h2 a (b + 1) (Nat.succ_pos b)) ?_⟩
    have e : Nat.gcd a (b + 1) = Nat.gcd (b + 1) (a % (b + 1)) := by
      rw [Nat.gcd_comm a (b + 1), Nat.gcd_rec (b + 1) a, Nat.gcd_comm]
    rw [e]; exact q
theorem aBJ {i j : Int} (h1 : -(2 ^ 64) < j) (h2 : j < 2 ^ 64) : IntMulOk i j := .of_right (intBits_le_64 h1 h2)
theorem qO {i j : Int} (h1 : -(2 ^ 64) < i) (h2 : i < 2 ^ 64) : IntMulOk i j := .of_left (intBits_le_64 h1 h2)
def cutI (xs : List Int) (lo hi : Option Int) : List Int := (xs.drop (HT.sIx xs.length 0 lo)).take (HT.sIx xs.length xs.length hi - HT.sIx xs.length 0 lo)
theorem vL (xs : List Int) (lo hi : Option Int) : cutD (xs.map D.int) lo hi = (cutI xs lo hi).map D.int := by
  unfold cutD cutI
  rw [List.length_map, List.map_take, List.map_drop]
theorem aEZ (xs : List Int) (lo hi : Option Int) : (cutI xs lo hi).length <= xs.length := by
  unfold cutI
  rw [List.length_take, List.length_drop]
  omega
theorem aJE (k : Nat) (n : Int) : (List.replicate k [D.int n]).flatten = (List.replicate k n).map D.int := by
  induction k with
  | zero => rfl
  | succ k ih => rw [List.replicate_succ, List.flatten_cons, ih, List.replicate_succ, List.map_cons]; rfl
theorem CRun.gen {X : Cx} {tg elt : Expr} {α : Type} (g f : α -> D) (R : α -> Rho) : ∀ (xs : List α) (ρ : Rho), (∀ x ∈ xs, EvGn X ρ tg (g x) (R x)) -> (∀ x ∈ xs, ∀ y ∈ xs, EvGn X (R x) tg (g y) (R y)) -> (∀ x ∈ xs, EvE X (R x) elt (f x)) -> CRun X tg elt [] (xs.map g) ρ (xs.map f)
  | [], _, _, _, _ => .nil
  | x :: xs, ρ, h1, h2, h3 => .take (h1 x List.mem_cons_self) (.inl rfl) (h3 x List.mem_cons_self)
      (CRun.gen g f R xs (R x) (fun e he => h2 x List.mem_cons_self e (List.mem_cons_of_mem _ he)) (fun a ha e he => h2 a (List.mem_cons_of_mem _ ha) e (List.mem_cons_of_mem _ he)) fun e he => h3 e (List.mem_cons_of_mem _ he))
theorem CRun.ints {X : Cx} {tg elt : Expr} {xs : List Int} {ρ : Rho} (f : Int -> Int) (R : Int -> Rho) (h1 : ∀ x ∈ xs, EvGn X ρ tg (.int x) (R x)) (h2 : ∀ x ∈ xs, ∀ y ∈ xs, EvGn X (R x) tg (.int y) (R y)) (h3 : ∀ x ∈ xs, EvE X (R x) elt (.int (f x))) :
    CRun X tg elt [] (xs.map D.int) ρ ((xs.map f).map D.int) := by
  rw [List.map_map]
  exact CRun.gen D.int (fun x => .int (f x)) R xs ρ h1 h2 h3
theorem eAW {xs : List Int} {i : Int} (h0 : 0 <= i) (h : i.toNat < xs.length) : atI (xs.map D.int) i = some (.int (xs.getD i.toNat 0)) := by
  rw [aEG h0 rfl h, List.getD_eq_getElem?_getD, List.getElem?_eq_getElem h]; rfl
theorem lineN : (sizeLine : Nat) = 16777216 := sizeLine_eq
end L2.EV
namespace L2.EV
open PySem PySem.Spec PyProof.Rows
open AutoSeq1 (wpAny_loadPart')
section
variable {prog : Program} {w : World} {A : Around} {E : Value -> Shared -> Prop} {s : Shared}
theorem aGC {it t : Addr} {i : Nat} {items : Array Value} {x : Value} {Q : Value -> Shared -> Prop} (hit : s.heap.IsTupleIter it t i) (ht : s.heap.IsTuple t items) (hx : items[i]? = some x)
    (hQ : ∀ h', h'.IsTupleIter it t (i + 1) -> Heap.SameBut it s.heap h' -> Q x { s with heap := h' }) : wpAny (model prog w) A (Builtin.SmallTypes.nextOf (.ref it)) Q E s := by
  obtain ⟨o, ho, hc, hd⟩ := id hit
  obtain ⟨ol, hol, _, nl, hdl⟩ := ht
  unfold Builtin.SmallTypes.nextOf
  refine wpAny_bind (wpAny_callSpecial?_slot (name := Str.ofString "__next__") hit.typeIs F.slot_tuple_iterator_next (wpAny_call_entry F.slot_tuple_iterator_next hit.typeIs F.entry_tuple_iterator_next ?_ (F.args_tuple_iterator_next_1 _)))
  show wpAny _ _ (field (.ref it) 0 >>= _) _ _ s
  refine wpAny_bind (wpAny_field ho hd (x := .ref t) rfl ?_)
  show wpAny _ _ (if (Value.ref t == Value.none) = true then _ else _) _ _ s
  rw [if_neg (show ¬ ((Value.ref t == Value.none) = true) from Bool.false_ne_true)]
  show wpAny _ _ (field (.ref it) 1 >>= _) _ _ s
  refine wpAny_bind (wpAny_field ho hd (x := .int i 0) rfl ?_)
  show wpAny _ _ (seqItems? (.ref t) >>= _) _ _ s
  refine wpAny_bind (wpAny_seqItems hol hdl ?_)
  simp only [Int.toNat_natCast, hx]
  refine wpAny_bind (wpAny_setField ho hd (by simp) (wpAny_pure ⟨x, rfl, wpAny_pure (hQ _ ?_ (Heap.SameBut.update ..))⟩))
  exact ⟨_, Heap.get?_update_self _ ho (Obj.isFreed_of_fields (Obj.data_mapFields hd _)), (Obj.cls_mapFields ..).trans hc, by rw [Obj.data_mapFields hd]; simp [rawInt]⟩
theorem aBY {it t : Addr} {i : Nat} {items : Array Value} {Q : Value -> Shared -> Prop} (hh : A.handled = none) (hit : s.heap.IsTupleIter it t i) (ht : s.heap.IsTuple t items) (hx : items[i]? = none)
    (hE : ∀ h' e, Heap.ExtBut it s.heap h' -> (∃ o, h'.get? e = some o /\ o.cls = .type "StopIteration") -> E (.ref e) { s with heap := h' }) : wpAny (model prog w) A (Builtin.SmallTypes.nextOf (.ref it)) Q E s := by
  obtain ⟨o, ho, hc, hd⟩ := id hit
  obtain ⟨ol, hol, _, nl, hdl⟩ := ht
  unfold Builtin.SmallTypes.nextOf
  refine wpAny_bind (wpAny_callSpecial?_slot (name := Str.ofString "__next__") hit.typeIs F.slot_tuple_iterator_next (wpAny_call_entry F.slot_tuple_iterator_next hit.typeIs F.entry_tuple_iterator_next ?_ (F.args_tuple_iterator_next_1 _)))
  show wpAny _ _ (field (.ref it) 0 >>= _) _ _ s
  refine wpAny_bind (wpAny_field ho hd (x := .ref t) rfl ?_)
  show wpAny _ _ (if (Value.ref t == Value.none) = true then _ else _) _ _ s
  rw [if_neg (show ¬ ((Value.ref t == Value.none) = true) from Bool.false_ne_true)]
  show wpAny _ _ (field (.ref it) 1 >>= _) _ _ s
  refine wpAny_bind (wpAny_field ho hd (x := .int i 0) rfl ?_)
  show wpAny _ _ (seqItems? (.ref t) >>= _) _ _ s
  refine wpAny_bind (wpAny_seqItems hol hdl ?_)
  simp only [Int.toNat_natCast, hx]
  refine wpAny_bind (wpAny_rule (wpAny_bind (wpAny_setField ho hd (by simp) ?_)))
  show wpAny _ _ (newExc (.type "StopIteration") [] >>= _) _ _ _
  refine wpAny_bind ?_
  simp only [newExc, newTuple]
  refine wpAny_bind (wpAny_newObj_type ?_ (by size_fits))
  refine wpAny_bind (m := firstArgMember _ _) (wpAny_of_eq (a := Value.none) (by first | rfl | (simp only [firstArgMember]; rfl)) ?_)
  refine wpAny_newObj_type ?_ (by size_fits)
  simp only [raiseNew]
  refine wpAny_bind (wpAny_handled ?_)
  first | rw [show A.in1.handled = none from hh] | rw [hh]
  refine wpAny_bind (wpAny_pure (wpAny_throw ?_))
  exact hE _ _ (((Heap.SameBut.update ..).extBut.push _).push _) ⟨_, Heap.get?_push_size _ rfl, rfl⟩
end
theorem aVD {prog : Program} {w : World} {A : Around} (hh : A.handled = none) (it t : Addr) (hne : t ≠ it) (items : Array Value) :
    Draws prog w A it [it, t] items.size (fun i v => items[i]? = some v) (fun i h => h.IsTupleIter it t i /\ h.IsTuple t items) where
  live := fun _ _ st => let ⟨o, ho, _⟩ := st.1; ⟨o, ho⟩
  frame := fun _ _ _ st hk => ⟨st.1.at fun o e => hk it (by simp) o e, let ⟨o, e, r⟩ := st.2; ⟨o, hk t (by simp) o e, r⟩⟩
  item := fun i s Q E hi st hQ => by
    refine aGC st.1 st.2 (x := items[i]) (by simp [hi]) fun h' hit' hs' => ?_
    exact hQ _ h' s.toks (by simp [hi]) ⟨hit', let ⟨o, e, r⟩ := st.2; ⟨o, hs'.extBut t o hne e, r⟩⟩ hs'
  done := fun s Q E st hE => aBY hh st.1 st.2 (by simp) hE
theorem aNY (l : Addr) (items : Array Value) (n : Nat) (dct : Option Addr) (sl : Array (Option Value)) :
    Meets (Builtin.«enumerate.__new__» ⟨[.type "enumerate", .ref l], []⟩) (fun _ R s => s.heap.get? l = some { cls := .type "tuple", dict := dct, data := .seq items n, slots := sl } /\
      R (.ok (.ret (.ref (s.heap.push { cls := .type "tuple_iterator", data := .fields #[.ref l, .int 0 0] }).objs.size)))
        { s with heap := (s.heap.push { cls := .type "tuple_iterator", data := .fields #[.ref l, .int 0 0] }).push { cls := .type "enumerate", data := .fields #[.none, .bool false, .ref s.heap.objs.size, rawInt 0, .none, .none] } }) :=
  .of_wp fun prog w A R s h => by
    obtain ⟨hp, g, d, tk, os⟩ := s; obtain ⟨hl, h⟩ := h
    have hsub := sub_enumerate
    have hL : Heap.IsTuple (Shared.heap ⟨hp, g, d, tk, os⟩) l items := ⟨_, hl, rfl, n, rfl⟩
    wp_walk using wpAny_loadPart' hl
    refine wpAny_stack_any fun st => wpAny_pure ?_
    split
    . rename_i c _ _ _ _ _
      cases (c == Value.type "enumerate")
      . wp_walk using wpAny_loadPart' hl, wpAny_pyIter_tuple hL
        exact ⟨_, rfl, h⟩
      . wp_walk using wpAny_loadPart' hl, wpAny_pyIter_tuple hL
        exact ⟨_, rfl, h⟩
    . wp_walk using wpAny_loadPart' hl, wpAny_pyIter_tuple hL
      exact ⟨_, rfl, h⟩
section
variable {prog : Program} {w : World} {A : Around} {E : Value -> Shared -> Prop} {s : Shared}
theorem aRQ {l : Addr} {items : Array Value} {Q : Value -> Shared -> Prop} (hL : s.heap.IsTuple l items)
    (h : ∀ h', IsEnum h' (s.heap.objs.size + 1) s.heap.objs.size 0 .none -> h'.IsTupleIter s.heap.objs.size l 0 -> h'.objs.size = s.heap.objs.size + 2 ->
      (∀ b o, s.heap.get? b = some o -> h'.get? b = some o) -> Q (.ref (s.heap.objs.size + 1)) { s with heap := h' }) : wpAny (model prog w) A (call (.type "enumerate") [.ref l]) Q E s := by
  obtain ⟨⟨c, dct, dt, sl⟩, hl, hc, n, hd⟩ := hL
  replace hc : c = .type "tuple" := hc
  replace hd : dt = .seq items n := hd
  subst hc hd
  refine callType_new F.called_enumerate (by decide) (F.typeCall_enumerate_1 _) (F.newCall_enumerate_1 _) (fun obj => F.args_object_init_2 obj _) F.entry_enumerate_new (aNY l items n dct sl) ⟨hl, ?_⟩
  have hz : (s.heap.push { cls := .type "tuple_iterator", data := .fields #[.ref l, .int 0 0] }).objs.size = s.heap.objs.size + 1 := Heap.size_push ..
  show _ /\ _
  rw [hz]
  have he : IsEnum ((s.heap.push { cls := .type "tuple_iterator", data := .fields #[.ref l, .int 0 0] }).push { cls := .type "enumerate", data := .fields #[.none, .bool false, .ref s.heap.objs.size, rawInt 0, .none, .none] }) (s.heap.objs.size + 1) s.heap.objs.size 0 .none := by
    have := Heap.get?_push_size (s.heap.push { cls := .type "tuple_iterator", data := .fields #[.ref l, .int 0 0] }) (o := { cls := .type "enumerate", data := .fields #[.none, .bool false, .ref s.heap.objs.size, rawInt 0, .none, .none] }) rfl
    rw [hz] at this; exact this
  refine ⟨⟨_, he, rfl⟩, h _ he ⟨_, Heap.get?_push_of_some _ (Heap.get?_push_size _ rfl), rfl, rfl⟩ (by rw [Heap.size_push, hz]) fun b o x => Heap.get?_push_of_some _ (Heap.get?_push_of_some _ x)⟩
end
def Ite (K : PySem.W.Frag) (a : Addr) : It :=
  ⟨fun i H => ∃ xs x, SqT K H a xs /\ xs[i]? = some x, fun i H x H' => ∃ p, H p = none /\ x = .ref p /\ ∀ xs, SqT K H a xs -> ∃ v, xs[i]? = some v /\ H' = upd H p (.tup [.int i, v]), fun i H => ∃ xs, SqT K H a xs /\ xs.length <= i, False⟩
section
variable {X : Cx}
theorem Inv.turn2 {pins : List (Addr × Obj)} {σ : St} {H : Hp} {s : Shared} {h' : Heap} {t' : Nat} {e it : Addr} (I : Inv X pins σ H s) (k : ∀ b o, b ≠ e -> b ≠ it -> s.heap.get? b = some o -> h'.get? b = some o) (fe : FpOk X pins H e) (fi : FpOk X pins H it) :
    Inv X pins σ H { s with heap := h', toks := t' } := by
  obtain ⟨e0, e1, e2, e3, e4, e5⟩ := fe
  obtain ⟨i0, i1, i2, i3, i4, i5⟩ := fi
  refine I.step (g' := s.gens) (d' := s.drawn) (ch := [e, it]) (fun b hb => ?_) (fun b o _ _ hc q _ => k b o (fun z => hc (by simp [z])) (fun z => hc (by simp [z])) q) (fun b o _ _ hc q _ => ⟨o.slots, k b o (fun z => hc (by simp [z])) (fun z => hc (by simp [z])) q⟩) (fun _ _ _ _ n => n)
    (fun b o hc q => ⟨o, k b o (fun z => hc (by simp [z])) (fun z => hc (by simp [z])) q⟩) (fun _ _ q => q) (fun _ _ _ q => q) (fun b ps q => ⟨#[], by rw [q]; simp⟩) (fun m hm => ?_) (fun b u q => ?_) I.bare
  . rcases List.mem_cons.mp hb with rfl | hb
    . exact ⟨e3, e1, e4, e5⟩
    . rw [List.mem_singleton.mp hb]; exact ⟨i3, i1, i4, i5⟩
  . obtain ⟨o, es, ep, ho, r⟩ := hm
    exact ⟨o, es, ep, k _ o (Ne.symm e1) (Ne.symm i1) ho, r⟩
  . have ne : ∀ c v, H c = some v -> c ≠ e /\ c ≠ it := fun c v q => ⟨(fun z => by rw [z, e0] at q; cases q), (fun z => by rw [z, i0] at q; cases q)⟩
    refine (I.hok b u q).stay (fun c v hc r => ?_) (fun _ r => r) fun _ _ r => r
    rcases hc with z | z
    . subst z; exact k c v (ne c _ q).1 (ne c _ q).2 r
    . exact k c v (ne c _ z).1 (ne c _ z).2 r
end
end L2.EV
namespace L2.EV
open PySem PySem.Spec PyProof.Rows
section
variable {X : Cx} {pins : List (Addr × Obj)} {σ : St} {H : Hp} {s : Shared}
theorem Inv.track {p : Addr} {o : HO} (I : Inv X pins σ H s) (hp : H p = none) (h1 : X.s₀.heap.objs.size <= p) (h2 : p ≠ X.env.locals) (h3 : ∀ x c, X.env.cells.lookup x = some c -> c ≠ p) (h4 : ∀ q ∈ X.pn ++ pins, q.1 ≠ p) (new : ObjOk X.prog X.w (upd H p o) s.heap p o) : Inv X pins σ (upd H p o) s := by
  have old : ∀ b ob, X.s₀.heap.get? b = some ob -> b ≠ p := fun b ob e => Nat.ne_of_lt (Nat.lt_of_lt_of_le (Heap.lt_size e) h1)
  refine ⟨I.ok, I.os, I.bare, ⟨I.base.keep, I.base.slot, fun b ob e n hx => by rw [yQ (old b ob e)]; exact I.base.free b ob e n hx, I.base.there, fun b xs e => ?_, fun b ob u e => ?_, fun b ps e => ?_⟩, I.loc, I.cell, by rw [yQ (Ne.symm h2)]; exact I.free, fun x c e => by rw [yQ (h3 x c e)]; exact I.freeC x c e, fun q hq => ?_, fun b u e => ?_, I.len⟩
  . have q := I.base.tups b xs e
    rw [yQ (zZ q hp)]; exact q
  . have q := I.base.frzs b ob u e
    rw [yQ (zZ q hp)]; exact q
  . obtain ⟨more, q⟩ := I.base.tbls b ps e
    exact ⟨more, by rw [yQ (zZ q hp)]; exact q⟩
  . obtain ⟨a, b, c⟩ := I.pin q hq
    exact ⟨a, by rw [yQ (h4 q hq)]; exact b, c⟩
  . by_cases hb : b = p
    . subst hb; rw [zA] at e; cases e; exact new
    . rw [yQ hb] at e
      exact (I.hok b u e).stay (fun _ _ _ q => q) (fun c q => by rw [yQ (zZ q hp)]; exact q) fun c xs q => by rw [yQ (zZ q hp)]; exact q
end
theorem aRZ {P : Program} {w : World} {K : PySem.W.Frag} {es : List Expr} {x1 : Nat} {pos : Pos} (a e it : Addr) (hne : e ≠ it) : Turn P w K (.Tuple es x1 pos) (Ite K a) [e, it] e (fun i h => (∃ old, IsEnum h e it i old) /\ h.IsTupleIter it a i) where
  mem := by simp
  obj := fun i h st b hb => by
    obtain ⟨⟨old, he⟩, o, ho, c, d⟩ := st
    rcases List.mem_cons.mp hb with rfl | hb
    . exact ⟨_, he, fun v z => by cases z⟩
    . rw [List.mem_singleton.mp hb]
      exact ⟨o, ho, fun v z => by rw [d] at z; cases z⟩
  keep := fun i h h' st k => by
    obtain ⟨⟨old, he⟩, hi⟩ := st
    exact ⟨⟨old, k e (by simp) _ he⟩, hi.at fun o q => k it (by simp) o q⟩
  item := by
    intro X hP hw hK hc i pins s σ H E I hf st hg
    subst hP hw hK
    replace hc := hc.resolve_right fun z => z.1
    obtain ⟨⟨old, he⟩, hit⟩ := st
    obtain ⟨xs, x, hq, hx⟩ := hg
    obtain ⟨its, rv, p, hz⟩ := I.tuple hq
    obtain ⟨u, hu, ru⟩ := rv.get hx
    have fe := hf e (by simp)
    have fi := hf it (by simp)
    have hlt : i < its.length := (List.getElem?_eq_some_iff.mp hu).1
    obtain ⟨oa, hoa, hca, na, hda⟩ := id p
    have hae : e ≠ a := fun z => by
      subst z
      rw [he] at hoa; cases hoa
      have z' : Value.type "enumerate" = Value.type "tuple" := hca
      injection z' with z2
      exact absurd z2 (by decide)
    have hai : a ≠ it := fun z => by
      subst z
      obtain ⟨oi, hoi, hci, _⟩ := hit
      rw [hoa] at hoi; cases hoi
      rw [hca] at hci
      injection hci with z2
      exact absurd z2 (by decide)
    have Dr := aVD (prog := X.prog) (w := X.w) (A := X.A.in1) (I.ok.hd hc) it a hai its.toArray
    refine wpAny_pyNext_enum_itemD Dr he ⟨hit, p⟩ (by simpa using hlt) hne (by simp [hae, hne]) fun y h' tk hy ho hst hT hsz hk => ?_
    have ey : y = u := by
      have : its[i]? = some y := by simpa using hy
      rw [hu] at this; exact (Option.some.inj this).symm
    subst ey
    refine ⟨_, rfl, wpAny_letOwnedTupleGo_enum ho fun h2 he2 sb => ?_⟩
    have hTe : s.heap.objs.size ≠ e := Nat.ne_of_gt (Heap.lt_size he)
    have hTi : s.heap.objs.size ≠ it := by
      obtain ⟨oi, hoi, _⟩ := id hit
      exact Nat.ne_of_gt (Heap.lt_size hoi)
    have sb' : Heap.SameBut e h' h2 := sb
    have kk : ∀ b o, b ≠ e -> b ≠ it -> s.heap.get? b = some o -> h2.get? b = some o := fun b o h1 h2' q => sb'.extBut b o h1 (hk b o h1 h2' q)
    have I1 : Inv X pins σ H { s with heap := h2, toks := tk + 1 } := Inv.turn2 I kk fe fi
    have hp0 : H s.heap.objs.size = none := I.hok.fresh (Nat.le_refl _)
    have hT2 : h2.get? s.heap.objs.size = some { cls := .type "tuple", data := .seq #[.int i tk, y] } := sb'.extBut _ _ hTe hT
    have I2 : Inv X pins σ (upd H s.heap.objs.size (.tup [.int i, x])) { s with heap := h2, toks := tk + 1 } := by
      refine Inv.track I1 hp0 I.sz (Nat.ne_of_gt I.lt) (fun z c h => ?_) (fun q hq2 z => ?_) ⟨Nat.le_of_ble_eq_true rfl, [.int i tk, y], .cons ⟨tk, rfl⟩ (.cons ru .nil), ⟨_, hT2, rfl, 0, rfl⟩⟩
      . obtain ⟨v, hv⟩ := I.cell z c h
        exact Nat.ne_of_lt hv.lt
      . have := Heap.lt_size (I.pin q hq2).1
        rw [z] at this; exact absurd this (Nat.lt_irrefl _)
    refine ⟨.ref s.heap.objs.size, _, I2, rfl, ⟨s.heap.objs.size, hp0, rfl, fun ys hys => ⟨x, by rw [I.tuple_inj hys hq]; exact hx, rfl⟩⟩, ⟨⟨_, by simpa using he2⟩, hst.1.at fun o q => sb'.extBut it o (Ne.symm hne) q⟩, fun b hb => ?_⟩
    have bT : b ≠ s.heap.objs.size := by
      rcases List.mem_cons.mp hb with rfl | hb
      . exact Ne.symm hTe
      . rw [List.mem_singleton.mp hb]; exact Ne.symm hTi
    rw [yQ bT]; exact (hf b hb).1
  done := by
    intro X hP hw hK hc i pins s σ H E I hf st hg
    subst hP hw hK
    replace hc := hc.resolve_right fun z => z.1
    obtain ⟨⟨old, he⟩, hit⟩ := st
    obtain ⟨xs, hq, hx⟩ := hg
    obtain ⟨its, rv, p, hz⟩ := I.tuple hq
    have fi := hf it (by simp)
    obtain ⟨f0, f1, f2, f3, f4, f5⟩ := fi
    have hl := rv.length
    have hT : s.TypeIs (.ref e) "enumerate" := ⟨_, he, rfl⟩
    unfold pyNext
    refine wpAny_bind (wpAny_attempt (wpAny_callSpecial?_slot (name := Str.ofString "__next__") hT F.slot_enumerate_next (wpAny_call_entry F.slot_enumerate_next hT F.entry_enumerate_next ?_ (F.args_enumerate_next_1 _))))
    show wpAny _ _ (field (.ref e) 2 >>= _) _ _ _
    refine wpAny_bind (wpAny_field he rfl (x := .ref it) rfl ?_)
    refine wpAny_bind (aBY (I.ok.hd hc) hit p (by simp; omega) fun h' x he' hx' => ?_)
    obtain ⟨o, ho, hc'⟩ := hx'
    refine wpAny_bind (wpAny_isInstance (T := "StopIteration") (b := true) ⟨o, ho, hc'⟩ isSubtype_stop ?_)
    exact wpAny_pure ⟨rfl, I.turned (t' := s.toks) (fun b o hb e => he' b o hb e) f0 f1 f3 f4 f5⟩
  self := fun _ _ s Q E st h => by
    obtain ⟨⟨old, he⟩, hit⟩ := st
    exact wpAny_pyIter_enum he h
end L2.EV
namespace L2.EV
open PySem PySem.Spec PyProof.Rows
section
variable {X : Cx} {ρ : Rho} {a : Expr} {pos : Pos} {N : List Str} {sc : Scope} {ds : List D}
def iEnum (K : PySem.W.Frag) (ta : TA) : TI := fun σ H R => ta σ H fun vs H1 => ∃ a, vs = [.ref a] /\ (∃ xs, SqT K H1 a xs) /\ R (Ite K a) H1
theorem aZO {es : List Expr} {x1 : Nat} {tp p : Pos} {ta : TA} (hg : Gl X "enumerate") (hm : X.mg "enumerate" = none) (hl : PA X [a] ta) (hs : Pl a) : PI X (.Tuple es x1 tp) (.Call (.Name "enumerate" p) [a] [] pos) (iEnum X.K ta) := by
  intro pins s σ H R I h
  refine Call_ (aIB I hg hm (show bootBuiltins "enumerate" = some (.type "enumerate") by decide +kernel) (PyProof.Rows.callWith_type1 (thn (hl pos pins s σ H _ I h) fun us s1 ⟨vs, H1, I1, r1, q1⟩ => ?_) (hs _ _) rfl))
  obtain ⟨l, rfl, ⟨xs, hq⟩, q⟩ := q1
  obtain ⟨u, rfl, ru⟩ := vals1 r1
  cases (show u = Value.ref l from ru)
  obtain ⟨its, rv, pt, hz⟩ := I1.tuple hq
  refine aRQ pt fun h' he hi hsz kp => ?_
  have I2 : Inv X pins σ H1 { s1 with heap := h' } := I1.kept (t' := s1.toks) kp
  refine wpAny_pyIter_enum he ?_
  have fr : ∀ b, s1.heap.objs.size <= b -> FpOk X pins H1 b := fun b hb => I1.fpOk hb (I1.hok.fresh hb)
  refine ⟨s1.heap.objs.size + 1, [s1.heap.objs.size + 1, s1.heap.objs.size], _, _, H1, rfl, I2, aRZ l _ _ (Nat.ne_of_gt (Nat.lt_succ_self _)), ⟨⟨_, he⟩, hi⟩, fun b hb => ?_, q⟩
  rcases List.mem_cons.mp hb with rfl | hb
  . exact fr _ (by omega)
  . rw [List.mem_singleton.mp hb]; exact fr _ (Nat.le_refl _)
def enumD (ds : List D) : List D := (List.range ds.length).map fun (i : Nat) => .tup [.int (i : Int), ds.getD i .non]
theorem aMQ {i : Nat} {d : D} (h : (enumD ds)[i]? = some d) : ∃ e, ds[i]? = some e /\ d = .tup [.int (i : Int), e] := by
  unfold enumD at h
  rw [List.getElem?_map] at h
  by_cases hi : i < ds.length
  . rw [List.getElem?_range hi] at h
    cases h
    exact ⟨ds[i], List.getElem?_eq_getElem hi, by show D.tup [D.int (i : Int), ds.getD i .non] = _; rw [List.getD_eq_getElem?_getD, List.getElem?_eq_getElem hi]; rfl⟩
  . rw [List.getElem?_eq_none (by simpa using hi)] at h; cases h
theorem aMP : (enumD ds).length = ds.length := by simp [enumD]
theorem eDB {K : PySem.W.Frag} {F : Hp} {l : Addr} {vs : List V} (hf : F l = some (.tup vs)) (r : RepL K F vs ds) : ItOk K (Ite K l) F (enumD ds) := fun i F2 H2 s1 s2 =>
  ⟨fun d hd => by
    obtain ⟨e, he, rfl⟩ := aMQ hd
    obtain ⟨v, hv, rv⟩ := r.get he
    have sq : SqT K H2 l vs := SqT.of (s2 _ _ (s1 _ _ hf))
    refine ⟨⟨vs, v, sq, hv⟩, fun x H' y => ?_⟩
    obtain ⟨p, hp, rfl, y⟩ := y
    obtain ⟨v', hv', rfl⟩ := y vs sq
    rw [hv] at hv'; cases hv'
    exact ⟨_, (Ext.refl s2).grow hp, .tup zA (.cons (.int _) (.cons ((rv.mono s1).mono (yL (s2.free hp))) .nil))⟩, fun h => ⟨vs, SqT.of (s2 _ _ (s1 _ _ hf)), by rw [r.length]; rw [aMP] at h; exact h⟩⟩
theorem eAO (t : At X N sc) {es : List Expr} {x1 : Nat} {tp p : Pos} (bl : Blt X sc "enumerate" (.type "enumerate")) (h : EvE X ρ a (.tup ds)) (hs : Pl a := by intro _ _; rfl) : EvI X ρ (.Tuple es x1 tp) (.Call (.Name "enumerate" p) [a] [] pos) (enumD ds) :=
  .of (aZO (aAU t bl.g) bl.m (zJ pe_w vG (hs _ _)) hs) fun B F H σ R k q => h B F H σ _ k fun v F' H' x r => by
    cases r with
    | tup hf rl => exact ⟨_, rfl, ⟨_, SqT.of (x.sub _ _ hf)⟩, q _ F' H' x (eDB hf rl)⟩
end
end L2.EV
namespace L2.EV
open PySem PySem.Spec PyProof.Rows
abbrev vB : List Value := [.type "ValueError", .type "Exception", .type "BaseException", .type "object"]
abbrev vN : String := "ValueError.__new__"
theorem aTM {K : PySem.W.Frag} {h : Heap} {mg : Str -> Option Value} {x : Str} {C : Addr} (X : K.In h) (hb : mg x = some (.ref C)) (q : PySem.W.excIn K C vB vN = true) : OwnCls x C vB vN mg h := by
  constructor
  . exact hb
  . unfold PySem.W.excIn at q
    split at q
    . rename_i dct c sls lk
      split at q
      . rename_i C2 tl z0 z1 z2 z3 nid z5 hmro hslot
        simp only [Bool.and_eq_true, beq_iff_eq, Bool.not_eq_true'] at q
        obtain ⟨q1, qi⟩ := q
        obtain ⟨q1, qn⟩ := q1
        obtain ⟨q1, qt⟩ := q1
        obtain ⟨q1, qd⟩ := q1
        obtain ⟨qC, qN⟩ := q1
        subst qC; subst qN
        cases c with
        | mk f1 f2 f3 f4 f5 f6 f7 f8 f9 f10 f11 =>
          have e3 : f3 = .ref C2 :: tl := hmro
          have e11 : f11 = false := qd
          have esl : sls = #[z0, z1, z2, z3, some (.builtin vN), z5] := by
            cases sls with
            | mk ls => exact congrArg Array.mk hslot
          subst e3; subst e11; subst esl
          exact ⟨tl, f4, f1, f5, f2, f6, f7, f8, f9, f10, dct, z0, z1, z2, z3, z5, _, X _ _ lk, .of_isNs (PySem.W.isNs_of_in X qn), PySem.W.nsMap_none_of_in X qn qi, PySem.W.tail_of_in X qt⟩
      . cases q
    . cases q
def TrV (h base : Heap) (e C : Addr) (fl : Value) : Prop :=
  ∃ (oe : Obj) (vs : Array Value) (T : Addr) (oT : Obj) (ts : Array Value), h.get? e = some oe /\ oe.cls = .ref C /\ oe.data = .fields vs /\ vs[1]? = some (.ref T) /\ vs[2]? = some .none /\ base.get? T = none /\ T ≠ e /\ h.get? T = some oT /\ oT.data = .fields ts /\ ts[3]? = some fl
def FlyV (base : Heap) (l : List Env) (e C : Addr) (fl : Value) (h : Heap) : Prop := base.StaysIn h /\ base.get? e = none /\ h.FunFrames base l /\ TrV h base e C fl
section
variable {M : Model} {A : Around} {E : Value -> Shared -> Prop} {s : Shared} {base : Heap} {env : Env} {outer : List Env} {L e C : Addr} {Q : Unit -> Shared -> Prop}
theorem aIG {oe : Obj} {vs : Array Value} {head : Value} {had : Bool} (hfr : A.frames = some (env :: outer)) (hl : s.heap.FunFrames base (env :: outer)) (hf : env.frame = some L) (he : s.heap.get? e = some oe) (hd : oe.data = .fields vs) (hc : oe.cls = .ref C) (hsz : 1 < vs.size) (h2 : vs[2]? = some .none)
    (hkb : base.StaysIn s.heap) (hen : base.get? e = none) (k : ∀ h', FlyV base (env :: outer) e C (rawInt L) h' -> s.heap.UpToSlots h' -> Q () { s with heap := h' }) :
    wpAny M A (do let a <- frameOf env; let pl <- entryPlaceOf L had; let b <- EntryCells.newEntry head a .none (rawInt L) .none pl; setField (.ref e) 1 b) Q E s := by
  have ne : e ∉ (env :: outer).filterMap (·.frame) := fun hm => by
    obtain ⟨_, o, ho, hn⟩ := hl.mem hm
    rw [he] at ho; cases ho; exact hn vs hd
  refine wpAny_bind (wpAny_frameOf_fun hfr hl hf fun g hs => wpAny_bind (wpAny_entryPlaceOf fun pl hpl => ?_))
  unfold EntryCells.newEntry newFields
  refine wpAny_bind (wpAny_newObj_type ?_ (hpl.sizeOk5 _ _ _ _ _))
  have g1 : g.get? e = some oe := (hs.2.1 e ne).trans he
  have g2 := fun ob => Heap.get?_push_of_some (h := g) ob g1
  have Te : g.objs.size ≠ e := Nat.ne_of_gt (Heap.lt_size g1)
  refine wpAny_setField (g2 _) hd hsz (k _ ?_ ?_)
  . have d1 := Obj.data_mapFields hd (·.setIfInBounds 1 (Value.ref g.objs.size))
    have old : ∀ b o, b ≠ e -> g.get? b = some o -> ∀ ob, ((g.push ob).update e (Obj.mapFields (·.setIfInBounds 1 (Value.ref g.objs.size)))).get? b = some o := fun b o hb q ob => by
      rw [Heap.get?_update_other _ _ (Ne.symm hb)]
      exact Heap.get?_push_of_some _ q
    have kb : base.StaysIn g := fun b o q => (hs.2.1 b fun hm => by rw [(hl.mem hm).1] at q; cases q).trans (hkb b o q)
    refine ⟨fun b o q => old b o (fun z => by rw [z, hen] at q; cases q) (kb b o q) _, hen, hl.of_keeps fun b o q hn => ?_, _, _, g.objs.size, _, _, Heap.get?_update_self _ (g2 _) (Obj.isFreed_of_fields d1), (Obj.cls_mapFields ..).trans hc, d1, by simp [hsz], ?_, kb.fresh, Te, (Heap.get?_update_other _ _ (Ne.symm Te)).trans (Heap.get?_push_size g rfl), rfl, ?_⟩
    . obtain ⟨sl, q2⟩ := hs.2.2 b o q
      exact ⟨_, old b _ (fun z => by rw [z, he] at q; cases q; exact hn vs hd) q2 _, rfl⟩
    . rw [Array.getElem?_setIfInBounds_ne (by decide)]; exact h2
    . first | (simp; done) | (rcases hpl with rfl | ⟨_, _, _, _, _, _, _, rfl⟩ <;> simp)
  . intro b o q hn
    obtain ⟨sl, q2⟩ := hs.2.2 b o q
    refine ⟨sl, ?_⟩
    show ((g.push _).update e _).get? b = _
    rw [Heap.get?_update_other _ _ (fun z => by subst z; rw [he] at q; cases q; exact hn vs hd)]
    exact Heap.get?_push_of_some _ q2
theorem aAV {l : List Env} {fl : Value} (f : FlyV base l e C fl s.heap) (k : ∀ h', FlyV base l e C .none h' -> s.heap.UpToSlots h' -> Q () { s with heap := h' }) : wpAny M A (setFlight (.ref e) none) Q E s := by
  obtain ⟨f1, f2, f3, oe, vs, T, oT, ts, a1, a2, a3, a4, a5, a6, a7, a8, a9, a10⟩ := f
  have z3 : 3 < ts.size := (Array.getElem?_eq_some_iff.mp a10).1
  have off : ∀ b, b ≠ T -> (s.heap.update T (Obj.mapFields (·.setIfInBounds 3 ((none : Option Addr).elim Value.none fun f => rawInt f)))).get? b = s.heap.get? b := fun b hb => Heap.get?_update_other _ _ (Ne.symm hb)
  have norec : ∀ b o, s.heap.get? b = some o -> (∀ ws, o.data ≠ .fields ws) -> b ≠ T := fun b o q hn z => by
    rw [z, a8] at q; cases q; exact hn ts a9
  unfold setFlight
  refine wpAny_bind (wpAny_field a1 a3 a4 ?_)
  rw [if_pos (show (Value.ref T != Value.none) = true by simp)]
  refine wpAny_setField a8 a9 z3 (k _ ⟨fun b o q => (off b fun z => by rw [z, a6] at q; cases q).trans (f1 b o q), f2, f3.of_keeps fun b o q hn => ⟨o, (off b (norec b o q hn)).trans q, rfl⟩,
    oe, vs, T, _, _, (off e (Ne.symm a7)).trans a1, a2, a3, a4, a5, a6, a7, Heap.get?_update_self _ a8 (Obj.isFreed_of_fields (Obj.data_mapFields a9 _)), Obj.data_mapFields a9 _, by simp [z3]⟩ fun b o q hn => ⟨o.slots, (off b (norec b o q hn)).trans q⟩)
theorem aTS {vs : List Value} {h : Heap} (hfr : A.frames = some (env :: outer)) (hf : env.frame = some L) (hkb : base.StaysIn h) (hl : h.FunFrames base (env :: outer)) (m : Heap.MadeExcOf h s.heap e (.ref C) vs)
    (k : ∀ h', FlyV base (env :: outer) e C (rawInt L) h' -> s.heap.UpToSlots h' -> Q () { s with heap := h' }) : wpAny M A (noteFrame (.ref e) env) Q E s := by
  obtain ⟨t, he, _, _⟩ := m.there
  have hen : base.get? e = none := by
    cases q : base.get? e with
    | none => rfl
    | some o => have := hkb e o q; rw [m.new] at this; cases this
  unfold noteFrame
  simp only [hf]
  refine wpAny_bind (wpAny_field he rfl (x := .none) rfl ?_)
  rw [if_neg (by decide)]
  exact aIG hfr (hl.of_keeps fun b o q _ => ⟨o, m.keeps b o q, rfl⟩) hf he rfl rfl (by simp) rfl (fun b o q => m.keeps b o (hkb b o q)) hen k
theorem aTR (hfr : A.frames = some (env :: outer)) (hf : env.frame = some L) (f : FlyV base (env :: outer) e C .none s.heap) (k : ∀ h', FlyV base (env :: outer) e C (rawInt L) h' -> s.heap.UpToSlots h' -> Q () { s with heap := h' }) : wpAny M A (noteFrame (.ref e) env) Q E s := by
  obtain ⟨f1, f2, f3, oe, vs, T, oT, ts, a1, a2, a3, a4, a5, a6, a7, a8, a9, a10⟩ := f
  have off : ∀ b, b ≠ T -> (s.heap.update T (Obj.mapFields (·.setIfInBounds 3 Value.none))).get? b = s.heap.get? b := fun b hb => Heap.get?_update_other _ _ (Ne.symm hb)
  have norec : ∀ b o, s.heap.get? b = some o -> (∀ ws, o.data ≠ .fields ws) -> b ≠ T := fun b o q hn z => by
    rw [z, a8] at q; cases q; exact hn ts a9
  unfold noteFrame
  simp only [hf]
  refine wpAny_bind (wpAny_field a1 a3 a4 ?_)
  rw [if_pos (show (Value.ref T != Value.none) = true by simp)]
  refine wpAny_bind (wpAny_field a8 a9 a10 ?_)
  rw [if_neg (show ¬ ((Value.none == rawInt L) = true) by simp [rawInt])]
  refine wpAny_bind (wpAny_setField a8 a9 (Array.getElem?_eq_some_iff.mp a10).1 ?_)
  exact aIG hfr (f3.of_keeps fun b o q hn => ⟨o, (off b (norec b o q hn)).trans q, rfl⟩) hf ((off e (Ne.symm a7)).trans a1) a3 a2 (Array.getElem?_eq_some_iff.mp a4).1 a5
    (fun b o q => (off b fun z => by rw [z, a6] at q; cases q).trans (f1 b o q)) f2 fun h' fl up => k h' fl fun b o q hn => up b o ((off b (norec b o q hn)).trans q) hn
theorem FlyV.pop {fl : Value} {h : Heap} (f : FlyV base (env :: outer) e C fl h) : FlyV base outer e C fl h := let ⟨a, b, ⟨_, _, c⟩, d⟩ := f; ⟨a, b, c, d⟩
theorem FlyV.first {l : List Env} {fl : Value} {h : Heap} (f : FlyV base l e C fl h) : ∃ oe vs, h.get? e = some oe /\ oe.cls = .ref C /\ oe.data = .fields vs /\ vs[2]? = some .none :=
  let ⟨_, _, _, oe, vs, _, _, _, a1, a2, a3, _, a5, _⟩ := f; ⟨oe, vs, a1, a2, a3, a5⟩
end
structure Fly (P : Program) (w : World) (l : List Env) (H : Hp) (s : Shared) (H' : Hp) (C : Addr) (e : Value) (s' : Shared) : Prop where
  ex : ∃ (ea : Addr) (B : Heap), e = .ref ea /\ FlyV B l ea C .none s'.heap /\ HOk P w H' B /\
    (∀ b o, s.heap.get? b = some o -> H b = none -> b ∉ frs l -> B.get? b = some o) /\ (∀ b o, s.heap.get? b = some o -> b ∉ frs l -> ∃ o', B.get? b = some o')
  os : s'.os = s.os
  bare : AllBare s'.gens
  slot : ∀ b o, s.heap.get? b = some o -> H b = none -> b ∈ frs l -> ∃ sl, s'.heap.get? b = some { o with slots := sl }
  free : ∀ b o, s.heap.get? b = some o -> H b = none -> H' b = none
  tups : ∀ b xs, H b = some (.tup xs) -> H' b = some (.tup xs)
  frzs : ∀ b o u, H b = some (.frz o u) -> H' b = some (.frz o u)
  tbls : ∀ b ps, H b = some (.tbl ps) -> ∃ more, H' b = some (.tbl (ps ++ more))
section
variable {X : Cx} {pins : List (Addr × Obj)} {σ : St} {H H' : Hp} {s s' : Shared} {C : Addr} {e : Value}
theorem aUQ {M : Model} {E : Value -> Shared -> Prop} (I : Inv X pins σ H s) (hx : X.ex = []) (hst : X.stack = X.env :: X.outer) (hf : X.env.frame = some X.env.locals) (f : Fly X.prog X.w X.stack H s H' C e s') :
    wpAny M X.A (leaving X.env e) (fun _ s'' => Fly X.prog X.w X.outer X.H₀ X.s₀ H' C e s'') E s' := by
  obtain ⟨⟨ea, B, rfl, fl, hok, keep, there⟩, os, bare, slot, free, tups, frzs, tbls⟩ := f
  rw [hst] at fl
  have noex : ∀ b, b ∉ X.ex := fun b z => by rw [hx] at z; cases z
  have neL : ∀ b o, X.s₀.heap.get? b = some o -> b ≠ X.env.locals := fun b o q => Nat.ne_of_lt (Nat.lt_of_lt_of_le (Heap.lt_size q) I.ok.above)
  have nst : ∀ b o, X.s₀.heap.get? b = some o -> b ∉ X.fs -> b ∉ frs X.stack := fun b o q hb z => by
    rcases List.mem_cons.mp (I.stkSub b z) with y | y
    . exact neL b o q y
    . exact hb y
  have ist : ∀ b, b ∈ X.fs -> b ∈ frs X.stack := fun b hb => by
    rw [hst]; unfold frs; rw [List.filterMap_cons, hf]; exact List.mem_cons_of_mem _ hb
  unfold leaving
  refine wpAny_bind (aTR (by rw [I.ok.frames, hst]) hf fl fun h1 fl1 up1 => aAV fl1 fun h' fl2 up2 => ?_)
  have fl' := fl2.pop
  have up := up1.trans up2
  refine ⟨⟨ea, B, rfl, fl', hok, fun b o q n hb => ?_, fun b o q hb => ?_⟩, os.trans I.os, bare, fun b o q n hb => ?_, fun b o q n => ?_, fun b xs q => tups b xs (I.base.tups b xs q), fun b o u q => frzs b o u (I.base.frzs b o u q), fun b ps q => ?_⟩
  . exact keep b o (I.base.keep b o q n hb (noex b)) (I.base.free b o q n (noex b)) (nst b o q hb)
  . obtain ⟨o', e1⟩ := I.base.there b o q (noex b)
    exact there b o' e1 (nst b o q hb)
  . obtain ⟨sl, e1⟩ := I.base.slot b o q n hb (noex b)
    obtain ⟨sl', e2⟩ := slot b _ e1 (I.base.free b o q n (noex b)) (ist b hb)
    obtain ⟨_, o2, ho2, hd2⟩ := I.ok.funs.mem hb
    have : o = o2 := by rw [q] at ho2; exact Option.some.inj ho2
    subst this
    obtain ⟨sl'', e3⟩ := up b _ e2 hd2
    exact ⟨sl'', e3⟩
  . obtain ⟨o', e1⟩ := I.base.there b o q (noex b)
    exact free b o' e1 (I.base.free b o q n (noex b))
  . obtain ⟨m1, e1⟩ := I.base.tbls b ps q
    obtain ⟨m2, e2⟩ := tbls b _ e1
    exact ⟨m1 ++ m2, by rw [e2, Array.append_assoc]⟩
theorem aRH {M : Model} {E : Value -> Shared -> Prop} {ea : Addr} {vs : List Value} (I : Inv X pins σ H s) (hx : X.ex = []) (hst : X.stack = X.env :: X.outer) (hf : X.env.frame = some X.env.locals)
    (m : Heap.MadeExcOf s.heap s'.heap ea (.ref C) vs) (os : s'.os = s.os) (gens : s'.gens = s.gens) :
    wpAny M X.A (leaving X.env (.ref ea)) (fun _ s'' => Fly X.prog X.w X.outer X.H₀ X.s₀ H C (.ref ea) s'') E s' := by
  have noex : ∀ b, b ∉ X.ex := fun b z => by rw [hx] at z; cases z
  have neL : ∀ b o, X.s₀.heap.get? b = some o -> b ≠ X.env.locals := fun b o q => Nat.ne_of_lt (Nat.lt_of_lt_of_le (Heap.lt_size q) I.ok.above)
  have nst : ∀ b o, X.s₀.heap.get? b = some o -> b ∉ X.fs -> b ∉ frs X.stack := fun b o q hb z => by
    rcases List.mem_cons.mp (I.stkSub b z) with y | y
    . exact neL b o q y
    . exact hb y
  have ist : ∀ b, b ∈ X.fs -> b ∈ frs X.stack := fun b hb => by
    rw [hst]; unfold frs; rw [List.filterMap_cons, hf]; exact List.mem_cons_of_mem _ hb
  have fr : s.heap.FunFrames (PySem.W.hideAll s.heap (frs X.stack)) X.stack := PySem.W.funFrames_hide I.stack fun env he b hb => List.mem_filterMap.mpr ⟨env, he, hb⟩
  have hok : HOk X.prog X.w H (PySem.W.hideAll s.heap (frs X.stack)) := fun a o q => (I.hok a o q).stay (fun b u hb z => PySem.W.hideAll_get _ z fun hm => by
      have n := I.stkFree b hm
      rcases hb with y | y
      . rw [y, q] at n; cases n
      . rw [y] at n; cases n) (fun _ z => z) fun _ _ z => z
  unfold leaving
  refine wpAny_bind (aTS (base := PySem.W.hideAll s.heap (frs X.stack)) (h := s.heap) (by rw [I.ok.frames, hst]) hf (fun b o q => PySem.W.of_hideAll _ q) (by rw [<- hst]; exact fr) m fun h1 fl1 up1 => aAV fl1 fun h' fl2 up2 => ?_)
  have fl := fl2.pop
  have up := up1.trans up2
  refine ⟨⟨ea, _, rfl, fl, hok, fun b o q n hb => ?_, fun b o q hb => ?_⟩, os.trans I.os, by show AllBare s'.gens; rw [gens]; exact I.bare, fun b o q n hb => ?_, fun b o q n => I.base.free b o q n (noex b), I.base.tups, I.base.frzs, I.base.tbls⟩
  . exact PySem.W.hideAll_get _ (I.base.keep b o q n hb (noex b)) (nst b o q hb)
  . obtain ⟨o', e1⟩ := I.base.there b o q (noex b)
    exact ⟨o', PySem.W.hideAll_get _ e1 (nst b o q hb)⟩
  . obtain ⟨sl, e1⟩ := I.base.slot b o q n hb (noex b)
    obtain ⟨_, o2, ho2, hd2⟩ := I.ok.funs.mem hb
    have : o = o2 := by rw [q] at ho2; exact Option.some.inj ho2
    subst this
    obtain ⟨sl'', e3⟩ := up b _ (m.keeps _ _ e1) hd2
    exact ⟨sl'', e3⟩
end
end L2.EV
namespace L2.EV
open PySem PySem.Spec PyProof.Rows
inductive Thrown (X : Cx) (m : Bool) (H : Hp) (s : Shared) (H' : Hp) (C : Addr) (e : Value) (s' : Shared) : Prop where
  | fly : Fly X.prog X.w X.stack H s H' C e s' -> Thrown X m H s H' C e s'
  | made {ea : Addr} {vs : List Value} : m = true -> H' = H -> e = .ref ea -> Heap.MadeExcOf s.heap s'.heap ea (.ref C) vs -> s'.os = s.os -> s'.gens = s.gens -> Thrown X m H s H' C e s'
def XP (X : Cx) (m : Bool) (pins : List (Addr × Obj)) (B : B0) (F : Hp) (ρ' : Rho) (C : Addr) (e : Value) (s' : Shared) : Prop :=
  ∃ (σ1 : St) (H1 : Hp) (s1 : Shared) (F' H' : Hp), Inv X pins σ1 H1 s1 /\ Ok X.K B F' H' σ1 ρ' /\ Same F F' /\ Thrown X m H1 s1 H' C e s'
theorem XP.later {X : Cx} {m : Bool} {pins : List (Addr × Obj)} {B : B0} {F F1 : Hp} {ρ' : Rho} {C : Addr} {e : Value} {s' : Shared} (h : XP X m pins B F1 ρ' C e s') (sf : Same F F1) : XP X m pins B F ρ' C e s' := by
  obtain ⟨σ1, H1, s1, F', H', a, b, c, d⟩ := h
  exact ⟨σ1, H1, s1, F', H', a, b, sf.trans c, d⟩
def XvE (X : Cx) (m : Bool) (ρ : Rho) (e : Expr) (C : Addr) (ρ' : Rho) : Prop := ∀ (B : B0) (F H : Hp) (σ : St), Ok X.K B F H σ ρ -> ∀ (pins : List (Addr × Obj)) (s : Shared), Inv X pins σ H s ->
  wpAny (model X.prog X.w) X.A (eval e X.env) (fun _ _ => False) (XP X m pins B F ρ' C) s
def XvA (X : Cx) (m : Bool) (ρ : Rho) (es : List Expr) (C : Addr) (ρ' : Rho) : Prop := ∀ (B : B0) (F H : Hp) (σ : St), Ok X.K B F H σ ρ -> ∀ (pos : Pos) (pins : List (Addr × Obj)) (s : Shared), Inv X pins σ H s ->
  wpAny (model X.prog X.w) X.A (spliced (backTo pos (starEach es X.env))) (fun _ _ => False) (XP X m pins B F ρ' C) s
def XvS (X : Cx) (m : Bool) (ρ : Rho) (st : Stmt) (C : Addr) (ρ' : Rho) : Prop := ∀ (B : B0) (F H : Hp) (σ : St), Ok X.K B F H σ ρ -> ∀ (pins : List (Addr × Obj)) (s : Shared), Inv X pins σ H s ->
  wpAny (model X.prog X.w) X.A (exec st X.env) (fun _ _ => False) (XP X m pins B F ρ' C) s
def XvSs (X : Cx) (m : Bool) (ρ : Rho) (st : List Stmt) (C : Addr) (ρ' : Rho) : Prop := ∀ (B : B0) (F H : Hp) (σ : St), Ok X.K B F H σ ρ -> ∀ (pins : List (Addr × Obj)) (s : Shared), Inv X pins σ H s ->
  wpAny (model X.prog X.w) X.A (execs st X.env) (fun _ _ => False) (XP X m pins B F ρ' C) s
section
variable {X : Cx} {m : Bool} {ρ ρ1 ρ' : Rho} {e a b c : Expr} {es : List Expr} {d : D} {ds : List D} {pos p : Pos} {N : List Str} {sc : Scope} {C : Addr} {st : Stmt} {rest : List Stmt} {x : Str}
theorem At.no (t : At X N sc) {v : Value} {s : Shared} {P : Prop} (h : X.xe v s) : P := by rw [t.nox] at h; exact h.elim
theorem EvE.go (t : At X N sc) (h : EvE X ρ e d) {B : B0} {F H : Hp} {σ : St} (k : Ok X.K B F H σ ρ) {pins : List (Addr × Obj)} {s : Shared} (I : Inv X pins σ H s) {Q : Value -> Shared -> Prop} {E : Value -> Shared -> Prop}
    (q : ∀ v u F' H' s', Ext ⟨F, H⟩ F' H' -> Rep X.K F' v d -> RelV v u -> Inv X pins σ H' s' -> Q u s') : wpAny (model X.prog X.w) X.A (eval e X.env) Q E s :=
  wpAny_mono (h B F H σ (fun v H' => ∃ F', Ext ⟨F, H⟩ F' H' /\ Rep X.K F' v d) k (fun v F' H' x r => ⟨F', x, r⟩) pins s I) (fun u s' ⟨v, H', I', r, F', x, rv⟩ => q v u F' H' s' x rv r I') fun _ _ z => t.no z
theorem EvT.go (t : At X N sc) {k0 : Bool} (h : EvT X ρ e k0) {B : B0} {F H : Hp} {σ : St} (k : Ok X.K B F H σ ρ) {pins : List (Addr × Obj)} {s : Shared} (I : Inv X pins σ H s) {Q : Bool -> Shared -> Prop} {E : Value -> Shared -> Prop}
    (q : ∀ F' H' s', Ext ⟨F, H⟩ F' H' -> Inv X pins σ H' s' -> Q k0 s') : wpAny (model X.prog X.w) X.A (isTrue e X.env (eval e X.env)) Q E s :=
  wpAny_mono (h B F H σ (fun b H' => b = k0 /\ ∃ F', Ext ⟨F, H⟩ F' H') k (fun F' H' x => ⟨rfl, F', x⟩) pins s I) (fun u s' ⟨H', I', e, F', x⟩ => by subst e; exact q F' H' s' x I') fun _ _ z => t.no z
theorem aDO (h : XvS X m ρ st C ρ') : XvSs X m ρ (st :: rest) C ρ' := fun B F H σ k pins s I => wpAny_execs_cons (wpAny_mono (h B F H σ k pins s I) (fun _ _ z => z.elim) fun _ _ z => z)
theorem eBD (t : At X N sc) {ss us : List Stmt} (hc : EvT X ρ c true) (h : XvSs X m ρ ss C ρ') : XvS X m ρ (.If c ss us pos) C ρ' := fun B F H σ k pins s I =>
  wpAny_If (hc.go t k I fun F' H' s' x I' => wpAny_mono (h B F' H' σ (k.ext x) pins s' I') (fun _ _ z => z) fun _ _ z => z.later x.sf)
theorem eDQ (h : XvE X m ρ e C ρ') : XvS X m ρ (.Return (some e) pos) C ρ' := fun B F H σ k pins s I => wpAny_Return_some (wpAny_mono (h B F H σ k pins s I) (fun _ _ z => z.elim) fun _ _ z => z)
theorem eBE (h : XvE X m ρ e C ρ') (hs : swapsWith e none pos.line X.env = pure false := by rfl) : XvS X m ρ (.Expr e pos) C ρ' := fun B F H σ k pins s I =>
  wpAny_Expr_any (wpAny_mono (h B F H σ k pins s I) (fun _ _ z => z.elim) fun _ _ z => z) I.quiet hs
theorem aYT (h : XvE X m ρ e C ρ') (hs : Pl e := by intro _ _; rfl) : XvA X m ρ (e :: es) C ρ' := fun B F H σ k pos pins s I => by
  rw [hs es X.env]
  exact Calls.spliced_cons (wpAny_mono (h B F H σ k pins s I) (fun _ _ z => z.elim) fun _ _ z => z)
def CXW (P : Program) (w : World) : CXT := fun outer H s E e s' => ∃ (C : Addr) (H' : Hp), E (.ref C) none H' /\ Fly P w outer H s H' C e s'
def spX (K : PySem.W.Frag) (C : Addr) (R : List D -> Prop) : Sp := fun vs H _ E => ∃ F ds, Same F H /\ RepL K F vs ds /\ R ds /\ ∀ F' H', Ext ⟨F, H⟩ F' H' -> E (.ref C) none H'
def CalleeX (X : Cx) (x : Str) (C : Addr) (R : List D -> Prop) : Prop := ∃ (f : Addr) (fd : FuncData) (ps : List Str) (k : Nat), FnOk X.prog X.w X.K X.mg X.base (CXW X.prog X.w) k f fd ps (spX X.K C R) /\ Room k X.A /\ X.mg x = some (.ref f) /\ PySem.W.keepIn X.K (.ref f) = true /\ Binds X.K fd ps []
theorem aXP (t : At X N sc) {R : List D -> Prop} (h : CalleeX X x C R) (ha : EvA X ρ (e :: es) ds) (hR : R ds) (hg : sc.names.lookup x = some .globalImplicit := by rfl) (hdb : (x == ("__debug__" : Str)) = false := by rfl) : XvE X m ρ (.Call (.Name x p) (e :: es) [] pos) C ρ := by
  obtain ⟨f, fd, ps, k, Fn, hr, hm, hk, hb⟩ := h
  intro B F H σ k0 pins s I
  refine wpAny_Call_Name_kw (aCG I (aAU t hg) hm ?_ hdb)
  refine PySem.W.callWith_K (h₀ := X.base) I.ok.mod.kin hk (wpAny_mono (ha.2 B F H σ (fun vs H1 => ∃ F1, Ext ⟨F, H⟩ F1 H1 /\ RepL X.K F1 vs ds) k0 (fun vs F1 H1 x1 r1 => ⟨F1, x1, r1⟩) pos pins s I) (fun us s1 z => ?_) fun _ _ z => t.no z) (ha.1.1 _ _) (PlA.any ha.1.2)
  obtain ⟨vs, H1, I1, r, F1, x1, r1⟩ := z
  refine ⟨I1.kIn, ?_⟩
  have hsp : spX X.K C R vs H1 (fun _ _ => False) (fun c _ H2 => c = .ref C /\ ∃ F2, Ext ⟨F1, H1⟩ F2 H2) := ⟨F1, ds, x1.sub, r1, hR, fun F2 H2 x2 => ⟨rfl, F2, x2⟩⟩
  have hl : us.length = ps.length := by rw [<- r.length]; exact Fn.len _ _ _ _ hsp
  refine wpAny_call (codeAny_mono (Fn.run X.A X.stack s1 H1 ⟨us, []⟩ us vs _ _ hr I1.env0 (by have := hb s1 us I1.kIn (by rw [List.append_nil]; exact hl); rw [List.append_nil] at this; exact this) r hsp) fun r' s' hq => ?_)
  cases r' with
  | error e' =>
    have hq' : CXW X.prog X.w X.stack H1 s1 (fun c _ H2 => c = Value.ref C /\ ∃ F2, Ext ⟨F1, H1⟩ F2 H2) e' s' := hq
    obtain ⟨C', H2, ⟨hC, F2, x2⟩, fl⟩ := hq'
    cases hC
    exact ⟨σ, H1, s1, F2, H2, I1, k0.ext (x1.t x2), (x1.t x2).sf, .fly fl⟩
  | ok fl =>
    cases fl with
    | ret u => obtain ⟨_, _, _, _, _, _, _, z⟩ := (show CE X.stack X.prog X.w H1 s1 (fun _ _ => False) u s' from hq); exact z
    | next => exact False.elim hq
    | brk => exact False.elim hq
    | cont => exact False.elim hq
theorem aUP {P : Program} (htree : P.given.tree = none) {w : World} {K : PySem.W.Frag} {mg : Str -> Option Value} {base : Heap} {x qual : Str} {st : Stmt} {f : Addr} {fd : FuncData} {N ps : List Str} {k : Nat} {C : Addr} {R : List D -> Prop} (Fn : Fun K x qual st f fd) (S : FnScope N ps (defScope st))
    (len : ∀ ds, R ds -> ds.length = ps.length)
    (body : ∀ X, DefX P w K mg base k N (defScope st) X -> ∀ ds, R ds -> ∃ ρ', XvSs X true (ds.map Sl.val ++ List.replicate (N.length - ds.length) Sl.un) (defBody st) C ρ') : FnOk P w K mg base (CXW P w) (k + 1) f fd ps (spX K C R) := by
  obtain ⟨oc, od, kV, doc, pm, an, cdv, ct, osl, rfl, lk, hcd⟩ := Fn.ex
  refine eDF lk hcd S (fun vs H Q E h => ?_) (fun A outer s H vs Q E hr h => ?_)
  . obtain ⟨F', ds, sub, r, hR, q⟩ := h
    rw [r.length]; exact len ds hR
  . obtain ⟨F', ds, sub, r, hR, q⟩ := h
    refine ⟨_, aHD, ?_⟩
    have hx : DefX P w K mg base k N (defScope st) (cxOf (CXW P w) P w K mg base N qual (defScope st) f cdv A outer s H E).nox :=
      ⟨⟨rfl, rfl, rfl, S.nd, rfl, hr.units, hr.dp100, htree, ⟨_, _, rfl, S.gen, S.co, rfl, rfl⟩⟩, rfl, rfl, rfl, rfl, rfl, hr, ⟨fun _ => rfl⟩, rfl, rfl⟩
    obtain ⟨ρ', hb⟩ := body _ hx ds hR
    have hk : Ok K ⟨F', H⟩ F' H (start N vs) (ds.map Sl.val ++ List.replicate (N.length - ds.length) Sl.un) := by
      unfold start
      rw [r.length]
      exact aJO sub r _
    intro pins s0 I0
    refine wpAny_mono (hb ⟨F', H⟩ F' H _ hk pins s0 (I0.wish _)) (fun _ _ z => z.elim) fun e' s' z => ?_
    obtain ⟨σ1, H1, s1, F2, H2, I1, k1, sf, th⟩ := z
    have hE : E (.ref C) none H2 := q F2 H2 k1.toExt
    cases th with
    | fly fl => exact wpAny_mono (aUQ (X := (cxOf (CXW P w) P w K mg base N qual (defScope st) f cdv A outer s H E).nox) (E := fun e' s'' => CXW P w outer H s E e' s'') I1 rfl rfl rfl fl) (fun _ _ z => ⟨C, H2, hE, z⟩) fun _ _ z => z
    | made _ eh ee mm os gens =>
      subst eh; subst ee
      exact wpAny_mono (aRH (X := (cxOf (CXW P w) P w K mg base N qual (defScope st) f cdv A outer s H E).nox) (E := fun e' s'' => CXW P w outer H s E e' s'') I1 rfl rfl rfl mm os gens) (fun _ _ z => ⟨C, _, hE, z⟩) fun _ _ z => z
theorem DefX.calleeX {P : Program} {w : World} {K : PySem.W.Frag} {mg : Str -> Option Value} {base : Heap} {k j : Nat} {f : Addr} {fd : FuncData} {ps : List Str} {x : Str} {R : List D -> Prop} (h : DefX P w K mg base k N sc X)
    (F : FnOk P w K mg base (CXW P w) j f fd ps (spX K C R)) (hj : j <= k) (hm : mg x = some (.ref f)) (hk : PySem.W.keepIn K (.ref f) = true) (hb : Binds K fd ps []) : CalleeX X x C R := by
  obtain ⟨h0, rfl, rfl, rfl, rfl, rfl, hr, _⟩ := h
  exact ⟨f, fd, ps, j, F, hr.mono hj, hm, hk, hb⟩
theorem aRV (t : At X N sc) {np cpos : Pos} {msg : Expr} {ms : D} (O : OwnCls x C vB vN X.mg X.base) (h : EvE X ρ msg ms) (hg : sc.names.lookup x = some .globalImplicit := by rfl) (hdb : (x == ("__debug__" : Str)) = false := by rfl) (hs : Pl msg := by intro _ _; rfl) :
    XvS X true ρ (.Raise (some (.Call (.Name x np) [msg] [] cpos)) none pos) C ρ := by
  intro B F H σ k pins s I
  obtain ⟨tl, Nn, nm, q, bs, hdct, sn, sub, ab, col, dd, k0, k1, k2, k3, k5, mN, hC, hN, hni, T⟩ := O.obj
  have st : ∀ {pins σ H s}, Inv X pins σ H s -> X.base.StaysIn s.heap := fun I b o q => I.bk b o q
  refine wpAny_Raise_call_subT (C := C) (nm := nm) (q := q) (N := Nn) (bs := bs) (bm := tl) (hdct := hdct) (sn := sn) (sub := sub) (ab := ab) (col := col) (dd := dd) (k0 := k0) (k1 := k1) (k2 := k2) (k3 := k3) (k5 := k5)
    PySem.F.excBase_ValueError (mN := mN) (T.hasType PySem.F.excBase_ValueError.hasBase) (I.ok.hd t.calm) (by rw [hs [] X.env]; rfl) hni (aCG I (aAU t hg) O.bound ⟨rfl, ?_⟩ hdb)
  rw [hs [] X.env]
  refine Calls.evalArgs_plain (Calls.spliced_cons (h.go t k I fun v u F' H' s' x' r ru I' => Calls.spliced_nil ?_))
  refine ⟨rfl, by show 1 <= sizeLine; decide, I'.bk _ _ hC, hN.keeps I'.bk, T.keeps I'.bk, fun h' e' mm => ?_⟩
  exact ⟨σ, H', s', F', H', I', k.ext x', x'.sf, .made rfl rfl rfl mm rfl rfl⟩
end
end L2.EV
namespace L2.EV
open PySem PySem.Spec PyProof.Rows
theorem ObjOk.at_some {P : Program} {w : World} {H : Hp} {h : Heap} {a : Addr} {o : HO} (x : ObjOk P w H h a o) : ∃ ob, h.get? a = some ob := by
  cases o with
  | lst xs => obtain ⟨_, _, _, _, e⟩ := x; exact ⟨_, e⟩
  | tup xs => obtain ⟨_, _, _, ob, e, _⟩ := x; exact ⟨_, e⟩
  | dK kvs => obtain ⟨_, _, _, _, ob, _, _, e, _⟩ := x; exact ⟨_, e⟩
  | dT kvs => obtain ⟨_, _, _, _, ob, _, _, e, _⟩ := x; exact ⟨_, e⟩
  | set S n => obtain ⟨ob, _, _, _, e, _⟩ := x; exact ⟨_, e⟩
  | ins C dx fs => obtain ⟨_, _, _, e, _⟩ := x; exact ⟨_, e⟩
  | own y => exact x
  | xd fs => obtain ⟨_, ⟨ob, _, _, e, _⟩, _⟩ := x; exact ⟨_, e⟩
  | rng lo hi => obtain ⟨_, _, _, e⟩ := x; exact ⟨_, e⟩
  | frz ob u => obtain ⟨e, _⟩ := x; exact ⟨_, e⟩
  | tbl ps => exact ⟨_, (show h.get? a = some _ from x)⟩
  | met f y => exact ⟨_, (show h.get? a = some _ from x)⟩
  | ext φ => obtain ⟨_, e, _⟩ := x; exact e
abbrev Cx.hot (X : Cx) (ea : Addr) : Cx := { X with A := X.A.mark (some (.ref ea)), calm := false }
theorem Inv.hot {X : Cx} {pins : List (Addr × Obj)} {σ : St} {H : Hp} {s : Shared} (I : Inv X pins σ H s) (ea : Addr) : Inv (Cx.hot X ea) pins σ H s :=
  ⟨⟨I.ok.mod, I.ok.kind, I.ok.glob, I.ok.blt, I.ok.above, I.ok.inj, I.ok.has, I.ok.cab, (fun z => nomatch z), I.ok.frames, I.ok.stk, I.ok.exf, I.ok.bs, I.ok.bsz, I.ok.noex, I.ok.exfs, I.ok.funs, I.ok.frf⟩, I.os, I.bare, I.base, I.loc, I.cell, I.free, I.freeC, I.pin, I.hok, I.len⟩
theorem Inv.cold {X : Cx} {pins : List (Addr × Obj)} {σ : St} {H : Hp} {s : Shared} {ea : Addr} (ok : X.Ok) (I : Inv (Cx.hot X ea) pins σ H s) : Inv X pins σ H s :=
  ⟨ok, I.os, I.bare, I.base, I.loc, I.cell, I.free, I.freeC, I.pin, I.hok, I.len⟩
theorem At.hot {X : Cx} {N : List Str} {sc : Scope} (t : At X N sc) (ea : Addr) : At0 (Cx.hot X ea) N sc := ⟨t.eN, t.eS, t.nd, t.nox, t.un, t.dp, t.tree, t.fr⟩
section
variable {X : Cx} {pins : List (Addr × Obj)} {σ : St} {H H' : Hp} {s s' : Shared} {C ea : Addr} {B h5 : Heap}
theorem aUR (I : Inv X pins σ H s) (os : s'.os = s.os) (bare : AllBare s'.gens) (hok : HOk X.prog X.w H' B) (keep : ∀ b o, s.heap.get? b = some o -> H b = none -> b ∉ frs X.stack -> B.get? b = some o)
    (there : ∀ b o, s.heap.get? b = some o -> b ∉ frs X.stack -> ∃ o', B.get? b = some o') (slot : ∀ b o, s.heap.get? b = some o -> H b = none -> b ∈ frs X.stack -> ∃ sl, s'.heap.get? b = some { o with slots := sl })
    (free : ∀ b o, s.heap.get? b = some o -> H b = none -> H' b = none) (tups : ∀ b xs, H b = some (.tup xs) -> H' b = some (.tup xs)) (frzs : ∀ b o u, H b = some (.frz o u) -> H' b = some (.frz o u))
    (tbls : ∀ b ps, H b = some (.tbl ps) -> ∃ more, H' b = some (.tbl (ps ++ more))) (fl : FlyV B X.stack ea C .none h5) (up : s'.heap.UpToSlots h5) :
    ∃ oe : Obj, Inv X pins σ (upd H' ea (.frz oe (.ext (excAt ea C)))) { s' with heap := h5 } /\ H' ea = none /\ h5.get? ea = some oe /\ oe.cls = .ref C := by
  obtain ⟨oe, vs, hoe, hoc, hod, ho2⟩ := fl.first
  have nea : ∀ a o, H' a = some o -> a ≠ ea := fun a o q z => by
    obtain ⟨ob, e⟩ := ObjOk.at_some (hok a o q)
    rw [z, fl.2.1] at e; cases e
  have hn : H' ea = none := by
    cases q : H' ea with
    | none => rfl
    | some u => exact absurd rfl (nea ea u q)
  have fne : ∀ b, b ∈ frs X.stack -> b ≠ ea := fun b hb z => by
    obtain ⟨_, o, ho, hd⟩ := fl.2.2.1.mem hb
    rw [z, hoe] at ho; cases ho; exact hd vs hod
  have bne : ∀ b o, s.heap.get? b = some o -> b ≠ ea := fun b o q => by
    by_cases hb : b ∈ frs X.stack
    . exact fne b hb
    . intro z
      obtain ⟨o', e⟩ := there b o q hb
      rw [z, fl.2.1] at e; cases e
  refine ⟨oe, I.call' (s' := { s' with heap := h5 }) (ch := []) os ⟨fun b o q n hb _ => fl.1 b o (keep b o q n hb), fun b o q n hb _ => ?_, fun b o q n _ => by rw [yQ (bne b o q)]; exact free b o q n, fun b o q _ => ?_,
    fun b xs q => by rw [yQ (nea b _ (tups b xs q))]; exact tups b xs q, fun b o u q => by rw [yQ (nea b _ (frzs b o u q))]; exact frzs b o u q, fun b ps q => ?_⟩ (fun a u q => ?_) bare (fun b z => absurd z (by simp)), hn, hoe, hoc⟩
  . obtain ⟨sl, e1⟩ := slot b o q n hb
    obtain ⟨_, o2, ho2, hd2⟩ := I.stack.mem hb
    have e2 : o = o2 := by rw [q] at ho2; exact Option.some.inj ho2
    subst e2
    obtain ⟨sl2, e3⟩ := up b _ e1 hd2
    exact ⟨sl2, e3⟩
  . by_cases hb : b ∈ frs X.stack
    . obtain ⟨sl, e1⟩ := slot b o q (I.stkFree b hb) hb
      obtain ⟨_, o2, ho2, hd2⟩ := I.stack.mem hb
      have e2 : o = o2 := by rw [q] at ho2; exact Option.some.inj ho2
      subst e2
      obtain ⟨sl2, e3⟩ := up b _ e1 hd2
      exact ⟨_, e3⟩
    . obtain ⟨o', e⟩ := there b o q hb
      exact ⟨o', fl.1 b o' e⟩
  . obtain ⟨m1, e1⟩ := tbls b ps q
    exact ⟨m1, by rw [yQ (nea b _ e1)]; exact e1⟩
  . by_cases ha : a = ea
    . subst ha
      rw [zA] at q; cases q
      exact ⟨hoe, ⟨oe, vs, hoe, hoc, hod, ho2⟩, ⟨oe, hoe⟩, fun h1 h2 ⟨ob, ws, e1, e2, e3, e4⟩ k => ⟨ob, ws, k _ e1, e2, e3, e4⟩⟩
    . rw [yQ ha] at q
      exact (hok a u q).stay (fun b v _ z => fl.1 b v z) (fun b z => by rw [yQ (nea b _ z)]; exact z) fun b xs z => by rw [yQ (nea b _ z)]; exact z
theorem aRF {M : Model} {A : Around} {E : Value -> Shared -> Prop} {y : Str} {Dc : Addr} {Q : Bool -> Shared -> Prop} {oe : Obj} {b : Bool} {K : PySem.W.Frag} {mg : Str -> Option Value} (X : K.In s.heap) (O : OwnCls y Dc vB vN mg s.heap) (he : s.heap.get? ea = some oe) (hc : oe.cls = .ref C)
    (hm : PySem.W.mroIn K C (.ref Dc) = some b) (q : Q b s) : wpAny M A (excMatches (.ref ea) (.ref Dc)) Q E s := by
  obtain ⟨tl, Nn, nm, qn, bs, hdct, sn, sub, ab, col, dd, k0, k1, k2, k3, k5, mN, hC, hN, hni, T⟩ := O.obj
  have hB : tl.contains (.type "BaseException") = true := T.hasType (X := "BaseException") (b := true) (by decide)
  have hcB : (Value.ref Dc :: tl).contains (.type "BaseException") = true := by rw [List.contains_cons, hB, Bool.or_true]
  have L := PySem.W.looks_mroIn (M := M) X hm
  have f := tc_notTuple
  obtain ⟨hh, gg, d, tt, os⟩ := s
  unfold excMatches
  repeat (first | (with_reducible refine wpAny_loadPart_at he ?_; rw [hc]) | with_reducible refine wpAny_loadPart_at hC ?_ | (with_reducible refine wpAny_isSubtype_exc hC ?_; rw [hcB]) | (with_reducible refine L.at ?_) | wp_step)
  cases b <;> (repeat wp_step) <;> exact q
theorem aKT {M : Model} {A : Around} {E : Value -> Shared -> Prop} {i : Nat} {n : Str} {pos : Pos} {Q : Unit -> Shared -> Prop} (I : Inv X pins σ H s) (hN : X.N.Nodup) (hi : X.N[i]? = some n) (hk : X.env.kindOf n = some .local)
    (h : ∀ s', Inv X pins (σ.set i none) H s' -> Q () s') : wpAny M A (do bindName X.env n .none; unbindBehindTheSuite X.env n pos) Q E s := by
  obtain ⟨m, hn, hl⟩ := id I.loc
  have hcls : (X.env.scope.kind == .class || (X.env.scope.kind == .module && X.env.locals != X.env.globals)) = false := by rw [I.ok.kind]; rfl
  refine wpAny_nameGoes_keeps hk hn hcls fun h' v hn' hs => h _ ?_
  have low : ∀ b o, X.s₀.heap.get? b = some o -> h'.get? b = s.heap.get? b := fun b o e => hs.2 b (Nat.ne_of_lt (Nat.lt_of_lt_of_le (Heap.lt_size e) I.ok.above))
  refine ⟨I.ok, I.os, I.bare, ⟨fun b o e nn hb hx => (low b o e).trans (I.base.keep b o e nn hb hx), fun b o e nn hb hx => ?_, I.base.free, fun b o e hx => ?_, I.base.tups, I.base.frzs, I.base.tbls⟩, ⟨_, hn', fun j y v' e1 e2 e3 => ?_⟩, fun y c e => ?_, I.free, I.freeC, fun p hp => ?_, fun b ob e => ?_, by rw [List.length_set]; exact I.len⟩
  . obtain ⟨sl, e1⟩ := I.base.slot b o e nn hb hx
    exact ⟨sl, (low b o e).trans e1⟩
  . obtain ⟨o', e1⟩ := I.base.there b o e hx
    exact ⟨o', (low b o e).trans e1⟩
  . have hj : i ≠ j := fun z => by
      subst z
      rw [List.getElem?_set_self'] at e2
      cases q : σ[i]? with
      | none => rw [q] at e2; cases e2
      | some w => rw [q] at e2; cases e2
    rw [List.getElem?_set_ne hj] at e2
    obtain ⟨u', r', q⟩ := hl j y v' e1 e2 e3
    refine ⟨u', r', ?_⟩
    rcases q with ⟨k, e⟩ | ⟨k, c, e, z⟩
    . refine .inl ⟨k, ?_⟩
      have : y ≠ n := fun e => hj (aJP hN (e ▸ hi) e1)
      simp [this, e]
    . exact .inr ⟨k, c, e, z.sameBut hs (I.cne y c e)⟩
  . obtain ⟨w', z⟩ := I.cell y c e
    exact ⟨w', z.sameBut hs (I.cne y c e)⟩
  . obtain ⟨e, nn, ne, nf, d⟩ := I.pin p hp
    exact ⟨(hs.2 p.1 ne).trans e, nn, ne, nf, d⟩
  . refine (I.hok b ob e).stay (fun c w' hc q => (hs.2 c ?_).trans q) (fun _ q => q) fun _ _ q => q
    rintro rfl
    rcases hc with z | z
    . rw [<- z, I.free] at e; cases e
    . rw [I.free] at z; cases z
end
section
variable {X : Cx} {ρ ρ1 : Rho} {N : List Str} {sc : Scope} {o : Out} {body suite : List Stmt} {b₀ : Stmt} {hs : List ExceptHandler} {h₀ : ExceptHandler} {pos np hp : Pos} {C Dc : Addr} {y : Str}
theorem SP.cold {pins : List (Addr × Obj)} {E : Ends} {f : Flow} {s : Shared} {ea : Addr} (ok : X.Ok) (z : SP (Cx.hot X ea) pins E f s) : SP X pins E f s := by
  cases f with
  | next => obtain ⟨σ', H', I, q⟩ := z; exact ⟨σ', H', Inv.cold ok I, q⟩
  | brk => obtain ⟨σ', H', I, q⟩ := z; exact ⟨σ', H', Inv.cold ok I, q⟩
  | cont => obtain ⟨σ', H', I, q⟩ := z; exact ⟨σ', H', Inv.cold ok I, q⟩
  | ret u => obtain ⟨v, σ', H', I, r, q⟩ := z; exact ⟨v, σ', H', Inv.cold ok I, r, q⟩
def Out.drop (i : Nat) : Out -> Out
  | .nx ρ => .nx (ρ.set i .un)
  | .rt d => .rt d
theorem aYW {o : Addr -> Out} {o' : Out} (t : At X N sc) (hst : X.stack = X.env :: X.outer /\ X.env.frame = some X.env.locals) (i : Nat) {n : Str} (hb : XvSs X false ρ body C ρ1) (OD : OwnCls y Dc vB vN X.mg X.base) (hm : PySem.W.mroIn X.K C (.ref Dc) = some true)
    (h : ∀ ea, EvSs (Cx.hot X ea) (ρ1.set i (.val (.exh C ea))) (b₀ :: suite) (o ea)) (hi : N[i]? = some n := by rfl) (hl : sc.names.lookup n = some .local := by rfl) (hg : sc.names.lookup y = some .globalImplicit := by rfl) (hdb : (y == ("__debug__" : Str)) = false := by rfl)
    (ho : ∀ ea (B : B0) (F : Hp) (E : Ends), Post X.K B F E o' -> Post X.K B F E ((o ea).drop i)) : EvS X ρ (.Try body (.ExceptHandler (some (.Name y np)) (some n) (b₀ :: suite) hp :: hs) [] [] pos) o' := fun B F H σ E k q pins s I => by
  refine wpAny_Try_except (wpAny_mono (hb B F H σ k pins s I) (fun _ _ z => z.elim) fun e s' z => ?_)
  obtain ⟨σ1, H1, s1, F1, H2, I1, k1, sf, th⟩ := z
  cases th with
  | made z => cases z
  | fly f =>
    obtain ⟨⟨ea, Bh, rfl, fl, hok, keep, there⟩, os, bare, slot, free, tups, frzs, tbls⟩ := f
    have fl' := fl
    rw [hst.1] at fl'
    refine aTR (by rw [I.ok.frames, hst.1]) hst.2 fl' fun h4 held4 up4 => ?_
    refine aAV held4 fun h5 fl5 up45 => ?_
    have fl5' := fl5
    rw [<- hst.1] at fl5'
    obtain ⟨oe, I5, hn, he, hc⟩ := aUR I1 os bare hok keep there slot free tups frzs tbls fl5' (up4.trans up45)
    refine wpAny_handleBy_cons (codeAny_handlers_test (aCG (X := Cx.hot X ea) (Inv.hot I5 ea) (aAU t hg) OD.bound ?_ hdb)) (by intro z; cases z)
    refine aRF I5.kIn (OD.keeps I5.bk) he hc hm (codeAny_handlers_suite_as ?_)
    refine aAV fl5 fun h6 fl6 up56 => ?_
    have fl6' := fl6
    rw [<- hst.1] at fl6'
    obtain ⟨o6, I6, _⟩ := aUR I1 os bare hok keep there slot free tups frzs tbls fl6' ((up4.trans up45).trans up56)
    have hkl : X.env.kindOf n = some .local := by show X.env.scope.names.lookup n = _; rw [t.eS]; exact hl
    have hlo : X.env.scope.names.lookup n = some .local := hkl
    refine aBO (X := Cx.hot X ea) (v := .ref ea) (i := i) (Inv.hot I6 ea) t.nd (t.ix hi) (.inl hlo) rfl (fun s7 I7 => ?_) (.inr hlo)
    have k7 : Ok X.K B (upd F1 ea (.frz o6 (.ext (excAt ea C)))) (upd H2 ea (.frz o6 (.ext (excAt ea C)))) (σ1.set i (some (.ref ea))) (ρ1.set i (.val (.exh C ea))) := (k1.grow hn).setVal i (.exh zA)
    have q2 : Post X.K B (upd F1 ea (.frz o6 (.ext (excAt ea C)))) { nx := fun σ' H' => E.nx (σ'.set i none) H', rt := E.rt } (o ea) := by
      have q1 : Post X.K B (upd F1 ea (.frz o6 (.ext (excAt ea C)))) E ((o ea).drop i) := Post.later (ho ea B F E q) (sf.trans (yL (k1.sub.free hn)))
      revert q1
      cases o ea with
      | nx ρ2 =>
        intro q1
        intro F' H' σ' k' s'
        refine q1 F' H' (σ'.set i none) ⟨k'.toExt, by rw [List.length_set, List.length_set, k'.len], fun j d e => ?_, fun j xs e => ?_, fun j l xs ys a e1 e2 e3 e4 => ?_, k'.dic.to (.refl _) (fun _ _ e1 e2 _ => ⟨e1, e2⟩) (aIR fun _ z => nomatch z)⟩ s'
        . have ne : i ≠ j := fun z => by
            subst z; rw [List.getElem?_set_self'] at e
            cases w : ρ2[i]? with
            | none => rw [w] at e; cases e
            | some _ => rw [w] at e; cases e
          rw [List.getElem?_set_ne ne] at e ⊢
          exact k'.vals j d e
        . have ne : i ≠ j := fun z => by
            subst z; rw [List.getElem?_set_self'] at e
            cases w : ρ2[i]? with
            | none => rw [w] at e; cases e
            | some _ => rw [w] at e; cases e
          rw [List.getElem?_set_ne ne] at e ⊢
          exact k'.owns j xs e
        . have ne : ∀ {j : Nat} {xs : List D}, (ρ2.set i Sl.un)[j]? = some (.own xs) -> i ≠ j := fun {j xs} e z => by
            subst z; rw [List.getElem?_set_self'] at e
            cases w : ρ2[i]? with
            | none => rw [w] at e; cases e
            | some _ => rw [w] at e; cases e
          have n1 := ne e1
          have n2 := ne e2
          rw [List.getElem?_set_ne n1] at e1 e3
          rw [List.getElem?_set_ne n2] at e2 e4
          exact k'.dist j l xs ys a e1 e2 e3 e4
      | rt d => exact fun q1 => q1
    refine wpAny_mono (h ea B _ _ _ _ k7 q2 pins s7 I7) (fun f s8 z => ?_) fun _ _ z => t.no z
    have z' := SP.cold I.ok z
    cases f with
    | next =>
      obtain ⟨σ', H', I8, w⟩ := z'
      exact aKT I8 t.nd (t.ix hi) hkl fun s9 I9 => ⟨_, H', I9, w⟩
    | brk =>
      obtain ⟨σ', H', I8, w⟩ := z'
      exact w.elim
    | cont =>
      obtain ⟨σ', H', I8, w⟩ := z'
      exact w.elim
    | ret u =>
      obtain ⟨v, σ', H', I8, r, w⟩ := z'
      exact aKT I8 t.nd (t.ix hi) hkl fun s9 I9 => ⟨v, _, H', I9, r, w⟩
end
inductive Soft : Rho -> Rho -> Prop where
  | nil : Soft [] []
  | same {x : Sl} {ρ ρ' : Rho} : Soft ρ ρ' -> Soft (x :: ρ) (x :: ρ')
  | soft {C ea : Addr} {ρ ρ' : Rho} : Soft ρ ρ' -> Soft (.val (.exh C ea) :: ρ) (.val (.exc C) :: ρ')
theorem EvE.soft {X : Cx} {ρ : Rho} {e : Expr} {C ea : Addr} (h : EvE X ρ e (.exh C ea)) : EvE X ρ e (.exc C) := fun B F H σ Q k q => h B F H σ Q k fun v F' H' x r => by
  cases r with
  | exh hf => exact q _ F' H' x (.exc hf)
section
variable {X : Cx} {ρ : Rho} {N : List Str} {sc : Scope} {e : Expr} {d : D} {pos : Pos} {x : Str}
theorem vZ (t : At0 X N sc) (i : Nat) (hr : ρ[i]? = some (.val d)) (hN : N[i]? = some x := by rfl) (hv : VisS sc x = true := by rfl) (hx : NameOk x = true := by rfl) : EvE X ρ (.Name x pos) d := by
  have hx' := hx
  unfold NameOk at hx'
  rw [Bool.and_eq_true, Bool.not_eq_true', Bool.not_eq_true'] at hx'
  refine .of (aYB (by rw [t.eN]; exact hN) (by rw [t.eS]; exact aXQ hv) hx'.1 hx'.2) fun B F H σ Q k q => ?_
  obtain ⟨v, h1, h2⟩ := k.vals i d hr
  exact ⟨v, h1, q v F H (.refl k.sub) h2⟩
theorem eDO (t : At0 X N sc) (hf : ∀ x, X.fn x = true) (i : Nat) {pos' : Pos} (h : EvE X ρ e d) (hi : N[i]? = some x := by rfl) (hx : LocS sc x = true := by rfl) (hs : swapsWith e (some (.Name x pos')) pos.line X.env = pure false := by rfl) :
    EvS X ρ (.Assign [.Name x pos'] e pos) (.nx (ρ.set i (.val d))) :=
  .of (aLT (i := i) t.nd (by rw [t.eN]; exact hi) (by rw [t.eS]; exact aUB hx) pe_w hs (.inl (hf x))) fun B F H σ E k q => h B F H σ _ k fun v F' H' x' r => q F' H' _ ((k.ext x').setVal i r) x'.sf
end
end L2.EV
namespace L2.EV
open PySem PySem.Spec PyProof.Rows
section
variable {prog : Program} {w : World} {A : Around} {E : Value -> Shared -> Prop}
end
def wGs (X : Cx) (es : List Expr) : TGs := fun vs σ H Q => ∀ (pins : List (Addr × Obj)) (s : Shared) (us : List Value), Inv X pins σ H s -> Vals vs us -> wpAny (model X.prog X.w) X.A (assignInOrder ((assignEach es X.env).map (·.2)) us) (fun _ s' => ∃ σ' H', Inv X pins σ' H' s' /\ Q σ' H') X.xe s
theorem eBZ {X : Cx} {es : List Expr} : PGs X es (wGs X es) := fun pins s _ _ _ us _ I r h => h pins s us I r
def EvGs (X : Cx) (ρ : Rho) (es : List Expr) (ds : List D) (ρ' : Rho) : Prop := ((∀ env, (assignEach es env).length = ds.length) /\ ∀ env, (assignEach es env).findIdx? (·.1) = none) /\ ∀ (B : B0) (F H : Hp) (σ : St) (vs : List V) (Q : St -> Hp -> Prop), Ok X.K B F H σ ρ -> RepL X.K F vs ds ->
  (∀ F' H' σ', Ok X.K B F' H' σ' ρ' -> Same F F' -> Q σ' H') -> wGs X es vs σ H Q
def PlG (e : Expr) : Prop := ∀ (es : List Expr) (env : Env), assignEach (e :: es) env = (false, assign e env) :: assignEach es env
section
variable {X : Cx} {ρ ρ1 ρ' : Rho} {e : Expr} {es : List Expr} {d : D} {ds : List D} {pos : Pos} {N : List Str} {sc : Scope}
theorem aCJ : EvGs X ρ [] [] ρ := ⟨⟨fun _ => rfl, fun _ => rfl⟩, fun B F H σ vs Q k r q pins s us I ru => by
  cases r
  exact aTH pins s σ H [] us Q I ru ⟨rfl, q F H σ k (.refl _)⟩⟩
theorem zY (h1 : EvG X ρ e d ρ1) (h2 : EvGs X ρ1 es ds ρ') (hs : PlG e := by intro _ _; rfl) : EvGs X ρ (e :: es) (d :: ds) ρ' := ⟨⟨fun env => by rw [hs es env, List.length_cons, List.length_cons, h2.1.1 env], fun env => by
    rw [hs es env, List.findIdx?_cons]
    simp [h2.1.2 env]⟩, fun B F H σ vs Q k r q pins s us I ru => by
  cases r with
  | cons r1 r2 =>
    refine aJK pg_w eBZ (by rw [hs es X.env]; rfl) pins s σ H _ us Q I ru ⟨_, _, rfl, ?_⟩
    exact h1 B F H σ _ _ k r1 fun F1 H1 σ1 k1 s1 => h2.2 B F1 H1 σ1 _ _ k1 (r2.mono s1) fun F2 H2 σ2 k2 s2 => q F2 H2 σ2 k2 (s1.trans s2)⟩
theorem aGQ (t : At X N sc) {k : Nat} (h : EvGs X ρ es ds ρ') : EvG X ρ (.Tuple es k pos) (.tup ds) ρ' :=
  .of (aYA (n := ds.length) t.calm eBZ (h.1.1 _) (h.1.2 _)) fun B F H σ v Q k r q => by
    cases r with
    | tup hf rl => exact ⟨_, _, rfl, SqT.of (k.sub _ _ hf), rl.length, h.2 B F H σ _ Q k rl q⟩
end
end L2.EV
namespace L2.EV
open PySem PySem.Spec PyProof.Rows
structure XCls (K : PySem.W.Frag) (C : Addr) : Prop where
  ga : PySem.W.findIn K (.ref C) "__getattribute__" = some (some (.builtin "BaseException.__getattribute__"))
  gt : PySem.W.findIn K (.ref C) "__getattr__" = some none
  cl : PySem.W.findIn K (.ref C) "__class__" = some (some (.builtin "object.__class__"))
  ob : PySem.W.mroIn K C (.type "object") = some true
  be : PySem.W.mroIn K C (.type "BaseException") = some true
section
variable {prog : Program} {w : World} {A : Around} {E : Value -> Shared -> Prop} {h : Heap} {g : Array GenState} {d : Drawn} {t : Nat} {os : OsState} {a C : Addr} {o : Obj} {K : PySem.W.Frag}
theorem xget {R : Result -> Shared -> Prop} (X : K.In h) (c : XCls K C) (hx : h.get? a = some o) (hc : o.cls = .ref C) (hq : R (.ok (.ret (.ref C))) ⟨h, g, d, t, os⟩) :
    codeAny (model prog w) A (.call (.builtin "getset_descriptor.__get__") ⟨[.builtin "object.__class__", .ref a, .ref C], []⟩) R ⟨h, g, d, t, os⟩ := by
  have ty : (⟨h, g, d, t, os⟩ : Shared).TypeIs (.builtin "object.__class__") "getset_descriptor" := F.typeOf_object_class
  have L : PySem.W.Looks (model prog w) h (isSubtype (.ref C) (.type (".".intercalate ("object.__class__".cutAt '.').dropLast))) true := by rw [F.owner_object_class]; exact PySem.W.looks_mroIn X c.ob
  refine codeAny_call_builtin F.slot_gs_get.plain F.entry_gs_get (F.slot_gs_get.check _ _ _ _ _ _ _ _ ty (F.args_gs_get _ _ _) ?_)
  repeat (any_goals (first | assumption | (with_reducible refine wpAny_loadPart_at hx ?_; rw [hc]) | (with_reducible refine L.at ?_) | wp_step))
  refine ⟨Code.quiet_builtin _ (by decide +kernel), codeAny_builtin F.entry_object_class ?_⟩
  repeat (any_goals (first | assumption | (with_reducible refine wpAny_loadPart_at hx ?_; rw [hc]) | wp_step))
theorem xentry {tk : Tok} {Q : Fin -> Shared -> Prop} (X : K.In h) (c : XCls K C) (hx : h.get? a = some o) (hc : o.cls = .ref C) (hq : Q (.done (.ret (.ref C))) ⟨h, g, d, t, os⟩) :
    wpAny (model prog w) A (Builtin.«object.__getattribute__» ⟨[.ref a, .str "__class__" tk], []⟩) Q E ⟨h, g, d, t, os⟩ := by
  have ty : (⟨h, g, d, t, os⟩ : Shared).TypeIs (.builtin "object.__class__") "getset_descriptor" := F.typeOf_object_class
  have f5 := F.typeOf_object_class
  have f6 := F.slot_gs_get.lookup
  have f7 := F.slot_gs_set.lookup
  have L := PySem.W.looks_findIn (M := model prog w) X c.cl
  repeat (any_goals (first | assumption | (with_reducible refine wpAny_loadPart_at hx ?_; rw [hc]) | (with_reducible refine L.at ?_) | wp_step))
  refine xget X c hx hc ?_
  repeat (any_goals (first | assumption | wp_step))
theorem xcheck {M : Model} {n : Value} {Q : Unit -> Shared -> Prop} (X : K.In h) (c : XCls K C) (hx : h.get? a = some o) (hc : o.cls = .ref C) (hq : Q () ⟨h, g, d, t, os⟩) : wpAny M A (checkBuiltinCall "BaseException.__getattribute__" ⟨[.ref a, n], []⟩) Q E ⟨h, g, d, t, os⟩ := by
  have e1 : builtinKind "BaseException.__getattribute__" = some .slot := by decide +kernel
  have e2 : splitId "BaseException.__getattribute__" = some ("BaseException", "__getattribute__") := by decide +kernel
  have ha := F.args_bexc_ga (.ref a) n
  have L := PySem.W.looks_mroIn (M := M) X c.be
  simp only [checkBuiltinCall, e1, e2]
  refine wpAny_bind ?_
  unfold isInstance
  repeat (first | (with_reducible refine wpAny_loadPart_at hx ?_; rw [hc]) | (with_reducible refine L.at ?_) | wp_step)
  exact hq
theorem xby {tk : Tok} {Q : Value -> Shared -> Prop} (X : K.In h) (c : XCls K C) (hx : h.get? a = some o) (hc : o.cls = .ref C) (hq : Q (.ref C) ⟨h, g, d, t, os⟩) : wpAny (model prog w) A (getAttrBy (.ref a) (.str "__class__" tk) false) Q E ⟨h, g, d, t, os⟩ := by
  have f3 := F.attr_ValueError.ga.bind (.ref a)
  have ne : (Value.builtin "BaseException.__getattribute__" == Value.builtin "object.__getattribute__") = false := by decide +kernel
  have ne1 : (onTheHeap (Value.ref C) && Value.builtin "BaseException.__getattribute__" == Value.builtin "object.__getattribute__") = false := by rw [ne]; rfl
  have L1 := PySem.W.looks_findIn (M := model prog w) X c.ga
  have L2 := PySem.W.looks_findIn (M := model prog w) X c.gt
  repeat (any_goals (first | assumption | (with_reducible refine wpAny_loadPart_at hx ?_; rw [hc]) | (with_reducible refine L1.at ?_) | (with_reducible refine L2.at ?_) | wp_step))
  refine codeAny_call_builtin F.attr_ValueError.ga.plain F.entry_bexc_ga (xcheck X c hx hc (xentry X c hx hc ?_))
  repeat (any_goals (first | assumption | wp_step))
theorem xattr {Q : Option Value -> Shared -> Prop} (X : K.In h) (c : XCls K C) (hx : h.get? a = some o) (hc : o.cls = .ref C) (hq : Q (some (.ref C)) ⟨h, g, d, t + 1, os⟩) : wpAny (model prog w) A (getAttr? (.ref a) "__class__") Q E ⟨h, g, d, t, os⟩ := by
  unfold getAttr? getAttrBy?
  repeat (any_goals (first | assumption | with_reducible apply xby X c hx hc | wp_step))
end
theorem aTV {K : PySem.W.Frag} {C : Addr} {v : Value} {b : Bool} (h : PySem.W.mroIn K C v = some b) : ∃ c0 dd cd sl, K.lookup C = some ⟨c0, dd, .cls cd, sl⟩ := by
  obtain ⟨cd, e, _⟩ := Option.bind_eq_some_iff.mp h
  unfold PySem.W.clsIn at e
  split at e
  . rename_i c0 dd cd' sl ho
    exact ⟨c0, dd, cd', sl, ho⟩
  . cases e
theorem aXB {K : PySem.W.Frag} {a C : Addr} (c : XCls K C) : PySem.W.KitX K (.ref a) (.ref C) (excAt a C) where
  ty := fun M h X ⟨o, vs, e1, e2, e3, e4⟩ => e2 ▸ (PySem.W.Looks.ld e1).andThen .now
  it := fun M h X _ => by
    obtain ⟨c0, dd, cd, sl, e⟩ := aTV c.ob
    intro A' Q' E' s' k q
    unfold isType loadHead
    exact wpAny_bind (wpAny_loadPart (k _ _ (X _ _ e)) (wpAny_pure q))
  ne := fun h tp dd its n sl X e => by
    obtain ⟨c0, dd', cd, sl', e'⟩ := aTV c.ob
    refine Bool.eq_false_iff.mpr fun q => ?_
    have z : C = tp := Value.ref.inj (beq_iff_eq.mp q)
    subst z
    have := (X _ _ e').symm.trans e
    cases this
  ca := fun {_ _ _ _ _ s} X ⟨o, vs, e1, e2, e3, e4⟩ q => by
    obtain ⟨h, g, d, t, os⟩ := s
    exact xattr X c e1 e2 q
section
variable {X : Cx} {ρ : Rho} {a : Expr} {C : Addr} {p pos : Pos} {N : List Str} {sc : Scope} {x : Str}
theorem aYH {F H : Hp} {v : V} {C : Addr} (sub : Same F H) (r : Rep X.K F v (.exc C)) : ∃ ea ob, v = .ref ea /\ H ea = some (.frz ob (.ext (excAt ea C))) := by
  cases r with
  | exc h => exact ⟨_, _, rfl, sub _ _ h⟩
theorem aYE (c : XCls X.K C) {cv : V} {cu : Value} {k : Bool} (rc : ∀ u, RelV cv u -> u = cu) (hk : PySem.W.kitOne X.K (.ref C) cu = some k) :
    CallR X (.builtin "isinstance") (fun xs H Q => ∃ v b ob, xs = [v, cv] /\ v = .ref b /\ H b = some (.frz ob (.ext (excAt b C))) /\ Q (.bl k) H) := by
  intro pins s σ H xs us Q I r h
  obtain ⟨v, b, ob, rfl, rfl, hb, q⟩ := h
  obtain ⟨u, w, rfl, ru, rw'⟩ := vals2 r
  have e := rc w rw'
  subst e
  cases (show u = Value.ref b from ru)
  obtain ⟨_, hp, _, _⟩ := (show ObjOk X.prog X.w H s.heap b (.frz ob (.ext (excAt b C))) from I.hok b _ hb)
  exact PySem.W.kia_one (aXB c) I.kIn hp hk (fun z => nomatch z) fun tk => ⟨.bl k, H, I.tok tk, rfl, q⟩
theorem gl_z (t : At0 X N sc) {x : Str} (h : sc.names.lookup x = some .globalImplicit) : Gl X x := by
  show X.env.scope.names.lookup x = _
  rw [t.eS]; exact h
theorem aCK (t : At0 X N sc) {y : Str} {Dc : Addr} {k : Bool} {py : Pos} (bl : Blt X sc x (.builtin "isinstance")) (c : XCls X.K C) (hy : X.mg y = some (.ref Dc)) (ha : EvE X ρ a (.exc C)) (hk : PySem.W.kitOne X.K (.ref C) (.ref Dc) = some k)
    (hg : sc.names.lookup y = some .globalImplicit := by rfl) (hd : (y == ("__debug__" : Str)) = false := by rfl) (hpa : Pl a := by intro _ _; rfl) : EvE X ρ (.Call (.Name x p) [a, .Name y py] [] pos) (.bl k) :=
  .of (wR (aYE c (cv := .ref Dc) (fun u h => h) hk) (gl_z t bl.g) bl.m bl.v (zJ pe_w (zJ (aTJ (v := .ref Dc) (gl_z t hg) hy rfl hd) vG) (hpa _ _)) bl.n bl.d (hpa _ _) rfl) fun B F H σ Q k' q =>
    ha B F H σ _ k' fun v F' H' x' r => by
      obtain ⟨ea, ob, rfl, hb⟩ := aYH x'.sub r
      exact ⟨_, ea, ob, rfl, rfl, hb, q _ F' H' x' (.bl k)⟩
theorem eAY (t : At0 X N sc) {y : Str} {T : String} {k : Bool} {py : Pos} (bl : Blt X sc x (.builtin "isinstance")) (c : XCls X.K C) (bt : Blt X sc y (.type T)) (ha : EvE X ρ a (.exc C)) (hk : PySem.W.kitOne X.K (.ref C) (.type T) = some k)
    (hpa : Pl a := by intro _ _; rfl) : EvE X ρ (.Call (.Name x p) [a, .Name y py] [] pos) (.bl k) :=
  .of (wR (aYE c (cv := .ty T) (fun u h => h) hk) (gl_z t bl.g) bl.m bl.v (zJ pe_w (zJ (aTL (v := .ty T) (gl_z t bt.g) bt.m bt.v rfl bt.n bt.d) vG) (hpa _ _)) bl.n bl.d (hpa _ _) rfl) fun B F H σ Q k' q =>
    ha B F H σ _ k' fun v F' H' x' r => by
      obtain ⟨ea, ob, rfl, hb⟩ := aYH x'.sub r
      exact ⟨_, ea, ob, rfl, rfl, hb, q _ F' H' x' (.bl k)⟩
def isNon : D -> Bool
  | .non => true
  | _ => false
theorem aNR {K : PySem.W.Frag} {F : Hp} {v : V} {d : D} (r : Rep K F v d) : decide (v = .non) = isNon d := by cases r <;> rfl
variable {d : D}
theorem aOF {j : Nat} {p' : Pos} (ha : EvE X ρ a d) : EvE X ρ (.Compare a [.IsNot] [.Constant .none j p'] pos) (.bl (!isNon d)) :=
  .of (aJL aTO pe_w pe_w (nobehind _ (by decide) (by decide))) fun B F H σ Q k q => two ha aEJ k fun x y F' H' x' rx ry => by
    cases ry; exact ⟨rfl, by rw [aNR rx]; exact q _ F' H' x' (.bl _)⟩
theorem aYN {j : Nat} {p' : Pos} (ha : EvE X ρ a d) : EvT X ρ (.Compare a [.Is] [.Constant .none j p'] pos) (isNon d) :=
  aGP eCP ha aEJ (nobehind _ (by decide) (by decide)) fun F H x y Q rx ry q => by cases ry; exact ⟨rfl, by rw [aNR rx]; exact q⟩
theorem aUZ {j : Nat} {p' : Pos} (ha : EvE X ρ a d) : EvT X ρ (.Compare a [.IsNot] [.Constant .none j p'] pos) (!isNon d) :=
  aGP aTO ha aEJ (nobehind _ (by decide) (by decide)) fun F H x y Q rx ry q => by cases ry; exact ⟨rfl, by rw [aNR rx]; exact q⟩
end
end L2.EV
namespace L2.EV
open PySem PySem.Spec PyProof.Rows
open AutoSeq1 (wpAny_loadPart')
section
variable {prog : Program} {w : World} {A : Around} {E : Value -> Shared -> Prop} {s : Shared}
end
section
variable {X : Cx} {ρ : Rho} {a tg : Expr} {pos : Pos} {N : List Str} {sc : Scope} {ds : List D}
end
end L2.EV
namespace L2.EV
open PySem PySem.Spec PyProof.Rows
abbrev Around.cool (A : Around) : Around := { A with handled := none }
structure FnOkH (P : Program) (w : World) (K : PySem.W.Frag) (mg : Str -> Option Value) (base : Heap) (k : Nat) (f : Addr) (fd : FuncData) (ps : List Str) (sp : Sp) : Prop where
  len : ∀ vs H Q E, sp vs H Q E -> vs.length = ps.length
  run : ∀ (A : Around) (outer : List Env) (s : Shared) (H : Hp) (args : Args) (us : List Value) (vs : List V) (Q : VK) (E : XK), Room k (Around.cool A) -> Env0 P w K mg base A outer s H -> HotH A H -> BindsTo s fd args (ps.zip us) -> Vals vs us -> sp vs H Q E ->
    codeAny (model P w) A (.call (.ref f) args) (CR CX0 outer P w H s Q E) s
structure DefH (P : Program) (w : World) (K : PySem.W.Frag) (mg : Str -> Option Value) (base : Heap) (N : List Str) (sc : Scope) (X : Cx) : Prop where
  at0 : At0 X N sc
  prog : X.prog = P
  w' : X.w = w
  k' : X.K = K
  mg' : X.mg = mg
  base' : X.base = base
  fnT : FnT X
  hot : HotX X
theorem HotX.now {X : Cx} {pins : List (Addr × Obj)} {σ : St} {H : Hp} {s : Shared} (h : HotX X) (I : Inv X pins σ H s) : HotH X.A H := by
  obtain ⟨ea, oe, u, vs, k1, k2, k3, k4⟩ := h
  exact ⟨ea, oe, u, vs, k1, I.base.frzs ea oe u k2, k3, k4⟩
theorem eDG {P : Program} (htree : P.given.tree = none) {w : World} {K : PySem.W.Frag} {mg : Str -> Option Value} {base : Heap} {x qual : Str} {st : Stmt} {f : Addr} {fd : FuncData} {N ps : List Str} {k : Nat} {C : List D -> D -> Prop} (Fn : Fun K x qual st f fd) (S : FnScope N ps (defScope st))
    (len : ∀ ds d, C ds d -> ds.length = ps.length)
    (body : ∀ X, DefH P w K mg base N (defScope st) X -> ∀ ds d, C ds d -> EvSs X (ds.map Sl.val ++ List.replicate (N.length - ds.length) Sl.un) (defBody st) (.rt d)) : FnOkH P w K mg base (k + 1) f fd ps (spC K C) := by
  obtain ⟨oc, od, kV, doc, pm, an, cdv, ct, osl, rfl, lk, hcd⟩ := Fn.ex
  have len' : ∀ vs H Q E, spC K C vs H Q E -> vs.length = ps.length := fun vs H Q E h => by
    obtain ⟨F', ds, d, sub, r, hC, q⟩ := h
    rw [r.length]; exact len ds d hC
  refine ⟨len', fun A outer s H args us vs Q E hr e0 hot hb r hsp => ?_⟩
  have hl := len' _ _ _ _ hsp
  have KX : K.In s.heap := e0.mod.kin.keeps fun b o e => (e0.bs b o e).1
  have lim : s.heap.NoLimit := e0.mod.nolimit.keeps fun b o e => (e0.bs b o e).1
  have hkind : ∀ y ∈ ps.zip us, (defScope st).names.lookup y.1 = some .local \/ ((defScope st).names.lookup y.1 = some .cell /\ ((cellsFrom (s.heap.objs.size + 1) (defScope st).names []).lookup y.1).isSome = true) := fun ⟨n, v⟩ hy => by
    rcases S.par n (List.of_mem_zip hy).1 with q | q
    . exact .inl q
    . exact .inr ⟨q, PySem.W.cellsFrom_some _ _ _ (.inl q)⟩
  refine codeAny_call_function (show A.depth < recursionLimit from hr.depth) (KX _ _ lk) rfl S.co S.gen rfl (PySem.W.codeRec_of KX hcd) (hb _ _ _ _ ?_)
  refine wpAny_newFunctionEnv_cells S.kind hkind fun env he s1 x => ?_
  subst he
  refine ⟨lim.keeps x.toInCall.keep, codeAny_func ?_⟩
  have I0 := aMK (CX := CX0) (E := E) S (A := Around.cool A) (cd := cdv) rfl ⟨e0.frames, e0.mod, e0.bs, e0.bsz, e0.funs, e0.frf, e0.hok, e0.bare⟩ hl r x
  let X : Cx := { (cxOf CX0 P w K mg base N qual (defScope st) f cdv A outer s H E).nox with calm := false }
  have I : Inv X [] (start N vs) H s1 := ⟨⟨I0.ok.mod, I0.ok.kind, I0.ok.glob, I0.ok.blt, I0.ok.above, I0.ok.inj, I0.ok.has, I0.ok.cab, (fun z => nomatch z), I0.ok.frames, I0.ok.stk, I0.ok.exf, I0.ok.bs, I0.ok.bsz, I0.ok.noex, I0.ok.exfs, I0.ok.funs, I0.ok.frf⟩, I0.os, I0.bare, I0.base, I0.loc, I0.cell, I0.free, I0.freeC, I0.pin, I0.hok, I0.len⟩
  have hrd : Room k ((Around.cool A).deeper (envOfC qual (defScope st) s.heap.objs.size f cdv)) := hr.deeper _
  have hx : DefH P w K mg base N (defScope st) X := ⟨⟨rfl, rfl, S.nd, rfl, hrd.units, hrd.dp100, htree, ⟨_, _, rfl, S.gen, S.co, rfl, rfl⟩⟩, rfl, rfl, rfl, rfl, rfl, ⟨fun _ => rfl⟩, hot⟩
  obtain ⟨F', ds, d, sub, rr, hC, q⟩ := hsp
  have hk : Ok K ⟨F', H⟩ F' H (start N vs) (ds.map Sl.val ++ List.replicate (N.length - ds.length) Sl.un) := by
    unfold start
    rw [rr.length]
    exact aJO sub rr _
  refine wpAny_mono (body X hx ds d hC ⟨F', H⟩ F' H _ { nx := fun _ H' => False, rt := Q } hk (fun v F2 H2 x2 r2 => q v F2 H2 x2 r2) [] s1 I) (fun fl s' hs => ?_) fun _ _ z => z.elim
  cases fl with
  | ret u =>
    obtain ⟨v, σ', H', J, rv, qq⟩ := hs
    exact ⟨v, H', J.os, J.bare, J.base, J.hok, rv, qq⟩
  | next => obtain ⟨_, _, _, z⟩ := hs; exact z.elim
  | brk => obtain ⟨_, _, _, z⟩ := hs; exact z.elim
  | cont => obtain ⟨_, _, _, z⟩ := hs; exact z.elim
def CalleeH (X : Cx) (x : Str) (C : List D -> D -> Prop) : Prop := ∃ (f : Addr) (fd : FuncData) (ps : List Str) (k : Nat), FnOkH X.prog X.w X.K X.mg X.base k f fd ps (spC X.K C) /\ Room k (Around.cool X.A) /\ X.mg x = some (.ref f) /\ PySem.W.keepIn X.K (.ref f) = true /\ Binds X.K fd ps []
section
variable {X : Cx} {N : List Str} {sc : Scope} {ρ : Rho} {e a b tg : Expr} {es : List Expr} {d : D} {ds : List D} {p pos : Pos} {x : Str} {ea Ce : Addr}
theorem DefX.calleeH {P : Program} {w : World} {K : PySem.W.Frag} {mg : Str -> Option Value} {base : Heap} {k j : Nat} {f : Addr} {fd : FuncData} {ps : List Str} {C : List D -> D -> Prop} (h : DefX P w K mg base k N sc X)
    (F : FnOkH P w K mg base j f fd ps (spC K C)) (hj : j <= k) (hm : mg x = some (.ref f)) (hk : PySem.W.keepIn K (.ref f) = true) (hb : Binds K fd ps []) : CalleeH X x C := by
  obtain ⟨h0, rfl, rfl, rfl, rfl, rfl, hr, _⟩ := h
  exact ⟨f, fd, ps, j, F, ⟨rfl, (hr.mono hj).dp, (hr.mono hj).un⟩, hm, hk, hb⟩
theorem eDD {pins : List (Addr × Obj)} {σ : St} {H : Hp} {s : Shared} {B : B0} {F : Hp} {i : Nat} (hA : X.A.handled = some (.ref ea)) (I : Inv X pins σ H s) (k : Ok X.K B F H σ ρ) (hi : ρ[i]? = some (.val (.exh Ce ea))) : HotH X.A H := by
  obtain ⟨v, _, r⟩ := k.vals i _ hi
  cases r with
  | exh hf =>
    have hH := k.sub _ _ hf
    obtain ⟨ho, ⟨ob, vs, e1, _, e3, e4⟩, _⟩ := (show ObjOk X.prog X.w H s.heap ea (.frz _ (.ext (excAt ea Ce))) from I.hok ea _ hH)
    rw [ho] at e1; cases e1
    exact ⟨ea, _, _, vs, hA, hH, e3, e4⟩
theorem eBB (t : At0 X N sc) {C : List D -> D -> Prop} (hA : X.A.handled = some (.ref ea)) (i : Nat) (hi : ρ[i]? = some (.val (.exh Ce ea))) (h : CalleeH X x C) (ha : EvA X ρ (e :: es) ds) (hC : C ds d) (hg : sc.names.lookup x = some .globalImplicit := by rfl) (hdb : (x == ("__debug__" : Str)) = false := by rfl) :
    EvE X ρ (.Call (.Name x p) (e :: es) [] pos) d := by
  obtain ⟨f, fd, ps, k, Fn, hr, hm, hk, hb⟩ := h
  intro B F H σ Q k0 q pins s I
  refine wpAny_Call_Name_kw (aCG I (gl_z t hg) hm ?_ hdb)
  refine PySem.W.callWith_K (h₀ := X.base) I.ok.mod.kin hk (thn (ha.2 B F H σ (fun vs H1 => ∃ F1, Ext ⟨F, H⟩ F1 H1 /\ RepL X.K F1 vs ds) k0 (fun vs F1 H1 x1 r1 => ⟨F1, x1, r1⟩) pos pins s I) fun us s1 z => ?_) (ha.1.1 _ _) (PlA.any ha.1.2)
  obtain ⟨vs, H1, I1, r, F1, x1, r1⟩ := z
  refine ⟨I1.kIn, ?_⟩
  have hsp : spC X.K C vs H1 Q E0 := ⟨F1, ds, d, x1.sub, r1, hC, fun v F2 H2 x2 r2 => q v F2 H2 (x1.t x2) r2⟩
  have hl : us.length = ps.length := by rw [<- r.length]; exact Fn.len _ _ _ _ hsp
  refine wpAny_call (codeAny_mono (Fn.run X.A X.stack s1 H1 ⟨us, []⟩ us vs Q E0 hr I1.env0 (eDD hA I1 (k0.ext x1) hi) (by have := hb s1 us I1.kIn (by rw [List.append_nil]; exact hl); rw [List.append_nil] at this; exact this) r hsp) fun r' s' hq => ?_)
  cases r' with
  | error e' => exact False.elim hq
  | ok fl =>
    cases fl with
    | ret u => exact I1.after hq
    | next => exact False.elim hq
    | brk => exact False.elim hq
    | cont => exact False.elim hq
theorem CalleeH.suite {C : List D -> D -> Prop} (h : CalleeH X x C) (ea : Addr) : CalleeH (Cx.hot X ea) x C := by
  obtain ⟨f, fd, ps, k, Fn, hr, hm, hk, hb⟩ := h
  exact ⟨f, fd, ps, k, Fn, ⟨rfl, hr.dp, hr.un⟩, hm, hk, hb⟩
theorem eAX (t : At0 X N sc) (hf : ∀ x, X.fn x = true) (i : Nat) {pos' : Pos} {xs : List D} (h : EvN X ρ e xs) (hi : N[i]? = some x := by rfl) (hx : LocS sc x = true := by rfl) (hs : swapsWith e (some (.Name x pos')) pos.line X.env = pure false := by rfl) :
    EvS X ρ (.Assign [.Name x pos'] e pos) (.nx (ρ.set i (.own xs))) :=
  .of (aLT (i := i) t.nd (by rw [t.eN]; exact hi) (by rw [t.eS]; exact aUB hx) pe_w hs (.inl (hf x))) fun B F H σ E k q => h B F H σ _ k fun p vs F' H' x' h0 hp hf' r =>
    q F' H' _ ((k.ext x').setOwn i hp hf' (k.sh.free h0) (k.noOwn h0) r) x'.sf
theorem aVZ (t : At0 X N sc) {j : Int} (bl : Blt X sc "range" (.type "range")) (h : EvE X ρ a (.int j)) (h1 : -(2 ^ 62) <= j) (h2 : j < 2 ^ 62) (hs : Pl a := by intro _ _; rfl) : EvIh X ρ tg (.Call (.Name "range" p) [a] [] pos) (rangeD 0 j.toNat) := fun B F H σ R k q pins s I =>
  aLY (gl_z t bl.g) bl.m (zJ pe_w vG (hs _ _)) (hs _ _) pins s σ H R I (h B F H σ _ k fun v F' H' x r => by
    cases r
    exact ⟨j, rfl, h1, h2, q _ F' H' trivial x aUI⟩)
theorem eBO (t : At0 X N sc) {p q : PyData} (sp : SeqAt.shaped p = true) (sq : SeqAt.shaped q = true) : OpR X (compareOp .Eq) (fun x y H Q => RdP X H x p /\ RdP X H y q /\ Q (.bl (p.eqv q)) H) := by
  intro pins s σ H x y v u Q I rx ry h
  obtain ⟨h1, h2, h3⟩ := h
  obtain ⟨as, r1⟩ := h1 (SeqAt.canLay_of_shaped sp) H (.refl _) pins σ s v I rx
  obtain ⟨bs, r2⟩ := h2 (SeqAt.canLay_of_shaped sq) H (.refl _) pins σ s u I ry
  exact eq_dataH r1 r2 sp sq t.un ⟨.bl _, H, I, rfl, h3⟩
theorem eAZ (t : At0 X N sc) {p q : PyData} (ha : EvP X ρ a p) (hb : EvP X ρ b q) (sp : SeqAt.shaped p = true) (sq : SeqAt.shaped q = true) {r : Bool} (hr : p.eqv q = r) : EvE X ρ (.Compare a [.Eq] [b] pos) (.bl r) :=
  .of (aJL (eBO t sp sq) pe_w pe_w (nobehind _ (by decide) (by decide))) fun B F H σ Q k q => twoP ha hb k fun x y F' H' x' rx ry => ⟨rx, ry, by rw [hr]; exact q _ F' H' x' (.bl r)⟩
theorem eDP (t : At0 X N sc) {i j : Int} (ha : EvE X ρ a (.int i)) (hb : EvE X ρ b (.int j)) : EvE X ρ (.Compare a [.Eq] [b] pos) (.bl (decide (i = j))) :=
  eAZ t (EvE.p ha) (EvE.p hb) rfl rfl (by show (PyData.int i).eqv (.int j) = _; simp only [PyData.eqv]; exact Bool.beq_eq_decide_eq i j)
theorem aPB (t : At0 X N sc) (i : Nat) (hi : N[i]? = some x := by rfl) (hx : sc.names.lookup x = some .local := by rfl) : EvGn X ρ (.Name x pos) d (ρ.set i (.val d)) :=
  .of (aFZ (i := i) t.nd (by rw [t.eN]; exact hi) (by rw [t.eS]; exact .inl hx) (by rw [t.eS]; exact .inr hx)) fun B F H σ v Q k r q => q _ (k.setVal i r) fun p h => h.setVal i _ d
end
end L2.EV
namespace L2.EV
open PySem PySem.Spec PyProof.Rows
section
variable {X : Cx} {m : Bool} {ρ ρ1 ρ' : Rho} {e a b c : Expr} {es : List Expr} {d : D} {ds : List D} {pos p : Pos} {N : List Str} {sc : Scope} {C : Addr} {st : Stmt} {rest : List Stmt} {x : Str}
theorem aZQ : OpR X (binaryOp .Sub) (fun x y H Q => ∃ k j : Bool, x = .bl k /\ y = .bl j /\ Q (.int (b2i k - b2i j)) H) := by
  intro pins s σ H x y v u Q I rx ry h
  obtain ⟨k, j, rfl, rfl, q⟩ := h
  cases rx
  cases ry
  exact sub_bool ⟨.int (b2i k - b2i j), H, I.tok _, ⟨_, rfl⟩, q⟩
theorem eAH {k j : Bool} (ha : EvE X ρ a (.bl k)) (hb : EvE X ρ b (.bl j)) : EvE X ρ (.BinOp a .Sub b pos) (.int (b2i k - b2i j)) :=
  .of (aTI aZQ pe_w pe_w) fun B F H σ Q k' q => two ha hb k' fun x y F' H' x' rx ry => by
    cases rx; cases ry
    exact ⟨k, j, rfl, rfl, q _ F' H' x' (.int _)⟩
theorem aPL [FnT X] (t : At X N sc) (i j : Nat) {xs : List D} {apos cpos pos' : Pos} {y : Str} (hr : ρ[i]? = some (.own (xs ++ [d]))) (hij : i ≠ j) (hN : N[i]? = some y := by rfl) (hv : VisS sc y = true := by rfl) (hx : NameOk y = true := by rfl)
    (hj : N[j]? = some x := by rfl) (hl : LocS sc x = true := by rfl)
    (hline : (apos.endLine == cpos.line) = true := by rfl) (hs : swapsWith (.Call (.Attribute (.Name y p) "pop" apos) [] [] cpos) (some (.Name x pos')) pos.line X.env = pure false := by rfl) :
    EvS X ρ (.Assign [.Name x pos'] (.Call (.Attribute (.Name y p) "pop" apos) [] [] cpos) pos) (.nx ((ρ.set i (.own xs)).set j (.val d))) :=
  .of (aLT (i := j) t.nd (t.ix hj) (t.loc hl) (aTK PySem.F.plainAttrs_list PySem.F.slot_list_pop PySem.F.type_list_pop aTU pe_w rfl hline) hs hfT) fun B F H σ E k q =>
    aHZ t hr hN hv hx k fun l vs h1 h2 h3 => ⟨.inl ⟨rfl, _, SqL.of h2⟩, by
      have hlen := h3.length
      obtain ⟨w, hw, rw'⟩ := h3.get (i := xs.length) (d := d) (by simp)
      have hll : vs.length - 1 = xs.length := by rw [hlen]; simp
      refine ⟨l, vs, w, rfl, rfl, h2, by rw [hll]; exact hw, ?_⟩
      have k2 := k.chgOwn (vs := vs) (ds := xs) hr h1 (by have := h3.dropLast; rwa [List.dropLast_concat] at this)
      exact q F _ _ (k2.setVal j rw') (.refl _)⟩
theorem x_ix (h : XvE X m ρ a C ρ') : XvE X m ρ (.Subscript a b pos) C ρ' := fun B F H σ k pins s I => Subscript_ (wpAny_mono (h B F H σ k pins s I) (fun _ _ z => z.elim) fun _ _ z => z)
theorem eDR (t : At X N sc) {D' : List D -> D -> Prop} (c : Callee X x D') (ha : XvA X m ρ (e :: es) C ρ') (hp : starEach (e :: es) X.env = (false, eval e X.env) :: starEach es X.env := by rfl) (hpl : (backTo pos (starEach es X.env)).any (·.1) = false := by rfl) (hg : sc.names.lookup x = some .globalImplicit := by rfl) (hdb : (x == ("__debug__" : Str)) = false := by rfl) : XvE X m ρ (.Call (.Name x p) (e :: es) [] pos) C ρ' := by
  obtain ⟨f, fd, ps, k, Fn, hr, hm, hk, hb⟩ := c
  intro B F H σ k0 pins s I
  refine wpAny_Call_Name_kw (aCG I (aAU t hg) hm ?_ hdb)
  exact PySem.W.callWith_K (h₀ := X.base) I.ok.mod.kin hk (wpAny_mono (ha B F H σ k0 pos pins s I) (fun us s1 z => z.elim) fun _ _ z => z) hp hpl
end
end L2.EV
namespace L2.EV
open PySem PySem.Spec PyProof.Rows
section
variable {X : Cx} {m : Bool} {ρ ρ1 ρ' : Rho} {e a b c : Expr} {es : List Expr} {d : D} {ds : List D} {pos p : Pos} {N : List Str} {sc : Scope} {C : Addr} {st : Stmt} {rest : List Stmt} {x : Str}
end
end L2.EV
namespace HT
open PySem PyProof.Rows PySem.Spec
section
variable {prog : Program} {w : World} {A : Around} {E : Value -> Shared -> Prop} {s : Shared}
theorem pick_rev (xs : Array Value) : ((List.range xs.size).filterMap fun (m : Nat) => xs[((xs.size : Int) - 1 + (m : Int) * (-1)).toNat]?).toArray = xs.toList.reverse.toArray := by
  have cong : ∀ (f g : Nat -> Option Value) (l : List Nat), (∀ m ∈ l, f m = g m) -> l.filterMap f = l.filterMap g := by
    intro f g l
    induction l with
    | nil => intro _; rfl
    | cons m l ih =>
      intro h
      have h1 := ih fun m hm => h m (List.mem_cons_of_mem _ hm)
      rw [List.filterMap_cons, List.filterMap_cons, h m (List.mem_cons_self ..), h1]
  have h2 : ∀ (n : Nat) (r : List Value), r.length = n -> (List.range r.length).filterMap (fun m => r[m]?) = r := by
    intro n
    induction n with
    | zero => intro r hr; rw [List.eq_nil_of_length_eq_zero hr]; rfl
    | succ n ih =>
      intro r hr
      rcases List.eq_nil_or_concat r with e | ⟨ys, y, e⟩
      . subst e; simp at hr
      . rw [List.concat_eq_append] at e
        subst e
        have hl : ys.length = n := by simpa using hr
        rw [List.length_append, List.length_singleton, List.range_succ, List.filterMap_append]
        have e1 := cong (fun m => (ys ++ [y])[m]?) (fun m => ys[m]?) (List.range ys.length) fun m hm => List.getElem?_append_left (List.mem_range.mp hm)
        rw [e1, ih ys hl]
        congr 1
        simp
  have key : ∀ l : List Value, (List.range l.length).filterMap (fun (m : Nat) => l[((l.length : Int) - 1 + (m : Int) * (-1)).toNat]?) = l.reverse := by
    intro l
    have h1 := cong (fun (m : Nat) => l[((l.length : Int) - 1 + (m : Int) * (-1)).toNat]?) (fun m => l.reverse[m]?) (List.range l.length) fun m hm => by
      have hm' := List.mem_range.mp hm
      show l[((l.length : Int) - 1 + (m : Int) * (-1)).toNat]? = l.reverse[m]?
      rw [List.getElem?_reverse hm']
      congr 1; omega
    rw [h1]
    have := h2 _ l.reverse rfl
    rw [List.length_reverse] at this
    exact this
  have := key xs.toList
  rw [Array.length_toList] at this
  have e : (fun (m : Nat) => xs.toList[((xs.size : Int) - 1 + (m : Int) * (-1)).toNat]?) = fun (m : Nat) => xs[((xs.size : Int) - 1 + (m : Int) * (-1)).toNat]? := by
    funext m; exact Array.getElem?_toList
  rw [e] at this
  rw [this]
end
end HT
namespace L2.EV
open PySem PySem.Spec PyProof.Rows
section
variable {X : Cx} {ρ : Rho} {a c : Expr} {xs : List D} {pos p2 : Pos}
end
end L2.EV
namespace L2.EV
open PySem PySem.Spec PyProof.Rows
section
variable {X : Cx} {ρ ρ' : Rho} {e : Expr} {es : List Expr} {d : D} {ds xs : List D} {pos p pos' : Pos} {N : List Str} {sc : Scope} {st : Stmt} {rest : List Stmt} {x : Str}
end
end L2.EV
namespace L2.EV
open PySem PySem.Spec PyProof.Rows
def del (F : Hp) (p : Addr) : Hp := fun a => if a = p then none else F a
section
variable {X : Cx} {ρ : Rho} {es : List Expr} {ds xs : List D} {pos p py : Pos} {N : List Str} {sc : Scope} {x y : Str}
end
end L2.EV
namespace L2
open PySem PySem.Spec PyProof.Rows
section
variable {X : Cx} {tg : Expr}
end
end L2
namespace L2.EV
open PySem PySem.Spec PyProof.Rows
section
variable {X : Cx} {ρ : Rho} {a b c tg e : Expr} {d : D} {pos : Pos} {N : List Str} {sc : Scope} {x : Str}
end
end L2.EV
namespace L2.EV
open PySem PySem.Spec PyProof.Rows
section
variable {prog : Program} {w : World} {A : Around} {E : Value -> Shared -> Prop} {s : Shared} {it d : Addr} {i n ep : Nat} {es : Array DictEntry} {e : DictEntry} {o : Obj}
end
abbrev KVs := List (List Int × Int)
abbrev KXs := List (List Int × Addr × Int)
theorem items_int {P : Program} {w : World} : ∀ {ks : List Int} {us : List Value}, Vals (ks.map V.int) us -> ItemsAre (intKind P w) ks us
  | [], _, r => by rw [List.map_nil] at r; cases r; exact .nil
  | k :: ks, _, r => by
    rw [List.map_cons] at r
    cases r with
    | cons h t =>
      obtain ⟨tk, rfl⟩ := (show ∃ t, _ = Value.int k t from h)
      exact .cons (by show Value.isInt k (.int k tk) = true; simp [Value.isInt]) (items_int t)
section
variable {X : Cx} {pins : List (Addr × Obj)} {σ : St} {H : Hp} {s : Shared} {a b : Addr} {xs : KXs}
end
end L2.EV
namespace L2.EV
open PySem PySem.Spec PyProof.Rows
section
variable {K : PySem.W.Frag} {B : B0} {F H : Hp} {σ : St} {ρ : List Sl} {p : Addr} {kvs kvs' : KVs} {es es' : KXs}
end
section
variable {X : Cx} {ρ ρ' : Rho} {e a b c : Expr} {d : D} {pos p : Pos} {N : List Str} {sc : Scope} {x y : Str} {kvs kvs' : KVs} {sts : List Stmt} {o : Out} {k : List Int} {n : Int}
end
end L2.EV
namespace L2.EV
open PySem PySem.Spec PyProof.Rows
section
variable {X : Cx}
end
section
variable {X : Cx} {ρ ρ' : Rho} {e f a b c : Expr} {d : D} {pos p apos cpos : Pos} {N : List Str} {sc : Scope} {x y : Str} {kvs kvs' : KVs} {sts : List Stmt} {o : Out} {k : List Int} {n : Int}
end
end L2.EV
namespace L2.EV
open PySem PySem.Spec PyProof.Rows
section
variable {X : Cx} {ρ ρ' : Rho} {e f a b c : Expr} {d : D} {pos p apos cpos pos' : Pos} {N : List Str} {sc : Scope} {x y : Str} {kvs kvs' : KVs} {o : Out} {k : List Int} {n : Int} {st : Stmt} {rest : List Stmt} {ds : List D} {es : List Expr}
inductive EvKs (X : Cx) (ρ : Rho) : List (Option Expr) -> List Expr -> KVs -> Prop where
  | nil : EvKs X ρ [] [] []
  | cons {a b : Expr} {as : List (Option Expr)} {bs : List Expr} {k : List Int} {n : Int} {r : KVs} : EvE X ρ a (.tup (k.map D.int)) -> EvE X ρ b (.int n) -> EvKs X ρ as bs r -> EvKs X ρ (some a :: as) (b :: bs) ((k, n) :: r)
def spD (K : PySem.W.Frag) (C : List D -> KVs -> Prop) : Sp := fun vs H Q _ => ∃ F ds kvs, Same F H /\ RepL K F vs ds /\ C ds kvs /\ ∀ p us F' H', Ext ⟨F, H⟩ F' H' -> H p = none -> H' p = some (.ext (dcAt p us)) -> F' p = none -> DicR F' kvs us -> Q (.ref p) H'
end
end L2.EV
namespace L2.EV
open PySem PySem.Spec PyProof.Rows
section
variable {prog : Program} {w : World} {A : Around} {R : Result -> Shared -> Prop} {I : Addr} {fp wr : List Addr} {n : Nat} {P : Nat -> Value -> Prop} {St : Nat -> Heap -> Prop}
end
section
variable {X : Cx} {ρ : Rho} {e : Expr} {d : D} {pos p kp kq : Pos} {N : List Str} {sc : Scope} {x : Str} {j : Nat}
end
end L2.EV
namespace L2.EV
open PySem PySem.Spec PyProof.Rows
section
variable {X : Cx} {ρ : Rho} {a tg : Expr} {pos : Pos} {N : List Str} {sc : Scope} {ds : List D}
end
end L2.EV
namespace L2.EV
open PySem PySem.Spec PyProof.Rows
def GTup (K : PySem.W.Frag) (a : Addr) (ns : List Int) : Prop := ∃ (o : Obj) (its : Array Value) (n : Nat), K.lookup a = some o /\ o.cls = .type "tuple" /\ o.data = .seq its n /\ its.size <= sizeLine /\ Vals (ns.map V.int) its.toList
section
variable {X : Cx} {ρ ρ' : Rho} {a b c tg e : Expr} {d : D} {pos p : Pos} {N : List Str} {sc : Scope} {x : Str}
theorem aYJ {i j : Int} (ha : EvE X ρ a (.int i)) (hb : EvE X ρ b (.int j)) (h0 : CPow i j) : EvE X ρ (.BinOp a .LShift b pos) (.int (i * 2 ^ j.toNat)) := aED eCK ha hb h0 rfl
theorem aXF (t : At X N sc) {l : Addr} {ns : List Int} (hm : X.mg x = some (.ref l)) (hk : GTup X.K l ns) (hg : sc.names.lookup x = some .globalImplicit := by rfl) (hdb : (x == ("__debug__" : Str)) = false := by rfl) : EvI X ρ tg (.Name x pos) (ns.map D.int) :=
  .of (aXZ (aTJ (v := .ref l) (aAU t hg) hm rfl hdb)) fun B F H σ R k q => ⟨l, rfl, ⟨_, .inr hk⟩, q _ F H (.refl k.sub) (aYD (fun H2 s2 => .inr hk) (RepL.ints ns))⟩
theorem aMW (t : At X N sc) : CallR X (.builtin "divmod") (fun xs H Q => ∃ i j, xs = [.int i, .int j] /\ j ≠ 0 /\ ∀ p, H p = none -> Q (.ref p) (upd H p (.tup [.int (i.fdiv j), .int (i.fmod j)]))) := by
  intro pins s σ H xs us Q I r h
  obtain ⟨i, j, rfl, h1, q⟩ := h
  obtain ⟨u, w', rfl, ⟨t1, rfl⟩, ⟨t2, rfl⟩⟩ := vals2 r
  refine divmod_int h1 ?_ (.inr (t.pylong I))
  have hn : H s.heap.objs.size = none := I.hok.fresh (Nat.le_refl _)
  refine ⟨.ref s.heap.objs.size, _, ?_, rfl, q _ hn⟩
  refine I.laid (fun b o e => Heap.get?_push_of_some _ e) (Nat.le_refl _) ⟨by simp only [List.length_cons, List.length_nil]; rw [sizeLine_eq]; decide, [.int (i.fdiv j) s.toks, .int (i.fmod j) (s.toks + 1)], .cons ⟨_, rfl⟩ (.cons ⟨_, rfl⟩ .nil), ?_⟩
  exact ⟨_, Heap.get?_push_size s.heap rfl, rfl, 0, rfl⟩
end
end L2.EV
namespace L2.EV
open PySem PySem.Spec PyProof.Rows
section
variable {X : Cx} {ρ ρ' : Rho} {a b c tg e : Expr} {d : D} {pos p : Pos} {N : List Str} {sc : Scope} {x : Str}
theorem aPM [FnT X] (t : At X N sc) (i : Nat) {xs : List D} {m n : Int} {apos cpos dpos p1 : Pos} {y : Str} (bl : Blt X sc x (.builtin "divmod")) (hr : ρ[i]? = some (.own (xs ++ [.int n]))) (hb : EvE X (ρ.set i (.own xs)) b (.int m)) (h0 : m ≠ 0)
    (hg : EvG X (ρ.set i (.own xs)) tg (.tup [.int (n.fdiv m), .int (n.fmod m)]) ρ')
    (hN : N[i]? = some y := by rfl) (hv : VisS sc y = true := by rfl) (hx : NameOk y = true := by rfl) (hline : (apos.endLine == cpos.line) = true := by rfl) (hpb : Pl b := by intro _ _; rfl)
    (hs : swapsWithSole [tg] (.Call (.Name x p1) [.Call (.Attribute (.Name y p) "pop" apos) [] [] cpos, b] [] dpos) pos.line X.env = pure false := by rfl) (hw : swappedStores [tg] (.Call (.Name x p1) [.Call (.Attribute (.Name y p) "pop" apos) [] [] cpos, b] [] dpos) (dE sc) = pure none := by rfl)
    (h1 : (assignEach [tg] X.env).map (·.2) = [assign tg X.env] := by rfl) :
    EvS X ρ (.Assign [tg] (.Call (.Name x p1) [.Call (.Attribute (.Name y p) "pop" apos) [] [] cpos, b] [] dpos) pos) (.nx ρ') :=
  .of (aXW (wR (aMW t) (aAU t bl.g) bl.m bl.v (zJ (aTK PySem.F.plainAttrs_list PySem.F.slot_list_pop PySem.F.type_list_pop aTU pe_w rfl hline) (zJ pe_w vG (hpb _ _)) rfl) bl.n bl.d rfl (by rw [hpb]; rfl)) pg_w hs ((aFF (show X.env.scope = (dE sc).scope from t.eS)).trans hw) h1) fun B F H σ E k q =>
    aHZ t hr hN hv hx k fun l vs g1 g2 g3 => ⟨.inl ⟨rfl, _, SqL.of g2⟩, by
      have hlen := g3.length
      obtain ⟨w, hw', rw'⟩ := g3.get (i := xs.length) (d := .int n) (by simp)
      have hll : vs.length - 1 = xs.length := by rw [hlen]; simp
      cases rw'
      refine ⟨l, vs, _, rfl, rfl, g2, by rw [hll]; exact hw', ?_⟩
      have k2 := k.chgOwn (vs := vs) (ds := xs) hr g1 (by have := g3.dropLast; rwa [List.dropLast_concat] at this)
      refine hb B F _ σ _ k2 fun v F1 H1 x1 r1 => ?_
      cases r1
      refine ⟨n, m, rfl, h0, fun p hp => ?_⟩
      have x2 := x1.grow (o := .tup [.int (n.fdiv m), .int (n.fmod m)]) hp
      exact hg B _ _ σ (.ref p) _ (k2.ext x2) (.tup zA (.cons (.int _) (.cons (.int _) .nil))) fun F2 H2 σ2 k3 s2 => q F2 H2 σ2 k3 (x2.sf.trans s2)⟩
end
end L2.EV
namespace L2.EV
open PySem PySem.Spec PyProof.Rows
theorem aIM (its : List Value) : slicePick its.toArray none none (some (-1)) = its.reverse.toArray := by
  unfold slicePick
  have e1 : sliceBounds none none (some (-1)) its.toArray.size = ((its.toArray.size : Int) - 1, -1, -1) := rfl
  rw [e1]
  show ((sliceRange ((its.toArray.size : Int) - 1) (-1) (-1)).filterMap (its.toArray[·]?)).toArray = _
  have e2 : sliceRange ((its.toArray.size : Int) - 1) (-1) (-1) = (List.range its.toArray.size).map fun (k : Nat) => ((its.toArray.size : Int) - 1 + (k : Int) * (-1)).toNat := by
    unfold sliceRange
    have e3 : (if (-1 : Int) > 0 then (if (its.toArray.size : Int) - 1 < -1 then (-1 - ((its.toArray.size : Int) - 1) + -1 - 1) / -1 else 0) else (if (its.toArray.size : Int) - 1 > -1 then ((its.toArray.size : Int) - 1 - -1 - -1 - 1) / (- -1) else 0)).toNat = its.toArray.size := by
      rw [if_neg (by decide)]
      by_cases h : (its.toArray.size : Int) - 1 > -1
      . rw [if_pos h]
        have : (- -1 : Int) = 1 := rfl
        rw [this, Int.ediv_one]; omega
      . rw [if_neg h]; omega
    show (List.range (Int.toNat _)).map _ = _
    rw [e3]
    exact List.map_congr_left fun k _ => by congr 1; omega
  rw [e2, List.filterMap_map]
  have := HT.pick_rev its.toArray
  rw [<- this]
  rfl
theorem aUK : ∀ {us : List Value} {ns : List Int}, IntsAre us ns -> ∀ (i : Nat) (v : Value), us[i]? = some v -> ∃ (n : Int) (tk : Tok), ns[i]? = some n /\ v = .int n tk
  | _, _, .nil, i, v, h => by simp at h
  | _, _, .cons n t r, 0, v, h => by
    have : v = .int n t := by simpa using h.symm
    exact ⟨n, t, rfl, this⟩
  | _, _, .cons n t r, i + 1, v, h => aUK r i v (by simpa using h)
theorem RepL.isInts {K : PySem.W.Frag} {F : Hp} : ∀ {ns : List Int} {vs : List V}, RepL K F vs (ns.map D.int) -> vs = ns.map V.int
  | [], _, h => by cases h; rfl
  | b :: bs, _, h => by
    cases h with
    | cons r t => cases r; rw [List.map_cons, RepL.isInts t]
section
variable {X : Cx} {ρ : Rho} {a c e : Expr} {xs : List D} {pos p2 p : Pos} {N : List Str} {sc : Scope} {x : Str}
theorem eAN (ha : EvQ X ρ a true xs) (hc : EvE X ρ c (.int (-1))) : EvN X ρ (.Subscript a (.Slice none none (some c) p2) pos) xs.reverse := fun B F H σ Q k q pins s I => by
  refine Subscript_ (thn (ha B F H σ (fun v H1 => ∃ p vs F1, v = .ref p /\ Ext ⟨F, H⟩ F1 H1 /\ SqB X.K true H1 p vs /\ RepL X.K F1 vs xs) k (fun p vs F1 H1 x1 s1 r1 => ⟨p, vs, F1, rfl, x1, s1, r1⟩) pins s I) fun v s1 z => ?_)
  obtain ⟨x, H1, I1, r1, p, vs, F1, hx, x1, sq, rp⟩ := z
  subst hx
  cases r1
  refine wpAny_Slice ?_
  rw [evalPart_none]
  refine wpAny_pure ?_
  refine wpAny_pure ?_
  rw [evalPart_some]
  refine thn (hc B F1 H1 σ (fun v H2 => ∃ F2, Ext ⟨F1, H1⟩ F2 H2 /\ v = .int (-1)) (k.ext x1) (fun v F2 H2 x2 r => by cases r; exact ⟨F2, x2, rfl⟩) pins s1 I1) fun u s2 z => ?_
  obtain ⟨y, H2, I2, r2, F2, x2, hy⟩ := z
  subst hy
  obtain ⟨tk, rfl⟩ := r2
  have I4 : Inv X pins σ H2 { s2 with heap := s2.heap.push { cls := .type "slice", data := .fields #[.none, .none, .int (-1) tk] } } := I2.kept (t' := s2.toks) fun b ob q => Heap.get?_push_of_some _ q
  have sq2 : SqL X.K H2 p vs := SqB.mono x2.sh sq
  obtain ⟨its, r, ht, hz⟩ := I4.list sq2
  have hlen := r.length
  show wpAny (model X.prog X.w) X.A (subscriptTail a (.Slice none none (some c) p2) (.ref p) (.ref s2.heap.objs.size)) (EP X pins σ Q) X.xe { s2 with heap := s2.heap.push { cls := .type "slice", data := .fields #[.none, .none, .int (-1) tk] } }
  refine tail_any (ops := [.ref p, .ref s2.heap.objs.size]) ht.isList.typeIs slot_list_getitem.lookup (wpAny_getItem_list_slice ht.isList (Heap.IsSliceOf.new ..) .none .none (.int (-1) tk) (by decide) ?_ (by rw [List.size_toArray] <;> omega)) rfl
  rw [aIM]
  have xx := x1.t x2
  have r3 := rp.mono x2.sf
  have hp := I4.hok.fresh (Nat.le_refl _)
  refine ⟨.ref _, _, I4.laid (t' := s2.toks) (o := .lst vs.reverse) (fun b ob q => Heap.get?_push_of_some _ q) (Nat.le_refl _) ?_, rfl, q _ vs.reverse F2 _ ⟨xx.sub.trans (yL hp), xx.sh.trans (yL hp), xx.sf, xx.nw⟩ (xx.sh.free hp) zA (xx.sub.free hp) r3.reverse⟩
  exact ⟨by rw [List.length_reverse]; exact hz, _, 0, r.reverse, Heap.get?_push_size _ rfl⟩
theorem aVR (hc : X.calm = true) : CallR X (.builtin "any") (fun xs H Q => ∃ (l : Addr) (ns : List Int), xs = [.ref l] /\ SqL X.K H l (ns.map V.int) /\ Q (.bl (ns.any (· != 0))) H) := by
  intro pins s σ H xs us Q I r h
  obtain ⟨l, ns, rfl, sl, q⟩ := h
  obtain ⟨u, rfl, ru⟩ := vals1 r
  cases (show u = Value.ref l from ru)
  obtain ⟨vs, rv, pl, hz⟩ := I.list sl
  have hb := aRL rv
  have hl := pl.isList
  have hlt : l < s.heap.objs.size := by obtain ⟨_, e, _⟩ := hl; exact Heap.lt_size e
  refine call_any_walk (wpAny_pyIter_list hl ?_)
  refine ⟨s.heap.objs.size, [s.heap.objs.size, l], [s.heap.objs.size], vs.toArray.size, _, _, fun i => ((ns.map (· != 0))[i]?).getD false, rfl, Walks.list (A := X.A.in1) (I.ok.hd hc) _ l (Nat.ne_of_lt hlt) vs.toArray,
    ⟨⟨_, Heap.get?_push_size _ rfl, rfl, rfl⟩, hl.push _⟩, fun i v s' Q' E' hP hQ => ?_, fun h' tk hk => ?_⟩
  . obtain ⟨b, tk, e, rfl⟩ := aUK hb i v (by simpa using hP)
    simp only [List.getElem?_map, e, Option.map_some, Option.getD_some] at hQ
    first | exact truthy_int hQ | exact PyProof.Rows.truthy_int hQ | exact PySem.Spec.truthy_int hQ | exact PySem.truthy_int hQ
  . have e : ((List.range vs.toArray.size).any fun i => ((ns.map (· != 0))[i]?).getD false) = ns.any (· != 0) := by
      have h1 := LSm.range_any (ns.map (· != 0))
      rw [List.length_map] at h1
      rw [List.size_toArray, hb.length, h1, List.any_map]; rfl
    rw [e]
    exact ⟨.bl _, H, I.kept (LSm.kept_iter hk), rfl, q⟩
theorem aUY (t : At X N sc) {ns : List Int} (bl : Blt X sc x (.builtin "any")) (ha : EvQ X ρ e true (ns.map D.int)) (hpe : Pl e := by intro _ _; rfl) : EvE X ρ (.Call (.Name x p) [e] [] pos) (.bl (ns.any (· != 0))) :=
  .of (wR (aVR t.calm) (aAU t bl.g) bl.m bl.v (zJ pe_w vG (hpe _ _)) bl.n bl.d (hpe _ _) rfl) fun B F H σ Q k' q => ha B F H σ _ k' fun l vs F' H' x' sl rl => by
    have e := rl.isInts
    subst e
    exact ⟨l, ns, rfl, sl, q _ F' H' x' (.bl _)⟩
end
end L2.EV
namespace L2.EV
open PySem PySem.Spec PyProof.Rows
section
variable {X : Cx} {ρ : Rho} {a b : Expr} {pos : Pos} {N : List Str} {sc : Scope} {x : Str}
theorem aYZ (t : At X N sc) (i j : Nat) {y : Str} {us : List D} {v : D} {px py pt : Pos} {kt k2 : Nat} {pt2 : Pos} (h1 : EvN X ρ a us) (h2 : EvE X ρ b v) (hij : i ≠ j) (hi : N[i]? = some x := by rfl) (hj : N[j]? = some y := by rfl)
    (hx : sc.names.lookup x = some .local := by rfl) (hy : sc.names.lookup y = some .local := by rfl)
    (hw : swappedStores [.Tuple [.Name x px, .Name y py] kt pt] (.Tuple [a, b] k2 pt2) (dE sc) = pure (some [x, y]) := by rfl)
    (hs : swapsWithSole [.Tuple [.Name x px, .Name y py] kt pt] (.Tuple [a, b] k2 pt2) pos.line X.env = pure false := by rfl)
    (hs1 : starEach [a, b] X.env = (false, eval a X.env) :: starEach [b] X.env := by rfl) (hs2 : starEach [b] X.env = (false, eval b X.env) :: starEach [] X.env := by rfl) :
    EvS X ρ (.Assign [.Tuple [.Name x px, .Name y py] kt pt] (.Tuple [a, b] k2 pt2) pos) (.nx ((ρ.set i (.own us)).set j (.val v))) :=
  .of (aSZ (i := i) (j := j) t.calm t.nd (t.ix hi) (t.ix hj) hij (by rw [t.eS]; exact hx) (by rw [t.eS]; exact hy) (zJ pe_w (zJ pe_w vG hs2) hs1) ((aFF (show X.env.scope = (dE sc).scope from t.eS)).trans hw) hs) fun B F H σ E k q =>
    h1 B F H σ _ k fun p vs F1 H1 x1 h0 hp hf r => h2 B F1 H1 σ _ (k.ext x1) fun v2 F2 H2 x2 r2 => by
      have hf2 : F2 p = none := by
        cases z : F2 p with
        | none => rfl
        | some o =>
          exfalso
          rcases x2.nw p (by rw [z]; exact fun q => nomatch q) with q1 | q1
          . exact q1 hf
          . have q1' : H1 p = none := q1
            rw [hp] at q1'; cases q1'
      exact ⟨.ref p, v2, rfl, q F2 H2 _ (((k.ext (x1.t x2)).setOwn i (x2.sh _ _ hp) hf2 (k.sh.free h0) (k.noOwn h0) (r.mono x2.sf)).setVal j r2) (x1.t x2).sf⟩
theorem aYY (t : At X N sc) (i j : Nat) {y : Str} {us ws : List D} {px py pt : Pos} {kt k2 : Nat} {pt2 : Pos} (h1 : EvN X ρ a us) (h2 : EvN X ρ b ws) (hij : i ≠ j) (hi : N[i]? = some x := by rfl) (hj : N[j]? = some y := by rfl)
    (hx : sc.names.lookup x = some .local := by rfl) (hy : sc.names.lookup y = some .local := by rfl)
    (hw : swappedStores [.Tuple [.Name x px, .Name y py] kt pt] (.Tuple [a, b] k2 pt2) (dE sc) = pure (some [x, y]) := by rfl)
    (hs : swapsWithSole [.Tuple [.Name x px, .Name y py] kt pt] (.Tuple [a, b] k2 pt2) pos.line X.env = pure false := by rfl)
    (hs1 : starEach [a, b] X.env = (false, eval a X.env) :: starEach [b] X.env := by rfl) (hs2 : starEach [b] X.env = (false, eval b X.env) :: starEach [] X.env := by rfl) :
    EvS X ρ (.Assign [.Tuple [.Name x px, .Name y py] kt pt] (.Tuple [a, b] k2 pt2) pos) (.nx ((ρ.set i (.own us)).set j (.own ws))) :=
  .of (aSZ (i := i) (j := j) t.calm t.nd (t.ix hi) (t.ix hj) hij (by rw [t.eS]; exact hx) (by rw [t.eS]; exact hy) (zJ pe_w (zJ pe_w vG hs2) hs1) ((aFF (show X.env.scope = (dE sc).scope from t.eS)).trans hw) hs) fun B F H σ E k q =>
    h1 B F H σ _ k fun p vs F1 H1 x1 h0 hp hf r => h2 B F1 H1 σ _ (k.ext x1) fun p2 vs2 F2 H2 x2 g0 gp gf r2 => by
      have hf2 : F2 p = none := by
        cases z : F2 p with
        | none => rfl
        | some o =>
          exfalso
          rcases x2.nw p (by rw [z]; exact fun q => nomatch q) with q1 | q1
          . exact q1 hf
          . have q1' : H1 p = none := q1
            rw [hp] at q1'; cases q1'
      have hne : p ≠ p2 := fun e => by subst e; rw [hp] at g0; cases g0
      have g00 : H p2 = none := x1.sh.free g0
      have ko := (k.ext (x1.t x2)).setOwn i (x2.sh _ _ hp) hf2 (k.sh.free h0) (k.noOwn h0) (r.mono x2.sf)
      have no2 : NoOwn (σ.set i (some (.ref p))) (ρ.set i (.own us)) p2 := fun m xs e z => by
        by_cases him : i = m
        . subst him
          rw [List.getElem?_set] at z
          rw [if_pos rfl] at z
          split at z
          . cases z; exact hne rfl
          . cases z
        . rw [List.getElem?_set_ne him] at e z
          exact k.noOwn g00 m xs e z
      exact ⟨.ref p, .ref p2, rfl, q F2 H2 _ (ko.setOwn j gp gf (k.sh.free g00) no2 r2) (x1.t x2).sf⟩
end
end L2.EV
namespace L2.EV
open PySem PySem.Spec PyProof.Rows
section
variable {X : Cx} {ρ : Rho} {a b : Expr} {pos p : Pos} {N : List Str} {sc : Scope} {x : Str}
theorem eBN (t : At X N sc) {p : PyData} {qs : List PyData} (sp : p.canLay0 = true) (sd : p.depth <= 62) (sq : PyData.canLayAll0 qs = true) : OpR X (compareOp .NotIn) (fun x y H Q => RdP X H x p /\ RdP X H y (.list qs) /\ Q (.bl (!qs.any fun y => PyData.eqv y p)) H) := by
  intro pins s σ H x y v u Q I rx ry h
  obtain ⟨h1, h2, h3⟩ := h
  obtain ⟨as, r1⟩ := h1 sp H (.refl _) pins σ s v I rx
  obtain ⟨bs, r2⟩ := h2 (by simpa [PyData.canLay0] using sq) H (.refl _) pins σ s u I ry
  refine SeqAt.notIn_list_reads r2 r1 sq sp ?_ ⟨.bl _, H, I, rfl, h3⟩
  have hu := t.un
  have : min (PyData.depthAll qs) p.depth <= p.depth := Nat.min_le_right _ _
  omega
theorem aYL (t : At X N sc) {d : D} {xs : List D} {r : Bool} (ha : EvE X ρ a d) (i : Nat) (hr : ρ[i]? = some (.own xs)) (sp : (toP d).canLay0 = true) (sd : (toP d).depth <= 62) (sq : PyData.canLayAll0 (toPs xs) = true) (he : (!(toPs xs).any fun y => PyData.eqv y (toP d)) = r)
    (hN : N[i]? = some x := by rfl) (hv : VisS sc x = true := by rfl) (hx : NameOk x = true := by rfl) : EvT X ρ (.Compare a [.NotIn] [.Name x p] pos) r :=
  .of (aJG (eBN t sp sd sq) pe_w pe_w rfl) fun B F H σ Q k q => twoP (EvE.p ha) (EvQ.p (jN t i hr hN hv hx)) k fun x y F' H' x' rx ry => ⟨rx, ry, r, by rw [he], q F' H' x'⟩
end
end L2.EV
namespace HT
open PySem PySem.Spec PyProof.Rows
section
variable {prog : Program} {w : World} {A : Around} {E : Value -> Shared -> Prop} {s : Shared}
end
end HT
namespace L2
open PySem PySem.Spec PyProof.Rows
section
variable {X : Cx}
variable {tg : Expr}
end
end L2
namespace L2.EV
open PySem PySem.Spec PyProof.Rows
section
variable {X : Cx} {ρ : Rho} {a b c tg e : Expr} {d : D} {pos : Pos} {N : List Str} {sc : Scope} {x : Str}
end
end L2.EV
namespace L2.EV
open PySem PySem.Spec PyProof.Rows
def UpB (B : B0) (p : Addr) (us : List V) : B0 := ⟨B.F, upd B.H p (.lst us)⟩
structure Lent (K : PySem.W.Frag) (B : B0) (p : Addr) (F : Hp) (us : List V) (xs : List D) : Prop where
  st : B.H p = some (.lst us)
  fr : B.F p = none
  rep : RepL K F us xs
def PostM (K : PySem.W.Frag) (B : B0) (p : Addr) (F₀ : Hp) (E : Ends) (xs' : List D) : Out -> Prop
  | .nx ρ => ∀ F H σ us, Ok K (UpB B p us) F H σ ρ -> RepL K F us xs' -> Same F₀ F -> E.nx σ H
  | .rt d => ∀ v F H us, Ext (UpB B p us) F H -> RepL K F us xs' -> Rep K F v d -> E.rt v H
def EvM (X : Cx) (p : Addr) (ρ : Rho) (sts : List Stmt) (o : Out) (xs xs' : List D) : Prop := ∀ (B : B0) (F H : Hp) (σ : St) (E : Ends) (us : List V), Lent X.K B p F us xs -> Ok X.K B F H σ ρ -> PostM X.K B p F E xs' o -> wSs X sts E σ H
section
variable {X : Cx} {p : Addr} {ρ ρ' ρ1 : Rho} {st : Stmt} {sts rest : List Stmt} {o : Out} {xs xs1 xs' : List D} {e b : Expr} {d : D} {pos py ps : Pos} {N : List Str} {sc : Scope} {x : Str}
end
end L2.EV
namespace L2.EV
open PySem PySem.Spec PyProof.Rows
section
variable {X : Cx} {p : Addr} {ρ ρ' ρ1 : Rho} {sts rest body : List Stmt} {o : Out} {xs xs1 xs' ds : List D} {tg e a b : Expr} {es : List Expr} {d : D} {pos py ps : Pos} {N : List Str} {sc : Scope} {x y : Str}
inductive FRunM (X : Cx) (p : Addr) (tg : Expr) (body : List Stmt) : List D -> Rho -> List D -> Rho -> List D -> Prop where
  | nil {ρ : Rho} {xs : List D} : FRunM X p tg body [] ρ xs ρ xs
  | cons {d : D} {ds : List D} {ρ ρ1 ρ2 ρ3 : Rho} {xs xs1 xs2 : List D} : EvG X ρ tg d ρ1 -> EvM X p ρ1 body (.nx ρ2) xs xs1 -> FRunM X p tg body ds ρ2 xs1 ρ3 xs2 -> FRunM X p tg body (d :: ds) ρ xs ρ3 xs2
end
end L2.EV
namespace L2.EV
open PySem PySem.Spec PyProof.Rows
section
variable {X : Cx} {ρ : Rho} {xs xs' ds : List D} {es : List Expr} {d : D} {pos p py cpos : Pos} {N : List Str} {sc : Scope} {x y : Str}
end
end L2.EV
set_option maxHeartbeats 4000000
namespace My
open PySem L2 L2.EV
def top (i : Nat) : Stmt := PySem.Challenge.pw_planestacks_k09_bare_rows.main.body.getD i (.Pass ⟨0, 0, 0, 0⟩)
abbrev wD : Stmt := top 11
abbrev N_sign_of : List Str := ["number"]
theorem aQY : FnScope N_sign_of ["number"] (defScope wD) := ⟨rfl, rfl, rfl, by decide +kernel, rfl, by decide +kernel, by decide +kernel⟩
abbrev zD : Stmt := top 12
abbrev N_common_divisor : List Str := ["a", "b"]
theorem aDT : FnScope N_common_divisor ["a", "b"] (defScope zD) := ⟨rfl, rfl, rfl, by decide +kernel, rfl, by decide +kernel, by decide +kernel⟩
abbrev zO : Stmt := top 14
abbrev N_without_end : List Str := ["parts", "nought", "many"]
theorem aGY : FnScope N_without_end ["parts", "nought"] (defScope zO) := ⟨rfl, rfl, rfl, by decide +kernel, rfl, by decide +kernel, by decide +kernel⟩
abbrev aAN : Stmt := top 15
abbrev N_row_of : List Str := ["numbers"]
theorem aSO : FnScope N_row_of ["numbers"] (defScope aAN) := ⟨rfl, rfl, rfl, by decide +kernel, rfl, by decide +kernel, by decide +kernel⟩
abbrev qK : Stmt := top 16
abbrev N_other_sign : List Str := ["f"]
theorem aIT : FnScope N_other_sign ["f"] (defScope qK) := ⟨rfl, rfl, rfl, by decide +kernel, rfl, by decide +kernel, by decide +kernel⟩
abbrev aAD : Stmt := top 17
abbrev N_slope : List Str := ["f"]
theorem aWJ : FnScope N_slope ["f"] (defScope aAD) := ⟨rfl, rfl, rfl, by decide +kernel, rfl, by decide +kernel, by decide +kernel⟩
abbrev vP : Stmt := top 18
abbrev N_put_low : List Str := ["f", "shared", "number"]
theorem aQZ : FnScope N_put_low ["f"] (defScope vP) := ⟨rfl, rfl, rfl, by decide +kernel, rfl, by decide +kernel, by decide +kernel⟩
abbrev jQ : Stmt := top 19
abbrev N_plain_row : List Str := ["f", "low"]
theorem aLH : FnScope N_plain_row ["f"] (defScope jQ) := ⟨rfl, rfl, rfl, by decide +kernel, rfl, by decide +kernel, by decide +kernel⟩
abbrev yP : Stmt := top 20
abbrev N_whole_quotient : List Str := ["f", "g", "rest", "numbers", "number", "left", "start", "k"]
theorem aDS : FnScope N_whole_quotient ["f", "g"] (defScope yP) := ⟨rfl, rfl, rfl, by decide +kernel, rfl, by decide +kernel, by decide +kernel⟩
abbrev jF : Stmt := top 23
abbrev N_inverse_of : List Str := ["number", "prime", "a", "b", "first", "second", "many"]
theorem aIV : FnScope N_inverse_of ["number", "prime"] (defScope jF) := ⟨rfl, rfl, rfl, by decide +kernel, rfl, by decide +kernel, by decide +kernel⟩
abbrev jE : Stmt := top 24
abbrev N_made_monic : List Str := ["numbers", "prime", "scale"]
theorem aIU : FnScope N_made_monic ["numbers", "prime"] (defScope jE) := ⟨rfl, rfl, rfl, by decide +kernel, rfl, by decide +kernel, by decide +kernel⟩
abbrev zF : Stmt := top 25
abbrev N_rest_modulo : List Str := ["f", "g", "prime", "rest", "many", "top", "start", "k"]
theorem aGZ : FnScope N_rest_modulo ["f", "g", "prime"] (defScope zF) := ⟨rfl, rfl, rfl, by decide +kernel, rfl, by decide +kernel, by decide +kernel⟩
abbrev zW : Stmt := top 26
abbrev N_shared_modulo : List Str := ["f", "g", "prime"]
theorem aEK : FnScope N_shared_modulo ["f", "g", "prime"] (defScope zW) := ⟨rfl, rfl, rfl, by decide +kernel, rfl, by decide +kernel, by decide +kernel⟩
abbrev aAO : Stmt := top 27
abbrev N_lifted : List Str := ["numbers", "last", "prime", "rests"]
theorem aSP : FnScope N_lifted ["numbers", "last", "prime"] (defScope aAO) := ⟨rfl, rfl, rfl, by decide +kernel, rfl, by decide +kernel, by decide +kernel⟩
abbrev jD : Stmt := top 28
abbrev N_shared_by : List Str := ["f", "g", "prime", "shared", "row", "divides"]
theorem aLG : FnScope N_shared_by ["f", "g", "prime"] (defScope jD) := ⟨rfl, rfl, rfl, by decide +kernel, rfl, by decide +kernel, by decide +kernel⟩
abbrev zB : Stmt := top 29
abbrev N_shared_by_primes : List Str := ["f", "g", "bits", "shared"]
theorem aCC : FnScope N_shared_by_primes ["f", "g"] (defScope zB) := ⟨rfl, rfl, rfl, by decide +kernel, rfl, by decide +kernel, by decide +kernel⟩
abbrev jB : Stmt := top 31
abbrev N_step_down : List Str := ["rest", "g", "shared"]
theorem aLF : FnScope N_step_down ["rest", "g"] (defScope jB) := ⟨rfl, rfl, rfl, by decide +kernel, rfl, by decide +kernel, by decide +kernel⟩
abbrev qU : Stmt := top 32
abbrev N_divided : List Str := ["f", "g", "quotient", "rest", "up", "down", "shift", "power", "number"]
theorem aHU : FnScope N_divided ["f", "g"] (defScope qU) := ⟨rfl, rfl, rfl, by decide +kernel, rfl, by decide +kernel, by decide +kernel⟩
abbrev jZ : Stmt := top 33
abbrev N_rest_of : List Str := ["f", "g"]
theorem aHT : FnScope N_rest_of ["f", "g"] (defScope jZ) := ⟨rfl, rfl, rfl, by decide +kernel, rfl, by decide +kernel, by decide +kernel⟩
abbrev zE : Stmt := top 34
abbrev N_shared_by_rests : List Str := ["f", "g"]
theorem aCR : FnScope N_shared_by_rests ["f", "g"] (defScope zE) := ⟨rfl, rfl, rfl, by decide +kernel, rfl, by decide +kernel, by decide +kernel⟩
abbrev jC : Stmt := top 35
abbrev N_shared_row : List Str := ["f", "g", "shared"]
theorem aIS : FnScope N_shared_row ["f", "g"] (defScope jC) := ⟨rfl, rfl, rfl, by decide +kernel, rfl, by decide +kernel, by decide +kernel⟩
abbrev jI : Stmt := top 36
abbrev N_bare_row : List Str := ["f", "low"]
theorem aFN : FnScope N_bare_row ["f"] (defScope jI) := ⟨rfl, rfl, rfl, by decide +kernel, rfl, by decide +kernel, by decide +kernel⟩
abbrev jG : Stmt := top 38
abbrev N__law_cell : List Str := ["_law_script", "_law_k", "_law_state", "_law_cell_here"]
theorem aLL : FnScope N__law_cell ["_law_script", "_law_k"] (defScope jG) := ⟨rfl, rfl, rfl, by decide +kernel, rfl, by decide +kernel, by decide +kernel⟩
abbrev yZ : Stmt := top 39
abbrev N__law_numbers : List Str := ["_law_cell_here", "_law_many", "_law_found", "_law_state", "_law_digits", "_law_k"]
theorem aFQ : FnScope N__law_numbers ["_law_cell_here", "_law_many"] (defScope yZ) := ⟨rfl, rfl, rfl, by decide +kernel, rfl, by decide +kernel, by decide +kernel⟩
abbrev zQ : Stmt := top 40
abbrev N__law_whole : List Str := ["_law_found"]
theorem aIW : FnScope N__law_whole ["_law_found"] (defScope zQ) := ⟨rfl, rfl, rfl, by decide +kernel, rfl, by decide +kernel, by decide +kernel⟩
abbrev qH : Stmt := top 41
abbrev N__law_only : List Str := ["_law_e", "_law_at", "_law_kinds"]
theorem aLJ : FnScope N__law_only ["_law_e", "_law_at"] (defScope qH) := ⟨rfl, rfl, rfl, by decide +kernel, rfl, by decide +kernel, by decide +kernel⟩
abbrev qG : Stmt := top 42
abbrev N__law_trim : List Str := ["_law_parts", "_law_found"]
theorem aLI : FnScope N__law_trim ["_law_parts"] (defScope qG) := ⟨rfl, rfl, rfl, by decide +kernel, rfl, by decide +kernel, by decide +kernel⟩
abbrev qB : Stmt := top 43
abbrev N__law_times : List Str := ["_law_one", "_law_other", "_law_found", "_law_i", "_law_j"]
theorem aIX : FnScope N__law_times ["_law_one", "_law_other"] (defScope qB) := ⟨rfl, rfl, rfl, by decide +kernel, rfl, by decide +kernel, by decide +kernel⟩
abbrev zX : Stmt := top 44
abbrev N__law_some_row : List Str := ["_law_xs", "_law_most", "_law_size"]
theorem aEM : FnScope N__law_some_row ["_law_xs", "_law_most"] (defScope zX) := ⟨rfl, rfl, rfl, by decide +kernel, rfl, by decide +kernel, by decide +kernel⟩
abbrev zS : Stmt := top 45
abbrev N__law_planted : List Str := ["_law_xs", "_law_found", "_law_k", "_law_factor", "_law_again"]
theorem aFP : FnScope N__law_planted ["_law_xs"] (defScope zS) := ⟨rfl, rfl, rfl, by decide +kernel, rfl, by decide +kernel, by decide +kernel⟩
abbrev vJ : Stmt := top 46
abbrev N__law_row : List Str := ["_law_cell_here", "_law_most", "_law_xs", "_law_way"]
theorem aNQ : FnScope N__law_row ["_law_cell_here", "_law_most"] (defScope vJ) := ⟨rfl, rfl, rfl, by decide +kernel, rfl, by decide +kernel, by decide +kernel⟩
abbrev qI : Stmt := top 47
abbrev N__law_left : List Str := ["_law_f", "_law_g", "_law_last", "_law_some", "_law_top", "_law_start", "_law_k"]
theorem aLK : FnScope N__law_left ["_law_f", "_law_g"] (defScope qI) := ⟨rfl, rfl, rfl, by decide +kernel, rfl, by decide +kernel, by decide +kernel⟩
abbrev zG : Stmt := top 48
abbrev N__law_put_low : List Str := ["_law_row_here", "_law_part", "_law_x"]
theorem aFO : FnScope N__law_put_low ["_law_row_here"] (defScope zG) := ⟨rfl, rfl, rfl, by decide +kernel, rfl, by decide +kernel, by decide +kernel⟩
abbrev qD : Stmt := top 49
abbrev N__law_plain : List Str := ["_law_row_here", "_law_found"]
theorem aIZ : FnScope N__law_plain ["_law_row_here"] (defScope qD) := ⟨rfl, rfl, rfl, by decide +kernel, rfl, by decide +kernel, by decide +kernel⟩
abbrev qL : Stmt := top 50
abbrev N__law_shared : List Str := ["_law_f", "_law_g"]
theorem aHA : FnScope N__law_shared ["_law_f", "_law_g"] (defScope qL) := ⟨rfl, rfl, rfl, by decide +kernel, rfl, by decide +kernel, by decide +kernel⟩
abbrev zR : Stmt := top 51
abbrev N__law_right : List Str := ["_law_found", "_law_due"]
theorem aIY : FnScope N__law_right ["_law_found", "_law_due"] (defScope zR) := ⟨rfl, rfl, rfl, by decide +kernel, rfl, by decide +kernel, by decide +kernel⟩
abbrev yV : Stmt := top 52
abbrev N__law_times_in : List Str := ["_law_f", "_law_g", "_law_found", "_law_some", "_law_last", "_law_start", "_law_top", "_law_k"]
theorem aEL : FnScope N__law_times_in ["_law_f", "_law_g"] (defScope yV) := ⟨rfl, rfl, rfl, by decide +kernel, rfl, by decide +kernel, by decide +kernel⟩
abbrev qJ : Stmt := top 53
abbrev N__law_bare : List Str := ["_law_row_here", "_law_common"]
theorem aLM : FnScope N__law_bare ["_law_row_here"] (defScope qJ) := ⟨rfl, rfl, rfl, by decide +kernel, rfl, by decide +kernel, by decide +kernel⟩
abbrev zT : Stmt := top 54
abbrev N__law_grown : List Str := ["_law_xs", "_law_factors", "_law_k", "_law_factor", "_law_row_here", "_law_bare_here", "_law_turn"]
theorem aJA : FnScope N__law_grown ["_law_xs"] (defScope zT) := ⟨rfl, rfl, rfl, by decide +kernel, rfl, by decide +kernel, by decide +kernel⟩
abbrev aHB : Stmt := top 55
abbrev N_law : List Str := ["_law_script", "_law_cell_here", "_law_row_here", "_law_due", "_law_e"]
theorem eBK : FnScope N_law ["_law_script"] (defScope aHB) := ⟨rfl, rfl, rfl, by decide +kernel, rfl, by decide +kernel, by decide +kernel⟩
end My
namespace My
open PySem L2 L2.EV
def gl (f : List Int) : Nat := f.foldl (fun g x => Nat.gcd g x.natAbs) 0
theorem aKE (f : List Int) (x : Int) : gl (f ++ [x]) = Nat.gcd (gl f) x.natAbs := by unfold gl; rw [List.foldl_append]; rfl
def qA (ds : List D) (d : D) : Prop := ∃ a b : Int, ds = [.int a, .int b] /\ d = .int ((Nat.gcd a.natAbs b.natAbs : Nat) : Int)
theorem aDC : ∀ ds d, qA ds d -> ds.length = 2 := by rintro _ _ ⟨a, b, rfl, _⟩; rfl
section
variable {P : Program} {w : World} {K : PySem.W.Frag} {mg : Str -> Option Value} {base : Heap} {k : Nat} {X : Cx}
theorem aES (h : DefX P w K mg base k N_common_divisor (defScope zD) X) (m_abs : mg "abs" = none) :
    ∀ ds d, qA ds d -> EvSs X (ds.map Sl.val ++ List.replicate (N_common_divisor.length - ds.length) Sl.un) (defBody zD) (.rt d) := by
  rintro ds d ⟨a, b, rfl, rfl⟩
  have t := h.at'
  haveI := h.fnT
  have bl : Blt X (defScope zD) "abs" (.builtin "abs") := yN (by rw [h.mg']; exact m_abs)
  show EvSs X [.val (.int a), .val (.int b)] _ _
  refine yD (aLO t 0 1 (aIF t bl (yA t 0 rfl)) (aIF t bl (yA t 1 rfl)) (by decide)) ?_
  refine yD (jY t (aKF (fun a b => [.val (.int (a : Int)), .val (.int (b : Int))]) (fun a b => ?_) (fun a b hb => ?_) _ a.natAbs b.natAbs (Nat.le_refl _))) (yG (zI (yA t 0 rfl)))
  . refine EvT.eq (eDL (yA t 1 rfl)) ?_
    by_cases hb : b = 0
    . subst hb; rfl
    . rw [decide_eq_true (by omega)]; simpa using hb
  . exact yG (aLO t 0 1 (yA t 1 rfl) (EvE.eq (yO (i := (a : Int)) (j := (b : Int)) (yA t 0 rfl) (yA t 1 rfl) (by omega)) rfl) (by decide))
def wY (ds : List D) (d : D) : Prop := ∃ f : List Int, ds = [rowD f] /\ f.length < 1000 /\ d = rowD (f.map fun x => -x)
theorem aHF : ∀ ds d, wY ds d -> ds.length = 1 := by rintro _ _ ⟨a, rfl, _⟩; rfl
theorem small {n : Nat} (h : n < 1000) : n < sizeLine := Nat.lt_trans h (by decide)
theorem aNE (h : DefX P w K mg base k N_other_sign (defScope qK) X) (m_tuple : mg "tuple" = none) :
    ∀ ds d, wY ds d -> EvSs X (ds.map Sl.val ++ List.replicate (N_other_sign.length - ds.length) Sl.un) (defBody qK) (.rt d) := by
  rintro ds d ⟨f, rfl, hf, rfl⟩
  have t := h.at'
  haveI := h.fnT
  have bl : Blt X (defScope qK) "tuple" (.type "tuple") := yN (by rw [h.mg']; exact m_tuple)
  show EvSs X [.val (rowD f)] _ _
  refine yG (zI (vS t bl (EvQ.eq (EvN.toQ (vC (rs := (f.map D.int).map fun d => match d with | .int i => .int (-i) | d => d) t ["f", "number"] (csc (by decide +kernel)) (aBZ (yA t 0 rfl)) (by rw [List.length_map]; exact small hf) fun X' cx => ?_)) ?_)))
  . have t' := cx.at'
    refine CRun.all (fun d => [.val (rowD f), .val d]) _ _ _ (fun d hd => yK t' 1) (fun d hd e he => yK t' 1) fun d hd => ?_
    obtain ⟨i, _, rfl⟩ := List.mem_map.mp hd
    exact jH (yA t' 1 rfl)
  . rw [List.map_map, List.map_map]; rfl
end
end My
namespace My
open PySem L2 L2.EV
def lowB (f : List Int) : List Int := f.map fun x => x.fdiv (gl f : Int)
def aAL (ds : List D) (d : D) : Prop := ∃ f : List Int, ds = [rowD f] /\ f.length < 1000 /\ (f ≠ [] -> gl f ≠ 0) /\ d = rowD (lowB f)
theorem aOB : ∀ ds d, aAL ds d -> ds.length = 1 := by rintro _ _ ⟨a, rfl, _⟩; rfl
def lastI (xs : List Int) : Int := (xs.getLast?).getD 0
def plainB (f : List Int) : List Int := if lastI (lowB f) < 0 then (lowB f).map fun x => -x else lowB f
def jT (ds : List D) (d : D) : Prop := ∃ f : List Int, ds = [rowD f] /\ f.length < 1000 /\ (f ≠ [] -> gl f ≠ 0) /\ d = rowD (plainB f)
theorem aJU : ∀ ds d, jT ds d -> ds.length = 1 := by rintro _ _ ⟨a, rfl, _⟩; rfl
theorem aCN {α : Type} {xs : List α} {i : Nat} {x : α} (h : xs[i]? = some x) : xs.take (i + 1) = xs.take i ++ [x] := by
  rw [List.take_add_one, h]; rfl
section
variable {P : Program} {w : World} {K : PySem.W.Frag} {mg : Str -> Option Value} {base : Heap} {k : Nat} {X : Cx}
theorem aVW (h : DefX P w K mg base k N_put_low (defScope vP) X) (m_tuple : mg "tuple" = none) (c1 : Callee X "common_divisor" qA) :
    ∀ ds d, aAL ds d -> EvSs X (ds.map Sl.val ++ List.replicate (N_put_low.length - ds.length) Sl.un) (defBody vP) (.rt d) := by
  rintro ds d ⟨f, rfl, hf, hg, rfl⟩
  have t := h.at'
  haveI := h.fnT
  have bl : Blt X (defScope vP) "tuple" (.type "tuple") := yN (by rw [h.mg']; exact m_tuple)
  show EvSs X [.val (rowD f), .un, .un] _ _
  refine yD (zK t 1 yC) ?_
  refine yD (ρ' := [.val (rowD f), .val (.int (gl f : Int)), .un]) (aAP t (aBZ (yA t 0 rfl)) ?_) ?_
  . refine FRun.uptoE (fun i => [.val (rowD f), .val (.int (gl (f.take i) : Int)), .un]) (fun j d hj => ?_) rfl ?_
    rotate_left
    . rw [List.length_map, List.take_length]
    . rw [List.getElem?_map] at hj
      cases e : f[j]? with
      | none => rw [e] at hj; cases hj
      | some x =>
        rw [e] at hj; cases hj
        refine ⟨_, yS t 2, EvSs.weak (yG (zK t 1 (yF t c1 (yB (yA t 2 rfl) (yB (yA t 1 rfl) yE)) ⟨x, _, rfl, rfl⟩))) ?_⟩
        rw [aCN e, aKE, Nat.gcd_comm]
        exact .keep (.keep (.forget .nil))
  . refine yG (zI (vS t bl (EvQ.eq (EvN.toQ (vC (rs := (f.map D.int).map fun d => match d with | .int i => .int (i.fdiv (gl f : Int)) | d => d) t ["f", "shared", "", "number"] (csc (by decide +kernel)) (aBZ (yA t 0 rfl)) (by rw [List.length_map]; exact small hf) fun X' cx => ?_)) ?_)))
    . have t' := cx.at'
      refine CRun.all (fun d => [.val (rowD f), .val (.int (gl f : Int)), .un, .val d]) _ _ _ (fun d hd => yK t' 3) (fun d hd e he => yK t' 3) fun d hd => ?_
      obtain ⟨i, hi, rfl⟩ := List.mem_map.mp hd
      have h0 := hg (List.ne_nil_of_mem hi)
      exact aQC t' (yA t' 3 rfl) (yA t' 1 rfl) (show (gl f : Int) ≠ 0 by omega)
    . unfold lowB; rw [List.map_map, List.map_map]; rfl
theorem qF {xs : List Int} (h : xs ≠ []) : atI (xs.map D.int) (-1) = some (.int (lastI xs)) := by
  rcases List.eq_nil_or_concat xs with e | ⟨ys, y, e⟩
  . exact absurd e h
  . subst e
    have q := aXM (ys.map D.int) (.int y)
    rw [List.concat_eq_append, List.map_append, List.map_singleton, q]
    simp [lastI]
theorem aAT (f : List Int) : (lowB f).length = f.length := List.length_map _
theorem aOS (h : DefX P w K mg base k N_plain_row (defScope jQ) X) (c1 : Callee X "put_low" aAL) (c2 : Callee X "other_sign" wY) :
    ∀ ds d, jT ds d -> EvSs X (ds.map Sl.val ++ List.replicate (N_plain_row.length - ds.length) Sl.un) (defBody jQ) (.rt d) := by
  rintro ds d ⟨f, rfl, hf, hg, rfl⟩
  have t := h.at'
  haveI := h.fnT
  show EvSs X [.val (rowD f), .un] _ _
  refine yD (zK t 1 (yF t c1 (yB (yA t 0 rfl) yE) ⟨f, rfl, hf, hg, rfl⟩)) (yG (zI ?_))
  have ne : ∀ {pos1 pos2 pos3 : Pos} {x1 : Nat}, EvT X [.val (rowD f), .val (rowD (lowB f))] (.Compare (.Name "low" pos1) [.NotEq] [.Tuple [] x1 pos2] pos3) (!decide (lowB f = [])) := fun {_ _ _ _} =>
    aDG t (EvE.p (yA t 1 rfl)) (EvE.p (d := rowD []) (zC yE)) (yI _) (yI _) (by rw [jS])
  by_cases h0 : lowB f = []
  . refine aGM (EvW.toT (aKG (EvT.eq ne (by rw [h0]; rfl)))) (EvE.eq (yA t 1 rfl) ?_)
    unfold plainB; rw [h0]; rfl
  . by_cases h1 : lastI (lowB f) < 0
    . refine aIE (EvW.toT (aEA (EvT.eq ne (by rw [decide_eq_false h0]; rfl)) (aEB (EvT.eq (aGN (yU (EvE.qt (yA t 1 rfl)) (jH yC) (qF h0)) yC) (decide_eq_true h1))))) (EvE.eq (yF t c2 (yB (yA t 1 rfl) yE) ⟨lowB f, rfl, by rw [aAT]; exact hf, rfl⟩) ?_)
      unfold plainB; rw [if_pos h1]
    . refine aGM (EvW.toT (aEA (EvT.eq ne (by rw [decide_eq_false h0]; rfl)) (aEB (EvT.eq (aGN (yU (EvE.qt (yA t 1 rfl)) (jH yC) (qF h0)) yC) (decide_eq_false h1))))) (EvE.eq (yA t 1 rfl) ?_)
      unfold plainB; rw [if_neg h1]
end
end My
namespace My
open PySem L2 L2.EV
def cellGo (s : Int) (xs : List Int) : Int := xs.foldl (fun s x => (s * 69621 + x) % 2147483647) s
def cellF (ns : List Int) (j : Int) : Int := if j < ns.length then ns.getD j.toNat 0 else cellGo (48271 * (j * j + 7 * j + 11) % 2147483647) (cutI ns none (some 3))
def aBB (ds : List D) (d : D) : Prop := ∃ (ns : List Int) (j : Int), ds = [.scr ns, .int j] /\ 0 <= j /\ j < 1000 /\ d = .int (cellF ns j)
theorem aJY : ∀ ds d, aBB ds d -> ds.length = 2 := by rintro _ _ ⟨a, b, rfl, _⟩; rfl
def stF (s0 : Int) : Nat -> Int
  | 0 => s0
  | i + 1 => (stF s0 i * (stF s0 i % 65521 + 40487) + 7 * (i : Int) + 5) % 1999999973
def dgF (d0 : Int) : Nat -> Int
  | 0 => d0
  | i + 1 => dgF d0 i / 1000000
def itF (s0 d0 : Int) (i : Nat) : Int := if dgF d0 i > 0 then dgF d0 i % 1000000 else stF s0 (i + 1)
def seedF (c : Int) : Int := (c % 1999999973 + 31) * 765432101 % 1999999973
def digF (c : Int) : Int := if c < 0 \/ c ≥ 10 ^ 18 then c.natAbs else 0
def numsF (c : Int) (n : Nat) : List Int := (List.range n).map (itF (seedF c) (digF c))
theorem aBI (c : Int) (n : Nat) : (numsF c n).length = n := by simp [numsF]
def jP (ds : List D) (d : D) : Prop := ∃ (c : Int) (n : Nat), ds = [.int c, .int n] /\ n < 1000 /\ d = intsD (numsF c n)
theorem aEP : ∀ ds d, jP ds d -> ds.length = 2 := by rintro _ _ ⟨a, b, rfl, _⟩; rfl
def aAB (ds : List D) (d : D) : Prop := ∃ (c : Int), ds = [.int c] /\ d = .bl true
theorem aHI : ∀ ds d, aAB ds d -> ds.length = 1 := by rintro _ _ ⟨a, rfl, _⟩; rfl
theorem qV {n i : Nat} {d : D} (h : (rangeD 0 n)[i]? = some d) : i < n /\ d = .int (i : Int) := by
  unfold rangeD at h
  rw [List.getElem?_map] at h
  by_cases hi : i < n
  . rw [List.getElem?_range hi] at h
    cases h
    exact ⟨hi, by show D.int (0 + (i : Int)) = _; rw [Int.zero_add]⟩
  . rw [List.getElem?_eq_none (by simpa using hi)] at h; cases h
section
variable {P : Program} {w : World} {K : PySem.W.Frag} {mg : Str -> Option Value} {base : Heap} {k : Nat} {X : Cx}
theorem aOW (h : DefX P w K mg base k N__law_cell (defScope jG) X) (m_len : mg "len" = none) :
    ∀ ds d, aBB ds d -> EvSs X (ds.map Sl.val ++ List.replicate (N__law_cell.length - ds.length) Sl.un) (defBody jG) (.rt d) := by
  rintro ds d ⟨ns, j, rfl, h0, h1, rfl⟩
  have t := h.at'
  haveI := h.fnT
  have bl : Blt X (defScope jG) "len" (.builtin "len") := yN (by rw [h.mg']; exact m_len)
  show EvSs X [.val (.scr ns), .val (.int j), .un, .un] _ _
  by_cases hj : j < ns.length
  . refine aAK (aBD (EvT.eq (aGN (yA t 1 rfl) (yT t bl (EvE.qs (yA t 0 rfl)))) ?_) (yG (zI (yU (EvE.qs (yA t 0 rfl)) (yA t 1 rfl) ?_))))
    . rw [List.length_map]; exact decide_eq_true hj
    . have hn : j.toNat < ns.length := by omega
      rw [aEG h0 rfl hn]
      unfold cellF
      rw [if_pos hj, List.getD_eq_getElem?_getD, List.getElem?_eq_getElem hn]; rfl
  . refine yD (aAE (EvT.eq (aGN (yA t 1 rfl) (yT t bl (EvE.qs (yA t 0 rfl)))) ?_) jK) ?_
    . rw [List.length_map]; exact decide_eq_false hj
    refine yD (zK t 2 (yO (yY yC (yW (yW (yY (yA t 1 rfl) (yA t 1 rfl) (qO (by omega) (by omega))) (yY yC (yA t 1 rfl) (qO (by decide) (by decide)))) yC) (qO (by decide) (by decide))) yC (by decide))) ?_
    refine yD (ρ' := [.val (.scr ns), .val (.int j), .val (.int (cellF ns j)), .un]) (aAP t (aBL (EvE.eq (EvN.toE (aAF (EvE.qs (yA t 0 rfl)) wM (vK yC))) (by rw [vL]))) ?_) (yG (zI (yA t 2 rfl)))
    refine FRun.uptoE (fun i => [.val (.scr ns), .val (.int j), .val (.int (cellGo (48271 * (j * j + 7 * j + 11) % 2147483647) ((cutI ns none (some 3)).take i))), .un]) (fun i d hi => ?_) rfl ?_
    . rw [List.getElem?_map] at hi
      cases e : (cutI ns none (some 3))[i]? with
      | none => rw [e] at hi; cases hi
      | some x =>
        rw [e] at hi; cases hi
        refine ⟨_, yS t 3, EvSs.weak (yG (zK t 2 (yO (yW (yY (yA t 2 rfl) yC (aBJ (by decide) (by decide))) (yA t 3 rfl)) yC (by decide)))) ?_⟩
        have e2 : cellGo (48271 * (j * j + 7 * j + 11) % 2147483647) ((cutI ns none (some 3)).take (i + 1)) = (cellGo (48271 * (j * j + 7 * j + 11) % 2147483647) ((cutI ns none (some 3)).take i) * 69621 + x) % 2147483647 := by
          rw [aCN e]; unfold cellGo; rw [List.foldl_append]; rfl
        rw [e2]
        exact .keep (.keep (.keep (.forget .nil)))
    . rw [List.length_map, List.take_length]
      unfold cellF; rw [if_neg hj]
theorem aHP (h : DefX P w K mg base k N__law_numbers (defScope yZ) X) (m_range : mg "range" = none) (m_abs : mg "abs" = none) (m_int : mg "int" = none) :
    ∀ ds d, jP ds d -> EvSs X (ds.map Sl.val ++ List.replicate (N__law_numbers.length - ds.length) Sl.un) (defBody yZ) (.rt d) := by
  rintro ds d ⟨c, n, rfl, hn, rfl⟩
  have t := h.at'
  haveI := h.fnT
  have b1 : Blt X (defScope yZ) "range" (.type "range") := yN (by rw [h.mg']; exact m_range)
  have b2 : Blt X (defScope yZ) "abs" (.builtin "abs") := yN (by rw [h.mg']; exact m_abs)
  have b3 : Blt X (defScope yZ) "int" (.type "int") := yN (by rw [h.mg']; exact m_int)
  show EvSs X [.val (.int c), .val (.int n), .un, .un, .un, .un] _ _
  refine yD (aFR t 2 (vH yE)) ?_
  refine yD (zK t 3 (yO (yY (yW (yO (yA t 0 rfl) yC (by decide)) yC) yC (aBJ (by decide) (by decide))) yC (by decide))) ?_
  refine yD (zK t 4 yC) ?_
  refine yD (ρ' := [.val (.int c), .val (.int n), .own [], .val (.int (seedF c)), .val (.int (digF c)), .un]) ?_ ?_
  . by_cases h1 : c < 0
    . refine aBD (EvW.toT (aQA (EvT.eq (aGN (yA t 0 rfl) yC) (decide_eq_true h1)))) (EvSs.eq (yG (zK t 4 (aIF t b2 (yA t 0 rfl)))) ?_)
      have e : digF c = (c.natAbs : Int) := by unfold digF; rw [if_pos (.inl h1)]
      rw [e]; rfl
    . by_cases h2 : c ≥ 10 ^ 18
      . refine aBD (EvW.toT (aGK (EvT.eq (aGN (yA t 0 rfl) yC) (decide_eq_false h1)) (aGL (EvT.eq (aRN (yA t 0 rfl) (aYK yC yC ⟨by decide, by decide, by decide⟩)) (decide_eq_true h2))))) (EvSs.eq (yG (zK t 4 (aIF t b2 (yA t 0 rfl)))) ?_)
        have e : digF c = (c.natAbs : Int) := by unfold digF; rw [if_pos (.inr h2)]
        rw [e]; rfl
      . refine aAE (EvW.toT (aGK (EvT.eq (aGN (yA t 0 rfl) yC) (decide_eq_false h1)) (aGL (EvT.eq (aRN (yA t 0 rfl) (aYK yC yC ⟨by decide, by decide, by decide⟩)) (decide_eq_false h2))))) (EvSs.eq jK ?_)
        have e : digF c = 0 := by unfold digF; rw [if_neg (by rintro (z | z); exact h1 z; exact h2 z)]
        rw [e]; rfl
  refine yD (aAP t (qX t b1 (yA t 1 rfl) (by omega) (by omega)) (FRun.uptoE (ρ' := [.val (.int c), .val (.int n), .own ((numsF c n).map D.int), .val (.int (stF (seedF c) n)), .val (.int (dgF (digF c) n)), .un])
    (fun i => [.val (.int c), .val (.int n), .own ((numsF c i).map D.int), .val (.int (stF (seedF c) i)), .val (.int (dgF (digF c) i)), .un]) (fun i d hi => ?_) rfl ?_)) (qW 2 rfl (yG (zI (yA t 2 rfl))))
  . obtain ⟨hin, rfl⟩ := qV hi
    have hi' : i < n := by simpa using hin
    refine ⟨_, yS t 5, EvSs.weak (yD (zK t 3 (yO (yW (yW (yY (yA t 3 rfl) (yW (yO (yA t 3 rfl) yC (by decide)) yC) (aBJ (by omega) (by omega))) (yY yC (yA t 5 rfl) (qO (by decide) (by decide)))) yC) yC (by decide)))
      (yD (aEW t 2 rfl (d := .int (itF (seedF c) (digF c) i)) (yU (EvN.toQ (vH (yB (yA t 3 rfl) (yB (yO (yA t 4 rfl) yC (by decide)) yE)))) (eAK t b3 (eDI (yA t 4 rfl) yC)) ?_) ?_)
      (yG (zK t 4 (aEC t (yA t 4 rfl) yC (by decide)))))) ?_⟩
    . by_cases hd : 0 < dgF (digF c) i
      . have e : itF (seedF c) (digF c) i = dgF (digF c) i % 1000000 := by unfold itF; rw [if_pos hd]
        rw [e, decide_eq_true hd]; rfl
      . have e : itF (seedF c) (digF c) i = stF (seedF c) (i + 1) := by unfold itF; rw [if_neg hd]
        rw [e, decide_eq_false hd]; rfl
    . rw [List.length_map, aBI]; exact small (by omega)
    . have e : numsF c (i + 1) = numsF c i ++ [itF (seedF c) (digF c) i] := by
        unfold numsF; rw [List.range_succ, List.map_append]; rfl
      rw [e, List.map_append]
      exact .keep (.keep (.keep (.keep (.keep (.forget .nil)))))
  . have e : (rangeD 0 (n : Int).toNat).length = n := by simp [rangeD]
    rw [e]
theorem aNH (h : DefX P w K mg base k N__law_whole (defScope zQ) X) (m_isinstance : mg "isinstance" = none) (m_int : mg "int" = none) (m_bool : mg "bool" = none) :
    ∀ ds d, aAB ds d -> EvSs X (ds.map Sl.val ++ List.replicate (N__law_whole.length - ds.length) Sl.un) (defBody zQ) (.rt d) := by
  rintro ds d ⟨c, rfl, rfl⟩
  have t := h.at'
  have b1 : Blt X (defScope zQ) "isinstance" (.builtin "isinstance") := yN (by rw [h.mg']; exact m_isinstance)
  have b2 : Blt X (defScope zQ) "int" (.type "int") := yN (by rw [h.mg']; exact m_int)
  have b3 : Blt X (defScope zQ) "bool" (.type "bool") := yN (by rw [h.mg']; exact m_bool)
  show EvSs X [.val (.int c)] _ _
  exact yG (zI (aEE (aUV (d := .int c) t b1 b2 (yA t 0 rfl) rfl) (aQB (eAI (aUV (d := .int c) t b1 b3 (yA t 0 rfl) rfl)))))
end
end My
namespace My
open PySem L2 L2.EV
def trimI (xs : List Int) : List Int := (xs.reverse.dropWhile (· == 0)).reverse
theorem aAG (xs : List Int) : trimI (xs ++ [0]) = trimI xs := by simp [trimI]
theorem aCL {a : Int} (xs : List Int) (h : a ≠ 0) : trimI (xs ++ [a]) = xs ++ [a] := by simp [trimI, h]
theorem qY (xs : List Int) : (trimI xs).length <= xs.length := by
  unfold trimI
  rw [List.length_reverse]
  have := (List.dropWhile_sublist (l := xs.reverse) (p := fun x => x == 0)).length_le
  rw [List.length_reverse] at this
  exact this
theorem aFC (xs : List Int) : trimI xs = [] \/ ∃ ys a, trimI xs = ys ++ [a] /\ a ≠ 0 := by
  induction h : xs.length generalizing xs with
  | zero => left; rw [List.eq_nil_of_length_eq_zero h]; rfl
  | succ n ih =>
    rcases List.eq_nil_or_concat xs with e | ⟨ys, y, e⟩
    . subst e; left; rfl
    . rw [List.concat_eq_append] at e
      subst e
      by_cases hy : y = 0
      . subst hy; rw [aAG]; exact ih ys (by simpa using h)
      . right; exact ⟨ys, y, aCL ys hy, hy⟩
theorem aSB {X : Cx} {c : Expr} {body : List Stmt} (R : List Int -> Rho) (h1 : EvT X (R []) c false) (h2 : ∀ ys a, (ys ++ [a]).length < 1000 -> EvT X (R (ys ++ [a])) c (decide (a = 0))) (h3 : ∀ ys a, EvSs X (R (ys ++ [a])) body (.nx (R ys))) :
    ∀ (n : Nat) (ys : List Int), ys.length = n -> ys.length < 1000 -> ∃ m, WRun X c body m (R ys) (.nx (R (trimI ys))) := by
  intro n
  induction n with
  | zero => intro ys h _; rw [List.eq_nil_of_length_eq_zero h]; exact ⟨0, .stop h1⟩
  | succ n ih =>
    intro ys h hl
    rcases List.eq_nil_or_concat ys with e | ⟨zs, a, e⟩
    . subst e; exact ⟨0, .stop h1⟩
    . rw [List.concat_eq_append] at e
      subst e
      by_cases ha : a = 0
      . subst ha
        rw [aAG]
        have hz : zs.length = n := by simpa using h
        obtain ⟨m, q⟩ := ih zs hz (by omega)
        exact ⟨m + 1, .step (EvT.eq (h2 zs 0 hl) rfl) (h3 zs 0) q⟩
      . rw [aCL zs ha]
        exact ⟨0, .stop (EvT.eq (h2 zs a hl) (decide_eq_false ha))⟩
def jU (ds : List D) (d : D) : Prop := ∃ xs : List Int, ds = [intsD xs] /\ xs.length < 1000 /\ d = rowD (trimI xs)
theorem aJV : ∀ ds d, jU ds d -> ds.length = 1 := by rintro _ _ ⟨a, rfl, _⟩; rfl
def inn (f g : List Int) (i : Nat) (acc : List Int) : Nat -> List Int
  | 0 => acc
  | j + 1 => (inn f g i acc j).set (i + j) ((inn f g i acc j).getD (i + j) 0 + f.getD i 0 * g.getD j 0)
def outp (f g : List Int) : Nat -> List Int
  | 0 => List.replicate (f.length + g.length) 0
  | i + 1 => inn f g i (outp f g i) g.length
theorem aDZ (f g : List Int) (i : Nat) (acc : List Int) : ∀ j, (inn f g i acc j).length = acc.length
  | 0 => rfl
  | j + 1 => by rw [inn, List.length_set, aDZ]
theorem aCW (f g : List Int) : ∀ i, (outp f g i).length = f.length + g.length
  | 0 => by rw [outp, List.length_replicate]
  | i + 1 => by rw [outp, aDZ, aCW]
def timesL (f g : List Int) : List Int := trimI (outp f g f.length)
theorem aHQ (f g : List Int) : (timesL f g).length <= f.length + g.length := by
  have := qY (outp f g f.length)
  rw [aCW] at this
  exact this
def jV (ds : List D) (d : D) : Prop := ∃ f g : List Int, ds = [rowD f, rowD g] /\ f.length < 100 /\ g.length < 100 /\ (∀ y ∈ g, -(2 ^ 63) < y /\ y < 2 ^ 63) /\ d = rowD (timesL f g)
theorem aHJ : ∀ ds d, jV ds d -> ds.length = 2 := by rintro _ _ ⟨a, b, rfl, _⟩; rfl
theorem wL {xs : List Int} {j : Nat} (h : j < xs.length) : xs.getD j 0 = xs[j] := by rw [List.getD_eq_getElem?_getD, List.getElem?_eq_getElem h]; rfl
theorem zN {xs : List Int} {n : Nat} (h : n < xs.length) : atI (xs.map D.int) (n : Int) = some (.int (xs.getD n 0)) := by
  rw [aEG (by omega) (Int.toNat_natCast n) h, wL h]
section
variable {P : Program} {w : World} {K : PySem.W.Frag} {mg : Str -> Option Value} {base : Heap} {k : Nat} {X : Cx}
theorem aOT (h : DefX P w K mg base k N__law_trim (defScope qG) X) (m_list : mg "list" = none) (m_tuple : mg "tuple" = none) (m_len : mg "len" = none) :
    ∀ ds d, jU ds d -> EvSs X (ds.map Sl.val ++ List.replicate (N__law_trim.length - ds.length) Sl.un) (defBody qG) (.rt d) := by
  rintro ds d ⟨xs, rfl, hl, rfl⟩
  have t := h.at'
  haveI := h.fnT
  have b1 : Blt X (defScope qG) "list" (.type "list") := yN (by rw [h.mg']; exact m_list)
  have b2 : Blt X (defScope qG) "tuple" (.type "tuple") := yN (by rw [h.mg']; exact m_tuple)
  have b3 : Blt X (defScope qG) "len" (.builtin "len") := yN (by rw [h.mg']; exact m_len)
  show EvSs X [.val (intsD xs), .un] _ _
  refine yD (aFR t 1 (aCI t b1 (EvE.ql (yA t 0 rfl)))) ?_
  refine yD (jY t (aSB (fun ys => [.val (intsD xs), .own (ys.map D.int)]) ?_ (fun ys a hy => ?_) (fun ys a => ?_) _ xs rfl hl)) (yG (zI (vS t b2 (jN t 1 rfl))))
  . exact EvW.toT (aKG (aDG t (EvQ.p (jN t 1 rfl)) (EvE.p (EvN.toE (vH yE))) (vY []) (vY []) (by have := aOI [] []; exact congrArg not this)))
  . refine EvW.toT (aEA (aDG t (EvQ.p (jN t 1 rfl)) (EvE.p (EvN.toE (vH yE))) (vY (ys ++ [a])) (vY []) (by have := aOI (ys ++ [a]) []; rw [decide_eq_false (by simp)] at this; exact congrArg not this)) (aEB (vA (yU (d := .int a) (jN t 1 rfl) (qE (yT t b3 (jN t 1 rfl)) yC) ?_) yC)))
    rw [List.length_map, aEG (n := ys.length) (by simp) (by simp) (by simp)]
    simp
  . refine EvSs.eq (yG (aYX t 1 rfl (by simp))) ?_
    rw [List.map_append]
    have e : (ys.map D.int ++ [a].map D.int).dropLast = ys.map D.int := by simp
    rw [e]; rfl
theorem aNI (h : DefX P w K mg base k N__law_times (defScope qB) X) (m_range : mg "range" = none) (m_len : mg "len" = none) (c1 : Callee X "_law_trim" jU) :
    ∀ ds d, jV ds d -> EvSs X (ds.map Sl.val ++ List.replicate (N__law_times.length - ds.length) Sl.un) (defBody qB) (.rt d) := by
  rintro ds d ⟨f, g, rfl, hf, hg, hb, rfl⟩
  have t := h.at'
  haveI := h.fnT
  have b1 : Blt X (defScope qB) "range" (.type "range") := yN (by rw [h.mg']; exact m_range)
  have b2 : Blt X (defScope qB) "len" (.builtin "len") := yN (by rw [h.mg']; exact m_len)
  show EvSs X [.val (rowD f), .val (rowD g), .un, .un, .un] _ _
  refine yD (aFR (xs := (List.replicate (f.length + g.length) 0).map D.int) t 2 (EvN.eq (aVC (n := (f.length : Int) + g.length) (EvN.toE (vH (yB yC yE))) (EvE.eq (yW (yT t b2 (EvE.qt (yA t 0 rfl))) (yT t b2 (EvE.qt (yA t 1 rfl)))) (by rw [List.length_map, List.length_map])) (by omega) (by omega) ?_) ?_)) ?_
  . have e : ((f.length : Int) + g.length).toNat = f.length + g.length := by omega
    rw [e]; have := lineN; simp; omega
  . have e : ((f.length : Int) + g.length).toNat = f.length + g.length := by omega
    rw [e, aJE]
  refine yD (ρ' := [.val (rowD f), .val (rowD g), .own ((outp f g f.length).map D.int), .un, .un]) (aAP t (qX t b1 (yT t b2 (EvE.qt (yA t 0 rfl))) (by omega) (by rw [List.length_map]; omega)) (FRun.uptoE (fun i => [.val (rowD f), .val (rowD g), .own ((outp f g i).map D.int), .un, .un]) (fun i d hi => ?_) rfl ?_)) ?_
  . obtain ⟨hin, rfl⟩ := qV hi
    have hi' : i < f.length := by simpa using hin
    refine ⟨_, yS t 3, EvSs.weak (ρ1 := [.val (rowD f), .val (rowD g), .own ((outp f g (i + 1)).map D.int), .val (.int i), .un]) (yG (aAP t (qX t b1 (yT t b2 (EvE.qt (yA t 1 rfl))) (by omega) (by rw [List.length_map]; omega))
      (FRun.uptoE (fun j => [.val (rowD f), .val (rowD g), .own ((inn f g i (outp f g i) j).map D.int), .val (.int i), .un]) (fun j d hj => ?_) rfl ?_))) (.keep (.keep (.keep (.forget (.keep .nil)))))⟩
    . obtain ⟨hjn, rfl⟩ := qV hj
      have hj' : j < g.length := by simpa using hjn
      have hl : (inn f g i (outp f g i) j).length = f.length + g.length := by rw [aDZ, aCW]
      have hy : -(2 ^ 63) < g.getD j 0 /\ g.getD j 0 < 2 ^ 63 := by rw [wL hj']; exact hb _ (List.getElem_mem _)
      have e1 : ((i : Int) + (j : Int)) = ((i + j : Nat) : Int) := by omega
      refine ⟨_, yS t 4, EvSs.weak (yG (aHC t (yW (i := (inn f g i (outp f g i) j).getD (i + j) 0) (yU (jN t 2 rfl) (yW (yA t 3 rfl) (yA t 4 rfl)) ?_) (yY (i := f.getD i 0) (j := g.getD j 0) (yU (EvE.qt (yA t 0 rfl)) (yA t 3 rfl) (zN hi')) (yU (EvE.qt (yA t 1 rfl)) (yA t 4 rfl) (zN hj')) (aBJ (by omega) (by omega)))) (aGR (j := i + j) t 2 rfl (yW (yA t 3 rfl) (yA t 4 rfl)) ?_))) ?_⟩
      . rw [e1]; exact zN (by omega)
      . rw [List.length_map]; exact aGI (by omega) (by omega) (by omega)
      . rw [inn, List.map_set]
        exact .keep (.keep (.keep (.keep (.forget .nil))))
    . have e : (rangeD 0 ((g.map D.int).length : Int).toNat).length = g.length := by simp [rangeD]
      rw [e]; rfl
  . have e : (rangeD 0 ((f.map D.int).length : Int).toNat).length = f.length := by simp [rangeD]
    rw [e]
  . refine qW 2 rfl (yG (zI (yF t c1 (yB (yA t 2 rfl) yE) ⟨outp f g f.length, rfl, by rw [aCW]; omega, rfl⟩)))
end
end My
namespace My
open PySem L2 L2.EV
def sizeF (xs : List Int) : Int := ([9, 3, 1, 1000] : List Int).getD (xs.getD 0 0 % 4).toNat 0
def someRow (xs : List Int) (most : Int) : List Int := trimI ((cutI xs (some 2) (some (3 + xs.getD 1 0 % (most + 1)))).map fun x => x % (2 * sizeF xs + 1) - sizeF xs)
theorem aFH (xs : List Int) : 0 < sizeF xs /\ sizeF xs <= 1000 := by
  unfold sizeF
  have h1 := Int.emod_nonneg (xs.getD 0 0) (show (4 : Int) ≠ 0 by decide)
  have h2 := Int.emod_lt_of_pos (xs.getD 0 0) (show (0 : Int) < 4 by decide)
  generalize xs.getD 0 0 % 4 = r at *
  have : r = 0 \/ r = 1 \/ r = 2 \/ r = 3 := by omega
  rcases this with rfl | rfl | rfl | rfl <;> decide
theorem aAM (xs : List Int) (most : Int) : (someRow xs most).length <= xs.length := by
  have h1 := qY ((cutI xs (some 2) (some (3 + xs.getD 1 0 % (most + 1)))).map fun x => x % (2 * sizeF xs + 1) - sizeF xs)
  have h2 := aEZ xs (some 2) (some (3 + xs.getD 1 0 % (most + 1)))
  rw [List.length_map] at h1
  exact Nat.le_trans h1 h2
theorem aBR {xs : List Int} {x : Int} (h : x ∈ trimI xs) : x ∈ xs := by
  unfold trimI at h
  rw [List.mem_reverse] at h
  have := (List.dropWhile_sublist (l := xs.reverse) (p := fun x => x == 0)).mem h
  exact List.mem_reverse.mp this
theorem aCQ (xs : List Int) (most : Int) : ∀ y ∈ someRow xs most, -(2 ^ 63) < y /\ y < 2 ^ 63 := fun y hy => by
  obtain ⟨x, _, rfl⟩ := List.mem_map.mp (aBR hy)
  obtain ⟨h1, h2⟩ := aFH xs
  have h3 := Int.emod_nonneg x (show (2 * sizeF xs + 1 : Int) ≠ 0 by omega)
  have h4 := Int.emod_lt_of_pos x (show (0 : Int) < 2 * sizeF xs + 1 by omega)
  omega
def vF (ds : List D) (d : D) : Prop := ∃ (xs : List Int) (most : Int), ds = [intsD xs, .int most] /\ 2 <= xs.length /\ xs.length < 1000 /\ 0 <= most /\ most < 1000 /\ d = rowD (someRow xs most)
theorem aDY : ∀ ds d, vF ds d -> ds.length = 2 := by rintro _ _ ⟨a, b, rfl, _⟩; rfl
def leadF (xs : List Int) : Int := if xs.getD 0 0 / 3 % 2 = 1 then -1 - xs.getD 0 0 % 3 else 1 + xs.getD 0 0 % 3
def facF (xs : List Int) (k : Nat) : List Int := [xs.getD (2 + 2 * k) 0 % 9 - 4, 1 + xs.getD (3 + 2 * k) 0 % 3]
def powT (g : List Int) (f : List Int) : Nat -> List Int
  | 0 => f
  | n + 1 => timesL (powT g f n) g
def timesN (xs : List Int) (k : Nat) : Nat := (1 + xs.getD (2 + 2 * k) 0 / 9 % 2).toNat
def plantGo (xs : List Int) : Nat -> List Int
  | 0 => [leadF xs]
  | k + 1 => powT (facF xs k) (plantGo xs k) (timesN xs k)
def plantedF (xs : List Int) : List Int := plantGo xs (xs.getD 1 0 % 4).toNat
theorem aRM (xs : List Int) (k : Nat) : ∀ y ∈ facF xs k, -(2 ^ 63) < y /\ y < 2 ^ 63 := fun y hy => by
  unfold facF at hy
  rcases List.mem_cons.mp hy with rfl | hy
  . omega
  . rcases List.mem_cons.mp hy with rfl | hy
    . omega
    . cases hy
theorem aBE (xs : List Int) (k : Nat) : timesN xs k <= 2 := by unfold timesN; omega
theorem aEX (g f : List Int) : ∀ n, (powT g f n).length <= f.length + n * g.length
  | 0 => by simp [powT]
  | n + 1 => by
    have h1 := aHQ (powT g f n) g
    have h2 := aEX g f n
    rw [powT, Nat.succ_mul]
    omega
theorem aAQ (xs : List Int) : ∀ k, (plantGo xs k).length <= 1 + 4 * k
  | 0 => by simp [plantGo]
  | k + 1 => by
    have h1 := aEX (facF xs k) (plantGo xs k) (timesN xs k)
    have h2 := aAQ xs k
    have h3 := aBE xs k
    have h4 : (facF xs k).length = 2 := rfl
    rw [h4] at h1
    rw [plantGo]
    omega
theorem aFV (xs : List Int) : (plantedF xs).length <= 13 := by
  have := aAQ xs (xs.getD 1 0 % 4).toNat
  unfold plantedF
  have h2 : (xs.getD 1 0 % 4).toNat <= 3 := by omega
  omega
def vM (ds : List D) (d : D) : Prop := ∃ (xs : List Int), ds = [intsD xs] /\ 8 <= xs.length /\ xs.length < 1000 /\ d = rowD (plantedF xs)
theorem aEO : ∀ ds d, vM ds d -> ds.length = 1 := by rintro _ _ ⟨a, rfl, _⟩; rfl
def rowF (c : Int) (most : Int) : List Int :=
  if (numsF c 22).getD 0 0 % 5 = 0 then plantedF (cutI (numsF c 22) (some 1) none)
  else if (numsF c 22).getD 0 0 % 5 = 1 then timesL (plantedF (cutI (numsF c 22) (some 1) (some 5) ++ List.replicate 6 0)) (someRow (cutI (numsF c 22) (some 12) none) 2)
  else if (numsF c 22).getD 0 0 % 5 = 2 then timesL (someRow (cutI (numsF c 22) (some 1) none) 2) (someRow (cutI (numsF c 22) (some 12) none) 2)
  else someRow (cutI (numsF c 22) (some 1) none) most
def aBV (ds : List D) (d : D) : Prop := ∃ (c most : Int), ds = [.int c, .int most] /\ 0 <= most /\ most < 1000 /\ d = rowD (rowF c most)
theorem aMG : ∀ ds d, aBV ds d -> ds.length = 2 := by rintro _ _ ⟨a, b, rfl, _⟩; rfl
theorem aQK {xs : List Int} (h : xs.length = 22) : (cutI xs (some 1) none).length = 21 := by unfold cutI; rw [List.length_take, List.length_drop, h]; decide
theorem aVJ {xs : List Int} (h : xs.length = 22) : (cutI xs (some 12) none).length = 10 := by unfold cutI; rw [List.length_take, List.length_drop, h]; decide
theorem aMS {xs : List Int} (h : xs.length = 22) : (cutI xs (some 1) (some 5)).length = 4 := by unfold cutI; rw [List.length_take, List.length_drop, h]; decide
def RowOk (f : List Int) : Prop := f = [] \/ ∃ ys a, f = ys ++ [a] /\ a ≠ 0
theorem aZK (g f : List Int) (h : RowOk f) : ∀ n, RowOk (powT g f n)
  | 0 => h
  | n + 1 => aFC _
theorem aHX (xs : List Int) : ∀ k, RowOk (plantGo xs k)
  | 0 => .inr ⟨[], leadF xs, rfl, by unfold leadF; split <;> omega⟩
  | k + 1 => aZK _ _ (aHX xs k) _
theorem aZB (c most : Int) : RowOk (rowF c most) := by
  unfold rowF
  split
  . exact aHX _ _
  . split
    . exact aFC _
    . split
      . exact aFC _
      . exact aFC _
section
variable {P : Program} {w : World} {K : PySem.W.Frag} {mg : Str -> Option Value} {base : Heap} {k : Nat} {X : Cx}
theorem aGW (h : DefX P w K mg base k N__law_some_row (defScope zX) X) (c1 : Callee X "_law_trim" jU) :
    ∀ ds d, vF ds d -> EvSs X (ds.map Sl.val ++ List.replicate (N__law_some_row.length - ds.length) Sl.un) (defBody zX) (.rt d) := by
  rintro ds d ⟨xs, most, rfl, h2, hl, h0, h1, rfl⟩
  have t := h.at'
  haveI := h.fnT
  obtain ⟨s1, s2⟩ := aFH xs
  show EvSs X [.val (intsD xs), .val (.int most), .un] _ _
  refine yD (zK (d := .int (sizeF xs)) t 2 (yU (EvN.toQ (vH (yB yC (yB yC (yB yC (yB yC yE)))))) (yO (i := xs.getD 0 0) (yU (EvE.ql (yA t 0 rfl)) yC (zN (n := 0) (by omega))) yC (by decide)) ?_)) ?_
  . exact eAW (xs := [9, 3, 1, 1000]) (by omega) (by show _ < 4; omega)
  . refine yG (zI (yF t c1 (yB (d := intsD ((cutI xs (some 2) (some (3 + xs.getD 1 0 % (most + 1)))).map fun x => x % (2 * sizeF xs + 1) - sizeF xs)) (EvN.toE (vC t ["_law_xs", "_law_most", "_law_size", "_law_x"] (csc (by decide +kernel)) (aBL (EvE.eq (EvN.toE (aAF (EvE.ql (yA t 0 rfl)) (vK yC) (vK (yW yC (yO (i := xs.getD 1 0) (yU (EvE.ql (yA t 0 rfl)) yC (zN (n := 1) (by omega))) (yW (yA t 1 rfl) yC) (by omega)))))) (by rw [vL]))) ?_ fun X' cx => ?_)) yE) ⟨_, rfl, ?_, rfl⟩))
    . rw [List.length_map]; have := aEZ xs (some 2) (some (3 + xs.getD 1 0 % (most + 1))); exact small (by omega)
    . have t' := cx.at'
      exact CRun.ints _ (fun x => [.val (intsD xs), .val (.int most), .val (.int (sizeF xs)), .val (.int x)]) (fun d hd => yK t' 3) (fun d hd e he => yK t' 3) fun d hd =>
        qE (yO (yA t' 3 rfl) (yW (yY (i := 2) (j := sizeF xs) yC (yA t' 2 rfl) (qO (by decide) (by decide))) yC) (by omega)) (yA t' 2 rfl)
    . rw [List.length_map]; have := aEZ xs (some 2) (some (3 + xs.getD 1 0 % (most + 1))); omega
theorem aHO (h : DefX P w K mg base k N__law_planted (defScope zS) X) (m_range : mg "range" = none) (c1 : Callee X "_law_times" jV) :
    ∀ ds d, vM ds d -> EvSs X (ds.map Sl.val ++ List.replicate (N__law_planted.length - ds.length) Sl.un) (defBody zS) (.rt d) := by
  rintro ds d ⟨xs, rfl, h8, hl, rfl⟩
  have t := h.at'
  haveI := h.fnT
  have b1 : Blt X (defScope zS) "range" (.type "range") := yN (by rw [h.mg']; exact m_range)
  show EvSs X [.val (intsD xs), .un, .un, .un, .un] _ _
  refine yD (zK t 1 (zC (yB (yW yC (yO (i := xs.getD 0 0) (yU (EvE.ql (yA t 0 rfl)) yC (zN (n := 0) (by omega))) yC (by decide))) yE))) ?_
  refine yD (ρ' := [.val (intsD xs), .val (rowD [leadF xs]), .un, .un, .un]) ?_ ?_
  . by_cases hc : xs.getD 0 0 / 3 % 2 = 1
    . refine aBD (EvT.eq (vA (yO (aEC (i := xs.getD 0 0) t (yU (EvE.ql (yA t 0 rfl)) yC (zN (n := 0) (by omega))) yC (by decide)) yC (by decide)) yC) (decide_eq_true hc)) (EvSs.eq (yG (zK t 1 (zC (yB (qE (jH yC) (yO (i := xs.getD 0 0) (yU (EvE.ql (yA t 0 rfl)) yC (zN (n := 0) (by omega))) yC (by decide))) yE)))) ?_)
      have e : leadF xs = -1 - xs.getD 0 0 % 3 := by unfold leadF; rw [if_pos hc]
      rw [e]; rfl
    . refine aAE (EvT.eq (vA (yO (aEC (i := xs.getD 0 0) t (yU (EvE.ql (yA t 0 rfl)) yC (zN (n := 0) (by omega))) yC (by decide)) yC (by decide)) yC) (decide_eq_false hc)) (EvSs.eq jK ?_)
      have e : leadF xs = 1 + xs.getD 0 0 % 3 := by unfold leadF; rw [if_neg hc]
      rw [e]; rfl
  refine yD (ρ' := [.val (intsD xs), .val (rowD (plantedF xs)), .un, .un, .un]) (aAP t (qX t b1 (yO (i := xs.getD 1 0) (yU (EvE.ql (yA t 0 rfl)) yC (zN (n := 1) (by omega))) yC (by decide)) (by omega) (by omega)) (FRun.uptoE (fun i => [.val (intsD xs), .val (rowD (plantGo xs i)), .un, .un, .un]) (fun i d hi => ?_) rfl ?_)) (yG (zI (yA t 1 rfl)))
  . obtain ⟨hin, rfl⟩ := qV hi
    have hi' : i < 3 := by omega
    have p1 := aAQ xs i
    have p2 := aBE xs i
    refine ⟨_, yS t 2, EvSs.weak (ρ1 := [.val (intsD xs), .val (rowD (plantGo xs (i + 1))), .val (.int i), .val (rowD (facF xs i)), .un]) (yD (zK t 3 (EvE.eq (d := .tup [.int (xs.getD (2 + 2 * i) 0 % 9 - 4), .int (1 + xs.getD (3 + 2 * i) 0 % 3)]) (zC (yB (qE (yO (i := xs.getD (2 + 2 * i) 0) (yU (EvE.ql (yA t 0 rfl)) (yW yC (yY yC (yA t 2 rfl) (qO (by decide) (by decide)))) ?_) yC (by decide)) yC) (yB (yW yC (yO (i := xs.getD (3 + 2 * i) 0) (yU (EvE.ql (yA t 0 rfl)) (yW yC (yY yC (yA t 2 rfl) (qO (by decide) (by decide)))) ?_) yC (by decide))) yE))) rfl)) (yG (aAP t (EvI.eq (qX t b1 (yW yC (yO (aEC (i := xs.getD (2 + 2 * i) 0) t (yU (EvE.ql (yA t 0 rfl)) (yW yC (yY yC (yA t 2 rfl) (qO (by decide) (by decide)))) ?_) yC (by decide)) yC (by decide))) (by omega) (by omega)) (show _ = rangeD 0 (timesN xs i) from rfl))
      (FRun.uptoE (fun n => [.val (intsD xs), .val (rowD (powT (facF xs i) (plantGo xs i) n)), .val (.int i), .val (rowD (facF xs i)), .un]) (fun n d hn => ?_) rfl ?_)))) (.keep (.keep (.forget (.forget (.keep .nil)))))⟩
    . rw [show (2 + 2 * (i : Int)) = ((2 + 2 * i : Nat) : Int) by omega]; exact zN (by omega)
    . rw [show (3 + 2 * (i : Int)) = ((3 + 2 * i : Nat) : Int) by omega]; exact zN (by omega)
    . rw [show (2 + 2 * (i : Int)) = ((2 + 2 * i : Nat) : Int) by omega]; exact zN (by omega)
    . obtain ⟨hn', rfl⟩ := qV hn
      have p3 := aEX (facF xs i) (plantGo xs i) n
      have p4 : (facF xs i).length = 2 := rfl
      refine ⟨_, yS t 4, EvSs.weak (yG (zK t 1 (yF t c1 (yB (yA t 1 rfl) (yB (yA t 3 rfl) yE)) ⟨_, _, rfl, by rw [p4] at p3; omega, by rw [p4]; decide, aRM xs i, rfl⟩))) (.keep (.keep (.keep (.keep (.forget .nil)))))⟩
    . have e : (rangeD 0 (timesN xs i)).length = timesN xs i := by simp [rangeD]
      rw [e]; rfl
  . have e : (rangeD 0 (xs.getD 1 0 % 4).toNat).length = (xs.getD 1 0 % 4).toNat := by simp [rangeD]
    rw [e]; rfl
end
end My
namespace My
open PySem L2 L2.EV
def aAC (ds : List D) (d : D) : Prop := ∃ (f : List Int), ds = [rowD f, rowD f] /\ f.length < 1000 /\ d = .bl true
theorem aHK : ∀ ds d, aAC ds d -> ds.length = 2 := by rintro _ _ ⟨a, rfl, _⟩; rfl
def aPA (ds : List D) (d : D) : Prop := ∃ (ns : List Int), ds = [.scr ns] /\ ns.length <= 63 /\ d = .bl true
theorem aZZ : ∀ ds d, aPA ds d -> ds.length = 1 := by rintro _ _ ⟨a, rfl, _⟩; rfl
theorem aWZ (ns : List Int) (h : ns.length <= 63) : aPA [.scr ns] (.bl true) := ⟨ns, rfl, h, rfl⟩
section
variable {P : Program} {w : World} {K : PySem.W.Frag} {mg : Str -> Option Value} {base : Heap} {k : Nat} {X : Cx}
theorem aRU (h : DefX P w K mg base k N__law_row (defScope vJ) X) (c1 : Callee X "_law_numbers" jP) (c2 : Callee X "_law_some_row" vF) (c3 : Callee X "_law_planted" vM) (c4 : Callee X "_law_times" jV) :
    ∀ ds d, aBV ds d -> EvSs X (ds.map Sl.val ++ List.replicate (N__law_row.length - ds.length) Sl.un) (defBody vJ) (.rt d) := by
  rintro ds d ⟨c, most, rfl, h0, h1, rfl⟩
  have t := h.at'
  haveI := h.fnT
  have h22 : (numsF c 22).length = 22 := aBI c 22
  have l1 := aQK h22
  have l2 := aVJ h22
  have l3 := aMS h22
  show EvSs X [.val (.int c), .val (.int most), .un, .un] _ _
  refine yD (zK t 2 (yF t c1 (yB (yA t 0 rfl) (yB yC yE)) ⟨c, 22, rfl, by decide, rfl⟩)) ?_
  refine yD (zK t 3 (yO (i := (numsF c 22).getD 0 0) (yU (EvE.ql (yA t 2 rfl)) yC (zN (n := 0) (by omega))) yC (by decide))) ?_
  have r1 : RowOk [] := .inl rfl
  by_cases w0 : (numsF c 22).getD 0 0 % 5 = 0
  . refine aAK (aBD (EvT.eq (vA (yA t 3 rfl) yC) (decide_eq_true w0)) (yG (zI (EvE.eq (yF t c3 (yB (EvE.eq (EvN.toE (aAF (EvE.ql (yA t 2 rfl)) (vK yC) wM)) (by rw [vL])) yE) ⟨cutI (numsF c 22) (some 1) none, rfl, by omega, by omega, rfl⟩) ?_))))
    unfold rowF; rw [if_pos w0]
  refine yD (aAE (EvT.eq (vA (yA t 3 rfl) yC) (decide_eq_false w0)) jK) ?_
  by_cases w1 : (numsF c 22).getD 0 0 % 5 = 1
  . refine aAK (aBD (EvT.eq (vA (yA t 3 rfl) yC) (decide_eq_true w1)) (yG (zI (EvE.eq (yF t c4 (yB (yF t c3 (yB (EvE.eq (d' := intsD (cutI (numsF c 22) (some 1) (some 5) ++ List.replicate 6 0)) (EvN.toE (aQG (EvE.eq (EvN.toE (aAF (EvE.ql (yA t 2 rfl)) (vK yC) (vK yC))) (by rw [vL])) (EvE.eq (EvN.toE (aVC (n := 6) (EvN.toE (vH (yB yC yE))) yC (by decide) (by decide) (by decide))) (by rw [aJE])) ?_)) (by show D.lst _ = D.lst (List.map D.int (_ ++ _)); rw [List.map_append]; rfl)) yE) ⟨_, rfl, ?_, ?_, rfl⟩) (yB (yF t c2 (yB (EvE.eq (EvN.toE (aAF (EvE.ql (yA t 2 rfl)) (vK yC) wM)) (by rw [vL])) (yB yC yE)) ⟨cutI (numsF c 22) (some 12) none, 2, rfl, by omega, by omega, by decide, by decide, rfl⟩) yE)) ⟨_, _, rfl, ?_, ?_, aCQ _ _, rfl⟩) ?_))))
    . have := lineN; simp [l3]; omega
    . rw [List.length_append, l3, List.length_replicate]; decide
    . rw [List.length_append, l3, List.length_replicate]; decide
    . have := aFV (cutI (numsF c 22) (some 1) (some 5) ++ List.replicate 6 0); omega
    . have := aAM (cutI (numsF c 22) (some 12) none) 2; omega
    . unfold rowF; rw [if_neg w0, if_pos w1]
  refine yD (aAE (EvT.eq (vA (yA t 3 rfl) yC) (decide_eq_false w1)) jK) ?_
  by_cases w2 : (numsF c 22).getD 0 0 % 5 = 2
  . refine aAK (aBD (EvT.eq (vA (yA t 3 rfl) yC) (decide_eq_true w2)) (yG (zI (EvE.eq (yF t c4 (yB (yF t c2 (yB (EvE.eq (EvN.toE (aAF (EvE.ql (yA t 2 rfl)) (vK yC) wM)) (by rw [vL])) (yB yC yE)) ⟨cutI (numsF c 22) (some 1) none, 2, rfl, by omega, by omega, by decide, by decide, rfl⟩) (yB (yF t c2 (yB (EvE.eq (EvN.toE (aAF (EvE.ql (yA t 2 rfl)) (vK yC) wM)) (by rw [vL])) (yB yC yE)) ⟨cutI (numsF c 22) (some 12) none, 2, rfl, by omega, by omega, by decide, by decide, rfl⟩) yE)) ⟨_, _, rfl, ?_, ?_, aCQ _ _, rfl⟩) ?_))))
    . have := aAM (cutI (numsF c 22) (some 1) none) 2; omega
    . have := aAM (cutI (numsF c 22) (some 12) none) 2; omega
    . unfold rowF; rw [if_neg w0, if_neg w1, if_pos w2]
  refine yD (aAE (EvT.eq (vA (yA t 3 rfl) yC) (decide_eq_false w2)) jK) ?_
  refine yG (zI (EvE.eq (yF t c2 (yB (EvE.eq (EvN.toE (aAF (EvE.ql (yA t 2 rfl)) (vK yC) wM)) (by rw [vL])) (yB (yA t 1 rfl) yE)) ⟨cutI (numsF c 22) (some 1) none, most, rfl, by omega, by omega, h0, h1, rfl⟩) ?_))
  unfold rowF; rw [if_neg w0, if_neg w1, if_neg w2]
theorem aNJ (h : DefX P w K mg base k N__law_right (defScope zR) X) (m_isinstance : mg "isinstance" = none) (m_tuple : mg "tuple" = none) (m_all : mg "all" = none) (c1 : Callee X "_law_whole" aAB) :
    ∀ ds d, aAC ds d -> EvSs X (ds.map Sl.val ++ List.replicate (N__law_right.length - ds.length) Sl.un) (defBody zR) (.rt d) := by
  rintro ds d ⟨f, rfl, hf, rfl⟩
  have t := h.at'
  haveI := h.fnT
  have b1 : Blt X (defScope zR) "isinstance" (.builtin "isinstance") := yN (by rw [h.mg']; exact m_isinstance)
  have b2 : Blt X (defScope zR) "tuple" (.type "tuple") := yN (by rw [h.mg']; exact m_tuple)
  have b3 : Blt X (defScope zR) "all" (.builtin "all") := yN (by rw [h.mg']; exact m_all)
  show EvSs X [.val (rowD f), .val (rowD f)] _ _
  refine yG (zI (aEE (aUV (d := rowD f) t b1 b2 (yA t 0 rfl) rfl) (aEE (eDJ t (EvE.p (yA t 0 rfl)) (EvE.p (yA t 1 rfl)) (yI f) (yI f) (by rw [jS]; exact decide_eq_true rfl)) (aQB (EvE.eq (eDK (bs := f.map fun _ => true) t b3 (EvN.toQ (EvN.eq (vC (rs := f.map fun _ => D.bl true) t ["_law_found", "_law_due", "_law_x"] (csc (by decide +kernel)) (aBZ (yA t 0 rfl)) (by rw [List.length_map]; exact small hf) fun X' cx => ?_) ?_))) ?_)))))
  . have t' := cx.at'
    exact CRun.gen D.int (fun _ => .bl true) (fun x => [.val (rowD f), .val (rowD f), .val (.int x)]) f _ (fun d hd => yK t' 2) (fun d hd e he => yK t' 2) fun d hd =>
      yF t' (cx.callee c1) (yB (yA t' 2 rfl) yE) ⟨d, rfl, rfl⟩
  . rw [List.map_map]; rfl
  . have e : (f.map fun _ => true).all id = true := by simp
    rw [e]
end
end My
namespace My
open PySem L2 L2.EV
theorem aWB (xs : List Int) : xs.take (trimI xs).length = trimI xs := by
  induction h : xs.length generalizing xs with
  | zero => rw [List.eq_nil_of_length_eq_zero h]; rfl
  | succ n ih =>
    rcases List.eq_nil_or_concat xs with e | ⟨ys, y, e⟩
    . subst e; rfl
    . rw [List.concat_eq_append] at e
      subst e
      by_cases hy : y = 0
      . subst hy
        rw [aAG]
        have q := ih ys (by simpa using h)
        have l := qY ys
        rw [List.take_append_of_le_length l]; exact q
      . rw [aCL ys hy, List.take_length]
theorem aQJ {X : Cx} {c : Expr} {body : List Stmt} (R : Nat -> Rho) (xs : List Int) (h1 : EvT X (R 0) c false) (h2 : ∀ m (h : m < xs.length), EvT X (R (m + 1)) c (decide (xs[m] = 0))) (h3 : ∀ m, EvSs X (R (m + 1)) body (.nx (R m))) :
    ∀ m, m <= xs.length -> ∃ n, WRun X c body n (R m) (.nx (R (trimI (xs.take m)).length))
  | 0, _ => ⟨0, .stop h1⟩
  | m + 1, hm => by
    have hlt : m < xs.length := hm
    have e : xs.take (m + 1) = xs.take m ++ [xs[m]] := aCN (List.getElem?_eq_getElem hlt)
    by_cases hz : xs[m] = 0
    . obtain ⟨n, q⟩ := aQJ R xs h1 h2 h3 m (by omega)
      refine ⟨n + 1, .step (EvT.eq (h2 m hlt) (decide_eq_true hz)) (h3 m) ?_⟩
      rw [e, hz, aAG]; exact q
    . refine ⟨0, ?_⟩
      rw [e, aCL _ hz]
      have el : (xs.take m ++ [xs[m]]).length = m + 1 := by rw [<- e, List.length_take]; omega
      rw [el]
      exact .stop (EvT.eq (h2 m hlt) (decide_eq_false hz))
def vT (ds : List D) (d : D) : Prop := ∃ xs : List Int, ds = [intsD xs, .int 0] /\ xs.length < 1000 /\ d = rowD (trimI xs)
theorem aGE : ∀ ds d, vT ds d -> ds.length = 2 := by rintro _ _ ⟨a, rfl, _⟩; rfl
def aAY (ds : List D) (d : D) : Prop := ∃ xs : List Int, ds = [intsD xs] /\ xs.length < 1000 /\ d = rowD (trimI xs)
theorem aRI : ∀ ds d, aAY ds d -> ds.length = 1 := by rintro _ _ ⟨a, rfl, _⟩; rfl
def slopeL (f : List Int) : List Int := (List.range (f.length - 1)).map fun (i : Nat) => (1 + (i : Int)) * f.getD (1 + i) 0
def aKR (ds : List D) (d : D) : Prop := ∃ f : List Int, ds = [rowD f] /\ f.length < 1000 /\ d = rowD (slopeL f)
theorem aUF : ∀ ds d, aKR ds d -> ds.length = 1 := by rintro _ _ ⟨a, rfl, _⟩; rfl
section
variable {P : Program} {w : World} {K : PySem.W.Frag} {mg : Str -> Option Value} {base : Heap} {k : Nat} {X : Cx}
theorem aKO (h : DefX P w K mg base k N_without_end (defScope zO) X) (m_len : mg "len" = none) (m_tuple : mg "tuple" = none) :
    ∀ ds d, vT ds d -> EvSs X (ds.map Sl.val ++ List.replicate (N_without_end.length - ds.length) Sl.un) (defBody zO) (.rt d) := by
  rintro ds d ⟨xs, rfl, hl, rfl⟩
  have t := h.at'
  haveI := h.fnT
  have b1 : Blt X (defScope zO) "len" (.builtin "len") := yN (by rw [h.mg']; exact m_len)
  have b2 : Blt X (defScope zO) "tuple" (.type "tuple") := yN (by rw [h.mg']; exact m_tuple)
  show EvSs X [.val (intsD xs), .val (.int 0), .un] _ _
  refine yD (zK t 2 (EvE.eq (yT t b1 (EvE.ql (yA t 0 rfl))) (by rw [List.length_map]))) ?_
  refine yD (jY t (aQJ (fun m => [.val (intsD xs), .val (.int 0), .val (.int (m : Int))]) xs ?_ (fun m hm => ?_) (fun m => ?_) xs.length (Nat.le_refl _))) (yG (zI (EvE.eq (vS t b2 (EvN.toQ (aAF (EvE.ql (yA t 0 rfl)) wM (vK (yA t 2 rfl))))) ?_)))
  . exact EvW.toT (aKG (EvT.eq (aOG (yA t 2 rfl) yC) rfl))
  . refine EvW.toT (aEA (EvT.eq (aOG (yA t 2 rfl) yC) (decide_eq_true (by omega))) (aEB (vA (yU (EvE.ql (yA t 0 rfl)) (qE (yA t 2 rfl) yC) ?_) (yA t 1 rfl))))
    exact aEG (by omega) (by omega) hm
  . refine EvSs.eq (yG (aWK t 2 rfl yC)) ?_
    have e : ((m + 1 : Nat) : Int) - 1 = (m : Int) := by omega
    show Out.nx [_, _, .val (.int (((m + 1 : Nat) : Int) - 1))] = _
    rw [e]
  . rw [List.take_length, vL]
    have e : cutI xs none (some ((trimI xs).length : Int)) = trimI xs := by
      have l := qY xs
      unfold cutI
      have e1 : HT.sIx xs.length 0 none = 0 := by simp [HT.sIx]
      have e2 : HT.sIx xs.length xs.length (some ((trimI xs).length : Int)) = (trimI xs).length := by
        simp only [HT.sIx]
        split <;> omega
      rw [e1, e2, List.drop_zero, Nat.sub_zero]
      exact aWB xs
    rw [e]
theorem aXK (h : DefX P w K mg base k N_row_of (defScope aAN) X) (c1 : Callee X "without_end" vT) :
    ∀ ds d, aAY ds d -> EvSs X (ds.map Sl.val ++ List.replicate (N_row_of.length - ds.length) Sl.un) (defBody aAN) (.rt d) := by
  rintro ds d ⟨xs, rfl, hl, rfl⟩
  have t := h.at'
  show EvSs X [.val (intsD xs)] _ _
  exact yG (zI (yF t c1 (yB (yA t 0 rfl) (yB yC yE)) ⟨xs, rfl, hl, rfl⟩))
theorem eAT (h : DefX P w K mg base k N_slope (defScope aAD) X) (m_tuple : mg "tuple" = none) (m_range : mg "range" = none) (m_len : mg "len" = none) :
    ∀ ds d, aKR ds d -> EvSs X (ds.map Sl.val ++ List.replicate (N_slope.length - ds.length) Sl.un) (defBody aAD) (.rt d) := by
  rintro ds d ⟨f, rfl, hf, rfl⟩
  have t := h.at'
  have b1 : Blt X (defScope aAD) "tuple" (.type "tuple") := yN (by rw [h.mg']; exact m_tuple)
  have b2 : Blt X (defScope aAD) "range" (.type "range") := yN (by rw [h.mg']; exact m_range)
  have b3 : Blt X (defScope aAD) "len" (.builtin "len") := yN (by rw [h.mg']; exact m_len)
  show EvSs X [.val (rowD f)] _ _
  refine yG (zI (EvE.eq (vS t b1 (EvN.toQ (vC (rs := (List.range (f.length - 1)).map fun (i : Nat) => D.int ((1 + (i : Int)) * f.getD (1 + i) 0)) t ["f", "power"] (csc (by decide +kernel)) (EvI.eq (aMR t b2 yC (yT t b3 (EvE.qt (yA t 0 rfl))) (by rw [List.length_map]; omega)) (show _ = rangeD 1 (f.length - 1) by rw [List.length_map]; congr 1; omega)) (by simp [rangeD]; exact small (by omega)) fun X' cx => ?_))) (by show D.tup _ = D.tup _; unfold slopeL; rw [List.map_map]; rfl)))
  exact CRun.gen (fun (i : Nat) => D.int (1 + (i : Int))) _ (fun (i : Nat) => [.val (rowD f), .val (.int (1 + (i : Int)))]) _ _ (fun x hx => yK cx.at' 1) (fun x hx y hy => yK cx.at' 1) fun x hx => by
    have hx' := List.mem_range.mp hx
    exact yY (yA cx.at' 1 rfl) (yU (EvE.qt (yA cx.at' 0 rfl)) (yA cx.at' 1 rfl) (by rw [show (1 + (x : Int)) = ((1 + x : Nat) : Int) by omega]; exact zN (by omega))) (qO (by omega) (by omega))
end
end My
namespace My
open PySem L2 L2.EV
def outq (f g : List Int) : Nat -> List Int
  | 0 => List.replicate (f.length + g.length - 1) 0
  | i + 1 => inn f g i (outq f g i) g.length
theorem aJN (f g : List Int) : ∀ i, (outq f g i).length = f.length + g.length - 1
  | 0 => by rw [outq, List.length_replicate]
  | i + 1 => by rw [outq, aDZ, aJN]
theorem aPZ (f g : List Int) (i : Nat) (acc : List Int) (z : Int) : ∀ j, i + j <= acc.length -> inn f g i (acc ++ [z]) j = inn f g i acc j ++ [z]
  | 0, _ => rfl
  | j + 1, h => by
    have ih := aPZ f g i acc z j (by omega)
    have hl : i + j < (inn f g i acc j).length := by rw [aDZ]; omega
    rw [inn, inn, ih, List.set_append_left _ _ hl]
    have e : (inn f g i acc j ++ [z]).getD (i + j) 0 = (inn f g i acc j).getD (i + j) 0 := by
      rw [List.getD_eq_getElem?_getD, List.getD_eq_getElem?_getD, List.getElem?_append_left hl]
    rw [e]
theorem aLZ (f g : List Int) (hf : f ≠ []) (hg : g ≠ []) : ∀ i, i <= f.length -> outp f g i = outq f g i ++ [0]
  | 0, _ => by
    have h1 := List.length_pos_iff.mpr hf
    rw [outp, outq, show f.length + g.length = (f.length + g.length - 1) + 1 by omega, List.replicate_succ']
    rfl
  | i + 1, h => by
    have h1 := List.length_pos_iff.mpr hf
    rw [outp, outq, aLZ f g hf hg i (by omega), aPZ]
    rw [aJN]; omega
theorem aQR {f g : List Int} (hf : f ≠ []) (hg : g ≠ []) : trimI (outq f g f.length) = timesL f g := by
  unfold timesL; rw [aLZ f g hf hg _ (Nat.le_refl _), aAG]
theorem aFB : ∀ n, trimI (List.replicate n (0 : Int)) = []
  | 0 => rfl
  | n + 1 => by rw [List.replicate_succ', aAG, aFB]
theorem aCM (g : List Int) : timesL [] g = [] := by
  unfold timesL; rw [List.length_nil, outp]; exact aFB _
theorem aPV (f : List Int) : ∀ i, outp f [] i = List.replicate f.length 0
  | 0 => rfl
  | i + 1 => by rw [outp, List.length_nil, inn, aPV]
theorem aBN (f : List Int) : timesL f [] = [] := by unfold timesL; rw [aPV]; exact aFB _
section
variable {P : Program} {w : World} {K : PySem.W.Frag} {mg : Str -> Option Value} {base : Heap} {k : Nat} {X : Cx}
end
end My
namespace My
open PySem L2 L2.EV
def BD (M : Nat) (f : List Int) : Prop := ∀ x ∈ f, x.natAbs <= M
theorem BD.mono {M M' : Nat} {f : List Int} (h : BD M f) (q : M <= M') : BD M' f := fun x hx => Nat.le_trans (h x hx) q
theorem BD.trim {M : Nat} {f : List Int} (h : BD M f) : BD M (trimI f) := fun x hx => h x (aBR hx)
theorem BD.get {M : Nat} {f : List Int} (h : BD M f) (i : Nat) : (f.getD i 0).natAbs <= M := by
  rw [List.getD_eq_getElem?_getD]
  cases e : f[i]? with
  | none => exact Nat.zero_le _
  | some x => exact h x (List.mem_of_getElem? e)
theorem aYG {A B M : Nat} {f g : List Int} (hf : BD A f) (hg : BD B g) (i : Nat) (acc : List Int) (ha : BD M acc) : ∀ (j : Nat) (p : Nat), ((inn f g i acc j).getD p 0).natAbs <= (if i <= p /\ p < i + j then M + A * B else M)
  | 0, p => by rw [inn, if_neg (by omega)]; exact ha.get p
  | j + 1, p => by
    have ih := aYG hf hg i acc ha j
    rw [inn]
    by_cases hp : p = i + j
    . subst hp
      rw [if_pos (by omega), List.getD_eq_getElem?_getD, List.getElem?_set_self']
      have h1 := ih (i + j)
      rw [if_neg (by omega)] at h1
      have h2 := Int.natAbs_mul (f.getD i 0) (g.getD j 0)
      have h3 := Nat.mul_le_mul (hf.get i) (hg.get j)
      have h4 := Int.natAbs_add_le ((inn f g i acc j).getD (i + j) 0) (f.getD i 0 * g.getD j 0)
      cases (inn f g i acc j)[i + j]? with
      | none => exact Nat.zero_le _
      | some z =>
        show ((inn f g i acc j).getD (i + j) 0 + f.getD i 0 * g.getD j 0).natAbs <= _
        rw [h2] at h4
        omega
    . rw [List.getD_eq_getElem?_getD, List.getElem?_set_ne (Ne.symm hp), <- List.getD_eq_getElem?_getD]
      have h1 := ih p
      by_cases hq : i <= p /\ p < i + j
      . rw [if_pos hq] at h1; rw [if_pos (by omega)]; exact h1
      . rw [if_neg hq] at h1; rw [if_neg (by omega)]; exact h1
theorem BD.of_get {M : Nat} {f : List Int} (h : ∀ p, (f.getD p 0).natAbs <= M) : BD M f := fun x hx => by
  obtain ⟨i, hi, e⟩ := List.getElem_of_mem hx
  have := h i
  rw [wL hi, e] at this
  exact this
theorem aTN {A B : Nat} {f g : List Int} (hf : BD A f) (hg : BD B g) : ∀ i, BD (i * (A * B)) (outp f g i)
  | 0 => fun x hx => by
    rw [outp] at hx
    rw [(List.mem_replicate.mp hx).2]; exact Nat.zero_le _
  | i + 1 => by
    refine BD.of_get fun p => ?_
    rw [outp]
    have := aYG hf hg i (outp f g i) (aTN hf hg i) g.length p
    rw [Nat.succ_mul]
    split at this <;> omega
theorem aET {A B : Nat} {f g : List Int} (hf : BD A f) (hg : BD B g) : BD (f.length * (A * B)) (timesL f g) := (aTN hf hg f.length).trim
theorem eDH (xs : List Int) (k : Nat) : BD 4 (facF xs k) := fun y hy => by
  unfold facF at hy
  rcases List.mem_cons.mp hy with rfl | hy
  . omega
  . rcases List.mem_cons.mp hy with rfl | hy
    . omega
    . cases hy
theorem aTD {A : Nat} {f : List Int} (xs : List Int) (k : Nat) (hf : BD A f) (hl : f.length <= 9) : ∀ n, n <= 2 -> BD (A * 52 ^ n) (powT (facF xs k) f n)
  | 0, _ => by simpa [powT] using hf
  | n + 1, hn => by
    have h1 := aTD xs k hf hl n (by omega)
    have h2 := aEX (facF xs k) f n
    have h3 : (facF xs k).length = 2 := rfl
    rw [h3] at h2
    rw [powT]
    refine (aET h1 (eDH xs k)).mono ?_
    have h4 : (powT (facF xs k) f n).length <= 13 := by omega
    have h5 := Nat.mul_le_mul h4 (Nat.le_refl (A * 52 ^ n * 4))
    rw [Nat.pow_succ]
    have h6 : 13 * (A * 52 ^ n * 4) = A * (52 ^ n * 52) := by
      rw [<- Nat.mul_assoc A]
      omega
    omega
theorem aHY (xs : List Int) : ∀ k, k <= 3 -> BD (3 * 2704 ^ k) (plantGo xs k)
  | 0, _ => fun y hy => by
    rw [plantGo] at hy
    rw [List.mem_singleton.mp hy]
    unfold leadF; split <;> omega
  | k + 1, hk => by
    have h1 := aHY xs k (by omega)
    have h2 := aAQ xs k
    have h3 := aBE xs k
    rw [plantGo]
    refine (aTD xs k h1 (by omega) (timesN xs k) h3).mono ?_
    rw [Nat.pow_succ, <- Nat.mul_assoc]
    refine Nat.mul_le_mul (Nat.le_refl _) ?_
    have h4 : timesN xs k = 0 \/ timesN xs k = 1 \/ timesN xs k = 2 := by omega
    rcases h4 with e | e | e <;> rw [e] <;> decide
theorem aHW (xs : List Int) : BD 60000000000 (plantedF xs) := by
  unfold plantedF
  have h : (xs.getD 1 0 % 4).toNat <= 3 := by omega
  refine (aHY xs _ h).mono ?_
  generalize (xs.getD 1 0 % 4).toNat = n at h
  have : n = 0 \/ n = 1 \/ n = 2 \/ n = 3 := by omega
  rcases this with rfl | rfl | rfl | rfl <;> decide
theorem aBP (xs : List Int) (most : Int) : BD 1000 (someRow xs most) := fun y hy => by
  obtain ⟨x, _, rfl⟩ := List.mem_map.mp (aBR hy)
  obtain ⟨h1, h2⟩ := aFH xs
  have h3 := Int.emod_nonneg x (show (2 * sizeF xs + 1 : Int) ≠ 0 by omega)
  have h4 := Int.emod_lt_of_pos x (show (0 : Int) < 2 * sizeF xs + 1 by omega)
  omega
theorem aZC (c most : Int) : BD 1000000000000000 (rowF c most) := by
  unfold rowF
  split
  . exact (aHW _).mono (by decide)
  . split
    . refine (aET (aHW _) (aBP _ _)).mono ?_
      have := aFV (cutI (numsF c 22) (some 1) (some 5) ++ List.replicate 6 0)
      omega
    . split
      . refine (aET (aBP _ _) (aBP _ _)).mono ?_
        have h2 := aAM (cutI (numsF c 22) (some 1) none) 2
        rw [aQK (aBI c 22)] at h2
        omega
      . exact (aBP _ _).mono (by decide)
section
variable {P : Program} {w : World} {K : PySem.W.Frag} {mg : Str -> Option Value} {base : Heap} {k : Nat} {X : Cx}
end
end My
namespace My
open PySem L2 L2.EV
theorem aAJ {S : List Int} (h : RowOk S) (hne : S ≠ []) : gl S ≠ 0 := by
  rcases h with e | ⟨ys, a, e, ha⟩
  . exact absurd e hne
  . subst e
    rw [aKE]
    intro z
    have := (Nat.gcd_eq_zero_iff.mp z).2
    omega
theorem eDM {S : List Int} (h : RowOk S) : (S.map fun x => x.fdiv (max 1 (gl S : Int))) = lowB S := by
  unfold lowB
  by_cases hne : S = []
  . subst hne; rfl
  . have := aAJ h hne
    have e : max 1 (gl S : Int) = (gl S : Int) := by omega
    rw [e]
theorem aBM {xs : List Int} (h : xs ≠ []) : atI (xs.map D.int) (((xs.map D.int).length : Int) - 1) = some (.int (lastI xs)) := by
  rcases List.eq_nil_or_concat xs with e | ⟨ys, y, e⟩
  . exact absurd e h
  . rw [List.concat_eq_append] at e
    subst e
    rw [List.length_map, aEG (n := ys.length) (by simp) (by simp) (by simp)]
    simp [lastI]
section
variable {P : Program} {w : World} {K : PySem.W.Frag} {mg : Str -> Option Value} {base : Heap} {k : Nat} {X : Cx}
end
end My
namespace My
open PySem L2 L2.EV PyProof.Rows
theorem aVT {x : Int} {k : Nat} (h : x.natAbs < 2 ^ k) : Builtin.Int.intBits x <= k := by
  unfold Builtin.Int.intBits
  split
  . exact Nat.zero_le _
  . rename_i h0
    have : x.natAbs ≠ 0 := by
      intro z
      apply h0
      simp at z ⊢
      omega
    exact (Nat.log2_lt this).mpr h
theorem aMA {x y : Int} {k : Nat} (hk : k <= 1000000) (hx : x.natAbs < 2 ^ k) (hy : y.natAbs < 2 ^ k) : IntMulOk x y :=
  .of_bits (Nat.le_trans (aVT hx) (Nat.le_trans hk (by decide))) (Nat.le_trans (aVT hy) (Nat.le_trans hk (by decide)))
def fb (k : Nat) (q : Rat) : Prop := q.num.natAbs < 2 ^ k /\ q.den < 2 ^ k
theorem at0 (p : Rat) : atI ([p.num, (p.den : Int)].map D.int) 0 = some (.int p.num) := rfl
theorem aWS (k : Nat) : 0 < 2 ^ k := Nat.pow_pos (by decide)
theorem aRD {x y a b : Nat} (hx : x < 2 ^ a) (hy : y < 2 ^ b) : x * y < 2 ^ (a + b) := by
  rw [Nat.pow_add]
  exact Nat.lt_of_le_of_lt (Nat.mul_le_mul_left x (Nat.le_of_lt hy)) (Nat.mul_lt_mul_of_pos_right hx (aWS b))
section
variable {X : Cx} {ρ : Rho} {a b : Expr} {pos : Pos} {N : List Str} {sc : Scope}
end
section
variable {P : Program} {w : World} {K : PySem.W.Frag} {mg : Str -> Option Value} {base : Heap} {k : Nat} {X : Cx}
end
end My
namespace My
open PySem L2 L2.EV PyProof.Rows
def stepF (g : List Int) (n : Nat) (S : Nat -> Int) : Nat -> Int := fun i => S i * lastI g * lastI g - (if n + 1 - g.length <= i then S n * lastI g * g.getD (i - (n + 1 - g.length)) 0 else 0)
def leftF (g : List Int) : Nat -> (Nat -> Int) -> Nat -> Int
  | 0, S => S
  | n + 1, S => if n + 1 < g.length then S else leftF g n (stepF g n S)
def upF (g : List Int) (a : Int) : Int := ((lastI g).natAbs : Int).fdiv ((Nat.gcd a.natAbs (lastI g).natAbs : Nat) : Int)
def dnF (g : List Int) (a : Int) : Int := ((lastI g).sign * a).fdiv ((Nat.gcd a.natAbs (lastI g).natAbs : Nat) : Int)
def stepP (g : List Int) (n : Nat) (S : Nat -> Int) : Nat -> Int := fun i => upF g (S n) * S i - (if n + 1 - g.length <= i then dnF g (S n) * g.getD (i - (n + 1 - g.length)) 0 else 0)
def divF (g : List Int) : Nat -> (Nat -> Int) -> Nat -> Int
  | 0, S => S
  | n + 1, S => if n + 1 < g.length then S else divF g n (stepP g n S)
theorem aXR {g : List Int} (hl : lastI g ≠ 0) (a : Int) : ∃ c : Int, 0 < c /\ lastI g * lastI g = c * upF g a /\ a * lastI g = c * dnF g a := by
  have hh : 0 < Nat.gcd a.natAbs (lastI g).natAbs := Nat.gcd_pos_of_pos_right _ (by omega)
  obtain ⟨u, hu⟩ := Nat.gcd_dvd_right a.natAbs (lastI g).natAbs
  obtain ⟨v, hv⟩ := Nat.gcd_dvd_left a.natAbs (lastI g).natAbs
  unfold upF dnF
  generalize Nat.gcd a.natAbs (lastI g).natAbs = h at hh hu hv
  generalize lastI g = l at hl hu
  have e1 : ((l.natAbs : Nat) : Int).fdiv (h : Int) = (u : Int) := by
    rw [hu, Int.natCast_mul, Int.mul_fdiv_cancel_left _ (by omega)]
  have e2 : (l.sign * a).fdiv (h : Int) = l.sign * (a.sign * (v : Int)) := by
    have e : a = a.sign * ((h : Int) * (v : Int)) := by
      rw [<- Int.natCast_mul, <- hv]; exact (Int.sign_mul_natAbs a).symm
    have : l.sign * a = (h : Int) * (l.sign * (a.sign * (v : Int))) := by
      conv => lhs; rw [e]
      grind
    rw [this, Int.mul_fdiv_cancel_left _ (by omega)]
  rw [e1, e2]
  have el : l = l.sign * ((h : Int) * (u : Int)) := by
    rw [<- Int.natCast_mul, <- hu]; exact (Int.sign_mul_natAbs l).symm
  have ea : a = a.sign * ((h : Int) * (v : Int)) := by
    rw [<- Int.natCast_mul, <- hv]; exact (Int.sign_mul_natAbs a).symm
  have es : l.sign * l.sign = 1 := by
    rcases Int.lt_or_lt_of_ne hl with z | z
    . rw [Int.sign_eq_neg_one_of_neg z]; rfl
    . rw [Int.sign_eq_one_of_pos z]; rfl
  have hu0 : 0 < u := by
    rcases Nat.eq_zero_or_pos u with z | z
    . subst z; omega
    . exact z
  refine ⟨(h : Int) * ((h : Int) * (u : Int)), Int.mul_pos (by omega) (Int.mul_pos (by omega) (by omega)), ?_, ?_⟩
  . generalize hs : l.sign = s at el es
    rw [el]
    calc s * ((h : Int) * u) * (s * ((h : Int) * u)) = (s * s) * (((h : Int) * u) * ((h : Int) * u)) := by grind
      _ = _ := by rw [es]; grind
  . generalize hs : l.sign = s at el es
    generalize ht : a.sign = r at ea
    rw [el, ea]; grind
theorem aWD {g : List Int} (hl : lastI g ≠ 0) (n : Nat) (S : Nat -> Int) : ∃ c : Int, 0 < c /\ ∀ i, stepF g n S i = c * stepP g n S i := by
  obtain ⟨c, hc, e1, e2⟩ := aXR hl (S n)
  refine ⟨c, hc, fun i => ?_⟩
  unfold stepF stepP
  rw [Int.mul_assoc, e1]
  split
  . rw [e2]; grind
  . grind
theorem eBG {g : List Int} (hl : lastI g ≠ 0) (a : Int) : upF g a * a - dnF g a * lastI g = 0 := by
  obtain ⟨c, hc, e1, e2⟩ := aXR hl a
  have : c * (upF g a * a - dnF g a * lastI g) = 0 := by
    have h1 : c * (upF g a * a) = a * lastI g * lastI g := by rw [<- Int.mul_assoc, <- e1]; grind
    have h2 : c * (dnF g a * lastI g) = a * lastI g * lastI g := by rw [<- Int.mul_assoc, <- e2]
    rw [Int.mul_sub, h1, h2]; omega
  rcases Int.mul_eq_zero.mp this with z | z
  . omega
  . exact z
theorem wJ (g : List Int) (c : Int) : ∀ (n : Nat) (S : Nat -> Int), leftF g n (fun i => c * S i) = fun i => c * leftF g n S i
  | 0, S => rfl
  | n + 1, S => by
    show (if n + 1 < g.length then _ else leftF g n (stepF g n fun i => c * S i)) = fun i => c * (if n + 1 < g.length then S else leftF g n (stepF g n S)) i
    split
    . rfl
    . rw [<- wJ g c n]
      congr 1; funext i
      unfold stepF
      split <;> grind
theorem aKB {g : List Int} (hl : lastI g ≠ 0) : ∀ (n : Nat) (S : Nat -> Int), ∃ c : Int, 0 < c /\ ∀ i, leftF g n S i = c * divF g n S i
  | 0, S => ⟨1, by decide, fun i => (Int.one_mul _).symm⟩
  | n + 1, S => by
    by_cases h : n + 1 < g.length
    . refine ⟨1, by decide, fun i => ?_⟩
      unfold leftF divF
      rw [if_pos h, if_pos h]; exact (Int.one_mul _).symm
    . obtain ⟨c, hc, e⟩ := aWD hl n S
      obtain ⟨c', hc', e'⟩ := aKB hl n (stepP g n S)
      refine ⟨c * c', Int.mul_pos hc hc', fun i => ?_⟩
      unfold leftF divF
      rw [if_neg h, if_neg h, show stepF g n S = fun i => c * stepP g n S i from funext e, wJ]
      show c * leftF g n (stepP g n S) i = _
      rw [e' i, Int.mul_assoc]
theorem aMH {g : List Int} (hl : lastI g ≠ 0) {F : Nat -> Int} {n : Nat} (hF : ∀ i, n <= i -> F i = 0) : ∀ k, ∃ c : Int, 0 < c /\ ∀ i, leftF g (n + k) F i = c * leftF g n F i
  | 0 => ⟨1, by decide, fun i => (Int.one_mul _).symm⟩
  | k + 1 => by
    obtain ⟨c, hc, e⟩ := aMH hl hF k
    by_cases h : n + k + 1 < g.length
    . refine ⟨1, by decide, fun i => ?_⟩
      have e1 : leftF g (n + (k + 1)) F = F := by show (if n + k + 1 < g.length then F else _) = F; rw [if_pos h]
      have e2 : leftF g n F = F := by
        cases n with
        | zero => rfl
        | succ n => show (if n + 1 < g.length then F else _) = F; rw [if_pos (by omega)]
      rw [e1, e2, Int.one_mul]
    . refine ⟨lastI g * lastI g * c, Int.mul_pos (by
        rcases Int.lt_or_lt_of_ne hl with z | z
        . exact Int.mul_pos_of_neg_of_neg z z
        . exact Int.mul_pos z z) hc, fun i => ?_⟩
      have e1 : leftF g (n + (k + 1)) F = leftF g (n + k) (stepF g (n + k) F) := by show (if n + k + 1 < g.length then F else leftF g (n + k) (stepF g (n + k) F)) = _; rw [if_neg h]
      have e2 : stepF g (n + k) F = fun i => lastI g * lastI g * F i := by
        funext i
        unfold stepF
        rw [hF (n + k) (by omega)]
        split <;> grind
      rw [e1, e2, wJ]
      show lastI g * lastI g * leftF g (n + k) F i = _
      rw [e i]; grind
theorem yH {g : List Int} {i : Nat} (h : g.length <= i) : g.getD i 0 = 0 := by rw [List.getD_eq_getElem?_getD, List.getElem?_eq_none h]; rfl
theorem yR {g : List Int} (h : g ≠ []) : g.getD (g.length - 1) 0 = lastI g := by
  rcases List.eq_nil_or_concat g with e | ⟨ys, y, e⟩
  . exact absurd e h
  . subst e; simp [lastI, List.getD_eq_getElem?_getD]
def psG (g : List Int) (φ : Nat -> Int) (p : Nat) : Nat -> Int
  | 0 => 0
  | i + 1 => psG g φ p i + g.getD i 0 * (if i <= p then φ (p - i) else 0)
theorem aJI (g : List Int) (φ ψ : Nat -> Int) (p : Nat) : ∀ i, psG g (fun k => φ k + ψ k) p i = psG g φ p i + psG g ψ p i
  | 0 => rfl
  | i + 1 => by
    show psG g _ p i + _ = (psG g φ p i + _) + (psG g ψ p i + _)
    rw [aJI g φ ψ p i]
    split <;> grind
theorem wQ (g : List Int) (c : Int) (φ : Nat -> Int) (p : Nat) : ∀ i, psG g (fun k => c * φ k) p i = c * psG g φ p i
  | 0 => (Int.mul_zero c).symm
  | i + 1 => by
    show psG g _ p i + _ = c * (psG g φ p i + _)
    rw [wQ g c φ p i]
    split <;> grind
theorem aCU (g : List Int) (j p : Nat) : ∀ i, psG g (fun k => if k = j then 1 else 0) p i = if j <= p /\ p - j < i then g.getD (p - j) 0 else 0
  | 0 => by rw [if_neg (by omega)]; rfl
  | i + 1 => by
    show psG g _ p i + g.getD i 0 * (if i <= p then (if p - i = j then (1 : Int) else 0) else 0) = _
    rw [aCU g j p i]
    by_cases h : i <= p /\ p - i = j
    . rw [if_neg (by omega), if_pos (show i <= p by omega), if_pos (show p - i = j by omega), if_pos (by omega), show p - j = i by omega]
      grind
    . have e : (if i <= p then (if p - i = j then (1 : Int) else 0) else 0) = 0 := by
        split
        . rw [if_neg (by omega)]
        . rfl
      rw [e]
      by_cases h2 : j <= p /\ p - j < i
      . rw [if_pos h2, if_pos (by omega)]; grind
      . rw [if_neg h2, if_neg (by omega)]; grind
theorem aPJ (xs : List Int) (j : Nat) (v : Int) (p : Nat) : (xs.set j v).getD p 0 = if p = j /\ j < xs.length then v else xs.getD p 0 := by
  rw [List.getD_eq_getElem?_getD, List.getElem?_set, List.getD_eq_getElem?_getD]
  by_cases h : j = p
  . subst h
    by_cases h2 : j < xs.length
    . rw [if_pos rfl, if_pos h2, if_pos ⟨rfl, h2⟩]; rfl
    . rw [if_pos rfl, if_neg h2, if_neg (by omega), List.getElem?_eq_none (by omega)]
  . rw [if_neg h, if_neg (by omega)]
theorem aOD (f h : List Int) (i : Nat) (acc : List Int) : ∀ (p j : Nat), i + j <= acc.length -> (inn f h i acc j).getD p 0 = acc.getD p 0 + (if i <= p /\ p - i < j then f.getD i 0 * h.getD (p - i) 0 else 0)
  | p, 0, _ => by rw [if_neg (by omega), Int.add_zero]; rfl
  | p, j + 1, hj => by
    show ((inn f h i acc j).set (i + j) _).getD p 0 = _
    rw [aPJ, aDZ]
    by_cases e : p = i + j
    . subst e
      rw [if_pos ⟨rfl, by omega⟩, aOD f h i acc (i + j) j (by omega), if_neg (by omega), if_pos (by omega), show i + j - i = j by omega]
      grind
    . rw [if_neg (by omega), aOD f h i acc p j (by omega)]
      by_cases z : i <= p /\ p - i < j
      . rw [if_pos z, if_pos (by omega)]
      . rw [if_neg z, if_neg (by omega)]
theorem aPW (f h : List Int) (p : Nat) : ∀ i, i <= f.length -> (outp f h i).getD p 0 = psG f (fun k => h.getD k 0) p i
  | 0, _ => by
    show (List.replicate _ (0 : Int)).getD p 0 = 0
    rw [List.getD_eq_getElem?_getD, List.getElem?_replicate]
    split <;> rfl
  | i + 1, hi => by
    show (inn f h i (outp f h i) h.length).getD p 0 = psG f _ p i + f.getD i 0 * (if i <= p then h.getD (p - i) 0 else 0)
    rw [aOD f h i _ p h.length (by rw [aCW]; omega), aPW f h p i (by omega)]
    by_cases z : i <= p
    . rw [if_pos z]
      by_cases z2 : p - i < h.length
      . rw [if_pos ⟨z, z2⟩]
      . rw [if_neg (by omega), yH (g := h) (i := p - i) (by omega)]; grind
    . rw [if_neg z, if_neg (by omega)]; grind
theorem vO (xs : List Int) (i : Nat) : (trimI xs).getD i 0 = xs.getD i 0 := by
  have key : ∀ ys : List Int, ∀ i, (ys.dropWhile (· == 0)).reverse.getD i 0 = ys.reverse.getD i 0 := by
    intro ys
    induction ys with
    | nil => intro i; rfl
    | cons y ys ih =>
      intro i
      by_cases hy : y = 0
      . subst hy
        have : ((0 : Int) :: ys).dropWhile (· == 0) = ys.dropWhile (· == 0) := by simp [List.dropWhile]
        rw [this, ih i, List.reverse_cons]
        rw [List.getD_eq_getElem?_getD, List.getD_eq_getElem?_getD]
        by_cases hi : i < ys.reverse.length
        . rw [List.getElem?_append_left hi]
        . rw [List.getElem?_append_right (by omega), List.getElem?_eq_none (by omega)]
          cases z : i - ys.reverse.length with
          | zero => rfl
          | succ n => rfl
      . have : (y :: ys).dropWhile (· == 0) = y :: ys := by rw [List.dropWhile_cons_of_neg (by simpa using hy)]
        rw [this]
  have := key xs.reverse i
  rw [List.reverse_reverse] at this
  exact this
theorem aFD (f h : List Int) (p : Nat) : (timesL f h).getD p 0 = psG f (fun k => h.getD k 0) p f.length := by
  unfold timesL
  rw [vO, aPW f h p f.length (Nat.le_refl _)]
theorem aXT {f g : List Int} (hf : RowOk f) (h : ∀ i, f.getD i 0 = g.getD i 0) : f.length <= g.length := by
  rcases hf with e | ⟨ys, a, e, ha⟩
  . subst e; exact Nat.zero_le _
  . rcases Nat.lt_or_ge g.length f.length with z | z
    . have h1 := h ys.length
      subst e
      rw [yH (g := g) (i := ys.length) (by simp at z; omega)] at h1
      rw [List.getD_eq_getElem?_getD, List.getElem?_append_right (Nat.le_refl _), Nat.sub_self] at h1
      exact absurd h1 ha
    . exact z
theorem aCD {f g : List Int} (hf : RowOk f) (hg : RowOk g) (h : ∀ i, f.getD i 0 = g.getD i 0) : f = g := by
  have h1 := aXT hf h
  have h2 := aXT hg fun i => (h i).symm
  refine List.ext_getElem (by omega) fun i h3 h4 => ?_
  have := h i
  rw [wL h3, wL h4] at this
  exact this
theorem trimOk (xs : List Int) : RowOk (trimI xs) := aFC xs
theorem zP {φ : Int -> Int} (h0 : φ 0 = 0) (f : List Int) (i : Nat) : (f.map φ).getD i 0 = φ (f.getD i 0) := by
  rw [List.getD_eq_getElem?_getD, List.getElem?_map, List.getD_eq_getElem?_getD]
  cases f[i]? with
  | none => exact h0.symm
  | some x => rfl
theorem scaleOk {f : List Int} {c : Int} (h : RowOk f) (hc : c ≠ 0) : RowOk (f.map fun x => c * x) := by
  rcases h with e | ⟨ys, a, e, ha⟩
  . left; subst e; rfl
  . right; subst e
    exact ⟨ys.map fun x => c * x, c * a, by rw [List.map_append]; rfl, Int.mul_ne_zero hc ha⟩
theorem aXD {c : Int} (hc : 0 < c) (f : List Int) : (gl (f.map fun x => c * x) : Int) = c * (gl f : Int) := by
  have key : ∀ (f : List Int) (a : Nat), ((f.map fun x => c * x).foldl (fun g x => Nat.gcd g x.natAbs) (c.natAbs * a)) = c.natAbs * f.foldl (fun g x => Nat.gcd g x.natAbs) a := by
    intro f
    induction f with
    | nil => intro a; rfl
    | cons x f ih =>
      intro a
      simp only [List.map_cons, List.foldl_cons]
      rw [Int.natAbs_mul, Nat.gcd_mul_left, ih]
  have := key f 0
  rw [Nat.mul_zero] at this
  unfold gl
  rw [this, Int.natCast_mul]
  have : (c.natAbs : Int) = c := by omega
  rw [this]
theorem aCY {c : Int} (hc : 0 < c) (f : List Int) : lowB (f.map fun x => c * x) = lowB f := by
  unfold lowB
  rw [List.map_map, aXD hc]
  refine List.map_congr_left fun x _ => ?_
  show (c * x).fdiv (c * (gl f : Int)) = x.fdiv (gl f : Int)
  exact Int.mul_fdiv_mul_of_pos x (gl f : Int) hc
theorem aWX {a b : Int} (ha : 0 < a) (hb : 0 < b) {xs ys : List Int} (h : ∀ i, a * xs.getD i 0 = b * ys.getD i 0) : lowB (trimI xs) = lowB (trimI ys) := by
  rw [<- aCY ha (trimI xs), <- aCY hb (trimI ys)]
  congr 1
  refine aCD (scaleOk (trimOk xs) (by omega)) (scaleOk (trimOk ys) (by omega)) fun i => ?_
  rw [zP (Int.mul_zero a), zP (Int.mul_zero b), vO, vO, h i]
end My
namespace My
open PySem L2 L2.EV PyProof.Rows
def subGo (g : List Int) (s : Nat) (dn : Int) (r : List Int) : Nat -> List Int
  | 0 => r
  | i + 1 => (subGo g s dn r i).set (s + i) ((subGo g s dn r i).getD (s + i) 0 - dn * g.getD i 0)
theorem qT (g : List Int) (s : Nat) (dn : Int) (r : List Int) : ∀ i, (subGo g s dn r i).length = r.length
  | 0 => rfl
  | i + 1 => by rw [subGo, List.length_set, qT]
theorem aCP (g : List Int) (s : Nat) (dn : Int) (r : List Int) : ∀ (p i : Nat), s + i <= r.length -> (subGo g s dn r i).getD p 0 = r.getD p 0 - (if s <= p /\ p - s < i then dn * g.getD (p - s) 0 else 0)
  | p, 0, _ => by rw [if_neg (by omega), Int.sub_zero]; rfl
  | p, i + 1, h => by
    show ((subGo g s dn r i).set (s + i) _).getD p 0 = _
    rw [aPJ, qT]
    by_cases e : p = s + i
    . subst e
      rw [if_pos ⟨rfl, by omega⟩, aCP g s dn r (s + i) i (by omega), if_neg (by omega), if_pos (by omega), show s + i - s = i by omega]
      omega
    . rw [if_neg (by omega), aCP g s dn r p i (by omega)]
      by_cases z : s <= p /\ p - s < i
      . rw [if_pos z, if_pos (by omega)]
      . rw [if_neg z, if_neg (by omega)]
def stepPL (g r : List Int) : List Int := (subGo g (r.length - g.length) (dnF g (lastI r)) (r.map fun x => upF g (lastI r) * x) g.length).dropLast
def divL (g : List Int) : Nat -> List Int -> List Int
  | 0, r => r
  | n + 1, r => if n + 1 < g.length then r else divL g n (stepPL g r)
def quoL (g : List Int) : Nat -> List Int -> List Int -> List Int
  | 0, q, _ => q
  | n + 1, q, r => if n + 1 < g.length then q else quoL g n (dnF g (lastI r) :: q.map fun x => upF g (lastI r) * x) (stepPL g r)
def stepLL (g S : List Int) : List Int := subGo g (S.length - g.length) (lastI S * lastI g) (S.dropLast.map fun x => x * lastI g * lastI g) (g.length - 1)
def leftL (g : List Int) : Nat -> List Int -> List Int
  | 0, r => r
  | n + 1, r => if n + 1 < g.length then r else leftL g n (stepLL g r)
theorem vX (g r : List Int) : (stepPL g r).length = r.length - 1 := by unfold stepPL; rw [List.length_dropLast, qT, List.length_map]
theorem vI (g r : List Int) : (stepLL g r).length = r.length - 1 := by unfold stepLL; rw [qT, List.length_map, List.length_dropLast]
theorem aDI (xs : List Int) (p : Nat) : xs.dropLast.getD p 0 = if p < xs.length - 1 then xs.getD p 0 else 0 := by
  rw [List.getD_eq_getElem?_getD, List.getElem?_dropLast, List.getD_eq_getElem?_getD]
  split <;> rfl
theorem qP {g : List Int} (hl : lastI g ≠ 0) : g ≠ [] := fun z => by subst z; exact hl rfl
theorem aHR {g r : List Int} {n : Nat} (hl : lastI g ≠ 0) (hr : r.length = n + 1) (hg : g.length <= n + 1) : (fun p => (stepPL g r).getD p 0) = stepP g n fun p => r.getD p 0 := by
  funext p
  have hp := List.length_pos_iff.mpr (qP hl)
  have hrn : r ≠ [] := fun z => by subst z; simp at hr
  have e1 : r.getD n 0 = lastI r := by have := yR hrn; rwa [hr] at this
  unfold stepPL stepP
  simp only []
  rw [aDI, qT, List.length_map, hr, aCP _ _ _ _ _ _ (by rw [List.length_map]; omega), zP (φ := fun x => upF g (lastI r) * x) (Int.mul_zero _), e1]
  rcases Nat.lt_trichotomy p n with z | z | z
  . rw [if_pos (by omega)]
    by_cases y : n + 1 - g.length <= p
    . rw [if_pos ⟨y, by omega⟩, if_pos y]
    . rw [if_neg (by omega), if_neg y]
  . subst z
    rw [if_neg (by omega), if_pos (by omega), show p - (p + 1 - g.length) = g.length - 1 by omega, yR (qP hl), e1]
    exact (eBG hl _).symm
  . rw [if_neg (by omega), if_pos (by omega), yH (g := r) (i := p) (by omega), yH (g := g) (by omega)]
    grind
theorem aDQ {g r : List Int} {n : Nat} (hl : lastI g ≠ 0) (hr : r.length = n + 1) (hg : g.length <= n + 1) : (fun p => (stepLL g r).getD p 0) = stepF g n fun p => r.getD p 0 := by
  funext p
  have hp := List.length_pos_iff.mpr (qP hl)
  have hrn : r ≠ [] := fun z => by subst z; simp at hr
  have e1 : r.getD n 0 = lastI r := by have := yR hrn; rwa [hr] at this
  unfold stepLL stepF
  simp only []
  rw [aCP _ _ _ _ _ _ (by rw [List.length_map, List.length_dropLast]; omega), zP (φ := fun x => x * lastI g * lastI g) (by grind), aDI, hr, e1]
  rcases Nat.lt_trichotomy p n with z | z | z
  . rw [if_pos (by omega)]
    by_cases y : n + 1 - g.length <= p
    . rw [if_pos ⟨y, by omega⟩, if_pos y]
    . rw [if_neg (by omega), if_neg y]
  . subst z
    rw [if_neg (by omega), if_neg (by omega), if_pos (by omega), show p - (p + 1 - g.length) = g.length - 1 by omega, yR (qP hl), e1]
    grind
  . rw [if_neg (by omega), if_neg (by omega), if_pos (by omega), yH (g := r) (i := p) (by omega), yH (g := g) (by omega)]
    grind
theorem aKJ {g : List Int} (hl : lastI g ≠ 0) : ∀ (n : Nat) (r : List Int), r.length = n -> (fun p => (divL g n r).getD p 0) = divF g n fun p => r.getD p 0
  | 0, r, _ => rfl
  | n + 1, r, hr => by
    unfold divL divF
    by_cases h : n + 1 < g.length
    . rw [if_pos h, if_pos h]
    . rw [if_neg h, if_neg h, aKJ hl n (stepPL g r) (by rw [vX]; omega), aHR hl hr (by omega)]
theorem aMJ {g : List Int} (hl : lastI g ≠ 0) : ∀ (n : Nat) (r : List Int), r.length = n -> (fun p => (leftL g n r).getD p 0) = leftF g n fun p => r.getD p 0
  | 0, r, _ => rfl
  | n + 1, r, hr => by
    unfold leftL leftF
    by_cases h : n + 1 < g.length
    . rw [if_pos h, if_pos h]
    . rw [if_neg h, if_neg h, aMJ hl n (stepLL g r) (by rw [vI]; omega), aDQ hl hr (by omega)]
theorem aKI (g : List Int) : ∀ (n : Nat) (r : List Int), r.length = n -> (divL g n r).length <= n
  | 0, r, h => by rw [divL]; omega
  | n + 1, r, h => by
    unfold divL
    split
    . omega
    . have := aKI g n (stepPL g r) (by rw [vX]; omega); omega
theorem aGH (g : List Int) : ∀ (n : Nat) (r : List Int), r.length = n -> (leftL g n r).length <= n
  | 0, r, h => by rw [leftL]; omega
  | n + 1, r, h => by
    unfold leftL
    split
    . omega
    . have := aGH g n (stepLL g r) (by rw [vI]; omega); omega
theorem aPR (g : List Int) : ∀ (n : Nat) (q r : List Int), (quoL g n q r).length <= n + q.length
  | 0, q, r => by rw [quoL]; omega
  | n + 1, q, r => by
    unfold quoL
    split
    . omega
    . have := aPR g n (dnF g (lastI r) :: q.map fun x => upF g (lastI r) * x) (stepPL g r)
      simp at this; omega
def restF (f g : List Int) : List Int := lowB (trimI (divL g f.length f))
theorem aXG {f g : List Int} (hl : lastI g ≠ 0) : lowB (trimI (leftL g f.length f)) = restF f g := by
  obtain ⟨c, hc, e⟩ := aKB hl f.length (fun p => f.getD p 0)
  refine aWX (a := 1) (b := c) (by decide) hc fun i => ?_
  rw [Int.one_mul, show (leftL g f.length f).getD i 0 = leftF g f.length (fun p => f.getD p 0) i from congrFun (aMJ hl _ f rfl) i, e i, show (divL g f.length f).getD i 0 = divF g f.length (fun p => f.getD p 0) i from congrFun (aKJ hl _ f rfl) i]
end My
namespace My
open PySem L2 L2.EV PyProof.Rows
def cv (g : List Int) (φ : Nat -> Int) (m p : Nat) : Int := psG g (fun k => if k < m then φ k else 0) p g.length
theorem aKK (g : List Int) (φ : Nat -> Int) (p : Nat) : cv g φ 0 p = 0 := by
  unfold cv
  have h := wQ g 0 (fun _ => 0) p g.length
  have e : (fun k => if k < 0 then φ k else 0) = fun k => (0 : Int) * (fun _ => 0) k := by funext k; rw [if_neg (by omega)]; rfl
  rw [e, h]; grind
theorem aGT (g : List Int) (φ : Nat -> Int) (m p : Nat) : cv g φ (m + 1) p = cv g φ m p + φ m * (if m <= p then g.getD (p - m) 0 else 0) := by
  unfold cv
  have e1 : (fun k => if k < m + 1 then φ k else 0) = fun k => (if k < m then φ k else 0) + φ m * (if k = m then 1 else 0) := by
    funext k
    by_cases z : k < m
    . rw [if_pos z, if_pos (by omega), if_neg (by omega)]; grind
    . by_cases z2 : k = m
      . subst z2; rw [if_pos (by omega), if_neg (by omega), if_pos rfl]; grind
      . rw [if_neg z, if_neg (by omega), if_neg z2]; grind
  rw [e1, aJI, wQ, aCU]
  by_cases z : m <= p
  . rw [if_pos z]
    by_cases z2 : p - m < g.length
    . rw [if_pos ⟨z, z2⟩]
    . rw [if_neg (by omega), yH (g := g) (i := p - m) (by omega)]
  . rw [if_neg z, if_neg (by omega)]
theorem aYQ (g : List Int) (φ : Nat -> Int) (p : Nat) : ∀ m, m + g.length <= p + 1 -> cv g φ m p = 0
  | 0, _ => aKK g φ p
  | m + 1, h => by
    rw [aGT, aYQ g φ p m (by omega), yH (g := g) (i := p - m) (by omega)]
    split <;> grind
theorem aVI (f g : List Int) (p : Nat) : ∀ m, cv g (fun k => f.getD k 0) m p = psG f (fun k => g.getD k 0) p m
  | 0 => aKK g _ p
  | m + 1 => by
    rw [aGT, aVI f g p m]; rfl
theorem aIL (f g : List Int) (p : Nat) : (timesL f g).getD p 0 = cv g (fun k => f.getD k 0) f.length p := by rw [aFD, aVI]
theorem aDP (f g : List Int) : timesL f g = timesL g f := by
  refine aCD (trimOk _) (trimOk _) fun i => ?_
  rw [aIL f g, aFD g f]
  unfold cv
  congr 1
  funext k
  by_cases z : k < f.length
  . rw [if_pos z]
  . rw [if_neg z, yH (by omega)]
end My
namespace My
open PySem L2 L2.EV PyProof.Rows
def Sim (F G : Nat -> Int) : Prop := ∃ a b : Int, a ≠ 0 /\ b ≠ 0 /\ ∀ i, a * F i = b * G i
abbrev co (f : List Int) : Nat -> Int := fun i => f.getD i 0
theorem Sim.refl (F : Nat -> Int) : Sim F F := ⟨1, 1, by decide, by decide, fun _ => rfl⟩
theorem Sim.symm {F G : Nat -> Int} (h : Sim F G) : Sim G F := by
  obtain ⟨a, b, ha, hb, e⟩ := h
  exact ⟨b, a, hb, ha, fun i => (e i).symm⟩
theorem Sim.trans {F G H : Nat -> Int} (h : Sim F G) (k : Sim G H) : Sim F H := by
  obtain ⟨a, b, ha, hb, e⟩ := h
  obtain ⟨c, d, hc, hd, e'⟩ := k
  refine ⟨c * a, b * d, Int.mul_ne_zero hc ha, Int.mul_ne_zero hb hd, fun i => ?_⟩
  have e1 := e i
  have e2 := e' i
  calc c * a * F i = c * (a * F i) := by grind
    _ = c * (b * G i) := by rw [e1]
    _ = b * (c * G i) := by grind
    _ = b * (d * H i) := by rw [e2]
    _ = b * d * H i := by grind
theorem Sim.scale {F G : Nat -> Int} {c : Int} (hc : c ≠ 0) (h : ∀ i, F i = c * G i) : Sim F G := ⟨1, c, by decide, hc, fun i => by rw [h i, Int.one_mul]⟩
theorem aIO {f g : List Int} (hf : RowOk f) (hg : RowOk g) {a b : Int} (ha : a ≠ 0) (hb : b ≠ 0) (h : ∀ i, a * f.getD i 0 = b * g.getD i 0) : (f.map fun x => a * x) = g.map fun x => b * x :=
  aCD (scaleOk hf ha) (scaleOk hg hb) fun i => by rw [zP (Int.mul_zero a), zP (Int.mul_zero b), h i]
theorem aIP {f g : List Int} (hf : RowOk f) (hg : RowOk g) (h : Sim (co f) (co g)) : f.length = g.length := by
  obtain ⟨a, b, ha, hb, e⟩ := h
  have := congrArg List.length (aIO hf hg ha hb e)
  simpa using this
theorem aZU {f : List Int} : lowB (f.map fun x => -x) = (lowB f).map fun x => -x := by
  have e : gl (f.map fun x => -x) = gl f := by
    unfold gl
    rw [List.foldl_map]
    congr 1
    funext g x
    rw [Int.natAbs_neg]
  unfold lowB
  rw [e, List.map_map, List.map_map]
  refine List.map_congr_left fun x hx => ?_
  show (-x).fdiv (gl f : Int) = -(x.fdiv (gl f : Int))
  have hd : (gl f : Int) ∣ x := by
    have key : ∀ (f : List Int) (a : Nat), (f.foldl (fun g x => Nat.gcd g x.natAbs) a ∣ a) /\ ∀ x ∈ f, f.foldl (fun g x => Nat.gcd g x.natAbs) a ∣ x.natAbs := by
      intro f
      induction f with
      | nil => intro a; exact ⟨Nat.dvd_refl a, fun x hx => by cases hx⟩
      | cons y f ih =>
        intro a
        obtain ⟨h1, h2⟩ := ih (Nat.gcd a y.natAbs)
        refine ⟨Nat.dvd_trans h1 (Nat.gcd_dvd_left _ _), fun x hx => ?_⟩
        rcases List.mem_cons.mp hx with rfl | hx
        . exact Nat.dvd_trans h1 (Nat.gcd_dvd_right _ _)
        . exact h2 x hx
    exact Int.ofNat_dvd_left.mpr ((key f 0).2 x hx)
  obtain ⟨k, hk⟩ := hd
  by_cases h0 : (gl f : Int) = 0
  . rw [hk, h0, Int.zero_mul]; rfl
  . rw [hk, Int.mul_fdiv_cancel_left _ h0, show -((gl f : Int) * k) = (gl f : Int) * (-k) by grind, Int.mul_fdiv_cancel_left _ h0]
theorem wK (f : List Int) (φ : Int -> Int) (h0 : φ 0 = 0) : lastI (f.map φ) = φ (lastI f) := by
  rcases List.eq_nil_or_concat f with e | ⟨ys, y, e⟩
  . subst e; exact h0.symm
  . rw [List.concat_eq_append] at e; subst e; simp [lastI]
theorem aEY {f : List Int} (h : RowOk f) (hne : f ≠ []) : lastI (lowB f) ≠ 0 := by
  rcases h with e | ⟨ys, a, e, ha⟩
  . exact absurd e hne
  . subst e
    have hd : ((gl (ys ++ [a]) : Nat) : Int) ∣ a := by rw [aKE]; exact Int.ofNat_dvd_left.mpr (Nat.gcd_dvd_right _ _)
    have hg : ((gl (ys ++ [a]) : Nat) : Int) ≠ 0 := by
      have := aAJ (S := ys ++ [a]) (.inr ⟨ys, a, rfl, ha⟩) (by simp)
      omega
    unfold lowB
    rw [List.map_append]
    obtain ⟨k, hk⟩ := hd
    generalize ((gl (ys ++ [a]) : Nat) : Int) = G at hk hg
    have : lastI (List.map (fun x => x.fdiv G) ys ++ List.map (fun x => x.fdiv G) [a]) = a.fdiv G := by simp [lastI]
    rw [this, hk, Int.mul_fdiv_cancel_left _ hg]
    intro z
    rw [z, Int.mul_zero] at hk
    exact ha hk
theorem aTF {f : List Int} (h : RowOk f) : plainB (f.map fun x => -x) = plainB f := by
  unfold plainB
  rw [aZU, wK _ (fun x => -x) (by rfl)]
  by_cases hne : f = []
  . subst hne; rfl
  . have h0 := aEY h hne
    by_cases z : lastI (lowB f) < 0
    . rw [if_pos z, if_neg (by omega)]
    . rw [if_neg z, if_pos (by omega), List.map_map]
      have : ((fun x : Int => -x) ∘ fun x : Int => -x) = id := by funext x; show - -x = x; omega
      rw [this, List.map_id]
theorem aCE {f : List Int} (h : RowOk f) {c : Int} (hc : c ≠ 0) : plainB (f.map fun x => c * x) = plainB f := by
  rcases Int.lt_or_lt_of_ne hc with z | z
  . have e : (f.map fun x => c * x) = (f.map fun x => -x).map fun x => (-c) * x := by
      rw [List.map_map]; refine List.map_congr_left fun x _ => ?_
      show c * x = -c * -x; grind
    rw [e]
    have : plainB ((f.map fun x => -x).map fun x => (-c) * x) = plainB (f.map fun x => -x) := by
      unfold plainB; rw [aCY (by omega)]
    rw [this, aTF h]
  . unfold plainB; rw [aCY z]
theorem jM {f g : List Int} (hf : RowOk f) (hg : RowOk g) (h : Sim (co f) (co g)) : plainB f = plainB g := by
  obtain ⟨a, b, ha, hb, e⟩ := h
  rw [<- aCE hf ha, <- aCE hg hb, aIO hf hg ha hb e]
theorem aWY (g : List Int) (n : Nat) {F G : Nat -> Int} (h : Sim F G) : Sim (leftF g n F) (leftF g n G) := by
  obtain ⟨a, b, ha, hb, e⟩ := h
  refine ⟨a, b, ha, hb, fun i => ?_⟩
  have h1 := congrFun (wJ g a n F) i
  have h2 := congrFun (wJ g b n G) i
  rw [<- h1, <- h2, show (fun i => a * F i) = fun i => b * G i from funext e]
theorem aBK {g : List Int} {b : Int} (hb : b ≠ 0) : ∀ (n : Nat) (S : Nat -> Int), ∃ c : Int, c ≠ 0 /\ ∀ i, leftF (g.map fun x => b * x) n S i = c * leftF g n S i
  | 0, S => ⟨1, by decide, fun i => (Int.one_mul _).symm⟩
  | n + 1, S => by
    unfold leftF
    rw [List.length_map]
    by_cases h : n + 1 < g.length
    . exact ⟨1, by decide, fun i => by rw [if_pos h, if_pos h, Int.one_mul]⟩
    . have e : stepF (g.map fun x => b * x) n S = fun i => (b * b) * stepF g n S i := by
        funext i
        unfold stepF
        rw [wK g (fun x => b * x) (Int.mul_zero b), List.length_map, zP (φ := fun x => b * x) (Int.mul_zero b)]
        split <;> grind
      obtain ⟨c, hc, ec⟩ := aBK hb n (fun i => (b * b) * stepF g n S i)
      refine ⟨c * (b * b), Int.mul_ne_zero hc (Int.mul_ne_zero hb hb), fun i => ?_⟩
      rw [if_neg h, if_neg h, e, ec i, wJ]
      show c * (b * b * _) = _
      grind
theorem aMC (f : List Int) (h : RowOk f) : Sim (co f) (co (lowB f)) := by
  by_cases hne : f = []
  . subst hne; exact Sim.refl _
  . have hg := aAJ h hne
    refine Sim.scale (c := (gl f : Int)) (by omega) fun i => ?_
    show f.getD i 0 = (gl f : Int) * (lowB f).getD i 0
    unfold lowB
    rw [zP (φ := fun x => x.fdiv (gl f : Int)) (by exact Int.zero_fdiv _)]
    by_cases hi : i < f.length
    . have hx : f.getD i 0 ∈ f := by rw [wL hi]; exact List.getElem_mem _
      have hd : (gl f : Int) ∣ f.getD i 0 := by
        have key : ∀ (f : List Int) (a : Nat), (f.foldl (fun g x => Nat.gcd g x.natAbs) a ∣ a) /\ ∀ x ∈ f, f.foldl (fun g x => Nat.gcd g x.natAbs) a ∣ x.natAbs := by
          intro f
          induction f with
          | nil => intro a; exact ⟨Nat.dvd_refl a, fun x hx => by cases hx⟩
          | cons y f ih =>
            intro a
            obtain ⟨h1, h2⟩ := ih (Nat.gcd a y.natAbs)
            refine ⟨Nat.dvd_trans h1 (Nat.gcd_dvd_left _ _), fun x hx => ?_⟩
            rcases List.mem_cons.mp hx with rfl | hx
            . exact Nat.dvd_trans h1 (Nat.gcd_dvd_right _ _)
            . exact h2 x hx
        exact Int.ofNat_dvd_left.mpr ((key f 0).2 _ hx)
      obtain ⟨k, hk⟩ := hd
      rw [hk, Int.mul_fdiv_cancel_left _ (by omega)]
    . rw [yH (by omega), Int.zero_fdiv, Int.mul_zero]
theorem lowOk {f : List Int} (h : RowOk f) : RowOk (lowB f) := by
  by_cases hne : f = []
  . subst hne; exact .inl rfl
  . right
    have h0 := aEY h hne
    rcases List.eq_nil_or_concat (lowB f) with e | ⟨ys, y, e⟩
    . exfalso; apply hne; apply List.eq_nil_of_length_eq_zero; rw [<- aAT, e]; rfl
    . rw [List.concat_eq_append] at e
      refine ⟨ys, y, e, ?_⟩
      rw [e] at h0
      simpa [lastI] using h0
theorem restOk (f g : List Int) : RowOk (restF f g) := lowOk (trimOk _)
theorem aLR {f g : List Int} (hl : lastI g ≠ 0) : Sim (co (restF f g)) (leftF g f.length (co f)) := by
  have h1 := (aMC _ (trimOk (divL g f.length f))).symm
  obtain ⟨c, hc, e⟩ := aKB hl f.length (co f)
  refine h1.trans ?_
  refine ⟨c, 1, by omega, by decide, fun i => ?_⟩
  show c * (trimI (divL g f.length f)).getD i 0 = _
  rw [Int.one_mul, e i, vO, show (divL g f.length f).getD i 0 = divF g f.length (fun p => f.getD p 0) i from congrFun (aKJ hl _ f rfl) i]
theorem aCS {f g : List Int} (hl : lastI g ≠ 0) (k : Nat) : Sim (co (restF f g)) (leftF g (f.length + k) (co f)) := by
  obtain ⟨c, hc, e⟩ := aMH hl (F := co f) (n := f.length) (fun i hi => yH hi) k
  exact (aLR hl).trans (Sim.scale (c := c) (by omega) e).symm
theorem aIC {g : List Int} {b : Int} : lastI (g.map fun x => b * x) = b * lastI g := wK g (fun x => b * x) (Int.mul_zero b)
theorem aWH {f g : List Int} (hf : RowOk f) (hg : RowOk g) (h : Sim (co f) (co g)) (hl : lastI f ≠ 0) : lastI g ≠ 0 := by
  obtain ⟨a, b, ha, hb, e⟩ := h
  have := aIO hf hg ha hb e
  intro z
  have h1 := congrArg lastI this
  rw [aIC, aIC, z, Int.mul_zero] at h1
  exact Int.mul_ne_zero ha hl h1
theorem aWL {f f' g g' : List Int} (hf : Sim (co f) (co f')) (rg : RowOk g) (rg' : RowOk g') (hg : Sim (co g) (co g')) (hl : lastI g ≠ 0) : Sim (co (restF f g)) (co (restF f' g')) := by
  have hl' := aWH rg rg' hg hl
  obtain ⟨a, b, ha, hb, e⟩ := hg
  have eg := aIO rg rg' ha hb e
  have s1 := aCS (f := f) hl f'.length
  have s2 := aCS (f := f') hl' f.length
  obtain ⟨c1, h1, e1⟩ := aBK (g := g) ha (f.length + f'.length) (co f)
  obtain ⟨c2, h2, e2⟩ := aBK (g := g') hb (f.length + f'.length) (co f)
  have m : Sim (leftF g (f.length + f'.length) (co f)) (leftF g' (f.length + f'.length) (co f)) := ⟨c1, c2, h1, h2, fun i => by rw [<- e1 i, <- e2 i, eg]⟩
  rw [Nat.add_comm] at s2
  exact s1.trans (m.trans ((aWY g' _ hf).trans s2.symm))
def sharedL : Nat -> List Int -> List Int -> List Int
  | 0, f, _ => f
  | n + 1, f, g => if g = [] then f else sharedL n g (restF f g)
theorem aIH {g : List Int} : ∀ (n : Nat) (r : List Int), r.length = n -> g ≠ [] -> (divL g n r).length < g.length \/ (divL g n r).length < g.length
  | 0, r, hr, hg => .inl (by show r.length < _; have := List.length_pos_iff.mpr hg; omega)
  | n + 1, r, hr, hg => by
    unfold divL
    by_cases h : n + 1 < g.length
    . rw [if_pos h]; exact .inl (by omega)
    . rw [if_neg h]; exact aIH n _ (by rw [vX]; omega) hg
theorem wP {f g : List Int} (hg : g ≠ []) : (restF f g).length < g.length := by
  unfold restF
  rw [aAT]
  have h1 := qY (divL g f.length f)
  have h2 := aIH (g := g) f.length f rfl hg
  omega
theorem yJ {g : List Int} (h : RowOk g) (hg : g ≠ []) : lastI g ≠ 0 := by
  rcases h with e | ⟨ys, a, e, ha⟩
  . exact absurd e hg
  . subst e; simpa [lastI] using ha
theorem aFJ : ∀ (n : Nat) (f g : List Int), g.length <= n -> sharedL (n + 1) f g = sharedL n f g
  | 0, f, g, h => by
    have : g = [] := List.eq_nil_of_length_eq_zero (by omega)
    subst this; rfl
  | n + 1, f, g, h => by
    show (if g = [] then f else sharedL (n + 1) g (restF f g)) = (if g = [] then f else sharedL n g (restF f g))
    by_cases hg : g = []
    . rw [if_pos hg, if_pos hg]
    . rw [if_neg hg, if_neg hg]
      have := wP (f := f) hg
      exact aFJ n g (restF f g) (by omega)
theorem aFK {n : Nat} {f g : List Int} (h : g.length <= n) : ∀ k, sharedL (n + k) f g = sharedL n f g
  | 0 => rfl
  | k + 1 => by rw [<- Nat.add_assoc, aFJ (n + k) f g (by omega), aFK h k]
theorem aLE : ∀ (n : Nat) (f g : List Int), RowOk f -> RowOk g -> RowOk (sharedL n f g)
  | 0, f, g, hf, _ => hf
  | n + 1, f, g, hf, hg => by
    rw [sharedL]
    split
    . exact hf
    . exact aLE n g (restF f g) hg (restOk f g)
theorem aHS : ∀ (n : Nat) (f f' g g' : List Int), RowOk g -> RowOk g' -> Sim (co f) (co f') -> Sim (co g) (co g') -> Sim (co (sharedL n f g)) (co (sharedL n f' g'))
  | 0, f, f', g, g', _, _, hf, _ => hf
  | n + 1, f, f', g, g', rg, rg', hf, hg => by
    have hl := aIP rg rg' hg
    rw [sharedL, sharedL]
    by_cases z : g = []
    . have z' : g' = [] := List.eq_nil_of_length_eq_zero (by rw [<- hl, z]; rfl)
      rw [if_pos z, if_pos z']; exact hf
    . have z' : g' ≠ [] := fun y => z (List.eq_nil_of_length_eq_zero (by rw [hl, y]; rfl))
      rw [if_neg z, if_neg z']
      exact aHS n g g' _ _ (restOk _ _) (restOk _ _) hg (aWL hf rg rg' hg (yJ rg z))
end My
namespace My
open PySem L2 L2.EV PyProof.Rows
def sh (f g : List Int) : List Int := sharedL g.length f g
theorem aFM (f : List Int) : sh f [] = f := rfl
theorem aCB {f g : List Int} (hg : g ≠ []) : sh f g = sh g (restF f g) := by
  have hr := wP (f := f) hg
  obtain ⟨k, hk⟩ : ∃ k, g.length = k + 1 := ⟨g.length - 1, by have := List.length_pos_iff.mpr hg; omega⟩
  unfold sh
  rw [hk]
  show (if g = [] then f else sharedL k g (restF f g)) = _
  rw [if_neg hg]
  obtain ⟨j, hj⟩ : ∃ j, k = (restF f g).length + j := ⟨k - (restF f g).length, by omega⟩
  rw [hj, aFK (Nat.le_refl _) j]
theorem aBW {f g : List Int} (hf : RowOk f) (hg : RowOk g) : RowOk (sh f g) := aLE _ _ _ hf hg
theorem aSK {f f' g g' : List Int} (rg : RowOk g) (rg' : RowOk g') (hf : Sim (co f) (co f')) (hg : Sim (co g) (co g')) : Sim (co (sh f g)) (co (sh f' g')) := by
  unfold sh
  rw [<- aIP rg rg' hg]
  exact aHS _ _ _ _ _ rg rg' hf hg
theorem aWM (g : List Int) : restF [] g = [] := rfl
theorem aKA {g : List Int} {n : Nat} (h : n < g.length) (S : Nat -> Int) : leftF g n S = S := by
  cases n with
  | zero => rfl
  | succ n => unfold leftF; rw [if_pos h]
abbrev cm (m : List Int) (S : Nat -> Int) : Nat -> Int := fun p => psG m S p m.length
theorem aEQ (f m : List Int) : co (timesL f m) = cm m (co f) := by
  funext p
  show (timesL f m).getD p 0 = _
  rw [aDP, aFD]
theorem aVN (m : List Int) (c : Int) (S : Nat -> Int) : cm m (fun i => c * S i) = fun i => c * cm m S i := funext fun p => wQ m c S p m.length
theorem aYR (m : List Int) {F G : Nat -> Int} (h : Sim F G) : Sim (cm m F) (cm m G) := by
  obtain ⟨a, b, ha, hb, e⟩ := h
  refine ⟨a, b, ha, hb, fun i => ?_⟩
  have h1 := congrFun (aVN m a F) i
  have h2 := congrFun (aVN m b G) i
  rw [<- h1, <- h2, show (fun i => a * F i) = fun i => b * G i from funext e]
theorem aFT (m : List Int) (s : Nat) (φ : Nat -> Int) (p : Nat) : ∀ k, psG m (fun i => if s <= i then φ (i - s) else 0) p k = if s <= p then psG m φ (p - s) k else 0
  | 0 => by split <;> rfl
  | k + 1 => by
    show psG m _ p k + m.getD k 0 * (if k <= p then (if s <= p - k then φ (p - k - s) else 0) else 0) = if s <= p then psG m φ (p - s) k + m.getD k 0 * (if k <= p - s then φ (p - s - k) else 0) else 0
    rw [aFT m s φ p k]
    by_cases h : s <= p
    . rw [if_pos h, if_pos h]
      congr 1; congr 1
      by_cases h2 : k <= p - s
      . rw [if_pos h2, if_pos (by omega), if_pos (by omega), show p - k - s = p - s - k by omega]
      . rw [if_neg h2]
        split
        . rw [if_neg (by omega)]
        . rfl
    . rw [if_neg h, if_neg h]
      have : (if k <= p then (if s <= p - k then φ (p - k - s) else 0) else 0) = 0 := by
        split
        . rw [if_neg (by omega)]
        . rfl
      rw [this]; grind
theorem aFU (m : List Int) (S : Nat -> Int) (p n : Nat) (hS : ∀ i, n < i -> S i = 0) : ∀ k, k + n <= p -> psG m S p k = 0
  | 0, _ => rfl
  | k + 1, h => by
    show psG m S p k + m.getD k 0 * (if k <= p then S (p - k) else 0) = 0
    rw [aFU m S p n hS k (by omega), if_pos (by omega), hS (p - k) (by omega)]; grind
theorem aVM {m : List Int} (hm : m ≠ []) (S : Nat -> Int) (n : Nat) (hS : ∀ i, n < i -> S i = 0) : cm m S (n + (m.length - 1)) = lastI m * S n := by
  obtain ⟨k, hk⟩ : ∃ k, m.length = k + 1 := ⟨m.length - 1, by have := List.length_pos_iff.mpr hm; omega⟩
  show psG m S (n + (m.length - 1)) m.length = _
  have e := yR hm
  rw [hk] at e ⊢
  show psG m S (n + k) k + m.getD k 0 * (if k <= n + k then S (n + k - k) else 0) = _
  rw [aFU m S (n + k) n hS k (by omega), if_pos (by omega), show n + k - k = n by omega, Int.zero_add]
  show m.getD k 0 * S n = _
  rw [show m.getD k 0 = lastI m from e]
theorem qS {f m : List Int} (rf : RowOk f) (rm : RowOk m) (hf : f ≠ []) (hm : m ≠ []) : (timesL f m).length = f.length + (m.length - 1) /\ lastI (timesL f m) = lastI m * lastI f := by
  have lf := yJ rf hf
  have lm := yJ rm hm
  obtain ⟨n, hn⟩ : ∃ n, f.length = n + 1 := ⟨f.length - 1, by have := List.length_pos_iff.mpr hf; omega⟩
  have top := aVM hm (co f) n (fun i hi => yH (by omega))
  rw [<- aEQ] at top
  have e1 : co f n = lastI f := by have := yR hf; rwa [hn] at this
  rw [e1] at top
  have hlow : f.length + (m.length - 1) <= (timesL f m).length := by
    rcases Nat.lt_or_ge (n + (m.length - 1)) (timesL f m).length with z | z
    . omega
    . have := yH (g := timesL f m) z
      exact absurd ((show (timesL f m).getD (n + (m.length - 1)) 0 = _ from top).symm.trans this) (Int.mul_ne_zero lm lf)
  have hup : (timesL f m).length <= f.length + (m.length - 1) := by
    have hmp := List.length_pos_iff.mpr hm
    have h1 := aHQ f m
    rcases Nat.lt_or_ge (f.length + (m.length - 1)) (timesL f m).length with z | z
    . exfalso
      have e : (timesL f m).length = f.length + m.length := by omega
      have ne : timesL f m ≠ [] := fun y => by rw [y] at z; simp at z
      have g1 := yR ne
      have l1 := yJ (trimOk _ : RowOk (timesL f m)) ne
      rw [e] at g1
      have g2 : (timesL f m).getD (f.length + m.length - 1) 0 = 0 := by
        show co (timesL f m) _ = 0
        rw [aEQ]
        exact aFU m (co f) _ n (fun i hi => yH (by omega)) m.length (by omega)
      rw [g2] at g1
      exact l1 g1.symm
    . exact z
  have hE : (timesL f m).length = f.length + (m.length - 1) := by omega
  refine ⟨hE, ?_⟩
  have ne : timesL f m ≠ [] := fun y => by rw [y] at hE; simp at hE; omega
  have g1 := yR ne
  rw [hE, hn, show n + 1 + (m.length - 1) - 1 = n + (m.length - 1) by omega] at g1
  exact g1.symm.trans top
theorem aSD {g : List Int} (hg : g ≠ []) {n : Nat} (hn : g.length <= n + 1) {S : Nat -> Int} (hS : ∀ i, n + 1 <= i -> S i = 0) : ∀ i, n <= i -> stepF g n S i = 0 := by
  intro i hi
  have hp := List.length_pos_iff.mpr hg
  unfold stepF
  rw [if_pos (by omega)]
  rcases Nat.eq_or_lt_of_le hi with e | e
  . subst e
    rw [show n - (n + 1 - g.length) = g.length - 1 by omega, yR hg]; grind
  . rw [hS i (by omega), yH (g := g) (by omega)]; grind
theorem aQS {g m : List Int} (rg : RowOk g) (rm : RowOk m) (hg : g ≠ []) (hm : m ≠ []) (n : Nat) (S : Nat -> Int) (hS : ∀ i, n < i -> S i = 0) : stepF (timesL g m) (n + (m.length - 1)) (cm m S) = fun i => (lastI m * lastI m) * cm m (stepF g n S) i := by
  obtain ⟨tl, tt⟩ := qS rg rm hg hm
  have hmp := List.length_pos_iff.mpr hm
  funext i
  have e1 : cm m (stepF g n S) i = lastI g * lastI g * cm m S i - (S n * lastI g) * (if n + 1 - g.length <= i then cm m (co g) (i - (n + 1 - g.length)) else 0) := by
    have h0 : stepF g n S = fun i => (lastI g * lastI g) * S i + (-(S n * lastI g)) * (if n + 1 - g.length <= i then co g (i - (n + 1 - g.length)) else 0) := by
      funext i; unfold stepF
      split <;> grind
    rw [h0]
    show psG m _ i m.length = _
    rw [aJI m (fun i => (lastI g * lastI g) * S i) (fun i => (-(S n * lastI g)) * (if n + 1 - g.length <= i then co g (i - (n + 1 - g.length)) else 0)), wQ, wQ m (-(S n * lastI g)), aFT m (n + 1 - g.length) (co g)]
    grind
  rw [e1]
  unfold stepF
  rw [tl, tt, show n + (m.length - 1) + 1 - (g.length + (m.length - 1)) = n + 1 - g.length by omega, aVM hm S n hS]
  have e2 : ∀ p, (timesL g m).getD p 0 = cm m (co g) p := fun p => congrFun (aEQ g m) p
  rw [e2]
  split <;> grind
theorem aIA {g m : List Int} (rg : RowOk g) (rm : RowOk m) (hg : g ≠ []) (hm : m ≠ []) : ∀ (n : Nat) (S : Nat -> Int), (∀ i, n <= i -> S i = 0) -> ∃ c : Int, c ≠ 0 /\ ∀ i, leftF (timesL g m) (n + (m.length - 1)) (cm m S) i = c * cm m (leftF g n S) i
  | 0, S, hS => by
    obtain ⟨tl, tt⟩ := qS rg rm hg hm
    have hgp := List.length_pos_iff.mpr hg
    exact ⟨1, by decide, fun i => by rw [aKA (by omega), Int.one_mul]; rfl⟩
  | n + 1, S, hS => by
    obtain ⟨tl, tt⟩ := qS rg rm hg hm
    have lm := yJ rm hm
    by_cases h : n + 1 < g.length
    . exact ⟨1, by decide, fun i => by rw [aKA (by omega), aKA h, Int.one_mul]⟩
    . obtain ⟨c, hc, e⟩ := aIA rg rm hg hm n (stepF g n S) (aSD hg (by omega) hS)
      refine ⟨lastI m * lastI m * c, Int.mul_ne_zero (Int.mul_ne_zero lm lm) hc, fun i => ?_⟩
      have a1 : leftF (timesL g m) (n + 1 + (m.length - 1)) (cm m S) = leftF (timesL g m) (n + (m.length - 1)) (stepF (timesL g m) (n + (m.length - 1)) (cm m S)) := by
        rw [show n + 1 + (m.length - 1) = n + (m.length - 1) + 1 by omega]
        show (if n + (m.length - 1) + 1 < (timesL g m).length then _ else _) = _
        rw [if_neg (by omega)]
      have a2 : leftF g (n + 1) S = leftF g n (stepF g n S) := by
        show (if n + 1 < g.length then _ else _) = _
        rw [if_neg h]
      rw [a1, a2, aQS rg rm hg hm n S (fun i hi => hS i hi), wJ]
      show lastI m * lastI m * leftF (timesL g m) (n + (m.length - 1)) (cm m (stepF g n S)) i = _
      rw [e i]; grind
theorem aRA {f g m : List Int} (rg : RowOk g) (rm : RowOk m) (hg : g ≠ []) (hm : m ≠ []) : Sim (co (restF (timesL f m) (timesL g m))) (co (timesL (restF f g) m)) := by
  obtain ⟨tl, tt⟩ := qS rg rm hg hm
  have lg := yJ rg hg
  have lm := yJ rm hm
  have lt : lastI (timesL g m) ≠ 0 := by rw [tt]; exact Int.mul_ne_zero lm lg
  have a1 := aCS (f := timesL f m) lt (f.length + (m.length - 1))
  have a2 := aCS (f := f) lg (timesL f m).length
  obtain ⟨c, hc, e⟩ := aIA rg rm hg hm (f.length + (timesL f m).length) (co f) (fun i hi => yH (by omega))
  rw [show (timesL f m).length + (f.length + (m.length - 1)) = f.length + (timesL f m).length + (m.length - 1) by omega, aEQ] at a1
  rw [aEQ]
  exact a1.trans ((Sim.scale hc e).trans (aYR m a2.symm))
theorem aIQ {m : List Int} (rm : RowOk m) (hm : m ≠ []) : ∀ (n : Nat) (f g : List Int), g.length <= n -> RowOk g -> Sim (co (sh (timesL f m) (timesL g m))) (co (timesL (sh f g) m))
  | 0, f, g, h, rg => by
    have : g = [] := List.eq_nil_of_length_eq_zero (by omega)
    subst this
    rw [aCM, aFM, aFM]; exact Sim.refl _
  | n + 1, f, g, h, rg => by
    by_cases hg : g = []
    . subst hg
      rw [aCM, aFM, aFM]; exact Sim.refl _
    . obtain ⟨tl, tt⟩ := qS rg rm hg hm
      have hgp := List.length_pos_iff.mpr hg
      have tn : timesL g m ≠ [] := fun y => by rw [y] at tl; simp at tl; omega
      rw [aCB tn, aCB hg]
      have hr := wP (f := f) hg
      refine Sim.trans ?_ (aIQ rm hm n g (restF f g) (by omega) (restOk f g))
      exact aSK (restOk _ _) (trimOk _) (Sim.refl _) (aRA rg rm hg hm)
end My
namespace My
open PySem L2 L2.EV PyProof.Rows
def aDL (ds : List D) (d : D) : Prop := ∃ a : Int, ds = [.int a] /\ d = .int a.sign
theorem aNZ : ∀ ds d, aDL ds d -> ds.length = 1 := by rintro _ _ ⟨a, rfl, _⟩; rfl
def aAW (ds : List D) (d : D) : Prop := ∃ r g : List Int, ds = [intsD r, rowD g] /\ r ≠ [] /\ lastI g ≠ 0 /\ d = .tup [.int (upF g (lastI r)), .int (dnF g (lastI r))]
theorem aJS : ∀ ds d, aAW ds d -> ds.length = 2 := by rintro _ _ ⟨a, b, rfl, _⟩; rfl
def BB (k : Nat) (f : List Int) : Prop := ∀ x ∈ f, x.natAbs < 2 ^ k
def DivOk (f g : List Int) : Prop := f.length < 200 /\ g.length < 200 /\ lastI g ≠ 0 /\ ∃ a b, BB a f /\ BB b g /\ a + (f.length + 1 - g.length) * (2 * b + 1) + b <= 1000000
def aDN (ds : List D) (d : D) : Prop := ∃ f g : List Int, ds = [rowD f, rowD g] /\ DivOk f g /\ d = .tup [rowD (trimI (quoL g f.length [] f)), rowD (trimI (divL g f.length f))]
theorem aOC : ∀ ds d, aDN ds d -> ds.length = 2 := by rintro _ _ ⟨a, b, rfl, _⟩; rfl
def aDK (ds : List D) : Prop := ∃ f : List Int, ds = [rowD f, rowD []]
theorem aME : ∀ ds, aDK ds -> ds.length = 2 := by rintro _ ⟨a, rfl⟩; rfl
def aDM (ds : List D) (d : D) : Prop := ∃ f g : List Int, ds = [rowD f, rowD g] /\ DivOk f g /\ d = rowD (restF f g)
theorem aOA : ∀ ds d, aDM ds d -> ds.length = 2 := by rintro _ _ ⟨a, b, rfl, _⟩; rfl
def aGX (ds : List D) : Prop := ∃ f : List Int, ds = [rowD f, rowD []]
theorem aMD : ∀ ds, aGX ds -> ds.length = 2 := by rintro _ ⟨a, rfl⟩; rfl
theorem BB.mono {k j : Nat} {f : List Int} (h : BB k f) (q : k <= j) : BB j f := fun x hx => Nat.lt_of_lt_of_le (h x hx) (Nat.pow_le_pow_right (by decide) q)
theorem BB.get {k : Nat} {f : List Int} (h : BB k f) (i : Nat) : (f.getD i 0).natAbs < 2 ^ k := by
  by_cases hi : i < f.length
  . rw [wL hi]; exact h _ (List.getElem_mem _)
  . rw [yH (by omega)]; exact Nat.pow_pos (by decide)
theorem BB.of_get {k : Nat} {f : List Int} (h : ∀ p, (f.getD p 0).natAbs < 2 ^ k) : BB k f := fun x hx => by
  obtain ⟨i, hi, rfl⟩ := List.mem_iff_getElem.mp hx
  have := h i
  rwa [wL hi] at this
theorem BB.last {k : Nat} {f : List Int} (h : BB k f) : (lastI f).natAbs < 2 ^ k := by
  by_cases hf : f = []
  . subst hf; exact Nat.pow_pos (by decide)
  . rw [<- yR hf]; exact h.get _
theorem BB.trim {k : Nat} {f : List Int} (h : BB k f) : BB k (trimI f) := fun x hx => h x (aBR hx)
theorem mulB {x y : Int} {p q : Nat} (hx : x.natAbs < 2 ^ p) (hy : y.natAbs < 2 ^ q) (hp : p <= 1000000) (hq : q <= 1000000) : IntMulOk x y :=
  aMA (k := max p q) (by omega) (Nat.lt_of_lt_of_le hx (Nat.pow_le_pow_right (by decide) (by omega))) (Nat.lt_of_lt_of_le hy (Nat.pow_le_pow_right (by decide) (by omega)))
theorem yM {x y : Int} {p q : Nat} (hx : x.natAbs < 2 ^ p) (hy : y.natAbs < 2 ^ q) : (x * y).natAbs < 2 ^ (p + q) := by
  rw [Int.natAbs_mul]; exact aRD hx hy
theorem aAS {x y : Int} {p : Nat} (hx : x.natAbs < 2 ^ p) (hy : y.natAbs < 2 ^ p) : (x - y).natAbs < 2 ^ (p + 1) := by
  rw [Nat.pow_succ]; omega
theorem aNM {g : List Int} (hl : lastI g ≠ 0) (a : Int) : (upF g a).natAbs <= (lastI g).natAbs /\ (dnF g a).natAbs <= a.natAbs := by
  have hh : 0 < Nat.gcd a.natAbs (lastI g).natAbs := Nat.gcd_pos_of_pos_right _ (by omega)
  obtain ⟨u, hu⟩ := Nat.gcd_dvd_right a.natAbs (lastI g).natAbs
  obtain ⟨v, hv⟩ := Nat.gcd_dvd_left a.natAbs (lastI g).natAbs
  unfold upF dnF
  generalize Nat.gcd a.natAbs (lastI g).natAbs = h at hh hu hv
  generalize lastI g = l at hl hu
  have e1 : ((l.natAbs : Nat) : Int).fdiv (h : Int) = (u : Int) := by
    rw [hu, Int.natCast_mul, Int.mul_fdiv_cancel_left _ (by omega)]
  have e2 : (l.sign * a).fdiv (h : Int) = l.sign * (a.sign * (v : Int)) := by
    have e : a = a.sign * ((h : Int) * (v : Int)) := by
      rw [<- Int.natCast_mul, <- hv]; exact (Int.sign_mul_natAbs a).symm
    have : l.sign * a = (h : Int) * (l.sign * (a.sign * (v : Int))) := by
      conv => lhs; rw [e]
      grind
    rw [this, Int.mul_fdiv_cancel_left _ (by omega)]
  rw [e1, e2, Int.natAbs_mul, Int.natAbs_mul, Int.natAbs_natCast, Int.natAbs_natCast]
  have s1 : ∀ z : Int, z.sign.natAbs <= 1 := fun z => by
    rcases Int.lt_trichotomy z 0 with y | y | y
    . rw [Int.sign_eq_neg_one_of_neg y]; decide
    . rw [y]; decide
    . rw [Int.sign_eq_one_of_pos y]; decide
  have u1 : u <= h * u := Nat.le_mul_of_pos_left u hh
  have v1 : v <= h * v := Nat.le_mul_of_pos_left v hh
  have v2 : a.sign.natAbs * v <= 1 * v := Nat.mul_le_mul_right v (s1 a)
  have v3 : l.sign.natAbs * (a.sign.natAbs * v) <= 1 * (a.sign.natAbs * v) := Nat.mul_le_mul_right _ (s1 l)
  omega
theorem aKZ {g r : List Int} {b c n : Nat} (hl : lastI g ≠ 0) (hr : r.length = n + 1) (hg : g.length <= n + 1) (hb : BB b g) (hc : BB c r) : BB (c + b + 1) (stepPL g r) := by
  refine BB.of_get fun p => ?_
  rw [show (stepPL g r).getD p 0 = stepP g n (fun p => r.getD p 0) p from congrFun (aHR hl hr hg) p]
  unfold stepP
  simp only []
  obtain ⟨u1, u2⟩ := aNM hl (r.getD n 0)
  have h1 : (upF g (r.getD n 0)).natAbs < 2 ^ b := Nat.lt_of_le_of_lt u1 hb.last
  have h2 : (dnF g (r.getD n 0)).natAbs < 2 ^ c := Nat.lt_of_le_of_lt u2 (hc.get n)
  have h3 := yM h1 (hc.get p)
  rw [Nat.add_comm b c] at h3
  refine aAS h3 ?_
  split
  . exact yM h2 (hb.get _)
  . exact Nat.pow_pos (by decide)
theorem aLA {g r : List Int} {b c n : Nat} (hl : lastI g ≠ 0) (hr : r.length = n + 1) (hg : g.length <= n + 1) (hb : BB b g) (hc : BB c r) : BB (c + (2 * b + 1)) (stepLL g r) := by
  refine BB.of_get fun p => ?_
  rw [show (stepLL g r).getD p 0 = stepF g n (fun p => r.getD p 0) p from congrFun (aDQ hl hr hg) p]
  unfold stepF
  simp only []
  rw [show c + (2 * b + 1) = c + b + b + 1 by omega]
  refine aAS (yM (yM (hc.get p) hb.last) hb.last) ?_
  split
  . exact yM (yM (hc.get n) hb.last) (hb.get _)
  . exact Nat.pow_pos (by decide)
theorem aVE {g : List Int} {b : Nat} (hl : lastI g ≠ 0) (hb : BB b g) : ∀ (n c : Nat) (r : List Int), r.length = n -> BB c r -> BB (c + (n + 1 - g.length) * (b + 1)) (divL g n r)
  | 0, c, r, hr, hc => hc.mono (Nat.le_add_right _ _)
  | n + 1, c, r, hr, hc => by
    unfold divL
    by_cases h : n + 1 < g.length
    . rw [if_pos h]; exact hc.mono (Nat.le_add_right _ _)
    . rw [if_neg h]
      have ih := aVE hl hb n (c + b + 1) (stepPL g r) (by rw [vX]; omega) (aKZ hl hr (by omega) hb hc)
      refine ih.mono ?_
      rw [show n + 1 + 1 - g.length = (n + 1 - g.length) + 1 by omega, Nat.succ_mul]
      omega
theorem aTY {k : Nat} {f : List Int} (h : BB k f) : BB k (lowB f) := fun x hx => by
  unfold lowB at hx
  obtain ⟨y, hy, rfl⟩ := List.mem_map.mp hx
  have h1 := h y hy
  by_cases z : (gl f : Int) = 0
  . rw [z, Int.fdiv_zero]; exact Nat.pow_pos (by decide)
  . refine Nat.lt_of_le_of_lt ?_ h1
    have hd : (gl f : Int) ∣ y := by
      have key : ∀ (f : List Int) (a : Nat), (f.foldl (fun g x => Nat.gcd g x.natAbs) a ∣ a) /\ ∀ x ∈ f, f.foldl (fun g x => Nat.gcd g x.natAbs) a ∣ x.natAbs := by
        intro f
        induction f with
        | nil => intro a; exact ⟨Nat.dvd_refl a, fun x hx => by cases hx⟩
        | cons y f ih =>
          intro a
          obtain ⟨h1, h2⟩ := ih (Nat.gcd a y.natAbs)
          refine ⟨Nat.dvd_trans h1 (Nat.gcd_dvd_left _ _), fun x hx => ?_⟩
          rcases List.mem_cons.mp hx with rfl | hx
          . exact Nat.dvd_trans h1 (Nat.gcd_dvd_right _ _)
          . exact h2 x hx
      exact Int.ofNat_dvd_left.mpr ((key f 0).2 _ hy)
    obtain ⟨q, hq⟩ := hd
    rw [hq, Int.mul_fdiv_cancel_left _ z, Int.natAbs_mul]
    exact Nat.le_mul_of_pos_left _ (by omega)
theorem aZD {f g : List Int} {a b : Nat} (hl : lastI g ≠ 0) (ha : BB a f) (hb : BB b g) : BB (a + (f.length + 1 - g.length) * (b + 1)) (restF f g) := aTY (aVE hl hb f.length a f rfl ha).trim
theorem aQH {X : Cx} {c : Expr} {body : List Stmt} (g : List Int) (R : List Int -> List Int -> Rho) {b : Nat} (hl : lastI g ≠ 0) (hb : BB b g) (h1 : ∀ q r, r.length < 200 -> EvT X (R q r) c (decide (g.length <= r.length)))
    (h2 : ∀ q r e, q.length + r.length < 200 -> g.length <= r.length -> r ≠ [] -> BB e r -> BB e q -> e + (2 * b + 1) + b <= 1000000 -> EvSs X (R q r) body (.nx (R (dnF g (lastI r) :: q.map fun x => upF g (lastI r) * x) (stepPL g r)))) :
    ∀ (n : Nat) (q r : List Int) (e : Nat), r.length = n -> q.length + r.length < 200 -> BB e r -> BB e q -> e + (n + 1 - g.length) * (2 * b + 1) + b <= 1000000 -> ∃ m, WRun X c body m (R q r) (.nx (R (quoL g n q r) (divL g n r)))
  | 0, q, r, e, hr, hq, _, _, _ => ⟨0, .stop (EvT.eq (h1 q r (by omega)) (decide_eq_false (by have := List.length_pos_iff.mpr (qP hl); omega)))⟩
  | n + 1, q, r, e, hr, hq, er, eq, eb => by
    unfold quoL divL
    by_cases h : n + 1 < g.length
    . rw [if_pos h, if_pos h]
      exact ⟨0, .stop (EvT.eq (h1 q r (by omega)) (decide_eq_false (by omega)))⟩
    . rw [if_neg h, if_neg h]
      rw [show n + 1 + 1 - g.length = (n + 1 - g.length) + 1 by omega, Nat.succ_mul] at eb
      generalize hk : (n + 1 - g.length) * (2 * b + 1) = kk at eb
      have er' : BB (e + (2 * b + 1)) (stepPL g r) := (aKZ hl hr (by omega) hb er).mono (by omega)
      obtain ⟨u1, u2⟩ := aNM hl (lastI r)
      have eq' : BB (e + (2 * b + 1)) (dnF g (lastI r) :: q.map fun x => upF g (lastI r) * x) := by
        intro x hx
        rcases List.mem_cons.mp hx with rfl | hx
        . exact Nat.lt_of_le_of_lt u2 (Nat.lt_of_lt_of_le er.last (Nat.pow_le_pow_right (by decide) (by omega)))
        . obtain ⟨y, hy, rfl⟩ := List.mem_map.mp hx
          exact Nat.lt_of_lt_of_le (yM (Nat.lt_of_le_of_lt u1 hb.last) (eq y hy)) (Nat.pow_le_pow_right (by decide) (by omega))
      obtain ⟨m, w⟩ := aQH g R hl hb h1 h2 n (dnF g (lastI r) :: q.map fun x => upF g (lastI r) * x) (stepPL g r) (e + (2 * b + 1)) (by rw [vX]; omega) (by rw [vX, List.length_cons, List.length_map]; omega) er' eq' (by rw [hk]; omega)
      exact ⟨m + 1, .step (EvT.eq (h1 q r (by omega)) (decide_eq_true (by omega))) (h2 q r e hq (by omega) (fun z => by subst z; simp at hr) er eq (by omega)) w⟩
section
variable {P : Program} {w : World} {K : PySem.W.Frag} {mg : Str -> Option Value} {base : Heap} {k : Nat} {X : Cx}
theorem aVU (h : DefX P w K mg base k N_sign_of (defScope wD) X) :
    ∀ ds d, aDL ds d -> EvSs X (ds.map Sl.val ++ List.replicate (N_sign_of.length - ds.length) Sl.un) (defBody wD) (.rt d) := by
  rintro ds d ⟨a, rfl, rfl⟩
  have t := h.at'
  show EvSs X [.val (.int a)] _ _
  refine yG (zI (EvE.eq (eAH (eDI (yA t 0 rfl) yC) (eEC (yA t 0 rfl) yC)) ?_))
  rcases Int.lt_trichotomy a 0 with z | z | z
  . rw [decide_eq_true z, decide_eq_false (by omega), Int.sign_eq_neg_one_of_neg z]; rfl
  . subst z; rfl
  . rw [decide_eq_false (show ¬ a < 0 by omega), decide_eq_true z, Int.sign_eq_one_of_pos z]; rfl
theorem aOQ (h : DefX P w K mg base k N_step_down (defScope jB) X) (m_abs : mg "abs" = none) (cG : Callee X "common_divisor" qA) (cS : Callee X "sign_of" aDL) :
    ∀ ds d, aAW ds d -> EvSs X (ds.map Sl.val ++ List.replicate (N_step_down.length - ds.length) Sl.un) (defBody jB) (.rt d) := by
  rintro ds d ⟨r, g, rfl, hr, hl, rfl⟩
  have t := h.at'
  haveI := h.fnT
  have b1 : Blt X (defScope jB) "abs" (.builtin "abs") := yN (by rw [h.mg']; exact m_abs)
  have hg := qP hl
  have hh : 0 < Nat.gcd (lastI r).natAbs (lastI g).natAbs := Nat.gcd_pos_of_pos_right _ (by omega)
  show EvSs X [.val (intsD r), .val (rowD g), .un] _ _
  refine yD (zK t 2 (yF t cG (yB (yU (EvE.ql (yA t 0 rfl)) (jH yC) (qF hr)) (yB (yU (EvE.qt (yA t 1 rfl)) (jH yC) (qF hg)) yE)) ⟨_, _, rfl, rfl⟩)) ?_
  refine yG (zI (zC (yB (aQC t (aIF t b1 (yU (EvE.qt (yA t 1 rfl)) (jH yC) (qF hg))) (yA t 2 rfl) (by omega)) (yB (aQC t (yY (yF t cS (yB (yU (EvE.qt (yA t 1 rfl)) (jH yC) (qF hg)) yE) ⟨_, rfl, rfl⟩) (yU (EvE.ql (yA t 0 rfl)) (jH yC) (qF hr)) ?_) (yA t 2 rfl) (by omega)) yE))))
  have : (lastI g).sign = -1 \/ (lastI g).sign = 0 \/ (lastI g).sign = 1 := by
    rcases Int.lt_trichotomy (lastI g) 0 with z | z | z
    . left; exact Int.sign_eq_neg_one_of_neg z
    . right; left; rw [z]; rfl
    . right; right; exact Int.sign_eq_one_of_pos z
  exact qO (by omega) (by omega)
theorem aVX (h : DefX P w K mg base k N_divided (defScope qU) X) (m_list : mg "list" = none) (m_len : mg "len" = none) (m_enumerate : mg "enumerate" = none) (cS : Callee X "step_down" aAW) (cR : Callee X "row_of" aAY) :
    ∀ ds d, aDN ds d -> EvSs X (ds.map Sl.val ++ List.replicate (N_divided.length - ds.length) Sl.un) (defBody qU) (.rt d) := by
  rintro ds d ⟨f, g, rfl, ⟨hf, hgl, hl, a, b, ha, hb, hab⟩, rfl⟩
  have t := h.at'
  haveI := h.fnT
  have b1 : Blt X (defScope qU) "enumerate" (.type "enumerate") := yN (by rw [h.mg']; exact m_enumerate) rfl (by decide +kernel)
  have b2 : Blt X (defScope qU) "len" (.builtin "len") := yN (by rw [h.mg']; exact m_len)
  have b3 : Blt X (defScope qU) "list" (.type "list") := yN (by rw [h.mg']; exact m_list)
  have hg := qP hl
  show EvSs X [.val (rowD f), .val (rowD g), .un, .un, .un, .un, .un, .un, .un] _ _
  refine yD (aAE (aGO t (EvE.p (yA t 1 rfl)) (EvE.p (d := rowD []) (zC yE)) (yI _) (yI _) (by rw [jS, decide_eq_false hg])) jK) ?_
  refine yD (aLO t 2 3 (EvN.toE (vH yE)) (EvN.toE (aCI t b3 (EvE.qt (yA t 0 rfl)))) (by decide)) ?_
  refine yD (ρ' := [.val (rowD f), .val (rowD g), .val (intsD (quoL g f.length [] f)), .val (intsD (divL g f.length f)), .un, .un, .un, .un, .un]) (jY t (aQH g (b := b) (hl := hl) (hb := hb) (fun q r => [.val (rowD f), .val (rowD g), .val (intsD q), .val (intsD r), .un, .un, .un, .un, .un]) (fun q r hr => ?_) (fun q r e hq hr hne er eq ee => ?_) f.length [] f a rfl (by simpa using hf) ha (fun x hx => by cases hx) hab)) ?_
  . refine EvT.eq (aRN (yT t b2 (EvE.ql (yA t 3 rfl))) (yT t b2 (EvE.qt (yA t 1 rfl)))) ?_
    rw [List.length_map, List.length_map]
    by_cases z : g.length <= r.length
    . rw [decide_eq_true z, decide_eq_true (by omega)]
    . rw [decide_eq_false z, decide_eq_false (by omega)]
  . obtain ⟨us0, ds0⟩ := aNM hl (lastI r)
    have us := Nat.lt_of_le_of_lt us0 hb.last
    have dsm := Nat.lt_of_le_of_lt ds0 er.last
    generalize hu : upF g (lastI r) = u at us
    generalize hd : dnF g (lastI r) = dn at dsm
    refine EvSs.weak (ρ1 := [.val (rowD f), .val (rowD g), .val (intsD (dn :: q.map fun x => u * x)), .val (intsD (stepPL g r)), .val (.int u), .val (.int dn), .val (.int ((r.length - g.length : Nat) : Int)), .un, .un]) ?_ (.keep (.keep (.keep (.keep (.forget (.forget (.forget (.keep (.keep .nil)))))))))
    refine yD (aHC t (d := .tup [.int u, .int dn]) (yF t cS (yB (yA t 3 rfl) (yB (yA t 1 rfl) yE)) ⟨r, g, rfl, hne, hl, by rw [hu, hd]⟩) (aGQ t (zY (yS t 4) (zY (yS t 5) aCJ)))) ?_
    refine yD (zK t 6 (EvE.eq (qE (yT t b2 (EvE.ql (yA t 3 rfl))) (yT t b2 (EvE.qt (yA t 1 rfl)))) (show _ = D.int ((r.length - g.length : Nat) : Int) by rw [List.length_map, List.length_map]; congr 1; omega))) ?_
    refine yD (aBH (rs := (r.map fun x => u * x).map D.int) t 3 ["f", "g", "quotient", "rest", "up", "down", "shift", "power", "", "number"] (csc (by decide +kernel)) (aBL (yA t 3 rfl)) (by rw [List.length_map]; exact small (by omega)) fun X' cx => ?_) ?_
    . have t' := cx.at'
      exact CRun.ints (fun x => u * x) (fun x => [.val (rowD f), .val (rowD g), .val (intsD q), .val (intsD r), .val (.int u), .val (.int dn), .val (.int ((r.length - g.length : Nat) : Int)), .un, .un, .val (.int x)]) (fun d hd => yK t' 9) (fun d hd e he => yK t' 9) fun d hd =>
        yY (yA t' 4 rfl) (yA t' 9 rfl) (mulB us (er d hd) (by omega) (by omega))
    refine yD (ρ' := [.val (rowD f), .val (rowD g), .val (intsD q), .own ((subGo g (r.length - g.length) dn (r.map fun x => u * x) g.length).map D.int), .val (.int u), .val (.int dn), .val (.int ((r.length - g.length : Nat) : Int)), .un, .un]) (aAP t (eAO t b1 (yA t 1 rfl)) (FRun.uptoE (fun i => [.val (rowD f), .val (rowD g), .val (intsD q), .own ((subGo g (r.length - g.length) dn (r.map fun x => u * x) i).map D.int), .val (.int u), .val (.int dn), .val (.int ((r.length - g.length : Nat) : Int)), .un, .un]) (fun i d hi => ?_) rfl ?_)) ?_
    . obtain ⟨e', he, rfl⟩ := aMQ hi
      rw [List.getElem?_map] at he
      cases hy : g[i]? with
      | none => rw [hy] at he; cases he
      | some y =>
      rw [hy] at he; cases he
      have hi' : i < g.length := (List.getElem?_eq_some_iff.mp hy).1
      have ey : g.getD i 0 = y := by rw [List.getD_eq_getElem?_getD, hy]; rfl
      have hyb := hb y (List.mem_of_getElem? hy)
      have hlen : (subGo g (r.length - g.length) dn (r.map fun x => u * x) i).length = r.length := by rw [qT, List.length_map]
      have hlt : r.length - g.length + i < (subGo g (r.length - g.length) dn (r.map fun x => u * x) i).length := by omega
      refine ⟨_, eAP t 7 8, EvSs.weak (yG (aLP (j := r.length - g.length + i) (u := (subGo g (r.length - g.length) dn (r.map fun x => u * x) i).getD (r.length - g.length + i) 0) t 3 aKC rfl (yW (yA t 6 rfl) (yA t 7 rfl)) ?_ ?_ (yY (yA t 5 rfl) (yA t 8 rfl) (mulB dsm hyb (by omega) (by omega))) trivial)) ?_⟩
      . rw [List.length_map]; exact aGI (by omega) (by omega) (by omega)
      . rw [List.getElem?_map, List.getD_eq_getElem?_getD, List.getElem?_eq_getElem hlt]; rfl
      . rw [subGo, List.map_set, ey]
        exact .keep (.keep (.keep (.keep (.keep (.keep (.keep (.forget (.forget .nil))))))))
    . rw [aMP, List.length_map]
    refine yD (ρ' := [.val (rowD f), .val (rowD g), .val (intsD q), .own ((stepPL g r).map D.int), .val (.int u), .val (.int dn), .val (.int ((r.length - g.length : Nat) : Int)), .un, .un]) (EvS.eq (aYX t 3 rfl (fun z => hne (List.eq_nil_of_length_eq_zero (by have := congrArg List.length z; rw [List.length_map, qT, List.length_map] at this; exact this)))) ?_) ?_
    . unfold stepPL
      rw [List.map_dropLast, hu, hd]; rfl
    refine yD (zK t 2 (EvE.eq (EvN.toE (aQG (EvN.toE (vH (yB (yA t 5 rfl) yE))) (EvE.eq (d' := intsD (q.map fun x => u * x)) (EvN.toE (vC t ["f", "g", "quotient", "rest", "up", "down", "shift", "power", "", "number"] (csc (by decide +kernel)) (aBL (yA t 2 rfl)) (by rw [List.length_map]; exact small (by omega)) fun X' cx => ?_)) rfl) ?_)) (show _ = intsD (dn :: q.map fun x => u * x) from rfl))) (qW 3 rfl jK)
    . have t' := cx.at'
      exact CRun.ints (fun x => u * x) (fun x => [.val (rowD f), .val (rowD g), .val (intsD q), .own ((stepPL g r).map D.int), .val (.int u), .val (.int dn), .val (.int ((r.length - g.length : Nat) : Int)), .un, .un, .val (.int x)]) (fun d hd => yK t' 9) (fun d hd e he => yK t' 9) fun d hd =>
        yY (yA t' 4 rfl) (yA t' 9 rfl) (mulB us (eq d hd) (by omega) (by omega))
    . have := lineN
      rw [List.length_map, List.length_map]
      show 1 + q.length <= _
      omega
  . have l1 := aPR g f.length [] f
    have l2 := aKI g f.length f rfl
    exact yG (zI (zC (yB (yF t cR (yB (yA t 2 rfl) yE) ⟨quoL g f.length [] f, rfl, by simp at l1; omega, rfl⟩) (yB (yF t cR (yB (yA t 3 rfl) yE) ⟨divL g f.length f, rfl, by omega, rfl⟩) yE))))
theorem aRS {C : Addr} (h : DefX P w K mg base k N_divided (defScope qU) X) (O : OwnCls "NoRow" C vB vN mg base) :
    ∀ ds, aDK ds -> ∃ ρ', XvSs X true (ds.map Sl.val ++ List.replicate (N_divided.length - ds.length) Sl.un) (defBody qU) C ρ' := by
  rintro ds ⟨f, rfl⟩
  have t := h.at'
  have O' : OwnCls "NoRow" C vB vN X.mg X.base := by rw [h.mg', h.base']; exact O
  exact ⟨_, aDO (eBD t (aGO t (EvE.p (d := rowD []) (yA t 1 rfl)) (EvE.p (d := rowD []) (zC yE)) (yI _) (yI _) (by rw [jS]; rfl)) (aDO (aRV t O' aYI)))⟩
theorem aVV (h : DefX P w K mg base k N_rest_of (defScope jZ) X) (cL : Callee X "put_low" aAL) (cD : Callee X "divided" aDN) :
    ∀ ds d, aDM ds d -> EvSs X (ds.map Sl.val ++ List.replicate (N_rest_of.length - ds.length) Sl.un) (defBody jZ) (.rt d) := by
  rintro ds d ⟨f, g, rfl, hok, rfl⟩
  have t := h.at'
  have l2 := aKI g f.length f rfl
  have l3 := qY (divL g f.length f)
  have l4 := hok.1
  show EvSs X [.val (rowD f), .val (rowD g)] _ _
  exact yG (zI (yF t cL (yB (yU (d := rowD (trimI (divL g f.length f))) (EvE.qt (yF t cD (yB (yA t 0 rfl) (yB (yA t 1 rfl) yE)) ⟨f, g, rfl, hok, rfl⟩)) yC rfl) yE) ⟨trimI (divL g f.length f), rfl, by omega, aAJ (trimOk _), rfl⟩))
theorem aRR {C : Addr} (h : DefX P w K mg base k N_rest_of (defScope jZ) X) (cL : Callee X "put_low" aAL) (cX : CalleeX X "divided" C aDK) :
    ∀ ds, aGX ds -> ∃ ρ', XvSs X true (ds.map Sl.val ++ List.replicate (N_rest_of.length - ds.length) Sl.un) (defBody jZ) C ρ' := by
  rintro ds ⟨f, rfl⟩
  have t := h.at'
  exact ⟨[.val (rowD f), .val (rowD [])], aDO (eDQ (eDR t cL (aYT (x_ix (aXP t cX (yB (yA t 0 rfl) (yB (yA t 1 rfl) yE)) ⟨f, rfl⟩)))))⟩
end
end My
namespace My
open PySem L2 L2.EV PyProof.Rows
def aBA (ds : List D) (d : D) : Prop := ∃ f g : List Int, ds = [rowD f, rowD g] /\ DivOk f g /\ d = rowD (trimI (leftL g f.length f))
theorem aJX : ∀ ds d, aBA ds d -> ds.length = 2 := by rintro _ _ ⟨a, b, rfl, _⟩; rfl
def jO (ds : List D) (d : D) : Prop := ∃ f : List Int, ds = [rowD f] /\ RowOk f /\ f.length < 1000 /\ d = rowD (lowB f)
theorem aEN : ∀ ds d, jO ds d -> ds.length = 1 := by rintro _ _ ⟨a, rfl, _⟩; rfl
theorem aMI {X : Cx} {c : Expr} {body : List Stmt} (g : List Int) (R : List Int -> Rho) {b : Nat} (hl : lastI g ≠ 0) (hb : BB b g) (h1 : ∀ r, r.length < 200 -> EvT X (R r) c (decide (g.length <= r.length)))
    (h2 : ∀ ys a e, ys.length < 200 -> g.length <= ys.length + 1 -> BB e (ys ++ [a]) -> e + (2 * b + 1) + b <= 1000000 -> EvSs X (R (ys ++ [a])) body (.nx (R (stepLL g (ys ++ [a]))))) :
    ∀ (n : Nat) (r : List Int) (e : Nat), r.length = n -> r.length < 200 -> BB e r -> e + (n + 1 - g.length) * (2 * b + 1) + b <= 1000000 -> ∃ m, WRun X c body m (R r) (.nx (R (leftL g n r)))
  | 0, r, e, hr, hq, _, _ => ⟨0, .stop (EvT.eq (h1 r (by omega)) (decide_eq_false (by have := List.length_pos_iff.mpr (qP hl); omega)))⟩
  | n + 1, r, e, hr, hq, er, eb => by
    unfold leftL
    by_cases h : n + 1 < g.length
    . rw [if_pos h]
      exact ⟨0, .stop (EvT.eq (h1 r (by omega)) (decide_eq_false (by omega)))⟩
    . rw [if_neg h]
      rw [show n + 1 + 1 - g.length = (n + 1 - g.length) + 1 by omega, Nat.succ_mul] at eb
      generalize hk : (n + 1 - g.length) * (2 * b + 1) = kk at eb
      obtain ⟨m, w⟩ := aMI g R hl hb h1 h2 n (stepLL g r) (e + (2 * b + 1)) (by rw [vI]; omega) (by rw [vI]; omega) (aLA hl hr (by omega) hb er) (by rw [hk]; omega)
      refine ⟨m + 1, .step (EvT.eq (h1 r (by omega)) (decide_eq_true (by omega))) ?_ w⟩
      rcases List.eq_nil_or_concat r with e' | ⟨ys, a, e'⟩
      . subst e'; simp at hr
      . rw [List.concat_eq_append] at e'
        subst e'
        have hl : ys.length + 1 = n + 1 := by simpa using hr
        exact h2 ys a e (by omega) (by omega) er (by omega)
theorem vR {f : List Int} (h : RowOk f) : RowOk (slopeL f) := by
  rcases h with e | ⟨ys, a, e, ha⟩
  . subst e; exact .inl rfl
  . subst e
    rcases Nat.eq_zero_or_pos ys.length with z | z
    . have : ys = [] := List.eq_nil_of_length_eq_zero z
      subst this; exact .inl rfl
    . right
      obtain ⟨n, hn⟩ : ∃ n, ys.length = n + 1 := ⟨ys.length - 1, by omega⟩
      refine ⟨(List.range n).map fun (i : Nat) => (1 + (i : Int)) * (ys ++ [a]).getD (1 + i) 0, (1 + (n : Int)) * a, ?_, Int.mul_ne_zero (by omega) ha⟩
      unfold slopeL
      rw [show (ys ++ [a]).length - 1 = n + 1 by simp [hn], List.range_succ, List.map_append]
      congr 1
      show [(1 + (n : Int)) * (ys ++ [a]).getD (1 + n) 0] = _
      rw [show 1 + n = ys.length by omega, List.getD_eq_getElem?_getD, List.getElem?_append_right (Nat.le_refl _), Nat.sub_self]; rfl
theorem aLB (f : List Int) : (slopeL f).length = f.length - 1 := by unfold slopeL; rw [List.length_map, List.length_range]
theorem timesOk (f g : List Int) : RowOk (timesL f g) := trimOk _
section
variable {P : Program} {w : World} {K : PySem.W.Frag} {mg : Str -> Option Value} {base : Heap} {k : Nat} {X : Cx}
theorem aOV (h : DefX P w K mg base k N__law_left (defScope qI) X) (m_list : mg "list" = none) (m_len : mg "len" = none) (m_range : mg "range" = none) (cT : Callee X "_law_trim" jU) :
    ∀ ds d, aBA ds d -> EvSs X (ds.map Sl.val ++ List.replicate (N__law_left.length - ds.length) Sl.un) (defBody qI) (.rt d) := by
  rintro ds d ⟨f, g, rfl, ⟨hf, hgl, hl, a0, b, ha, hb, hab⟩, rfl⟩
  have t := h.at'
  haveI := h.fnT
  have b1 : Blt X (defScope qI) "range" (.type "range") := yN (by rw [h.mg']; exact m_range)
  have b2 : Blt X (defScope qI) "len" (.builtin "len") := yN (by rw [h.mg']; exact m_len)
  have b3 : Blt X (defScope qI) "list" (.type "list") := yN (by rw [h.mg']; exact m_list)
  have hg := qP hl
  have hgp := List.length_pos_iff.mpr hg
  have hls := hb.last
  generalize hla : lastI g = la at hls
  show EvSs X [.val (rowD f), .val (rowD g), .un, .un, .un, .un, .un] _ _
  refine yD (zK t 2 (d := .int la) (yU (EvE.qt (yA t 1 rfl)) (qE (yT t b2 (EvE.qt (yA t 1 rfl))) yC) (by rw [aBM hg, hla]))) ?_
  refine yD (aFR t 3 (aCI t b3 (EvE.qt (yA t 0 rfl)))) ?_
  refine yD (ρ' := [.val (rowD f), .val (rowD g), .val (.int la), .own ((leftL g f.length f).map D.int), .un, .un, .un]) (jY t (aMI g (b := b) (hl := hl) (hb := hb) (fun r => [.val (rowD f), .val (rowD g), .val (.int la), .own (r.map D.int), .un, .un, .un]) (fun r hr => ?_) (fun ys a e hy hgy er ee => ?_) f.length f a0 rfl hf ha hab)) ?_
  . refine EvT.eq (aRN (yT t b2 (jN t 3 rfl)) (yT t b2 (EvE.qt (yA t 1 rfl)))) ?_
    rw [List.length_map, List.length_map]
    by_cases z : g.length <= r.length
    . rw [decide_eq_true z, decide_eq_true (by omega)]
    . rw [decide_eq_false z, decide_eq_false (by omega)]
  . have e1 : lastI (ys ++ [a]) = a := by simp [lastI]
    have e2 : (ys ++ [a]).dropLast = ys := List.dropLast_concat
    have e3 : (ys ++ [a]).length - g.length = ys.length + 1 - g.length := by simp
    have st : stepLL g (ys ++ [a]) = subGo g (ys.length + 1 - g.length) (a * la) (ys.map fun x => x * la * la) (g.length - 1) := by unfold stepLL; rw [e1, e2, e3, hla]
    rw [st]
    generalize hsh : ys.length + 1 - g.length = s0
    refine EvSs.weak (ρ1 := [.val (rowD f), .val (rowD g), .val (.int la), .own ((subGo g s0 (a * la) (ys.map fun x => x * la * la) (g.length - 1)).map D.int), .val (.int a), .val (.int (s0 : Int)), .un]) ?_ (.keep (.keep (.keep (.keep (.forget (.forget (.keep .nil)))))))
    refine yD (ρ' := [.val (rowD f), .val (rowD g), .val (.int la), .own (ys.map D.int), .val (.int a), .un, .un]) (aPL (xs := ys.map D.int) (d := .int a) t 3 4 (by rw [List.map_append]; rfl) (by decide)) ?_
    refine yD (zK t 5 (EvE.eq (yW (qE (yT t b2 (jN t 3 rfl)) (yT t b2 (EvE.qt (yA t 1 rfl)))) yC) (show _ = D.int (s0 : Int) by rw [List.length_map, List.length_map]; congr 1; omega))) ?_
    refine qW 3 rfl ?_
    refine yD (aBH (rs := (ys.map fun x => x * la * la).map D.int) t 3 ["_law_f", "_law_g", "_law_last", "_law_some", "_law_top", "_law_start", "_law_k", "_law_x"] (csc (by decide +kernel)) (aBL (yA t 3 rfl)) (by rw [List.length_map]; exact small (by omega)) fun X' cx => ?_) ?_
    . have t' := cx.at'
      exact CRun.ints (fun x => x * la * la) (fun x => [.val (rowD f), .val (rowD g), .val (.int la), .val (intsD ys), .val (.int a), .val (.int (s0 : Int)), .un, .val (.int x)]) (fun d hd => yK t' 7) (fun d hd e he => yK t' 7) fun d hd =>
        yY (yY (yA t' 7 rfl) (yA t' 2 rfl) (mulB (er d (List.mem_append_left _ hd)) hls (by omega) (by omega))) (yA t' 2 rfl) (mulB (yM (er d (List.mem_append_left _ hd)) hls) hls (by omega) (by omega))
    refine yG (aAP t (qX t b1 (qE (yT t b2 (EvE.qt (yA t 1 rfl))) yC) (by omega) (by rw [List.length_map]; omega)) (FRun.uptoE (fun i => [.val (rowD f), .val (rowD g), .val (.int la), .own ((subGo g s0 (a * la) (ys.map fun x => x * la * la) i).map D.int), .val (.int a), .val (.int (s0 : Int)), .un]) (fun i d hi => ?_) rfl ?_))
    . obtain ⟨hin, rfl⟩ := qV hi
      have hi' : i < g.length - 1 := by rw [List.length_map] at hin; omega
      have hlen : (subGo g s0 (a * la) (ys.map fun x => x * la * la) i).length = ys.length := by rw [qT, List.length_map]
      have hyb := hb.get i
      have ea := er a (by simp)
      have e1 : ((s0 : Int) + (i : Int)) = ((s0 + i : Nat) : Int) := by omega
      refine ⟨_, yS t 6, EvSs.weak (yG (aHC t (qE (i := (subGo g s0 (a * la) (ys.map fun x => x * la * la) i).getD (s0 + i) 0) (yU (jN t 3 rfl) (yW (yA t 5 rfl) (yA t 6 rfl)) ?_) (yY (i := a * la) (j := g.getD i 0) (yY (yA t 4 rfl) (yA t 2 rfl) (mulB ea hls (by omega) (by omega))) (yU (EvE.qt (yA t 1 rfl)) (yA t 6 rfl) (zN (by omega))) (mulB (yM ea hls) hyb (by omega) (by omega)))) (aGR (j := s0 + i) t 3 rfl (yW (yA t 5 rfl) (yA t 6 rfl)) ?_))) ?_⟩
      . rw [e1]; exact zN (by omega)
      . rw [List.length_map]; exact aGI (by omega) (by omega) (by omega)
      . rw [subGo, List.map_set]
        exact .keep (.keep (.keep (.keep (.keep (.keep (.forget .nil))))))
    . have e : (rangeD 0 (((g.map D.int).length : Int) - 1).toNat).length = g.length - 1 := by simp [rangeD]
      rw [e]
  . have l2 := aGH g f.length f rfl
    exact qW 3 rfl (yG (zI (yF t cT (yB (yA t 3 rfl) yE) ⟨leftL g f.length f, rfl, by omega, rfl⟩)))
theorem aHN (h : DefX P w K mg base k N__law_put_low (defScope zG) X) (m_tuple : mg "tuple" = none) (m_abs : mg "abs" = none) (m_max : mg "max" = none) :
    ∀ ds d, jO ds d -> EvSs X (ds.map Sl.val ++ List.replicate (N__law_put_low.length - ds.length) Sl.un) (defBody zG) (.rt d) := by
  rintro ds d ⟨f, rfl, hok, hf, rfl⟩
  have t := h.at'
  haveI := h.fnT
  have b1 : Blt X (defScope zG) "abs" (.builtin "abs") := yN (by rw [h.mg']; exact m_abs)
  have b2 : Blt X (defScope zG) "tuple" (.type "tuple") := yN (by rw [h.mg']; exact m_tuple)
  show EvSs X [.val (rowD f), .un, .un] _ _
  refine yD (zK t 1 yC) ?_
  refine yD (ρ' := [.val (rowD f), .val (.int (gl f : Int)), .un]) (aAP t (aBZ (yA t 0 rfl)) (FRun.uptoE (fun i => [.val (rowD f), .val (.int (gl (f.take i) : Int)), .un]) (fun j d hj => ?_) rfl ?_)) ?_
  . rw [List.getElem?_map] at hj
    cases e : f[j]? with
    | none => rw [e] at hj; cases hj
    | some x =>
      rw [e] at hj; cases hj
      refine ⟨_, yS t 2, EvSs.weak (yD (zK t 2 (aIF t b1 (yA t 2 rfl))) (yG (jY t (aKF (fun a b => [.val (rowD f), .val (.int (a : Int)), .val (.int (b : Int))]) (fun a b => ?_) (fun a b hb => ?_) _ (gl (f.take j)) x.natAbs (Nat.le_refl _))))) ?_⟩
      . refine EvT.eq (aOG (yA t 2 rfl) yC) ?_
        by_cases hb : 0 < b
        . rw [decide_eq_true hb]; exact decide_eq_true (by omega)
        . rw [decide_eq_false hb]; exact decide_eq_false (by omega)
      . exact yG (aHC t (zC (yB (yA t 2 rfl) (yB (EvE.eq (yO (i := (a : Int)) (j := (b : Int)) (yA t 1 rfl) (yA t 2 rfl) (by omega)) rfl) yE))) (aGQ t (zY (yS t 1) (zY (yS t 2) aCJ))))
      . rw [aCN e, aKE]
        exact .keep (.keep (.forget .nil))
  . rw [List.length_map, List.take_length]
  refine yG (zI (EvE.eq (vS t b2 (EvN.toQ (vC (rs := (f.map fun x => x.fdiv (max 1 (gl f : Int))).map D.int) t ["_law_row_here", "_law_part", "", "_law_x"] (csc (by decide +kernel)) (aBZ (yA t 0 rfl)) (by rw [List.length_map]; exact small hf) fun X' cx => ?_))) (by rw [eDM hok])))
  have t' := cx.at'
  exact CRun.ints (fun x => x.fdiv (max 1 (gl f : Int))) (fun x => [.val (rowD f), .val (.int (gl f : Int)), .un, .val (.int x)]) (fun d hd => yK t' 3) (fun d hd e he => yK t' 3) fun d hd =>
    aQC t' (yA t' 3 rfl) (eAJ t' (yN (by rw [cx.mg', h.mg']; exact m_max)) yC (yA t' 1 rfl)) (by omega)
end
end My
namespace My
def pAB : Nat -> Int × Int
  | 0 => (1, 0)
  | n + 1 => (2 * (pAB n).1 + 3 * (pAB n).2, (pAB n).1 + 2 * (pAB n).2)
abbrev pA (n : Nat) : Int := (pAB n).1
abbrev pB (n : Nat) : Int := (pAB n).2
theorem aNV (n : Nat) : pA (n + 1) = 2 * pA n + 3 * pB n := rfl
theorem aNU (n : Nat) : pB (n + 1) = pA n + 2 * pB n := rfl
theorem aGB (m : Nat) : ∀ n, pA (m + n) = pA m * pA n + 3 * (pB m * pB n) /\ pB (m + n) = pA m * pB n + pB m * pA n
  | 0 => by
    have e1 : pA 0 = 1 := rfl
    have e2 : pB 0 = 0 := rfl
    rw [Nat.add_zero, e1, e2]; constructor <;> grind
  | n + 1 => by
    obtain ⟨h1, h2⟩ := aGB m n
    rw [<- Nat.add_assoc, aNV, aNU, aNV, aNU, h1, h2]
    constructor <;> grind
theorem aJM : ∀ n, pA n * pA n - 3 * (pB n * pB n) = 1
  | 0 => rfl
  | n + 1 => by
    have h := aJM n
    rw [aNV, aNU]; grind
def PIs (q : Int) (n : Nat) (e : Int) : Prop := q ∣ pA n - e /\ q ∣ pB n
theorem PIs.add {q : Int} {m n : Nat} {e d : Int} (h : PIs q m e) (g : PIs q n d) : PIs q (m + n) (e * d) := by
  obtain ⟨⟨a, ha⟩, ⟨b, hb⟩⟩ := h
  obtain ⟨⟨c, hc⟩, ⟨f, hf⟩⟩ := g
  obtain ⟨h1, h2⟩ := aGB m n
  have ea : pA m = e + q * a := by omega
  have ec : pA n = d + q * c := by omega
  unfold PIs
  rw [h1, h2, ea, ec, hb, hf]
  exact ⟨⟨e * c + a * d + q * a * c + 3 * (q * b * f), by grind⟩, ⟨(e + q * a) * f + b * (d + q * c), by grind⟩⟩
theorem PIs.zero (q : Int) : PIs q 0 1 := ⟨⟨0, by show (1 : Int) - 1 = q * 0; omega⟩, ⟨0, by show (0 : Int) = q * 0; omega⟩⟩
theorem PIs.mul {q : Int} {n : Nat} (h : PIs q n 1) : ∀ t, PIs q (n * t) 1
  | 0 => PIs.zero q
  | t + 1 => by
    have := (PIs.mul h t).add h
    rw [Nat.mul_succ]; exact this
def llGo (M : Nat) (n : Nat) : Nat -> Nat := Nat.rec (motive := fun _ => Nat -> Nat) (fun s => s) (fun _ ih s => Nat.rec (motive := fun _ => Nat) (ih 0) (fun k _ => ih (k + 1)) ((s * s + (M - 2)) % M)) n
theorem aUE (M n s : Nat) : llGo M (n + 1) s = llGo M n ((s * s + (M - 2)) % M) := by
  show Nat.rec (motive := fun _ => Nat) (llGo M n 0) (fun k _ => llGo M n (k + 1)) ((s * s + (M - 2)) % M) = _
  cases (s * s + (M - 2)) % M <;> rfl
theorem aUD {M : Nat} (hM : 2 <= M) : ∀ (n k s : Nat), (M : Int) ∣ 2 * pA (2 ^ k) - (s : Int) -> (M : Int) ∣ 2 * pA (2 ^ (k + n)) - (llGo M n s : Int)
  | 0, k, s, h => h
  | n + 1, k, s, h => by
    rw [aUE]
    have key : (M : Int) ∣ 2 * pA (2 ^ (k + 1)) - (((s * s + (M - 2)) % M : Nat) : Int) := by
      obtain ⟨u, hu⟩ := h
      have e1 : (2 : Nat) ^ (k + 1) = 2 ^ k + 2 ^ k := by rw [Nat.pow_succ]; omega
      have e2 := (aGB (2 ^ k) (2 ^ k)).1
      have e3 := aJM (2 ^ k)
      rw [e1, e2]
      generalize pA (2 ^ k) = A at *
      generalize pB (2 ^ k) = B at *
      have e4 := Nat.div_add_mod (s * s + (M - 2)) M
      generalize (s * s + (M - 2)) % M = r at *
      generalize (s * s + (M - 2)) / M = w at *
      have e5 : ((M * w + r : Nat) : Int) = ((s * s + (M - 2) : Nat) : Int) := by rw [e4]
      have e6 : (M : Int) * w + r = s * s + (M : Int) - 2 := by
        rw [Int.natCast_add, Int.natCast_add, Int.natCast_mul, Int.natCast_mul, Int.natCast_sub hM] at e5
        omega
      exact ⟨2 * A * u + u * (s : Int) + w - 1, by grind⟩
    have := aUD hM n (k + 1) _ key
    rw [show k + (n + 1) = k + 1 + n by omega]; exact this
theorem few : ∀ (n m : Nat) (f : Nat -> Nat), (∀ i, i < m -> f i < n) -> (∀ i j, i < j -> j < m -> f i ≠ f j) -> m <= n
  | 0, m, f, h, _ => by
    rcases Nat.eq_zero_or_pos m with e | e
    . omega
    . have := h 0 e; omega
  | n + 1, 0, f, _, _ => Nat.zero_le _
  | n + 1, m + 1, f, h, inj => by
    have := few n m (fun i => if f i = n then f m else f i) (fun i hi => by
      have h1 := h i (by omega)
      have h2 := h m (by omega)
      have h3 := inj i m (by omega) (by omega)
      show (if f i = n then f m else f i) < n
      split <;> omega) (fun i j hij hj => by
      have h1 := inj i j hij (by omega)
      have h2 := inj i m (by omega) (by omega)
      have h3 := inj j m (by omega) (by omega)
      show (if f i = n then f m else f i) ≠ (if f j = n then f m else f j)
      split <;> split <;> omega)
    omega
theorem aWV : ∀ (n : Nat), 0 < n -> ∃ k m, n = 2 ^ k * (2 * m + 1) := by
  intro n
  induction n using Nat.strongRecOn with
  | ind n ih =>
    intro hn
    by_cases h : n % 2 = 1
    . exact ⟨0, n / 2, by omega⟩
    . obtain ⟨k, m, e⟩ := ih (n / 2) (by omega) (by omega)
      exact ⟨k + 1, m, by rw [Nat.pow_succ, Nat.mul_comm (2 ^ k) 2, Nat.mul_assoc, <- e]; omega⟩
theorem aLN {q x y : Int} (h : x % q = y % q) : q ∣ x - y := Int.dvd_of_emod_eq_zero (by rw [Int.sub_emod, h, Int.sub_self]; simp)
theorem aCZ {p : Nat} (hp : 3 <= p) (h : llGo (2 ^ p - 1) (p - 2) 4 = 0) : ∀ q : Nat, 1 < q -> q ∣ 2 ^ p - 1 -> ¬ q * q <= 2 ^ p - 1 := by
  intro q hq hd hle
  have hP : (8 : Nat) <= 2 ^ p := by
    have : (2 : Nat) ^ 3 <= 2 ^ p := Nat.pow_le_pow_right (by decide) hp
    exact this
  have hodd : q % 2 = 1 := by
    rcases (by omega : q % 2 = 1 \/ q % 2 = 0) with e | e
    . exact e
    . obtain ⟨c, hc⟩ := hd
      have h2 : 2 ^ p = 2 * 2 ^ (p - 1) := by rw [<- Nat.pow_succ']; congr 1; omega
      have h3 : q = 2 * (q / 2) := by omega
      rw [h3, Nat.mul_assoc] at hc
      omega
  have hs := aUD (M := 2 ^ p - 1) (by omega) (p - 2) 0 4 ⟨0, by rw [Int.mul_zero]; rfl⟩
  rw [h, Nat.zero_add] at hs
  have hdI : ((q : Nat) : Int) ∣ ((2 ^ p - 1 : Nat) : Int) := Int.ofNat_dvd.mpr hd
  have hA2 : (q : Int) ∣ 2 * pA (2 ^ (p - 2)) := by
    have := Int.dvd_trans hdI hs
    simpa using this
  have hm : PIs (q : Int) (2 ^ (p - 1)) (-1) := by
    have e1 : (2 : Nat) ^ (p - 1) = 2 ^ (p - 2) + 2 ^ (p - 2) := by
      rw [show p - 1 = (p - 2) + 1 by omega, Nat.pow_succ]; omega
    obtain ⟨h1, h2⟩ := aGB (2 ^ (p - 2)) (2 ^ (p - 2))
    have e3 := aJM (2 ^ (p - 2))
    obtain ⟨u, hu⟩ := hA2
    unfold PIs
    rw [e1, h1, h2]
    generalize pA (2 ^ (p - 2)) = A at *
    generalize pB (2 ^ (p - 2)) = B at *
    refine ⟨⟨A * u, by grind⟩, ⟨B * u, by grind⟩⟩
  have two : ¬ (q : Int) ∣ 2 := fun z => by
    obtain ⟨c, hc⟩ := z
    have : c = 1 \/ c = 2 \/ c <= 0 \/ 3 <= c := by omega
    have hq3 : 3 <= (q : Int) := by omega
    rcases Int.lt_or_le c 1 with l | l
    . have : (q : Int) * c <= 0 := Int.mul_nonpos_of_nonneg_of_nonpos (by omega) (by omega)
      omega
    . have : (q : Int) * 1 <= q * c := Int.mul_le_mul_of_nonneg_left l (by omega)
      omega
  have none : ∀ n, 0 < n -> n < 2 ^ p -> ¬ PIs (q : Int) n 1 := by
    intro n h0 hn h1
    obtain ⟨k, m, e⟩ := aWV n h0
    have hk : k < p := by
      rcases Nat.lt_or_ge k p with z | z
      . exact z
      . have a := Nat.pow_le_pow_right (show 0 < 2 by decide) z
        have b : 2 ^ k * 1 <= 2 ^ k * (2 * m + 1) := Nat.mul_le_mul_left _ (by omega)
        omega
    have g1 := h1.mul (2 ^ (p - 1 - k))
    have g2 : n * 2 ^ (p - 1 - k) = 2 ^ (p - 1) * 2 * m + 2 ^ (p - 1) := by
      have : 2 ^ k * 2 ^ (p - 1 - k) = 2 ^ (p - 1) := by rw [<- Nat.pow_add]; congr 1; omega
      rw [e, Nat.mul_comm (2 ^ k), Nat.mul_assoc, this]
      rw [Nat.add_mul, Nat.one_mul, Nat.mul_comm, Nat.mul_assoc]
    have g3 : PIs (q : Int) (2 ^ (p - 1) * 2) 1 := by
      have := hm.add hm
      rw [Nat.mul_two]; exact this
    have g4 := (g3.mul m).add hm
    rw [<- g2] at g4
    obtain ⟨⟨a, ha⟩, _⟩ := g1
    obtain ⟨⟨b, hb⟩, _⟩ := g4
    exact two ⟨b - a, by grind⟩
  have hqp : 0 < (q : Int) := by omega
  have fin := few (q * q) (2 ^ p) (fun i => (pA i % (q : Int)).toNat * q + (pB i % (q : Int)).toNat) (fun i _ => by
    have a1 := Int.emod_nonneg (pA i) (show (q : Int) ≠ 0 by omega)
    have a2 := Int.emod_lt_of_pos (pA i) hqp
    have b1 := Int.emod_nonneg (pB i) (show (q : Int) ≠ 0 by omega)
    have b2 := Int.emod_lt_of_pos (pB i) hqp
    have c1 : (pA i % (q : Int)).toNat + 1 <= q := by omega
    have c2 : (pB i % (q : Int)).toNat < q := by omega
    have c3 := Nat.mul_le_mul_right q c1
    rw [Nat.add_mul] at c3
    show (pA i % (q : Int)).toNat * q + (pB i % (q : Int)).toNat < q * q
    omega) (fun i j hij hj e => by
    have a1 := Int.emod_nonneg (pA i) (show (q : Int) ≠ 0 by omega)
    have b1 := Int.emod_nonneg (pB i) (show (q : Int) ≠ 0 by omega)
    have b2 := Int.emod_lt_of_pos (pB i) hqp
    have a3 := Int.emod_nonneg (pA j) (show (q : Int) ≠ 0 by omega)
    have b3 := Int.emod_nonneg (pB j) (show (q : Int) ≠ 0 by omega)
    have b4 := Int.emod_lt_of_pos (pB j) hqp
    have e' : (pA i % (q : Int)).toNat * q + (pB i % (q : Int)).toNat = (pA j % (q : Int)).toNat * q + (pB j % (q : Int)).toNat := e
    have eb : (pB i % (q : Int)).toNat = (pB j % (q : Int)).toNat := by
      have := congrArg (· % q) e'
      simp only [Nat.mul_add_mod_self_right] at this
      rw [Nat.mod_eq_of_lt (by omega), Nat.mod_eq_of_lt (by omega)] at this
      exact this
    have ea : (pA i % (q : Int)).toNat = (pA j % (q : Int)).toNat := by
      rw [eb] at e'
      exact Nat.eq_of_mul_eq_mul_right (show 0 < q by omega) (Nat.add_right_cancel e')
    have dA := aLN (show pA j % (q : Int) = pA i % (q : Int) by omega)
    have dB := aLN (show pB j % (q : Int) = pB i % (q : Int) by omega)
    refine none (j - i) (by omega) (by omega) ?_
    obtain ⟨h1, h2⟩ := aGB i (j - i)
    rw [show i + (j - i) = j by omega] at h1 h2
    have o := aJM i
    obtain ⟨u, hu⟩ := dA
    obtain ⟨v, hv⟩ := dB
    unfold PIs
    generalize pA i = a at *
    generalize pB i = b at *
    generalize pA (j - i) = c at *
    generalize pB (j - i) = d at *
    generalize pA j = x at *
    generalize pB j = y at *
    refine ⟨⟨a * u - 3 * (b * v), by grind⟩, ⟨a * v - b * u, by grind⟩⟩)
  omega
end My
set_option exponentiation.threshold 5000
namespace My
theorem eEB : llGo (2 ^ 61 - 1) (61 - 2) 4 = 0 := by decide +kernel
theorem eCV : llGo (2 ^ 127 - 1) (127 - 2) 4 = 0 := by decide +kernel
theorem eCU : llGo (2 ^ 521 - 1) (521 - 2) 4 = 0 := by decide +kernel
theorem aZW : llGo (2 ^ 1279 - 1) (1279 - 2) 4 = 0 := by decide +kernel
theorem aZV : llGo (2 ^ 4423 - 1) (4423 - 2) 4 = 0 := by decide +kernel
end My
namespace My
structure Prm (P : Nat) : Prop where
  two : 2 <= P
  no : ∀ d, d ∣ P -> d = 1 \/ d = P
theorem aLU {P : Nat} (h2 : 2 <= P) (h : ∀ q : Nat, 1 < q -> q ∣ P -> ¬ q * q <= P) : Prm P := ⟨h2, fun d hd => by
  rcases Nat.lt_or_ge 1 d with h1 | h1
  . right
    obtain ⟨e, he⟩ := hd
    rcases Nat.lt_or_ge 1 e with g1 | g1
    . exfalso
      rcases Nat.le_total d e with l | l
      . exact h d h1 ⟨e, he⟩ (by rw [he]; exact Nat.mul_le_mul_left _ l)
      . exact h e g1 ⟨d, by rw [he, Nat.mul_comm]⟩ (by rw [he]; exact Nat.mul_le_mul_right _ l)
    . have : e = 0 \/ e = 1 := by omega
      rcases this with z | z
      . rw [z] at he; omega
      . rw [z] at he; omega
  . have : d = 0 \/ d = 1 := by omega
    rcases this with z | z
    . subst z
      obtain ⟨e, he⟩ := hd
      omega
    . exact .inl z⟩
theorem eBY : Prm (2 ^ 61 - 1) := aLU (by decide) (aCZ (by decide) eEB)
theorem aZJ : Prm (2 ^ 127 - 1) := aLU (by decide) (aCZ (by decide) eCV)
theorem big2 {p : Nat} (h : 3 <= p) : 2 <= 2 ^ p - 1 := by
  have : (2 : Nat) ^ 3 <= 2 ^ p := Nat.pow_le_pow_right (by decide) h
  have e : (2 : Nat) ^ 3 = 8 := rfl
  omega
theorem aZI : Prm (2 ^ 521 - 1) := aLU (big2 (by decide)) (aCZ (by decide) eCU)
theorem aWR : Prm (2 ^ 1279 - 1) := aLU (big2 (by decide)) (aCZ (by decide) aZW)
theorem aWQ : Prm (2 ^ 4423 - 1) := aLU (big2 (by decide)) (aCZ (by decide) aZV)
theorem Prm.mulN {P : Nat} (h : Prm P) {a b : Nat} (hd : P ∣ a * b) : P ∣ a \/ P ∣ b := by
  rcases h.no (Nat.gcd P a) (Nat.gcd_dvd_left P a) with e | e
  . exact .inr (Nat.Coprime.dvd_of_dvd_mul_left e hd)
  . left
    have := Nat.gcd_dvd_right P a
    rw [e] at this; exact this
theorem Prm.mul {P : Nat} (h : Prm P) {a b : Int} (hd : (P : Int) ∣ a * b) : (P : Int) ∣ a \/ (P : Int) ∣ b := by
  have h1 : P ∣ a.natAbs * b.natAbs := by
    rw [<- Int.natAbs_mul]; exact Int.ofNat_dvd_left.mp hd
  rcases h.mulN h1 with q | q
  . exact .inl (Int.ofNat_dvd_left.mpr q)
  . exact .inr (Int.ofNat_dvd_left.mpr q)
theorem Prm.mul_not {P : Nat} (h : Prm P) {a b : Int} (ha : ¬ (P : Int) ∣ a) (hb : ¬ (P : Int) ∣ b) : ¬ (P : Int) ∣ a * b := fun z => (h.mul z).elim ha hb
def invGo : Nat -> Int -> Int -> Int -> Int -> Int
  | 0, _, _, _, v => v
  | n + 1, a, b, u, v => if 1 < b then invGo n b (a - a / b * b) v (u - a / b * v) else v
theorem aYF {P x : Int} : ∀ (n : Nat) (a b u v : Int), b.toNat <= n -> 0 <= b -> P ∣ a - u * x -> P ∣ b - v * x -> Int.gcd a b = 1 -> P ∣ 1 - invGo n a b u v * x \/ (b = 0 /\ a.natAbs = 1)
  | 0, a, b, u, v, hn, h0, _, hb, hg => by
    have e : b = 0 := by omega
    right
    refine ⟨e, ?_⟩
    rw [e, Int.gcd_zero_right] at hg; exact hg
  | n + 1, a, b, u, v, hn, h0, ha, hb, hg => by
    unfold invGo
    by_cases h1 : 1 < b
    . rw [if_pos h1]
      have er : a - a / b * b = a % b := by
        have := Int.emod_add_mul_ediv a b
        rw [Int.mul_comm] at this; omega
      have r0 := Int.emod_nonneg a (show b ≠ 0 by omega)
      have r1 := Int.emod_lt_of_pos a (show 0 < b by omega)
      have ih := aYF (P := P) (x := x) n b (a - a / b * b) v (u - a / b * v) (by omega) (by omega) hb (by
        obtain ⟨c, hc⟩ := ha
        obtain ⟨d, hd⟩ := hb
        exact ⟨c - a / b * d, by grind⟩) (by
        rw [Int.gcd_sub_mul_right_right, Int.gcd_comm]; exact hg)
      rcases ih with q | ⟨q1, q2⟩
      . exact .inl q
      . omega
    . rw [if_neg h1]
      have : b = 0 \/ b = 1 := by omega
      rcases this with e | e
      . right
        refine ⟨e, ?_⟩
        rw [e, Int.gcd_zero_right] at hg; exact hg
      . left; rw [e] at hb; exact hb
end My
set_option exponentiation.threshold 256
namespace My
open PySem L2 L2.EV PyProof.Rows
def Fs (φ : Nat -> Int) : Prop := ∃ N, ∀ i, N <= i -> φ i = 0
def Dv (s : List Int) (F : Nat -> Int) : Prop := ∃ (c : Int) (φ : Nat -> Int), c ≠ 0 /\ Fs φ /\ ∀ i, c * F i = cm s φ i
theorem aVO (s : List Int) (φ ψ : Nat -> Int) (i : Nat) : cm s (fun k => φ k + ψ k) i = cm s φ i + cm s ψ i := aJI s φ ψ i s.length
theorem wV (s : List Int) (c : Int) (φ : Nat -> Int) (i : Nat) : cm s (fun k => c * φ k) i = c * cm s φ i := wQ s c φ i s.length
theorem aKM (s : List Int) (k : Nat) (φ : Nat -> Int) (i : Nat) : cm s (fun i => if k <= i then φ (i - k) else 0) i = if k <= i then cm s φ (i - k) else 0 := aFT s k φ i s.length
theorem Fs.add {φ ψ : Nat -> Int} (h : Fs φ) (g : Fs ψ) : Fs (fun k => φ k + ψ k) := by
  obtain ⟨N, hN⟩ := h
  obtain ⟨M, hM⟩ := g
  exact ⟨max N M, fun i hi => by show φ i + ψ i = 0; rw [hN i (by omega), hM i (by omega)]; rfl⟩
theorem Fs.sml {φ : Nat -> Int} (h : Fs φ) (c : Int) : Fs (fun k => c * φ k) := by
  obtain ⟨N, hN⟩ := h
  exact ⟨N, fun i hi => by show c * φ i = 0; rw [hN i hi, Int.mul_zero]⟩
theorem Fs.shift {φ : Nat -> Int} (h : Fs φ) (k : Nat) : Fs (fun i => if k <= i then φ (i - k) else 0) := by
  obtain ⟨N, hN⟩ := h
  refine ⟨N + k, fun i hi => ?_⟩
  show (if k <= i then φ (i - k) else 0) = 0
  rw [if_pos (by omega), hN _ (by omega)]
theorem Dv.add {s : List Int} {F G : Nat -> Int} (h : Dv s F) (g : Dv s G) : Dv s (fun i => F i + G i) := by
  obtain ⟨c, φ, hc, fφ, e⟩ := h
  obtain ⟨d, ψ, hd, fψ, e'⟩ := g
  refine ⟨c * d, fun k => d * φ k + c * ψ k, Int.mul_ne_zero hc hd, (fφ.sml d).add (fψ.sml c), fun i => ?_⟩
  rw [aVO, wV, wV, <- e i, <- e' i]; grind
theorem Dv.sml {s : List Int} {F : Nat -> Int} (h : Dv s F) (a : Int) : Dv s (fun i => a * F i) := by
  obtain ⟨c, φ, hc, fφ, e⟩ := h
  refine ⟨c, fun k => a * φ k, hc, fφ.sml a, fun i => ?_⟩
  rw [wV, <- e i]; grind
theorem Dv.unsml {s : List Int} {F : Nat -> Int} {a : Int} (ha : a ≠ 0) (h : Dv s (fun i => a * F i)) : Dv s F := by
  obtain ⟨c, φ, hc, fφ, e⟩ := h
  refine ⟨c * a, φ, Int.mul_ne_zero hc ha, fφ, fun i => ?_⟩
  rw [<- e i, Int.mul_assoc]
theorem Dv.shift {s : List Int} {F : Nat -> Int} (h : Dv s F) (k : Nat) : Dv s (fun i => if k <= i then F (i - k) else 0) := by
  obtain ⟨c, φ, hc, fφ, e⟩ := h
  refine ⟨c, fun i => if k <= i then φ (i - k) else 0, hc, fφ.shift k, fun i => ?_⟩
  rw [aKM]
  show c * (if k <= i then F (i - k) else 0) = _
  split
  . exact e _
  . rw [Int.mul_zero]
theorem Dv.eq {s : List Int} {F G : Nat -> Int} (h : Dv s F) (e : ∀ i, F i = G i) : Dv s G := by
  rw [<- funext e]; exact h
theorem Dv.sim {s : List Int} {F G : Nat -> Int} (h : Dv s F) (g : Sim F G) : Dv s G := by
  obtain ⟨a, b, ha, hb, e⟩ := g
  exact Dv.unsml hb ((h.sml a).eq e)
theorem Dv.zero (s : List Int) : Dv s (fun _ => 0) := ⟨1, fun _ => 0, by decide, ⟨0, fun _ _ => rfl⟩, fun i => by
  have := wV s 0 (fun _ => 0) i
  simp only [Int.zero_mul] at this
  rw [this]; rfl⟩
theorem Dv.self (s : List Int) : Dv s (co s) := ⟨1, fun k => if k = 0 then 1 else 0, by decide, ⟨1, fun i hi => if_neg (by omega)⟩, fun i => by
  show 1 * s.getD i 0 = psG s (fun k => if k = 0 then 1 else 0) i s.length
  rw [aCU, Int.one_mul]
  by_cases h : i < s.length
  . rw [if_pos ⟨Nat.zero_le _, by omega⟩, Nat.sub_zero]
  . rw [if_neg (by omega), yH (by omega)]⟩
theorem Dv.step {s g : List Int} (hl : lastI g ≠ 0) (hg : Dv s (co g)) {n : Nat} {S : Nat -> Int} (h : Dv s (stepF g n S)) : Dv s S := by
  have h1 := (hg.shift (n + 1 - g.length)).sml (S n * lastI g)
  refine Dv.unsml (Int.mul_ne_zero hl hl) ((h.add h1).eq fun i => ?_)
  show (S i * lastI g * lastI g - (if n + 1 - g.length <= i then S n * lastI g * g.getD (i - (n + 1 - g.length)) 0 else 0)) + S n * lastI g * (if n + 1 - g.length <= i then g.getD (i - (n + 1 - g.length)) 0 else 0) = _
  split <;> grind
theorem Dv.left {s g : List Int} (hl : lastI g ≠ 0) (hg : Dv s (co g)) : ∀ (n : Nat) (S : Nat -> Int), Dv s (leftF g n S) -> Dv s S
  | 0, S, h => h
  | n + 1, S, h => by
    by_cases q : n + 1 < g.length
    . have e : leftF g (n + 1) S = S := by show (if n + 1 < g.length then S else _) = S; rw [if_pos q]
      rw [e] at h; exact h
    . have e : leftF g (n + 1) S = leftF g n (stepF g n S) := by show (if n + 1 < g.length then S else _) = _; rw [if_neg q]
      rw [e] at h
      exact Dv.step hl hg (Dv.left hl hg n _ h)
theorem aSL : ∀ (n : Nat) (f g : List Int), g.length <= n -> RowOk g -> Dv (sh f g) (co f) /\ Dv (sh f g) (co g)
  | n, f, [], _, _ => ⟨Dv.self f, Dv.zero f⟩
  | 0, f, a :: g, h, _ => by simp at h
  | n + 1, f, a :: g, h, rg => by
    have hg : (a :: g) ≠ [] := by simp
    have hl := yJ rg hg
    have hr := wP (f := f) hg
    obtain ⟨h1, h2⟩ := aSL n (a :: g) (restF f (a :: g)) (by omega) (restOk _ _)
    rw [aCB hg]
    exact ⟨Dv.left hl h1 f.length _ (h2.sim (aLR hl)), h1⟩
theorem aYS {P : Int} (s : List Int) {φ : Nat -> Int} (h : ∀ i, P ∣ φ i) (i : Nat) : P ∣ cm s φ i := by
  have key : ∀ k, P ∣ psG s φ i k := by
    intro k
    induction k with
    | zero => exact ⟨0, by show (0 : Int) = P * 0; omega⟩
    | succ k ih =>
      show P ∣ psG s φ i k + s.getD k 0 * (if k <= i then φ (i - k) else 0)
      refine Int.dvd_add ih ?_
      split
      . exact Int.dvd_mul_of_dvd_right (h _)
      . rw [Int.mul_zero]; exact ⟨0, by omega⟩
  exact key _
theorem top_mod {P : Int} {s : List Int} {φ : Nat -> Int} {j t : Nat} (hj : j < s.length) (hs : ∀ k, j < k -> P ∣ s.getD k 0) (hφ : ∀ k, t < k -> P ∣ φ k) : P ∣ cm s φ (j + t) - s.getD j 0 * φ t := by
  have key : ∀ k, P ∣ psG s φ (j + t) k - (if j < k then s.getD j 0 * φ t else 0) := by
    intro k
    induction k with
    | zero => exact ⟨0, by show (0 : Int) - _ = P * 0; rw [if_neg (by omega)]; omega⟩
    | succ k ih =>
      show P ∣ psG s φ (j + t) k + s.getD k 0 * (if k <= j + t then φ (j + t - k) else 0) - (if j < k + 1 then s.getD j 0 * φ t else 0)
      rcases Nat.lt_trichotomy k j with q | q | q
      . rw [if_neg (by omega)] at ih
        rw [if_neg (show ¬ j < k + 1 by omega), if_pos (by omega)]
        obtain ⟨a, ha⟩ := ih
        obtain ⟨b, hb⟩ := hφ (j + t - k) (by omega)
        exact ⟨a + s.getD k 0 * b, by rw [hb]; grind⟩
      . subst q
        rw [if_neg (by omega)] at ih
        rw [if_pos (by omega), if_pos (by omega), show k + t - k = t by omega]
        obtain ⟨a, ha⟩ := ih
        exact ⟨a, by grind⟩
      . rw [if_pos q] at ih
        rw [if_pos (show j < k + 1 by omega)]
        obtain ⟨a, ha⟩ := ih
        obtain ⟨b, hb⟩ := hs k q
        exact ⟨a + b * (if k <= j + t then φ (j + t - k) else 0), by rw [hb]; grind⟩
  have := key s.length
  rw [if_pos hj] at this
  exact this
theorem aDE {P : Int} {φ : Nat -> Int} : ∀ (N : Nat), (∀ i, N <= i -> P ∣ φ i) -> (∀ i, P ∣ φ i) \/ ∃ t, ¬ P ∣ φ t /\ ∀ k, t < k -> P ∣ φ k
  | 0, h => .inl fun i => h i (Nat.zero_le _)
  | N + 1, h => by
    by_cases q : P ∣ φ N
    . exact aDE N fun i hi => by
        rcases Nat.eq_or_lt_of_le hi with e | e
        . rw [<- e]; exact q
        . exact h i e
    . exact .inr ⟨N, q, fun k hk => h k hk⟩
theorem Fs.dvd {φ : Nat -> Int} (h : Fs φ) (P : Int) : ∃ N, ∀ i, N <= i -> P ∣ φ i := by
  obtain ⟨N, hN⟩ := h
  exact ⟨N, fun i hi => by rw [hN i hi]; exact ⟨0, by omega⟩⟩
theorem gauss {P : Nat} (hP : Prm P) {s : List Int} {φ : Nat -> Int} (fφ : Fs φ) (hs : ∃ k, ¬ (P : Int) ∣ s.getD k 0) (h : ∀ i, (P : Int) ∣ cm s φ i) : ∀ i, (P : Int) ∣ φ i := by
  obtain ⟨N, hN⟩ := fφ.dvd P
  rcases aDE N hN with q | ⟨t, ht, hk⟩
  . exact q
  . exfalso
    have hs' : ∀ i, s.length <= i -> (P : Int) ∣ s.getD i 0 := fun i hi => by rw [yH hi]; exact ⟨0, by omega⟩
    rcases aDE (φ := co s) s.length hs' with q | ⟨j, hj, hjk⟩
    . obtain ⟨k, hk'⟩ := hs
      exact hk' (q k)
    . have hjl : j < s.length := by
        rcases Nat.lt_or_ge j s.length with z | z
        . exact z
        . exact absurd (hs' j z) hj
      obtain ⟨a, ha⟩ := top_mod (φ := φ) hjl hjk hk
      obtain ⟨b, hb⟩ := h (j + t)
      exact hP.mul_not hj ht ⟨b - a, by show s.getD j 0 * φ t = _; grind⟩
theorem aOJ {P : Nat} (hP : Prm P) {s : List Int} (hs : ∃ k, ¬ (P : Int) ∣ s.getD k 0) {F : Nat -> Int} : ∀ (n : Nat) (c : Int) (φ : Nat -> Int), c.natAbs <= n -> c ≠ 0 -> Fs φ -> (∀ i, c * F i = cm s φ i) -> ∃ (c : Int) (φ : Nat -> Int), ¬ (P : Int) ∣ c /\ Fs φ /\ ∀ i, c * F i = cm s φ i
  | 0, c, φ, h, h0, _, _ => by omega
  | n + 1, c, φ, h, h0, fφ, e => by
    by_cases q : (P : Int) ∣ c
    . obtain ⟨d, hd⟩ := q
      have hφ := gauss hP fφ hs fun i => ⟨d * F i, by rw [<- e i, hd, Int.mul_assoc]⟩
      have p2 := hP.two
      have hd0 : d ≠ 0 := fun z => h0 (by rw [hd, z, Int.mul_zero])
      have hlt : d.natAbs < c.natAbs := by
        rw [hd, Int.natAbs_mul, Int.natAbs_natCast]
        have : 1 <= d.natAbs := by omega
        have := Nat.mul_le_mul_right d.natAbs p2
        omega
      have eφ : ∀ i, φ i = (P : Int) * (φ i / (P : Int)) := fun i => (Int.mul_ediv_cancel' (hφ i)).symm
      obtain ⟨N, hN⟩ := fφ
      refine aOJ hP hs n d (fun i => φ i / (P : Int)) (by omega) hd0 ⟨N, fun i hi => by show φ i / (P : Int) = 0; rw [hN i hi]; simp⟩ fun i => ?_
      have h1 := e i
      rw [show φ = fun i => (P : Int) * (φ i / (P : Int)) from funext eφ, wV, hd, Int.mul_assoc] at h1
      exact Int.eq_of_mul_eq_mul_left (show (P : Int) ≠ 0 by omega) h1
    . exact ⟨c, φ, q, fφ, e⟩
def DvM (P : Int) (s : List Int) (F : Nat -> Int) : Prop := ∃ (c : Int) (φ : Nat -> Int), ¬ P ∣ c /\ Fs φ /\ ∀ i, P ∣ c * F i - cm s φ i
theorem DvM.add {P : Nat} (hP : Prm P) {s : List Int} {F G : Nat -> Int} (h : DvM P s F) (g : DvM P s G) : DvM P s (fun i => F i + G i) := by
  obtain ⟨c, φ, hc, fφ, e⟩ := h
  obtain ⟨d, ψ, hd, fψ, e'⟩ := g
  refine ⟨c * d, fun k => d * φ k + c * ψ k, hP.mul_not hc hd, (fφ.sml d).add (fψ.sml c), fun i => ?_⟩
  rw [aVO, wV, wV]
  obtain ⟨a, ha⟩ := e i
  obtain ⟨b, hb⟩ := e' i
  exact ⟨d * a + c * b, by grind⟩
theorem DvM.sml {P : Int} {s : List Int} {F : Nat -> Int} (h : DvM P s F) (a : Int) : DvM P s (fun i => a * F i) := by
  obtain ⟨c, φ, hc, fφ, e⟩ := h
  refine ⟨c, fun k => a * φ k, hc, fφ.sml a, fun i => ?_⟩
  rw [wV]
  obtain ⟨b, hb⟩ := e i
  exact ⟨a * b, by grind⟩
theorem DvM.shift {P : Int} {s : List Int} {F : Nat -> Int} (h : DvM P s F) (k : Nat) : DvM P s (fun i => if k <= i then F (i - k) else 0) := by
  obtain ⟨c, φ, hc, fφ, e⟩ := h
  refine ⟨c, fun i => if k <= i then φ (i - k) else 0, hc, fφ.shift k, fun i => ?_⟩
  rw [aKM]
  show P ∣ c * (if k <= i then F (i - k) else 0) - _
  split
  . exact e _
  . exact ⟨0, by omega⟩
theorem DvM.mod {P : Int} {s : List Int} {F G : Nat -> Int} (h : DvM P s F) (g : ∀ i, P ∣ F i - G i) : DvM P s G := by
  obtain ⟨c, φ, hc, fφ, e⟩ := h
  refine ⟨c, φ, hc, fφ, fun i => ?_⟩
  obtain ⟨a, ha⟩ := e i
  obtain ⟨b, hb⟩ := g i
  exact ⟨a - c * b, by grind⟩
theorem DvM.len {P : Nat} (hP : Prm P) {s d : List Int} (hs : ¬ (P : Int) ∣ lastI s) (hn : d ≠ []) (hd : ¬ (P : Int) ∣ lastI d) (h : DvM P s (co d)) : s.length <= d.length := by
  obtain ⟨c, φ, hc, fφ, e⟩ := h
  rcases Nat.lt_or_ge d.length s.length with q | q
  . exfalso
    have hsn : s ≠ [] := fun z => by rw [z] at q; simp at q
    obtain ⟨N, hN⟩ := fφ.dvd P
    rcases aDE N hN with z | ⟨t, ht, hk⟩
    . obtain ⟨a, ha⟩ := e (d.length - 1)
      obtain ⟨b, hb⟩ := aYS s z (d.length - 1)
      have el : co d (d.length - 1) = lastI d := yR hn
      rw [el] at ha
      exact hP.mul_not hc hd ⟨a + b, by grind⟩
    . have el : s.getD (s.length - 1) 0 = lastI s := yR hsn
      have hsl : s.length - 1 < s.length := by omega
      obtain ⟨a, ha⟩ := top_mod (P := P) (φ := φ) hsl (fun k hk => by rw [yH (by omega)]; exact ⟨0, by omega⟩) hk
      obtain ⟨b, hb⟩ := e (s.length - 1 + t)
      have ez : co d (s.length - 1 + t) = 0 := yH (by omega)
      rw [ez] at hb
      rw [el] at ha
      exact hP.mul_not hs ht ⟨-(a + b), by grind⟩
  . exact q
end My
namespace My
open PySem L2 L2.EV PyProof.Rows
theorem aPT {s s' : List Int} {a b : Int} (h : ∀ i, a * s'.getD i 0 = b * s.getD i 0) (φ : Nat -> Int) (p : Nat) : ∀ k, a * psG s' φ p k = b * psG s φ p k
  | 0 => by show a * 0 = b * 0; omega
  | k + 1 => by
    show a * (psG s' φ p k + s'.getD k 0 * (if k <= p then φ (p - k) else 0)) = b * (psG s φ p k + s.getD k 0 * (if k <= p then φ (p - k) else 0))
    have h1 := aPT h φ p k
    have h2 := h k
    generalize (if k <= p then φ (p - k) else 0) = y
    rw [Int.mul_add, Int.mul_add, h1, <- Int.mul_assoc, <- Int.mul_assoc, h2]
theorem Dv.list {s s' : List Int} {F : Nat -> Int} (h : Dv s' F) (hl : s'.length = s.length) (hs : Sim (co s') (co s)) : Dv s F := by
  obtain ⟨c, φ, hc, fφ, e⟩ := h
  obtain ⟨a, b, ha, hb, q⟩ := hs
  refine ⟨c * a, fun k => b * φ k, Int.mul_ne_zero hc ha, fφ.sml b, fun i => ?_⟩
  rw [wV]
  have h1 := aPT q φ i s.length
  have h2 := e i
  have h3 : a * cm s' φ i = b * cm s φ i := by
    show a * psG s' φ i s'.length = b * psG s φ i s.length
    rw [hl]; exact h1
  rw [<- h3, <- h2]; grind
theorem eDE {d : Nat} (f : List Int) (h : ∀ x ∈ f, d ∣ x.natAbs) : d ∣ gl f := by
  have key : ∀ (l : List Int) (a : Nat), d ∣ a -> (∀ x ∈ l, d ∣ x.natAbs) -> d ∣ l.foldl (fun g x => Nat.gcd g x.natAbs) a := by
    intro l
    induction l with
    | nil => intro a ha _; exact ha
    | cons b l ih =>
      intro a ha hl
      exact ih _ (Nat.dvd_gcd ha (hl b (by simp))) fun x hx => hl x (by simp [hx])
  exact key f 0 (Nat.dvd_zero d) h
theorem aUN {f : List Int} {x : Int} (hx : x ∈ f) : gl f ∣ x.natAbs := by
  have key : ∀ (l : List Int) (a : Nat), (l.foldl (fun g x => Nat.gcd g x.natAbs) a) ∣ a /\ ∀ z ∈ l, (l.foldl (fun g x => Nat.gcd g x.natAbs) a) ∣ z.natAbs := by
    intro l
    induction l with
    | nil => intro a; exact ⟨Nat.dvd_refl _, fun _ h => (nomatch h)⟩
    | cons b l ih =>
      intro a
      obtain ⟨k1, k2⟩ := ih (Nat.gcd a b.natAbs)
      rw [List.foldl_cons]
      refine ⟨Nat.dvd_trans k1 (Nat.gcd_dvd_left _ _), fun z hz => ?_⟩
      rcases List.mem_cons.mp hz with e | hz
      . subst e; exact Nat.dvd_trans k1 (Nat.gcd_dvd_right _ _)
      . exact k2 z hz
  exact (key f 0).2 x hx
theorem aPX {P : Nat} (h2 : 2 <= P) {f : List Int} (hg : gl f ≠ 0) : ∃ k, ¬ (P : Int) ∣ (lowB f).getD k 0 := by
  apply Classical.byContradiction
  intro hn
  have hall : ∀ x ∈ f, P * gl f ∣ x.natAbs := fun x hx => by
    obtain ⟨k, hk, rfl⟩ := List.getElem_of_mem hx
    have h1 : (P : Int) ∣ (lowB f).getD k 0 := Classical.byContradiction fun z => hn ⟨k, z⟩
    have e : (lowB f).getD k 0 = (f[k]).fdiv (gl f : Int) := by
      unfold lowB
      rw [List.getD_eq_getElem?_getD, List.getElem?_map, List.getElem?_eq_getElem hk]; rfl
    rw [e, Int.fdiv_eq_ediv_of_nonneg _ (by omega)] at h1
    have hd : (gl f : Int) ∣ f[k] := Int.ofNat_dvd_left.mpr (aUN hx)
    obtain ⟨c, hc⟩ := h1
    have e2 := Int.mul_ediv_cancel' hd
    rw [hc] at e2
    refine Int.ofNat_dvd_left.mp ⟨c, ?_⟩
    rw [<- e2, Int.natCast_mul]; grind
  have h3 := eDE f hall
  have h4 : P * gl f <= gl f := Nat.le_of_dvd (by omega) h3
  have h5 : 2 * gl f <= P * gl f := Nat.mul_le_mul_right _ h2
  omega
theorem aUG {P : Nat} (hP : Prm P) {s f : List Int} (hs : s ≠ []) (hf : f ≠ []) (ls : lastI s ≠ 0) (lf : ¬ (P : Int) ∣ lastI f) {c : Int} {φ : Nat -> Int} (hc : ¬ (P : Int) ∣ c) (fφ : Fs φ) (e : ∀ i, c * co f i = cm s φ i) : ¬ (P : Int) ∣ lastI s := by
  have top : (∀ i, φ i = 0) \/ ∃ t, φ t ≠ 0 /\ ∀ k, t < k -> φ k = 0 := by
    obtain ⟨N, hN⟩ := fφ
    clear e
    induction N with
    | zero => exact .inl fun i => hN i (Nat.zero_le _)
    | succ N ih =>
      by_cases q : φ N = 0
      . exact ih fun i hi => by
          rcases Nat.eq_or_lt_of_le hi with z | z
          . rw [<- z]; exact q
          . exact hN i z
      . exact .inr ⟨N, q, fun k hk => hN k hk⟩
  have el : co f (f.length - 1) = lastI f := yR hf
  have hsp := List.length_pos_iff.mpr hs
  have hfp := List.length_pos_iff.mpr hf
  have nz : c * lastI f ≠ 0 := fun z => by
    have h1 : (P : Int) ∣ c * lastI f := by rw [z]; exact ⟨0, by omega⟩
    exact hP.mul_not hc lf h1
  have h0 := e (f.length - 1)
  rw [el] at h0
  rcases top with z | ⟨t, ht, hk⟩
  . exfalso
    refine nz ?_
    rw [h0]
    exact aFU s φ (f.length - 1) 0 (fun i _ => z i) 0 (Nat.zero_le _) |> fun _ => by
      have : ∀ k, psG s φ (f.length - 1) k = 0 := by
        intro k
        induction k with
        | zero => rfl
        | succ k ih =>
          show psG s φ _ k + s.getD k 0 * (if k <= _ then φ _ else 0) = 0
          rw [ih]; split
          . rw [z]; omega
          . omega
      exact this _
  . have h1 := e (t + (s.length - 1))
    rw [aVM hs φ t hk] at h1
    have h2 : lastI s * φ t ≠ 0 := Int.mul_ne_zero ls ht
    have le1 : t + (s.length - 1) <= f.length - 1 := by
      rcases Nat.lt_or_ge (f.length - 1) (t + (s.length - 1)) with q | q
      . exfalso
        have : co f (t + (s.length - 1)) = 0 := yH (by omega)
        rw [this, Int.mul_zero] at h1
        exact h2 h1.symm
      . exact q
    have le2 : f.length - 1 <= t + (s.length - 1) := by
      rcases Nat.lt_or_ge (t + (s.length - 1)) (f.length - 1) with q | q
      . exfalso
        have : cm s φ (f.length - 1) = 0 := aFU s φ (f.length - 1) t hk s.length (by omega)
        rw [this] at h0
        exact nz h0
      . exact q
    have e3 : t + (s.length - 1) = f.length - 1 := by omega
    rw [e3, el] at h1
    intro z
    refine hP.mul_not hc lf ?_
    rw [h1]
    exact Int.dvd_mul_of_dvd_left z
theorem aQX {P : Nat} (hP : Prm P) {f g d : List Int} (rf : RowOk f) (rg : RowOk g) (hf : f ≠ []) (lf : ¬ (P : Int) ∣ lastI f) (hd : d ≠ []) (ld : ¬ (P : Int) ∣ lastI d)
    (h : ∀ s, DvM P s (co f) -> DvM P s (co g) -> DvM P s (co d)) : (sh f g).length <= d.length := by
  have hk := aBW rf rg
  obtain ⟨d1, d2⟩ := aSL g.length f g (Nat.le_refl _) rg
  have hsn : sh f g ≠ [] := fun z => by
    obtain ⟨c, φ, hc, fφ, e⟩ := d1
    have el : co f (f.length - 1) = lastI f := yR hf
    have h0 := e (f.length - 1)
    rw [z, el] at h0
    have h1 : c * lastI f = 0 := h0
    rcases Int.mul_eq_zero.mp h1 with q | q
    . exact hc q
    . exact lf (by rw [q]; exact ⟨0, by omega⟩)
  have hg0 := aAJ hk hsn
  have ll := aAT (sh f g)
  have hs : lowB (sh f g) ≠ [] := fun z => by rw [z] at ll; exact hsn (List.eq_nil_of_length_eq_zero ll.symm)
  have fr := aPX hP.two (f := sh f g) hg0
  obtain ⟨c1, φ1, hc1, f1, e1⟩ := d1.list ll.symm (aMC _ hk)
  obtain ⟨c2, φ2, hc2, f2, e2⟩ := d2.list ll.symm (aMC _ hk)
  obtain ⟨a1, ψ1, ha1, g1, k1⟩ := aOJ hP fr c1.natAbs c1 φ1 (Nat.le_refl _) hc1 f1 e1
  obtain ⟨a2, ψ2, ha2, g2, k2⟩ := aOJ hP fr c2.natAbs c2 φ2 (Nat.le_refl _) hc2 f2 e2
  have ls := aUG hP hs hf (aEY hk hsn) lf ha1 g1 k1
  have m1 : DvM P (lowB (sh f g)) (co f) := ⟨a1, ψ1, ha1, g1, fun i => by rw [k1 i]; exact ⟨0, by omega⟩⟩
  have m2 : DvM P (lowB (sh f g)) (co g) := ⟨a2, ψ2, ha2, g2, fun i => by rw [k2 i]; exact ⟨0, by omega⟩⟩
  have := DvM.len hP ls hd ld (h _ m1 m2)
  rw [ll] at this; exact this
theorem aSJ {f g r u v : List Int} (ru : RowOk u) (rv : RowOk v) (rr : RowOk r) (hr : r ≠ []) (ef : f = timesL u r) (eg : g = timesL v r) (hfn : sh f g ≠ []) (hl : (sh f g).length <= r.length) : plainB (sh f g) = plainB r := by
  have h1 := aIQ rr hr v.length u v (Nat.le_refl _) rv
  rw [<- ef, <- eg] at h1
  have k1 : RowOk (sh f g) := by rw [ef, eg]; exact aBW (trimOk _) (trimOk _)
  have k2 := aBW ru rv
  have hn : sh u v ≠ [] := fun z => by
    rw [z, aCM] at h1
    have := aIP k1 (.inl rfl) h1
    exact hfn (List.eq_nil_of_length_eq_zero this)
  have h2 : (sh f g).length = (timesL (sh u v) r).length := aIP k1 (trimOk _) h1
  have h3 := (qS k2 rr hn hr).1
  rw [h3] at h2
  have hrp := List.length_pos_iff.mpr hr
  have hnp := List.length_pos_iff.mpr hn
  have h4 : (sh u v).length = 1 := by omega
  obtain ⟨a, ha⟩ : ∃ a, sh u v = [a] := List.length_eq_one_iff.mp h4
  have ha0 : a ≠ 0 := by
    have := yJ k2 hn
    rw [ha] at this; exact this
  refine jM k1 rr (h1.trans ?_)
  refine Sim.scale ha0 fun i => ?_
  rw [ha]
  have := congrFun (aEQ [a] r) i
  rw [show timesL [a] r = timesL r [a] from aDP _ _]
  have h5 := congrFun (aEQ r [a]) i
  show (timesL r [a]).getD i 0 = a * r.getD i 0
  have h6 : (timesL r [a]).getD i 0 = cm [a] (co r) i := h5
  rw [h6]
  show 0 + a * (if 0 <= i then co r (i - 0) else 0) = _
  rw [if_pos (Nat.zero_le _), Nat.sub_zero, Int.zero_add]
end My
namespace My
open PySem L2 L2.EV PyProof.Rows
def invF (P x : Int) : Int := invGo (x % P).toNat P (x % P) 0 1 % P
theorem eAC {P : Nat} (hP : Prm P) {x : Int} (hx : ¬ (P : Int) ∣ x) : (P : Int) ∣ 1 - invF P x * x := by
  have p2 := hP.two
  have hPp : (0 : Int) < P := by omega
  have r0 := Int.emod_nonneg x (show (P : Int) ≠ 0 by omega)
  have r1 := Int.emod_lt_of_pos x hPp
  have hx' : ¬ (P : Int) ∣ x % P := fun z => hx (Int.dvd_of_emod_eq_zero (by
    have := Int.emod_eq_zero_of_dvd z
    rw [Int.emod_emod_of_dvd x (Int.dvd_refl _)] at this; exact this))
  have hg : Int.gcd (P : Int) (x % P) = 1 := by
    have hd : Int.gcd (P : Int) (x % P) ∣ P := by
      have := Int.gcd_dvd_natAbs_left (P : Int) (x % P)
      rw [Int.natAbs_natCast] at this; exact this
    rcases hP.no _ hd with e | e
    . exact e
    . exfalso
      have := Int.gcd_dvd_right (a := (P : Int)) (b := x % P)
      rw [e] at this
      exact hx' this
  rcases aYF (P := (P : Int)) (x := x % P) (x % P).toNat P (x % P) 0 1 (Nat.le_refl _) r0 ⟨1, by omega⟩ ⟨0, by omega⟩ hg with q | ⟨q, _⟩
  . unfold invF
    generalize invGo (x % P).toNat P (x % P) 0 1 = v at q
    obtain ⟨a, ha⟩ := q
    have e1 := Int.emod_add_mul_ediv x P
    have e2 := Int.emod_add_mul_ediv v P
    exact ⟨a - (v % P) * (x / P) + (v / P) * (x % P), by grind⟩
  . exact absurd (by rw [q]; exact ⟨0, by omega⟩) hx'
def monM (P : Int) (g : List Int) : List Int := g.map fun x => x * invF P (lastI g) % P
theorem aGD (P x : Int) : P ∣ x - x % P := ⟨x / P, by have := Int.emod_add_mul_ediv x P; omega⟩
theorem aWW (P : Int) (g : List Int) (i : Nat) : P ∣ invF P (lastI g) * co g i - co (monM P g) i := by
  have e : co (monM P g) i = co g i * invF P (lastI g) % P := by
    unfold monM
    show (g.map _).getD i 0 = _
    rw [zP (φ := fun x => x * invF P (lastI g) % P) (by simp)]
  rw [e, Int.mul_comm]
  exact aGD _ _
theorem aTW {P : Nat} (hP : Prm P) {g : List Int} (hg : g ≠ []) (hl : ¬ (P : Int) ∣ lastI g) : lastI (monM P g) = 1 := by
  have p2 := hP.two
  unfold monM
  rw [wK g _ (by simp)]
  obtain ⟨a, ha⟩ := eAC hP hl
  have e : lastI g * invF P (lastI g) = 1 + (P : Int) * (-a) := by grind
  rw [e, Int.add_mul_emod_self_left, Int.emod_eq_of_lt (by decide) (by omega)]
def stepM (P : Int) (g r : List Int) (top : Int) : List Int := (List.range r.length).map fun i => if r.length - (g.length - 1) <= i then (r.getD i 0 - top * g.getD (i - (r.length - (g.length - 1))) 0) % P else r.getD i 0
def restM (P : Int) (g : List Int) : Nat -> List Int -> List Int
  | 0, r => r
  | n + 1, r => if g.length <= r.length then restM P g n (stepM P g r.dropLast (lastI r)) else r
theorem aBF (P : Int) (g r : List Int) (top : Int) : (stepM P g r top).length = r.length := by unfold stepM; rw [List.length_map, List.length_range]
theorem aSF (P : Int) {g r : List Int} {top : Int} (hg : g ≠ []) (h1 : lastI g = 1) (hl : g.length <= r.length + 1) (i : Nat) : P ∣ co (r ++ [top]) i - top * (if r.length - (g.length - 1) <= i then co g (i - (r.length - (g.length - 1))) else 0) - co (stepM P g r top) i := by
  have hgp := List.length_pos_iff.mpr hg
  have el : g.getD (g.length - 1) 0 = lastI g := yR hg
  have e : co (stepM P g r top) i = if i < r.length then (if r.length - (g.length - 1) <= i then (r.getD i 0 - top * g.getD (i - (r.length - (g.length - 1))) 0) % P else r.getD i 0) else 0 := by
    show ((List.range r.length).map _).getD i 0 = _
    rw [List.getD_eq_getElem?_getD, List.getElem?_map]
    by_cases hi : i < r.length
    . rw [List.getElem?_range hi, if_pos hi]; rfl
    . rw [List.getElem?_eq_none (by simpa using hi), if_neg hi]; rfl
  rw [e]
  rcases Nat.lt_trichotomy i r.length with q | q | q
  . have ec : co (r ++ [top]) i = r.getD i 0 := by
      show (r ++ [top]).getD i 0 = _
      rw [List.getD_eq_getElem?_getD, List.getElem?_append_left q, <- List.getD_eq_getElem?_getD]
    rw [ec, if_pos q]
    by_cases h : r.length - (g.length - 1) <= i
    . rw [if_pos h, if_pos h]; exact aGD _ _
    . rw [if_neg h, if_neg h]; exact ⟨0, by omega⟩
  . subst q
    have ec : co (r ++ [top]) r.length = top := by
      show (r ++ [top]).getD r.length 0 = _
      rw [List.getD_eq_getElem?_getD, List.getElem?_append_right (Nat.le_refl _), Nat.sub_self]; rfl
    have eg : co g (r.length - (r.length - (g.length - 1))) = 1 := by
      rw [show r.length - (r.length - (g.length - 1)) = g.length - 1 by omega]
      show g.getD (g.length - 1) 0 = 1
      rw [el, h1]
    rw [ec, if_neg (Nat.lt_irrefl _), if_pos (by omega), eg]
    exact ⟨0, by omega⟩
  . have ec : co (r ++ [top]) i = 0 := yH (by simp; omega)
    have eg : co g (i - (r.length - (g.length - 1))) = 0 := yH (by omega)
    rw [ec, eg, if_neg (show ¬ i < r.length by omega)]
    refine ⟨0, ?_⟩
    split <;> omega
theorem aPO {P : Nat} (hP : Prm P) {s g : List Int} (hg : g ≠ []) (h1 : lastI g = 1) (dg : DvM P s (co g)) : ∀ (n : Nat) (r : List Int), DvM P s (co r) -> DvM P s (co (restM P g n r))
  | 0, r, h => h
  | n + 1, r, h => by
    unfold restM
    split
    . rename_i q
      have hgp := List.length_pos_iff.mpr hg
      have hr : r ≠ [] := fun z => by rw [z] at q; simp at q; exact hg q
      have er : r = r.dropLast ++ [lastI r] := by
        have := List.dropLast_concat_getLast hr
        conv => lhs; rw [<- this]
        congr 1
        have e := yR hr
        rw [<- e, List.getD_eq_getElem?_getD, List.getLast_eq_getElem, List.getElem?_eq_getElem (by have := List.length_pos_iff.mpr hr; omega)]; rfl
      have hl : r.dropLast.length + 1 = r.length := by
        have := congrArg List.length er
        rw [List.length_append] at this
        simpa using this.symm
      refine aPO hP hg h1 dg n _ ?_
      have d2 := (dg.shift (r.dropLast.length - (g.length - 1))).sml (-(lastI r))
      have d3 : DvM P s (co (r.dropLast ++ [lastI r])) := by rw [<- er]; exact h
      refine (DvM.add hP d3 d2).mod fun i => ?_
      have := aSF (P := (P : Int)) (g := g) (r := r.dropLast) (top := lastI r) hg h1 (by omega) i
      obtain ⟨a, ha⟩ := this
      exact ⟨a, by rw [<- ha]; grind⟩
    . exact h
def sharedM (P : Int) : Nat -> List Int -> List Int -> List Int
  | 0, f, _ => f
  | n + 1, f, g => if g = [] then f else sharedM P n (monM P g) (trimI (restM P (monM P g) f.length f))
def InM (P : Int) (f : List Int) : Prop := RowOk f /\ ∀ x ∈ f, 0 <= x /\ x < P
theorem InM.last {P : Nat} {f : List Int} (h : InM P f) (hf : f ≠ []) : ¬ (P : Int) ∣ lastI f := fun z => by
  have hl := yJ h.1 hf
  have hm : lastI f ∈ f := by
    have e := yR hf
    have hp := List.length_pos_iff.mpr hf
    rw [<- e, List.getD_eq_getElem?_getD, List.getElem?_eq_getElem (by omega)]
    exact List.getElem_mem _
  obtain ⟨h0, h1⟩ := h.2 _ hm
  have := Int.le_of_dvd (by omega) z
  omega
theorem aNN (f : List Int) : co (trimI f) = co f := funext fun i => vO f i
theorem aJD {P : Int} (hP : 0 < P) (g : List Int) : ∀ (n : Nat) (r : List Int), (∀ x ∈ r, 0 <= x /\ x < P) -> ∀ x ∈ restM P g n r, 0 <= x /\ x < P
  | 0, r, h => h
  | n + 1, r, h => by
    unfold restM
    split
    . refine aJD hP g n _ fun x hx => ?_
      unfold stepM at hx
      obtain ⟨i, hi, rfl⟩ := List.mem_map.mp hx
      have hi' := List.mem_range.mp hi
      by_cases hz : r.dropLast.length - (g.length - 1) <= i
      . simp only [if_pos hz]
        exact ⟨Int.emod_nonneg _ (by omega), Int.emod_lt_of_pos _ hP⟩
      . simp only [if_neg hz]
        rw [List.getD_eq_getElem?_getD, List.getElem?_eq_getElem hi']
        exact h _ ((List.dropLast_sublist r).subset (List.getElem_mem hi'))
    . exact h
theorem aCX (P : Int) (g : List Int) : (monM P g).length = g.length := by unfold monM; rw [List.length_map]
theorem aCT {P : Int} {g : List Int} : ∀ (n : Nat) (r : List Int), r.length <= n -> 0 < g.length -> (restM P g n r).length < g.length
  | 0, r, h, hg => by show r.length < g.length; omega
  | n + 1, r, h, hg => by
    unfold restM
    split
    . exact aCT n _ (by rw [aBF, List.length_dropLast]; omega) hg
    . omega
theorem aNX {P : Nat} (hP : Prm P) {g : List Int} (h : InM P g) (hg : g ≠ []) : InM P (monM P g) /\ lastI (monM P g) = 1 := by
  have p2 := hP.two
  have h1 := aTW hP hg (h.last hg)
  have hn : monM P g ≠ [] := fun z => by
    have := aCX (P : Int) g
    rw [z] at this; exact hg (List.eq_nil_of_length_eq_zero this.symm)
  refine ⟨⟨?_, fun x hx => ?_⟩, h1⟩
  . right
    refine ⟨(monM P g).dropLast, lastI (monM P g), ?_, by rw [h1]; decide⟩
    have := List.dropLast_concat_getLast hn
    conv => lhs; rw [<- this]
    congr 1
    have e := yR hn
    rw [<- e, List.getD_eq_getElem?_getD, List.getLast_eq_getElem, List.getElem?_eq_getElem (by have := List.length_pos_iff.mpr hn; omega)]; rfl
  . unfold monM at hx
    obtain ⟨y, _, rfl⟩ := List.mem_map.mp hx
    exact ⟨Int.emod_nonneg _ (by omega), Int.emod_lt_of_pos _ (by omega)⟩
theorem aDR {P : Nat} (hP : Prm P) : ∀ (n : Nat) (f g : List Int), g.length <= n -> InM P f -> InM P g -> f ≠ [] ->
    sharedM P n f g ≠ [] /\ InM P (sharedM P n f g) /\ (∀ s, DvM P s (co f) -> DvM P s (co g) -> DvM P s (co (sharedM P n f g)))
  | 0, f, g, h, hf, hg, hn => ⟨hn, hf, fun s d1 d2 => d1⟩
  | n + 1, f, g, h, hf, hg, hn => by
    unfold sharedM
    split
    . exact ⟨hn, hf, fun s d1 d2 => d1⟩
    . rename_i q
      have p2 := hP.two
      obtain ⟨m1, m2⟩ := aNX hP hg q
      have ml := aCX (P : Int) g
      have gp := List.length_pos_iff.mpr q
      have mn : monM P g ≠ [] := fun z => by rw [z] at ml; exact q (List.eq_nil_of_length_eq_zero ml.symm)
      have rl := aCT (P := (P : Int)) (g := monM P g) f.length f (Nat.le_refl _) (by omega)
      have tl := qY (restM P (monM P g) f.length f)
      have ri : InM P (trimI (restM P (monM P g) f.length f)) := ⟨trimOk _, fun x hx => aJD (by omega) _ _ _ hf.2 x (aBR hx)⟩
      obtain ⟨k1, k2, k3⟩ := aDR hP n (monM P g) (trimI (restM P (monM P g) f.length f)) (by omega) m1 ri mn
      refine ⟨k1, k2, fun s d1 d2 => ?_⟩
      have dm : DvM P s (co (monM P g)) := (d2.sml (invF P (lastI g))).mod fun i => aWW P g i
      refine k3 s dm ?_
      rw [aNN]
      exact aPO hP mn m2 dm _ _ d1
end My
namespace My
open PySem L2 L2.EV PyProof.Rows
def modM (P : Int) (f : List Int) : List Int := f.map fun x => x % P
theorem aTX (P : Int) (f : List Int) (i : Nat) : P ∣ co f i - co (modM P f) i := by
  have e : co (modM P f) i = co f i % P := by
    show (f.map _).getD i 0 = _
    rw [zP (φ := fun x => x % P) (by simp)]
  rw [e]; exact aGD _ _
theorem aAH {f : List Int} (hf : f ≠ []) : f = f.dropLast ++ [lastI f] := by
  have := List.dropLast_concat_getLast hf
  conv => lhs; rw [<- this]
  congr 1
  have e := yR hf
  rw [<- e, List.getD_eq_getElem?_getD, List.getLast_eq_getElem, List.getElem?_eq_getElem (by have := List.length_pos_iff.mpr hf; omega)]; rfl
theorem aDV {P : Nat} (hP : Prm P) {f : List Int} (hf : f ≠ []) (hl : ¬ (P : Int) ∣ lastI f) : InM P (modM P f) /\ modM P f ≠ [] := by
  have p2 := hP.two
  have hn : modM P f ≠ [] := fun z => by
    unfold modM at z; exact hf (List.map_eq_nil_iff.mp z)
  have h1 : lastI (modM P f) = lastI f % P := wK f (fun x => x % P) (by simp)
  refine ⟨⟨.inr ⟨_, _, aAH hn, ?_⟩, fun x hx => ?_⟩, hn⟩
  . rw [h1]
    exact fun z => hl (Int.dvd_of_emod_eq_zero z)
  . obtain ⟨y, _, rfl⟩ := List.mem_map.mp hx
    exact ⟨Int.emod_nonneg _ (by omega), Int.emod_lt_of_pos _ (by omega)⟩
theorem aQM {P : Nat} (hP : Prm P) {f g : List Int} (rf : RowOk f) (rg : RowOk g) (hf : f ≠ []) (hg : g ≠ []) (lf : ¬ (P : Int) ∣ lastI f) (lg : ¬ (P : Int) ∣ lastI g) : (sh f g).length <= (sharedM P (modM P g).length (modM P f) (modM P g)).length /\ sharedM P (modM P g).length (modM P f) (modM P g) ≠ [] := by
  obtain ⟨i1, n1⟩ := aDV hP hf lf
  obtain ⟨i2, n2⟩ := aDV hP hg lg
  obtain ⟨k1, k2, k3⟩ := aDR hP (modM P g).length (modM P f) (modM P g) (Nat.le_refl _) i1 i2 n1
  exact ⟨aQX hP rf rg hf lf k1 (k2.last k1) fun s d1 d2 => k3 s (d1.mod (aTX P f)) (d2.mod (aTX P g)), k1⟩
theorem aWI {f g : List Int} (rg : RowOk g) (hf : f ≠ []) (lf : lastI f ≠ 0) : sh f g ≠ [] := fun z => by
  obtain ⟨⟨c, φ, hc, fφ, e⟩, _⟩ := aSL g.length f g (Nat.le_refl _) rg
  have el : co f (f.length - 1) = lastI f := yR hf
  have h0 := e (f.length - 1)
  rw [z, el] at h0
  have h1 : c * lastI f = 0 := h0
  rcases Int.mul_eq_zero.mp h1 with q | q
  . exact hc q
  . exact lf q
theorem aFX {r : List Int} (rr : RowOk r) (h : r.length = 1) : plainB r = [1] := by
  obtain ⟨a, ha⟩ := List.length_eq_one_iff.mp h
  have ha0 : a ≠ 0 := by
    have := yJ rr (by rw [ha]; simp)
    rw [ha] at this; exact this
  have e : plainB [1] = [1] := by decide
  rw [<- e]
  refine jM rr (.inr ⟨[], 1, rfl, by decide⟩) (Sim.scale ha0 fun i => ?_)
  rw [ha]
  match i with
  | 0 => show a = a * 1; omega
  | i + 1 => show (0 : Int) = a * 0; omega
theorem aMY {P : Nat} (hP : Prm P) {f g : List Int} (rf : RowOk f) (rg : RowOk g) (hf : f ≠ []) (hg : g ≠ []) (lf : ¬ (P : Int) ∣ lastI f) (lg : ¬ (P : Int) ∣ lastI g) (h : (sharedM P (modM P g).length (modM P f) (modM P g)).length = 1) : plainB (sh f g) = [1] := by
  have h1 := (aQM hP rf rg hf hg lf lg).1
  have h2 := aWI (f := f) rg hf (yJ rf hf)
  have h3 := List.length_pos_iff.mpr h2
  exact aFX (aBW rf rg) (by omega)
theorem aMX {P : Nat} (hP : Prm P) {f g r u v : List Int} (rf : RowOk f) (rg : RowOk g) (hf : f ≠ []) (hg : g ≠ []) (lf : ¬ (P : Int) ∣ lastI f) (lg : ¬ (P : Int) ∣ lastI g)
    (ru : RowOk u) (rv : RowOk v) (rr : RowOk r) (hl : r.length = (sharedM P (modM P g).length (modM P f) (modM P g)).length) (ef : f = timesL u r) (eg : g = timesL v r) : plainB (sh f g) = plainB r := by
  obtain ⟨h1, h0⟩ := aQM hP rf rg hf hg lf lg
  have hr : r ≠ [] := fun z => by rw [z] at hl; exact h0 (List.eq_nil_of_length_eq_zero hl.symm)
  exact aSJ ru rv rr hr ef eg (aWI rg hf (yJ rf hf)) (by omega)
end My
namespace My
open PySem L2 L2.EV PyProof.Rows
def PrB (P : Nat) : Prop := Prm P /\ P < 2 ^ 4423
theorem mok {x y : Int} (hx : x.natAbs < 2 ^ 4423) (hy : y.natAbs < 2 ^ 4423) : IntMulOk x y := aMA (k := 4423) (by decide) hx hy
structure Iv (P : Nat) (a b u v : Int) : Prop where
  b0 : 0 <= b
  a0 : 0 < a
  sg : u * v <= 0
  sm : a * (v.natAbs : Int) + b * (u.natAbs : Int) = P
  aP : a <= P
theorem Iv.next {P : Nat} {a b u v : Int} (h : Iv P a b u v) (hb : 1 < b) (hbP : b <= P) : Iv P b (a - a / b * b) v (u - a / b * v) := by
  have h0 := h.a0
  have er : a - a / b * b = a % b := by
    have := Int.emod_add_mul_ediv a b
    rw [Int.mul_comm] at this; omega
  have r0 := Int.emod_nonneg a (show b ≠ 0 by omega)
  have m0 : 0 <= a / b := Int.ediv_nonneg (by omega) (by omega)
  have sg := h.sg
  have sm := h.sm
  have key : ((u - a / b * v).natAbs : Int) = (u.natAbs : Int) + a / b * (v.natAbs : Int) := by
    generalize a / b = m at m0
    rcases Int.le_total 0 u with hu | hu
    . rcases Int.le_total 0 v with hv | hv
      . have z : u * v = 0 := Int.le_antisymm sg (Int.mul_nonneg hu hv)
        rcases Int.mul_eq_zero.mp z with e | e
        . subst e
          have e1 : (v.natAbs : Int) = v := Int.natAbs_of_nonneg hv
          rw [e1, Int.zero_sub, Int.natAbs_neg, Int.natAbs_of_nonneg (Int.mul_nonneg m0 hv)]; simp
        . subst e; simp
      . have e1 : (v.natAbs : Int) = -v := by omega
        have e2 : 0 <= -(m * v) := by rw [<- Int.mul_neg]; exact Int.mul_nonneg m0 (by omega)
        rw [e1, Int.natAbs_of_nonneg (by omega), Int.natAbs_of_nonneg hu, Int.mul_neg]; omega
    . rcases Int.le_total 0 v with hv | hv
      . have e1 : (v.natAbs : Int) = v := Int.natAbs_of_nonneg hv
        have e2 : 0 <= m * v := Int.mul_nonneg m0 hv
        rw [e1]
        omega
      . have z : u * v = 0 := Int.le_antisymm sg (Int.mul_nonneg_of_nonpos_of_nonpos hu hv)
        rcases Int.mul_eq_zero.mp z with e | e
        . subst e
          have e1 : (v.natAbs : Int) = -v := by omega
          have e2 : 0 <= -(m * v) := by rw [<- Int.mul_neg]; exact Int.mul_nonneg m0 (by omega)
          rw [e1, Int.zero_sub, Int.natAbs_of_nonneg e2, Int.mul_neg]; simp
        . subst e; simp
  refine ⟨by omega, by omega, ?_, ?_, hbP⟩
  . have : v * (u - a / b * v) = u * v - a / b * (v * v) := by grind
    have q : 0 <= a / b * (v * v) := Int.mul_nonneg m0 (by
      rcases Int.le_total 0 v with z | z
      . exact Int.mul_nonneg z z
      . exact Int.mul_nonneg_of_nonpos_of_nonpos z z)
    omega
  . rw [key]; grind
theorem Iv.bd {P : Nat} {a b u v : Int} (h : Iv P a b u v) (hP : P < 2 ^ 4423) : v.natAbs < 2 ^ 4423 := by
  have h0 := h.a0
  have sm := h.sm
  have q1 : 0 <= b * (u.natAbs : Int) := Int.mul_nonneg h.b0 (by omega)
  have q2 : 1 * (v.natAbs : Int) <= a * (v.natAbs : Int) := Int.mul_le_mul_of_nonneg_right (by omega) (by omega)
  omega
theorem aPY {X : Cx} {c : Expr} {body : List Stmt} (R : Int -> Int -> Int -> Int -> Rho) {P : Nat} (h1 : ∀ (a b u v : Int), EvT X (R a b u v) c (decide (1 < b))) (h2 : ∀ (a b u v : Int), 1 < b -> b <= (P : Int) -> Iv P a b u v -> EvSs X (R a b u v) body (.nx (R b (a - a / b * b) v (u - a / b * v)))) :
    ∀ (n : Nat) (a b u v : Int), b.toNat <= n -> b <= (P : Int) -> Iv P a b u v -> ∃ (m : Nat) (q : Int × Int × Int), WRun X c body m (R a b u v) (.nx (R q.1 q.2.1 q.2.2 (invGo n a b u v)))
  | 0, a, b, u, v, hn, hb, hi => ⟨0, (a, b, u), .stop (EvT.eq (h1 a b u v) (decide_eq_false (by omega)))⟩
  | n + 1, a, b, u, v, hn, hb, hi => by
    unfold invGo
    by_cases q : 1 < b
    . rw [if_pos q]
      have er : a - a / b * b = a % b := by
        have := Int.emod_add_mul_ediv a b
        rw [Int.mul_comm] at this; omega
      have r1 := Int.emod_lt_of_pos a (show 0 < b by omega)
      have r0 := Int.emod_nonneg a (show b ≠ 0 by omega)
      obtain ⟨m, q', w⟩ := aPY R h1 h2 n b (a - a / b * b) v (u - a / b * v) (by omega) (by omega) (hi.next q hb)
      exact ⟨m + 1, q', .step (EvT.eq (h1 a b u v) (decide_eq_true q)) (h2 a b u v q hb hi) w⟩
    . rw [if_neg q]
      exact ⟨0, (a, b, u), .stop (EvT.eq (h1 a b u v) (decide_eq_false q))⟩
def aAA (ds : List D) (d : D) : Prop := ∃ (x : Int) (P : Nat), ds = [.int x, .int P] /\ PrB P /\ d = .int (invF P x)
theorem aHH : ∀ ds d, aAA ds d -> ds.length = 2 := by rintro _ _ ⟨a, b, rfl, _⟩; rfl
def Lo (P : Int) (f : List Int) : Prop := ∀ x ∈ f, 0 <= x /\ x < P
def wZ (ds : List D) (d : D) : Prop := ∃ (g : List Int) (P : Nat), ds = [intsD g, .int P] /\ PrB P /\ g ≠ [] /\ g.length < 100 /\ Lo P g /\ d = intsD (monM P g)
theorem aHG : ∀ ds d, wZ ds d -> ds.length = 2 := by rintro _ _ ⟨a, b, rfl, _⟩; rfl
theorem eAD {P : Nat} (h : PrB P) (x : Int) : 0 <= invF P x /\ invF P x < P := by
  have := h.1.two
  exact ⟨Int.emod_nonneg _ (by omega), Int.emod_lt_of_pos _ (by omega)⟩
theorem aUC {P : Nat} (h : PrB P) {x : Int} (hx : 0 <= x /\ x < P) : x.natAbs < 2 ^ 4423 := by
  have := h.2
  omega
theorem aVB {X : Cx} {N : List Str} {sc : Scope} {c : Expr} {body rest : List Stmt} {ρ : Rho} {o : Out} {pos : Pos} {α : Type} (t : At X N sc) {R : α -> Rho} (h : ∃ (m : Nat) (q : α), WRun X c body m ρ (.nx (R q))) (h2 : ∀ q, EvSs X (R q) rest o) : EvSs X ρ (.While c body [] pos :: rest) o := by
  obtain ⟨m, q, w⟩ := h
  exact yD (jY t ⟨m, w⟩) (h2 q)
section
variable {P : Program} {w : World} {K : PySem.W.Frag} {mg : Str -> Option Value} {base : Heap} {k : Nat} {X : Cx}
theorem aNG (h : DefX P w K mg base k N_inverse_of (defScope jF) X) :
    ∀ ds d, aAA ds d -> EvSs X (ds.map Sl.val ++ List.replicate (N_inverse_of.length - ds.length) Sl.un) (defBody jF) (.rt d) := by
  rintro ds d ⟨x, p, rfl, hp, rfl⟩
  have t := h.at'
  haveI := h.fnT
  have p2 := hp.1.two
  have pb := hp.2
  have r0 := Int.emod_nonneg x (show (p : Int) ≠ 0 by omega)
  have r1 := Int.emod_lt_of_pos x (show (0 : Int) < p by omega)
  have iv : Iv p (p : Int) (x % p) 0 1 := ⟨r0, by omega, by decide, by simp, by omega⟩
  show EvSs X [.val (.int x), .val (.int p), .un, .un, .un, .un, .un] _ _
  refine yD (aHC t (zC (yB (yA t 1 rfl) (yB (yO (yA t 0 rfl) (yA t 1 rfl) (by omega)) (yB yC (yB yC yE))))) (aGQ t (zY (yS t 2) (zY (yS t 3) (zY (yS t 4) (zY (yS t 5) aCJ)))))) ?_
  refine aVB t (R := fun q : Int × Int × Int => [.val (.int x), .val (.int p), .val (.int q.1), .val (.int q.2.1), .val (.int q.2.2), .val (.int (invGo (x % p).toNat (p : Int) (x % p) 0 1)), .un]) (aPY (P := p) (fun a b u v => [.val (.int x), .val (.int p), .val (.int a), .val (.int b), .val (.int u), .val (.int v), .un]) (fun a b u v => ?_) (fun a b u v hb hbp hi => ?_) (x % p).toNat (p : Int) (x % p) 0 1 (Nat.le_refl _) (by omega) iv) fun q => ?_
  . exact EvT.eq (aOG (yA t 3 rfl) yC) rfl
  . have ha0 := hi.a0
    have haP := hi.aP
    have m0 : 0 <= a / b := Int.ediv_nonneg (by omega) (by omega)
    have m1 : a / b <= a := Int.ediv_le_self _ (by omega)
    have vb := hi.bd hp.2
    have mb : (a / b).natAbs < 2 ^ 4423 := by omega
    refine EvSs.weak (yD (zK (d := .int (a / b)) t 6 (aEC t (yA t 2 rfl) (yA t 3 rfl) (by omega))) (yG (aHC t (zC (yB (yA t 3 rfl) (yB (qE (yA t 2 rfl) (yY (yA t 6 rfl) (yA t 3 rfl) (mok mb (by omega)))) (yB (yA t 5 rfl) (yB (qE (yA t 4 rfl) (yY (yA t 6 rfl) (yA t 5 rfl) (mok mb vb))) yE))))) (aGQ t (zY (yS t 2) (zY (yS t 3) (zY (yS t 4) (zY (yS t 5) aCJ)))))))) (.keep (.keep (.keep (.keep (.keep (.keep (.forget .nil)))))))
  . exact yG (zI (yO (yA t 5 rfl) (yA t 1 rfl) (by omega)))
theorem aNF (h : DefX P w K mg base k N_made_monic (defScope jE) X) (cI : Callee X "inverse_of" aAA) :
    ∀ ds d, wZ ds d -> EvSs X (ds.map Sl.val ++ List.replicate (N_made_monic.length - ds.length) Sl.un) (defBody jE) (.rt d) := by
  rintro ds d ⟨g, p, rfl, hp, hg, hl, lo, rfl⟩
  have t := h.at'
  haveI := h.fnT
  have p2 := hp.1.two
  have iv := eAD hp (lastI g)
  show EvSs X [.val (intsD g), .val (.int p), .un] _ _
  refine yD (zK t 2 (yF t cI (yB (yU (EvE.ql (yA t 0 rfl)) (jH yC) (qF hg)) (yB (yA t 1 rfl) yE)) ⟨_, p, rfl, hp, rfl⟩)) ?_
  refine yG (zI (EvN.toE (vC (rs := (monM p g).map D.int) t ["numbers", "prime", "scale", "number"] (csc (by decide +kernel)) (aBL (yA t 0 rfl)) (by rw [List.length_map]; exact small (by omega)) fun X' cx => ?_)))
  have t' := cx.at'
  exact CRun.ints (fun x => x * invF p (lastI g) % p) (fun x => [.val (intsD g), .val (.int p), .val (.int (invF p (lastI g))), .val (.int x)]) (fun d hd => yK t' 3) (fun d hd e he => yK t' 3) fun d hd =>
    yO (yY (yA t' 3 rfl) (yA t' 2 rfl) (mok (aUC hp (lo d hd)) (aUC hp iv))) (yA t' 1 rfl) (by omega)
end
end My
namespace My
open PySem L2 L2.EV PyProof.Rows
def stepI (P : Int) (g r : List Int) (top : Int) (i : Nat) : List Int := (List.range r.length).map fun j => if r.length - (g.length - 1) <= j /\ j < r.length - (g.length - 1) + i then (r.getD j 0 - top * g.getD (j - (r.length - (g.length - 1))) 0) % P else r.getD j 0
theorem jX (P : Int) (g r : List Int) (top : Int) (i : Nat) : (stepI P g r top i).length = r.length := by unfold stepI; rw [List.length_map, List.length_range]
theorem aBG {P : Int} {g r : List Int} {top : Int} {i j : Nat} (h : j < r.length) : (stepI P g r top i).getD j 0 = if r.length - (g.length - 1) <= j /\ j < r.length - (g.length - 1) + i then (r.getD j 0 - top * g.getD (j - (r.length - (g.length - 1))) 0) % P else r.getD j 0 := by
  unfold stepI
  rw [List.getD_eq_getElem?_getD, List.getElem?_map, List.getElem?_range h]; rfl
theorem wU {f g : List Int} (hl : f.length = g.length) (h : ∀ j, j < f.length -> f.getD j 0 = g.getD j 0) : f = g := by
  refine List.ext_getElem hl fun j h1 h2 => ?_
  have := h j h1
  rw [List.getD_eq_getElem?_getD, List.getElem?_eq_getElem h1, List.getD_eq_getElem?_getD, List.getElem?_eq_getElem h2] at this
  exact this
theorem aQV (P : Int) (g r : List Int) (top : Int) : stepI P g r top 0 = r := by
  refine wU (jX _ _ _ _ _) fun j hj => ?_
  rw [jX] at hj
  rw [aBG hj, if_neg (by omega)]
theorem aSG (P : Int) {g r : List Int} (top : Int) (h : g.length - 1 <= r.length) : stepI P g r top (g.length - 1) = stepM P g r top := by
  refine wU (by rw [jX, aBF]) fun j hj => ?_
  rw [jX] at hj
  rw [aBG hj]
  unfold stepM
  rw [List.getD_eq_getElem?_getD (l := List.map _ _), List.getElem?_map, List.getElem?_range hj]
  show _ = if r.length - (g.length - 1) <= j then _ else _
  by_cases q : r.length - (g.length - 1) <= j
  . rw [if_pos ⟨q, by omega⟩, if_pos q]
  . rw [if_neg (fun z => q z.1), if_neg q]
theorem aQW (P : Int) {g r : List Int} (top : Int) {i : Nat} (hi : i < g.length - 1) (h : g.length - 1 <= r.length) : stepI P g r top (i + 1) = (stepI P g r top i).set (r.length - (g.length - 1) + i) (((stepI P g r top i).getD (r.length - (g.length - 1) + i) 0 - top * g.getD i 0) % P) := by
  refine wU (by rw [jX, List.length_set, jX]) fun j hj => ?_
  rw [jX] at hj
  have hs : r.length - (g.length - 1) + i < r.length := by omega
  rw [aBG hj, aBG hs, if_neg (show ¬ (r.length - (g.length - 1) <= r.length - (g.length - 1) + i /\ r.length - (g.length - 1) + i < r.length - (g.length - 1) + i) by omega)]
  rw [List.getD_eq_getElem?_getD (l := List.set _ _ _), List.getElem?_set]
  by_cases q : r.length - (g.length - 1) + i = j
  . rw [if_pos q, if_pos (by omega), if_pos (by rw [jX]; omega)]
    show _ = (r.getD (r.length - (g.length - 1) + i) 0 - top * g.getD i 0) % P
    rw [<- q, show r.length - (g.length - 1) + i - (r.length - (g.length - 1)) = i by omega]
  . rw [if_neg q, <- List.getD_eq_getElem?_getD, aBG hj]
    by_cases z : r.length - (g.length - 1) <= j /\ j < r.length - (g.length - 1) + i
    . rw [if_pos z, if_pos (by omega)]
    . rw [if_neg z, if_neg (by omega)]
theorem aWF {P : Nat} (hP : 0 < (P : Int)) {g r : List Int} {top : Int} (lr : Lo P r) : Lo P (stepM P g r top) := fun x hx => by
  unfold stepM at hx
  obtain ⟨i, hi, rfl⟩ := List.mem_map.mp hx
  have hi' := List.mem_range.mp hi
  by_cases hz : r.length - (g.length - 1) <= i
  . simp only [if_pos hz]
    exact ⟨Int.emod_nonneg _ (by omega), Int.emod_lt_of_pos _ hP⟩
  . simp only [if_neg hz]
    rw [List.getD_eq_getElem?_getD, List.getElem?_eq_getElem hi']
    exact lr _ (List.getElem_mem hi')
theorem aSS {X : Cx} {c : Expr} {body : List Stmt} (g : List Int) (R : List Int -> Rho) {P : Nat} (hP : 0 < (P : Int)) (hg : g ≠ []) (h1 : ∀ r, r.length < 100 -> EvT X (R r) c (decide (g.length <= r.length)))
    (h2 : ∀ ys a, ys.length < 100 -> g.length <= ys.length + 1 -> Lo P (ys ++ [a]) -> EvSs X (R (ys ++ [a])) body (.nx (R (stepM P g ys a)))) :
    ∀ (n : Nat) (r : List Int), r.length <= n -> r.length < 100 -> Lo P r -> ∃ m, WRun X c body m (R r) (.nx (R (restM P g n r)))
  | 0, r, hn, hq, _ => ⟨0, .stop (EvT.eq (h1 r hq) (decide_eq_false (by have := List.length_pos_iff.mpr hg; omega)))⟩
  | n + 1, r, hn, hq, lr => by
    unfold restM
    by_cases h : g.length <= r.length
    . rw [if_pos h]
      have hgp := List.length_pos_iff.mpr hg
      have hr : r ≠ [] := fun z => by rw [z] at h; simp at h; exact hg h
      have er := aAH hr
      have hl : r.dropLast.length + 1 = r.length := by
        have := congrArg List.length er
        rw [List.length_append] at this
        simpa using this.symm
      have ld : Lo P r.dropLast := fun x hx => lr x ((List.dropLast_sublist r).subset hx)
      obtain ⟨m, w⟩ := aSS g R hP hg h1 h2 n (stepM P g r.dropLast (lastI r)) (by rw [aBF]; omega) (by rw [aBF]; omega) (aWF hP ld)
      have := h2 r.dropLast (lastI r) (by omega) (by omega) (by rw [<- er]; exact lr)
      rw [<- er] at this
      exact ⟨m + 1, .step (EvT.eq (h1 r hq) (decide_eq_true h)) this w⟩
    . rw [if_neg h]
      exact ⟨0, .stop (EvT.eq (h1 r hq) (decide_eq_false h))⟩
def vU (ds : List D) (d : D) : Prop := ∃ (f g : List Int) (P : Nat), ds = [intsD f, intsD g, .int P] /\ PrB P /\ g ≠ [] /\ f.length < 100 /\ g.length < 100 /\ Lo P f /\ Lo P g /\ d = intsD (trimI (restM P g f.length f))
theorem aGF : ∀ ds d, vU ds d -> ds.length = 3 := by rintro _ _ ⟨a, b, p, rfl, _⟩; rfl
theorem aPN {P : Int} {g : List Int} : ∀ (n : Nat) (r : List Int), (restM P g n r).length <= r.length
  | 0, r => Nat.le_refl _
  | n + 1, r => by
    unfold restM
    split
    . refine Nat.le_trans (aPN n _) ?_
      rw [aBF, List.length_dropLast]; omega
    . exact Nat.le_refl _
section
variable {P : Program} {w : World} {K : PySem.W.Frag} {mg : Str -> Option Value} {base : Heap} {k : Nat} {X : Cx}
theorem aKP (h : DefX P w K mg base k N_rest_modulo (defScope zF) X) (m_list : mg "list" = none) (m_len : mg "len" = none) (m_range : mg "range" = none) (cR : Callee X "row_of" aAY) :
    ∀ ds d, vU ds d -> EvSs X (ds.map Sl.val ++ List.replicate (N_rest_modulo.length - ds.length) Sl.un) (defBody zF) (.rt d) := by
  rintro ds d ⟨f, g, p, rfl, hp, hg, hf, hgl, lf, lg, rfl⟩
  have t := h.at'
  haveI := h.fnT
  have b1 : Blt X (defScope zF) "range" (.type "range") := yN (by rw [h.mg']; exact m_range)
  have b2 : Blt X (defScope zF) "len" (.builtin "len") := yN (by rw [h.mg']; exact m_len)
  have b3 : Blt X (defScope zF) "list" (.type "list") := yN (by rw [h.mg']; exact m_list)
  have p2 := hp.1.two
  have hgp := List.length_pos_iff.mpr hg
  show EvSs X [.val (intsD f), .val (intsD g), .val (.int p), .un, .un, .un, .un, .un] _ _
  refine yD (aYZ (us := f.map D.int) (v := .int ((g.length - 1 : Nat) : Int)) t 3 4 (aCI t b3 (EvE.ql (yA t 0 rfl))) (EvE.eq (qE (yT t b2 (EvE.ql (yA t 1 rfl))) yC) (by rw [List.length_map]; congr 1; omega)) (by decide)) ?_
  refine yD (ρ' := [.val (intsD f), .val (intsD g), .val (.int p), .own ((restM p g f.length f).map D.int), .val (.int ((g.length - 1 : Nat) : Int)), .un, .un, .un]) (jY t (aSS g (P := p) (fun r => [.val (intsD f), .val (intsD g), .val (.int p), .own (r.map D.int), .val (.int ((g.length - 1 : Nat) : Int)), .un, .un, .un]) (by omega) hg (fun r hr => ?_) (fun ys a hy hgy lo => ?_) f.length f (Nat.le_refl _) hf lf)) ?_
  . refine EvT.eq (aOG (yT t b2 (jN t 3 rfl)) (yA t 4 rfl)) ?_
    rw [List.length_map]
    by_cases z : g.length <= r.length
    . rw [decide_eq_true z, decide_eq_true (by omega)]
    . rw [decide_eq_false z, decide_eq_false (by omega)]
  . have lys : Lo p ys := fun x hx => lo x (by simp [hx])
    have la := lo a (by simp)
    rw [<- aSG (p : Int) a (show g.length - 1 <= ys.length by omega)]
    generalize hsh : ys.length - (g.length - 1) = s0
    refine EvSs.weak (ρ1 := [.val (intsD f), .val (intsD g), .val (.int p), .own ((stepI p g ys a (g.length - 1)).map D.int), .val (.int ((g.length - 1 : Nat) : Int)), .val (.int a), .val (.int (s0 : Int)), .un]) ?_ (.keep (.keep (.keep (.keep (.keep (.forget (.forget (.keep .nil))))))))
    refine yD (ρ' := [.val (intsD f), .val (intsD g), .val (.int p), .own (ys.map D.int), .val (.int ((g.length - 1 : Nat) : Int)), .val (.int a), .un, .un]) (aPL (xs := ys.map D.int) (d := .int a) t 3 5 (by rw [List.map_append]; rfl) (by decide)) ?_
    refine yD (zK t 6 (EvE.eq (qE (yT t b2 (jN t 3 rfl)) (yA t 4 rfl)) (show _ = D.int (s0 : Int) by rw [List.length_map]; congr 1; omega))) ?_
    refine yG (aAP t (qX t b1 (yA t 4 rfl) (by omega) (by omega)) (FRun.uptoE (fun i => [.val (intsD f), .val (intsD g), .val (.int p), .own ((stepI p g ys a i).map D.int), .val (.int ((g.length - 1 : Nat) : Int)), .val (.int a), .val (.int (s0 : Int)), .un]) (fun i d hi => ?_) (by rw [aQV]; rfl) ?_))
    . obtain ⟨hin, rfl⟩ := qV hi
      have hi' : i < g.length - 1 := by simpa using hin
      have hlen := jX (p : Int) g ys a i
      have e1 : ((s0 : Int) + (i : Int)) = ((s0 + i : Nat) : Int) := by omega
      have gi : 0 <= g.getD i 0 /\ g.getD i 0 < p := by
        rw [List.getD_eq_getElem?_getD, List.getElem?_eq_getElem (show i < g.length by omega)]
        exact lg _ (List.getElem_mem _)
      refine ⟨_, yS t 7, EvSs.weak (yG (aHC t (yO (qE (i := (stepI p g ys a i).getD (s0 + i) 0) (yU (jN t 3 rfl) (yW (yA t 6 rfl) (yA t 7 rfl)) ?_) (yY (i := a) (j := g.getD i 0) (yA t 5 rfl) (yU (EvE.ql (yA t 1 rfl)) (yA t 7 rfl) (zN (by omega))) (mok (aUC hp la) (aUC hp gi)))) (yA t 2 rfl) (by omega)) (aGR (j := s0 + i) t 3 rfl (yW (yA t 6 rfl) (yA t 7 rfl)) ?_))) ?_⟩
      . rw [e1]; exact zN (by omega)
      . rw [List.length_map]; exact aGI (by omega) (by omega) (by omega)
      . rw [aQW (p : Int) a hi' (by omega), hsh, List.map_set]
        exact .keep (.keep (.keep (.keep (.keep (.keep (.keep (.forget .nil)))))))
    . have e : (rangeD 0 ((g.length - 1 : Nat) : Int).toNat).length = g.length - 1 := by simp [rangeD]
      rw [e]
  . have l2 := aPN (P := (p : Int)) (g := g) f.length f
    exact qW 3 rfl (yG (zI (EvN.toE (aCI t b3 (EvE.qt (yF t cR (yB (yA t 3 rfl) yE) ⟨restM p g f.length f, rfl, by omega, rfl⟩))))))
end
end My
namespace My
open PySem L2 L2.EV PyProof.Rows
theorem aSH {X : Cx} {c : Expr} {body : List Stmt} (R : List Int -> List Int -> Rho) {P : Nat} (hP : Prm P) (h1 : ∀ f g, EvT X (R f g) c (!decide (g = [])))
    (h2 : ∀ f g, g ≠ [] -> InM P f -> InM P g -> f.length < 100 -> g.length < 100 -> EvSs X (R f g) body (.nx (R (monM P g) (trimI (restM P (monM P g) f.length f))))) :
    ∀ (n : Nat) (f g : List Int), g.length <= n -> InM P f -> InM P g -> f.length < 100 -> g.length < 100 -> ∃ m, WRun X c body m (R f g) (.nx (R (sharedM P n f g) []))
  | 0, f, g, hn, hf, hg, lf, lg => by
    have e : g = [] := List.eq_nil_of_length_eq_zero (by omega)
    subst e
    exact ⟨0, .stop (EvT.eq (h1 f []) rfl)⟩
  | n + 1, f, g, hn, hf, hg, lf, lg => by
    unfold sharedM
    by_cases q : g = []
    . rw [if_pos q]; subst q; exact ⟨0, .stop (EvT.eq (h1 f []) rfl)⟩
    . rw [if_neg q]
      have p2 := hP.two
      obtain ⟨m1, m2⟩ := aNX hP hg q
      have ml := aCX (P : Int) g
      have gp := List.length_pos_iff.mpr q
      have rl := aCT (P := (P : Int)) (g := monM P g) f.length f (Nat.le_refl _) (by omega)
      have tl := qY (restM P (monM P g) f.length f)
      have ri : InM P (trimI (restM P (monM P g) f.length f)) := ⟨trimOk _, fun x hx => aJD (by omega) _ _ _ hf.2 x (aBR hx)⟩
      obtain ⟨m, w⟩ := aSH R hP h1 h2 n (monM P g) (trimI (restM P (monM P g) f.length f)) (by omega) m1 ri (by omega) (by omega)
      exact ⟨m + 1, .step (EvT.eq (h1 f g) (by rw [decide_eq_false q]; rfl)) (h2 f g q hf hg lf lg) w⟩
abbrev shM (P : Int) (f g : List Int) : List Int := sharedM P (modM P g).length (modM P f) (modM P g)
def vD (ds : List D) (d : D) : Prop := ∃ (f g : List Int) (P : Nat), ds = [rowD f, rowD g, .int P] /\ PrB P /\ f ≠ [] /\ g ≠ [] /\ f.length < 100 /\ g.length < 100 /\ ¬ (P : Int) ∣ lastI f /\ ¬ (P : Int) ∣ lastI g /\ d = intsD (shM P f g)
theorem aDW : ∀ ds d, vD ds d -> ds.length = 3 := by rintro _ _ ⟨a, b, p, rfl, _⟩; rfl
def liftL (xs : List Int) (l P : Int) : List Int := xs.map fun x => if 2 * (x * l % P) > P then x * l % P - P else x * l % P
def aFA (ds : List D) (d : D) : Prop := ∃ (xs : List Int) (l : Int) (P : Nat), ds = [intsD xs, .int l, .int P] /\ PrB P /\ xs.length < 100 /\ Lo P xs /\ l.natAbs < 2 ^ 1200 /\ d = rowD (plainB (trimI (liftL xs l P)))
theorem aRJ : ∀ ds d, aFA ds d -> ds.length = 3 := by rintro _ _ ⟨a, b, p, rfl, _⟩; rfl
section
variable {P : Program} {w : World} {K : PySem.W.Frag} {mg : Str -> Option Value} {base : Heap} {k : Nat} {X : Cx}
theorem aGU (h : DefX P w K mg base k N_shared_modulo (defScope zW) X) (cM : Callee X "made_monic" wZ) (cR : Callee X "rest_modulo" vU) :
    ∀ ds d, vD ds d -> EvSs X (ds.map Sl.val ++ List.replicate (N_shared_modulo.length - ds.length) Sl.un) (defBody zW) (.rt d) := by
  rintro ds d ⟨f, g, p, rfl, hp, hf, hg, lf, lg, nf, ng, rfl⟩
  have t := h.at'
  haveI := h.fnT
  have p2 := hp.1.two
  obtain ⟨i1, n1⟩ := aDV hp.1 hf nf
  obtain ⟨i2, n2⟩ := aDV hp.1 hg ng
  have ml1 : (modM p f).length = f.length := by unfold modM; rw [List.length_map]
  have ml2 : (modM p g).length = g.length := by unfold modM; rw [List.length_map]
  show EvSs X [.val (rowD f), .val (rowD g), .val (.int p)] _ _
  refine yD (ρ' := [.val (intsD (modM p f)), .val (intsD (modM p g)), .val (.int p)]) (aLO t 0 1 (EvN.toE (vC (rs := (modM p f).map D.int) t ["f", "g", "prime", "number"] (csc (by decide +kernel)) (aBZ (yA t 0 rfl)) (by rw [List.length_map]; exact small (by omega)) fun X' cx => ?_)) (EvN.toE (vC (rs := (modM p g).map D.int) t ["f", "g", "prime", "number"] (csc (by decide +kernel)) (aBZ (yA t 1 rfl)) (by rw [List.length_map]; exact small (by omega)) fun X' cx => ?_)) (by decide)) ?_
  . have t' := cx.at'
    exact CRun.ints (fun x => x % p) (fun x => [.val (rowD f), .val (rowD g), .val (.int p), .val (.int x)]) (fun d hd => yK t' 3) (fun d hd e he => yK t' 3) fun d hd => yO (yA t' 3 rfl) (yA t' 2 rfl) (by omega)
  . have t' := cx.at'
    exact CRun.ints (fun x => x % p) (fun x => [.val (rowD f), .val (rowD g), .val (.int p), .val (.int x)]) (fun d hd => yK t' 3) (fun d hd e he => yK t' 3) fun d hd => yO (yA t' 3 rfl) (yA t' 2 rfl) (by omega)
  refine yD (ρ' := [.val (intsD (shM p f g)), .val (intsD []), .val (.int p)]) (jY t (aSH (P := p) (fun f g => [.val (intsD f), .val (intsD g), .val (.int p)]) hp.1 (fun f g => ?_) (fun f g hg hf' hg' lf lg => ?_) (modM p g).length (modM p f) (modM p g) (Nat.le_refl _) i1 i2 (by omega) (by omega))) (yG (zI (yA t 0 rfl)))
  . exact aDG t (EvE.p (d := intsD g) (yA t 1 rfl)) (EvE.p (d := intsD []) (EvN.toE (vH yE))) (vY g) (vY []) (by rw [show toP (intsD g) = PyData.list (toPs (g.map D.int)) from rfl, show toP (intsD []) = PyData.list (toPs (([] : List Int).map D.int)) from rfl, aOI])
  . have ml := aCX (p : Int) g
    obtain ⟨m1, m2⟩ := aNX hp.1 hg' hg
    have mn : monM p g ≠ [] := fun z => by rw [z] at ml; exact hg (List.eq_nil_of_length_eq_zero ml.symm)
    refine yD (zK t 1 (yF t cM (yB (yA t 1 rfl) (yB (yA t 2 rfl) yE)) ⟨g, p, rfl, hp, hg, by omega, hg'.2, rfl⟩)) (yG (aLO t 0 1 (yA t 1 rfl) (yF t cR (yB (yA t 0 rfl) (yB (yA t 1 rfl) (yB (yA t 2 rfl) yE))) ⟨f, monM p g, p, rfl, hp, mn, lf, by omega, hf'.2, m1.2, rfl⟩) (by decide)))
theorem aXL (h : DefX P w K mg base k N_lifted (defScope aAO) X) (cP : Callee X "plain_row" jT) (cR : Callee X "row_of" aAY) :
    ∀ ds d, aFA ds d -> EvSs X (ds.map Sl.val ++ List.replicate (N_lifted.length - ds.length) Sl.un) (defBody aAO) (.rt d) := by
  rintro ds d ⟨xs, l, p, rfl, hp, hl, lo, hlb, rfl⟩
  have t := h.at'
  haveI := h.fnT
  have p2 := hp.1.two
  have ll : (liftL xs l p).length = xs.length := by unfold liftL; rw [List.length_map]
  have tl := qY (liftL xs l p)
  show EvSs X [.val (intsD xs), .val (.int l), .val (.int p), .un] _ _
  refine yD (aBH (rs := (xs.map fun x => x * l % p).map D.int) t 3 ["numbers", "last", "prime", "rests", "number"] (csc (by decide +kernel)) (aBL (yA t 0 rfl)) (by rw [List.length_map]; exact small (by omega)) fun X' cx => ?_) ?_
  . have t' := cx.at'
    exact CRun.ints (fun x => x * l % p) (fun x => [.val (intsD xs), .val (.int l), .val (.int p), .un, .val (.int x)]) (fun d hd => yK t' 4) (fun d hd e he => yK t' 4) fun d hd => yO (yY (yA t' 4 rfl) (yA t' 1 rfl) (mok (aUC hp (lo d hd)) (Nat.lt_of_lt_of_le hlb (Nat.pow_le_pow_right (by decide) (by decide))))) (yA t' 2 rfl) (by omega)
  refine qW 3 rfl ?_
  refine yG (zI (yF t cP (yB (yF t cR (yB (d := intsD (liftL xs l p)) (EvE.eq (EvN.toE (vC (rs := ((xs.map fun x => x * l % p).map fun r => if 2 * r > (p : Int) then r - p else r).map D.int) t ["numbers", "last", "prime", "rests", "rest"] (csc (by decide +kernel)) (aBL (yA t 3 rfl)) (by rw [List.length_map, List.length_map]; exact small (by omega)) fun X' cx => ?_)) (by show D.lst _ = D.lst _; unfold liftL; rw [List.map_map (l := xs)]; rfl)) yE) ⟨_, rfl, by omega, rfl⟩) yE) ⟨_, rfl, by omega, fun hn => aAJ (trimOk _) hn, rfl⟩))
  have t' := cx.at'
  refine CRun.ints (fun r => if 2 * r > (p : Int) then r - p else r) (fun x => [.val (intsD xs), .val (.int l), .val (.int p), .val (intsD (xs.map fun x => x * l % p)), .val (.int x)]) (fun d hd => yK t' 4) (fun d hd e he => yK t' 4) fun d hd => ?_
  by_cases q : 2 * d > (p : Int)
  . rw [if_pos q]
    exact aIE (EvT.eq (aOG (yY yC (yA t' 4 rfl) (qO (by decide) (by decide))) (yA t' 2 rfl)) (decide_eq_true q)) (qE (yA t' 4 rfl) (yA t' 2 rfl))
  . rw [if_neg q]
    exact aGM (EvT.eq (aOG (yY yC (yA t' 4 rfl) (qO (by decide) (by decide))) (yA t' 2 rfl)) (decide_eq_false q)) (yA t' 4 rfl)
end
end My
namespace My
open PySem L2 L2.EV PyProof.Rows
def stepQ (g r : List Int) (m : Int) (i : Nat) : List Int := (List.range r.length).map fun j => if r.length - (g.length - 1) <= j /\ j < r.length - (g.length - 1) + i then r.getD j 0 - m * g.getD (j - (r.length - (g.length - 1))) 0 else r.getD j 0
theorem zH (g r : List Int) (m : Int) (i : Nat) : (stepQ g r m i).length = r.length := by unfold stepQ; rw [List.length_map, List.length_range]
theorem wC {g r : List Int} {m : Int} {i j : Nat} (h : j < r.length) : (stepQ g r m i).getD j 0 = if r.length - (g.length - 1) <= j /\ j < r.length - (g.length - 1) + i then r.getD j 0 - m * g.getD (j - (r.length - (g.length - 1))) 0 else r.getD j 0 := by
  unfold stepQ
  rw [List.getD_eq_getElem?_getD, List.getElem?_map, List.getElem?_range h]; rfl
theorem aQT (g r : List Int) (m : Int) : stepQ g r m 0 = r := by
  refine wU (zH _ _ _ _) fun j hj => ?_
  rw [zH] at hj
  rw [wC hj, if_neg (by omega)]
theorem aQU {g r : List Int} (m : Int) {i : Nat} (hi : i < g.length - 1) (h : g.length - 1 <= r.length) : stepQ g r m (i + 1) = (stepQ g r m i).set (r.length - (g.length - 1) + i) ((stepQ g r m i).getD (r.length - (g.length - 1) + i) 0 - m * g.getD i 0) := by
  refine wU (by rw [zH, List.length_set, zH]) fun j hj => ?_
  rw [zH] at hj
  have hs : r.length - (g.length - 1) + i < r.length := by omega
  rw [wC hj, wC hs, if_neg (show ¬ (r.length - (g.length - 1) <= r.length - (g.length - 1) + i /\ r.length - (g.length - 1) + i < r.length - (g.length - 1) + i) by omega)]
  rw [List.getD_eq_getElem?_getD (l := List.set _ _ _), List.getElem?_set]
  by_cases q : r.length - (g.length - 1) + i = j
  . rw [if_pos q, if_pos (by omega), if_pos (by rw [zH]; omega)]
    show _ = r.getD (r.length - (g.length - 1) + i) 0 - m * g.getD i 0
    rw [<- q, show r.length - (g.length - 1) + i - (r.length - (g.length - 1)) = i by omega]
  . rw [if_neg q, <- List.getD_eq_getElem?_getD, wC hj]
    by_cases z : r.length - (g.length - 1) <= j /\ j < r.length - (g.length - 1) + i
    . rw [if_pos z, if_pos (by omega)]
    . rw [if_neg z, if_neg (by omega)]
theorem aWE {g r : List Int} {m : Int} {c b : Nat} (hb : BB b g) (hc : BB c r) (hm : m.natAbs < 2 ^ c) (i : Nat) : BB (c + b + 1) (stepQ g r m i) := BB.of_get fun j => by
  by_cases hj : j < r.length
  . rw [wC hj]
    have h1 := hc.get j
    have up : ∀ {x : Nat}, x < 2 ^ c -> x < 2 ^ (c + b) := fun h => Nat.lt_of_lt_of_le h (Nat.pow_le_pow_right (by decide) (by omega))
    split
    . exact aAS (up h1) (yM hm (hb.get _))
    . exact Nat.lt_of_lt_of_le h1 (Nat.pow_le_pow_right (by decide) (by omega))
  . rw [yH (by rw [zH]; omega)]; exact Nat.pow_pos (by decide)
def qGo (g : List Int) : Nat -> List Int -> List Int -> Option (List Int × List Int)
  | 0, r, q => some (r, q)
  | n + 1, r, q => if g.length <= r.length then (if (lastI r).fmod (lastI g) = 0 then qGo g n (stepQ g r.dropLast ((lastI r).fdiv (lastI g)) (g.length - 1)) (q ++ [(lastI r).fdiv (lastI g)]) else none) else some (r, q)
def wqD (f g : List Int) : D := match qGo g f.length f [] with
  | none => .non
  | some (r, q) => if r.any (· != 0) = true then .non else rowD (trimI q.reverse)
theorem aXU {g : List Int} (hg : g ≠ []) : ∀ (n : Nat) (r q r' q' : List Int), r.length <= n -> qGo g n r q = some (r', q') -> ∃ φ, Fs φ /\ ∀ i, co r i = co r' i + cm g φ i
  | 0, r, q, r', q', _, h => by
    cases h
    refine ⟨fun _ => 0, ⟨0, fun _ _ => rfl⟩, fun i => ?_⟩
    have := wV g 0 (fun _ => 0) i
    simp only [Int.zero_mul] at this
    rw [this]; omega
  | n + 1, r, q, r', q', hn, h => by
    unfold qGo at h
    by_cases h1 : g.length <= r.length
    . rw [if_pos h1] at h
      by_cases h2 : (lastI r).fmod (lastI g) = 0
      . rw [if_pos h2] at h
        have hgp := List.length_pos_iff.mpr hg
        have hr : r ≠ [] := fun z => by rw [z] at h1; simp at h1; exact hg h1
        have er := aAH hr
        have hl : r.dropLast.length + 1 = r.length := by
          have := congrArg List.length er
          rw [List.length_append] at this
          simpa using this.symm
        obtain ⟨φ, fφ, e⟩ := aXU hg n _ _ r' q' (by rw [zH]; omega) h
        have em : lastI r = (lastI r).fdiv (lastI g) * lastI g := by
          have := Int.mul_fdiv_add_fmod (lastI r) (lastI g)
          rw [h2, Int.add_zero, Int.mul_comm] at this; exact this.symm
        generalize (lastI r).fdiv (lastI g) = m at em e
        refine ⟨fun k => φ k + m * (if r.dropLast.length - (g.length - 1) <= k then (if k - (r.dropLast.length - (g.length - 1)) = 0 then 1 else 0) else 0), fφ.add (Fs.sml (Fs.shift (φ := fun k => if k = 0 then 1 else 0) ⟨1, fun i hi => if_neg (by omega)⟩ _) m), fun i => ?_⟩
        rw [aVO, wV, aKM (φ := fun k => if k = 0 then 1 else 0)]
        have e0 := e i
        have ed : ∀ j, cm g (fun k => if k = 0 then 1 else 0) j = co g j := fun j => by
          show psG g (fun k => if k = 0 then 1 else 0) j g.length = _
          rw [aCU]
          by_cases hj : j < g.length
          . rw [if_pos ⟨Nat.zero_le _, by omega⟩, Nat.sub_zero]
          . rw [if_neg (by omega)]
            show (0 : Int) = g.getD j 0
            rw [yH (by omega)]
        have key : co r i = co (stepQ g r.dropLast m (g.length - 1)) i + m * (if r.dropLast.length - (g.length - 1) <= i then co g (i - (r.dropLast.length - (g.length - 1))) else 0) := by
          rcases Nat.lt_trichotomy i r.dropLast.length with z | z | z
          . have ec : co r i = r.dropLast.getD i 0 := by
              show r.getD i 0 = _
              conv => lhs; rw [er]
              rw [List.getD_eq_getElem?_getD, List.getElem?_append_left z, <- List.getD_eq_getElem?_getD]
            show _ = (stepQ g r.dropLast m (g.length - 1)).getD i 0 + _
            rw [ec, wC z]
            by_cases y : r.dropLast.length - (g.length - 1) <= i
            . rw [if_pos ⟨y, by omega⟩, if_pos y]
              show _ = _ + m * g.getD (i - (r.dropLast.length - (g.length - 1))) 0
              omega
            . rw [if_neg (fun z => y z.1), if_neg y]; omega
          . have ec : co r i = lastI r := by
              show r.getD i 0 = _
              conv => lhs; rw [er, z]
              rw [List.getD_eq_getElem?_getD, List.getElem?_append_right (Nat.le_refl _), Nat.sub_self]; rfl
            have el : g.getD (g.length - 1) 0 = lastI g := yR hg
            have eq : co (stepQ g r.dropLast m (g.length - 1)) i = 0 := yH (by rw [zH]; omega)
            rw [ec, eq, if_pos (by omega), show i - (r.dropLast.length - (g.length - 1)) = g.length - 1 by omega, em]
            show _ = 0 + m * g.getD (g.length - 1) 0
            rw [el]; omega
          . have ec : co r i = 0 := yH (by omega)
            have eq : co (stepQ g r.dropLast m (g.length - 1)) i = 0 := yH (by rw [zH]; omega)
            have eg : co g (i - (r.dropLast.length - (g.length - 1))) = 0 := yH (by omega)
            rw [ec, eq, eg]
            split <;> omega
        rw [key, e0]
        split
        . rw [ed]; omega
        . omega
      . rw [if_neg h2] at h; cases h
    . rw [if_neg h1] at h
      cases h
      refine ⟨fun _ => 0, ⟨0, fun _ _ => rfl⟩, fun i => ?_⟩
      have := wV g 0 (fun _ => 0) i
      simp only [Int.zero_mul] at this
      rw [this]; omega
theorem eBF {f g : List Int} (rf : RowOk f) (hg : g ≠ []) (h : wqD f g ≠ .non) : ∃ u, RowOk u /\ f = timesL u g := by
  unfold wqD at h
  cases e : qGo g f.length f [] with
  | none => rw [e] at h; exact absurd rfl h
  | some p =>
    obtain ⟨r', q'⟩ := p
    rw [e] at h
    by_cases z : r'.any (· != 0) = true
    . simp only [z, if_true] at h; exact absurd rfl h
    . obtain ⟨φ, ⟨N, hN⟩, eφ⟩ := aXU hg f.length f [] r' q' (Nat.le_refl _) e
      have hz : ∀ i, co r' i = 0 := fun i => by
        rcases Nat.lt_or_ge i r'.length with y | y
        . have hall : ∀ x ∈ r', x = 0 := fun x hx => by
            apply Classical.byContradiction
            intro hx0
            exact z (List.any_eq_true.mpr ⟨x, hx, by simpa using hx0⟩)
          show r'.getD i 0 = 0
          rw [List.getD_eq_getElem?_getD, List.getElem?_eq_getElem y]
          exact hall _ (List.getElem_mem y)
        . exact yH y
      refine ⟨trimI ((List.range N).map φ), trimOk _, aCD rf (trimOk _) fun i => ?_⟩
      have eu : co (trimI ((List.range N).map φ)) = φ := by
        funext i
        rw [aNN]
        show ((List.range N).map φ).getD i 0 = φ i
        rw [List.getD_eq_getElem?_getD, List.getElem?_map]
        by_cases y : i < N
        . rw [List.getElem?_range y]; rfl
        . rw [List.getElem?_eq_none (by simpa using y), hN i (by omega)]; rfl
      have h1 := congrFun (aEQ (trimI ((List.range N).map φ)) g) i
      rw [eu] at h1
      have h2 := eφ i
      rw [hz i, Int.zero_add] at h2
      exact h2.trans h1.symm
end My
namespace My
open PySem L2 L2.EV PyProof.Rows
def wqO (R : List Int -> List Int -> Rho) : Option (List Int × List Int) -> Out
  | none => .rt .non
  | some p => .nx (R p.1 p.2)
theorem aUS {c : Nat} {a b : Int} (h : a.natAbs < 2 ^ c) (hb : b ≠ 0) (hm : a.fmod b = 0) : (a.fdiv b).natAbs < 2 ^ c := by
  have e : a = b * a.fdiv b := by
    have := Int.mul_fdiv_add_fmod a b
    rw [hm, Int.add_zero] at this; exact this.symm
  have e2 : a.natAbs = b.natAbs * (a.fdiv b).natAbs := by
    conv => lhs; rw [e]
    exact Int.natAbs_mul _ _
  have : 1 <= b.natAbs := by omega
  have := Nat.mul_le_mul_right (a.fdiv b).natAbs this
  omega
theorem aRW {X : Cx} {c : Expr} {body : List Stmt} (g : List Int) (R : List Int -> List Int -> Rho) (hg : g ≠ []) (hl : lastI g ≠ 0) (hb : BB 50000 g) (h1 : ∀ r q, r.length < 100 -> EvT X (R r q) c (decide (g.length <= r.length)))
    (h2 : ∀ ys a q e, ys.length < 100 -> g.length <= ys.length + 1 -> q.length < 500 -> BB e (ys ++ [a]) -> e <= 900000 -> a.fmod (lastI g) = 0 -> EvSs X (R (ys ++ [a]) q) body (.nx (R (stepQ g ys (a.fdiv (lastI g)) (g.length - 1)) (q ++ [a.fdiv (lastI g)]))))
    (h3 : ∀ ys a q, ys.length < 100 -> g.length <= ys.length + 1 -> a.fmod (lastI g) ≠ 0 -> EvSs X (R (ys ++ [a]) q) body (.rt .non)) :
    ∀ (n : Nat) (r q : List Int) (e : Nat), r.length <= n -> r.length < 100 -> q.length + n < 500 -> BB e r -> e + n * 50001 <= 900000 -> ∃ m, WRun X c body m (R r q) (wqO R (qGo g n r q))
  | 0, r, q, e, hn, hr, hq, er, eb => ⟨0, .stop (EvT.eq (h1 r q hr) (decide_eq_false (by have := List.length_pos_iff.mpr hg; omega)))⟩
  | n + 1, r, q, e, hn, hr, hq, er, eb => by
    unfold qGo
    by_cases h : g.length <= r.length
    . rw [if_pos h]
      have hgp := List.length_pos_iff.mpr hg
      have hrn : r ≠ [] := fun z => by rw [z] at h; simp at h; exact hg h
      have es := aAH hrn
      have hlen : r.dropLast.length + 1 = r.length := by
        have := congrArg List.length es
        rw [List.length_append] at this
        simpa using this.symm
      have la : (lastI r).natAbs < 2 ^ e := er.last
      have bd : BB e r.dropLast := fun x hx => er x ((List.dropLast_sublist r).subset hx)
      by_cases hm : (lastI r).fmod (lastI g) = 0
      . rw [if_pos hm]
        have mb := aUS la hl hm
        obtain ⟨m, w⟩ := aRW g R hg hl hb h1 h2 h3 n (stepQ g r.dropLast ((lastI r).fdiv (lastI g)) (g.length - 1)) (q ++ [(lastI r).fdiv (lastI g)]) (e + 50000 + 1) (by rw [zH]; omega) (by rw [zH]; omega) (by simp; omega) (aWE hb bd mb _) (by rw [Nat.succ_mul] at eb; omega)
        have := h2 r.dropLast (lastI r) q e (by omega) (by omega) (by omega) (by rw [<- es]; exact er) (by omega) hm
        rw [<- es] at this
        exact ⟨m + 1, .step (EvT.eq (h1 r q hr) (decide_eq_true h)) this w⟩
      . rw [if_neg hm]
        have := h3 r.dropLast (lastI r) q (by omega) (by omega) hm
        rw [<- es] at this
        exact ⟨0, .ret (EvT.eq (h1 r q hr) (decide_eq_true h)) this⟩
    . rw [if_neg h]
      exact ⟨0, .stop (EvT.eq (h1 r q hr) (decide_eq_false h))⟩
theorem aVA {X : Cx} {N : List Str} {sc : Scope} {c : Expr} {body rest : List Stmt} {ρ : Rho} {d : D} {pos : Pos} (t : At X N sc) {R : List Int -> List Int -> Rho} {o : Option (List Int × List Int)} (h : ∃ m, WRun X c body m ρ (wqO R o)) (hn : o = none -> d = .non) (hs : ∀ r q, o = some (r, q) -> EvSs X (R r q) rest (.rt d)) : EvSs X ρ (.While c body [] pos :: rest) (.rt d) := by
  cases o with
  | none => rw [hn rfl]; exact aAK (jY t h)
  | some p => exact yD (jY t h) (hs p.1 p.2 rfl)
def zM (ds : List D) (d : D) : Prop := ∃ f g : List Int, ds = [rowD f, rowD g] /\ f.length <= 9 /\ g.length <= 9 /\ g ≠ [] /\ lastI g ≠ 0 /\ BB 1200 f /\ BB 50000 g /\ d = wqD f g
theorem aDB : ∀ ds d, zM ds d -> ds.length = 2 := by rintro _ _ ⟨a, b, rfl, _⟩; rfl
theorem aSU {g : List Int} : ∀ (n : Nat) (r q r' q' : List Int), qGo g n r q = some (r', q') -> r'.length <= r.length /\ q'.length <= q.length + n
  | 0, r, q, r', q', h => by cases h; exact ⟨Nat.le_refl _, Nat.le_refl _⟩
  | n + 1, r, q, r', q', h => by
    unfold qGo at h
    by_cases h1 : g.length <= r.length
    . rw [if_pos h1] at h
      by_cases h2 : (lastI r).fmod (lastI g) = 0
      . rw [if_pos h2] at h
        obtain ⟨a, b⟩ := aSU n _ _ r' q' h
        rw [zH, List.length_dropLast] at a
        rw [List.length_append] at b
        simp at b
        omega
      . rw [if_neg h2] at h; cases h
    . rw [if_neg h1] at h; cases h; omega
section
variable {P : Program} {w : World} {K : PySem.W.Frag} {mg : Str -> Option Value} {base : Heap} {k : Nat} {X : Cx}
theorem aER (h : DefX P w K mg base k N_whole_quotient (defScope yP) X) (m_list : mg "list" = none) (m_len : mg "len" = none) (m_divmod : mg "divmod" = none) (m_range : mg "range" = none) (m_any : mg "any" = none) (cR : Callee X "row_of" aAY) :
    ∀ ds d, zM ds d -> EvSs X (ds.map Sl.val ++ List.replicate (N_whole_quotient.length - ds.length) Sl.un) (defBody yP) (.rt d) := by
  rintro ds d ⟨f, g, rfl, hf, hgl, hg, hl, bf, bg, rfl⟩
  have t := h.at'
  haveI := h.fnT
  have b1 : Blt X (defScope yP) "range" (.type "range") := yN (by rw [h.mg']; exact m_range)
  have b2 : Blt X (defScope yP) "len" (.builtin "len") := yN (by rw [h.mg']; exact m_len)
  have b3 : Blt X (defScope yP) "list" (.type "list") := yN (by rw [h.mg']; exact m_list)
  have b4 : Blt X (defScope yP) "divmod" (.builtin "divmod") := yN (by rw [h.mg']; exact m_divmod)
  have b5 : Blt X (defScope yP) "any" (.builtin "any") := yN (by rw [h.mg']; exact m_any)
  have hgp := List.length_pos_iff.mpr hg
  show EvSs X [.val (rowD f), .val (rowD g), .un, .un, .un, .un, .un, .un] _ _
  refine yD (aYY (us := f.map D.int) (ws := ([] : List Int).map D.int) t 2 3 (aCI t b3 (EvE.qt (yA t 0 rfl))) (vH yE) (by decide)) ?_
  refine aVA t (aRW g (fun r q => [.val (rowD f), .val (rowD g), .own (r.map D.int), .own (q.map D.int), .un, .un, .un, .un]) hg hl bg
    (fun r q hr => ?_) (fun ys a q e hy hgy hq er he hm => ?_) (fun ys a q hy hgy hm => ?_) f.length f [] 1200 (Nat.le_refl _) (by omega) (by simp; omega) bf (by omega)) (fun e => ?_) (fun r' q' e => ?_)
  . refine EvT.eq (aRN (yT t b2 (jN t 2 rfl)) (yT t b2 (EvE.qt (yA t 1 rfl)))) ?_
    rw [List.length_map, List.length_map]
    by_cases z : g.length <= r.length
    . rw [decide_eq_true z, decide_eq_true (by omega)]
    . rw [decide_eq_false z, decide_eq_false (by omega)]
  . · have mb := aUS (er a (by simp)) hl hm
      have by' : BB e ys := fun x hx => er x (by simp [hx])
      generalize hmm : a.fdiv (lastI g) = m at mb
      generalize hsh : ys.length - (g.length - 1) = s0
      refine EvSs.weak (ρ1 := [.val (rowD f), .val (rowD g), .own ((stepQ g ys m (g.length - 1)).map D.int), .own ((q ++ [m]).map D.int), .val (.int m), .val (.int 0), .val (.int (s0 : Int)), .un]) ?_ (.keep (.keep (.keep (.keep (.forget (.forget (.forget (.keep .nil))))))))
      refine yD (ρ' := [.val (rowD f), .val (rowD g), .own (ys.map D.int), .own (q.map D.int), .val (.int m), .val (.int 0), .un, .un]) (EvS.eq (aPM (xs := ys.map D.int) (n := a) (m := lastI g) t 2 b4 (by rw [List.map_append]; rfl) (yU (EvE.qt (yA t 1 rfl)) (jH yC) (qF hg)) hl (aGQ t (zY (yS t 4) (zY (yS t 5) aCJ)))) (by rw [hmm, hm]; rfl)) ?_
      refine yD (aAE (EvT.eq (aYM (yA t 5 rfl) yC) rfl) jK) ?_
      refine yD (ρ' := [.val (rowD f), .val (rowD g), .own (ys.map D.int), .own ((q ++ [m]).map D.int), .val (.int m), .val (.int 0), .un, .un]) (EvS.eq (aEW t 3 rfl (yA t 4 rfl) (by rw [List.length_map]; exact small (by omega))) (by rw [List.map_append]; rfl)) ?_
      refine yD (zK t 6 (EvE.eq (yW (qE (yT t b2 (jN t 2 rfl)) (yT t b2 (EvE.qt (yA t 1 rfl)))) yC) (show _ = D.int (s0 : Int) by rw [List.length_map, List.length_map]; congr 1; omega))) ?_
      refine yG (aAP t (qX t b1 (qE (yT t b2 (EvE.qt (yA t 1 rfl))) yC) (by omega) (by rw [List.length_map]; omega)) (FRun.uptoE (fun i => [.val (rowD f), .val (rowD g), .own ((stepQ g ys m i).map D.int), .own ((q ++ [m]).map D.int), .val (.int m), .val (.int 0), .val (.int (s0 : Int)), .un]) (fun i d hi => ?_) (by rw [aQT]; rfl) ?_))
      . obtain ⟨hin, rfl⟩ := qV hi
        have hi' : i < g.length - 1 := by rw [List.length_map] at hin; omega
        have hlen := zH g ys m i
        have e1 : ((s0 : Int) + (i : Int)) = ((s0 + i : Nat) : Int) := by omega
        have hu : ((stepQ g ys m i).map D.int)[s0 + i]? = some (.int ((stepQ g ys m i).getD (s0 + i) 0)) := by
          rw [List.getElem?_map, List.getD_eq_getElem?_getD, List.getElem?_eq_getElem (show s0 + i < (stepQ g ys m i).length by omega)]; rfl
        refine ⟨_, yS t 7, EvSs.weak (yG (aLP (j := s0 + i) t 2 aKC rfl (yW (yA t 6 rfl) (yA t 7 rfl)) ?_ hu (yY (i := m) (j := g.getD i 0) (yA t 4 rfl) (yU (EvE.qt (yA t 1 rfl)) (yA t 7 rfl) (zN (by omega))) (mulB mb (bg.get i) (by omega) (by omega))) trivial)) ?_⟩
        . rw [List.length_map]; exact aGI (by omega) (by omega) (by omega)
        . rw [aQU m hi' (by omega), hsh, List.map_set]
          exact .keep (.keep (.keep (.keep (.keep (.keep (.keep (.forget .nil)))))))
      . have e : (rangeD 0 (((g.map D.int).length : Int) - 1).toNat).length = g.length - 1 := by simp [rangeD]
        rw [e]
  . · refine yD (aPM (xs := ys.map D.int) (n := a) (m := lastI g) t 2 b4 (by rw [List.map_append]; rfl) (yU (EvE.qt (yA t 1 rfl)) (jH yC) (qF hg)) hl (aGQ t (zY (yS t 4) (zY (yS t 5) aCJ)))) ?_
      exact aAK (aBD (EvT.eq (aYM (yA t 5 rfl) yC) (by simpa using hm)) (yG (zI aEJ)))
  . show wqD f g = .non
    unfold wqD; rw [e]
  . obtain ⟨l1, l2⟩ := aSU _ _ _ _ _ e
    have ed : wqD f g = if r'.any (· != 0) = true then .non else rowD (trimI q'.reverse) := by unfold wqD; rw [e]
    rw [ed]
    by_cases z : r'.any (· != 0) = true
    . rw [if_pos z]
      exact yG (zI (aGM (EvT.eq (aMO (aOH (aUY t b5 (jN t 2 rfl)))) (by rw [z]; rfl)) aEJ))
    . rw [if_neg z]
      have z' : r'.any (· != 0) = false := by simpa using z
      exact yG (zI (aIE (EvT.eq (aMO (aOH (aUY t b5 (jN t 2 rfl)))) (by rw [z']; rfl)) (yF t cR (yB (d := intsD q'.reverse) (EvE.eq (EvN.toE (eAN (jN t 3 rfl) (jH yC))) (by rw [<- List.map_reverse])) yE) ⟨q'.reverse, rfl, by rw [List.length_reverse]; simp at l2; omega, rfl⟩)))
end
end My
namespace My
open PySem L2 L2.EV PyProof.Rows
structure S0 (f g : List Int) : Prop where
  rf : RowOk f
  rg : RowOk g
  lf : f.length <= 9
  lg : g.length <= 9
  bf : BB 1200 f
  bg : BB 1200 g
def gcL (f g : List Int) : Int := ((Nat.gcd (lastI f).natAbs (lastI g).natAbs : Nat) : Int)
def rowM (P : Int) (f g : List Int) : List Int := plainB (trimI (liftL (shM P f g) (gcL f g) P))
def sbD (f g : List Int) (P : Nat) : D := if lastI f % P = 0 \/ lastI g % P = 0 then .non else if (shM P f g).length = 1 then rowD [1] else if (!isNon (wqD f (rowM P f g)) && !isNon (wqD g (rowM P f g))) = true then rowD (rowM P f g) else .non
theorem plainOk' {f : List Int} (h : RowOk f) : RowOk (plainB f) := by
  unfold plainB
  split
  . have e : (lowB f).map (fun x => -x) = (lowB f).map fun x => (-1) * x := List.map_congr_left fun x _ => by omega
    rw [e]; exact scaleOk (lowOk h) (by decide)
  . exact lowOk h
theorem wH {f : List Int} (h : RowOk f) : Sim (co f) (co (plainB f)) := by
  refine (aMC f h).trans ?_
  unfold plainB
  split
  . refine (Sim.scale (c := -1) (by decide) fun i => ?_).symm
    show ((lowB f).map fun x => -x).getD i 0 = -1 * (lowB f).getD i 0
    rw [zP (φ := fun x => -x) (by rfl)]; omega
  . exact Sim.refl _
theorem zL (f : List Int) : (plainB f).length = f.length := by
  unfold plainB
  split
  . rw [List.length_map, aAT]
  . exact aAT f
theorem aAR {k : Nat} {f : List Int} (h : BB k f) : BB k (plainB f) := by
  unfold plainB
  split
  . intro x hx
    obtain ⟨y, hy, rfl⟩ := List.mem_map.mp hx
    rw [Int.natAbs_neg]; exact aTY h y hy
  . exact aTY h
theorem jR {f : List Int} (h : RowOk f) : plainB (plainB f) = plainB f := jM (plainOk' h) h (wH h).symm
theorem aFL (P : Int) : ∀ (n : Nat) (f g : List Int), (sharedM P n f g).length <= max f.length g.length
  | 0, f, g => by show f.length <= _; omega
  | n + 1, f, g => by
    unfold sharedM
    split
    . omega
    . rename_i q
      have gp := List.length_pos_iff.mpr q
      have ml := aCX P g
      have ih := aFL P n (monM P g) (trimI (restM P (monM P g) f.length f))
      have rl := aCT (P := P) (g := monM P g) f.length f (Nat.le_refl _) (by omega)
      have tl := qY (restM P (monM P g) f.length f)
      omega
theorem aZX {P : Nat} (hP : PrB P) {xs : List Int} {l : Int} (hx : InM P xs) (hn : xs ≠ []) (hl : ¬ (P : Int) ∣ l) : RowOk (liftL xs l P) /\ BB 4423 (liftL xs l P) /\ trimI (liftL xs l P) = liftL xs l P := by
  have p2 := hP.1.two
  have pb := hP.2
  have hln : liftL xs l P ≠ [] := fun z => by unfold liftL at z; exact hn (List.map_eq_nil_iff.mp z)
  have ok : RowOk (liftL xs l P) := by
    refine .inr ⟨_, _, aAH hln, ?_⟩
    have e : lastI (liftL xs l P) = (fun x => if 2 * (x * l % (P : Int)) > P then x * l % P - P else x * l % P) (lastI xs) := wK xs (fun x => if 2 * (x * l % (P : Int)) > P then x * l % P - P else x * l % P) (by simp; omega)
    rw [e]
    have hz : lastI xs * l % P ≠ 0 := fun z => hP.1.mul_not (hx.last hn) hl (Int.dvd_of_emod_eq_zero z)
    have r0 := Int.emod_nonneg (lastI xs * l) (show (P : Int) ≠ 0 by omega)
    have r1 := Int.emod_lt_of_pos (lastI xs * l) (show (0 : Int) < P by omega)
    by_cases q : 2 * (lastI xs * l % (P : Int)) > P
    . simp only [if_pos q]; omega
    . simp only [if_neg q]; exact hz
  refine ⟨ok, fun x hx' => ?_, aCD (trimOk _) ok fun i => vO _ i⟩
  unfold liftL at hx'
  obtain ⟨y, _, rfl⟩ := List.mem_map.mp hx'
  have r0 := Int.emod_nonneg (y * l) (show (P : Int) ≠ 0 by omega)
  have r1 := Int.emod_lt_of_pos (y * l) (show (0 : Int) < P by omega)
  by_cases q : 2 * (y * l % (P : Int)) > P
  . simp only [if_pos q]; omega
  . simp only [if_neg q]; omega
theorem eAG {P : Nat} {f g : List Int} (h : ¬ (P : Int) ∣ lastI f) : ¬ (P : Int) ∣ gcL f g := fun z => h (Int.dvd_trans z (Int.ofNat_dvd_left.mpr (Nat.gcd_dvd_left _ _)))
structure MF (P : Nat) (f g : List Int) : Prop where
  ok : RowOk (rowM P f g)
  bb : BB 4423 (rowM P f g)
  ln : (rowM P f g).length = (shM P f g).length
  ne : rowM P f g ≠ []
theorem aSQ {P : Nat} (hP : PrB P) {f g : List Int} (hf : f ≠ []) (hg : g ≠ []) (nf : ¬ (P : Int) ∣ lastI f) (ng : ¬ (P : Int) ∣ lastI g) : MF P f g /\ InM P (shM P f g) := by
  obtain ⟨i1, n1⟩ := aDV hP.1 hf nf
  obtain ⟨i2, n2⟩ := aDV hP.1 hg ng
  obtain ⟨k1, k2, k3⟩ := aDR hP.1 (modM P g).length (modM P f) (modM P g) (Nat.le_refl _) i1 i2 n1
  obtain ⟨o1, o2, o3⟩ := aZX hP k2 k1 (eAG (g := g) nf)
  have ll : (liftL (shM P f g) (gcL f g) P).length = (shM P f g).length := by unfold liftL; rw [List.length_map]
  have ln : (rowM P f g).length = (shM P f g).length := by unfold rowM; rw [zL, o3, ll]
  refine ⟨⟨?_, ?_, ln, fun z => ?_⟩, k2⟩
  . unfold rowM; rw [o3]; exact plainOk' o1
  . unfold rowM; rw [o3]; exact aAR o2
  . rw [z] at ln; exact k1 (List.eq_nil_of_length_eq_zero ln.symm)
theorem nd {P : Nat} (hP : PrB P) {x : Int} (h : ¬ x % P = 0) : ¬ (P : Int) ∣ x := fun z => h (Int.emod_eq_zero_of_dvd z)
theorem eDT {P : Nat} (hP : PrB P) {f g : List Int} (s : S0 f g) (hf : f ≠ []) (hg : g ≠ []) : sbD f g P = .non \/ sbD f g P = rowD (plainB (sh f g)) := by
  unfold sbD
  by_cases h1 : lastI f % P = 0 \/ lastI g % P = 0
  . rw [if_pos h1]; exact .inl rfl
  . rw [if_neg h1]
    have nf : ¬ (P : Int) ∣ lastI f := nd hP fun z => h1 (.inl z)
    have ng : ¬ (P : Int) ∣ lastI g := nd hP fun z => h1 (.inr z)
    by_cases h2 : (shM P f g).length = 1
    . rw [if_pos h2, aMY hP.1 s.rf s.rg hf hg nf ng h2]; exact .inr rfl
    . rw [if_neg h2]
      by_cases h3 : (!isNon (wqD f (rowM P f g)) && !isNon (wqD g (rowM P f g))) = true
      . rw [if_pos h3]
        right
        obtain ⟨mf, _⟩ := aSQ hP hf hg nf ng
        rw [Bool.and_eq_true] at h3
        have q1 : wqD f (rowM P f g) ≠ .non := fun z => by rw [z] at h3; exact absurd h3.1 (by decide)
        have q2 : wqD g (rowM P f g) ≠ .non := fun z => by rw [z] at h3; exact absurd h3.2 (by decide)
        obtain ⟨u, ru, eu⟩ := eBF s.rf mf.ne q1
        obtain ⟨v, rv, ev⟩ := eBF s.rg mf.ne q2
        have := aMX hP.1 s.rf s.rg hf hg nf ng ru rv mf.ok mf.ln eu ev
        rw [this]
        have e : plainB (rowM P f g) = rowM P f g := by unfold rowM; exact jR (trimOk _)
        rw [e]
      . rw [if_neg h3]; exact .inl rfl
def aAX (ds : List D) (d : D) : Prop := ∃ (f g : List Int) (P : Nat), ds = [rowD f, rowD g, .int P] /\ PrB P /\ S0 f g /\ f ≠ [] /\ g ≠ [] /\ d = sbD f g P
theorem aJT : ∀ ds d, aAX ds d -> ds.length = 3 := by rintro _ _ ⟨a, b, p, rfl, _⟩; rfl
section
variable {P : Program} {w : World} {K : PySem.W.Frag} {mg : Str -> Option Value} {base : Heap} {k : Nat} {X : Cx}
theorem aOR (h : DefX P w K mg base k N_shared_by (defScope jD) X) (m_len : mg "len" = none) (cM : Callee X "shared_modulo" vD) (cL : Callee X "lifted" aFA) (cG : Callee X "common_divisor" qA) (cW : Callee X "whole_quotient" zM) :
    ∀ ds d, aAX ds d -> EvSs X (ds.map Sl.val ++ List.replicate (N_shared_by.length - ds.length) Sl.un) (defBody jD) (.rt d) := by
  rintro ds d ⟨f, g, p, rfl, hp, s, hf, hg, rfl⟩
  have t := h.at'
  haveI := h.fnT
  have b2 : Blt X (defScope jD) "len" (.builtin "len") := yN (by rw [h.mg']; exact m_len)
  have p2 := hp.1.two
  have lf := s.lf
  have lg := s.lg
  show EvSs X [.val (rowD f), .val (rowD g), .val (.int p), .un, .un, .un] _ _
  have tf : ∀ {ρ : Rho} {a : Expr} {pos : Pos}, EvE X ρ a (.int (lastI f % p)) -> EvT X ρ a (decide (lastI f % (p : Int) ≠ 0)) -> True := fun _ _ => trivial
  unfold sbD
  by_cases h1 : lastI f % p = 0 \/ lastI g % p = 0
  . rw [if_pos h1]
    refine aAK (aBD (EvW.toT ?_) (yG (zI aEJ)))
    by_cases z : lastI f % p = 0
    . exact aQA (EvT.eq (vA (yO (i := lastI f) (yU (EvE.qt (yA t 0 rfl)) (jH yC) (qF hf)) (yA t 2 rfl) (by omega)) yC) (decide_eq_true z))
    . exact aGK (EvT.eq (vA (yO (i := lastI f) (yU (EvE.qt (yA t 0 rfl)) (jH yC) (qF hf)) (yA t 2 rfl) (by omega)) yC) (decide_eq_false z)) (aGL (EvT.eq (vA (yO (i := lastI g) (yU (EvE.qt (yA t 1 rfl)) (jH yC) (qF hg)) (yA t 2 rfl) (by omega)) yC) (decide_eq_true (h1.resolve_left z))))
  . rw [if_neg h1]
    have z1 : ¬ lastI f % p = 0 := fun z => h1 (.inl z)
    have z2 : ¬ lastI g % p = 0 := fun z => h1 (.inr z)
    have nf : ¬ (p : Int) ∣ lastI f := nd hp z1
    have ng : ¬ (p : Int) ∣ lastI g := nd hp z2
    obtain ⟨mf, im⟩ := aSQ hp hf hg nf ng
    have ml1 : (modM p f).length = f.length := by unfold modM; rw [List.length_map]
    have ml2 : (modM p g).length = g.length := by unfold modM; rw [List.length_map]
    have sl := aFL (p : Int) (modM p g).length (modM p f) (modM p g)
    have sl' : (shM p f g).length <= 9 := by show (sharedM _ _ _ _).length <= 9; omega
    refine yD (aAE (EvW.toT (aGK (EvT.eq (vA (yO (i := lastI f) (yU (EvE.qt (yA t 0 rfl)) (jH yC) (qF hf)) (yA t 2 rfl) (by omega)) yC) (decide_eq_false z1)) (aGL (EvT.eq (vA (yO (i := lastI g) (yU (EvE.qt (yA t 1 rfl)) (jH yC) (qF hg)) (yA t 2 rfl) (by omega)) yC) (decide_eq_false z2))))) jK) ?_
    refine yD (zK t 3 (yF t cM (yB (yA t 0 rfl) (yB (yA t 1 rfl) (yB (yA t 2 rfl) yE))) ⟨f, g, p, rfl, hp, hf, hg, by omega, by omega, nf, ng, rfl⟩)) ?_
    by_cases h2 : (shM p f g).length = 1
    . rw [if_pos h2]
      exact aAK (aBD (EvT.eq (vA (yT t b2 (EvE.ql (yA t 3 rfl))) yC) (decide_eq_true (by rw [List.length_map, h2]; rfl))) (yG (zI (zC (yB yC yE)))))
    . rw [if_neg h2]
      refine yD (aAE (EvT.eq (vA (yT t b2 (EvE.ql (yA t 3 rfl))) yC) (decide_eq_false (by rw [List.length_map]; omega))) jK) ?_
      have gb : (gcL f g).natAbs < 2 ^ 1200 := by
        have : Nat.gcd (lastI f).natAbs (lastI g).natAbs <= (lastI f).natAbs := Nat.le_of_dvd (by
          have : lastI f ≠ 0 := yJ s.rf hf
          omega) (Nat.gcd_dvd_left _ _)
        unfold gcL
        rw [Int.natAbs_natCast]
        exact Nat.lt_of_le_of_lt this (Nat.lt_of_lt_of_le s.bf.last (Nat.pow_le_pow_right (by decide) (by decide)))
      refine yD (zK (d := rowD (rowM p f g)) t 4 (yF t cL (yB (yA t 3 rfl) (yB (yF t cG (yB (yU (EvE.qt (yA t 0 rfl)) (jH yC) (qF hf)) (yB (yU (EvE.qt (yA t 1 rfl)) (jH yC) (qF hg)) yE)) ⟨_, _, rfl, rfl⟩) (yB (yA t 2 rfl) yE))) ⟨shM p f g, gcL f g, p, rfl, hp, by omega, im.2, gb, rfl⟩)) ?_
      have lr : (rowM p f g).length <= 9 := by rw [mf.ln]; exact sl'
      have ls := yJ mf.ok mf.ne
      have cw1 : zM [rowD f, rowD (rowM p f g)] (wqD f (rowM p f g)) := ⟨f, _, rfl, s.lf, lr, mf.ne, ls, s.bf, mf.bb.mono (by decide), rfl⟩
      have cw2 : zM [rowD g, rowD (rowM p f g)] (wqD g (rowM p f g)) := ⟨g, _, rfl, s.lg, lr, mf.ne, ls, s.bg, mf.bb.mono (by decide), rfl⟩
      refine yD (zK (d := .bl (!isNon (wqD f (rowM p f g)) && !isNon (wqD g (rowM p f g)))) t 5 ?_) ?_
      . cases q : isNon (wqD f (rowM p f g)) with
        | true => exact EvE.eq (eAL (EvE.eq (aOF (yF t cW (yB (yA t 0 rfl) (yB (yA t 4 rfl) yE)) cw1)) (by rw [q]; rfl))) rfl
        | false => exact EvE.eq (aEE (EvE.eq (aOF (yF t cW (yB (yA t 0 rfl) (yB (yA t 4 rfl) yE)) cw1)) (by rw [q]; rfl)) (aQB (aOF (yF t cW (yB (yA t 1 rfl) (yB (yA t 4 rfl) yE)) cw2)))) (by simp)
      . by_cases h3 : (!isNon (wqD f (rowM p f g)) && !isNon (wqD g (rowM p f g))) = true
        . rw [if_pos h3]
          exact yG (zI (aIE (EvT.eq (aOH (yA t 5 rfl)) h3) (yA t 4 rfl)))
        . rw [if_neg h3]
          exact yG (zI (aGM (EvT.eq (aOH (yA t 5 rfl)) (by simpa using h3)) aEJ))
end
end My
set_option maxHeartbeats 8000000
namespace My
open PySem L2 L2.EV PyProof.Rows
theorem aXH (f : List Int) (n i : Nat) : (f ++ List.replicate n 0).getD i 0 = f.getD i 0 := by
  rw [List.getD_eq_getElem?_getD, List.getD_eq_getElem?_getD]
  by_cases h : i < f.length
  . rw [List.getElem?_append_left h]
  . rw [List.getElem?_append_right (by omega), List.getElem?_replicate, List.getElem?_eq_none (show f.length <= i by omega)]
    split <;> rfl
theorem jA (f g : List Int) : (timesL f g).length <= f.length + g.length - 1 := by
  by_cases hf : f = []
  . subst hf; rw [aCM]; exact Nat.zero_le _
  by_cases hg : g = []
  . subst hg; rw [aBN]; exact Nat.zero_le _
  rw [<- aQR hf hg]
  have := qY (outq f g f.length)
  rw [aJN] at this
  exact this
theorem aCV (xs : List Int) (k : Nat) (f : List Int) : ∀ n, (powT (facF xs k) f n).length <= f.length + n
  | 0 => Nat.le_refl _
  | n + 1 => by
    have h := jA (powT (facF xs k) f n) (facF xs k)
    have e : (facF xs k).length = 2 := rfl
    have := aCV xs k f n
    show (timesL _ _).length <= _
    omega
theorem aEI (xs : List Int) : ∀ k, (plantGo xs k).length <= 1 + 2 * k
  | 0 => Nat.le_refl _
  | k + 1 => by
    have h := aCV xs k (plantGo xs k) (timesN xs k)
    have h2 := aBE xs k
    have := aEI xs k
    show (powT _ _ _).length <= _
    omega
theorem aLW (xs : List Int) : (plantedF xs).length <= 7 := by
  have h := aEI xs (xs.getD 1 0 % 4).toNat
  unfold plantedF
  omega
theorem aEH {ys : List Int} (hy : ys.length = 4) : ∀ k, (plantGo (ys ++ List.replicate 6 0) (k + 1)).length <= 3 + k
  | 0 => by
    have h := aCV (ys ++ List.replicate 6 0) 0 (plantGo (ys ++ List.replicate 6 0) 0) (timesN (ys ++ List.replicate 6 0) 0)
    have h2 := aBE (ys ++ List.replicate 6 0) 0
    have h3 : (plantGo (ys ++ List.replicate 6 0) 0).length = 1 := rfl
    exact Nat.le_trans (show (plantGo (ys ++ List.replicate 6 0) (0 + 1)).length <= _ from h) (by omega)
  | k + 1 => by
    have h := aCV (ys ++ List.replicate 6 0) (k + 1) (plantGo (ys ++ List.replicate 6 0) (k + 1)) (timesN (ys ++ List.replicate 6 0) (k + 1))
    have h2 : timesN (ys ++ List.replicate 6 0) (k + 1) = 1 := by
      unfold timesN
      rw [aXH, yH (by omega)]; rfl
    have := aEH hy k
    show (powT _ _ _).length <= _
    omega
theorem aLV {ys : List Int} (hy : ys.length = 4) : (plantedF (ys ++ List.replicate 6 0)).length <= 5 := by
  unfold plantedF
  obtain ⟨n, hn⟩ : ∃ n, ((ys ++ List.replicate 6 0).getD 1 0 % 4).toNat = n := ⟨_, rfl⟩
  rw [hn]
  have hn3 : n <= 3 := by omega
  cases n with
  | zero => show [_].length <= 5; simp
  | succ k => have := aEH hy k; omega
theorem wN (xs : List Int) {most : Int} (h0 : 0 <= most) : ((someRow xs most).length : Int) <= most + 1 := by
  unfold someRow
  have h := qY ((cutI xs (some 2) (some (3 + xs.getD 1 0 % (most + 1)))).map fun x => x % (2 * sizeF xs + 1) - sizeF xs)
  rw [List.length_map] at h
  have hm1 := Int.emod_nonneg (xs.getD 1 0) (show most + 1 ≠ 0 by omega)
  have hm2 := Int.emod_lt_of_pos (xs.getD 1 0) (show 0 < most + 1 by omega)
  generalize xs.getD 1 0 % (most + 1) = j at h hm1 hm2
  have hc : ((cutI xs (some 2) (some (3 + j))).length : Int) <= 1 + j := by
    unfold cutI
    rw [List.length_take, List.length_drop]
    have e1 : HT.sIx xs.length 0 (some 2) = min 2 xs.length := by unfold HT.sIx; simp
    have e2 : HT.sIx xs.length xs.length (some (3 + j)) = min (3 + j).toNat xs.length := by
      unfold HT.sIx; simp; omega
    rw [e1, e2]
    omega
  omega
theorem aSR (c : Int) {most : Int} (h0 : 0 <= most) (h6 : most <= 6) : (rowF c most).length <= 7 := by
  have h22 := aBI c 22
  unfold rowF
  split
  . exact aLW _
  . split
    . have h1 := aLV (aMS h22)
      have h2 := wN (cutI (numsF c 22) (some 12) none) (most := 2) (by decide)
      have h3 := jA (plantedF (cutI (numsF c 22) (some 1) (some 5) ++ List.replicate 6 0)) (someRow (cutI (numsF c 22) (some 12) none) 2)
      omega
    . split
      . have h1 := wN (cutI (numsF c 22) (some 1) none) (most := 2) (by decide)
        have h2 := wN (cutI (numsF c 22) (some 12) none) (most := 2) (by decide)
        have h3 := jA (someRow (cutI (numsF c 22) (some 1) none) 2) (someRow (cutI (numsF c 22) (some 12) none) 2)
        omega
      . have h1 := wN (cutI (numsF c 22) (some 1) none) h0
        omega
theorem aQN {M k : Nat} {f : List Int} (h : BD M f) (hk : M < 2 ^ k) : BB k f := fun x hx => Nat.lt_of_le_of_lt (h x hx) hk
def xt (l : Nat) : Nat := [256375, 102550, 41020, 16408, 6563, 2625, 1050, 420, 168, 67].getD l 67
def SIn (f g : List Int) : Prop := RowOk f /\ RowOk g /\ f.length <= 9 /\ ∃ A B, BB A f /\ BB B g /\ ((A + 1 <= 67 /\ B + 1 <= 67 /\ g.length <= 9) \/ (A + 1 <= xt f.length /\ B + 1 <= xt (f.length - 1) /\ g.length < f.length))
theorem xt1 : ∀ lf, lf < 10 -> ∀ l, l < lf -> 1 <= l -> xt lf + (lf + 1 - l) * (2 * xt (lf - 1)) + xt (lf - 1) <= 1000000 /\ xt lf + (lf + 1 - l) * xt (lf - 1) <= xt (l - 1) /\ xt (lf - 1) <= xt l := by decide
theorem xt2 : ∀ lf, lf < 10 -> ∀ l, l < 10 -> 1 <= l -> 67 + (lf + 1 - l) * 67 <= xt (l - 1) /\ 67 <= xt l /\ 67 + (lf + 1 - l) * 134 + 67 <= 1000000 := by decide
theorem SIn.div {f g : List Int} (h : SIn f g) (hg : g ≠ []) : DivOk f g := by
  obtain ⟨rf, rg, lf, A, B, hA, hB, hc⟩ := h
  have lg := yJ rg hg
  have gp := List.length_pos_iff.mpr hg
  rcases hc with ⟨a, b, l9⟩ | ⟨a, b, ll⟩
  . have := xt2 f.length (by omega) g.length (by omega) gp
    have m := Nat.mul_le_mul_left (f.length + 1 - g.length) (show 2 * B + 1 <= 134 by omega)
    exact ⟨by omega, by omega, lg, A, B, hA, hB, by omega⟩
  . have := xt1 f.length (by omega) g.length ll gp
    have m := Nat.mul_le_mul_left (f.length + 1 - g.length) (show 2 * B + 1 <= 2 * xt (f.length - 1) by omega)
    exact ⟨by omega, by omega, lg, A, B, hA, hB, by omega⟩
theorem SIn.next {f g : List Int} (h : SIn f g) (hg : g ≠ []) : SIn g (restF f g) := by
  obtain ⟨rf, rg, lf, A, B, hA, hB, hc⟩ := h
  have lg := yJ rg hg
  have gp := List.length_pos_iff.mpr hg
  have hr := wP (f := f) hg
  have rb := aZD lg hA hB
  rcases hc with ⟨a, b, l9⟩ | ⟨a, b, ll⟩
  . have := xt2 f.length (by omega) g.length (by omega) gp
    have m := Nat.mul_le_mul_left (f.length + 1 - g.length) (show B + 1 <= 67 by omega)
    exact ⟨rg, restOk f g, by omega, B, _, hB, rb, .inr ⟨by omega, by omega, hr⟩⟩
  . have := xt1 f.length (by omega) g.length ll gp
    have m := Nat.mul_le_mul_left (f.length + 1 - g.length) b
    exact ⟨rg, restOk f g, by omega, B, _, hB, rb, .inr ⟨by omega, by omega, hr⟩⟩
theorem SIn.start {f g : List Int} (rf : RowOk f) (rg : RowOk g) (lf : f.length <= 9) (lg : g.length <= 9) (hf : BB 66 f) (hg : BB 66 g) : SIn f g := ⟨rf, rg, lf, 66, 66, hf, hg, .inl ⟨by decide, by decide, lg⟩⟩
theorem SIn.plain {f g : List Int} (h : SIn f g) : SIn (plainB f) (plainB g) := by
  obtain ⟨rf, rg, lf, A, B, hA, hB, hc⟩ := h
  refine ⟨plainOk' rf, plainOk' rg, by rw [zL]; exact lf, A, B, aAR hA, aAR hB, ?_⟩
  rw [zL, zL]; exact hc
theorem aNO {X : Cx} {c : Expr} {body : List Stmt} (R : List Int -> List Int -> Rho) (h1 : ∀ f g, EvT X (R f g) c (!decide (g = [])))
    (h2 : ∀ f g, g ≠ [] -> SIn f g -> EvSs X (R f g) body (.nx (R g (restF f g)))) : ∀ (n : Nat) (f g : List Int), g.length <= n -> SIn f g -> ∃ m, WRun X c body m (R f g) (.nx (R (sh f g) []))
  | 0, f, g, hn, hi => by
    have : g = [] := List.eq_nil_of_length_eq_zero (by omega)
    subst this
    exact ⟨0, .stop (EvT.eq (h1 f []) rfl)⟩
  | n + 1, f, g, hn, hi => by
    by_cases hg : g = []
    . subst hg; exact ⟨0, .stop (EvT.eq (h1 f []) rfl)⟩
    . rw [aCB hg]
      have hr := wP (f := f) hg
      obtain ⟨m, w⟩ := aNO R h1 h2 n g (restF f g) (by omega) (hi.next hg)
      exact ⟨m + 1, .step (EvT.eq (h1 f g) (by rw [decide_eq_false hg]; rfl)) (h2 f g hg hi) w⟩
theorem aPH : ∀ (n : Nat) (f g : List Int), g.length <= n -> SIn f g -> (sh f g).length <= 9
  | 0, f, g, hn, hi => by
    have : g = [] := List.eq_nil_of_length_eq_zero (by omega)
    subst this
    exact hi.2.2.1
  | n + 1, f, g, hn, hi => by
    by_cases hg : g = []
    . subst hg; exact hi.2.2.1
    . rw [aCB hg]
      have hr := wP (f := f) hg
      exact aPH n g (restF f g) (by omega) (hi.next hg)
theorem aWT {f : List Int} (h : RowOk f) : Sim (co f) (co (plainB f)) := by
  refine (aMC f h).trans ?_
  unfold plainB
  split
  . refine (Sim.scale (c := -1) (by decide) fun i => ?_).symm
    show ((lowB f).map fun x => -x).getD i 0 = -1 * (lowB f).getD i 0
    rw [zP (φ := fun x => -x) (by rfl)]; omega
  . exact Sim.refl _
theorem aKV {f g u : List Int} (rf : RowOk f) (rg : RowOk g) (ru : RowOk u) : plainB (sh (timesL f u) (timesL g u)) = plainB (timesL (plainB (sh f g)) u) := by
  by_cases hu : u = []
  . subst hu; rw [aBN, aBN, aBN]; rfl
  . refine jM (aBW (trimOk _) (trimOk _)) (trimOk _) ?_
    refine (aIQ ru hu g.length f g (Nat.le_refl _) rg).trans ?_
    rw [aEQ, aEQ]
    exact aYR u (aWT (aBW rf rg))
theorem aNP (g : List Int) : sh [] g = g := by
  by_cases hg : g = []
  . subst hg; rfl
  . rw [aCB hg, aWM, aFM]
def forP (D0 : Nat -> D) : List Nat -> D
  | [] => .non
  | b :: bs => if isNon (D0 b) = true then forP D0 bs else D0 b
theorem eAM {X : Cx} {N : List Str} {sc : Scope} {tg it : Expr} {body rest : List Stmt} {pos : Pos} {R : Rho} {bs : List Nat} {D0 : Nat -> D} (t : At X N sc) (hi : EvI X R tg it ((bs.map fun b : Nat => (b : Int)).map D.int))
    (h1 : ∀ b, b ∈ bs -> isNon (D0 b) = true -> ∃ ρ1, EvG X R tg (.int (b : Int)) ρ1 /\ EvSs X ρ1 body (.nx R)) (h2 : ∀ b, b ∈ bs -> isNon (D0 b) = false -> ∃ ρ1, EvG X R tg (.int (b : Int)) ρ1 /\ EvSs X ρ1 body (.rt (D0 b)))
    (h3 : EvSs X R rest (.rt .non)) (hs : ∀ v, foldedSetIterable it X.env v = pure v := by intro _; rfl) : EvSs X R (.For tg it body [] pos :: rest) (.rt (forP D0 bs)) := by
  have key : ∀ cs : List Nat, (∀ b ∈ cs, b ∈ bs) -> (forP D0 cs = .non /\ FRun X tg body ((cs.map fun b : Nat => (b : Int)).map D.int) R (.nx R)) \/ FRun X tg body ((cs.map fun b : Nat => (b : Int)).map D.int) R (.rt (forP D0 cs)) := by
    intro cs
    induction cs with
    | nil => intro _; exact .inl ⟨rfl, .nil⟩
    | cons b cs ih =>
      intro hc
      unfold forP
      cases q : isNon (D0 b) with
      | true =>
        rw [if_pos rfl]
        obtain ⟨ρ1, g1, g2⟩ := h1 b (hc b (by simp)) q
        rcases ih fun x hx => hc x (by simp [hx]) with ⟨e, r⟩ | r
        . exact .inl ⟨e, .cons g1 g2 r⟩
        . exact .inr (.cons g1 g2 r)
      | false =>
        rw [if_neg Bool.false_ne_true]
        obtain ⟨ρ1, g1, g2⟩ := h2 b (hc b (by simp)) q
        exact .inr (.ret g1 g2)
  rcases key bs fun _ h => h with ⟨e, r⟩ | r
  . rw [e]; exact yD (aAP t hi r (hs := hs)) h3
  . exact aAK (aAP t hi r (hs := hs))
theorem aXY {b : Nat} (hb : b ∈ [61, 127, 521, 1279, 4423]) : CPow 1 (b : Int) := by
  simp only [List.mem_cons, List.not_mem_nil, or_false] at hb
  exact ⟨by omega, by omega, by decide⟩
theorem aXX (b : Nat) : D.int (1 * 2 ^ ((b : Int)).toNat - 1) = D.int ((2 ^ b - 1 : Nat) : Int) := by
  have h : 1 <= 2 ^ b := Nat.one_le_two_pow
  congr 1
  rw [Int.toNat_natCast, Int.one_mul, Int.natCast_sub h]
  simp
theorem pr_b {b : Nat} (hb : b ∈ [61, 127, 521, 1279, 4423]) : PrB (2 ^ b - 1) := by
  have up : ∀ {b : Nat}, b <= 4423 -> 2 ^ b - 1 < 2 ^ 4423 := fun {b} h => by
    have h1 := Nat.pow_le_pow_right (show 0 < 2 by decide) h
    have h2 : 1 <= 2 ^ b := Nat.one_le_two_pow
    omega
  rcases List.mem_cons.mp hb with e | hb
  . subst e; exact ⟨eBY, up (by decide)⟩
  rcases List.mem_cons.mp hb with e | hb
  . subst e; exact ⟨aZJ, up (by decide)⟩
  rcases List.mem_cons.mp hb with e | hb
  . subst e; exact ⟨aZI, up (by decide)⟩
  rcases List.mem_cons.mp hb with e | hb
  . subst e; exact ⟨aWR, up (by decide)⟩
  rcases List.mem_cons.mp hb with e | hb
  . subst e; exact ⟨aWQ, up (by decide)⟩
  . exact nomatch hb
def spD (f g : List Int) : D := forP (fun b => sbD f g (2 ^ b - 1)) [61, 127, 521, 1279, 4423]
theorem eDS {f g : List Int} (s : S0 f g) (hf : f ≠ []) (hg : g ≠ []) : spD f g = .non \/ spD f g = rowD (plainB (sh f g)) := by
  unfold spD
  have key : ∀ cs : List Nat, (∀ b ∈ cs, b ∈ [61, 127, 521, 1279, 4423]) -> forP (fun b => sbD f g (2 ^ b - 1)) cs = .non \/ forP (fun b => sbD f g (2 ^ b - 1)) cs = rowD (plainB (sh f g)) := by
    intro cs
    induction cs with
    | nil => intro _; exact .inl rfl
    | cons b cs ih =>
      intro hc
      unfold forP
      by_cases q : isNon (sbD f g (2 ^ b - 1)) = true
      . rw [if_pos q]; exact ih fun x hx => hc x (by simp [hx])
      . rw [if_neg q]
        exact eDT (pr_b (hc b (by simp))) s hf hg
  exact key _ fun _ h => h
def qZ (ds : List D) (d : D) : Prop := ∃ f g : List Int, ds = [rowD f, rowD g] /\ S0 f g /\ f ≠ [] /\ g ≠ [] /\ d = spD f g
theorem aBX : ∀ ds d, qZ ds d -> ds.length = 2 := by rintro _ _ ⟨a, b, rfl, _⟩; rfl
def wX (ds : List D) (d : D) : Prop := ∃ f g : List Int, ds = [rowD f, rowD g] /\ S0 f g /\ SIn f g /\ d = rowD (plainB (sh f g))
def jJ (ds : List D) (d : D) : Prop := ∃ f g : List Int, ds = [rowD f, rowD g] /\ SIn f g /\ d = rowD (plainB (sh f g))
theorem aCF : ∀ ds d, jJ ds d -> ds.length = 2 := by rintro _ _ ⟨a, b, rfl, _⟩; rfl
theorem aHE : ∀ ds d, wX ds d -> ds.length = 2 := by rintro _ _ ⟨a, b, rfl, _⟩; rfl
def vV (ds : List D) (d : D) : Prop := ∃ f g : List Int, ds = [rowD f, rowD g] /\ SIn f g /\ d = rowD (plainB (sh f g))
theorem aGG : ∀ ds d, vV ds d -> ds.length = 2 := by rintro _ _ ⟨a, b, rfl, _⟩; rfl
def jW (ds : List D) (d : D) : Prop := ∃ f : List Int, ds = [rowD f] /\ RowOk f /\ f.length < 1000 /\ d = rowD (plainB f)
theorem aHL : ∀ ds d, jW ds d -> ds.length = 1 := by rintro _ _ ⟨a, rfl, _⟩; rfl
section
variable {P : Program} {w : World} {K : PySem.W.Frag} {mg : Str -> Option Value} {base : Heap} {k : Nat} {X : Cx}
theorem aEF (h : DefX P w K mg base k N_shared_by_rests (defScope zE) X) (cP : Callee X "plain_row" jT) (cR : Callee X "rest_of" aDM) :
    ∀ ds d, jJ ds d -> EvSs X (ds.map Sl.val ++ List.replicate (N_shared_by_rests.length - ds.length) Sl.un) (defBody zE) (.rt d) := by
  rintro ds d ⟨f, g, rfl, hi, rfl⟩
  have t := h.at'
  haveI := h.fnT
  have hl := aPH g.length f g (Nat.le_refl _) hi
  have hk := aBW hi.1 hi.2.1
  show EvSs X [.val (rowD f), .val (rowD g)] _ _
  refine yD (jY t (aNO (fun f g => [.val (rowD f), .val (rowD g)]) (fun f g => ?_) (fun f g hg hi => ?_) g.length f g (Nat.le_refl _) hi)) ?_
  . exact aDG t (EvE.p (yA t 1 rfl)) (EvE.p (d := rowD []) (zC yE)) (yI _) (yI _) (by rw [jS])
  . exact yG (aLO t 0 1 (yA t 1 rfl) (yF t cR (yB (yA t 0 rfl) (yB (yA t 1 rfl) yE)) ⟨f, g, rfl, hi.div hg, rfl⟩) (by decide))
  . exact yG (zI (yF t cP (yB (yA t 0 rfl) yE) ⟨sh f g, rfl, by omega, aAJ hk, rfl⟩))
theorem aDJ (h : DefX P w K mg base k N_shared_by_primes (defScope zB) X) (cS : Callee X "shared_by" aAX) (gP : ∃ a, mg "PRIME_BITS" = some (.ref a) /\ GTup K a [61, 127, 521, 1279, 4423]) :
    ∀ ds d, qZ ds d -> EvSs X (ds.map Sl.val ++ List.replicate (N_shared_by_primes.length - ds.length) Sl.un) (defBody zB) (.rt d) := by
  rintro ds d ⟨f, g, rfl, s, hf, hg, rfl⟩
  have t := h.at'
  haveI := h.fnT
  obtain ⟨pa, gm, gk⟩ := gP
  have gm' : X.mg "PRIME_BITS" = some (.ref pa) := by rw [h.mg']; exact gm
  have gk' : GTup X.K pa [61, 127, 521, 1279, 4423] := by rw [h.k']; exact gk
  show EvSs X [.val (rowD f), .val (rowD g), .un, .un] _ _
  refine eAM (bs := [61, 127, 521, 1279, 4423]) t (R := [.val (rowD f), .val (rowD g), .un, .un]) (D0 := fun b => sbD f g (2 ^ b - 1)) (aXF t gm' gk') (fun b hb hn => ?_) (fun b hb hn => ?_) (yG (zI aEJ))
  . refine ⟨_, yS t 2, EvSs.weak (yD (zK (d := sbD f g (2 ^ b - 1)) t 3 (yF t cS (yB (yA t 0 rfl) (yB (yA t 1 rfl) (yB (d := .int ((2 ^ b - 1 : Nat) : Int)) (EvE.eq (qE (aYJ yC (yA t 2 rfl) (aXY hb)) yC) (aXX b)) yE))) ⟨f, g, _, rfl, pr_b hb, s, hf, hg, rfl⟩)) (yG (aAE (EvT.eq (aUZ (yA t 3 rfl)) (by rw [hn]; rfl)) jK))) (.keep (.keep (.forget (.forget .nil))))⟩
  . refine ⟨_, yS t 2, yD (zK (d := sbD f g (2 ^ b - 1)) t 3 (yF t cS (yB (yA t 0 rfl) (yB (yA t 1 rfl) (yB (d := .int ((2 ^ b - 1 : Nat) : Int)) (EvE.eq (qE (aYJ yC (yA t 2 rfl) (aXY hb)) yC) (aXX b)) yE))) ⟨f, g, _, rfl, pr_b hb, s, hf, hg, rfl⟩)) (aAK (aBD (EvT.eq (aUZ (yA t 3 rfl)) (by rw [hn]; rfl)) (yG (zI (yA t 3 rfl)))))⟩
theorem aND (h : DefX P w K mg base k N_shared_row (defScope jC) X) (cP : Callee X "shared_by_primes" qZ) (cL : Callee X "plain_row" jT) (cR : Callee X "shared_by_rests" jJ) :
    ∀ ds d, wX ds d -> EvSs X (ds.map Sl.val ++ List.replicate (N_shared_row.length - ds.length) Sl.un) (defBody jC) (.rt d) := by
  rintro ds d ⟨f0, g0, rfl, s0, hi0, rfl⟩
  have t := h.at'
  haveI := h.fnT
  have e0 : plainB (sh f0 g0) = plainB (sh (plainB f0) (plainB g0)) := jM (aBW s0.rf s0.rg) (aBW (plainOk' s0.rf) (plainOk' s0.rg)) (aSK s0.rg (plainOk' s0.rg) (wH s0.rf) (wH s0.rg))
  have s : S0 (plainB f0) (plainB g0) := ⟨plainOk' s0.rf, plainOk' s0.rg, by rw [zL]; exact s0.lf, by rw [zL]; exact s0.lg, aAR s0.bf, aAR s0.bg⟩
  have hi := hi0.plain
  have pf := jR s0.rf
  have pg := jR s0.rg
  have l1 := s0.lf
  have l2 := s0.lg
  rw [e0]
  show EvSs X [.val (rowD f0), .val (rowD g0), .un] _ _
  refine yD (aLO t 0 1 (yF t cL (yB (yA t 0 rfl) yE) ⟨f0, rfl, by omega, aAJ s0.rf, rfl⟩) (yF t cL (yB (yA t 1 rfl) yE) ⟨g0, rfl, by omega, aAJ s0.rg, rfl⟩) (by decide)) ?_
  generalize plainB f0 = f at s pf hi
  generalize plainB g0 = g at s pg hi
  show EvSs X [.val (rowD f), .val (rowD g), .un] _ _
  have nl : ∀ {x : List Int} {ρ : Rho} {a : Expr} {pos : Pos} {e : Expr}, EvE X ρ a (rowD x) -> EvE X ρ e (rowD []) -> EvT X ρ (.Compare a [.Eq] [e] pos) (decide (x = [])) := fun ha he => aGO t (EvE.p ha) (EvE.p he) (yI _) (yI _) (by rw [jS])
  by_cases hg : g = []
  . subst hg
    rw [aFM, pf]
    refine aAK (aBD (EvW.toT ?_) (yG (zI (aIE (EvT.eq (nl (yA t 1 rfl) (zC yE)) rfl) (yA t 0 rfl)))))
    by_cases hf : f = []
    . exact aQA (EvT.eq (nl (yA t 0 rfl) (zC yE)) (decide_eq_true hf))
    . exact aGK (EvT.eq (nl (yA t 0 rfl) (zC yE)) (decide_eq_false hf)) (aGL (EvT.eq (nl (yA t 1 rfl) (zC yE)) rfl))
  . by_cases hf : f = []
    . subst hf
      rw [aNP, pg]
      exact aAK (aBD (EvW.toT (aQA (EvT.eq (nl (yA t 0 rfl) (zC yE)) rfl))) (yG (zI (aGM (EvT.eq (nl (yA t 1 rfl) (zC yE)) (decide_eq_false hg)) (yA t 1 rfl)))))
    . refine yD (aAE (EvW.toT (aGK (EvT.eq (nl (yA t 0 rfl) (zC yE)) (decide_eq_false hf)) (aGL (EvT.eq (nl (yA t 1 rfl) (zC yE)) (decide_eq_false hg))))) jK) ?_
      refine yD (zK t 2 (yF t cP (yB (yA t 0 rfl) (yB (yA t 1 rfl) yE)) ⟨f, g, rfl, s, hf, hg, rfl⟩)) ?_
      rcases eDS s hf hg with e | e
      . rw [e]
        exact yG (zI (aIE (EvT.eq (aYN (yA t 2 rfl)) rfl) (yF t cR (yB (yA t 0 rfl) (yB (yA t 1 rfl) yE)) ⟨f, g, rfl, hi, rfl⟩)))
      . rw [e]
        exact yG (zI (aGM (EvT.eq (aYN (yA t 2 rfl)) rfl) (yA t 2 rfl)))
theorem aNK (h : DefX P w K mg base k N__law_plain (defScope qD) X) (m_tuple : mg "tuple" = none) (m_len : mg "len" = none) (cP : Callee X "_law_put_low" jO) :
    ∀ ds d, jW ds d -> EvSs X (ds.map Sl.val ++ List.replicate (N__law_plain.length - ds.length) Sl.un) (defBody qD) (.rt d) := by
  rintro ds d ⟨f, rfl, hk, hf, rfl⟩
  have t := h.at'
  haveI := h.fnT
  have b1 : Blt X (defScope qD) "tuple" (.type "tuple") := yN (by rw [h.mg']; exact m_tuple)
  have b2 : Blt X (defScope qD) "len" (.builtin "len") := yN (by rw [h.mg']; exact m_len)
  show EvSs X [.val (rowD f), .un] _ _
  refine yD (zK t 1 (yF t cP (yB (yA t 0 rfl) yE) ⟨f, rfl, hk, hf, rfl⟩)) ?_
  refine yD (ρ' := [.val (rowD f), .val (rowD (plainB f))]) ?_ (yG (zI (yA t 1 rfl)))
  have ll := aAT f
  unfold plainB
  by_cases h0 : lowB f = []
  . refine aAE (EvW.toT (aKG (aDG t (EvE.p (yA t 1 rfl)) (EvE.p (d := rowD []) (zC yE)) (yI _) (yI _) (by rw [jS, decide_eq_true h0]; rfl)))) (EvSs.eq jK ?_)
    rw [h0]; rfl
  . by_cases h1 : lastI (lowB f) < 0
    . rw [if_pos h1]
      refine aBD (EvW.toT (aEA (aDG t (EvE.p (yA t 1 rfl)) (EvE.p (d := rowD []) (zC yE)) (yI _) (yI _) (by rw [jS, decide_eq_false h0]; rfl)) (aEB (EvT.eq (aGN (yU (EvE.qt (yA t 1 rfl)) (qE (yT t b2 (EvE.qt (yA t 1 rfl))) yC) (aBM h0)) yC) (decide_eq_true h1))))) (yG (zK t 1 (d := rowD ((lowB f).map fun x => -x)) (vS t b1 (EvN.toQ (vC (rs := ((lowB f).map fun x => -x).map D.int) t ["_law_row_here", "_law_found", "_law_x"] (csc (by decide +kernel)) (aBZ (yA t 1 rfl)) (by rw [List.length_map]; exact small (by omega)) fun X' cx => ?_)))))
      have t' := cx.at'
      exact CRun.ints (fun x => -x) (fun x => [.val (rowD f), .val (rowD (lowB f)), .val (.int x)]) (fun d hd => yK t' 2) (fun d hd e he => yK t' 2) fun d hd =>
        EvE.eq (qE yC (yA t' 2 rfl)) (by rw [Int.zero_sub])
    . rw [if_neg h1]
      exact aAE (EvW.toT (aEA (aDG t (EvE.p (yA t 1 rfl)) (EvE.p (d := rowD []) (zC yE)) (yI _) (yI _) (by rw [jS, decide_eq_false h0]; rfl)) (aEB (EvT.eq (aGN (yU (EvE.qt (yA t 1 rfl)) (qE (yT t b2 (EvE.qt (yA t 1 rfl))) yC) (aBM h0)) yC) (decide_eq_false h1))))) jK
theorem aKQ (h : DefX P w K mg base k N__law_shared (defScope qL) X) (cP : Callee X "_law_plain" jW) (cL : Callee X "_law_put_low" jO) (cF : Callee X "_law_left" aBA) :
    ∀ ds d, vV ds d -> EvSs X (ds.map Sl.val ++ List.replicate (N__law_shared.length - ds.length) Sl.un) (defBody qL) (.rt d) := by
  rintro ds d ⟨f, g, rfl, hi, rfl⟩
  have t := h.at'
  haveI := h.fnT
  have hl := aPH g.length f g (Nat.le_refl _) hi
  have hk := aBW hi.1 hi.2.1
  show EvSs X [.val (rowD f), .val (rowD g)] _ _
  refine yD (jY t (aNO (fun f g => [.val (rowD f), .val (rowD g)]) (fun f g => ?_) (fun f g hg hi => ?_) g.length f g (Nat.le_refl _) hi)) ?_
  . exact aDG t (EvE.p (yA t 1 rfl)) (EvE.p (d := rowD []) (zC yE)) (yI _) (yI _) (by rw [jS])
  . have dv := hi.div hg
    have l3 := aGH g f.length f rfl
    have l4 := qY (leftL g f.length f)
    have l5 := dv.1
    exact yG (aLO t 0 1 (yA t 1 rfl) (yF t cL (yB (yF t cF (yB (yA t 0 rfl) (yB (yA t 1 rfl) yE)) ⟨f, g, rfl, dv, rfl⟩) yE) ⟨_, rfl, trimOk _, by omega, by rw [aXG dv.2.2.1]⟩) (by decide))
  . exact yG (zI (yF t cP (yB (yA t 0 rfl) yE) ⟨sh f g, rfl, hk, by omega, rfl⟩))
end
end My
namespace My
def sumN (f : Nat -> Int) : Nat -> Int
  | 0 => 0
  | n + 1 => sumN f n + f n
theorem zV {f g : Nat -> Int} : ∀ {n : Nat}, (∀ i, i < n -> f i = g i) -> sumN f n = sumN g n
  | 0, _ => rfl
  | n + 1, h => by show sumN f n + f n = sumN g n + g n; rw [zV fun i hi => h i (by omega), h n (by omega)]
theorem aEV (f g : Nat -> Int) : ∀ n, sumN (fun i => f i + g i) n = sumN f n + sumN g n
  | 0 => rfl
  | n + 1 => by show sumN (fun i => f i + g i) n + (f n + g n) = sumN f n + f n + (sumN g n + g n); rw [aEV f g n]; omega
theorem aEU (c : Int) (f : Nat -> Int) : ∀ n, sumN (fun i => c * f i) n = c * sumN f n
  | 0 => (Int.mul_zero c).symm
  | n + 1 => by show sumN (fun i => c * f i) n + c * f n = c * (sumN f n + f n); rw [aEU c f n, Int.mul_add]
theorem aCO (f : Nat -> Int) : ∀ n, (∀ i, i < n -> f i = 0) -> sumN f n = 0
  | 0, _ => rfl
  | n + 1, h => by show sumN f n + f n = 0; rw [aCO f n fun i hi => h i (by omega), h n (by omega)]; rfl
theorem vW (f : Nat -> Int) : ∀ n, sumN f (n + 1) = f 0 + sumN (fun i => f (i + 1)) n
  | 0 => by show 0 + f 0 = f 0 + 0; omega
  | n + 1 => by show sumN f (n + 1) + f (n + 1) = f 0 + (sumN (fun i => f (i + 1)) n + f (n + 1)); rw [vW f n]; omega
theorem aPE : ∀ (n : Nat) (f : Nat -> Int), sumN (fun i => f (n - i)) (n + 1) = sumN f (n + 1)
  | 0, f => rfl
  | n + 1, f => by
    have e : sumN (fun i => f (n + 1 - i)) (n + 1) = sumN (fun i => (fun j => f (j + 1)) (n - i)) (n + 1) := zV fun i hi => by
      show f (n + 1 - i) = f (n - i + 1); rw [show n + 1 - i = n - i + 1 by omega]
    show sumN (fun i => f (n + 1 - i)) (n + 1) + f (n + 1 - (n + 1)) = _
    rw [e, aPE n fun j => f (j + 1), vW f (n + 1), Nat.sub_self]; omega
theorem aPD (a : Nat -> Nat -> Int) : ∀ n, sumN (fun i => sumN (fun j => a i j) (i + 1)) n = sumN (fun j => sumN (fun k => a (j + k) j) (n - j)) n
  | 0 => rfl
  | n + 1 => by
    show sumN (fun i => sumN (fun j => a i j) (i + 1)) n + sumN (fun j => a n j) (n + 1) = sumN (fun j => sumN (fun k => a (j + k) j) (n + 1 - j)) n + sumN (fun k => a (n + k) n) (n + 1 - n)
    have e : sumN (fun j => sumN (fun k => a (j + k) j) (n + 1 - j)) n = sumN (fun j => sumN (fun k => a (j + k) j) (n - j) + a n j) n := zV fun j hj => by
      rw [show n + 1 - j = n - j + 1 by omega]
      show sumN (fun k => a (j + k) j) (n - j) + a (j + (n - j)) j = _
      rw [show j + (n - j) = n by omega]
    rw [e, aEV, aPD a n, show n + 1 - n = 1 by omega]
    show _ + (sumN (fun j => a n j) n + a n n) = _ + sumN (fun j => a n j) n + (0 + a (n + 0) n)
    rw [Nat.add_zero]; omega
@[ext] structure PS where
  c : Nat -> Int
namespace PS
def conv (F G : Nat -> Int) (n : Nat) : Int := sumN (fun i => F i * G (n - i)) (n + 1)
instance : Add PS := ⟨fun F G => ⟨fun i => F.c i + G.c i⟩⟩
instance : Mul PS := ⟨fun F G => ⟨conv F.c G.c⟩⟩
instance : Neg PS := ⟨fun F => ⟨fun i => - F.c i⟩⟩
instance : Sub PS := ⟨fun F G => ⟨fun i => F.c i - G.c i⟩⟩
def C (a : Int) : PS := ⟨fun i => if i = 0 then a else 0⟩
instance : NatCast PS := ⟨fun n => C n⟩
instance : IntCast PS := ⟨fun n => C n⟩
instance (n : Nat) : OfNat PS n := ⟨C n⟩
instance : SMul Nat PS := ⟨fun n F => C n * F⟩
instance : SMul Int PS := ⟨fun n F => C n * F⟩
def pw (F : PS) : Nat -> PS
  | 0 => C 1
  | n + 1 => pw F n * F
instance : HPow PS Nat PS := ⟨pw⟩
theorem addc (F G : PS) (i : Nat) : (F + G).c i = F.c i + G.c i := rfl
theorem negc (F : PS) (i : Nat) : (-F).c i = - F.c i := rfl
theorem Cc (a : Int) (i : Nat) : (C a).c i = if i = 0 then a else 0 := rfl
theorem ext' {F G : PS} (h : ∀ i, F.c i = G.c i) : F = G := PS.ext (funext h)
theorem mul_comm' (F G : PS) : F * G = G * F := ext' fun n => by
  show sumN (fun i => F.c i * G.c (n - i)) (n + 1) = sumN (fun i => G.c i * F.c (n - i)) (n + 1)
  rw [<- aPE n fun i => G.c i * F.c (n - i)]
  exact zV fun i hi => by rw [show n - (n - i) = i by omega]; exact Int.mul_comm _ _
theorem Cmul (a : Int) (F : PS) (n : Nat) : (C a * F).c n = a * F.c n := by
  show sumN (fun i => (if i = 0 then a else 0) * F.c (n - i)) (n + 1) = _
  rw [vW, aCO _ _ fun i _ => by simp]
  simp
theorem aRE (F G H : PS) : F * G * H = F * (G * H) := ext' fun n => by
  show sumN (fun i => sumN (fun j => F.c j * G.c (i - j)) (i + 1) * H.c (n - i)) (n + 1) = sumN (fun j => F.c j * sumN (fun k => G.c k * H.c (n - j - k)) (n - j + 1)) (n + 1)
  have e1 : sumN (fun i => sumN (fun j => F.c j * G.c (i - j)) (i + 1) * H.c (n - i)) (n + 1) = sumN (fun i => sumN (fun j => F.c j * G.c (i - j) * H.c (n - i)) (i + 1)) (n + 1) := zV fun i hi => by
    rw [Int.mul_comm, <- aEU]
    exact zV fun j hj => by rw [Int.mul_comm]
  rw [e1, aPD (fun i j => F.c j * G.c (i - j) * H.c (n - i))]
  refine zV fun j hj => ?_
  rw [<- aEU, show n + 1 - j = n - j + 1 by omega]
  refine zV fun k hk => ?_
  rw [show j + k - j = k by omega, show n - (j + k) = n - j - k by omega, Int.mul_assoc]
theorem aDD (F G H : PS) : F * (G + H) = F * G + F * H := ext' fun n => by
  show sumN (fun i => F.c i * (G.c (n - i) + H.c (n - i))) (n + 1) = sumN (fun i => F.c i * G.c (n - i)) (n + 1) + sumN (fun i => F.c i * H.c (n - i)) (n + 1)
  rw [<- aEV]; exact zV fun i _ => by rw [Int.mul_add]
instance : Lean.Grind.CommRing PS where
  add_zero F := ext' fun i => by show F.c i + (if i = 0 then ((0 : Nat) : Int) else 0) = F.c i; split <;> simp
  add_comm F G := ext' fun i => Int.add_comm _ _
  add_assoc F G H := ext' fun i => Int.add_assoc _ _ _
  mul_assoc := aRE
  mul_one F := ext' fun i => by rw [mul_comm']; exact (Cmul 1 F i).trans (Int.one_mul _)
  one_mul F := ext' fun i => (Cmul 1 F i).trans (Int.one_mul _)
  left_distrib := aDD
  right_distrib F G H := by rw [mul_comm' (F + G) H, aDD, mul_comm' H F, mul_comm' H G]
  mul_zero F := by rw [mul_comm']; exact ext' fun i => (Cmul 0 F i).trans (by show _ = if i = 0 then ((0 : Nat) : Int) else 0; split <;> simp)
  zero_mul F := ext' fun i => (Cmul 0 F i).trans (by show _ = if i = 0 then ((0 : Nat) : Int) else 0; split <;> simp)
  pow_zero F := rfl
  pow_succ F n := rfl
  ofNat_succ a := ext' fun i => by
    show (if i = 0 then ((a + 1 : Nat) : Int) else 0) = (if i = 0 then (a : Int) else 0) + (if i = 0 then ((1 : Nat) : Int) else 0)
    split <;> simp
  neg_add_cancel F := ext' fun i => by show - F.c i + F.c i = (if i = 0 then ((0 : Nat) : Int) else 0); split <;> omega
  sub_eq_add_neg F G := ext' fun i => Int.sub_eq_add_neg
  neg_zsmul n F := ext' fun i => by show (C (-n) * F).c i = - (C n * F).c i; rw [Cmul, Cmul, Int.neg_mul]
  intCast_neg n := ext' fun i => by show (if i = 0 then -n else 0) = - (if i = 0 then n else 0); split <;> simp
  mul_comm := mul_comm'
theorem C_add (a b : Int) : C (a + b) = C a + C b := ext' fun i => by show (if i = 0 then a + b else 0) = (if i = 0 then a else 0) + (if i = 0 then b else 0); split <;> simp
theorem C_mul (a b : Int) : C (a * b) = C a * C b := ext' fun i => by rw [Cmul]; show (if i = 0 then a * b else 0) = a * (if i = 0 then b else 0); split <;> simp
theorem C_neg (a : Int) : C (-a) = - C a := ext' fun i => by show (if i = 0 then -a else 0) = - (if i = 0 then a else 0); split <;> simp
theorem C_sub (a b : Int) : C (a - b) = C a - C b := ext' fun i => by show (if i = 0 then a - b else 0) = (if i = 0 then a else 0) - (if i = 0 then b else 0); split <;> simp
theorem C_one : C 1 = 1 := rfl
theorem C_zero : C 0 = 0 := rfl
def X : PS := ⟨fun i => if i = 1 then 1 else 0⟩
theorem X_mul (F : PS) (n : Nat) : (X * F).c n = if n = 0 then 0 else F.c (n - 1) := by
  show sumN (fun i => (if i = 1 then 1 else 0) * F.c (n - i)) (n + 1) = _
  cases n with
  | zero => show 0 + (if 0 = 1 then 1 else 0) * F.c 0 = 0; simp
  | succ n =>
    rw [vW, vW, aCO _ _ fun i _ => by simp]
    simp
def dl (F : PS) : PS := ⟨fun i => ((i : Int) + 1) * F.c (i + 1)⟩
theorem dl_add (F G : PS) : dl (F + G) = dl F + dl G := ext' fun i => by show _ * (_ + _) = _ * _ + _ * _; rw [Int.mul_add]
theorem dl_mul (F G : PS) : dl (F * G) = dl F * G + F * dl G := ext' fun n => by
  show ((n : Int) + 1) * sumN (fun i => F.c i * G.c (n + 1 - i)) (n + 1 + 1) = sumN (fun i => (((i : Int) + 1) * F.c (i + 1)) * G.c (n - i)) (n + 1) + sumN (fun i => F.c i * ((((n - i : Nat) : Int) + 1) * G.c (n - i + 1))) (n + 1)
  have e : sumN (fun i => ((n : Int) + 1) * (F.c i * G.c (n + 1 - i))) (n + 1 + 1) = sumN (fun i => (i : Int) * (F.c i * G.c (n + 1 - i)) + ((n : Int) + 1 - i) * (F.c i * G.c (n + 1 - i))) (n + 1 + 1) := zV fun i hi => by
    rw [<- Int.add_mul, show (i : Int) + ((n : Int) + 1 - i) = (n : Int) + 1 by omega]
  rw [<- aEU, e, aEV, vW]
  have e2 : sumN (fun i => ((n : Int) + 1 - i) * (F.c i * G.c (n + 1 - i))) (n + 1 + 1) = sumN (fun i => F.c i * ((((n - i : Nat) : Int) + 1) * G.c (n - i + 1))) (n + 1) := by
    show sumN (fun i => ((n : Int) + 1 - i) * (F.c i * G.c (n + 1 - i))) (n + 1) + ((n : Int) + 1 - (n + 1 : Nat)) * (F.c (n + 1) * G.c (n + 1 - (n + 1))) = _
    rw [show ((n : Int) + 1 - (n + 1 : Nat)) = 0 by omega, Int.zero_mul, Int.add_zero]
    refine zV fun i hi => ?_
    rw [show ((n - i : Nat) : Int) + 1 = (n : Int) + 1 - i by omega, show n - i + 1 = n + 1 - i by omega]
    exact Int.mul_left_comm _ _ _
  rw [e2]
  have e3 : sumN (fun i => ((i + 1 : Nat) : Int) * (F.c (i + 1) * G.c (n + 1 - (i + 1)))) (n + 1) = sumN (fun i => (((i : Int) + 1) * F.c (i + 1)) * G.c (n - i)) (n + 1) := zV fun i hi => by
    rw [show n + 1 - (i + 1) = n - i by omega, Int.mul_assoc]; rfl
  rw [e3, Int.natCast_zero, Int.zero_mul, Int.zero_add]
theorem dl_C (a : Int) : dl (C a) = 0 := ext' fun i => by show _ * (if i + 1 = 0 then a else 0) = (if i = 0 then ((0 : Nat) : Int) else 0); simp
theorem dl_X : dl X = 1 := ext' fun i => by
  show ((i : Int) + 1) * (if i + 1 = 1 then 1 else 0) = (if i = 0 then ((1 : Nat) : Int) else 0)
  by_cases h : i = 0
  . subst h; rfl
  . rw [if_neg (by omega), if_neg h, Int.mul_zero]
end PS
end My
set_option maxHeartbeats 4000000
namespace My
open PySem L2 L2.EV PyProof.Rows
def ps (f : List Int) : PS := ⟨co f⟩
theorem aFG (h : Nat -> Int) (n : Nat) (hz : ∀ i, n <= i -> h i = 0) : ∀ k, sumN h (n + k) = sumN h n
  | 0 => rfl
  | k + 1 => by show sumN h (n + k) + h (n + k) = _; rw [aFG h n hz k, hz _ (by omega), Int.add_zero]
theorem aTC (m : List Int) (S : Nat -> Int) (p : Nat) : ∀ k, psG m S p k = sumN (fun i => m.getD i 0 * (if i <= p then S (p - i) else 0)) k
  | 0 => rfl
  | k + 1 => by
    show psG m S p k + _ = sumN (fun i => m.getD i 0 * (if i <= p then S (p - i) else 0)) k + _
    rw [aTC m S p k]
theorem aVK (m : List Int) (S : Nat -> Int) (p : Nat) : PS.conv (co m) S p = cm m S p := by
  show sumN (fun i => m.getD i 0 * S (p - i)) (p + 1) = psG m S p m.length
  rw [aTC, <- aFG (fun i => m.getD i 0 * (if i <= p then S (p - i) else 0)) m.length (fun i hi => by show m.getD i 0 * _ = 0; rw [yH hi, Int.zero_mul]) (p + 1), Nat.add_comm m.length, aFG _ (p + 1) (fun i hi => by show _ * (if i <= p then _ else _) = 0; rw [if_neg (by omega), Int.mul_zero])]
  exact zV fun i hi => by rw [if_pos (by omega)]
theorem aWP (m : List Int) (S : Nat -> Int) : (⟨cm m S⟩ : PS) = ps m * ⟨S⟩ := PS.ext' fun i => (aVK m S i).symm
theorem qM (f g : List Int) : ps (timesL f g) = ps f * ps g := by
  have : ps (timesL f g) = ⟨cm g (co f)⟩ := by unfold ps; rw [aEQ]
  rw [this, aWP, PS.mul_comm']; rfl
theorem aFS {f g : List Int} (hf : RowOk f) (hg : RowOk g) (h : ps f = ps g) : f = g := aCD hf hg fun i => congrFun (congrArg PS.c h) i
theorem aJH (f : List Int) : ps (slopeL f) = PS.dl (ps f) := PS.ext' fun i => by
  show (slopeL f).getD i 0 = ((i : Int) + 1) * f.getD (i + 1) 0
  unfold slopeL
  rw [List.getD_eq_getElem?_getD, List.getElem?_map]
  by_cases h : i < f.length - 1
  . rw [List.getElem?_range h]
    show (1 + (i : Int)) * f.getD (1 + i) 0 = _
    rw [Int.add_comm 1, Nat.add_comm 1]
  . rw [List.getElem?_eq_none (by simpa using h), yH (by omega), Int.mul_zero]; rfl
theorem wF : ps [] = 0 := PS.ext' fun i => by show ([] : List Int).getD i 0 = if i = 0 then ((0 : Nat) : Int) else 0; split <;> rfl
theorem jL (a : Int) (f : List Int) : ps (a :: f) = PS.C a + PS.X * ps f := PS.ext' fun i => by
  rw [PS.addc, PS.X_mul, PS.Cc]
  cases i with
  | zero => show a = a + 0; omega
  | succ i => show f.getD i 0 = 0 + f.getD i 0; omega
theorem aTA (c : Int) (f : List Int) : ps (f.map fun x => c * x) = PS.C c * ps f := PS.ext' fun i => by
  rw [PS.Cmul]
  exact zP (φ := fun x => c * x) (by exact Int.mul_zero c) f i
def Fin' (F : PS) : Prop := Fs F.c
theorem Fin'.ps (f : List Int) : Fin' (My.ps f) := ⟨f.length, fun i hi => yH hi⟩
theorem Fin'.add {F G : PS} (h : Fin' F) (g : Fin' G) : Fin' (F + G) := Fs.add h g
theorem Fin'.C (a : Int) : Fin' (PS.C a) := ⟨1, fun i hi => if_neg (by omega)⟩
theorem Fin'.mul {F G : PS} (h : Fin' F) (g : Fin' G) : Fin' (F * G) := by
  obtain ⟨N, hN⟩ := h
  obtain ⟨M, hM⟩ := g
  refine ⟨N + M, fun i hi => aCO _ _ fun j hj => ?_⟩
  rcases Nat.lt_or_ge j N with z | z
  . rw [hM (i - j) (by omega), Int.mul_zero]
  . rw [hN j z, Int.zero_mul]
theorem Fin'.neg {F : PS} (h : Fin' F) : Fin' (-F) := by
  obtain ⟨N, hN⟩ := h
  exact ⟨N, fun i hi => by rw [PS.negc, hN i hi]; rfl⟩
theorem Fin'.X : Fin' PS.X := ⟨2, fun i hi => if_neg (by omega)⟩
theorem Fin'.dl {F : PS} (h : Fin' F) : Fin' (PS.dl F) := by
  obtain ⟨N, hN⟩ := h
  exact ⟨N, fun i hi => by show _ * F.c (i + 1) = 0; rw [hN (i + 1) (by omega), Int.mul_zero]⟩
theorem Fin'.one : Fin' 1 := Fin'.C 1
theorem Fin'.zero : Fin' 0 := Fin'.C 0
theorem Fin'.pow {F : PS} (h : Fin' F) : ∀ n : Nat, Fin' (F ^ n)
  | 0 => Fin'.one
  | n + 1 => (Fin'.pow h n).mul h
theorem Fin'.row {F : PS} (h : Fin' F) : ∃ q, RowOk q /\ My.ps q = F := by
  obtain ⟨N, hN⟩ := h
  refine ⟨trimI ((List.range N).map F.c), trimOk _, PS.ext' fun i => ?_⟩
  show co (trimI ((List.range N).map F.c)) i = _
  rw [aNN]
  show ((List.range N).map F.c).getD i 0 = F.c i
  rw [List.getD_eq_getElem?_getD, List.getElem?_map]
  by_cases y : i < N
  . rw [List.getElem?_range y]; rfl
  . rw [List.getElem?_eq_none (by simpa using y), hN i (by omega)]; rfl
theorem aLD {f g : List Int} {a b : Int} (ha : a ≠ 0) (hb : b ≠ 0) (h : PS.C a * ps f = PS.C b * ps g) : Sim (co f) (co g) :=
  ⟨a, b, ha, hb, fun i => by
    have := congrFun (congrArg PS.c h) i
    rw [PS.Cmul, PS.Cmul] at this; exact this⟩
def Cop (F G : PS) : Prop := ∃ (U V : PS) (r : Int), Fin' U /\ Fin' V /\ r ≠ 0 /\ U * F + V * G = PS.C r
theorem Cop.symm {F G : PS} (h : Cop F G) : Cop G F := by
  obtain ⟨U, V, r, hU, hV, hr, e⟩ := h
  exact ⟨V, U, r, hV, hU, hr, by grind⟩
theorem Cop.mul {F G H : PS} (fF : Fin' F) (fG : Fin' G) (fH : Fin' H) (h : Cop F G) (k : Cop F H) : Cop F (G * H) := by
  obtain ⟨U, V, r, hU, hV, hr, e⟩ := h
  obtain ⟨U', V', r', hU', hV', hr', e'⟩ := k
  refine ⟨U * U' * F + U * V' * H + V * U' * G, V * V', r * r', (((hU.mul hU').mul fF).add ((hU.mul hV').mul fH)).add ((hV.mul hU').mul fG), hV.mul hV', Int.mul_ne_zero hr hr', ?_⟩
  rw [PS.C_mul, <- e, <- e']; grind
theorem Cop.add {F G A : PS} (fA : Fin' A) (h : Cop F G) : Cop F (G + A * F) := by
  obtain ⟨U, V, r, hU, hV, hr, e⟩ := h
  exact ⟨U + -(V * A), V, r, hU.add (hV.mul fA).neg, hV, hr, by rw [<- e]; grind⟩
theorem Cop.sml {F G : PS} {c : Int} (hc : c ≠ 0) (h : Cop F G) : Cop F (PS.C c * G) := by
  obtain ⟨U, V, r, hU, hV, hr, e⟩ := h
  exact ⟨PS.C c * U, V, c * r, (Fin'.C c).mul hU, hV, Int.mul_ne_zero hc hr, by rw [PS.C_mul, <- e]; grind⟩
theorem Cop.const (F : PS) {c : Int} (hc : c ≠ 0) : Cop F (PS.C c) := ⟨0, 1, c, Fin'.zero, Fin'.one, hc, by grind⟩
theorem Cop.eq {F G G' : PS} (h : Cop F G) (e : G = G') : Cop F G' := e ▸ h
theorem Cop.len {f g s : List Int} (h : Cop (ps f) (ps g)) (d1 : Dv s (co f)) (d2 : Dv s (co g)) (rs : RowOk s) (hs : s ≠ []) : s.length = 1 := by
  obtain ⟨U, V, r, hU, hV, hr, e⟩ := h
  obtain ⟨c1, φ, k1, f1, e1⟩ := d1
  obtain ⟨c2, ψ, k2, f2, e2⟩ := d2
  have E1 : PS.C c1 * ps f = ps s * ⟨φ⟩ := by rw [<- aWP]; exact PS.ext' fun i => (PS.Cmul _ _ _).trans (e1 i)
  have E2 : PS.C c2 * ps g = ps s * ⟨ψ⟩ := by rw [<- aWP]; exact PS.ext' fun i => (PS.Cmul _ _ _).trans (e2 i)
  have hχ : Fin' (PS.C c2 * U * ⟨φ⟩ + PS.C c1 * V * ⟨ψ⟩) := (((Fin'.C c2).mul hU).mul f1).add (((Fin'.C c1).mul hV).mul f2)
  have E : ps s * (PS.C c2 * U * ⟨φ⟩ + PS.C c1 * V * ⟨ψ⟩) = PS.C (c1 * c2 * r) := by
    rw [PS.C_mul, PS.C_mul, <- e]; grind
  generalize PS.C c2 * U * ⟨φ⟩ + PS.C c1 * V * ⟨ψ⟩ = χ at hχ E
  have Ei : ∀ i, cm s χ.c i = if i = 0 then c1 * c2 * r else 0 := fun i => by
    have := congrFun (congrArg PS.c E) i
    rw [PS.Cc] at this
    rw [<- this]; exact (aVK s χ.c i).symm
  have hp := List.length_pos_iff.mpr hs
  have hl : s.getD (s.length - 1) 0 ≠ 0 := by rw [yR hs]; exact yJ rs hs
  obtain ⟨N, hN⟩ := hχ
  rcases aDE (P := 0) (φ := χ.c) N (fun i hi => by rw [hN i hi]; exact Int.dvd_refl 0) with z | ⟨t, t1, t2⟩
  . exfalso
    have h0 := aYS s (P := 0) z 0
    rw [Ei 0, if_pos rfl] at h0
    exact Int.mul_ne_zero (Int.mul_ne_zero k1 k2) hr (Int.zero_dvd.mp h0)
  . have ht := top_mod (P := 0) (s := s) (φ := χ.c) (j := s.length - 1) (t := t) (by omega) (fun k hk => by rw [yH (by omega)]; exact Int.dvd_refl 0) t2
    have ht' := Int.zero_dvd.mp ht
    rw [Ei] at ht'
    have hx : χ.c t ≠ 0 := fun z => t1 (by rw [z]; exact Int.dvd_refl 0)
    have := Int.mul_ne_zero hl hx
    by_cases y : s.length - 1 + t = 0
    . omega
    . rw [if_neg y] at ht'; omega
theorem Cop.shared {f g : List Int} (rf : RowOk f) (rg : RowOk g) (hf : f ≠ []) (h : Cop (ps f) (ps g)) : plainB (sh f g) = [1] := by
  obtain ⟨d1, d2⟩ := aSL g.length f g (Nat.le_refl _) rg
  have hn := aWI (g := g) rg hf (yJ rf hf)
  exact aFX (aBW rf rg) (h.len d1 d2 (aBW rf rg) hn)
end My
namespace My
open PySem L2 L2.EV PyProof.Rows
theorem aNT : ∀ (n m : Nat), m <= n -> 2 <= m -> ∃ P, Prm P /\ P ∣ m
  | 0, m, h, h2 => by omega
  | n + 1, m, h, h2 => by
    by_cases q : ∀ d, d ∣ m -> d = 1 \/ d = m
    . exact ⟨m, ⟨h2, q⟩, Nat.dvd_refl m⟩
    . obtain ⟨d, hd⟩ := Classical.not_forall.mp q
      obtain ⟨d1, d2⟩ := Classical.not_imp.mp hd
      have hm := Nat.le_of_dvd (by omega) d1
      have h0 : d ≠ 0 := fun z => by subst z; have := Nat.zero_dvd.mp d1; omega
      obtain ⟨P, hP, hd⟩ := aNT n d (by omega) (by omega)
      exact ⟨P, hP, Nat.dvd_trans hd d1⟩
def Prim (s : List Int) : Prop := ∀ P : Nat, Prm P -> ∃ k, ¬ (P : Int) ∣ s.getD k 0
theorem aTT (s : List Int) (k : Nat) : (s.map fun x => -x).getD k 0 = - s.getD k 0 := zP (φ := fun x => -x) rfl s k
theorem aDU {f : List Int} (h : RowOk f) (hne : f ≠ []) : Prim (plainB f) := fun P hP => by
  obtain ⟨k, hk⟩ := aPX hP.two (aAJ h hne)
  refine ⟨k, ?_⟩
  unfold plainB
  split
  . rw [aTT]; exact fun z => hk (Int.dvd_neg.mp z)
  . exact hk
theorem aBQ {f : List Int} (hne : f ≠ []) : plainB f ≠ [] := fun z => hne (List.eq_nil_of_length_eq_zero (by rw [<- zL f, z]; rfl))
theorem aLX {f : List Int} (h : RowOk f) (hne : f ≠ []) : 0 < lastI (plainB f) := by
  have h0 := aEY h hne
  unfold plainB
  split
  . rename_i q
    rw [wK _ (fun x => -x) rfl]; omega
  . omega
theorem aJJ {f : List Int} (h : RowOk f) (hp : Prim f) (hl : 0 < lastI f) : plainB f = f := by
  have hne : f ≠ [] := fun z => by subst z; exact absurd hl (by decide)
  have hg := aAJ h hne
  have g1 : gl f = 1 := by
    apply Classical.byContradiction
    intro q
    obtain ⟨P, hP, hd⟩ := aNT (gl f) (gl f) (Nat.le_refl _) (by omega)
    obtain ⟨k, hk⟩ := hp P hP
    refine hk ?_
    by_cases hi : k < f.length
    . have hx : f.getD k 0 ∈ f := by rw [wL hi]; exact List.getElem_mem _
      exact Int.ofNat_dvd_left.mpr (Nat.dvd_trans hd (aUN hx))
    . rw [yH (by omega)]; exact Int.dvd_zero _
  have e : lowB f = f := by
    unfold lowB
    rw [g1]
    conv => rhs; rw [<- List.map_id f]
    exact List.map_congr_left fun x _ => by show x.fdiv ((1 : Nat) : Int) = x; exact Int.fdiv_one x
  unfold plainB
  rw [e, if_neg (by omega)]
theorem aRC {a b : List Int} (ha : Prim a) (hb : Prim b) : Prim (timesL a b) := fun P hP => by
  apply Classical.byContradiction
  intro hn
  have h1 : ∀ i, (P : Int) ∣ cm b (co a) i := fun i => by
    rw [<- aEQ]
    exact Classical.byContradiction fun z => hn ⟨i, z⟩
  have h2 := gauss hP (Fin'.ps a) (hb P hP) h1
  obtain ⟨k, hk⟩ := ha P hP
  exact hk (h2 k)
theorem aCA (g : List Int) : timesL [] g = [] := aFS (trimOk _) (.inl rfl) (by rw [qM, wF]; grind)
theorem aFY (f : List Int) (h : RowOk f) (hne : f ≠ []) : ∃ c : Int, c ≠ 0 /\ f = (plainB f).map fun x => c * x := by
  have hg := aAJ h hne
  have e : ∀ i, f.getD i 0 = (gl f : Int) * (lowB f).getD i 0 := fun i => by
    unfold lowB
    rw [zP (φ := fun x => x.fdiv (gl f : Int)) (by exact Int.zero_fdiv _)]
    by_cases hi : i < f.length
    . have hx : f.getD i 0 ∈ f := by rw [wL hi]; exact List.getElem_mem _
      obtain ⟨k, hk⟩ : (gl f : Int) ∣ f.getD i 0 := Int.ofNat_dvd_left.mpr (aUN hx)
      rw [hk, Int.mul_fdiv_cancel_left _ (by omega)]
    . rw [yH (by omega), Int.zero_fdiv, Int.mul_zero]
  by_cases q : lastI (lowB f) < 0
  . refine ⟨-(gl f : Int), by omega, ?_⟩
    refine wU (by rw [List.length_map, zL]) fun i hi => ?_
    rw [zP (φ := fun x => -(gl f : Int) * x) (by exact Int.mul_zero _)]
    unfold plainB
    rw [if_pos q, aTT, e i]; grind
  . refine ⟨(gl f : Int), by omega, ?_⟩
    refine wU (by rw [List.length_map, zL]) fun i hi => ?_
    rw [zP (φ := fun x => (gl f : Int) * x) (by exact Int.mul_zero _)]
    unfold plainB
    rw [if_neg q, e i]
theorem aFW {a b : List Int} (ra : RowOk a) (rb : RowOk b) (ha : a ≠ []) (hb : b ≠ []) : plainB (timesL a b) = timesL (plainB a) (plainB b) := by
  obtain ⟨c, hc, ea⟩ := aFY a ra ha
  obtain ⟨d, hd, eb⟩ := aFY b rb hb
  have e : Sim (co (timesL a b)) (co (timesL (plainB a) (plainB b))) := aLD (a := 1) (b := c * d) (by decide) (Int.mul_ne_zero hc hd) (by
    have e1 := congrArg ps ea
    have e2 := congrArg ps eb
    rw [aTA] at e1 e2
    rw [qM, qM, e1, e2, PS.C_mul, PS.C_one]; grind)
  rw [jM (timesOk _ _) (timesOk _ _) e]
  have pl := (qS (plainOk' ra) (plainOk' rb) (aBQ ha) (aBQ hb)).2
  refine aJJ (trimOk _) (aRC (aDU ra ha) (aDU rb hb)) ?_
  rw [pl]
  exact Int.mul_pos (aLX rb hb) (aLX ra ha)
theorem aML {s : List Int} (hs : Prim s) {F : Nat -> Int} : ∀ (n : Nat) (c : Int) (φ : Nat -> Int), c.natAbs <= n -> c ≠ 0 -> Fs φ -> (∀ i, c * F i = cm s φ i) -> ∃ φ : Nat -> Int, Fs φ /\ ∀ i, F i = cm s φ i
  | 0, c, φ, h, h0, _, _ => by omega
  | n + 1, c, φ, h, h0, fφ, e => by
    by_cases q : c.natAbs = 1
    . refine ⟨fun i => c * φ i, fφ.sml c, fun i => ?_⟩
      rw [wV, <- e i, <- Int.mul_assoc]
      have : c * c = 1 := by
        rcases Int.natAbs_eq c with z | z
        . rw [z, q]; rfl
        . rw [z, q]; rfl
      rw [this, Int.one_mul]
    . obtain ⟨P, hP, pd⟩ := aNT c.natAbs c.natAbs (Nat.le_refl _) (by omega)
      obtain ⟨d, hd⟩ : (P : Int) ∣ c := Int.ofNat_dvd_left.mpr pd
      have hφ := gauss hP fφ (hs P hP) fun i => ⟨d * F i, by rw [<- e i, hd, Int.mul_assoc]⟩
      have p2 := hP.two
      have hd0 : d ≠ 0 := fun z => h0 (by rw [hd, z, Int.mul_zero])
      have hlt : d.natAbs < c.natAbs := by
        rw [hd, Int.natAbs_mul, Int.natAbs_natCast]
        have : 1 <= d.natAbs := by omega
        have := Nat.mul_le_mul_right d.natAbs p2
        omega
      have eφ : ∀ i, φ i = (P : Int) * (φ i / (P : Int)) := fun i => (Int.mul_ediv_cancel' (hφ i)).symm
      obtain ⟨N, hN⟩ := fφ
      refine aML hs n d (fun i => φ i / (P : Int)) (by omega) hd0 ⟨N, fun i hi => by show φ i / (P : Int) = 0; rw [hN i hi]; simp⟩ fun i => ?_
      have h1 := e i
      rw [show φ = fun i => (P : Int) * (φ i / (P : Int)) from funext eφ, wV, hd, Int.mul_assoc] at h1
      exact Int.eq_of_mul_eq_mul_left (show (P : Int) ≠ 0 by omega) h1
theorem aRX {s f : List Int} (hs : Prim s) (rf : RowOk f) (h : Dv s (co f)) : ∃ u, RowOk u /\ f = timesL u s := by
  obtain ⟨c, φ, hc, fφ, e⟩ := h
  obtain ⟨ψ, fψ, e2⟩ := aML hs c.natAbs c φ (Nat.le_refl _) hc fφ e
  obtain ⟨u, ru, eu⟩ := Fin'.row (F := ⟨ψ⟩) fψ
  refine ⟨u, ru, aFS rf (trimOk _) ?_⟩
  rw [qM, eu, PS.mul_comm', <- aWP]
  exact PS.ext' fun i => e2 i
theorem aSE {g r : List Int} {m : Int} (hg : g ≠ []) (h1 : g.length <= r.length) (em : lastI r = m * lastI g) (i : Nat) : co r i = co (stepQ g r.dropLast m (g.length - 1)) i + m * (if r.length - g.length <= i then co g (i - (r.length - g.length)) else 0) := by
  have hgp := List.length_pos_iff.mpr hg
  have hr : r ≠ [] := fun z => by rw [z] at h1; simp at h1; exact hg h1
  have er := aAH hr
  have hl : r.dropLast.length + 1 = r.length := by
    have := congrArg List.length er
    rw [List.length_append] at this
    simpa using this.symm
  have sh : r.length - g.length = r.dropLast.length - (g.length - 1) := by omega
  rw [sh]
  rcases Nat.lt_trichotomy i r.dropLast.length with z | z | z
  . have ec : co r i = r.dropLast.getD i 0 := by
      show r.getD i 0 = _
      conv => lhs; rw [er]
      rw [List.getD_eq_getElem?_getD, List.getElem?_append_left z, <- List.getD_eq_getElem?_getD]
    show _ = (stepQ g r.dropLast m (g.length - 1)).getD i 0 + _
    rw [ec, wC z]
    by_cases y : r.dropLast.length - (g.length - 1) <= i
    . rw [if_pos ⟨y, by omega⟩, if_pos y]
      show _ = _ + m * g.getD (i - (r.dropLast.length - (g.length - 1))) 0
      omega
    . rw [if_neg (fun z => y z.1), if_neg y]; omega
  . have ec : co r i = lastI r := by
      show r.getD i 0 = _
      conv => lhs; rw [er, z]
      rw [List.getD_eq_getElem?_getD, List.getElem?_append_right (Nat.le_refl _), Nat.sub_self]; rfl
    have el : g.getD (g.length - 1) 0 = lastI g := yR hg
    have eq : co (stepQ g r.dropLast m (g.length - 1)) i = 0 := yH (by rw [zH]; omega)
    rw [ec, eq, if_pos (by omega), show i - (r.dropLast.length - (g.length - 1)) = g.length - 1 by omega, em]
    show _ = 0 + m * g.getD (g.length - 1) 0
    rw [el]; omega
  . have ec : co r i = 0 := yH (by omega)
    have eq : co (stepQ g r.dropLast m (g.length - 1)) i = 0 := yH (by rw [zH]; omega)
    have eg : co g (i - (r.dropLast.length - (g.length - 1))) = 0 := yH (by omega)
    rw [ec, eq, eg]
    split <;> omega
theorem aVH {g r : List Int} (hl : lastI g ≠ 0) (φ : Nat -> Int) {n s : Nat} (hr : r.length = n + 1) (hs : n + 1 = s + g.length) (h : ∀ p, r.getD p 0 = cv g φ (s + 1) p) : lastI r = φ s * lastI g := by
  have hp := List.length_pos_iff.mpr (qP hl)
  have hrn : r ≠ [] := fun y => by subst y; simp at hr
  have g1 := yR hrn
  rw [hr, show n + 1 - 1 = n by omega, h n, aGT, aYQ g φ n s (by omega), if_pos (by omega), show n - s = g.length - 1 by omega, yR (qP hl), Int.zero_add] at g1
  exact g1.symm
theorem aLS {g : List Int} (hl : lastI g ≠ 0) (φ : Nat -> Int) : ∀ (n : Nat) (q r : List Int), r.length = n -> (∀ p, r.getD p 0 = cv g φ (n + 1 - g.length) p) ->
    ∃ r', qGo g n r q = some (r', q ++ ((List.range (n + 1 - g.length)).map φ).reverse) /\ ∀ p, r'.getD p 0 = 0
  | 0, q, r, hr, h => by
    have hp := List.length_pos_iff.mpr (qP hl)
    have e : 0 + 1 - g.length = 0 := by omega
    rw [e] at h ⊢
    exact ⟨r, by unfold qGo; simp, fun p => by rw [h p, aKK]⟩
  | n + 1, q, r, hr, h => by
    have hp := List.length_pos_iff.mpr (qP hl)
    unfold qGo
    by_cases z : g.length <= r.length
    . rw [if_pos z]
      obtain ⟨s, hs⟩ : ∃ s, n + 1 - g.length = s := ⟨_, rfl⟩
      have e : n + 1 + 1 - g.length = s + 1 := by omega
      rw [e] at h ⊢
      have top := aVH hl φ hr (s := s) (by omega) h
      have fm : (lastI r).fmod (lastI g) = 0 := by rw [top]; exact Int.mul_fmod_left _ _
      have fd : (lastI r).fdiv (lastI g) = φ s := by rw [top]; exact Int.mul_fdiv_cancel _ hl
      rw [if_pos fm, fd]
      have key := aSE (qP hl) z top
      have hdl : r.dropLast.length = n := by rw [List.length_dropLast]; omega
      obtain ⟨r', e1, e2⟩ := aLS hl φ n (q ++ [φ s]) (stepQ g r.dropLast (φ s) (g.length - 1)) (by rw [zH]; exact hdl) fun p => by
        have k := key p
        have hh := h p
        rw [aGT] at hh
        rw [show r.length - g.length = s by omega] at k
        have k' : r.getD p 0 = (stepQ g r.dropLast (φ s) (g.length - 1)).getD p 0 + φ s * (if s <= p then g.getD (p - s) 0 else 0) := k
        rw [hs]
        omega
      refine ⟨r', ?_, e2⟩
      rw [e1, hs, List.range_succ, List.map_append, List.reverse_append, List.append_assoc]; rfl
    . rw [if_neg z]
      have e : n + 1 + 1 - g.length = 0 := by omega
      rw [e] at h ⊢
      exact ⟨r, by simp, fun p => by rw [h p, aKK]⟩
theorem aSA {u : List Int} (h : RowOk u) : trimI u = u := aCD (trimOk _) h fun i => vO u i
theorem aRB (u : List Int) : (List.range u.length).map (fun i => u.getD i 0) = u := wU (by simp) fun j hj => by
  rw [List.length_map, List.length_range] at hj
  rw [List.getD_eq_getElem?_getD, List.getElem?_map, List.getElem?_range hj]; rfl
theorem aXN {r : List Int} (h : ∀ p, r.getD p 0 = 0) : r.any (· != 0) = false := by
  rw [List.any_eq_false]
  intro x hx
  obtain ⟨k, hk, rfl⟩ := List.getElem_of_mem hx
  have := h k
  rw [wL hk] at this
  simp [this]
theorem aII {u g : List Int} (ru : RowOk u) (rg : RowOk g) (hg : g ≠ []) : wqD (timesL u g) g = rowD u := by
  have hl := yJ rg hg
  have hgp := List.length_pos_iff.mpr hg
  by_cases hu : u = []
  . subst hu; rw [aCA]; rfl
  . have tl := (qS ru rg hu hg).1
    have hup := List.length_pos_iff.mpr hu
    have hn : (timesL u g).length + 1 - g.length = u.length := by omega
    obtain ⟨r', e1, e2⟩ := aLS hl (fun k => u.getD k 0) (timesL u g).length [] (timesL u g) rfl fun p => by rw [hn, aIL]
    unfold wqD
    rw [e1]
    show (if r'.any (· != 0) = true then D.non else rowD (trimI ([] ++ ((List.range ((timesL u g).length + 1 - g.length)).map fun k => u.getD k 0).reverse).reverse)) = _
    rw [aXN e2, hn, List.nil_append, List.reverse_reverse, aRB, aSA ru]; rfl
theorem aKW {u v g : List Int} (ru : RowOk u) (rv : RowOk v) (rg : RowOk g) (hg : g ≠ []) (h : timesL u g = timesL v g) : u = v := by
  have h1 := aII ru rg hg
  rw [h, aII rv rg hg] at h1
  have h2 : v.map D.int = u.map D.int := by injection h1
  exact (List.map_inj_right (fun a b q => by injection q)).mp h2.symm
abbrev shs (f : List Int) : List Int := plainB (sh f (slopeL f))
def IsBare (f u : List Int) : Prop := RowOk u /\ u ≠ [] /\ plainB u = u /\ plainB f = timesL u (shs f)
theorem aFI {f : List Int} (rf : RowOk f) (hf : f ≠ []) : RowOk (shs f) /\ shs f ≠ [] /\ Prim (shs f) /\ plainB (shs f) = shs f := by
  have rs := vR rf
  have rk := aBW rf rs
  have hn := aWI (g := slopeL f) rs hf (yJ rf hf)
  exact ⟨plainOk' rk, aBQ hn, aDU rk hn, jR rk⟩
theorem eAS {f : List Int} (rf : RowOk f) (hf : f ≠ []) : ∃ u, IsBare f u := by
  obtain ⟨ok, ne, pr, pp⟩ := aFI rf hf
  have rs := vR rf
  have rk := aBW rf rs
  obtain ⟨d1, d2⟩ := aSL (slopeL f).length f (slopeL f) (Nat.le_refl _) rs
  have d3 : Dv (shs f) (co (plainB f)) := (d1.list (by rw [zL]) (wH rk)).sim (wH rf)
  obtain ⟨u, ru, e⟩ := aRX pr (plainOk' rf) d3
  have hu : u ≠ [] := fun z => by subst z; rw [aCA] at e; exact aBQ hf e
  refine ⟨u, ru, hu, ?_, e⟩
  have h1 := aFW ru ok hu ne
  rw [<- e, jR rf, pp, e] at h1
  exact (aKW ru (plainOk' ru) ok ne h1).symm
theorem aSI {f g : List Int} (rf : RowOk f) (rg : RowOk g) (h : Sim (co f) (co g)) : shs f = shs g := by
  have hs : Sim (co (slopeL f)) (co (slopeL g)) := by
    obtain ⟨a, b, ha, hb, e⟩ := h
    refine aLD ha hb ?_
    rw [aJH, aJH]
    refine PS.ext' fun i => ?_
    rw [PS.Cmul, PS.Cmul]
    show a * (((i : Int) + 1) * f.getD (i + 1) 0) = b * (((i : Int) + 1) * g.getD (i + 1) 0)
    have := e (i + 1)
    have : a * f.getD (i + 1) 0 = b * g.getD (i + 1) 0 := this
    grind
  exact jM (aBW rf (vR rf)) (aBW rg (vR rg)) (aSK (vR rf) (vR rg) h hs)
def Grown (F P : PS) : Prop := ∃ D Q : PS, Fin' D /\ Fin' Q /\ F = D * P /\ PS.dl F = D * Q /\ Cop P Q
theorem Grown.start {c : Int} (hc : c ≠ 0) : Grown (PS.C c) 1 := ⟨PS.C c, 0, Fin'.C c, Fin'.zero, by grind, by rw [PS.dl_C]; grind, ⟨1, 0, 1, Fin'.one, Fin'.zero, by decide, by rw [PS.C_one]; grind⟩⟩
theorem aYO (p : PS) : ∀ n : Nat, PS.dl (p ^ (n + 1)) = PS.C (n + 1 : Nat) * p ^ n * PS.dl p
  | 0 => by
    have e : p ^ (0 + 1) = p := by rw [Lean.Grind.Semiring.pow_succ, Lean.Grind.Semiring.pow_zero]; grind
    rw [e, Lean.Grind.Semiring.pow_zero]
    show PS.dl p = PS.C 1 * 1 * PS.dl p
    rw [PS.C_one]; grind
  | n + 1 => by
    rw [Lean.Grind.Semiring.pow_succ p (n + 1), PS.dl_mul, aYO p n, Lean.Grind.Semiring.pow_succ p n]
    have : PS.C ((n + 1 + 1 : Nat) : Int) = PS.C ((n + 1 : Nat) : Int) + 1 := by rw [<- PS.C_one, <- PS.C_add]; congr 1
    rw [this]; grind
theorem Grown.step {F P p : PS} (fP : Fin' P) (fp : Fin' p) (h : Grown F P) (c1 : Cop P p) (c2 : Cop p (PS.dl p)) (n : Nat) : Grown (F * p ^ (n + 1)) (P * p) := by
  obtain ⟨D, Q, fD, fQ, e1, e2, cp⟩ := h
  have fd := fp.dl
  have hn : ((n + 1 : Nat) : Int) ≠ 0 := by omega
  refine ⟨D * p ^ n, Q * p + PS.C (n + 1 : Nat) * (P * PS.dl p), fD.mul (fp.pow n), (fQ.mul fp).add ((Fin'.C _).mul (fP.mul fd)), ?_, ?_, ?_⟩
  . rw [e1, Lean.Grind.Semiring.pow_succ]; grind
  . rw [PS.dl_mul, e2, aYO, e1, Lean.Grind.Semiring.pow_succ]; grind
  . have k1 : Cop P (Q * p + PS.C (n + 1 : Nat) * (P * PS.dl p)) := (Cop.add (A := PS.C (n + 1 : Nat) * PS.dl p) ((Fin'.C _).mul fd) (Cop.mul fP fQ fp cp c1)).eq (by grind)
    have k2 : Cop p (Q * p + PS.C (n + 1 : Nat) * (P * PS.dl p)) := (Cop.add (A := Q) fQ (Cop.sml hn (Cop.mul fp fP fd c1.symm c2))).eq (by grind)
    exact (Cop.mul ((fQ.mul fp).add ((Fin'.C _).mul (fP.mul fd))) fP fp k1.symm k2.symm).symm
theorem Grown.bare {f p : List Int} (rf : RowOk f) (rp : RowOk p) (hf : f ≠ []) (h : Grown (ps f) (ps p)) : IsBare f (plainB p) := by
  obtain ⟨D, Q, fD, fQ, e1, e2, cp⟩ := h
  obtain ⟨d, rd, ed⟩ := fD.row
  obtain ⟨q, rq, eq⟩ := fQ.row
  subst ed eq
  have E1 : f = timesL p d := aFS rf (trimOk _) (by rw [qM, e1, PS.mul_comm'])
  have E2 : slopeL f = timesL q d := aFS (vR rf) (trimOk _) (by rw [qM, aJH, e2, PS.mul_comm'])
  have hp : p ≠ [] := fun z => by subst z; rw [aCA] at E1; exact hf E1
  have hd : d ≠ [] := fun z => by
    subst z
    refine hf (E1.trans ?_)
    exact aFS (trimOk _) (.inl rfl) (by rw [qM, wF]; grind)
  have s1 : shs f = plainB d := by
    show plainB (sh f (slopeL f)) = _
    rw [E2, E1, aKV rp rq rd, Cop.shared rp rq hp cp]
    have : timesL [1] d = d := aFS (trimOk _) rd (by rw [qM, jL, wF, PS.C_one]; grind)
    rw [this]
  refine ⟨plainOk' rp, aBQ hp, jR rp, ?_⟩
  rw [s1, <- aFW rp rd hp hd, <- E1]
end My
namespace My
open PySem L2 L2.EV PyProof.Rows
def aAZ (c : Addr) (j : Nat) (ds : List D) (d : D) : Prop := ∃ ea, ds = [.exh c ea, .int j] /\ j < 8 /\ d = .bl true
theorem aJW {c : Addr} {j : Nat} : ∀ ds d, aAZ c j ds d -> ds.length = 2 := by rintro _ _ ⟨ea, rfl, _⟩; rfl
section
variable {P : Program} {w : World} {K : PySem.W.Frag} {mg : Str -> Option Value} {base : Heap} {X : Cx}
theorem aOU {c a0 a1 a2 a3 a4 a5 a6 a7 a8 : Addr} {j : Nat} (h : DefH P w K mg base N__law_only (defScope qH) X) (m_isinstance : mg "isinstance" = none) (m_ValueError : mg "ValueError" = none) (m_range : mg "range" = none) (xc : XCls K c)
    (n0 : mg "NoNumber" = some (.ref a0)) (n1 : mg "NoRow" = some (.ref a1)) (n2 : mg "NoEnds" = some (.ref a2)) (n3 : mg "NoPlace" = some (.ref a3)) (n4 : mg "NoText" = some (.ref a4)) (n5 : mg "NoKind" = some (.ref a5)) (n6 : mg "NoHeight" = some (.ref a6)) (n7 : mg "NoLine" = some (.ref a7)) (n8 : mg "StackError" = some (.ref a8))
    (q0 : PySem.W.kitOne K (.ref c) (.ref a0) = some (decide (j = 0))) (q1 : PySem.W.kitOne K (.ref c) (.ref a1) = some (decide (j = 1))) (q2 : PySem.W.kitOne K (.ref c) (.ref a2) = some (decide (j = 2))) (q3 : PySem.W.kitOne K (.ref c) (.ref a3) = some (decide (j = 3)))
    (q4 : PySem.W.kitOne K (.ref c) (.ref a4) = some (decide (j = 4))) (q5 : PySem.W.kitOne K (.ref c) (.ref a5) = some (decide (j = 5))) (q6 : PySem.W.kitOne K (.ref c) (.ref a6) = some (decide (j = 6))) (q7 : PySem.W.kitOne K (.ref c) (.ref a7) = some (decide (j = 7)))
    (q8 : PySem.W.kitOne K (.ref c) (.ref a8) = some true) (qv : PySem.W.kitOne K (.ref c) (.type "ValueError") = some true) :
    ∀ ds d, aAZ c j ds d -> EvSs X (ds.map Sl.val ++ List.replicate (N__law_only.length - ds.length) Sl.un) (defBody qH) (.rt d) := by
  rintro ds d ⟨ea, rfl, hj, rfl⟩
  obtain ⟨t, rfl, rfl, rfl, rfl, rfl, fnT, hot⟩ := h
  have fn := fnT.fn
  have b1 : Blt X (defScope qH) "isinstance" (.builtin "isinstance") := yN m_isinstance
  have b2 : Blt X (defScope qH) "range" (.type "range") := yN m_range
  have b3 : Blt X (defScope qH) "ValueError" (.type "ValueError") := yN m_ValueError
  show EvSs X [.val (.exh c ea), .val (.int j), .un] _ _
  refine yD (eAX t fn 2 (vH (yB (aCK t b1 xc n0 (EvE.soft (vZ t 0 rfl)) q0) (yB (aCK t b1 xc n1 (EvE.soft (vZ t 0 rfl)) q1) (yB (aCK t b1 xc n2 (EvE.soft (vZ t 0 rfl)) q2) (yB (aCK t b1 xc n3 (EvE.soft (vZ t 0 rfl)) q3) yE)))))) (qW 2 rfl ?_)
  refine yD (eDO t fn 2 (EvN.toE (aQG (vZ t 2 rfl) (EvN.toE (vH (yB (aCK t b1 xc n4 (EvE.soft (vZ t 0 rfl)) q4) (yB (aCK t b1 xc n5 (EvE.soft (vZ t 0 rfl)) q5) (yB (aCK t b1 xc n6 (EvE.soft (vZ t 0 rfl)) q6) (yB (aCK t b1 xc n7 (EvE.soft (vZ t 0 rfl)) q7) yE)))))) (Nat.le_of_ble_eq_true rfl)))) ?_
  refine yG (zI (aEE (aCK t b1 xc n8 (EvE.soft (vZ t 0 rfl)) q8) (aEE (eAY t b1 xc b3 (EvE.soft (vZ t 0 rfl)) qv) (aQB (eAZ t (EvE.p (vZ t 2 rfl)) (EvE.p (EvN.toE (eBA (rs := (List.range 8).map fun (i : Nat) => D.bl (decide ((0 + (i : Int)) = (j : Int)))) t ["_law_e", "_law_at", "_law_kinds", "_law_k"] (csc (by decide +kernel)) (fun I => HotX.now hot I) (aVZ t b2 yC (by decide) (by decide)) (by show 8 < sizeLine; decide) fun X' cx => ?_))) ?_ ?_ ?_)))))
  . exact CRun.gen (fun (i : Nat) => D.int (0 + (i : Int))) _ (fun (i : Nat) => [.val (.exh c ea), .val (.int j), .val (.lst [.bl (decide (j = 0)), .bl (decide (j = 1)), .bl (decide (j = 2)), .bl (decide (j = 3)), .bl (decide (j = 4)), .bl (decide (j = 5)), .bl (decide (j = 6)), .bl (decide (j = 7))]), .val (.int (0 + (i : Int)))]) _ _ (fun x hx => aPB cx.at0 3) (fun x hx y hy => aPB cx.at0 3) fun i hi => eDP cx.at0 (vZ cx.at0 3 rfl) (vZ cx.at0 1 rfl)
  . have hh : j = 0 \/ j = 1 \/ j = 2 \/ j = 3 \/ j = 4 \/ j = 5 \/ j = 6 \/ j = 7 := by omega
    rcases hh with e | e | e | e | e | e | e | e <;> subst e <;> rfl
  . have hh : j = 0 \/ j = 1 \/ j = 2 \/ j = 3 \/ j = 4 \/ j = 5 \/ j = 6 \/ j = 7 := by omega
    rcases hh with e | e | e | e | e | e | e | e <;> subst e <;> rfl
  . have hh : j = 0 \/ j = 1 \/ j = 2 \/ j = 3 \/ j = 4 \/ j = 5 \/ j = 6 \/ j = 7 := by omega
    rcases hh with e | e | e | e | e | e | e | e <;> subst e <;> rfl
end
end My
namespace My
open PySem L2 L2.EV PyProof.Rows
theorem eBC : ∀ l, l < 10 -> 67 <= xt l /\ (2 <= l -> xt l <= 41020) := by decide
theorem aSM : ∀ (n : Nat) (f g : List Int), g.length <= n -> SIn f g -> BB (xt (sh f g).length) (sh f g)
  | n, f, g, hn, hi => by
    by_cases hg : g = []
    . subst hg
      obtain ⟨rf, rg, lf, A, B, hA, hB, hc⟩ := hi
      rw [aFM]
      have := (eBC f.length (by omega)).1
      refine hA.mono ?_
      rcases hc with z | z <;> omega
    . match n with
      | 0 => exact absurd (List.eq_nil_of_length_eq_zero (by omega)) hg
      | n + 1 =>
        rw [aCB hg]
        have hr := wP (f := f) hg
        exact aSM n g (restF f g) (by omega) (hi.next hg)
theorem aPG {k : Nat} {f : List Int} (h : BB k f) (hl : f.length <= 9) : BB (4 + k) (slopeL f) := fun x hx => by
  unfold slopeL at hx
  obtain ⟨i, hi, rfl⟩ := List.mem_map.mp hx
  have := List.mem_range.mp hi
  have h16 : (1 + (i : Int)).natAbs < 2 ^ 4 := by show _ < 16; omega
  exact yM h16 (h.get _)
structure R9 (f : List Int) : Prop where
  ok : RowOk f
  ne : f ≠ []
  len : f.length <= 9
  bb : BB 60 f
theorem R9.sin {f : List Int} (h : R9 f) : SIn f (slopeL f) := .start h.ok (vR h.ok) h.len (by rw [aLB]; have := h.len; omega) (h.bb.mono (by decide)) ((aPG h.bb h.len).mono (by decide))
theorem R9.s0 {f : List Int} (h : R9 f) : S0 f (slopeL f) := ⟨h.ok, vR h.ok, h.len, by rw [aLB]; have := h.len; omega, h.bb.mono (by decide), (aPG h.bb h.len).mono (by decide)⟩
theorem R9.plain {f : List Int} (h : R9 f) : R9 (plainB f) := ⟨plainOk' h.ok, aBQ h.ne, by rw [zL]; exact h.len, aAR h.bb⟩
theorem R9.shb {f : List Int} (h : R9 f) : (shs f).length <= 9 /\ 1 <= (shs f).length /\ ((shs f).length = 1 -> shs f = [1]) /\ BB 41020 (shs f) := by
  have hs := h.sin
  have l1 := aPH (slopeL f).length f (slopeL f) (Nat.le_refl _) hs
  have b1 := aSM (slopeL f).length f (slopeL f) (Nat.le_refl _) hs
  obtain ⟨ok, ne, pr, pp⟩ := aFI h.ok h.ne
  have hp := List.length_pos_iff.mpr ne
  have el : (shs f).length = (sh f (slopeL f)).length := zL _
  have one : (shs f).length = 1 -> shs f = [1] := fun z => by rw [<- pp]; exact aFX ok z
  refine ⟨by omega, by omega, one, ?_⟩
  by_cases z : (shs f).length = 1
  . rw [one z]
    intro x hx
    have : x = 1 := by simpa using hx
    subst this
    exact Nat.lt_of_lt_of_le (show (1 : Int).natAbs < 2 ^ 1 by decide) (Nat.pow_le_pow_right (by decide) (by decide))
  . exact aAR (b1.mono ((eBC _ (by omega)).2 (by omega)))
theorem R9.div {f : List Int} (h : R9 f) : DivOk f (shs f) := by
  obtain ⟨l9, l1, one, bb⟩ := h.shb
  obtain ⟨ok, ne, pr, pp⟩ := aFI h.ok h.ne
  have lf := h.len
  by_cases z : (shs f).length = 1
  . refine ⟨by omega, by omega, yJ ok ne, 60, 1, h.bb, ?_, ?_⟩
    . rw [one z]
      intro x hx
      have : x = 1 := by simpa using hx
      subst this; decide
    . rw [z]; omega
  . refine ⟨by omega, by omega, yJ ok ne, 60, 41020, h.bb, bb, ?_⟩
    have : f.length + 1 - (shs f).length <= 8 := by omega
    have := Nat.mul_le_mul_right (2 * 41020 + 1) this
    omega
def fStep (g q r : List Int) : List Int := (q.map fun x => x * lastI g * lastI g).set (r.length - g.length) ((q.map fun x => x * lastI g * lastI g).getD (r.length - g.length) 0 + lastI r * lastI g)
def tinQ (g : List Int) : Nat -> List Int -> List Int -> List Int
  | 0, q, _ => q
  | n + 1, q, r => if n + 1 < g.length then q else tinQ g n (fStep g q r) (stepLL g r)
theorem aDF (g q r : List Int) : (fStep g q r).length = q.length := by unfold fStep; rw [List.length_set, List.length_map]
theorem aIJ (g : List Int) : ∀ (n : Nat) (q r : List Int), (tinQ g n q r).length = q.length
  | 0, q, r => rfl
  | n + 1, q, r => by
    unfold tinQ
    split
    . rfl
    . rw [aIJ g n, aDF]
theorem aMN {g q r : List Int} (hs : r.length - g.length < q.length) (i : Nat) : (fStep g q r).getD i 0 = q.getD i 0 * lastI g * lastI g + (if i = r.length - g.length then lastI r * lastI g else 0) := by
  have m : ∀ j, (q.map fun x => x * lastI g * lastI g).getD j 0 = q.getD j 0 * lastI g * lastI g := fun j => zP (φ := fun x => x * lastI g * lastI g) (by show 0 * _ * _ = (0 : Int); rw [Int.zero_mul, Int.zero_mul]) q j
  unfold fStep
  rw [List.getD_eq_getElem?_getD, List.getElem?_set]
  by_cases z : r.length - g.length = i
  . rw [if_pos z, if_pos (by rw [List.length_map]; exact hs), if_pos z.symm, <- z]
    show (q.map fun x => x * lastI g * lastI g).getD (r.length - g.length) 0 + _ = _
    rw [m]
  . rw [if_neg z, if_neg (fun y => z y.symm), <- List.getD_eq_getElem?_getD, m, Int.add_zero]
theorem eAR (g : List Int) (c : Int) (φ : Nat -> Int) (m p : Nat) : cv g (fun k => c * φ k) m p = c * cv g φ m p := by
  unfold cv
  rw [<- wQ]
  congr 1
  funext k
  split
  . rfl
  . exact (Int.mul_zero c).symm
theorem aKU {g : List Int} (hl : lastI g ≠ 0) : ∀ (n : Nat) (φ : Nat -> Int) (q r : List Int), r.length = n -> n + 1 - g.length <= q.length -> (∀ p, r.getD p 0 = cv g φ (n + 1 - g.length) p) ->
    ∃ c : Int, c ≠ 0 /\ ∀ i, (tinQ g n q r).getD i 0 = c * (q.getD i 0 + if i < n + 1 - g.length then φ i else 0)
  | 0, φ, q, r, hr, hq, h => by
    have hp := List.length_pos_iff.mpr (qP hl)
    exact ⟨1, by decide, fun i => by rw [if_neg (by omega), Int.add_zero, Int.one_mul]; rfl⟩
  | n + 1, φ, q, r, hr, hq, h => by
    have hp := List.length_pos_iff.mpr (qP hl)
    unfold tinQ
    by_cases z : n + 1 < g.length
    . rw [if_pos z]
      exact ⟨1, by decide, fun i => by rw [if_neg (by omega), Int.add_zero, Int.one_mul]⟩
    . rw [if_neg z]
      obtain ⟨s, hs⟩ : ∃ s, n + 1 - g.length = s := ⟨_, rfl⟩
      have e : n + 1 + 1 - g.length = s + 1 := by omega
      rw [e] at h hq ⊢
      have top := aVH hl φ hr (s := s) (by omega) h
      have hrn : r ≠ [] := fun y => by subst y; simp at hr
      have gn : r.getD n 0 = φ s * lastI g := by rw [<- top, <- yR hrn, hr]; rfl
      obtain ⟨c, hc, ec⟩ := aKU hl n (fun k => (lastI g * lastI g) * φ k) (fStep g q r) (stepLL g r) (by rw [vI]; omega) (by rw [aDF]; omega) fun p => by
        have g1 := congrFun (aDQ hl hr (by omega)) p
        rw [show (stepLL g r).getD p 0 = stepF g n (fun p => r.getD p 0) p from g1]
        unfold stepF
        simp only []
        rw [gn, h p, aGT, hs, eAR]
        split <;> grind
      refine ⟨c * (lastI g * lastI g), Int.mul_ne_zero hc (Int.mul_ne_zero hl hl), fun i => ?_⟩
      rw [ec i, aMN (by omega), hs, show r.length - g.length = s by omega, top]
      by_cases y : i < s
      . rw [if_pos y, if_neg (show ¬ i = s by omega), if_pos (show i < s + 1 by omega)]; grind
      . rw [if_neg y]
        by_cases y2 : i = s
        . rw [if_pos y2, if_pos (show i < s + 1 by omega), y2]; grind
        . rw [if_neg y2, if_neg (show ¬ i < s + 1 by omega)]; grind
def tinL (f g : List Int) : List Int := trimI (tinQ g f.length (List.replicate (f.length + 1 - g.length) 0) f)
theorem aST (n i : Nat) : (List.replicate n (0 : Int)).getD i 0 = 0 := by
  rw [List.getD_eq_getElem?_getD, List.getElem?_replicate]; split <;> rfl
theorem aQQ {u g : List Int} (ru : RowOk u) (rg : RowOk g) (hu : u ≠ []) (hg : g ≠ []) : plainB (tinL (timesL u g) g) = plainB u := by
  have hl := yJ rg hg
  have tl := (qS ru rg hu hg).1
  have hup := List.length_pos_iff.mpr hu
  have hgp := List.length_pos_iff.mpr hg
  have hn : (timesL u g).length + 1 - g.length = u.length := by omega
  obtain ⟨c, hc, e⟩ := aKU hl (timesL u g).length (fun k => u.getD k 0) (List.replicate ((timesL u g).length + 1 - g.length) 0) (timesL u g) rfl (by rw [List.length_replicate]; exact Nat.le_refl _) fun p => by rw [hn, aIL]
  refine jM (trimOk _) ru (Sim.scale hc fun i => ?_)
  show (tinL (timesL u g) g).getD i 0 = c * u.getD i 0
  unfold tinL
  rw [vO, e i, aST, hn, Int.zero_add]
  by_cases y : i < u.length
  . rw [if_pos y]
  . rw [if_neg y, yH (g := u) (i := i) (by omega)]
theorem aXJ {f u : List Int} (h : R9 f) (hb : IsBare f u) : plainB (tinL f (shs f)) = u := by
  obtain ⟨ok, ne, pr, pp⟩ := aFI h.ok h.ne
  obtain ⟨c, hc, e⟩ := aFY f h.ok h.ne
  obtain ⟨ru, hu, pu, eu⟩ := hb
  have ru' : RowOk (u.map fun x => c * x) := by
    rcases ru with z | ⟨ys, a, z, ha⟩
    . exact absurd z hu
    . exact .inr ⟨ys.map (fun x => c * x), c * a, by rw [z, List.map_append]; rfl, Int.mul_ne_zero hc ha⟩
  have ef : f = timesL (u.map fun x => c * x) (shs f) := aFS h.ok (trimOk _) (by
    have e1 := congrArg ps e
    rw [aTA, eu, qM] at e1
    rw [qM, aTA, e1]; grind)
  have hu' : (u.map fun x => c * x) ≠ [] := fun z => hu (by simpa using z)
  have k := aQQ ru' ok hu' ne
  rw [<- ef, aCE ru hc, pu] at k
  exact k
theorem aKX (g : List Int) (s : Nat) (dn : Int) (zs : List Int) (z : Int) : ∀ i, s + i <= zs.length -> subGo g s dn (zs ++ [z]) i = subGo g s dn zs i ++ [z]
  | 0, _ => rfl
  | i + 1, h => by
    have hl := qT g s dn zs i
    show (subGo g s dn (zs ++ [z]) i).set (s + i) ((subGo g s dn (zs ++ [z]) i).getD (s + i) 0 - dn * g.getD i 0) = (subGo g s dn zs i).set (s + i) ((subGo g s dn zs i).getD (s + i) 0 - dn * g.getD i 0) ++ [z]
    rw [aKX g s dn zs z i (by omega)]
    have e : (subGo g s dn zs i ++ [z]).getD (s + i) 0 = (subGo g s dn zs i).getD (s + i) 0 := by
      rw [List.getD_eq_getElem?_getD, List.getElem?_append_left (by omega), <- List.getD_eq_getElem?_getD]
    rw [e, List.set_append_left _ _ (by omega)]
theorem aSC (g : List Int) (s : Nat) (dn : Int) (zs : List Int) (z : Int) (n : Nat) (h : s + n = zs.length) : (subGo g s dn (zs ++ [z]) (n + 1)).dropLast = subGo g s dn zs n := by
  have hl := qT g s dn zs n
  show ((subGo g s dn (zs ++ [z]) n).set (s + n) ((subGo g s dn (zs ++ [z]) n).getD (s + n) 0 - dn * g.getD n 0)).dropLast = _
  rw [aKX g s dn zs z n (by omega), List.set_append_right _ _ (by omega), show s + n - (subGo g s dn zs n).length = 0 by omega]
  exact List.dropLast_concat
theorem aJQ {x y : Int} {p : Nat} (hx : x.natAbs < 2 ^ p) (hy : y.natAbs < 2 ^ p) : (x + y).natAbs < 2 ^ (p + 1) := by rw [Nat.pow_succ]; omega
theorem aXE {g q r : List Int} {b e : Nat} (hs : r.length - g.length < q.length) (hb : BB b g) (hq : BB e q) (hr : BB e r) : BB (e + (2 * b + 1)) (fStep g q r) := BB.of_get fun i => by
  rw [aMN hs]
  have h1 := yM (yM (hq.get i) hb.last) hb.last
  have h2 := yM hr.last hb.last
  have h2' : (lastI r * lastI g).natAbs < 2 ^ (e + b + b) := Nat.lt_of_lt_of_le h2 (Nat.pow_le_pow_right (by decide) (by omega))
  have h3 : (if i = r.length - g.length then lastI r * lastI g else 0).natAbs < 2 ^ (e + b + b) := by
    split
    . exact h2'
    . exact Nat.pow_pos (by decide)
  have := aJQ h1 h3
  rw [show e + (2 * b + 1) = e + b + b + 1 by omega]; exact this
theorem aPC {X : Cx} {c : Expr} {body : List Stmt} (g : List Int) (R : List Int -> List Int -> Rho) {b : Nat} (hl : lastI g ≠ 0) (hb : BB b g) (h1 : ∀ q r, r.length < 200 -> EvT X (R q r) c (decide (g.length <= r.length)))
    (h2 : ∀ q ys a e, ys.length < 200 -> q.length < 300 -> g.length <= ys.length + 1 -> ys.length + 1 - g.length < q.length -> BB e (ys ++ [a]) -> BB e q -> e + (2 * b + 1) + b <= 1000000 -> EvSs X (R q (ys ++ [a])) body (.nx (R (fStep g q (ys ++ [a])) (stepLL g (ys ++ [a]))))) :
    ∀ (n : Nat) (q r : List Int) (e : Nat), r.length = n -> r.length < 200 -> q.length < 300 -> n + 1 - g.length <= q.length -> BB e r -> BB e q -> e + (n + 1 - g.length) * (2 * b + 1) + b <= 1000000 -> ∃ m, WRun X c body m (R q r) (.nx (R (tinQ g n q r) (leftL g n r)))
  | 0, q, r, e, hr, hq, _, _, _, _, _ => ⟨0, .stop (EvT.eq (h1 q r (by omega)) (decide_eq_false (by have := List.length_pos_iff.mpr (qP hl); omega)))⟩
  | n + 1, q, r, e, hr, hq, h3, hs, er, eq, eb => by
    unfold leftL tinQ
    by_cases h : n + 1 < g.length
    . rw [if_pos h, if_pos h]
      exact ⟨0, .stop (EvT.eq (h1 q r (by omega)) (decide_eq_false (by omega)))⟩
    . rw [if_neg h, if_neg h]
      have hp := List.length_pos_iff.mpr (qP hl)
      rw [show n + 1 + 1 - g.length = (n + 1 - g.length) + 1 by omega, Nat.succ_mul] at eb
      generalize hk : (n + 1 - g.length) * (2 * b + 1) = kk at eb
      obtain ⟨m, w⟩ := aPC g R hl hb h1 h2 n (fStep g q r) (stepLL g r) (e + (2 * b + 1)) (by rw [vI]; omega) (by rw [vI]; omega) (by rw [aDF]; omega) (by rw [aDF]; omega) (aLA hl hr (by omega) hb er) (aXE (by omega) hb eq er) (by rw [hk]; omega)
      refine ⟨m + 1, .step (EvT.eq (h1 q r (by omega)) (decide_eq_true (by omega))) ?_ w⟩
      rcases List.eq_nil_or_concat r with e' | ⟨ys, a, e'⟩
      . subst e'; simp at hr
      . rw [List.concat_eq_append] at e'
        subst e'
        have hl : ys.length + 1 = n + 1 := by simpa using hr
        exact h2 q ys a e (by omega) h3 (by omega) (by omega) er eq (by omega)
end My
namespace My
open PySem L2 L2.EV PyProof.Rows
def aBU (ds : List D) (d : D) : Prop := ∃ f u : List Int, ds = [rowD f] /\ R9 f /\ IsBare f u /\ d = rowD u
theorem aMF : ∀ ds d, aBU ds d -> ds.length = 1 := by rintro _ _ ⟨a, b, rfl, _⟩; rfl
def aBT (ds : List D) : Prop := ds = [rowD []]
theorem aJR : ∀ ds, aBT ds -> ds.length = 1 := by rintro _ rfl; rfl
def vE (ds : List D) (d : D) : Prop := ∃ f g : List Int, ds = [rowD f, rowD g] /\ DivOk f g /\ g.length <= f.length + 1 /\ d = rowD (tinL f g)
theorem aDX : ∀ ds d, vE ds d -> ds.length = 2 := by rintro _ _ ⟨a, b, rfl, _⟩; rfl
def aBC (ds : List D) (d : D) : Prop := ∃ f u : List Int, ds = [rowD f] /\ R9 f /\ IsBare f u /\ d = rowD u
theorem aJZ : ∀ ds d, aBC ds d -> ds.length = 1 := by rintro _ _ ⟨a, b, rfl, _⟩; rfl
section
variable {P : Program} {w : World} {K : PySem.W.Frag} {mg : Str -> Option Value} {base : Heap} {k : Nat} {X : Cx}
theorem aRT (h : DefX P w K mg base k N_bare_row (defScope jI) X) (cP : Callee X "plain_row" jT) (cW : Callee X "whole_quotient" zM) (cS : Callee X "shared_row" wX) (cL : Callee X "slope" aKR) :
    ∀ ds d, aBU ds d -> EvSs X (ds.map Sl.val ++ List.replicate (N_bare_row.length - ds.length) Sl.un) (defBody jI) (.rt d) := by
  rintro ds d ⟨f, u, rfl, hf, hb, rfl⟩
  have t := h.at'
  haveI := h.fnT
  obtain ⟨ru, hu, pu, eu⟩ := hb
  obtain ⟨ok, ne, pr, pp⟩ := aFI hf.ok hf.ne
  obtain ⟨l9, l1, one, bb⟩ := hf.shb
  have hp := hf.plain
  have es : shs (plainB f) = shs f := aSI hp.ok hf.ok (wH hf.ok).symm
  have hw : wqD (plainB f) (shs f) = rowD u := by rw [eu]; exact aII ru ok ne
  have lf := hf.len
  have pl := hp.len
  show EvSs X [.val (rowD f), .un] _ _
  refine yD (aAE (aGO t (EvE.p (yA t 0 rfl)) (EvE.p (d := rowD []) (zC yE)) (yI _) (yI _) (by rw [jS, decide_eq_false hf.ne])) jK) ?_
  refine yD (zK t 1 (yF t cP (yB (yA t 0 rfl) yE) ⟨f, rfl, by omega, aAJ hf.ok, rfl⟩)) ?_
  exact yG (zI (yF t cW (yB (yA t 1 rfl) (yB (d := rowD (shs f)) (yF t cS (yB (yA t 1 rfl) (yB (yF t cL (yB (yA t 1 rfl) yE) ⟨plainB f, rfl, by omega, rfl⟩) yE)) ⟨plainB f, slopeL (plainB f), rfl, hp.s0, hp.sin, by rw [<- es]⟩) yE)) ⟨plainB f, shs f, rfl, pl, l9, ne, yJ ok ne, hp.bb.mono (by decide), bb.mono (by decide), hw.symm⟩))
theorem aOP {C : Addr} (h : DefX P w K mg base k N_bare_row (defScope jI) X) (O : OwnCls "NoRow" C vB vN mg base) :
    ∀ ds, aBT ds -> ∃ ρ', XvSs X true (ds.map Sl.val ++ List.replicate (N_bare_row.length - ds.length) Sl.un) (defBody jI) C ρ' := by
  rintro ds rfl
  have t := h.at'
  have O' : OwnCls "NoRow" C vB vN X.mg X.base := by rw [h.mg', h.base']; exact O
  exact ⟨_, aDO (eBD t (aGO t (EvE.p (d := rowD []) (yA t 0 rfl)) (EvE.p (d := rowD []) (zC yE)) (yI _) (yI _) (by rw [jS]; rfl)) (aDO (aRV t O' aYI)))⟩
theorem aGV (h : DefX P w K mg base k N__law_times_in (defScope yV) X) (m_list : mg "list" = none) (m_len : mg "len" = none) (m_range : mg "range" = none) (cT : Callee X "_law_trim" jU) :
    ∀ ds d, vE ds d -> EvSs X (ds.map Sl.val ++ List.replicate (N__law_times_in.length - ds.length) Sl.un) (defBody yV) (.rt d) := by
  rintro ds d ⟨f, g, rfl, ⟨hf, hgl, hl, a0, b, ha, hb, hab⟩, hlg, rfl⟩
  have t := h.at'
  haveI := h.fnT
  have b1 : Blt X (defScope yV) "range" (.type "range") := yN (by rw [h.mg']; exact m_range)
  have b2 : Blt X (defScope yV) "len" (.builtin "len") := yN (by rw [h.mg']; exact m_len)
  have b3 : Blt X (defScope yV) "list" (.type "list") := yN (by rw [h.mg']; exact m_list)
  have hg := qP hl
  have hgp := List.length_pos_iff.mpr hg
  have hls := hb.last
  generalize hla : lastI g = la at hls
  have zb : BB a0 (List.replicate (f.length + 1 - g.length) 0) := BB.of_get fun i => by rw [aST]; exact Nat.pow_pos (by decide)
  show EvSs X [.val (rowD f), .val (rowD g), .un, .un, .un, .un, .un, .un] _ _
  refine yD (aFR (xs := (List.replicate (f.length + 1 - g.length) 0).map D.int) t 2 (EvN.eq (aVC (n := (f.length : Int) - g.length + 1) (EvN.toE (vH (yB yC yE))) (EvE.eq (yW (qE (yT t b2 (EvE.qt (yA t 0 rfl))) (yT t b2 (EvE.qt (yA t 1 rfl)))) yC) (by rw [List.length_map, List.length_map])) (by omega) (by omega) ?_) ?_)) ?_
  . have e : ((f.length : Int) - g.length + 1).toNat = f.length + 1 - g.length := by omega
    rw [e]; have := lineN; simp; omega
  . have e : ((f.length : Int) - g.length + 1).toNat = f.length + 1 - g.length := by omega
    rw [e, aJE]
  refine yD (aFR t 3 (aCI t b3 (EvE.qt (yA t 0 rfl)))) ?_
  refine yD (zK t 4 (d := .int la) (yU (EvE.qt (yA t 1 rfl)) (qE (yT t b2 (EvE.qt (yA t 1 rfl))) yC) (by rw [aBM hg, hla]))) ?_
  refine yD (jY t (aPC g (b := b) (hl := hl) (hb := hb) (fun q r => [.val (rowD f), .val (rowD g), .own (q.map D.int), .own (r.map D.int), .val (.int la), .un, .un, .un]) (fun q r hr => ?_) (fun q ys a e hy hq hgy hsq er eq ee => ?_) f.length (List.replicate (f.length + 1 - g.length) 0) f a0 rfl hf (by rw [List.length_replicate]; omega) (by rw [List.length_replicate]; exact Nat.le_refl _) ha zb hab)) ?_
  . refine EvT.eq (aRN (yT t b2 (jN t 3 rfl)) (yT t b2 (EvE.qt (yA t 1 rfl)))) ?_
    rw [List.length_map, List.length_map]
    by_cases z : g.length <= r.length
    . rw [decide_eq_true z, decide_eq_true (by omega)]
    . rw [decide_eq_false z, decide_eq_false (by omega)]
  . have e1 : lastI (ys ++ [a]) = a := by simp [lastI]
    have e2 : (ys ++ [a]).dropLast = ys := List.dropLast_concat
    have e3 : (ys ++ [a]).length - g.length = ys.length + 1 - g.length := by simp
    have st : stepLL g (ys ++ [a]) = subGo g (ys.length + 1 - g.length) (a * la) (ys.map fun x => x * la * la) (g.length - 1) := by unfold stepLL; rw [e1, e2, e3, hla]
    have sf : fStep g q (ys ++ [a]) = (q.map fun x => x * la * la).set (ys.length + 1 - g.length) ((q.map fun x => x * la * la).getD (ys.length + 1 - g.length) 0 + a * la) := by unfold fStep; rw [e1, e3, hla]
    rw [st, sf]
    have ea := er a (by simp)
    generalize hsh : ys.length + 1 - g.length = s0 at hsq
    have pop := aSC g s0 (a * la) (ys.map fun x => x * la * la) (a * la * la) (g.length - 1) (by rw [List.length_map]; omega)
    rw [show g.length - 1 + 1 = g.length by omega] at pop
    have mapc : (ys.map fun x => x * la * la) ++ [a * la * la] = (ys ++ [a]).map fun x => x * la * la := by rw [List.map_append]; rfl
    rw [mapc] at pop
    have lfs : ((q.map fun x => x * la * la).set s0 ((q.map fun x => x * la * la).getD s0 0 + a * la)).length = q.length := by rw [List.length_set, List.length_map]
    refine qW 2 rfl (qW 3 rfl ?_)
    refine EvSs.weak (ρ1 := [.val (rowD f), .val (rowD g), .own (((q.map fun x => x * la * la).set s0 ((q.map fun x => x * la * la).getD s0 0 + a * la)).map D.int), .own ((subGo g s0 (a * la) (ys.map fun x => x * la * la) (g.length - 1)).map D.int), .val (.int la), .val (.int (s0 : Int)), .val (.int a), .un]) ?_ (.keep (.keep (.keep (.keep (.keep (.forget (.forget (.keep .nil))))))))
    refine yD (zK t 5 (EvE.eq (qE (yT t b2 (EvE.ql (yA t 3 rfl))) (yT t b2 (EvE.qt (yA t 1 rfl)))) (show _ = D.int (s0 : Int) by rw [List.length_map, List.length_map]; congr 1; simp; omega))) ?_
    refine yD (zK t 6 (d := .int a) (yU (EvE.ql (yA t 3 rfl)) (qE (yT t b2 (EvE.ql (yA t 3 rfl))) yC) (by rw [aBM (by simp), e1]))) ?_
    refine yD (aBH (rs := (q.map fun x => x * la * la).map D.int) t 2 ["_law_f", "_law_g", "_law_found", "_law_some", "_law_last", "_law_start", "_law_top", "_law_k", "_law_x"] (csc (by decide +kernel)) (aBL (yA t 2 rfl)) (by rw [List.length_map]; exact small (by omega)) fun X' cx => ?_) ?_
    . have t' := cx.at'
      exact CRun.ints (fun x => x * la * la) (fun x => [.val (rowD f), .val (rowD g), .val (intsD q), .val (intsD (ys ++ [a])), .val (.int la), .val (.int (s0 : Int)), .val (.int a), .un, .val (.int x)]) (fun d hd => yK t' 8) (fun d hd e he => yK t' 8) fun d hd =>
        yY (yY (yA t' 8 rfl) (yA t' 4 rfl) (mulB (eq d hd) hls (by omega) (by omega))) (yA t' 4 rfl) (mulB (yM (eq d hd) hls) hls (by omega) (by omega))
    refine yD (ρ' := [.val (rowD f), .val (rowD g), .own (((q.map fun x => x * la * la).set s0 ((q.map fun x => x * la * la).getD s0 0 + a * la)).map D.int), .val (intsD (ys ++ [a])), .val (.int la), .val (.int (s0 : Int)), .val (.int a), .un]) (EvS.eq (aHC t (yW (i := (q.map fun x => x * la * la).getD s0 0) (yU (jN t 2 rfl) (yA t 5 rfl) (zN (by rw [List.length_map]; omega))) (yY (i := a) (j := la) (yA t 6 rfl) (yA t 4 rfl) (mulB ea hls (by omega) (by omega)))) (aGR (j := s0) t 2 rfl (yA t 5 rfl) (by rw [List.length_map, List.length_map]; exact aGI (by omega) (by omega) (by omega)))) (by rw [List.map_set]; rfl)) ?_
    refine yD (aBH (rs := ((ys ++ [a]).map fun x => x * la * la).map D.int) t 3 ["_law_f", "_law_g", "_law_found", "_law_some", "_law_last", "_law_start", "_law_top", "_law_k", "_law_x"] (csc (by decide +kernel)) (aBL (yA t 3 rfl)) (by rw [List.length_map]; exact small (by simp; omega)) fun X' cx => ?_) ?_
    . have t' := cx.at'
      exact CRun.ints (fun x => x * la * la) (fun x => [.val (rowD f), .val (rowD g), .own (((q.map fun x => x * la * la).set s0 ((q.map fun x => x * la * la).getD s0 0 + a * la)).map D.int), .val (intsD (ys ++ [a])), .val (.int la), .val (.int (s0 : Int)), .val (.int a), .un, .val (.int x)]) (fun d hd => yK t' 8) (fun d hd e he => yK t' 8) fun d hd =>
        yY (yY (yA t' 8 rfl) (yA t' 4 rfl) (mulB (er d hd) hls (by omega) (by omega))) (yA t' 4 rfl) (mulB (yM (er d hd) hls) hls (by omega) (by omega))
    refine yD (ρ' := [.val (rowD f), .val (rowD g), .own (((q.map fun x => x * la * la).set s0 ((q.map fun x => x * la * la).getD s0 0 + a * la)).map D.int), .own ((subGo g s0 (a * la) ((ys ++ [a]).map fun x => x * la * la) g.length).map D.int), .val (.int la), .val (.int (s0 : Int)), .val (.int a), .un]) (aAP t (qX t b1 (yT t b2 (EvE.qt (yA t 1 rfl))) (by omega) (by rw [List.length_map]; omega)) (FRun.uptoE (fun i => [.val (rowD f), .val (rowD g), .own (((q.map fun x => x * la * la).set s0 ((q.map fun x => x * la * la).getD s0 0 + a * la)).map D.int), .own ((subGo g s0 (a * la) ((ys ++ [a]).map fun x => x * la * la) i).map D.int), .val (.int la), .val (.int (s0 : Int)), .val (.int a), .un]) (fun i d hi => ?_) rfl ?_)) ?_
    . obtain ⟨hin, rfl⟩ := qV hi
      have hi' : i < g.length := by rw [List.length_map] at hin; omega
      have hlen : (subGo g s0 (a * la) ((ys ++ [a]).map fun x => x * la * la) i).length = ys.length + 1 := by rw [qT, List.length_map]; simp
      have hyb := hb.get i
      have e1 : ((s0 : Int) + (i : Int)) = ((s0 + i : Nat) : Int) := by omega
      refine ⟨_, yS t 7, EvSs.weak (yG (aHC t (qE (i := (subGo g s0 (a * la) ((ys ++ [a]).map fun x => x * la * la) i).getD (s0 + i) 0) (yU (jN t 3 rfl) (yW (yA t 5 rfl) (yA t 7 rfl)) ?_) (yY (i := a * la) (j := g.getD i 0) (yY (yA t 6 rfl) (yA t 4 rfl) (mulB ea hls (by omega) (by omega))) (yU (EvE.qt (yA t 1 rfl)) (yA t 7 rfl) (zN (by omega))) (mulB (yM ea hls) hyb (by omega) (by omega)))) (aGR (j := s0 + i) t 3 rfl (yW (yA t 5 rfl) (yA t 7 rfl)) ?_))) ?_⟩
      . rw [e1]; exact zN (by omega)
      . rw [List.length_map]; exact aGI (by omega) (by omega) (by omega)
      . have em : (subGo g s0 (a * la) ((ys ++ [a]).map fun x => x * la * la) (i + 1)).map D.int = ((subGo g s0 (a * la) ((ys ++ [a]).map fun x => x * la * la) i).map D.int).set (s0 + i) (D.int ((subGo g s0 (a * la) ((ys ++ [a]).map fun x => x * la * la) i).getD (s0 + i) 0 - a * la * g.getD i 0)) := by rw [subGo, List.map_set]
        rw [em]
        exact .keep (.keep (.keep (.keep (.keep (.keep (.keep (.forget .nil)))))))
    . have e : (rangeD 0 ((g.map D.int).length : Int).toNat).length = g.length := by simp [rangeD]
      rw [e]
    refine EvSs.eq (yG (aYX t 3 rfl ?_)) ?_
    . intro z
      have := congrArg List.length z
      rw [List.length_map, qT, List.length_map] at this
      simp at this
    . rw [<- pop, List.map_dropLast]; rfl
  . have l2 := aIJ g f.length (List.replicate (f.length + 1 - g.length) 0) f
    rw [List.length_replicate] at l2
    exact qW 2 rfl (yG (zI (yF t cT (yB (yA t 2 rfl) yE) ⟨_, rfl, by omega, rfl⟩)))
theorem aOX (h : DefX P w K mg base k N__law_bare (defScope qJ) X) (m_tuple : mg "tuple" = none) (m_range : mg "range" = none) (m_len : mg "len" = none) (cS : Callee X "_law_shared" vV) (cP : Callee X "_law_plain" jW) (cI : Callee X "_law_times_in" vE) :
    ∀ ds d, aBC ds d -> EvSs X (ds.map Sl.val ++ List.replicate (N__law_bare.length - ds.length) Sl.un) (defBody qJ) (.rt d) := by
  rintro ds d ⟨f, u, rfl, hf, hb, rfl⟩
  have t := h.at'
  haveI := h.fnT
  have b1 : Blt X (defScope qJ) "tuple" (.type "tuple") := yN (by rw [h.mg']; exact m_tuple)
  have b2 : Blt X (defScope qJ) "range" (.type "range") := yN (by rw [h.mg']; exact m_range)
  have b3 : Blt X (defScope qJ) "len" (.builtin "len") := yN (by rw [h.mg']; exact m_len)
  have lf := hf.len
  have eb := aXJ hf hb
  have hd := hf.div
  obtain ⟨ok, ne, pr, pp⟩ := aFI hf.ok hf.ne
  obtain ⟨l9, l1, one, bb⟩ := hf.shb
  have ls : (shs f).length <= f.length := by
    obtain ⟨ru, hu, pu, eu⟩ := hb
    have := (qS ru ok hu ne).1
    rw [<- eu, zL] at this
    have := List.length_pos_iff.mpr hu
    omega
  have lt : (tinL f (shs f)).length < 1000 := by
    unfold tinL
    have h1 := qY (tinQ (shs f) f.length (List.replicate (f.length + 1 - (shs f).length) 0) f)
    rw [aIJ, List.length_replicate] at h1
    omega
  show EvSs X [.val (rowD f), .un] _ _
  refine yD (zK t 1 (d := rowD (shs f)) (yF t cS (yB (yA t 0 rfl) (yB (d := rowD (slopeL f)) ?_ yE)) ⟨f, slopeL f, rfl, hf.sin, rfl⟩)) ?_
  . refine EvE.eq (vS t b1 (EvN.toQ (vC (rs := (List.range (f.length - 1)).map fun (i : Nat) => D.int ((1 + (i : Int)) * f.getD (1 + i) 0)) t ["_law_row_here", "_law_common", "_law_k"] (csc (by decide +kernel)) (EvI.eq (aMR t b2 yC (yT t b3 (EvE.qt (yA t 0 rfl))) (by rw [List.length_map]; omega)) (show _ = rangeD 1 (f.length - 1) by rw [List.length_map]; congr 1; omega)) (by simp [rangeD]; exact small (by omega)) fun X' cx => ?_))) (by show D.tup _ = D.tup _; unfold slopeL; rw [List.map_map]; rfl)
    exact CRun.gen (fun (i : Nat) => D.int (1 + (i : Int))) _ (fun (i : Nat) => [.val (rowD f), .un, .val (.int (1 + (i : Int)))]) _ _ (fun x hx => yK cx.at' 2) (fun x hx y hy => yK cx.at' 2) fun x hx => by
      have hx' := List.mem_range.mp hx
      exact yY (yA cx.at' 2 rfl) (yU (EvE.qt (yA cx.at' 0 rfl)) (yA cx.at' 2 rfl) (by rw [show (1 + (x : Int)) = ((1 + x : Nat) : Int) by omega]; exact zN (by omega))) (qO (by omega) (by omega))
  exact yG (zI (EvE.eq (yF t cP (yB (yF t cI (yB (yA t 0 rfl) (yB (yA t 1 rfl) yE)) ⟨f, shs f, rfl, hd, by omega, rfl⟩) yE) ⟨_, rfl, trimOk _, lt, rfl⟩) (by rw [eb])))
end
end My
namespace My
open PySem L2 L2.EV PyProof.Rows
theorem aGS : PS.dl 0 = 0 := PS.dl_C 0
theorem aXO : PS.C 2 = 2 := rfl
theorem aOZ : PS.C 3 = 3 := rfl
theorem C_m2 : PS.C (-2) = -2 := by rw [PS.C_neg]; rfl
theorem C_m3 : PS.C (-3) = -3 := by rw [PS.C_neg]; rfl
theorem eEA : ∀ i : Nat, i < 9 -> ∀ j : Nat, j < 4 -> ∃ i' : Nat, i' < 9 /\ ∃ j' : Nat, j' < 4 /\ plainB [(i : Int) - 4, 1 + (j : Int)] = [(i' : Int) - 4, 1 + (j' : Int)] := by decide +kernel
theorem aZT : ∀ i : Nat, i < 9 -> ∀ j : Nat, j < 4 -> ((i : Int) - 4) * ((i : Int) - 4) + (1 + (j : Int)) * (1 + (j : Int)) ≠ 0 /\ ((i : Int) - 4) * ((i : Int) - 4) - 2 * ((1 + (j : Int)) * (1 + (j : Int))) ≠ 0 /\ ((i : Int) - 4) * ((i : Int) - 4) - ((i : Int) - 4) * (1 + (j : Int)) + (1 + (j : Int)) * (1 + (j : Int)) ≠ 0 /\
    -(((i : Int) - 4) * ((i : Int) - 4) * ((i : Int) - 4)) - 3 * ((1 + (j : Int)) * (1 + (j : Int)) * (1 + (j : Int))) ≠ 0 := by decide +kernel
def Line (p : List Int) : Prop := plainB p = p /\ ∃ i < 9, ∃ j < 4, p = [((i : Nat) : Int) - 4, 1 + ((j : Nat) : Int)]
def specs : List (List Int) := [[1, 0, 1], [-2, 0, 1], [1, 1, 1], [-3, 0, 0, 1]]
theorem aDA {a b : Int} (hb : b ≠ 0) : RowOk [a, b] := .inr ⟨[a], b, rfl, hb⟩
theorem Line.cop {p q : List Int} (hp : Line p) (hq : Line q) (h : p ≠ q) : Cop (ps p) (ps q) := by
  obtain ⟨p1, i, hi, j, hj, rfl⟩ := hp
  obtain ⟨q1, i', hi', j', hj', rfl⟩ := hq
  generalize ea : ((i : Int) - 4) = a at *
  generalize eb : (1 + (j : Int)) = b at *
  generalize ec : ((i' : Int) - 4) = c at *
  generalize ed : (1 + (j' : Int)) = d at *
  have hb : b ≠ 0 := by omega
  have hd : d ≠ 0 := by omega
  refine ⟨PS.C d, -PS.C b, d * a - b * c, Fin'.C d, (Fin'.C b).neg, ?_, ?_⟩
  . intro z
    apply h
    rw [<- p1, <- q1]
    refine jM (aDA hb) (aDA hd) ⟨d, b, hd, hb, fun k => ?_⟩
    match k with
    | 0 => show d * a = b * c; omega
    | 1 => show d * b = b * d; exact Int.mul_comm _ _
    | k + 2 => show d * 0 = b * 0; omega
  . rw [jL, jL, jL, jL, wF, PS.C_sub, PS.C_mul, PS.C_mul]; grind
theorem Line.spec {p q : List Int} (hp : Line p) (hq : q ∈ specs) : Cop (ps p) (ps q) := by
  obtain ⟨p1, i, hi, j, hj, rfl⟩ := hp
  obtain ⟨n1, n2, n3, n4⟩ := aZT i hi j hj
  generalize ea : ((i : Int) - 4) = a at *
  generalize eb : (1 + (j : Int)) = b at *
  have fa := Fin'.C a
  have fb := Fin'.C b
  have fX := Fin'.X
  simp only [specs, List.mem_cons, List.not_mem_nil, or_false] at hq
  rcases hq with rfl | rfl | rfl | rfl
  . refine ⟨PS.C a + -(PS.C b * PS.X), PS.C b * PS.C b, a * a + b * b, fa.add (fb.mul fX).neg, fb.mul fb, n1, ?_⟩
    simp only [jL, wF, PS.C_add, PS.C_mul, PS.C_one, PS.C_zero]; grind
  . refine ⟨PS.C a + -(PS.C b * PS.X), PS.C b * PS.C b, a * a - 2 * (b * b), fa.add (fb.mul fX).neg, fb.mul fb, n2, ?_⟩
    simp only [jL, wF, PS.C_sub, PS.C_mul, PS.C_one, PS.C_zero, C_m2, aXO]; grind
  . refine ⟨PS.C a + -(PS.C b * PS.X) + -(PS.C b), PS.C b * PS.C b, a * a - a * b + b * b, (fa.add (fb.mul fX).neg).add fb.neg, fb.mul fb, n3, ?_⟩
    simp only [jL, wF, PS.C_sub, PS.C_add, PS.C_mul, PS.C_one, PS.C_zero]; grind
  . refine ⟨-(PS.C b * PS.C b * (PS.X * PS.X)) + PS.C a * PS.C b * PS.X + -(PS.C a * PS.C a), PS.C b * PS.C b * PS.C b, -(a * a * a) - 3 * (b * b * b), ((((fb.mul fb).mul (fX.mul fX)).neg).add ((fa.mul fb).mul fX)).add (fa.mul fa).neg, (fb.mul fb).mul fb, n4, ?_⟩
    simp only [jL, wF, PS.C_sub, PS.C_neg, PS.C_mul, PS.C_one, PS.C_zero, C_m3, aOZ]; grind
structure Fac (p : List Int) : Prop where
  ok : RowOk p
  l1 : 2 <= p.length
  l2 : p.length <= 4
  bd : BD 4 p
  cop : Cop (ps p) (PS.dl (ps p))
theorem Line.fac {p : List Int} (hp : Line p) : Fac p /\ p.length = 2 := by
  obtain ⟨p1, i, hi, j, hj, rfl⟩ := hp
  refine ⟨⟨aDA (by omega), by show 2 <= 2; omega, by show 2 <= 4; omega, fun x hx => ?_, ?_⟩, rfl⟩
  . simp only [List.mem_cons, List.not_mem_nil, or_false] at hx
    rcases hx with rfl | rfl <;> omega
  . generalize hb : (1 + (j : Int)) = b
    generalize ((i : Int) - 4) = a
    refine (Cop.const _ (c := b) (by omega)).eq ?_
    simp only [jL, wF, PS.dl_add, PS.dl_mul, PS.dl_C, PS.dl_X, aGS]; grind
theorem aPF {p : List Int} (hp : p ∈ specs) : Fac p := by
  have fX := Fin'.X
  simp only [specs, List.mem_cons, List.not_mem_nil, or_false] at hp
  rcases hp with rfl | rfl | rfl | rfl
  . refine ⟨.inr ⟨[1, 0], 1, rfl, by decide⟩, by decide, by decide, by unfold BD; decide, PS.C 2, -PS.X, 2, Fin'.C 2, fX.neg, by decide, ?_⟩
    simp only [jL, wF, PS.dl_add, PS.dl_mul, PS.dl_C, PS.dl_X, aGS]; simp only [PS.C_one, PS.C_zero, aXO]; grind
  . refine ⟨.inr ⟨[-2, 0], 1, rfl, by decide⟩, by decide, by decide, by unfold BD; decide, PS.C 2, -PS.X, 2 * (-2), Fin'.C 2, fX.neg, by decide, ?_⟩
    simp only [jL, wF, PS.dl_add, PS.dl_mul, PS.dl_C, PS.dl_X, aGS]; simp only [PS.C_one, PS.C_zero, PS.C_mul, C_m2, aXO]; grind
  . refine ⟨.inr ⟨[1, 1], 1, rfl, by decide⟩, by decide, by decide, by unfold BD; decide, PS.C 2 * PS.C 2, -(PS.C 2 * PS.X + 1), 3, (Fin'.C 2).mul (Fin'.C 2), (((Fin'.C 2).mul fX).add Fin'.one).neg, by decide, ?_⟩
    simp only [jL, wF, PS.dl_add, PS.dl_mul, PS.dl_C, PS.dl_X, aGS]; simp only [PS.C_one, PS.C_zero, aXO, aOZ]; grind
  . refine ⟨.inr ⟨[-3, 0, 0], 1, rfl, by decide⟩, by decide, by decide, by unfold BD; decide, PS.C 3, -PS.X, 3 * (-3), Fin'.C 3, fX.neg, by decide, ?_⟩
    simp only [jL, wF, PS.dl_add, PS.dl_mul, PS.dl_C, PS.dl_X, aGS]; simp only [PS.C_one, PS.C_zero, PS.C_mul, C_m3, aOZ]; grind
def facL (xs : List Int) (k : Nat) : List Int := plainB [xs.getD (1 + 2 * k) 0 % 9 - 4, 1 + xs.getD (2 + 2 * k) 0 % 4]
def facG (xs : List Int) : Nat -> List (List Int)
  | 0 => []
  | k + 1 => if facL xs k ∈ facG xs k then facG xs k else facG xs k ++ [facL xs k]
theorem aUT (xs : List Int) (k : Nat) : Line (facL xs k) := by
  have h1 : ∃ i < 9, xs.getD (1 + 2 * k) 0 % 9 = ((i : Nat) : Int) := ⟨(xs.getD (1 + 2 * k) 0 % 9).toNat, by omega, by omega⟩
  have h2 : ∃ j < 4, xs.getD (2 + 2 * k) 0 % 4 = ((j : Nat) : Int) := ⟨(xs.getD (2 + 2 * k) 0 % 4).toNat, by omega, by omega⟩
  obtain ⟨i, hi, ei⟩ := h1
  obtain ⟨j, hj, ej⟩ := h2
  unfold facL
  rw [ei, ej]
  refine ⟨jR (aDA (by omega)), ?_⟩
  obtain ⟨i', hi', j', hj', e⟩ := eEA i hi j hj
  exact ⟨i', hi', j', hj', e⟩
theorem aOE (xs : List Int) : ∀ k, (∀ p ∈ facG xs k, Line p) /\ (facG xs k).length <= k /\ (facG xs k).Nodup /\ (0 < k -> 0 < (facG xs k).length)
  | 0 => ⟨fun p h => (nomatch h), Nat.le_refl _, List.nodup_nil, fun h => by omega⟩
  | k + 1 => by
    obtain ⟨h1, h2, h3, h4⟩ := aOE xs k
    unfold facG
    by_cases z : facL xs k ∈ facG xs k
    . rw [if_pos z]
      exact ⟨h1, by omega, h3, fun _ => List.length_pos_of_mem z⟩
    . rw [if_neg z]
      refine ⟨fun p hp => ?_, by simp; omega, ?_, fun _ => by simp⟩
      . rcases List.mem_append.mp hp with y | y
        . exact h1 p y
        . rw [List.mem_singleton.mp y]; exact aUT xs k
      . rw [List.nodup_append]
        refine ⟨h3, by simp, fun a ha b hb e => ?_⟩
        rw [List.mem_singleton.mp hb] at e
        exact z (e ▸ ha)
structure Facs (fs : List (List Int)) (m : Nat) : Prop where
  ln : ∀ i, i < m -> Line (fs.getD i [])
  m3 : m <= 3
  m1 : 1 <= m
  tl : fs.length = m \/ (fs.length = m + 1 /\ fs.getD m [] ∈ specs)
  nd : ∀ i j, i < j -> j < m -> fs.getD i [] ≠ fs.getD j []
theorem Facs.fac {fs : List (List Int)} {m : Nat} (h : Facs fs m) {k : Nat} (hk : k < fs.length) : Fac (fs.getD k []) /\ (k < m -> (fs.getD k []).length = 2) := by
  by_cases z : k < m
  . exact ⟨(h.ln k z).fac.1, fun _ => (h.ln k z).fac.2⟩
  . rcases h.tl with y | ⟨y, hs⟩
    . omega
    . have : k = m := by omega
      subst this
      exact ⟨aPF hs, fun q => by omega⟩
theorem Facs.cop {fs : List (List Int)} {m : Nat} (h : Facs fs m) {i k : Nat} (hi : i < k) (hk : k < fs.length) : Cop (ps (fs.getD i [])) (ps (fs.getD k [])) := by
  by_cases z : k < m
  . exact (h.ln i (by omega)).cop (h.ln k z) (h.nd i k hi z)
  . rcases h.tl with y | ⟨y, hs⟩
    . omega
    . have : k = m := by omega
      subst this
      exact (h.ln i hi).spec hs
def pwT (p f : List Int) : Nat -> List Int
  | 0 => f
  | n + 1 => if (pwT p f n).length + p.length < 7 then timesL (pwT p f n) p else pwT p f n
def grow (xs : List Int) (fs : List (List Int)) : Nat -> List Int
  | 0 => [1 + xs.getD 9 0 % 6]
  | k + 1 => pwT (fs.getD k []) (timesL (grow xs fs k) (fs.getD k [])) (xs.getD (10 + k) 0 % 3).toNat
def barG (fs : List (List Int)) : Nat -> List Int
  | 0 => [1]
  | k + 1 => timesL (barG fs k) (fs.getD k [])
theorem aSV (p f : List Int) : ∀ n, ∃ e : Nat, ps (pwT p (timesL f p) n) = ps f * ps p ^ (e + 1)
  | 0 => ⟨0, by
    show ps (timesL f p) = _
    rw [qM, Lean.Grind.Semiring.pow_succ, Lean.Grind.Semiring.pow_zero]; grind⟩
  | n + 1 => by
    obtain ⟨e, h⟩ := aSV p f n
    unfold pwT
    split
    . exact ⟨e + 1, by rw [qM, h, Lean.Grind.Semiring.pow_succ (ps p) (e + 1)]; grind⟩
    . exact ⟨e, h⟩
theorem aSW (p f : List Int) (hf : RowOk f) : ∀ n, RowOk (pwT p f n)
  | 0 => hf
  | n + 1 => by
    unfold pwT
    split
    . exact trimOk _
    . exact aSW p f hf n
theorem aNS (p f : List Int) (hp : 1 <= p.length) : ∀ n, (pwT p f n).length <= max f.length 5 /\ (pwT p f n).length <= f.length + n * (p.length - 1)
  | 0 => ⟨Nat.le_max_left _ _, by show f.length <= _; omega⟩
  | n + 1 => by
    obtain ⟨h1, h2⟩ := aNS p f hp n
    unfold pwT
    rw [Nat.succ_mul]
    generalize n * (p.length - 1) = k at *
    split
    . have := jA (pwT p f n) p
      omega
    . omega
theorem aFE {b : Nat} {f p : List Int} (hf : BB b f) (hp : BD 4 p) (hl : p.length <= 4) : BB (b + 4) (timesL f p) := by
  rw [aDP]
  have hf' : BD (2 ^ b - 1) f := fun x hx => by have := hf x hx; omega
  have hb : 0 < 2 ^ b := Nat.pow_pos (by decide)
  refine aQN ((aET hp hf').mono (Nat.mul_le_mul_right _ hl)) ?_
  rw [Nat.pow_add]; omega
theorem aSY {b : Nat} {f p : List Int} (hf : BB b f) (hp : BD 4 p) (hl : p.length <= 4) : ∀ n, BB (b + 4 * n) (pwT p f n)
  | 0 => hf
  | n + 1 => by
    unfold pwT
    split
    . exact aFE (aSY hf hp hl n) hp hl
    . exact (aSY hf hp hl n).mono (by omega)
theorem aUA {a : Int} (h : a ≠ 0) : RowOk [a] := .inr ⟨[], a, rfl, h⟩
structure Gr (xs : List Int) (fs : List (List Int)) (m k : Nat) : Prop where
  g1 : Grown (ps (grow xs fs k)) (ps (barG fs k))
  g2 : Grown (ps (barG fs k)) (ps (barG fs k))
  r1 : RowOk (grow xs fs k)
  r2 : RowOk (barG fs k)
  n1 : grow xs fs k ≠ []
  n2 : barG fs k ≠ []
  l1 : (grow xs fs k).length <= 9 /\ (k <= m -> (grow xs fs k).length <= if k = 0 then 1 else 3 + k)
  l2 : (barG fs k).length <= 1 + 3 * k /\ (k <= m -> (barG fs k).length <= 1 + k)
  b1 : BB (3 + 12 * k) (grow xs fs k)
  b2 : BB (1 + 4 * k) (barG fs k)
  cp : ∀ q : List Int, (∀ i, i < k -> Cop (ps (fs.getD i [])) (ps q)) -> Cop (ps (barG fs k)) (ps q)
theorem aIK {f g : List Int} (rf : RowOk f) (rg : RowOk g) (hf : f ≠ []) (hg : g ≠ []) : timesL f g ≠ [] := fun z => by
  have := (qS rf rg hf hg).1
  rw [z] at this
  have := List.length_pos_iff.mpr hf
  simp at *
  omega
theorem aSX {f p : List Int} (rf : RowOk f) (rp : RowOk p) (hf : f ≠ []) (hp : p ≠ []) : ∀ n, pwT p f n ≠ []
  | 0 => hf
  | n + 1 => by
    unfold pwT
    split
    . exact aIK (aSW p f rf n) rp (aSX rf rp hf hp n) hp
    . exact aSX rf rp hf hp n
theorem aKD (xs : List Int) {fs : List (List Int)} {m : Nat} (h : Facs fs m) : ∀ k, k <= fs.length -> Gr xs fs m k
  | 0, _ => by
    have hc : 1 + xs.getD 9 0 % 6 ≠ 0 := by omega
    have e1 : ps [1 + xs.getD 9 0 % 6] = PS.C (1 + xs.getD 9 0 % 6) := by rw [jL, wF]; grind
    have e2 : ps [1] = 1 := by rw [jL, wF, PS.C_one]; grind
    refine ⟨?_, ?_, aUA hc, aUA (by decide), by show [_] ≠ []; simp, by show [_] ≠ []; simp, ⟨by show 1 <= 9; omega, fun _ => by show 1 <= _; simp⟩, ⟨by show 1 <= _; omega, fun _ => by show 1 <= _; omega⟩, ?_, ?_, fun q _ => ?_⟩
    . show Grown (ps [1 + xs.getD 9 0 % 6]) (ps [1])
      rw [e1, e2]; exact Grown.start hc
    . show Grown (ps [1]) (ps [1])
      rw [e2]; exact Grown.start (c := 1) (by decide)
    . intro x hx
      have : x = 1 + xs.getD 9 0 % 6 := List.mem_singleton.mp hx
      show x.natAbs < 8
      omega
    . intro x hx
      have : x = 1 := List.mem_singleton.mp hx
      subst this; decide
    . show Cop (ps [1]) (ps q)
      rw [e2]
      exact ⟨1, 0, 1, Fin'.one, Fin'.zero, by decide, by rw [PS.C_one]; grind⟩
  | k + 1, hk => by
    have i := aKD xs h k (by omega)
    obtain ⟨fc, ln⟩ := h.fac (k := k) (by omega)
    have hp : fs.getD k [] ≠ [] := fun z => by have := fc.l1; rw [z] at this; simp at this
    have cp : Cop (ps (barG fs k)) (ps (fs.getD k [])) := i.cp _ fun j hj => h.cop hj (by omega)
    have hm := h.m3
    have hn2 : (xs.getD (10 + k) 0 % 3).toNat <= 2 := by omega
    have hmk : k <= m := by rcases h.tl with y | ⟨y, _⟩ <;> omega
    obtain ⟨l1a, l1b⟩ := i.l1
    obtain ⟨l2a, l2b⟩ := i.l2
    have f1 := fc.l1
    have f2 := fc.l2
    refine ⟨?_, ?_, aSW _ _ (trimOk _) _, trimOk _, aSX (trimOk _) fc.ok (aIK i.r1 fc.ok i.n1 hp) hp _, aIK i.r2 fc.ok i.n2 hp, ?_, ?_, ?_, ?_, fun q hq => ?_⟩
    . show Grown (ps (pwT (fs.getD k []) (timesL (grow xs fs k) (fs.getD k [])) (xs.getD (10 + k) 0 % 3).toNat)) (ps (timesL (barG fs k) (fs.getD k [])))
      obtain ⟨e, he⟩ := aSV (fs.getD k []) (grow xs fs k) (xs.getD (10 + k) 0 % 3).toNat
      rw [he, qM]
      exact Grown.step (Fin'.ps _) (Fin'.ps _) i.g1 cp fc.cop e
    . show Grown (ps (timesL (barG fs k) (fs.getD k []))) (ps (timesL (barG fs k) (fs.getD k [])))
      rw [qM]
      have := Grown.step (Fin'.ps _) (Fin'.ps _) i.g2 cp fc.cop 0
      rw [Lean.Grind.Semiring.pow_succ, Lean.Grind.Semiring.pow_zero, Lean.Grind.Semiring.one_mul] at this
      exact this
    . show (pwT (fs.getD k []) (timesL (grow xs fs k) (fs.getD k [])) (xs.getD (10 + k) 0 % 3).toNat).length <= 9 /\ (k + 1 <= m -> (pwT (fs.getD k []) (timesL (grow xs fs k) (fs.getD k [])) (xs.getD (10 + k) 0 % 3).toNat).length <= if k + 1 = 0 then 1 else 3 + (k + 1))
      obtain ⟨a1, a2⟩ := aNS (fs.getD k []) (timesL (grow xs fs k) (fs.getD k [])) (by omega) (xs.getD (10 + k) 0 % 3).toNat
      have a3 := jA (grow xs fs k) (fs.getD k [])
      have l1c := l1b hmk
      refine ⟨?_, fun q => ?_⟩
      . by_cases z : k = 0
        . rw [if_pos z] at l1c; omega
        . rw [if_neg z] at l1c; omega
      . have := ln (by omega)
        rw [if_neg (by omega)]
        by_cases z : k = 0
        . rw [if_pos z] at l1c
          rw [this] at a2
          omega
        . rw [if_neg z] at l1c; omega
    . have a3 := jA (barG fs k) (fs.getD k [])
      show (timesL (barG fs k) (fs.getD k [])).length <= 1 + 3 * (k + 1) /\ (k + 1 <= m -> (timesL (barG fs k) (fs.getD k [])).length <= 1 + (k + 1))
      refine ⟨by omega, fun q => ?_⟩
      have := ln (by omega)
      have := l2b hmk
      omega
    . have := aSY (aFE i.b1 fc.bd fc.l2) fc.bd fc.l2 (xs.getD (10 + k) 0 % 3).toNat
      exact this.mono (by omega)
    . exact (aFE i.b2 fc.bd fc.l2).mono (by omega)
    . show Cop (ps (timesL (barG fs k) (fs.getD k []))) (ps q)
      rw [qM]
      exact (Cop.mul (Fin'.ps _) (Fin'.ps _) (Fin'.ps _) (i.cp q fun j hj => hq j (by omega)).symm (hq k (by omega)).symm).symm
theorem IsBare.sim {f g u : List Int} (rf : RowOk f) (rg : RowOk g) (h : IsBare f u) (s : Sim (co f) (co g)) : IsBare g u :=
  ⟨h.1, h.2.1, h.2.2.1, by rw [<- jM rf rg s, <- aSI rf rg s]; exact h.2.2.2⟩
def facA (xs : List Int) : List (List Int) := if xs.getD 7 0 % 2 = 1 then facG xs (1 + xs.getD 0 0 % 3).toNat ++ [specs.getD (xs.getD 8 0 % 4).toNat []] else facG xs (1 + xs.getD 0 0 % 3).toNat
theorem aUU (xs : List Int) : Facs (facA xs) (facG xs (1 + xs.getD 0 0 % 3).toNat).length := by
  obtain ⟨h1, h2, h3, h4⟩ := aOE xs (1 + xs.getD 0 0 % 3).toNat
  have h5 := h4 (by omega)
  unfold facA
  generalize facG xs (1 + xs.getD 0 0 % 3).toNat = fs at *
  have in1 : ∀ i, i < fs.length -> fs.getD i [] ∈ fs := fun i hi => by
    rw [List.getD_eq_getElem?_getD, List.getElem?_eq_getElem hi]; exact List.getElem_mem _
  have nd : ∀ i j, i < j -> j < fs.length -> fs.getD i [] ≠ fs.getD j [] := fun i j hij hj z => by
    rw [List.getD_eq_getElem?_getD, List.getD_eq_getElem?_getD, List.getElem?_eq_getElem hj, List.getElem?_eq_getElem (show i < fs.length by omega)] at z
    have := (List.getElem_inj h3).mp (show fs[i] = fs[j] from z)
    omega
  have m3 : fs.length <= 3 := by omega
  by_cases z : xs.getD 7 0 % 2 = 1
  . rw [if_pos z]
    have gl : ∀ i, i < fs.length -> (fs ++ [specs.getD (xs.getD 8 0 % 4).toNat []]).getD i [] = fs.getD i [] := fun i hi => by
      rw [List.getD_eq_getElem?_getD, List.getElem?_append_left hi, <- List.getD_eq_getElem?_getD]
    have gr : (fs ++ [specs.getD (xs.getD 8 0 % 4).toNat []]).getD fs.length [] = specs.getD (xs.getD 8 0 % 4).toNat [] := by
      rw [List.getD_eq_getElem?_getD, List.getElem?_append_right (Nat.le_refl _), Nat.sub_self]; rfl
    refine ⟨fun i hi => by rw [gl i hi]; exact h1 _ (in1 i hi), m3, h5, .inr ⟨by simp, ?_⟩, fun i j hij hj => by rw [gl i (by omega), gl j hj]; exact nd i j hij hj⟩
    rw [gr]
    have h4 : (xs.getD 8 0 % 4).toNat = 0 \/ (xs.getD 8 0 % 4).toNat = 1 \/ (xs.getD 8 0 % 4).toNat = 2 \/ (xs.getD 8 0 % 4).toNat = 3 := by omega
    rcases h4 with e | e | e | e <;> rw [e] <;> decide
  . rw [if_neg z]
    exact ⟨fun i hi => h1 _ (in1 i hi), m3, h5, .inl rfl, nd⟩
def signG (xs : List Int) : Int := if xs.getD 14 0 % 2 = 1 then -1 else 1
def rowG (xs : List Int) : List Int := (grow xs (facA xs) (facA xs).length).map fun x => x * signG xs
def dueG (xs : List Int) : List Int := plainB (barG (facA xs) (facA xs).length)
theorem aUM (xs : List Int) : R9 (rowG xs) /\ R9 (dueG xs) /\ IsBare (rowG xs) (dueG xs) /\ IsBare (dueG xs) (dueG xs) := by
  have h := aUU xs
  have g := aKD xs h (facA xs).length (Nat.le_refl _)
  have hl : (facA xs).length <= 4 := by have := h.m3; rcases h.tl with y | ⟨y, _⟩ <;> omega
  have hs : signG xs ≠ 0 /\ (signG xs).natAbs = 1 := by unfold signG; split <;> decide
  have hm : ∀ i, (rowG xs).getD i 0 = (grow xs (facA xs) (facA xs).length).getD i 0 * signG xs := fun i => zP (φ := fun x => x * signG xs) (by exact Int.zero_mul _) _ i
  have rr : RowOk (rowG xs) := by
    rcases g.r1 with z | ⟨ys, a, z, ha⟩
    . exact absurd z g.n1
    . refine .inr ⟨ys.map (fun x => x * signG xs), a * signG xs, ?_, Int.mul_ne_zero ha hs.1⟩
      unfold rowG; rw [z, List.map_append]; rfl
  have nr : rowG xs ≠ [] := fun z => g.n1 (by unfold rowG at z; simpa using z)
  have sm : Sim (co (grow xs (facA xs) (facA xs).length)) (co (rowG xs)) := ⟨signG xs, 1, hs.1, by decide, fun i => by
    show _ = 1 * (rowG xs).getD i 0
    rw [hm i, Int.one_mul, Int.mul_comm]⟩
  have B1 : R9 (rowG xs) := ⟨rr, nr, by unfold rowG; rw [List.length_map]; exact g.l1.1, fun x hx => by
    unfold rowG at hx
    obtain ⟨y, hy, rfl⟩ := List.mem_map.mp hx
    rw [Int.natAbs_mul, hs.2, Nat.mul_one]
    exact (g.b1.mono (by omega)) y hy⟩
  have lb : (barG (facA xs) (facA xs).length).length <= 9 := by
    obtain ⟨a, b⟩ := g.l2
    have := h.m3
    rcases h.tl with y | ⟨y, hsp⟩
    . have := b (by omega); omega
    . -- the last one is the only one that is no line
      have g' := aKD xs h (facG xs (1 + xs.getD 0 0 % 3).toNat).length (by omega)
      have b' := g'.l2.2 (Nat.le_refl _)
      rw [y]
      show (timesL (barG (facA xs) _) _).length <= 9
      have t := jA (barG (facA xs) (facG xs (1 + xs.getD 0 0 % 3).toNat).length) ((facA xs).getD (facG xs (1 + xs.getD 0 0 % 3).toNat).length [])
      have := (aPF hsp).l2
      omega
  have B2 : R9 (barG (facA xs) (facA xs).length) := ⟨g.r2, g.n2, lb, g.b2.mono (by omega)⟩
  exact ⟨B1, B2.plain, (g.g1.bare g.r1 g.r2 g.n1).sim g.r1 rr sm, (g.g2.bare g.r2 g.r2 g.n2).sim g.r2 (plainOk' g.r2) (wH g.r2)⟩
end My
namespace My
open PySem L2 L2.EV PyProof.Rows
def vQ (ds : List D) (d : D) : Prop := ∃ xs : List Int, ds = [intsD xs] /\ xs.length = 15 /\ d = .tup [rowD (rowG xs), rowD (dueG xs)]
theorem aHM : ∀ ds d, vQ ds d -> ds.length = 1 := by rintro _ _ ⟨a, rfl, _⟩; rfl
theorem aLQ (xs : List Int) : (toP (rowD xs)).depth <= 62 := by
  show PyData.depth (.tuple (toPs (xs.map D.int))) <= 62
  rw [wB]
  have h1 := PySem.W.depthAll_ints xs
  simp only [PyData.depth]; omega
theorem aJB : ∀ fs : List (List Int), PyData.canLayAll0 (toPs (fs.map rowD)) = true
  | [] => rfl
  | f :: fs => by
    show PyData.canLayAll0 (toP (rowD f) :: toPs (fs.map rowD)) = true
    rw [PyData.canLayAll0, Bool.and_eq_true]
    exact ⟨SeqAt.canLay_of_shaped (yI f), aJB fs⟩
theorem aJC (p : List Int) : ∀ fs : List (List Int), ((toPs (fs.map rowD)).any fun y => PyData.eqv y (toP (rowD p))) = decide (p ∈ fs)
  | [] => rfl
  | f :: fs => by
    show ((toP (rowD f)).eqv (toP (rowD p)) || (toPs (fs.map rowD)).any fun y => PyData.eqv y (toP (rowD p))) = _
    rw [jS, aJC p fs]
    by_cases z : f = p
    . subst z; simp
    . have z' : ¬ p = f := fun y => z y.symm
      simp [z, z']
theorem atF {fs : List (List Int)} {k : Nat} (h : k < fs.length) : atI (fs.map rowD) (k : Int) = some (rowD (fs.getD k [])) :=
  aVY (by rw [List.getElem?_map, List.getD_eq_getElem?_getD, List.getElem?_eq_getElem h]; rfl)
theorem eAU (n : Int) : atI (specs.map rowD) (n % 4) = some (rowD (specs.getD (n % 4).toNat [])) := by
  have e : n % 4 = (((n % 4).toNat : Nat) : Int) := by omega
  rw [e, Int.toNat_natCast]
  exact atF (by show _ < 4; omega)
theorem eAV (xs : List Int) : atI ([1, -1].map D.int) (xs.getD 14 0 % 2) = some (.int (signG xs)) := by
  unfold signG
  have h : xs.getD 14 0 % 2 = 0 \/ xs.getD 14 0 % 2 = 1 := by omega
  rcases h with e | e <;> rw [e] <;> rfl
theorem aYV (xs : List Int) : -2 < signG xs /\ signG xs < 2 := by unfold signG; split <;> decide
theorem aWG {p : List Int} (h : BD 4 p) : ∀ y ∈ p, -(2 ^ 63) < y /\ y < 2 ^ 63 := fun y hy => by have := h y hy; omega
section
variable {P : Program} {w : World} {K : PySem.W.Frag} {mg : Str -> Option Value} {base : Heap} {k : Nat} {X : Cx}
theorem aNL (h : DefX P w K mg base k N__law_grown (defScope zT) X) (m_range : mg "range" = none) (m_len : mg "len" = none) (m_tuple : mg "tuple" = none) (cP : Callee X "_law_plain" jW) (cT : Callee X "_law_times" jV) :
    ∀ ds d, vQ ds d -> EvSs X (ds.map Sl.val ++ List.replicate (N__law_grown.length - ds.length) Sl.un) (defBody zT) (.rt d) := by
  rintro ds d ⟨xs, rfl, hx, rfl⟩
  have t := h.at'
  haveI := h.fnT
  have b1 : Blt X (defScope zT) "range" (.type "range") := yN (by rw [h.mg']; exact m_range)
  have b2 : Blt X (defScope zT) "len" (.builtin "len") := yN (by rw [h.mg']; exact m_len)
  have b3 : Blt X (defScope zT) "tuple" (.type "tuple") := yN (by rw [h.mg']; exact m_tuple)
  have sg := aYV xs
  show EvSs X [.val (intsD xs), .un, .un, .un, .un, .un, .un] _ _
  have fl : ∀ i, (facG xs i).length <= i := fun i => (aOE xs i).2.1
  have hA := aUU xs
  have lA : (facA xs).length <= 4 := by have := hA.m3; rcases hA.tl with y | ⟨y, _⟩ <;> omega
  refine yD (aFR (xs := (facG xs 0).map rowD) t 1 (vH yE)) ?_
  refine yD (ρ' := [.val (intsD xs), .own ((facG xs (1 + xs.getD 0 0 % 3).toNat).map rowD), .un, .un, .un, .un, .un]) (aAP t (qX t b1 (yW yC (yO (i := xs.getD 0 0) (yU (EvE.ql (yA t 0 rfl)) yC (zN (n := 0) (by omega))) yC (by decide))) (by omega) (by omega)) (FRun.uptoE (fun i => [.val (intsD xs), .own ((facG xs i).map rowD), .un, .un, .un, .un, .un]) (fun i d hi => ?_) rfl ?_)) ?_
  . obtain ⟨hin, rfl⟩ := qV hi
    have hi' : i < 3 := by omega
    have fi := fl i
    refine ⟨_, yS t 2, EvSs.weak (ρ1 := [.val (intsD xs), .own ((facG xs (i + 1)).map rowD), .val (.int i), .val (rowD (facL xs i)), .un, .un, .un]) (yD (zK t 3 (yF t cP (yB (d := rowD [xs.getD (1 + 2 * i) 0 % 9 - 4, 1 + xs.getD (2 + 2 * i) 0 % 4]) (zC (yB (qE (yO (i := xs.getD (1 + 2 * i) 0) (yU (EvE.ql (yA t 0 rfl)) (yW yC (yY yC (yA t 2 rfl) (qO (by decide) (by decide)))) (by rw [show (1 + 2 * (i : Int)) = ((1 + 2 * i : Nat) : Int) by omega]; exact zN (by omega))) yC (by decide)) yC) (yB (yW yC (yO (i := xs.getD (2 + 2 * i) 0) (yU (EvE.ql (yA t 0 rfl)) (yW yC (yY yC (yA t 2 rfl) (qO (by decide) (by decide)))) (by rw [show (2 + 2 * (i : Int)) = ((2 + 2 * i : Nat) : Int) by omega]; exact zN (by omega))) yC (by decide))) yE))) yE) ⟨_, rfl, aDA (by omega), by show 2 < 1000; omega, rfl⟩)) ?_) (.keep (.keep (.forget (.forget (.keep (.keep (.keep .nil)))))))⟩
    by_cases z : facL xs i ∈ facG xs i
    . refine yG (aAE (aYL t (yA t 3 rfl) 1 rfl (SeqAt.canLay_of_shaped (yI _)) (aLQ _) (aJB _) (by rw [aJC]; show (!decide (facL xs i ∈ facG xs i)) = false; rw [decide_eq_true z]; rfl)) (EvSs.eq jK ?_))
      have e : facG xs (i + 1) = facG xs i := by show (if _ then _ else _) = _; rw [if_pos z]
      rw [e]; rfl
    . refine yG (aBD (aYL t (yA t 3 rfl) 1 rfl (SeqAt.canLay_of_shaped (yI _)) (aLQ _) (aJB _) (by rw [aJC]; show (!decide (facL xs i ∈ facG xs i)) = true; rw [decide_eq_false z]; rfl)) (EvSs.eq (yG (aEW t 1 rfl (yA t 3 rfl) (by rw [List.length_map]; exact small (by omega)))) ?_))
      have e : facG xs (i + 1) = facG xs i ++ [facL xs i] := by show (if _ then _ else _) = _; rw [if_neg z]
      rw [e, List.map_append]; rfl
  . have e : (rangeD 0 (1 + xs.getD 0 0 % 3).toNat).length = (1 + xs.getD 0 0 % 3).toNat := by simp [rangeD]
    rw [e]
  refine yD (ρ' := [.val (intsD xs), .own ((facA xs).map rowD), .un, .un, .un, .un, .un]) ?_ ?_
  . have f3 := fl (1 + xs.getD 0 0 % 3).toNat
    by_cases z : xs.getD 7 0 % 2 = 1
    . refine aBD (EvT.eq (vA (yO (i := xs.getD 7 0) (yU (EvE.ql (yA t 0 rfl)) yC (zN (n := 7) (by omega))) yC (by decide)) yC) (decide_eq_true z)) (EvSs.eq (yG (aEW t 1 rfl (yU (EvN.toQ (vH (yB (d := rowD [1, 0, 1]) (zC (yB yC (yB yC (yB yC yE)))) (yB (d := rowD [-2, 0, 1]) (zC (yB (jH yC) (yB yC (yB yC yE)))) (yB (d := rowD [1, 1, 1]) (zC (yB yC (yB yC (yB yC yE)))) (yB (d := rowD [-3, 0, 0, 1]) (zC (yB (jH yC) (yB yC (yB yC (yB yC yE))))) yE)))))) (yO (i := xs.getD 8 0) (yU (EvE.ql (yA t 0 rfl)) yC (zN (n := 8) (by omega))) yC (by decide)) (eAU _)) (by rw [List.length_map]; exact small (by omega)))) ?_)
      have e : facA xs = facG xs (1 + xs.getD 0 0 % 3).toNat ++ [specs.getD (xs.getD 8 0 % 4).toNat []] := by unfold facA; rw [if_pos z]
      rw [e, List.map_append]; rfl
    . refine aAE (EvT.eq (vA (yO (i := xs.getD 7 0) (yU (EvE.ql (yA t 0 rfl)) yC (zN (n := 7) (by omega))) yC (by decide)) yC) (decide_eq_false z)) (EvSs.eq jK ?_)
      have e : facA xs = facG xs (1 + xs.getD 0 0 % 3).toNat := by unfold facA; rw [if_neg z]
      rw [e]
  refine qW 1 rfl ?_
  refine yD (zK t 4 (d := rowD (grow xs (facA xs) 0)) (zC (yB (yW yC (yO (i := xs.getD 9 0) (yU (EvE.ql (yA t 0 rfl)) yC (zN (n := 9) (by omega))) yC (by decide))) yE))) ?_
  refine yD (zK t 5 (d := rowD (barG (facA xs) 0)) (zC (yB yC yE))) ?_
  have rowE : rowG xs = (grow xs (facA xs) (facA xs).length).map fun x => x * signG xs := rfl
  have dueE : dueG xs = plainB (barG (facA xs) (facA xs).length) := rfl
  have gr := fun i (hi : i <= (facA xs).length) => aKD xs hA i hi
  have fc := fun i (hi : i < (facA xs).length) => (hA.fac hi).1
  rw [rowE, dueE]
  generalize facA xs = fs at lA hA gr fc
  refine yD (ρ' := [.val (intsD xs), .val (.lst (fs.map rowD)), .un, .un, .val (rowD (grow xs fs fs.length)), .val (rowD (barG fs fs.length)), .un]) (aAP t (qX t b1 (yT t b2 (EvE.ql (yA t 1 rfl))) (by omega) (by rw [List.length_map]; omega)) (FRun.uptoE (fun i => [.val (intsD xs), .val (.lst (fs.map rowD)), .un, .un, .val (rowD (grow xs fs i)), .val (rowD (barG fs i)), .un]) (fun i d hi => ?_) rfl ?_)) ?_
  . obtain ⟨hin, rfl⟩ := qV hi
    have hi' : i < fs.length := by rw [List.length_map] at hin; omega
    have g := gr i (by omega)
    have f := fc i hi'
    have gl := g.l1.1
    have bl := g.l2.1
    have f2 := f.l2
    have f1 := f.l1
    have sb := aWG f.bd
    have at' := atF hi'
    have e1 : barG fs (i + 1) = timesL (barG fs i) (fs.getD i []) := rfl
    have e2 : grow xs fs (i + 1) = pwT (fs.getD i []) (timesL (grow xs fs i) (fs.getD i [])) (xs.getD (10 + i) 0 % 3).toNat := rfl
    rw [e1, e2]
    generalize fs.getD i [] = p at *
    have tl := jA (grow xs fs i) p
    refine ⟨_, yS t 2, EvSs.weak (ρ1 := [.val (intsD xs), .val (.lst (fs.map rowD)), .val (.int i), .un, .val (rowD (pwT p (timesL (grow xs fs i) p) (xs.getD (10 + i) 0 % 3).toNat)), .val (rowD (timesL (barG fs i) p)), .un]) ?_ (.keep (.keep (.forget (.keep (.keep (.keep (.keep .nil)))))))⟩
    refine yD (zK t 5 (yF t cT (yB (yA t 5 rfl) (yB (yU (EvE.ql (yA t 1 rfl)) (yA t 2 rfl) at') yE)) ⟨barG fs i, p, rfl, by omega, by omega, sb, rfl⟩)) ?_
    refine yD (zK t 4 (yF t cT (yB (yA t 4 rfl) (yB (yU (EvE.ql (yA t 1 rfl)) (yA t 2 rfl) at') yE)) ⟨grow xs fs i, p, rfl, by omega, by omega, sb, rfl⟩)) ?_
    refine yG (aAP t (qX t b1 (yO (i := xs.getD (10 + i) 0) (yU (EvE.ql (yA t 0 rfl)) (yW yC (yA t 2 rfl)) (by rw [show (10 + (i : Int)) = ((10 + i : Nat) : Int) by omega]; exact zN (by omega))) yC (by decide)) (by omega) (by omega)) (FRun.uptoE (fun n => [.val (intsD xs), .val (.lst (fs.map rowD)), .val (.int i), .un, .val (rowD (pwT p (timesL (grow xs fs i) p) n)), .val (rowD (timesL (barG fs i) p)), .un]) (fun n d hn => ?_) rfl ?_))
    . obtain ⟨hnn, rfl⟩ := qV hn
      have pl := (aNS p (timesL (grow xs fs i) p) (by omega) n).1
      have lens : ∀ {ρ : Rho} {p1 p2 p3 p4 p5 p6 p7 p8 p9 : Pos} {j : Nat}, ρ[4]? = some (.val (rowD (pwT p (timesL (grow xs fs i) p) n))) -> ρ[1]? = some (.val (.lst (fs.map rowD))) -> ρ[2]? = some (.val (.int i)) -> True := fun _ _ _ => trivial
      refine ⟨_, yS t 6, ?_⟩
      by_cases z : (pwT p (timesL (grow xs fs i) p) n).length + p.length < 7
      . have e : pwT p (timesL (grow xs fs i) p) (n + 1) = timesL (pwT p (timesL (grow xs fs i) p) n) p := by show (if _ then _ else _) = _; rw [if_pos z]
        rw [e]
        refine EvSs.weak (yG (aBD (EvT.eq (aGN (yW (yT t b2 (EvE.qt (yA t 4 rfl))) (yT t b2 (EvE.qt (yU (EvE.ql (yA t 1 rfl)) (yA t 2 rfl) at')))) yC) (decide_eq_true (by rw [List.length_map, List.length_map]; omega))) (yG (zK t 4 (yF t cT (yB (yA t 4 rfl) (yB (yU (EvE.ql (yA t 1 rfl)) (yA t 2 rfl) at') yE)) ⟨_, p, rfl, by omega, by omega, sb, rfl⟩))))) (.keep (.keep (.keep (.keep (.keep (.keep (.forget .nil)))))))
      . have e : pwT p (timesL (grow xs fs i) p) (n + 1) = pwT p (timesL (grow xs fs i) p) n := by show (if _ then _ else _) = _; rw [if_neg z]
        rw [e]
        exact EvSs.weak (yG (aAE (EvT.eq (aGN (yW (yT t b2 (EvE.qt (yA t 4 rfl))) (yT t b2 (EvE.qt (yU (EvE.ql (yA t 1 rfl)) (yA t 2 rfl) at')))) yC) (decide_eq_false (by rw [List.length_map, List.length_map]; omega))) jK)) (.keep (.keep (.keep (.keep (.keep (.keep (.forget .nil)))))))
    . have e : (rangeD 0 (xs.getD (10 + i) 0 % 3).toNat).length = (xs.getD (10 + i) 0 % 3).toNat := by simp [rangeD]
      rw [e]
  . have e : (rangeD 0 ((fs.map rowD).length : Int).toNat).length = fs.length := by simp [rangeD]
    rw [e]
  have g := gr fs.length (Nat.le_refl _)
  have gl := g.l1.1
  have bl := g.l2.1
  refine yG (zI (zC (yB (d := rowD ((grow xs fs fs.length).map fun x => x * signG xs)) (vS t b3 (EvN.toQ (vC (rs := ((grow xs fs fs.length).map fun x => x * signG xs).map D.int) t ["_law_xs", "_law_factors", "_law_k", "_law_factor", "_law_row_here", "_law_bare_here", "_law_turn", "_law_x"] (csc (by decide +kernel)) (aBZ (yA t 4 rfl)) (by rw [List.length_map]; exact small (by omega)) fun X' cx => ?_))) (yB (yF t cP (yB (yA t 5 rfl) yE) ⟨_, rfl, g.r2, by omega, rfl⟩) yE))))
  have t' := cx.at'
  exact CRun.ints (fun x => x * signG xs) (fun x => [.val (intsD xs), .val (.lst (fs.map rowD)), .un, .un, .val (rowD (grow xs fs fs.length)), .val (rowD (barG fs fs.length)), .un, .val (.int x)]) (fun d hd => yK t' 7) (fun d hd e he => yK t' 7) fun d hd =>
    yY (yA t' 7 rfl) (yU (EvN.toQ (vH (yB yC (yB (jH yC) yE)))) (yO (i := xs.getD 14 0) (yU (EvE.ql (yA t' 0 rfl)) yC (zN (n := 14) (by omega))) yC (by decide)) (eAV _)) (aBJ (by omega) (by omega))
end
end My
namespace My
open PySem L2 L2.EV PyProof.Rows
def rowN (c : Int) : List Int := if rowF c 6 = [] then [0, 1] else rowF c 6
theorem aZA (c : Int) : R9 (rowN c) := by
  unfold rowN
  split
  . exact ⟨.inr ⟨[0], 1, rfl, by decide⟩, by decide, by decide, fun x hx => by
      have : x = 0 \/ x = 1 := by simpa using hx
      rcases this with rfl | rfl <;> decide⟩
  . rename_i z
    have := aSR c (most := 6) (by decide) (by decide)
    exact ⟨aZB c 6, z, by omega, aQN (aZC c 6) (by decide)⟩
section
variable {P : Program} {w : World} {K : PySem.W.Frag} {mg : Str -> Option Value} {base : Heap} {k : Nat} {X : Cx}
theorem eED {C Dc : Addr} (h : DefX P w K mg base k N_law (defScope aHB) X) (cR : Callee X "_law_row" aBV) (cG : Callee X "_law_grown" vQ) (cB : Callee X "bare_row" aBU) (cC : Callee X "_law_cell" aBB) (cRt : Callee X "_law_right" aAC) (cN : Callee X "_law_numbers" jP) (cO : CalleeH X "_law_only" (aAZ C 1)) (cL : Callee X "_law_bare" aBC) (cX : CalleeX X "bare_row" C aBT) (O : OwnCls "StackError" Dc vB vN mg base) (hm : PySem.W.mroIn K C (.ref Dc) = some true) :
    ∀ ds d, aPA ds d -> EvSs X (ds.map Sl.val ++ List.replicate (N_law.length - ds.length) Sl.un) (defBody aHB) (.rt d) := by
  rintro ds d ⟨ns, rfl, hn, rfl⟩
  have t := h.at'
  haveI := h.fnT
  have O' : OwnCls "StackError" Dc vB vN X.mg X.base := by rw [h.mg', h.base']; exact O
  have hm' : PySem.W.mroIn X.K C (.ref Dc) = some true := by rw [h.k']; exact hm
  show EvSs X [.val (.scr ns), .un, .un, .un, .un] _ _
  have hz := aEZ ns (some 1) (some 8)
  refine yD (aAP t (ds := ((cellF ns 0) :: cutI ns (some 1) (some 8)).map D.int) (aBL (EvE.eq (EvN.toE (aQG (EvN.toE (vH (yB (yF t cC (yB (yA t 0 rfl) (yB yC yE)) ⟨ns, 0, rfl, by decide, by decide, rfl⟩) yE))) (EvE.eq (EvN.toE (aAF (EvE.qs (yA t 0 rfl)) (vK yC) (vK yC))) (by rw [vL])) ?_)) rfl)) (FRun.same _ _ fun d hd => ?_)) ?_
  . have := lineN; simp; omega
  . obtain ⟨c, _, rfl⟩ := List.mem_map.mp hd
    have r1 := aZA c
    obtain ⟨u, hu⟩ := eAS r1.ok r1.ne
    obtain ⟨g1, g2, g3, g4⟩ := aUM (numsF (c / 3 + 1) 15)
    have h15 : (numsF (c / 3 + 1) 15).length = 15 := aBI _ 15
    have ul : u.length < 1000 := by
      obtain ⟨ok, ne, pr, pp⟩ := aFI r1.ok r1.ne
      have tl := (qS hu.1 ok hu.2.1 ne).1
      rw [<- hu.2.2.2, zL] at tl
      have := r1.len
      omega
    have dl := g2.len
    have hG : vQ [intsD (numsF (c / 3 + 1) 15)] (.tup [rowD (rowG (numsF (c / 3 + 1) 15)), rowD (dueG (numsF (c / 3 + 1) 15))]) := ⟨_, rfl, h15, rfl⟩
    generalize rowG (numsF (c / 3 + 1) 15) = f at g1 g3 hG
    generalize dueG (numsF (c / 3 + 1) 15) = e at g2 g3 g4 dl hG
    refine ⟨_, yS t 1, EvSs.weak (ρ1 := [.val (.scr ns), .val (.int c), .val (rowD f), .val (rowD e), .un]) ?_ (.keep (.forget (.forget (.forget (.keep .nil)))))⟩
    refine yD (zK t 2 (yF t cR (yB (yA t 1 rfl) (yB yC yE)) ⟨c, 6, rfl, by decide, by decide, rfl⟩)) ?_
    refine yD (ρ' := [.val (.scr ns), .val (.int c), .val (rowD (rowN c)), .un, .un]) ?_ ?_
    . by_cases z : rowF c 6 = []
      . refine aBD (aGO t (EvE.p (yA t 2 rfl)) (EvE.p (d := rowD []) (zC yE)) (yI _) (yI _) (by rw [jS, decide_eq_true z])) (EvSs.eq (yG (zK t 2 (d := rowD [0, 1]) (zC (yB yC (yB yC yE))))) ?_)
        have e : rowN c = [0, 1] := by unfold rowN; rw [if_pos z]
        rw [e]; rfl
      . refine aAE (aGO t (EvE.p (yA t 2 rfl)) (EvE.p (d := rowD []) (zC yE)) (yI _) (yI _) (by rw [jS, decide_eq_false z])) (EvSs.eq jK ?_)
        have e : rowN c = rowF c 6 := by unfold rowN; rw [if_neg z]
        rw [e]; rfl
    refine yD (aAE (EvT.eq (aMO (aOH (yF t cRt (yB (yF t cB (yB (yA t 2 rfl) yE) ⟨_, u, rfl, r1, hu, rfl⟩) (yB (yF t cL (yB (yA t 2 rfl) yE) ⟨_, u, rfl, r1, hu, rfl⟩) yE)) ⟨u, rfl, ul, rfl⟩))) rfl) jK) ?_
    refine yD (aHC t (yF t cG (yB (yF t cN (yB (yW (aEC t (yA t 1 rfl) yC (by decide)) yC) (yB yC yE)) ⟨c / 3 + 1, 15, rfl, by decide, rfl⟩) yE) hG) (aGQ t (zY (yS t 2) (zY (yS t 3) aCJ)))) ?_
    exact yG (aAE (EvW.toT (aGK (EvT.eq (aMO (aOH (yF t cRt (yB (yF t cB (yB (yA t 2 rfl) yE) ⟨f, e, rfl, g1, g3, rfl⟩) (yB (yA t 3 rfl) yE)) ⟨e, rfl, by omega, rfl⟩))) rfl) (aGL (EvT.eq (aMO (aOH (yF t cRt (yB (yF t cB (yB (yA t 3 rfl) yE) ⟨e, e, rfl, g2, g4, rfl⟩) (yB (yA t 3 rfl) yE)) ⟨e, rfl, by omega, rfl⟩))) rfl)))) jK)
  . exact aAK (aYW (o := fun _ => .rt (.bl true)) t h.stk 4 (aDO (eBE (aXP t cX (yB (d := rowD []) (zC yE) yE) rfl))) O' hm' (fun ea => yG (zI (eBB (ea := ea) (Ce := C) (t.hot ea) rfl 4 rfl (cO.suite ea) (yB (vZ (t.hot ea) 4 rfl) (yB yC yE)) ⟨ea, rfl, by decide, rfl⟩))) (ho := fun ea B F E q => q))
end
end My
namespace My
open PySem L2 L2.EV PyProof.Rows
theorem bind1 {fd : FuncData} {ps : List Str} {us : List Value} (h : us.length = 1) (k : ∀ a0, bindArgs fd ⟨[a0], []⟩ = pure (ps.zip [a0])) : bindArgs fd ⟨us, []⟩ = pure (ps.zip us) := match us, h with | [a0], _ => k a0
theorem bind2 {fd : FuncData} {ps : List Str} {us : List Value} (h : us.length = 2) (k : ∀ a0 a1, bindArgs fd ⟨[a0, a1], []⟩ = pure (ps.zip [a0, a1])) : bindArgs fd ⟨us, []⟩ = pure (ps.zip us) := match us, h with | [a0, a1], _ => k a0 a1
theorem bind3 {fd : FuncData} {ps : List Str} {us : List Value} (h : us.length = 3) (k : ∀ a0 a1 a2, bindArgs fd ⟨[a0, a1, a2], []⟩ = pure (ps.zip [a0, a1, a2])) : bindArgs fd ⟨us, []⟩ = pure (ps.zip us) := match us, h with | [a0, a1, a2], _ => k a0 a1 a2
set_option maxHeartbeats 4000000 in
theorem all_mk {l : PySem.W.OpenLaw} {w : World} {K : PySem.W.Frag} {h : Heap} {mg : Str -> Option Value} {fa f1 f2 f3 f4 f5 f6 f7 f8 f9 f10 f11 f12 f13 f14 f15 f16 f17 f18 f19 f20 f21 f22 f23 f24 f25 f26 f27 f28 f29 f30 f31 f32 f33 f34 f35 f36 f37 f38 f39 f40 : Addr} (ht : l.prog.given.tree = none) (X : K.In h) (G : h.Ns mainGlobals mg) (hfa : mg "law" = some (.ref fa))
    {od1 an1 od2 an2 od3 an3 od4 an4 od5 an5 od6 an6 od7 an7 od8 an8 od9 an9 od10 an10 od11 an11 od12 an12 od13 an13 od14 an14 od15 an15 od16 an16 od17 an17 od18 an18 od19 an19 od20 an20 od21 an21 od22 an22 od23 an23 od24 an24 od25 an25 od26 an26 od27 an27 od28 an28 od29 an29 od30 an30 od31 an31 od32 an32 od33 an33 od34 an34 od35 an35 od36 an36 od37 an37 od38 an38 od39 an39 od40 an40 : Option Addr} {sl1 sl2 sl3 sl4 sl5 sl6 sl7 sl8 sl9 sl10 sl11 sl12 sl13 sl14 sl15 sl16 sl17 sl18 sl19 sl20 sl21 sl22 sl23 sl24 sl25 sl26 sl27 sl28 sl29 sl30 sl31 sl32 sl33 sl34 sl35 sl36 sl37 sl38 sl39 sl40 : Array (Option Value)} {oc1 kV1 dc1 pm1 cd1 ct1 oc2 kV2 dc2 pm2 cd2 ct2 oc3 kV3 dc3 pm3 cd3 ct3 oc4 kV4 dc4 pm4 cd4 ct4 oc5 kV5 dc5 pm5 cd5 ct5 oc6 kV6 dc6 pm6 cd6 ct6 oc7 kV7 dc7 pm7 cd7 ct7 oc8 kV8 dc8 pm8 cd8 ct8 oc9 kV9 dc9 pm9 cd9 ct9 oc10 kV10 dc10 pm10 cd10 ct10 oc11 kV11 dc11 pm11 cd11 ct11 oc12 kV12 dc12 pm12 cd12 ct12 oc13 kV13 dc13 pm13 cd13 ct13 oc14 kV14 dc14 pm14 cd14 ct14 oc15 kV15 dc15 pm15 cd15 ct15 oc16 kV16 dc16 pm16 cd16 ct16 oc17 kV17 dc17 pm17 cd17 ct17 oc18 kV18 dc18 pm18 cd18 ct18 oc19 kV19 dc19 pm19 cd19 ct19 oc20 kV20 dc20 pm20 cd20 ct20 oc21 kV21 dc21 pm21 cd21 ct21 oc22 kV22 dc22 pm22 cd22 ct22 oc23 kV23 dc23 pm23 cd23 ct23 oc24 kV24 dc24 pm24 cd24 ct24 oc25 kV25 dc25 pm25 cd25 ct25 oc26 kV26 dc26 pm26 cd26 ct26 oc27 kV27 dc27 pm27 cd27 ct27 oc28 kV28 dc28 pm28 cd28 ct28 oc29 kV29 dc29 pm29 cd29 ct29 oc30 kV30 dc30 pm30 cd30 ct30 oc31 kV31 dc31 pm31 cd31 ct31 oc32 kV32 dc32 pm32 cd32 ct32 oc33 kV33 dc33 pm33 cd33 ct33 oc34 kV34 dc34 pm34 cd34 ct34 oc35 kV35 dc35 pm35 cd35 ct35 oc36 kV36 dc36 pm36 cd36 ct36 oc37 kV37 dc37 pm37 cd37 ct37 oc38 kV38 dc38 pm38 cd38 ct38 oc39 kV39 dc39 pm39 cd39 ct39 oc40 kV40 dc40 pm40 cd40 ct40 : Value}
    (a1 : PySem.W.nsIn K mainGlobals "sign_of" = some (some (.ref f1))) (l1 : K.lookup f1 = some ⟨oc1, od1, .func (PySem.W.fnOf "sign_of" "sign_of" (defArgs wD) (defBody wD) (defScope wD) .none kV1 dc1 pm1 an1 cd1 ct1), sl1⟩) (c1 : PySem.W.codeIn K cd1 "sign_of" = true) (k1 : PySem.W.keepIn K (.ref f1) = true)
    (a2 : PySem.W.nsIn K mainGlobals "common_divisor" = some (some (.ref f2))) (l2 : K.lookup f2 = some ⟨oc2, od2, .func (PySem.W.fnOf "common_divisor" "common_divisor" (defArgs zD) (defBody zD) (defScope zD) .none kV2 dc2 pm2 an2 cd2 ct2), sl2⟩) (c2 : PySem.W.codeIn K cd2 "common_divisor" = true) (k2 : PySem.W.keepIn K (.ref f2) = true)
    (a3 : PySem.W.nsIn K mainGlobals "without_end" = some (some (.ref f3))) (l3 : K.lookup f3 = some ⟨oc3, od3, .func (PySem.W.fnOf "without_end" "without_end" (defArgs zO) (defBody zO) (defScope zO) .none kV3 dc3 pm3 an3 cd3 ct3), sl3⟩) (c3 : PySem.W.codeIn K cd3 "without_end" = true) (k3 : PySem.W.keepIn K (.ref f3) = true)
    (a4 : PySem.W.nsIn K mainGlobals "row_of" = some (some (.ref f4))) (l4 : K.lookup f4 = some ⟨oc4, od4, .func (PySem.W.fnOf "row_of" "row_of" (defArgs aAN) (defBody aAN) (defScope aAN) .none kV4 dc4 pm4 an4 cd4 ct4), sl4⟩) (c4 : PySem.W.codeIn K cd4 "row_of" = true) (k4 : PySem.W.keepIn K (.ref f4) = true)
    (a5 : PySem.W.nsIn K mainGlobals "other_sign" = some (some (.ref f5))) (l5 : K.lookup f5 = some ⟨oc5, od5, .func (PySem.W.fnOf "other_sign" "other_sign" (defArgs qK) (defBody qK) (defScope qK) .none kV5 dc5 pm5 an5 cd5 ct5), sl5⟩) (c5 : PySem.W.codeIn K cd5 "other_sign" = true) (k5 : PySem.W.keepIn K (.ref f5) = true)
    (a6 : PySem.W.nsIn K mainGlobals "slope" = some (some (.ref f6))) (l6 : K.lookup f6 = some ⟨oc6, od6, .func (PySem.W.fnOf "slope" "slope" (defArgs aAD) (defBody aAD) (defScope aAD) .none kV6 dc6 pm6 an6 cd6 ct6), sl6⟩) (c6 : PySem.W.codeIn K cd6 "slope" = true) (k6 : PySem.W.keepIn K (.ref f6) = true)
    (a7 : PySem.W.nsIn K mainGlobals "put_low" = some (some (.ref f7))) (l7 : K.lookup f7 = some ⟨oc7, od7, .func (PySem.W.fnOf "put_low" "put_low" (defArgs vP) (defBody vP) (defScope vP) .none kV7 dc7 pm7 an7 cd7 ct7), sl7⟩) (c7 : PySem.W.codeIn K cd7 "put_low" = true) (k7 : PySem.W.keepIn K (.ref f7) = true)
    (a8 : PySem.W.nsIn K mainGlobals "plain_row" = some (some (.ref f8))) (l8 : K.lookup f8 = some ⟨oc8, od8, .func (PySem.W.fnOf "plain_row" "plain_row" (defArgs jQ) (defBody jQ) (defScope jQ) .none kV8 dc8 pm8 an8 cd8 ct8), sl8⟩) (c8 : PySem.W.codeIn K cd8 "plain_row" = true) (k8 : PySem.W.keepIn K (.ref f8) = true)
    (a9 : PySem.W.nsIn K mainGlobals "whole_quotient" = some (some (.ref f9))) (l9 : K.lookup f9 = some ⟨oc9, od9, .func (PySem.W.fnOf "whole_quotient" "whole_quotient" (defArgs yP) (defBody yP) (defScope yP) .none kV9 dc9 pm9 an9 cd9 ct9), sl9⟩) (c9 : PySem.W.codeIn K cd9 "whole_quotient" = true) (k9 : PySem.W.keepIn K (.ref f9) = true)
    (a10 : PySem.W.nsIn K mainGlobals "inverse_of" = some (some (.ref f10))) (l10 : K.lookup f10 = some ⟨oc10, od10, .func (PySem.W.fnOf "inverse_of" "inverse_of" (defArgs jF) (defBody jF) (defScope jF) .none kV10 dc10 pm10 an10 cd10 ct10), sl10⟩) (c10 : PySem.W.codeIn K cd10 "inverse_of" = true) (k10 : PySem.W.keepIn K (.ref f10) = true)
    (a11 : PySem.W.nsIn K mainGlobals "made_monic" = some (some (.ref f11))) (l11 : K.lookup f11 = some ⟨oc11, od11, .func (PySem.W.fnOf "made_monic" "made_monic" (defArgs jE) (defBody jE) (defScope jE) .none kV11 dc11 pm11 an11 cd11 ct11), sl11⟩) (c11 : PySem.W.codeIn K cd11 "made_monic" = true) (k11 : PySem.W.keepIn K (.ref f11) = true)
    (a12 : PySem.W.nsIn K mainGlobals "rest_modulo" = some (some (.ref f12))) (l12 : K.lookup f12 = some ⟨oc12, od12, .func (PySem.W.fnOf "rest_modulo" "rest_modulo" (defArgs zF) (defBody zF) (defScope zF) .none kV12 dc12 pm12 an12 cd12 ct12), sl12⟩) (c12 : PySem.W.codeIn K cd12 "rest_modulo" = true) (k12 : PySem.W.keepIn K (.ref f12) = true)
    (a13 : PySem.W.nsIn K mainGlobals "shared_modulo" = some (some (.ref f13))) (l13 : K.lookup f13 = some ⟨oc13, od13, .func (PySem.W.fnOf "shared_modulo" "shared_modulo" (defArgs zW) (defBody zW) (defScope zW) .none kV13 dc13 pm13 an13 cd13 ct13), sl13⟩) (c13 : PySem.W.codeIn K cd13 "shared_modulo" = true) (k13 : PySem.W.keepIn K (.ref f13) = true)
    (a14 : PySem.W.nsIn K mainGlobals "lifted" = some (some (.ref f14))) (l14 : K.lookup f14 = some ⟨oc14, od14, .func (PySem.W.fnOf "lifted" "lifted" (defArgs aAO) (defBody aAO) (defScope aAO) .none kV14 dc14 pm14 an14 cd14 ct14), sl14⟩) (c14 : PySem.W.codeIn K cd14 "lifted" = true) (k14 : PySem.W.keepIn K (.ref f14) = true)
    (a15 : PySem.W.nsIn K mainGlobals "shared_by" = some (some (.ref f15))) (l15 : K.lookup f15 = some ⟨oc15, od15, .func (PySem.W.fnOf "shared_by" "shared_by" (defArgs jD) (defBody jD) (defScope jD) .none kV15 dc15 pm15 an15 cd15 ct15), sl15⟩) (c15 : PySem.W.codeIn K cd15 "shared_by" = true) (k15 : PySem.W.keepIn K (.ref f15) = true)
    (a16 : PySem.W.nsIn K mainGlobals "shared_by_primes" = some (some (.ref f16))) (l16 : K.lookup f16 = some ⟨oc16, od16, .func (PySem.W.fnOf "shared_by_primes" "shared_by_primes" (defArgs zB) (defBody zB) (defScope zB) .none kV16 dc16 pm16 an16 cd16 ct16), sl16⟩) (c16 : PySem.W.codeIn K cd16 "shared_by_primes" = true) (k16 : PySem.W.keepIn K (.ref f16) = true)
    (a17 : PySem.W.nsIn K mainGlobals "step_down" = some (some (.ref f17))) (l17 : K.lookup f17 = some ⟨oc17, od17, .func (PySem.W.fnOf "step_down" "step_down" (defArgs jB) (defBody jB) (defScope jB) .none kV17 dc17 pm17 an17 cd17 ct17), sl17⟩) (c17 : PySem.W.codeIn K cd17 "step_down" = true) (k17 : PySem.W.keepIn K (.ref f17) = true)
    (a18 : PySem.W.nsIn K mainGlobals "divided" = some (some (.ref f18))) (l18 : K.lookup f18 = some ⟨oc18, od18, .func (PySem.W.fnOf "divided" "divided" (defArgs qU) (defBody qU) (defScope qU) .none kV18 dc18 pm18 an18 cd18 ct18), sl18⟩) (c18 : PySem.W.codeIn K cd18 "divided" = true) (k18 : PySem.W.keepIn K (.ref f18) = true)
    (a19 : PySem.W.nsIn K mainGlobals "rest_of" = some (some (.ref f19))) (l19 : K.lookup f19 = some ⟨oc19, od19, .func (PySem.W.fnOf "rest_of" "rest_of" (defArgs jZ) (defBody jZ) (defScope jZ) .none kV19 dc19 pm19 an19 cd19 ct19), sl19⟩) (c19 : PySem.W.codeIn K cd19 "rest_of" = true) (k19 : PySem.W.keepIn K (.ref f19) = true)
    (a20 : PySem.W.nsIn K mainGlobals "shared_by_rests" = some (some (.ref f20))) (l20 : K.lookup f20 = some ⟨oc20, od20, .func (PySem.W.fnOf "shared_by_rests" "shared_by_rests" (defArgs zE) (defBody zE) (defScope zE) .none kV20 dc20 pm20 an20 cd20 ct20), sl20⟩) (c20 : PySem.W.codeIn K cd20 "shared_by_rests" = true) (k20 : PySem.W.keepIn K (.ref f20) = true)
    (a21 : PySem.W.nsIn K mainGlobals "shared_row" = some (some (.ref f21))) (l21 : K.lookup f21 = some ⟨oc21, od21, .func (PySem.W.fnOf "shared_row" "shared_row" (defArgs jC) (defBody jC) (defScope jC) .none kV21 dc21 pm21 an21 cd21 ct21), sl21⟩) (c21 : PySem.W.codeIn K cd21 "shared_row" = true) (k21 : PySem.W.keepIn K (.ref f21) = true)
    (a22 : PySem.W.nsIn K mainGlobals "bare_row" = some (some (.ref f22))) (l22 : K.lookup f22 = some ⟨oc22, od22, .func (PySem.W.fnOf "bare_row" "bare_row" (defArgs jI) (defBody jI) (defScope jI) .none kV22 dc22 pm22 an22 cd22 ct22), sl22⟩) (c22 : PySem.W.codeIn K cd22 "bare_row" = true) (k22 : PySem.W.keepIn K (.ref f22) = true)
    (a23 : PySem.W.nsIn K mainGlobals "_law_cell" = some (some (.ref f23))) (l23 : K.lookup f23 = some ⟨oc23, od23, .func (PySem.W.fnOf "_law_cell" "_law_cell" (defArgs jG) (defBody jG) (defScope jG) .none kV23 dc23 pm23 an23 cd23 ct23), sl23⟩) (c23 : PySem.W.codeIn K cd23 "_law_cell" = true) (k23 : PySem.W.keepIn K (.ref f23) = true)
    (a24 : PySem.W.nsIn K mainGlobals "_law_numbers" = some (some (.ref f24))) (l24 : K.lookup f24 = some ⟨oc24, od24, .func (PySem.W.fnOf "_law_numbers" "_law_numbers" (defArgs yZ) (defBody yZ) (defScope yZ) .none kV24 dc24 pm24 an24 cd24 ct24), sl24⟩) (c24 : PySem.W.codeIn K cd24 "_law_numbers" = true) (k24 : PySem.W.keepIn K (.ref f24) = true)
    (a25 : PySem.W.nsIn K mainGlobals "_law_whole" = some (some (.ref f25))) (l25 : K.lookup f25 = some ⟨oc25, od25, .func (PySem.W.fnOf "_law_whole" "_law_whole" (defArgs zQ) (defBody zQ) (defScope zQ) .none kV25 dc25 pm25 an25 cd25 ct25), sl25⟩) (c25 : PySem.W.codeIn K cd25 "_law_whole" = true) (k25 : PySem.W.keepIn K (.ref f25) = true)
    (a26 : PySem.W.nsIn K mainGlobals "_law_only" = some (some (.ref f26))) (l26 : K.lookup f26 = some ⟨oc26, od26, .func (PySem.W.fnOf "_law_only" "_law_only" (defArgs qH) (defBody qH) (defScope qH) .none kV26 dc26 pm26 an26 cd26 ct26), sl26⟩) (c26 : PySem.W.codeIn K cd26 "_law_only" = true) (k26 : PySem.W.keepIn K (.ref f26) = true)
    (a27 : PySem.W.nsIn K mainGlobals "_law_trim" = some (some (.ref f27))) (l27 : K.lookup f27 = some ⟨oc27, od27, .func (PySem.W.fnOf "_law_trim" "_law_trim" (defArgs qG) (defBody qG) (defScope qG) .none kV27 dc27 pm27 an27 cd27 ct27), sl27⟩) (c27 : PySem.W.codeIn K cd27 "_law_trim" = true) (k27 : PySem.W.keepIn K (.ref f27) = true)
    (a28 : PySem.W.nsIn K mainGlobals "_law_times" = some (some (.ref f28))) (l28 : K.lookup f28 = some ⟨oc28, od28, .func (PySem.W.fnOf "_law_times" "_law_times" (defArgs qB) (defBody qB) (defScope qB) .none kV28 dc28 pm28 an28 cd28 ct28), sl28⟩) (c28 : PySem.W.codeIn K cd28 "_law_times" = true) (k28 : PySem.W.keepIn K (.ref f28) = true)
    (a29 : PySem.W.nsIn K mainGlobals "_law_some_row" = some (some (.ref f29))) (l29 : K.lookup f29 = some ⟨oc29, od29, .func (PySem.W.fnOf "_law_some_row" "_law_some_row" (defArgs zX) (defBody zX) (defScope zX) .none kV29 dc29 pm29 an29 cd29 ct29), sl29⟩) (c29 : PySem.W.codeIn K cd29 "_law_some_row" = true) (k29 : PySem.W.keepIn K (.ref f29) = true)
    (a30 : PySem.W.nsIn K mainGlobals "_law_planted" = some (some (.ref f30))) (l30 : K.lookup f30 = some ⟨oc30, od30, .func (PySem.W.fnOf "_law_planted" "_law_planted" (defArgs zS) (defBody zS) (defScope zS) .none kV30 dc30 pm30 an30 cd30 ct30), sl30⟩) (c30 : PySem.W.codeIn K cd30 "_law_planted" = true) (k30 : PySem.W.keepIn K (.ref f30) = true)
    (a31 : PySem.W.nsIn K mainGlobals "_law_row" = some (some (.ref f31))) (l31 : K.lookup f31 = some ⟨oc31, od31, .func (PySem.W.fnOf "_law_row" "_law_row" (defArgs vJ) (defBody vJ) (defScope vJ) .none kV31 dc31 pm31 an31 cd31 ct31), sl31⟩) (c31 : PySem.W.codeIn K cd31 "_law_row" = true) (k31 : PySem.W.keepIn K (.ref f31) = true)
    (a32 : PySem.W.nsIn K mainGlobals "_law_left" = some (some (.ref f32))) (l32 : K.lookup f32 = some ⟨oc32, od32, .func (PySem.W.fnOf "_law_left" "_law_left" (defArgs qI) (defBody qI) (defScope qI) .none kV32 dc32 pm32 an32 cd32 ct32), sl32⟩) (c32 : PySem.W.codeIn K cd32 "_law_left" = true) (k32 : PySem.W.keepIn K (.ref f32) = true)
    (a33 : PySem.W.nsIn K mainGlobals "_law_put_low" = some (some (.ref f33))) (l33 : K.lookup f33 = some ⟨oc33, od33, .func (PySem.W.fnOf "_law_put_low" "_law_put_low" (defArgs zG) (defBody zG) (defScope zG) .none kV33 dc33 pm33 an33 cd33 ct33), sl33⟩) (c33 : PySem.W.codeIn K cd33 "_law_put_low" = true) (k33 : PySem.W.keepIn K (.ref f33) = true)
    (a34 : PySem.W.nsIn K mainGlobals "_law_plain" = some (some (.ref f34))) (l34 : K.lookup f34 = some ⟨oc34, od34, .func (PySem.W.fnOf "_law_plain" "_law_plain" (defArgs qD) (defBody qD) (defScope qD) .none kV34 dc34 pm34 an34 cd34 ct34), sl34⟩) (c34 : PySem.W.codeIn K cd34 "_law_plain" = true) (k34 : PySem.W.keepIn K (.ref f34) = true)
    (a35 : PySem.W.nsIn K mainGlobals "_law_shared" = some (some (.ref f35))) (l35 : K.lookup f35 = some ⟨oc35, od35, .func (PySem.W.fnOf "_law_shared" "_law_shared" (defArgs qL) (defBody qL) (defScope qL) .none kV35 dc35 pm35 an35 cd35 ct35), sl35⟩) (c35 : PySem.W.codeIn K cd35 "_law_shared" = true) (k35 : PySem.W.keepIn K (.ref f35) = true)
    (a36 : PySem.W.nsIn K mainGlobals "_law_right" = some (some (.ref f36))) (l36 : K.lookup f36 = some ⟨oc36, od36, .func (PySem.W.fnOf "_law_right" "_law_right" (defArgs zR) (defBody zR) (defScope zR) .none kV36 dc36 pm36 an36 cd36 ct36), sl36⟩) (c36 : PySem.W.codeIn K cd36 "_law_right" = true) (k36 : PySem.W.keepIn K (.ref f36) = true)
    (a37 : PySem.W.nsIn K mainGlobals "_law_times_in" = some (some (.ref f37))) (l37 : K.lookup f37 = some ⟨oc37, od37, .func (PySem.W.fnOf "_law_times_in" "_law_times_in" (defArgs yV) (defBody yV) (defScope yV) .none kV37 dc37 pm37 an37 cd37 ct37), sl37⟩) (c37 : PySem.W.codeIn K cd37 "_law_times_in" = true) (k37 : PySem.W.keepIn K (.ref f37) = true)
    (a38 : PySem.W.nsIn K mainGlobals "_law_bare" = some (some (.ref f38))) (l38 : K.lookup f38 = some ⟨oc38, od38, .func (PySem.W.fnOf "_law_bare" "_law_bare" (defArgs qJ) (defBody qJ) (defScope qJ) .none kV38 dc38 pm38 an38 cd38 ct38), sl38⟩) (c38 : PySem.W.codeIn K cd38 "_law_bare" = true) (k38 : PySem.W.keepIn K (.ref f38) = true)
    (a39 : PySem.W.nsIn K mainGlobals "_law_grown" = some (some (.ref f39))) (l39 : K.lookup f39 = some ⟨oc39, od39, .func (PySem.W.fnOf "_law_grown" "_law_grown" (defArgs zT) (defBody zT) (defScope zT) .none kV39 dc39 pm39 an39 cd39 ct39), sl39⟩) (c39 : PySem.W.codeIn K cd39 "_law_grown" = true) (k39 : PySem.W.keepIn K (.ref f39) = true)
    (a40 : PySem.W.nsIn K mainGlobals "law" = some (some (.ref f40))) (l40 : K.lookup f40 = some ⟨oc40, od40, .func (PySem.W.fnOf "law" "law" (defArgs aHB) (defBody aHB) (defScope aHB) .none kV40 dc40 pm40 an40 cd40 ct40), sl40⟩) (c40 : PySem.W.codeIn K cd40 "law" = true) (k40 : PySem.W.keepIn K (.ref f40) = true)
    (z_abs : PySem.W.nsIn K mainGlobals "abs" = some none)
    (z_len : PySem.W.nsIn K mainGlobals "len" = some none)
    (z_tuple : PySem.W.nsIn K mainGlobals "tuple" = some none)
    (z_range : PySem.W.nsIn K mainGlobals "range" = some none)
    (z_list : PySem.W.nsIn K mainGlobals "list" = some none)
    (z_divmod : PySem.W.nsIn K mainGlobals "divmod" = some none)
    (z_any : PySem.W.nsIn K mainGlobals "any" = some none)
    (z_enumerate : PySem.W.nsIn K mainGlobals "enumerate" = some none)
    (z_int : PySem.W.nsIn K mainGlobals "int" = some none)
    (z_isinstance : PySem.W.nsIn K mainGlobals "isinstance" = some none)
    (z_bool : PySem.W.nsIn K mainGlobals "bool" = some none)
    (z_ValueError : PySem.W.nsIn K mainGlobals "ValueError" = some none)
    (z_max : PySem.W.nsIn K mainGlobals "max" = some none)
    (z_all : PySem.W.nsIn K mainGlobals "all" = some none)
    {g_PRIME_BITS : Addr} {go_PRIME_BITS : Option Addr} {gi_PRIME_BITS : Array Value} {gn_PRIME_BITS : Nat} {gs_PRIME_BITS : Array (Option Value)}
    (ga_PRIME_BITS : PySem.W.nsIn K mainGlobals "PRIME_BITS" = some (some (.ref g_PRIME_BITS))) (gl_PRIME_BITS : K.lookup g_PRIME_BITS = some ⟨.type "tuple", go_PRIME_BITS, .seq gi_PRIME_BITS gn_PRIME_BITS, gs_PRIME_BITS⟩) (gz_PRIME_BITS : gi_PRIME_BITS.size <= sizeLine) (gv_PRIME_BITS : Vals (([61, 127, 521, 1279, 4423] : List Int).map V.int) gi_PRIME_BITS.toList)
    {cl_NoRow cl_StackError : Addr}
    (e_NoRow : PySem.W.nsIn K mainGlobals "NoRow" = some (some (.ref cl_NoRow))) (q_NoRow : PySem.W.excIn K cl_NoRow vB vN = true)
    (e_StackError : PySem.W.nsIn K mainGlobals "StackError" = some (some (.ref cl_StackError))) (q_StackError : PySem.W.excIn K cl_StackError vB vN = true)
    (r_NoRow_StackError : PySem.W.mroIn K cl_NoRow (.ref cl_StackError) = some true)
    {cl_NoNumber cl_NoEnds cl_NoPlace cl_NoText cl_NoKind cl_NoHeight cl_NoLine : Addr}
    (e_NoNumber : PySem.W.nsIn K mainGlobals "NoNumber" = some (some (.ref cl_NoNumber)))
    (e_NoEnds : PySem.W.nsIn K mainGlobals "NoEnds" = some (some (.ref cl_NoEnds)))
    (e_NoPlace : PySem.W.nsIn K mainGlobals "NoPlace" = some (some (.ref cl_NoPlace)))
    (e_NoText : PySem.W.nsIn K mainGlobals "NoText" = some (some (.ref cl_NoText)))
    (e_NoKind : PySem.W.nsIn K mainGlobals "NoKind" = some (some (.ref cl_NoKind)))
    (e_NoHeight : PySem.W.nsIn K mainGlobals "NoHeight" = some (some (.ref cl_NoHeight)))
    (e_NoLine : PySem.W.nsIn K mainGlobals "NoLine" = some (some (.ref cl_NoLine)))
    (t_NoNumber : PySem.W.kitOne K (.ref cl_NoRow) (.ref cl_NoNumber) = some false)
    (t_NoRow : PySem.W.kitOne K (.ref cl_NoRow) (.ref cl_NoRow) = some true)
    (t_NoEnds : PySem.W.kitOne K (.ref cl_NoRow) (.ref cl_NoEnds) = some false)
    (t_NoPlace : PySem.W.kitOne K (.ref cl_NoRow) (.ref cl_NoPlace) = some false)
    (t_NoText : PySem.W.kitOne K (.ref cl_NoRow) (.ref cl_NoText) = some false)
    (t_NoKind : PySem.W.kitOne K (.ref cl_NoRow) (.ref cl_NoKind) = some false)
    (t_NoHeight : PySem.W.kitOne K (.ref cl_NoRow) (.ref cl_NoHeight) = some false)
    (t_NoLine : PySem.W.kitOne K (.ref cl_NoRow) (.ref cl_NoLine) = some false)
    (t_StackError : PySem.W.kitOne K (.ref cl_NoRow) (.ref cl_StackError) = some true)
    (t_ValueError : PySem.W.kitOne K (.ref cl_NoRow) (.type "ValueError") = some true)
    (x1 : PySem.W.findIn K (.ref cl_NoRow) "__getattribute__" = some (some (.builtin "BaseException.__getattribute__"))) (x2 : PySem.W.findIn K (.ref cl_NoRow) "__getattr__" = some none) (x3 : PySem.W.findIn K (.ref cl_NoRow) "__class__" = some (some (.builtin "object.__class__"))) (x4 : PySem.W.mroIn K cl_NoRow (.type "object") = some true) (x5 : PySem.W.mroIn K cl_NoRow (.type "BaseException") = some true)
    : ∃ fd : FuncData, (∀ (s : Shared) (v : Value), BindsTo s fd ⟨[v], []⟩ [("_law_script", v)]) /\ ∀ base : Heap, K.In base -> base.Ns mainGlobals mg -> FnOk l.prog w K mg base CX0 9 fa fd ["_law_script"] (spC K aPA) := by
  have e := hfa.symm.trans (PySem.W.mg_of X G a40)
  cases e
  have m_abs := PySem.W.mg_none_of X G z_abs
  have m_len := PySem.W.mg_none_of X G z_len
  have m_tuple := PySem.W.mg_none_of X G z_tuple
  have m_range := PySem.W.mg_none_of X G z_range
  have m_list := PySem.W.mg_none_of X G z_list
  have m_divmod := PySem.W.mg_none_of X G z_divmod
  have m_any := PySem.W.mg_none_of X G z_any
  have m_enumerate := PySem.W.mg_none_of X G z_enumerate
  have m_int := PySem.W.mg_none_of X G z_int
  have m_isinstance := PySem.W.mg_none_of X G z_isinstance
  have m_bool := PySem.W.mg_none_of X G z_bool
  have m_ValueError := PySem.W.mg_none_of X G z_ValueError
  have m_max := PySem.W.mg_none_of X G z_max
  have m_all := PySem.W.mg_none_of X G z_all
  have F1 := yX (st := wD) l1 c1 k1
  have m1 := PySem.W.mg_of X G a1
  have bd1 := F1.binds (ps := ["number"]) fun _ _ _ _ _ _ us hl => bind1 hl fun _ => rfl
  have F2 := yX (st := zD) l2 c2 k2
  have m2 := PySem.W.mg_of X G a2
  have bd2 := F2.binds (ps := ["a", "b"]) fun _ _ _ _ _ _ us hl => bind2 hl fun _ _ => rfl
  have F3 := yX (st := zO) l3 c3 k3
  have m3 := PySem.W.mg_of X G a3
  have bd3 := F3.binds (ps := ["parts", "nought"]) fun _ _ _ _ _ _ us hl => bind2 hl fun _ _ => rfl
  have F4 := yX (st := aAN) l4 c4 k4
  have m4 := PySem.W.mg_of X G a4
  have bd4 := F4.binds (ps := ["numbers"]) fun _ _ _ _ _ _ us hl => bind1 hl fun _ => rfl
  have F5 := yX (st := qK) l5 c5 k5
  have m5 := PySem.W.mg_of X G a5
  have bd5 := F5.binds (ps := ["f"]) fun _ _ _ _ _ _ us hl => bind1 hl fun _ => rfl
  have F6 := yX (st := aAD) l6 c6 k6
  have m6 := PySem.W.mg_of X G a6
  have bd6 := F6.binds (ps := ["f"]) fun _ _ _ _ _ _ us hl => bind1 hl fun _ => rfl
  have F7 := yX (st := vP) l7 c7 k7
  have m7 := PySem.W.mg_of X G a7
  have bd7 := F7.binds (ps := ["f"]) fun _ _ _ _ _ _ us hl => bind1 hl fun _ => rfl
  have F8 := yX (st := jQ) l8 c8 k8
  have m8 := PySem.W.mg_of X G a8
  have bd8 := F8.binds (ps := ["f"]) fun _ _ _ _ _ _ us hl => bind1 hl fun _ => rfl
  have F9 := yX (st := yP) l9 c9 k9
  have m9 := PySem.W.mg_of X G a9
  have bd9 := F9.binds (ps := ["f", "g"]) fun _ _ _ _ _ _ us hl => bind2 hl fun _ _ => rfl
  have F10 := yX (st := jF) l10 c10 k10
  have m10 := PySem.W.mg_of X G a10
  have bd10 := F10.binds (ps := ["number", "prime"]) fun _ _ _ _ _ _ us hl => bind2 hl fun _ _ => rfl
  have F11 := yX (st := jE) l11 c11 k11
  have m11 := PySem.W.mg_of X G a11
  have bd11 := F11.binds (ps := ["numbers", "prime"]) fun _ _ _ _ _ _ us hl => bind2 hl fun _ _ => rfl
  have F12 := yX (st := zF) l12 c12 k12
  have m12 := PySem.W.mg_of X G a12
  have bd12 := F12.binds (ps := ["f", "g", "prime"]) fun _ _ _ _ _ _ us hl => bind3 hl fun _ _ _ => rfl
  have F13 := yX (st := zW) l13 c13 k13
  have m13 := PySem.W.mg_of X G a13
  have bd13 := F13.binds (ps := ["f", "g", "prime"]) fun _ _ _ _ _ _ us hl => bind3 hl fun _ _ _ => rfl
  have F14 := yX (st := aAO) l14 c14 k14
  have m14 := PySem.W.mg_of X G a14
  have bd14 := F14.binds (ps := ["numbers", "last", "prime"]) fun _ _ _ _ _ _ us hl => bind3 hl fun _ _ _ => rfl
  have F15 := yX (st := jD) l15 c15 k15
  have m15 := PySem.W.mg_of X G a15
  have bd15 := F15.binds (ps := ["f", "g", "prime"]) fun _ _ _ _ _ _ us hl => bind3 hl fun _ _ _ => rfl
  have F16 := yX (st := zB) l16 c16 k16
  have m16 := PySem.W.mg_of X G a16
  have bd16 := F16.binds (ps := ["f", "g"]) fun _ _ _ _ _ _ us hl => bind2 hl fun _ _ => rfl
  have F17 := yX (st := jB) l17 c17 k17
  have m17 := PySem.W.mg_of X G a17
  have bd17 := F17.binds (ps := ["rest", "g"]) fun _ _ _ _ _ _ us hl => bind2 hl fun _ _ => rfl
  have F18 := yX (st := qU) l18 c18 k18
  have m18 := PySem.W.mg_of X G a18
  have bd18 := F18.binds (ps := ["f", "g"]) fun _ _ _ _ _ _ us hl => bind2 hl fun _ _ => rfl
  have F19 := yX (st := jZ) l19 c19 k19
  have m19 := PySem.W.mg_of X G a19
  have bd19 := F19.binds (ps := ["f", "g"]) fun _ _ _ _ _ _ us hl => bind2 hl fun _ _ => rfl
  have F20 := yX (st := zE) l20 c20 k20
  have m20 := PySem.W.mg_of X G a20
  have bd20 := F20.binds (ps := ["f", "g"]) fun _ _ _ _ _ _ us hl => bind2 hl fun _ _ => rfl
  have F21 := yX (st := jC) l21 c21 k21
  have m21 := PySem.W.mg_of X G a21
  have bd21 := F21.binds (ps := ["f", "g"]) fun _ _ _ _ _ _ us hl => bind2 hl fun _ _ => rfl
  have F22 := yX (st := jI) l22 c22 k22
  have m22 := PySem.W.mg_of X G a22
  have bd22 := F22.binds (ps := ["f"]) fun _ _ _ _ _ _ us hl => bind1 hl fun _ => rfl
  have F23 := yX (st := jG) l23 c23 k23
  have m23 := PySem.W.mg_of X G a23
  have bd23 := F23.binds (ps := ["_law_script", "_law_k"]) fun _ _ _ _ _ _ us hl => bind2 hl fun _ _ => rfl
  have F24 := yX (st := yZ) l24 c24 k24
  have m24 := PySem.W.mg_of X G a24
  have bd24 := F24.binds (ps := ["_law_cell_here", "_law_many"]) fun _ _ _ _ _ _ us hl => bind2 hl fun _ _ => rfl
  have F25 := yX (st := zQ) l25 c25 k25
  have m25 := PySem.W.mg_of X G a25
  have bd25 := F25.binds (ps := ["_law_found"]) fun _ _ _ _ _ _ us hl => bind1 hl fun _ => rfl
  have F26 := yX (st := qH) l26 c26 k26
  have m26 := PySem.W.mg_of X G a26
  have bd26 := F26.binds (ps := ["_law_e", "_law_at"]) fun _ _ _ _ _ _ us hl => bind2 hl fun _ _ => rfl
  have F27 := yX (st := qG) l27 c27 k27
  have m27 := PySem.W.mg_of X G a27
  have bd27 := F27.binds (ps := ["_law_parts"]) fun _ _ _ _ _ _ us hl => bind1 hl fun _ => rfl
  have F28 := yX (st := qB) l28 c28 k28
  have m28 := PySem.W.mg_of X G a28
  have bd28 := F28.binds (ps := ["_law_one", "_law_other"]) fun _ _ _ _ _ _ us hl => bind2 hl fun _ _ => rfl
  have F29 := yX (st := zX) l29 c29 k29
  have m29 := PySem.W.mg_of X G a29
  have bd29 := F29.binds (ps := ["_law_xs", "_law_most"]) fun _ _ _ _ _ _ us hl => bind2 hl fun _ _ => rfl
  have F30 := yX (st := zS) l30 c30 k30
  have m30 := PySem.W.mg_of X G a30
  have bd30 := F30.binds (ps := ["_law_xs"]) fun _ _ _ _ _ _ us hl => bind1 hl fun _ => rfl
  have F31 := yX (st := vJ) l31 c31 k31
  have m31 := PySem.W.mg_of X G a31
  have bd31 := F31.binds (ps := ["_law_cell_here", "_law_most"]) fun _ _ _ _ _ _ us hl => bind2 hl fun _ _ => rfl
  have F32 := yX (st := qI) l32 c32 k32
  have m32 := PySem.W.mg_of X G a32
  have bd32 := F32.binds (ps := ["_law_f", "_law_g"]) fun _ _ _ _ _ _ us hl => bind2 hl fun _ _ => rfl
  have F33 := yX (st := zG) l33 c33 k33
  have m33 := PySem.W.mg_of X G a33
  have bd33 := F33.binds (ps := ["_law_row_here"]) fun _ _ _ _ _ _ us hl => bind1 hl fun _ => rfl
  have F34 := yX (st := qD) l34 c34 k34
  have m34 := PySem.W.mg_of X G a34
  have bd34 := F34.binds (ps := ["_law_row_here"]) fun _ _ _ _ _ _ us hl => bind1 hl fun _ => rfl
  have F35 := yX (st := qL) l35 c35 k35
  have m35 := PySem.W.mg_of X G a35
  have bd35 := F35.binds (ps := ["_law_f", "_law_g"]) fun _ _ _ _ _ _ us hl => bind2 hl fun _ _ => rfl
  have F36 := yX (st := zR) l36 c36 k36
  have m36 := PySem.W.mg_of X G a36
  have bd36 := F36.binds (ps := ["_law_found", "_law_due"]) fun _ _ _ _ _ _ us hl => bind2 hl fun _ _ => rfl
  have F37 := yX (st := yV) l37 c37 k37
  have m37 := PySem.W.mg_of X G a37
  have bd37 := F37.binds (ps := ["_law_f", "_law_g"]) fun _ _ _ _ _ _ us hl => bind2 hl fun _ _ => rfl
  have F38 := yX (st := qJ) l38 c38 k38
  have m38 := PySem.W.mg_of X G a38
  have bd38 := F38.binds (ps := ["_law_row_here"]) fun _ _ _ _ _ _ us hl => bind1 hl fun _ => rfl
  have F39 := yX (st := zT) l39 c39 k39
  have m39 := PySem.W.mg_of X G a39
  have bd39 := F39.binds (ps := ["_law_xs"]) fun _ _ _ _ _ _ us hl => bind1 hl fun _ => rfl
  have F40 := yX (st := aHB) l40 c40 k40
  have m40 := PySem.W.mg_of X G a40
  refine ⟨PySem.W.fnOf "law" "law" (defArgs aHB) (defBody aHB) (defScope aHB) .none kV40 dc40 pm40 an40 cd40 ct40, fun s v => .of_eq rfl, fun base KB _ => ?_⟩
  have O_NoRow : OwnCls "NoRow" cl_NoRow vB vN mg base := aTM KB (PySem.W.mg_of X G e_NoRow) q_NoRow
  have O_StackError : OwnCls "StackError" cl_StackError vB vN mg base := aTM KB (PySem.W.mg_of X G e_StackError) q_StackError
  have ok1 : FnOk l.prog w K mg base CX0 1 _ _ _ (spC K aDL) := qR ht F1 aQY aNZ fun XX hX => aVU hX
  have ok2 : FnOk l.prog w K mg base CX0 1 _ _ _ (spC K qA) := qR ht F2 aDT aDC fun XX hX => aES hX m_abs
  have ok3 : FnOk l.prog w K mg base CX0 1 _ _ _ (spC K vT) := qR ht F3 aGY aGE fun XX hX => aKO hX m_len m_tuple
  have ok4 : FnOk l.prog w K mg base CX0 2 _ _ _ (spC K aAY) := qR ht F4 aSO aRI fun XX hX => aXK hX  (hX.callee ok3 (by decide) m3 k3 bd3)
  have ok5 : FnOk l.prog w K mg base CX0 1 _ _ _ (spC K wY) := qR ht F5 aIT aHF fun XX hX => aNE hX m_tuple
  have ok6 : FnOk l.prog w K mg base CX0 1 _ _ _ (spC K aKR) := qR ht F6 aWJ aUF fun XX hX => eAT hX m_tuple m_range m_len
  have ok7 : FnOk l.prog w K mg base CX0 2 _ _ _ (spC K aAL) := qR ht F7 aQZ aOB fun XX hX => aVW hX m_tuple (hX.callee ok2 (by decide) m2 k2 bd2)
  have ok8 : FnOk l.prog w K mg base CX0 3 _ _ _ (spC K jT) := qR ht F8 aLH aJU fun XX hX => aOS hX  (hX.callee ok7 (by decide) m7 k7 bd7) (hX.callee ok5 (by decide) m5 k5 bd5)
  have ok9 : FnOk l.prog w K mg base CX0 3 _ _ _ (spC K zM) := qR ht F9 aDS aDB fun XX hX => aER hX m_list m_len m_divmod m_range m_any (hX.callee ok4 (by decide) m4 k4 bd4)
  have ok10 : FnOk l.prog w K mg base CX0 1 _ _ _ (spC K aAA) := qR ht F10 aIV aHH fun XX hX => aNG hX
  have ok11 : FnOk l.prog w K mg base CX0 2 _ _ _ (spC K wZ) := qR ht F11 aIU aHG fun XX hX => aNF hX  (hX.callee ok10 (by decide) m10 k10 bd10)
  have ok12 : FnOk l.prog w K mg base CX0 3 _ _ _ (spC K vU) := qR ht F12 aGZ aGF fun XX hX => aKP hX m_list m_len m_range (hX.callee ok4 (by decide) m4 k4 bd4)
  have ok13 : FnOk l.prog w K mg base CX0 4 _ _ _ (spC K vD) := qR ht F13 aEK aDW fun XX hX => aGU hX  (hX.callee ok11 (by decide) m11 k11 bd11) (hX.callee ok12 (by decide) m12 k12 bd12)
  have ok14 : FnOk l.prog w K mg base CX0 4 _ _ _ (spC K aFA) := qR ht F14 aSP aRJ fun XX hX => aXL hX  (hX.callee ok8 (by decide) m8 k8 bd8) (hX.callee ok4 (by decide) m4 k4 bd4)
  have ok15 : FnOk l.prog w K mg base CX0 5 _ _ _ (spC K aAX) := qR ht F15 aLG aJT fun XX hX => aOR hX m_len (hX.callee ok13 (by decide) m13 k13 bd13) (hX.callee ok14 (by decide) m14 k14 bd14) (hX.callee ok2 (by decide) m2 k2 bd2) (hX.callee ok9 (by decide) m9 k9 bd9)
  have ok16 : FnOk l.prog w K mg base CX0 6 _ _ _ (spC K qZ) := qR ht F16 aCC aBX fun XX hX => aDJ hX  (hX.callee ok15 (by decide) m15 k15 bd15) ⟨g_PRIME_BITS, PySem.W.mg_of X G ga_PRIME_BITS, _, gi_PRIME_BITS, gn_PRIME_BITS, gl_PRIME_BITS, rfl, rfl, gz_PRIME_BITS, gv_PRIME_BITS⟩
  have ok17 : FnOk l.prog w K mg base CX0 2 _ _ _ (spC K aAW) := qR ht F17 aLF aJS fun XX hX => aOQ hX m_abs (hX.callee ok2 (by decide) m2 k2 bd2) (hX.callee ok1 (by decide) m1 k1 bd1)
  have ok18 : FnOk l.prog w K mg base CX0 3 _ _ _ (spC K aDN) := qR ht F18 aHU aOC fun XX hX => aVX hX m_list m_len m_enumerate (hX.callee ok17 (by decide) m17 k17 bd17) (hX.callee ok4 (by decide) m4 k4 bd4)
  have okx18 : FnOk l.prog w K mg base (CXW l.prog w) 3 _ _ _ (spX K cl_NoRow aDK) := aUP ht F18 aHU aME fun X hX => aRS hX O_NoRow
  have ok19 : FnOk l.prog w K mg base CX0 4 _ _ _ (spC K aDM) := qR ht F19 aHT aOA fun XX hX => aVV hX  (hX.callee ok7 (by decide) m7 k7 bd7) (hX.callee ok18 (by decide) m18 k18 bd18)
  have okx19 : FnOk l.prog w K mg base (CXW l.prog w) 4 _ _ _ (spX K cl_NoRow aGX) := aUP ht F19 aHT aMD fun X hX => aRR hX (hX.callee ok7 (by decide) m7 k7 bd7) (hX.calleeX okx18 (by decide) m18 k18 bd18)
  have ok20 : FnOk l.prog w K mg base CX0 5 _ _ _ (spC K jJ) := qR ht F20 aCR aCF fun XX hX => aEF hX  (hX.callee ok8 (by decide) m8 k8 bd8) (hX.callee ok19 (by decide) m19 k19 bd19)
  have ok21 : FnOk l.prog w K mg base CX0 7 _ _ _ (spC K wX) := qR ht F21 aIS aHE fun XX hX => aND hX  (hX.callee ok16 (by decide) m16 k16 bd16) (hX.callee ok8 (by decide) m8 k8 bd8) (hX.callee ok20 (by decide) m20 k20 bd20)
  have ok22 : FnOk l.prog w K mg base CX0 8 _ _ _ (spC K aBU) := qR ht F22 aFN aMF fun XX hX => aRT hX  (hX.callee ok8 (by decide) m8 k8 bd8) (hX.callee ok9 (by decide) m9 k9 bd9) (hX.callee ok21 (by decide) m21 k21 bd21) (hX.callee ok6 (by decide) m6 k6 bd6)
  have okx22 : FnOk l.prog w K mg base (CXW l.prog w) 8 _ _ _ (spX K cl_NoRow aBT) := aUP ht F22 aFN aJR fun X hX => aOP hX O_NoRow
  have ok23 : FnOk l.prog w K mg base CX0 1 _ _ _ (spC K aBB) := qR ht F23 aLL aJY fun XX hX => aOW hX m_len
  have ok24 : FnOk l.prog w K mg base CX0 1 _ _ _ (spC K jP) := qR ht F24 aFQ aEP fun XX hX => aHP hX m_range m_abs m_int
  have ok25 : FnOk l.prog w K mg base CX0 1 _ _ _ (spC K aAB) := qR ht F25 aIW aHI fun XX hX => aNH hX m_isinstance m_int m_bool
  have ok26 : FnOkH l.prog w K mg base 1 _ _ _ (spC K (aAZ cl_NoRow 1)) := eDG ht F26 aLJ aJW fun XX hX => aOU hX m_isinstance m_ValueError m_range  ⟨x1, x2, x3, x4, x5⟩ (PySem.W.mg_of X G e_NoNumber) (PySem.W.mg_of X G e_NoRow) (PySem.W.mg_of X G e_NoEnds) (PySem.W.mg_of X G e_NoPlace) (PySem.W.mg_of X G e_NoText) (PySem.W.mg_of X G e_NoKind) (PySem.W.mg_of X G e_NoHeight) (PySem.W.mg_of X G e_NoLine) (PySem.W.mg_of X G e_StackError) t_NoNumber t_NoRow t_NoEnds t_NoPlace t_NoText t_NoKind t_NoHeight t_NoLine t_StackError t_ValueError
  have ok27 : FnOk l.prog w K mg base CX0 1 _ _ _ (spC K jU) := qR ht F27 aLI aJV fun XX hX => aOT hX m_list m_tuple m_len
  have ok28 : FnOk l.prog w K mg base CX0 2 _ _ _ (spC K jV) := qR ht F28 aIX aHJ fun XX hX => aNI hX m_range m_len (hX.callee ok27 (by decide) m27 k27 bd27)
  have ok29 : FnOk l.prog w K mg base CX0 2 _ _ _ (spC K vF) := qR ht F29 aEM aDY fun XX hX => aGW hX  (hX.callee ok27 (by decide) m27 k27 bd27)
  have ok30 : FnOk l.prog w K mg base CX0 3 _ _ _ (spC K vM) := qR ht F30 aFP aEO fun XX hX => aHO hX m_range (hX.callee ok28 (by decide) m28 k28 bd28)
  have ok31 : FnOk l.prog w K mg base CX0 4 _ _ _ (spC K aBV) := qR ht F31 aNQ aMG fun XX hX => aRU hX  (hX.callee ok24 (by decide) m24 k24 bd24) (hX.callee ok29 (by decide) m29 k29 bd29) (hX.callee ok30 (by decide) m30 k30 bd30) (hX.callee ok28 (by decide) m28 k28 bd28)
  have ok32 : FnOk l.prog w K mg base CX0 2 _ _ _ (spC K aBA) := qR ht F32 aLK aJX fun XX hX => aOV hX m_list m_len m_range (hX.callee ok27 (by decide) m27 k27 bd27)
  have ok33 : FnOk l.prog w K mg base CX0 1 _ _ _ (spC K jO) := qR ht F33 aFO aEN fun XX hX => aHN hX m_tuple m_abs m_max
  have ok34 : FnOk l.prog w K mg base CX0 2 _ _ _ (spC K jW) := qR ht F34 aIZ aHL fun XX hX => aNK hX m_tuple m_len (hX.callee ok33 (by decide) m33 k33 bd33)
  have ok35 : FnOk l.prog w K mg base CX0 3 _ _ _ (spC K vV) := qR ht F35 aHA aGG fun XX hX => aKQ hX  (hX.callee ok34 (by decide) m34 k34 bd34) (hX.callee ok33 (by decide) m33 k33 bd33) (hX.callee ok32 (by decide) m32 k32 bd32)
  have ok36 : FnOk l.prog w K mg base CX0 2 _ _ _ (spC K aAC) := qR ht F36 aIY aHK fun XX hX => aNJ hX m_isinstance m_tuple m_all (hX.callee ok25 (by decide) m25 k25 bd25)
  have ok37 : FnOk l.prog w K mg base CX0 2 _ _ _ (spC K vE) := qR ht F37 aEL aDX fun XX hX => aGV hX m_list m_len m_range (hX.callee ok27 (by decide) m27 k27 bd27)
  have ok38 : FnOk l.prog w K mg base CX0 4 _ _ _ (spC K aBC) := qR ht F38 aLM aJZ fun XX hX => aOX hX m_tuple m_range m_len (hX.callee ok35 (by decide) m35 k35 bd35) (hX.callee ok34 (by decide) m34 k34 bd34) (hX.callee ok37 (by decide) m37 k37 bd37)
  have ok39 : FnOk l.prog w K mg base CX0 3 _ _ _ (spC K vQ) := qR ht F39 aJA aHM fun XX hX => aNL hX m_range m_len m_tuple (hX.callee ok34 (by decide) m34 k34 bd34) (hX.callee ok28 (by decide) m28 k28 bd28)
  have ok40 : FnOk l.prog w K mg base CX0 9 _ _ _ (spC K aPA) := qR ht F40 eBK aZZ fun XX hX => eED hX  (hX.callee ok31 (by decide) m31 k31 bd31) (hX.callee ok39 (by decide) m39 k39 bd39) (hX.callee ok22 (by decide) m22 k22 bd22) (hX.callee ok23 (by decide) m23 k23 bd23) (hX.callee ok36 (by decide) m36 k36 bd36) (hX.callee ok24 (by decide) m24 k24 bd24) (hX.calleeH ok26 (by decide) m26 k26 bd26) (hX.callee ok38 (by decide) m38 k38 bd38) (hX.calleeX okx22 (by decide) m22 k22 bd22) O_StackError r_NoRow_StackError
  exact ok40
theorem walk {l : PySem.W.OpenLaw} {q : Program} {loose : List Str} {XP : (Str -> Option Value) -> Heap -> Prop} {YP : World -> Heap -> Prop} {d : DefRec} {K : Params -> PySem.W.Frag} (hq : importsNone q = true) (hn : l.most = some 63) (hdf : d.params.defaults = [])
    (hY : ∀ (w : World) (h : Heap), YP w h -> (K w.params).In h)
    (F : ∀ (w : World) (mg : Str -> Option Value) (fa : Addr) (h : Heap), (K w.params).In h -> h.Ns mainGlobals mg -> mg d.name = some (.ref fa) ->
      ∃ fd : FuncData, (∀ (s : Shared) (u : Value), BindsTo s fd ⟨[u], []⟩ [("_law_script", u)]) /\ ∀ base : Heap, (K w.params).In base -> base.Ns mainGlobals mg -> FnOk l.prog w (K w.params) mg base CX0 9 fa fd ["_law_script"] (spC (K w.params) aPA)) :
    PySem.W.WalkO q loose XP YP l.row.toRowW d [] (fun f vs => PySem.call f vs) :=
  L2.walk_of (n := 63) (k := 9) (x := "_law_script") (CX := fun _ => CX0) (sp := fun w => spC (K w.params) aPA) hq hn (by decide) hdf ⟨rfl, by decide, by decide⟩ hY F (fun _ H a ns hl hO hS => ⟨H, [.scr ns], .bl true, .refl _, .cons (.scr hS) .nil, aWZ ns hl, fun v F' H' x r => by cases r; rfl⟩) fun _ _ _ _ _ z => z
end My
namespace PySem.W.Fast
def tw8989813165753394277 := ()
def tw18275909331180120158 := ()
def tw15750678173249036465 := ()
def tw15097568462610342396 := ()
def tw9010019037332617497 := ()
def tw409720786455369325 := ()
def tw2168061546108482245 := ()
def tw655935255573502565 := ()
def tw9110756842070235955 := ()
def tw11988185230865573389 := ()
def tw10006185033312190891 := ()
def tw2469373714517493151 := ()
def tw12690017176025147593 := ()
def tw4358811960148259529 := ()
def tw7765631760463292878 := ()
def tw4233032918304573489 := ()
def tw12716189852536479903 := ()
def tw13263887425907511721 := ()
def tw2527975474358908683 := ()
def tw4329364538653612829 := ()
def tw10119964780008953123 := ()
def tw3161017977353314621 := ()
def tw5023663213899447814 := ()
def tw13337779810390267296 := ()
def tw15764610083955420253 := ()
def tw2212743682174237196 := ()
def tw3300663740632313150 := ()
def tw10697474438019337830 := ()
def tw16024411711673159307 := ()
def tw2945297348527406583 := ()
def tw6496258138892757034 := ()
def tw15303625265653701627 := ()
def tw4041921634701195645 := ()
def tw7912480436964496281 := ()
def tw6466165702716037705 := ()
def tw16901356800856414747 := ()
def tw11593668705204029471 := ()
def tw8888362342296897806 := ()
def tw8605172048613367837 := ()
def tw14699552794814595754 := ()
def tw12645213235904287752 := ()
def tw10267738006958655505 := ()
def tw4295636532658448445 := ()
def tw15485537710273134179 := ()
def tw8959742704422162837 := ()
def tw8261801187351095857 := ()
def tw10814592754237109106 := ()
def tw2823062476900357508 := ()
def tw4499987132861455532 := ()
def tw4616259998242453608 := ()
theorem te6410617582203345032 : True := trivial
def tw7880218206494547148 := ()
def tw8933473274466741526 := ()
def tw8805010054649897469 := ()
def tw13082085980343622245 := ()
def tw12102968470691607920 := ()
def tw18225223716426243563 := ()
def tw9342095305697452916 := ()
def tw2366909253182303919 := ()
def tw3158161690151540603 := ()
def tw13751054061599811865 := ()
def tw14054146257034823211 := ()
def tw9648856973883501332 := ()
def tw15796218062653216273 := ()
def tw6996656111791176451 := ()
def tw12789834564924797620 := ()
def tw8247532084756604294 := ()
def tw13023588984769246844 := ()
def tw3448005248342754181 := ()
def tw2295232143102595964 := ()
def tw1117859541792645542 := ()
def tw5467090881550465276 := ()
def tw2407947797305904734 := ()
def tw6358537829925471288 := ()
def tw16434009029708657472 := ()
def tw3596225949227608941 := ()
def tw17194469369837022213 := ()
def tw225067673273817037 := ()
def tw14883496612217966289 := ()
def tw5170530225253565998 := ()
def tw7794985350891786305 := ()
def tw13526534700903650092 := ()
def tw12449980079247772343 := ()
def tw2980841186694769903 := ()
def tw2090476797005023680 := ()
def tw6493776676455205845 := ()
def tw2950427269786347317 := ()
def tw8441573798157884344 := ()
def tw17676829556601803060 := ()
def tw7276613739607896517 := ()
def tw3203921958132770091 := ()
def tw1914732074087175141 := ()
def tw13716134610587803028 := ()
def tw7680000185458080936 := ()
def tw5858682832214182420 := ()
def tw3093639452929822854 := ()
def tw6745640218062780578 := ()
def tw8980401881344313314 := ()
def tw6557102014066945830 := ()
def tw1007772274440075234 := ()
def tw13989839533179734171 := ()
def tw7820403899762993580 := ()
def tw17926858047804259543 := ()
def tw8953518707409634250 := ()
def tw13707522520699831303 := ()
def tw16188136652524816070 := ()
def tw6618681173813237450 := ()
def tw15595151537456186374 := ()
def tw17809396921691149514 := ()
def tw12470360308174963691 := ()
def tw3584118353278193982 := ()
def tw8353799520951511403 := ()
def tw1370227849289993970 := ()
def tw15114370382988880061 := ()
def tw9208581407988007109 := ()
def tw16913160046041355865 := ()
def tw5966277087354010685 := ()
def tw13691022165264751467 := ()
def tw6556563055973155523 := ()
def tw11682308384426822075 := ()
def tw780642810346178346 := ()
def tw364964793731314864 := ()
def tw6184340955736575705 := ()
def tw16920818198450137333 := ()
def tw6217667285032364029 := ()
def tw13430686746664264861 := ()
def tw85791894602435799 := ()
def tw4079909024617313904 := ()
def tw4900225692055149635 := ()
def tw18397862352797230906 := ()
def tw322159151776137789 := ()
def tw8235018898824984826 := ()
def tw3423317403415563357 := ()
def tw12918664377909109359 := ()
def tw8945199082605662260 := ()
def tw398822284821682760 := ()
def tw164815117057850029 := ()
def tw17111170582436117497 := ()
def tw17252101420797328256 := ()
def tw423875259144406509 := ()
def tw14331925816558065004 := ()
def tw1705456752777354413 := ()
def tw15702912353322072190 := ()
def tw13660293686754641350 := ()
def tw11264479906016677640 := ()
def tw8768848857393471932 := ()
def tw8084834378063437922 := ()
def tw17154480856328932896 := ()
def tw11125149580721946971 := ()
def tw15439163120402133439 := ()
def tw2748416388686211381 := ()
def tw955568410487417943 := ()
def tw17966558417114232456 := ()
def tw16534031983027494174 := ()
def tw4557952605809552358 := ()
def tw1645940255762147544 := ()
def tw5411450151948359773 := ()
def tw15054137452065971464 := ()
def tw10568910183824685442 := ()
def tw1120838955960134636 := ()
def tw5523219730686765338 := ()
def tw10876126493132381652 := ()
def tw767827803713243324 := ()
def tw1109986031613605624 := ()
def tw9838848919537120938 := ()
def tw14730038193886587908 := ()
def tw15870303042568816277 := ()
def tw1230164286910856055 := ()
def tw9737168208969409781 := ()
def tw13849902374699284 := ()
def tw3202624740992363023 := ()
def tw15383894571171206385 := ()
def tw3230602705213859164 := ()
def tw1666595668763125684 := ()
def tw5640816675670801642 := ()
def tw15672075485374332223 := ()
def tw9100098887703380139 := ()
def tw11458703284171485370 := ()
def tw3210152160610948880 := ()
def tw2172502292783509318 := ()
def tw6578747150737951976 := ()
def tw6734822788338869245 := ()
def tw17606206323939143464 := ()
def tw3011087571818424631 := ()
def tw5370968839120760135 := ()
def tw1261982842398504150 := ()
def tw12709481860116889013 := ()
def tw11034451685707204082 := ()
def tw14704006274177376009 := ()
def tw8705309550081040889 := ()
def tw5318852559426177349 := ()
def tw5973406172172411941 := ()
def tw8159801849948020971 := ()
def tw13453823131903131185 := ()
def tw519727131512898351 := ()
def tw12071195024028936666 := ()
def tw12447739599369204990 := ()
def tw12539606856031261156 := ()
def tw6757256034982184866 := ()
def tw16943746051802795100 := ()
def tw10664835013003266158 := ()
def tw8258266193891478274 := ()
def tw9745682686466093117 := ()
def tw16242071298336493579 := ()
def tw15978652908580011750 := ()
def tw14358000851754253390 := ()
def tw14533593171445603684 := ()
def tw13523064953362566856 := ()
def tw12739814956403063247 := ()
def tw16998909151314745037 := ()
def tw2266923224249740616 := ()
def tw9064715006248503475 := ()
def tw5780997931365837839 := ()
def tw5816745917133208902 := ()
def tw3974250609304674792 := ()
def tw15069839594247505707 := ()
def tw9738529333470127544 := ()
def tw17365994482342909327 := ()
def tw17128089933828172148 := ()
def tw8081040435211351601 := ()
def tw6803147643495394550 := ()
def tw7474914550654858354 := ()
def tw17811748025061545400 := ()
def tw16907025385677054225 := ()
def tw1172415656124786453 := ()
def tw861609270718376066 := ()
def tw10444542903143663985 := ()
def tw12202008001513760100 := ()
def tw17133323397972355479 := ()
def tw4355933926046874844 := ()
def tw13702713632802659452 := ()
def tw3319632999399530416 := ()
def tw8917422010593265508 := ()
def tw15201198302029924138 := ()
def tw13392766375111680039 := ()
def tw11705964811052025027 := ()
def tw14174172009531766678 := ()
def tw16022215238025678261 := ()
def tw8034394285191016545 := ()
def tw7392976069170435366 := ()
def tw10231871888386757152 := ()
def tw13720357128053198001 := ()
def tw15476829963394430567 := ()
def tw4670129558638724068 := ()
def tw10170428344910714909 := ()
def tw14380998666590546542 := ()
def tw14083986303486125804 := ()
def tw6402714543377853284 := ()
def tw3488603472570177526 := ()
def tw15334654462979941169 := ()
def tw3824827907534062147 := ()
def tw7771115851482877211 := ()
def tw2417044101925396627 := ()
def tw17786309395137345275 := ()
def tw4375735523957349720 := ()
def tw1691928104459370419 := ()
def tw13001872739043250874 := ()
def tw16130361517564456357 := ()
def tw1787546217851890339 := ()
def tw5353925989358522525 := ()
def tw14643857023938446948 := ()
def tw11299293141786771393 := ()
def tw18414178715296524952 := ()
def tw2706324250822273477 := ()
def tw12109701534229992363 := ()
def tw5922834492232594998 := ()
def tw15536471542103531196 := ()
def tw13541554483161809215 := ()
def tw1697720215115129594 := ()
def tw432327723286508937 := ()
def tw8097954833528126650 := ()
def tw2351771153910386295 := ()
def tw1995199726631510860 := ()
def tw6231167249199487185 := ()
def tw2485482804058860833 := ()
def tw16262771625880011988 := ()
def tw14207627263998628289 := ()
def tw15825983223341077855 := ()
def tw9401900611439407347 := ()
def tw11476651300130458372 := ()
def tw4511370739342441248 := ()
def tw12718797020372319409 := ()
def tw5060984434761686209 := ()
def tw15582853623776813051 := ()
def tw17145844167868597947 := ()
def tw12754773770755191774 := ()
def tw11879237565096415301 := ()
def tw8376471542748648740 := ()
def tw12720210114232708955 := ()
def tw2194482332104510531 := ()
def tw12103272542974882407 := ()
def tw1002009673127044006 := ()
def tw13714535983610868092 := ()
def tw16545561767248997253 := ()
def tw8062938501219053213 := ()
def tw11200115485010772316 := ()
def tw416766983446893173 := ()
def tw18147015717968950156 := ()
def tw17493525728816132294 := ()
def tw7013129188658899933 := ()
def tw9462008626979480398 := ()
def tw15548774812181695894 := ()
def tw8107666671321276815 := ()
def tw6366957632656035906 := ()
def tw6049145773786401504 := ()
def tw16312960037951973548 := ()
def tw2485371337063062787 := ()
def tw7120533652295160640 := ()
def tw10369163629184942699 := ()
def tw10372215840532529207 := ()
def tw2736600024219336850 := ()
def tw10769646497500065648 := ()
def tw12687137136433246635 := ()
def tw4433536718725250595 := ()
def tw14903831690812387234 := ()
def tw6831545113938638461 := ()
def tw3791159884193910223 := ()
def tw6987601618323013064 := ()
def tw14677882303532536223 := ()
def tw17965831458478068765 := ()
def tw15937944948519917949 := ()
def tw16728191279508647198 := ()
def tw15792825840315674031 := ()
def tw1944971945404592975 := ()
def tw12863928797098100107 := ()
def tw8926421845823453498 := ()
def tw17345681055874568712 := ()
def tw7283213784727093797 := ()
def tw3472877109641194199 := ()
def tw8254962330699276703 := ()
def tw9073977276164764588 := ()
def tw14477038925501015540 := ()
def tw2698806810771978139 := ()
end PySem.W.Fast
open PySem PySem.W PyProof.Rows
set_option maxRecDepth 100000 in
set_option maxHeartbeats 0 in
theorem PySem.Challenge.cw_planestacks_k09_bare_rows_holds : PySem.Challenge.rw_planestacks_k09_bare_rows.Holds := by
  w_on; o_law; k_head; (case hw => w_witness2)
  k_fill
  refine My.walk (l := PySem.Challenge.rw_planestacks_k09_bare_rows) (by decide +kernel) rfl rfl (fun w h Y => PySem.W.kIn_of Y) ?F
  case F =>
    intro w mg fa h KX G hmg
    refine' My.all_mk rfl KX G hmg ?a1 ?l1 ?c1 ?k1 ?a2 ?l2 ?c2 ?k2 ?a3 ?l3 ?c3 ?k3 ?a4 ?l4 ?c4 ?k4 ?a5 ?l5 ?c5 ?k5 ?a6 ?l6 ?c6 ?k6 ?a7 ?l7 ?c7 ?k7 ?a8 ?l8 ?c8 ?k8 ?a9 ?l9 ?c9 ?k9 ?a10 ?l10 ?c10 ?k10 ?a11 ?l11 ?c11 ?k11 ?a12 ?l12 ?c12 ?k12 ?a13 ?l13 ?c13 ?k13 ?a14 ?l14 ?c14 ?k14 ?a15 ?l15 ?c15 ?k15 ?a16 ?l16 ?c16 ?k16 ?a17 ?l17 ?c17 ?k17 ?a18 ?l18 ?c18 ?k18 ?a19 ?l19 ?c19 ?k19 ?a20 ?l20 ?c20 ?k20 ?a21 ?l21 ?c21 ?k21 ?a22 ?l22 ?c22 ?k22 ?a23 ?l23 ?c23 ?k23 ?a24 ?l24 ?c24 ?k24 ?a25 ?l25 ?c25 ?k25 ?a26 ?l26 ?c26 ?k26 ?a27 ?l27 ?c27 ?k27 ?a28 ?l28 ?c28 ?k28 ?a29 ?l29 ?c29 ?k29 ?a30 ?l30 ?c30 ?k30 ?a31 ?l31 ?c31 ?k31 ?a32 ?l32 ?c32 ?k32 ?a33 ?l33 ?c33 ?k33 ?a34 ?l34 ?c34 ?k34 ?a35 ?l35 ?c35 ?k35 ?a36 ?l36 ?c36 ?k36 ?a37 ?l37 ?c37 ?k37 ?a38 ?l38 ?c38 ?k38 ?a39 ?l39 ?c39 ?k39 ?a40 ?l40 ?c40 ?k40 ?z_abs ?z_len ?z_tuple ?z_range ?z_list ?z_divmod ?z_any ?z_enumerate ?z_int ?z_isinstance ?z_bool ?z_ValueError ?z_max ?z_all ?ga_PRIME_BITS ?gl_PRIME_BITS ?gz_PRIME_BITS ?gv_PRIME_BITS ?e_NoRow ?q_NoRow ?e_StackError ?q_StackError ?r_NoRow_StackError ?e_NoNumber ?e_NoEnds ?e_NoPlace ?e_NoText ?e_NoKind ?e_NoHeight ?e_NoLine ?t_NoNumber ?t_NoRow ?t_NoEnds ?t_NoPlace ?t_NoText ?t_NoKind ?t_NoHeight ?t_NoLine ?t_StackError ?t_ValueError ?x1 ?x2 ?x3 ?x4 ?x5
    (case a1 => k_is)
    (case l1 => k_is)
    (case c1 => k_is)
    (case k1 => k_is)
    (case a2 => k_is)
    (case l2 => k_is)
    (case c2 => k_is)
    (case k2 => k_is)
    (case a3 => k_is)
    (case l3 => k_is)
    (case c3 => k_is)
    (case k3 => k_is)
    (case a4 => k_is)
    (case l4 => k_is)
    (case c4 => k_is)
    (case k4 => k_is)
    (case a5 => k_is)
    (case l5 => k_is)
    (case c5 => k_is)
    (case k5 => k_is)
    (case a6 => k_is)
    (case l6 => k_is)
    (case c6 => k_is)
    (case k6 => k_is)
    (case a7 => k_is)
    (case l7 => k_is)
    (case c7 => k_is)
    (case k7 => k_is)
    (case a8 => k_is)
    (case l8 => k_is)
    (case c8 => k_is)
    (case k8 => k_is)
    (case a9 => k_is)
    (case l9 => k_is)
    (case c9 => k_is)
    (case k9 => k_is)
    (case a10 => k_is)
    (case l10 => k_is)
    (case c10 => k_is)
    (case k10 => k_is)
    (case a11 => k_is)
    (case l11 => k_is)
    (case c11 => k_is)
    (case k11 => k_is)
    (case a12 => k_is)
    (case l12 => k_is)
    (case c12 => k_is)
    (case k12 => k_is)
    (case a13 => k_is)
    (case l13 => k_is)
    (case c13 => k_is)
    (case k13 => k_is)
    (case a14 => k_is)
    (case l14 => k_is)
    (case c14 => k_is)
    (case k14 => k_is)
    (case a15 => k_is)
    (case l15 => k_is)
    (case c15 => k_is)
    (case k15 => k_is)
    (case a16 => k_is)
    (case l16 => k_is)
    (case c16 => k_is)
    (case k16 => k_is)
    (case a17 => k_is)
    (case l17 => k_is)
    (case c17 => k_is)
    (case k17 => k_is)
    (case a18 => k_is)
    (case l18 => k_is)
    (case c18 => k_is)
    (case k18 => k_is)
    (case a19 => k_is)
    (case l19 => k_is)
    (case c19 => k_is)
    (case k19 => k_is)
    (case a20 => k_is)
    (case l20 => k_is)
    (case c20 => k_is)
    (case k20 => k_is)
    (case a21 => k_is)
    (case l21 => k_is)
    (case c21 => k_is)
    (case k21 => k_is)
    (case a22 => k_is)
    (case l22 => k_is)
    (case c22 => k_is)
    (case k22 => k_is)
    (case a23 => k_is)
    (case l23 => k_is)
    (case c23 => k_is)
    (case k23 => k_is)
    (case a24 => k_is)
    (case l24 => k_is)
    (case c24 => k_is)
    (case k24 => k_is)
    (case a25 => k_is)
    (case l25 => k_is)
    (case c25 => k_is)
    (case k25 => k_is)
    (case a26 => k_is)
    (case l26 => k_is)
    (case c26 => k_is)
    (case k26 => k_is)
    (case a27 => k_is)
    (case l27 => k_is)
    (case c27 => k_is)
    (case k27 => k_is)
    (case a28 => k_is)
    (case l28 => k_is)
    (case c28 => k_is)
    (case k28 => k_is)
    (case a29 => k_is)
    (case l29 => k_is)
    (case c29 => k_is)
    (case k29 => k_is)
    (case a30 => k_is)
    (case l30 => k_is)
    (case c30 => k_is)
    (case k30 => k_is)
    (case a31 => k_is)
    (case l31 => k_is)
    (case c31 => k_is)
    (case k31 => k_is)
    (case a32 => k_is)
    (case l32 => k_is)
    (case c32 => k_is)
    (case k32 => k_is)
    (case a33 => k_is)
    (case l33 => k_is)
    (case c33 => k_is)
    (case k33 => k_is)
    (case a34 => k_is)
    (case l34 => k_is)
    (case c34 => k_is)
    (case k34 => k_is)
    (case a35 => k_is)
    (case l35 => k_is)
    (case c35 => k_is)
    (case k35 => k_is)
    (case a36 => k_is)
    (case l36 => k_is)
    (case c36 => k_is)
    (case k36 => k_is)
    (case a37 => k_is)
    (case l37 => k_is)
    (case c37 => k_is)
    (case k37 => k_is)
    (case a38 => k_is)
    (case l38 => k_is)
    (case c38 => k_is)
    (case k38 => k_is)
    (case a39 => k_is)
    (case l39 => k_is)
    (case c39 => k_is)
    (case k39 => k_is)
    (case a40 => k_is)
    (case l40 => k_is)
    (case c40 => k_is)
    (case k40 => k_is)
    (case z_abs => k_is)
    (case z_len => k_is)
    (case z_tuple => k_is)
    (case z_range => k_is)
    (case z_list => k_is)
    (case z_divmod => k_is)
    (case z_any => k_is)
    (case z_enumerate => k_is)
    (case z_int => k_is)
    (case z_isinstance => k_is)
    (case z_bool => k_is)
    (case z_ValueError => k_is)
    (case z_max => k_is)
    (case z_all => k_is)
    (case ga_PRIME_BITS => k_is)
    (case gl_PRIME_BITS => k_is)
    (case gz_PRIME_BITS => exact Nat.le_of_ble_eq_true rfl)
    (case gv_PRIME_BITS => exact .cons ⟨_, rfl⟩ (.cons ⟨_, rfl⟩ (.cons ⟨_, rfl⟩ (.cons ⟨_, rfl⟩ (.cons ⟨_, rfl⟩ (.nil))))))
    (case e_NoRow => k_is)
    (case q_NoRow => k_exc)
    (case e_StackError => k_is)
    (case q_StackError => k_exc)
    (case r_NoRow_StackError => k_is)
    (case e_NoNumber => k_is)
    (case e_NoEnds => k_is)
    (case e_NoPlace => k_is)
    (case e_NoText => k_is)
    (case e_NoKind => k_is)
    (case e_NoHeight => k_is)
    (case e_NoLine => k_is)
    (case t_NoNumber => kit_is)
    (case t_NoRow => kit_is)
    (case t_NoEnds => kit_is)
    (case t_NoPlace => kit_is)
    (case t_NoText => kit_is)
    (case t_NoKind => kit_is)
    (case t_NoHeight => kit_is)
    (case t_NoLine => kit_is)
    (case t_StackError => kit_is)
    (case t_ValueError => kit_is)
    (case x1 => k_is)
    (case x2 => k_is)
    (case x3 => k_is)
    (case x4 => k_is)
    (case x5 => k_is)
