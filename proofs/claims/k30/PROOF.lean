import PyProof.Rows.All
import Wide.All
import OpenK.AllK
import Wide.FinOn
import Lean
import PyProof.EqAt
import PyProof.EqKinds
import PyProof.TupleCall
import PySem.Challenge.RW_planestacks_k30_terms_shown
set_option Elab.async false
set_option linter.all false
set_option maxRecDepth 100000
namespace L2
open PySem PySem.Spec PyProof.Rows
abbrev Key := Sum Int Str
def eJU : Key -> Value -> Bool
 | .inl k, v => Value.isInt k v
 | .inr x, v => Value.isStrOf x v
def ePF (w : World) : Key -> Int
 | .inl k => hashInt k
 | .inr x => hashStr w x
theorem qQ : ∀ {k : Key} {v : Value}, eJU k v = true -> (∃ i t, k = Sum.inl i /\ v = Value.int i t) \/ (∃ x t, k = Sum.inr x /\ v = Value.str x t)
 | .inl i, v, h => by
  obtain ⟨t, e⟩ := Value.isInt_shape (k := i) (v := v) h
  exact .inl ⟨i, t, rfl, e⟩
 | .inr x, v, h => by
  obtain ⟨t, e⟩ := Value.isStrOf_shape (x := x) (v := v) h
  exact .inr ⟨x, t, rfl, e⟩
theorem eJT (a b : Int) : decide ((Sum.inl a : Key) = Sum.inl b) = (a == b) := by
 by_cases e : a = b
 ·subst e; simp
 ·have h : ¬ (Sum.inl a : Key) = Sum.inl b := fun q => e (Sum.inl.inj q)
  rw [decide_eq_false h]
  exact (beq_eq_false_iff_ne.mpr e).symm
theorem eJQ (a b : Str) : decide ((Sum.inr a : Key) = Sum.inr b) = decide (a = b) := by
 by_cases e : a = b
 ·subst e; simp
 ·have h : ¬ (Sum.inr a : Key) = Sum.inr b := fun q => e (Sum.inr.inj q)
  rw [decide_eq_false h, decide_eq_false e]
theorem eJS (a : Int) (b : Str) : decide ((Sum.inl a : Key) = Sum.inr b) = false := decide_eq_false (fun q => nomatch q)
theorem eJR (a : Str) (b : Int) : decide ((Sum.inr a : Key) = Sum.inl b) = false := decide_eq_false (fun q => nomatch q)
def aRA (prog : Program) (w : World) : PySem.KeyKind prog w Key where
 is := eJU
 hash := ePF w
 inj := fun v a b ha hb => by
  rcases qQ ha with ⟨i, t, rfl, rfl⟩ | ⟨x, t, rfl, rfl⟩
  ·rcases qQ hb with ⟨j, u, rfl, e⟩ | ⟨y, u, rfl, e⟩
   ·injection e with e1 _; rw [e1]
   ·exact nomatch e
  ·rcases qQ hb with ⟨j, u, rfl, e⟩ | ⟨y, u, rfl, e⟩
   ·exact nomatch e
   ·injection e with e1 _; rw [e1]
 byValue := fun k v h => by
  rcases qQ h with ⟨i, t, rfl, rfl⟩ | ⟨x, t, rfl, rfl⟩ <;> rfl
 pyHash := fun hv h => by
  rcases qQ hv with ⟨i, t, rfl, rfl⟩ | ⟨x, t, rfl, rfl⟩
  ·exact wpAny_pyHash_int h
  ·exact wpAny_pyHash_str h
 eqBool := fun hu hv h => by
  rcases qQ hu with ⟨i, t, rfl, rfl⟩ | ⟨x, t, rfl, rfl⟩
  ·rcases qQ hv with ⟨j, u, rfl, rfl⟩ | ⟨y, u, rfl, rfl⟩
   ·rw [eJT] at h; exact wpAny_eqBool_int h
   ·rw [eJS] at h; exact SeqAt.EqAt.int_str i t y u _ _ _ _ h
  ·rcases qQ hv with ⟨j, u, rfl, rfl⟩ | ⟨y, u, rfl, rfl⟩
   ·rw [eJR] at h; exact SeqAt.EqAt.str_int x t j u _ _ _ _ h
   ·rw [eJQ] at h; exact wpAny_eqBool_str h
 «strs» := fun k x t v h => by
  rcases qQ h with ⟨i, u, rfl, e⟩ | ⟨y, u, rfl, e⟩
  ·exact nomatch e
  ·injection e with e1 _
   subst e1
   cases v <;> rfl
inductive V where
 | non | bl (b : Bool) | int (i : Int) | str (x : Str) | byt (b : Array UInt8) | flt (b : UInt64) | ref (a : Addr) | ty (n : String)
 deriving DecidableEq
def RelV : V -> Value -> Prop
 | .non, u => u = Value.none
 | .bl b, u => u = Value.bool b
 | .int i, u => ∃ t, u = Value.int i t
 | .str x, u => ∃ t, u = Value.str x t
 | .byt b, u => ∃ t, u = Value.bytes b t
 | .flt b, u => ∃ t, u = Value.float b t
 | .ref a, u => u = Value.ref a
 | .ty n, u => u = Value.type n
abbrev Vals : List V -> List Value -> Prop := Paired RelV
theorem Vals.length {xs : List V} {us : List Value} (r : Vals xs us) : xs.length = us.length := Paired.length r
theorem Vals.get : ∀ {xs : List V} {us : List Value} {i : Nat} {x : V}, Vals xs us -> xs[i]? = some x -> ∃ u, us[i]? = some u /\ RelV x u
 | _, _, _, _, .nil, e => by simp at e
 | _, _, 0, _, .cons r _, e => by simp at e; subst e; exact ⟨_, rfl, r⟩
 | _, _, i + 1, x, .cons _ t, e => by
  obtain ⟨u, h1, h2⟩ := Vals.get (i := i) (x := x) t (by simpa using e)
  exact ⟨u, by simpa using h1, h2⟩
theorem Vals.set {x : V} {u : Value} (r : RelV x u) : ∀ {xs : List V} {us : List Value} (i : Nat), Vals xs us -> Vals (xs.set i x) (us.set i u)
 | _, _, _, .nil => .nil
 | _, _, 0, .cons _ t => .cons r t
 | _, _, i + 1, .cons q t => .cons q (Vals.set r i t)
theorem Vals.append : ∀ {xs ys : List V} {us ws : List Value}, Vals xs us -> Vals ys ws -> Vals (xs ++ ys) (us ++ ws)
 | _, _, _, _, .nil, s => s
 | _, _, _, _, .cons r t, s => .cons r (Vals.append t s)
theorem Vals.take : ∀ {xs : List V} {us : List Value} (n : Nat), Vals xs us -> Vals (xs.take n) (us.take n)
 | _, _, 0, _ => .nil
 | _, _, _ + 1, .nil => .nil
 | _, _, n + 1, .cons r t => .cons r (Vals.take n t)
theorem Vals.drop : ∀ {xs : List V} {us : List Value} (n : Nat), Vals xs us -> Vals (xs.drop n) (us.drop n)
 | _, _, 0, r => r
 | _, _, _ + 1, .nil => .nil
 | _, _, n + 1, .cons _ t => Vals.drop n t
def RelO : Option V -> Option Value -> Prop
 | some v, some u => RelV v u
 | none, none => True
 | _, _ => False
def KV {κ : Type} : List (κ × V) -> List (κ × Value) -> Prop := Paired fun (p : κ × V) (q : κ × Value) => p.1 = q.1 /\ RelV p.2 q.2
def kV : Key -> V
 | .inl i => .int i
 | .inr x => .str x
inductive HO where
 /-- a list -/
 | lst (xs : List V)
 /-- a tuple (never changes) -/
 | tup (xs : List V)
 /-- a dict whose keys are ints and texts; one whose keys are tuples of ints and texts (the empty one is both) -/
 | dK (kvs : List (Key × V)) | dT (kvs : List (List Key × V))
 /-- a set of ints: its members, its size -/
 | set (S : Int -> Bool) (n : Nat)
 /-- an instance of the class at C, its dict at dx, its attributes -/
 | ins (C dx : Addr) (fs : List (Str × V))
 /-- the dict of the instance at x -/
 | own (x : Addr)
 /-- the dict of an exception -/
 | xd (fs : List (Str × V))
 /-- a bound method, f of x -/
 | met (f x : Addr)
 /-- a range object lo, lo + 1, .. below hi -/
 | rng (lo hi : Int)
 /-- a thing that is known to the object (the script; a dict while a loop walks it): read, never written while it is so -/
 | frz (o : Obj) (u : HO)
 /-- a code object's table -/
 | tbl (ps : Array Value)
 /-- any other thing, by what is true of its one object (a def of one's own: SetO a S n := HO.ext fun h => ..) -/
 | ext (φ : Heap -> Prop)
abbrev Hp := Addr -> Option HO
def upd (H : Hp) (a : Addr) (o : HO) : Hp := fun b => if b = a then some o else H b
theorem yK {H : Hp} {a : Addr} {o : HO} : upd H a o a = some o := by unfold upd; rw [if_pos rfl]
theorem yI {H : Hp} {a b : Addr} {o : HO} (h : b ≠ a) : upd H a o b = H b := by unfold upd; rw [if_neg h]
theorem aVR {H : Hp} {a : Addr} {o u : HO} : upd (upd H a o) a u = upd H a u := by
 funext b; unfold upd; split <;> rfl
theorem zZ {H : Hp} {a b : Addr} {o : HO} (h : H a = some o) (h' : H b = none) : a ≠ b := by
 intro e; subst e; rw [h] at h'; cases h'
section
variable (P : Program) (w : World)
def ObjOk (H : Hp) (h : Heap) (a : Addr) : HO -> Prop
 | .lst xs => xs.length <= sizeLine /\ ∃ (its : List Value) (n : Nat), Vals xs its /\ h.get? a = some { cls := .type "list", data := .seq its.toArray n }
 | .tup xs => xs.length <= sizeLine /\ ∃ its : List Value, Vals xs its /\ IsTup h a its.toArray
 | .dK kvs => kvs.length <= sizeLine /\ (a == sysModules) = false /\ ∃ vs, KV kvs vs /\ h.DictOf (aRA P w) a vs
 | .dT kvs => kvs.length <= sizeLine /\ (a == sysModules) = false /\ ∃ xs : List (List Key × Addr × Value),
   Paired (fun (p : List Key × V) (q : List Key × Addr × Value) => p.1 = q.1 /\ H q.2.1 = some (.tup (p.1.map kV)) /\ RelV p.2 q.2.2) kvs xs /\
   ∃ o es ep, h.get? a = some o /\ o.ExactDict /\ o.data = .dict es ep /\ es.toList = xs.map (entryOfKey (tupleKind (aRA P w))) /\ (xs.map (·.1)).Nodup
 | .set S n => h.SetOf (intKind P w) a S n
 | .ins C dx fs => H dx = some (.own a) /\ fs.length <= 1000 /\ dx ≠ a /\ h.get? a = some (PySem.W.instObj C dx) /\
   ∃ mA, h.Ns1 dx mA /\ (∀ f, RelO (fs.lookup f) (mA f)) /\ PySem.Within mA (fs.map (·.1))
 | .own _ => ∃ o, h.get? a = some o
 | .xd fs => ∃ mA, h.Ns1 a mA /\ ∀ f, RelO (fs.lookup f) (mA f)
 | .rng lo hi => ∃ t u v, h.get? a = some { cls := .type "range", data := .fields #[.int lo t, .int hi u, .int 1 v] }
 | .frz o u => h.get? a = some o /\ ObjOk H h a u
 | .tbl ps => h.get? a = some { cls := .none, data := .fields ps }
 | .met f x => h.get? a = some (PySem.W.methodObj (.ref f) (.ref x))
 | .ext φ => φ h /\ (∃ o, h.get? a = some o) /\ ∀ h1 h2 : Heap, φ h1 -> (∀ o, h1.get? a = some o -> h2.get? a = some o) -> φ h2
def HOk (H : Hp) (h : Heap) : Prop := ∀ a o, H a = some o -> ObjOk P w H h a o
end
section
variable {P : Program} {w : World} {H H' : Hp} {h h' : Heap} {a : Addr} {o : HO}
theorem ObjOk.lt (x : ObjOk P w H h a o) : a < h.objs.size := by
 cases o with
 | lst xs => obtain ⟨_, _, _, _, e⟩ := x; exact Heap.lt_size e
 | tup xs => obtain ⟨_, _, _, p⟩ := x; exact p.lt
 | dK kvs => obtain ⟨_, _, _, _, o, _, _, e, _⟩ := x; exact Heap.lt_size e
 | dT kvs => obtain ⟨_, _, _, _, o, _, _, e, _⟩ := x; exact Heap.lt_size e
 | set S n => obtain ⟨o, _, _, _, e, _⟩ := x; exact Heap.lt_size e
 | ins C dx fs => obtain ⟨_, _, _, e, _⟩ := x; exact Heap.lt_size e
 | own y => obtain ⟨_, e⟩ := x; exact Heap.lt_size e
 | xd fs => obtain ⟨_, ⟨_, _, _, e, _⟩, _⟩ := x; exact Heap.lt_size e
 | rng lo hi => obtain ⟨_, _, _, e⟩ := x; exact Heap.lt_size e
 | frz ob u => obtain ⟨e, _⟩ := x; exact Heap.lt_size e
 | tbl ps => exact Heap.lt_size (show h.get? a = some _ from x)
 | met f y => exact Heap.lt_size (show h.get? a = some _ from x)
 | ext φ => obtain ⟨_, ⟨_, e⟩, _⟩ := x; exact Heap.lt_size e
theorem Paired.mapP {α β : Type} {F G : α -> β -> Prop} : ∀ {l₁ : List α} {l₂ : List β}, Paired F l₁ l₂ -> (∀ a b, F a b -> G a b) -> Paired G l₁ l₂
 | _, _, .nil, _ => .nil
 | _, _, .cons r t, f => .cons (f _ _ r) (Paired.mapP t f)
theorem ObjOk.stay (x : ObjOk P w H h a o) (k : ∀ b u, (b = a \/ H b = some (.own a)) -> h.get? b = some u -> h'.get? b = some u)
  (ho : ∀ b, H b = some (.own a) -> H' b = some (.own a)) (ht : ∀ b xs, H b = some (.tup xs) -> H' b = some (.tup xs)) : ObjOk P w H' h' a o := by
 induction o with
 | lst xs => obtain ⟨z, its, n, r, e⟩ := x; exact ⟨z, its, n, r, k _ _ (.inl rfl) e⟩
 | tup xs => obtain ⟨z, its, r, ob, e, c⟩ := x; exact ⟨z, its, r, ob, k _ _ (.inl rfl) e, c⟩
 | dK kvs => obtain ⟨z, y, vs, r, ob, es, ep, e, c⟩ := x; exact ⟨z, y, vs, r, ob, es, ep, k _ _ (.inl rfl) e, c⟩
 | dT kvs =>
  obtain ⟨z, y, xs, r, ob, es, ep, e, c⟩ := x
  exact ⟨z, y, xs, Paired.mapP r fun p q z => ⟨z.1, ht _ _ z.2.1, z.2.2⟩, ob, es, ep, k _ _ (.inl rfl) e, c⟩
 | set S n => obtain ⟨ob, es, ep, t, e, c⟩ := x; exact ⟨ob, es, ep, t, k _ _ (.inl rfl) e, c⟩
 | ins C dx fs =>
  obtain ⟨d, z, ne, e, mA, ⟨od, es, ep, e2, c⟩, r⟩ := x
  exact ⟨ho _ d, z, ne, k _ _ (.inl rfl) e, mA, ⟨od, es, ep, k _ _ (.inr d) e2, c⟩, r⟩
 | own y => obtain ⟨ob, e⟩ := x; exact ⟨ob, k _ _ (.inl rfl) e⟩
 | xd fs => obtain ⟨mA, ⟨od, es, ep, e, c⟩, r⟩ := x; exact ⟨mA, ⟨od, es, ep, k _ _ (.inl rfl) e, c⟩, r⟩
 | rng lo hi => obtain ⟨t, u, v, e⟩ := x; exact ⟨t, u, v, k _ _ (.inl rfl) e⟩
 | frz ob u ih => obtain ⟨e, q⟩ := x; exact ⟨k _ _ (.inl rfl) e, ih q⟩
 | tbl ps =>
  have e : h.get? a = some { cls := .none, data := .fields ps } := x
  show h'.get? a = some { cls := .none, data := .fields ps }
  exact k a _ (.inl rfl) e
 | met f y =>
  have e : h.get? a = some (PySem.W.methodObj (.ref f) (.ref y)) := x
  show h'.get? a = some (PySem.W.methodObj (.ref f) (.ref y))
  exact k a _ (.inl rfl) e
 | ext φ => obtain ⟨p, ⟨o, e⟩, st⟩ := x; exact ⟨st _ _ p fun o q => k _ _ (.inl rfl) q, ⟨o, k _ _ (.inl rfl) e⟩, st⟩
theorem HOk.lt (x : HOk P w H h) (e : H a = some o) : a < h.objs.size := (x a o e).lt
theorem HOk.fresh (x : HOk P w H h) (e : h.objs.size <= a) : H a = none := by
 cases q : H a with
 | none => rfl
 | some u => exact absurd (Nat.lt_of_lt_of_le (x.lt q) e) (Nat.lt_irrefl _)
theorem HOk.kept (x : HOk P w H h) (k : ∀ b u, h.get? b = some u -> h'.get? b = some u) : HOk P w H h' := fun a o e =>
 (x a o e).stay (fun b u _ q => k b u q) (fun _ q => q) fun _ _ q => q
theorem HOk.laid (x : HOk P w H h) (k : ∀ b u, h.get? b = some u -> h'.get? b = some u) (hp : h.objs.size <= a) (new : ObjOk P w (upd H a o) h' a o) : HOk P w (upd H a o) h' := fun b u e => by
 have hn := x.fresh hp
 by_cases hb : b = a
 ·subst hb; rw [yK] at e; cases e; exact new
 ·rw [yI hb] at e
  exact (x b u e).stay (fun c v _ q => k c v q) (fun c q => by rw [yI (zZ q hn)]; exact q) fun c xs q => by rw [yI (zZ q hn)]; exact q
end
def Rd (H : Hp) (a : Addr) (u : HO) : Prop := H a = some u \/ ∃ o, H a = some (.frz o u)
theorem Rd.ok {P : Program} {w : World} {H : Hp} {h : Heap} {a : Addr} {u : HO} (r : Rd H a u) (x : HOk P w H h) : ObjOk P w H h a u := by
 rcases r with r | ⟨o, r⟩
 ·exact x a u r
 ·obtain ⟨_, q⟩ := x a _ r
  exact q
def Mut : Option HO -> Prop
 | some (.lst _) => True
 | some (.dK _) => True
 | some (.dT _) => True
 | some (.set _ _) => True
 | some (.ins _ _ _) => True
 | some (.ext _) => True
 | _ => False
section
variable {P : Program} {w : World} {H : Hp} {h h' : Heap} {x e : Addr} {o' : HO}
theorem HOk.write (ok : HOk P w H h) (mu : Mut (H x)) (he : e = x \/ H e = some (.own x)) (k : ∀ b u, b ≠ e -> h.get? b = some u -> h'.get? b = some u) (heo : ∃ u, h'.get? e = some u)
  (new : ObjOk P w (upd H x o') h' x o') : HOk P w (upd H x o') h' := fun b u q => by
 have nown : ∀ c y, H c = some (.own y) -> c ≠ x := fun c y r z => by subst z; rw [r] at mu; exact mu
 have ntup : ∀ c xs, H c = some (.tup xs) -> c ≠ x := fun c xs r z => by subst z; rw [r] at mu; exact mu
 by_cases hb : b = x
 ·subst hb; rw [yK] at q; cases q; exact new
 ·rw [yI hb] at q
  by_cases hbe : b = e
  ·have q' : H b = some (.own x) := by
    rcases he with z | z
    ·exact absurd (hbe.trans z) hb
    ·rw [hbe]; exact z
   rw [q] at q'; cases q'
   obtain ⟨v, hv⟩ := heo
   exact ⟨v, by rw [hbe]; exact hv⟩
  ·refine (ok b u q).stay (fun c v hc r => k c v ?_ r) (fun c r => by rw [yI (nown c b r)]; exact r) fun c xs r => by rw [yI (ntup c xs r)]; exact r
   rcases hc with rfl | hc
   ·exact hbe
   ·rintro rfl
    rcases he with z | z
    ·exact nown c b hc z
    ·rw [hc] at z; cases z; exact hb rfl
end
structure Un (fs ex : List Addr) (H H' : Hp) (h h' : Heap) : Prop where
 keep : ∀ b o, h.get? b = some o -> H b = none -> b ∉ fs -> b ∉ ex -> h'.get? b = some o
 slot : ∀ b o, h.get? b = some o -> H b = none -> b ∈ fs -> b ∉ ex -> ∃ sl, h'.get? b = some { o with slots := sl }
 free : ∀ b o, h.get? b = some o -> H b = none -> b ∉ ex -> H' b = none
 there : ∀ b o, h.get? b = some o -> b ∉ ex -> ∃ o', h'.get? b = some o'
 tups : ∀ b xs, H b = some (.tup xs) -> H' b = some (.tup xs)
 frzs : ∀ b o u, H b = some (.frz o u) -> H' b = some (.frz o u)
 tbls : ∀ b ps, H b = some (.tbl ps) -> ∃ more, H' b = some (.tbl (ps ++ more))
section
variable {fs fs' ex ex' : List Addr} {H H1 H2 : Hp} {h h1 h2 h' : Heap} {a x e : Addr} {o : HO}
theorem Un.any (u : Un fs ex H H1 h h1) {b : Addr} {ob : Obj} (q : h.get? b = some ob) (n : H b = none) (hx : b ∉ ex) : ∃ sl, h1.get? b = some { ob with slots := sl } := by
 by_cases hb : b ∈ fs
 ·exact u.slot b ob q n hb hx
 ·exact ⟨ob.slots, u.keep b ob q n hb hx⟩
theorem Un.kept (k : ∀ b u, h.get? b = some u -> h'.get? b = some u) : Un fs ex H H h h' :=
 ⟨fun b ob q _ _ _ => k b ob q, fun b ob q _ _ _ => ⟨ob.slots, k b ob q⟩, fun _ _ _ n _ => n, fun b ob q _ => ⟨ob, k b ob q⟩, fun _ _ q => q, fun _ _ _ q => q, fun _ ps q => ⟨#[], by rw [q]; simp⟩⟩
theorem Un.refl : Un fs ex H H h h := Un.kept fun _ _ q => q
theorem Un.laid (k : ∀ b u, h.get? b = some u -> h'.get? b = some u) (hp : h.objs.size <= a) (hn : H a = none) : Un fs ex H (upd H a o) h h' where
 keep := fun b u q _ _ _ => k b u q
 slot := fun b u q _ _ _ => ⟨u.slots, k b u q⟩
 free := fun b u q n _ => by rw [yI (Nat.ne_of_lt (Nat.lt_of_lt_of_le (Heap.lt_size q) hp))]; exact n
 there := fun b u q _ => ⟨u, k b u q⟩
 tups := fun b xs q => by rw [yI (zZ q hn)]; exact q
 frzs := fun b u xs q => by rw [yI (zZ q hn)]; exact q
 tbls := fun b ps q => ⟨#[], by rw [yI (zZ q hn), q]; simp⟩
theorem Un.write (mu : Mut (H x)) (he : e = x \/ H e = some (.own x)) (k : ∀ b u, b ≠ e -> h.get? b = some u -> h'.get? b = some u) (heo : ∃ u, h'.get? e = some u) : Un fs ex H (upd H x o) h h' := by
 have hx : ∀ b, H b = none -> b ≠ x := fun b n z => by subst z; rw [n] at mu; exact mu
 have hb : ∀ b, H b = none -> b ≠ e := fun b n z => by
  subst z
  rcases he with r | r
  ·exact hx b n r
  ·rw [n] at r; cases r
 have hm : ∀ b u, H b = some u -> ¬ Mut (some u) -> b ≠ x := fun b u q nm z => by subst z; rw [q] at mu; exact nm mu
 refine ⟨fun b u q n _ _ => k b u (hb b n) q, fun b u q n _ _ => ⟨u.slots, k b u (hb b n) q⟩, fun b u q n _ => by rw [yI (hx b n)]; exact n, fun b u q _ => ?_,
  fun b xs q => by rw [yI (hm b _ q fun z => z)]; exact q, fun b u xs q => by rw [yI (hm b _ q fun z => z)]; exact q, fun b ps q => ⟨#[], by rw [yI (hm b _ q fun z => z), q]; simp⟩⟩
 by_cases hbe : b = e
 ·subst hbe; exact heo
 ·exact ⟨u, k b u hbe q⟩
end
def trk (h : Heap) (H : Hp) : List Addr := (List.range h.objs.size).filter fun a => (H a).isSome
def eAG (h : Heap) (H : Hp) : Heap := PySem.W.hideAll h (trk h H)
theorem aYB (h : Heap) (H : Hp) : (eAG h H).objs.size = h.objs.size := PySem.W.hideAll_size _ _
theorem eBJ {h : Heap} {H : Hp} {b : Addr} {o : Obj} (e : h.get? b = some o) (n : H b = none) : (eAG h H).get? b = some o :=
 PySem.W.hideAll_get _ e fun hm => by
  have q : (H b).isSome = true := (List.mem_filter.mp hm).2
  rw [n] at q; simp at q
theorem eFO {h : Heap} {H : Hp} {b : Addr} {o : Obj} (e : (eAG h H).get? b = some o) : h.get? b = some o /\ H b = none := by
 have e' : h.get? b = some o := PySem.W.of_hideAll (trk h H) e
 refine ⟨e', ?_⟩
 cases q : H b with
 | none => rfl
 | some x =>
  have hm : b ∈ trk h H := List.mem_filter.mpr ⟨List.mem_range.mpr (Heap.lt_size e'), by simp [q]⟩
  have z : (eAG h H).get? b = none := PySem.W.hideAll_none (trk h H) hm
  rw [z] at e; cases e
def eHA (g h : Heap) (L : Addr) : List (Addr × Obj) := (List.range h.objs.size).filterMap fun a => if a = L \/ (g.get? a).isSome = true then none else (h.get? a).map fun o => (a, o)
def qZ (g h : Heap) (L d : Addr) : List (Addr × Obj) := (eHA g h L).filter fun p => decide (p.1 ≠ d)
structure Mod (K : PySem.W.Frag) (mg : Str -> Option Value) (base : Heap) : Prop where
 kin : K.In base
 glob : base.Ns mainGlobals mg
 blt : ∃ mb, base.Ns builtinsNs mb /\ ∀ x : Str, x ≠ "__name__" -> mb x = bootBuiltins x
 nolimit : base.NoLimit
 seer : base.NoSeer
structure Cx where
 prog : Program
 w : World
 K : PySem.W.Frag
 mg : Str -> Option Value
 base : Heap
 A : Around
 N : List Str
 s₀ : Shared
 H₀ : Hp
 env : Env
 outer : List Env
 stack : List Env
 ex : List Addr
 fn : Str -> Bool
 calm : Bool
 pn : List (Addr × Obj)
 xe : Value -> Shared -> Prop
def frs (l : List Env) : List Addr := l.filterMap (·.frame)
abbrev Cx.fs (X : Cx) : List Addr := frs X.outer
def Vis (sc : Scope) (x : Str) : Prop := sc.names.lookup x = some .local \/ sc.names.lookup x = some .cell \/ sc.names.lookup x = some .free
def Loc (sc : Scope) (x : Str) : Prop := sc.names.lookup x = some .local \/ sc.names.lookup x = some .cell
def ePU (env : Env) (h : Heap) (m : Str -> Option Value) (x : Str) (u : Value) : Prop :=
 (env.kindOf x = some .local /\ m x = some u) \/ ((env.kindOf x = some .cell \/ env.kindOf x = some .free) /\ ∃ c, env.cells.lookup x = some c /\ h.IsCell c (some u))
structure Cx.Ok (X : Cx) : Prop where
 mod : Mod X.K X.mg X.base
 kind : X.env.scope.kind = .function
 glob : X.env.globals = mainGlobals
 blt : X.env.builtins = builtinsNs
 above : X.s₀.heap.objs.size <= X.env.locals
 inj : ∀ x y c, X.env.cells.lookup x = some c -> X.env.cells.lookup y = some c -> x = y
 has : ∀ x, (X.env.kindOf x = some .cell \/ X.env.kindOf x = some .free) -> ∃ c, X.env.cells.lookup x = some c
 cab : ∀ x c, X.fn x = true -> X.env.cells.lookup x = some c -> X.s₀.heap.objs.size <= c
 hd : X.calm = true -> X.A.handled = none
 frames : X.A.frames = some X.stack
 stk : X.stack = X.outer \/ (X.stack = X.env :: X.outer /\ X.env.frame = some X.env.locals)
 exf : ∀ b ∈ X.ex, b ≠ X.env.locals /\ ∀ x c, X.env.cells.lookup x = some c -> c ≠ b
 bs : ∀ b o, X.base.get? b = some o -> X.s₀.heap.get? b = some o /\ X.H₀ b = none
 bsz : X.base.objs.size <= X.s₀.heap.objs.size
 noex : ∀ b o, X.base.get? b = some o -> b ∉ X.ex
 exfs : ∀ b ∈ X.ex, b ∉ X.fs
 funs : X.s₀.heap.FunFrames X.base X.outer
 frf : ∀ b ∈ X.fs, X.H₀ b = none
structure Inv (X : Cx) (pins : List (Addr × Obj)) (σ : List (Option V)) (H : Hp) (s : Shared) : Prop where
 ok : X.Ok
 os : s.os = X.s₀.os
 bare : AllBare s.gens
 base : Un X.fs X.ex X.H₀ H X.s₀.heap s.heap
 loc : ∃ m, s.heap.Ns X.env.locals m /\ ∀ (i : Nat) (x : Str) (v : V), X.N[i]? = some x -> σ[i]? = some (some v) -> Vis X.env.scope x -> ∃ u, RelV v u /\ ePU X.env s.heap m x u
 cell : ∀ x c, X.env.cells.lookup x = some c -> ∃ v, s.heap.IsCell c v
 free : H X.env.locals = none
 freeC : ∀ x c, X.env.cells.lookup x = some c -> H c = none
 pin : ∀ p ∈ X.pn ++ pins, s.heap.get? p.1 = some p.2 /\ H p.1 = none /\ p.1 ≠ X.env.locals /\ p.1 ∉ X.fs /\ ∀ v, p.2.data ≠ .cell v
 hok : HOk X.prog X.w H s.heap
 len : σ.length = X.N.length
section
variable {X : Cx} {pins : List (Addr × Obj)} {σ : List (Option V)} {H H' : Hp} {s : Shared} {h' : Heap}
theorem Cx.Ok.nofr (ok : X.Ok) {b : Addr} {o : Obj} (e : X.base.get? b = some o) : b ∉ X.fs := fun hb => by
 have := (ok.funs.mem hb).1
 rw [e] at this; cases this
theorem Inv.bs (I : Inv X pins σ H s) : ∀ b o, X.base.get? b = some o -> s.heap.get? b = some o /\ H b = none := fun b o e =>
 ⟨I.base.keep b o (I.ok.bs b o e).1 (I.ok.bs b o e).2 (I.ok.nofr e) (I.ok.noex b o e), I.base.free b o (I.ok.bs b o e).1 (I.ok.bs b o e).2 (I.ok.noex b o e)⟩
theorem Inv.bk (I : Inv X pins σ H s) : ∀ b o, X.base.get? b = some o -> s.heap.get? b = some o := fun b o e => (I.bs b o e).1
theorem Inv.mod (I : Inv X pins σ H s) : Mod X.K X.mg X.base := I.ok.mod
theorem Inv.kIn (I : Inv X pins σ H s) : X.K.In s.heap := I.ok.mod.kin.keeps I.bk
theorem Inv.nolimit (I : Inv X pins σ H s) : s.heap.NoLimit := I.ok.mod.nolimit.keeps I.bk
theorem Inv.lt (I : Inv X pins σ H s) : X.env.locals < s.heap.objs.size := let ⟨_, hn, _⟩ := I.loc; hn.lt
theorem Inv.sz (I : Inv X pins σ H s) : X.s₀.heap.objs.size <= s.heap.objs.size := Nat.le_trans I.ok.above (Nat.le_of_lt I.lt)
theorem Inv.nofs (I : Inv X pins σ H s) {a : Addr} (h : s.heap.objs.size <= a) : a ∉ X.fs := fun hb => by
 obtain ⟨_, o, ho, _⟩ := I.ok.funs.mem hb
 exact absurd (Nat.lt_of_lt_of_le (Heap.lt_size ho) (Nat.le_trans I.sz h)) (Nat.lt_irrefl _)
theorem Inv.cne (I : Inv X pins σ H s) : ∀ x c, X.env.cells.lookup x = some c -> c ≠ X.env.locals := fun x c e z => by
 obtain ⟨v, o, ho, hd⟩ := I.cell x c e
 obtain ⟨m, ⟨o', es, ep, ho', hd', _⟩, _⟩ := I.loc
 rw [z, ho'] at ho; cases ho; rw [hd'] at hd; cases hd
theorem Inv.funs (I : Inv X pins σ H s) : s.heap.FunFrames X.base X.outer := by
 have all : ∀ (l : List Env), (∀ b ∈ frs l, b ∈ X.fs) -> X.s₀.heap.FunFrames X.base l -> s.heap.FunFrames X.base l := by
  intro l
  induction l with
  | nil => intro _ _; trivial
  | cons env r ih =>
   intro hs hl
   obtain ⟨hk, ⟨L, o, hf, hn, ho, hd⟩, hr⟩ := hl
   have hL : L ∈ X.fs := hs L (by unfold frs; rw [List.filterMap_cons, hf]; exact List.mem_cons_self)
   obtain ⟨sl, e⟩ := I.base.slot L o ho (I.ok.frf L hL) hL fun z => I.ok.exfs L z hL
   exact ⟨hk, ⟨L, _, hf, hn, e, hd⟩, ih (fun b hb => hs b (by unfold frs; rw [List.filterMap_cons, hf]; exact List.mem_cons_of_mem _ hb)) hr⟩
 exact all X.outer (fun _ hb => hb) I.ok.funs
theorem Inv.stack (I : Inv X pins σ H s) : s.heap.FunFrames X.base X.stack := by
 rcases I.ok.stk with e | ⟨e, hf⟩
 ·rw [e]; exact I.funs
 ·rw [e]
  obtain ⟨m, hn, _⟩ := I.loc
  refine .cons (by rw [I.ok.kind]; decide) hf hn ?_ I.funs
  exact Heap.get?_none_of_le (Nat.le_trans I.ok.bsz I.ok.above)
theorem Inv.stkSub (I : Inv X pins σ H s) : ∀ b ∈ frs X.stack, b ∈ X.env.locals :: X.fs := fun b hb => by
 rcases I.ok.stk with e | ⟨e, hf⟩
 ·rw [e] at hb; exact List.mem_cons_of_mem _ hb
 ·rw [e] at hb
  unfold frs at hb
  rw [List.filterMap_cons, hf] at hb
  exact hb
theorem Inv.stkFree (I : Inv X pins σ H s) : ∀ b ∈ frs X.stack, H b = none := fun b hb => by
 rcases List.mem_cons.mp (I.stkSub b hb) with e | hb
 ·rw [e]; exact I.free
 ·obtain ⟨_, o, ho, _⟩ := I.ok.funs.mem hb
  exact I.base.free b o ho (I.ok.frf b hb) fun z => I.ok.exfs b z hb
theorem Inv.step {g' : Array GenState} {t' : Nat} {d' : Drawn} {ch : List Addr} (I : Inv X pins σ H s)
  (hch : ∀ b ∈ ch, (b ∈ X.ex \/ X.s₀.heap.objs.size <= b) /\ b ≠ X.env.locals /\ (∀ x c, X.env.cells.lookup x = some c -> c ≠ b) /\ ∀ p ∈ X.pn ++ pins, p.1 ≠ b)
  (keep : ∀ b o, b ≠ X.env.locals -> b ∉ X.fs -> b ∉ ch -> s.heap.get? b = some o -> H b = none -> h'.get? b = some o)
  (slot : ∀ b o, b ≠ X.env.locals -> b ∈ X.fs -> b ∉ ch -> s.heap.get? b = some o -> H b = none -> ∃ sl, h'.get? b = some { o with slots := sl }) (free : ∀ b o, b ∉ ch -> s.heap.get? b = some o -> H b = none -> H' b = none)
  (there : ∀ b o, b ∉ ch -> s.heap.get? b = some o -> ∃ o', h'.get? b = some o')
  (tups : ∀ b xs, H b = some (.tup xs) -> H' b = some (.tup xs)) (frzs : ∀ b o u, H b = some (.frz o u) -> H' b = some (.frz o u)) (tbls : ∀ b ps, H b = some (.tbl ps) -> ∃ more, H' b = some (.tbl (ps ++ more)))
  (ns : ∀ m, s.heap.Ns X.env.locals m -> h'.Ns X.env.locals m) (hok : HOk X.prog X.w H' h') (hg : AllBare g') :
  Inv X pins σ H' { s with heap := h', gens := g', drawn := d', toks := t' } := by
 have neL : ∀ b o, X.s₀.heap.get? b = some o -> b ≠ X.env.locals := fun b o e => Nat.ne_of_lt (Nat.lt_of_lt_of_le (Heap.lt_size e) I.ok.above)
 have neC : ∀ b o, X.s₀.heap.get? b = some o -> b ∉ X.ex -> b ∉ ch := fun b o e hx hb => by
  rcases (hch b hb).1 with z | z
  ·exact hx z
  ·exact absurd (Nat.lt_of_lt_of_le (Heap.lt_size e) z) (Nat.lt_irrefl _)
 have cellK : ∀ x c, X.env.cells.lookup x = some c -> ∀ v, s.heap.IsCell c v -> h'.IsCell c v := fun x c e v ⟨o, ho, hd⟩ => by
  have nch : c ∉ ch := fun z => (hch c z).2.2.1 x c e rfl
  by_cases hc : c ∈ X.fs
  ·obtain ⟨sl, q⟩ := slot c o (I.cne x c e) hc nch ho (I.freeC x c e)
   exact ⟨_, q, hd⟩
  ·exact ⟨o, keep c o (I.cne x c e) hc nch ho (I.freeC x c e), hd⟩
 refine ⟨I.ok, I.os, hg, ⟨fun b o e n hb hx => ?_, fun b o e n hb hx => ?_, fun b o e n hx => ?_, fun b o e hx => ?_, fun b xs e => tups b xs (I.base.tups b xs e), fun b o xs e => frzs b o xs (I.base.frzs b o xs e), fun b ps e => ?_⟩, ?_, fun x c e => ?_, ?_, fun x c e => ?_, fun p hp => ?_, hok, I.len⟩
 ·exact keep b o (neL b o e) hb (neC b o e hx) (I.base.keep b o e n hb hx) (I.base.free b o e n hx)
 ·obtain ⟨sl, e1⟩ := I.base.slot b o e n hb hx
  obtain ⟨sl', e2⟩ := slot b _ (neL b o e) hb (neC b o e hx) e1 (I.base.free b o e n hx)
  exact ⟨sl', e2⟩
 ·obtain ⟨o', e1⟩ := I.base.there b o e hx
  exact free b o' (neC b o e hx) e1 (I.base.free b o e n hx)
 ·obtain ⟨o', e1⟩ := I.base.there b o e hx
  exact there b o' (neC b o e hx) e1
 ·obtain ⟨m1, e1⟩ := I.base.tbls b ps e
  obtain ⟨m2, e2⟩ := tbls b _ e1
  exact ⟨m1 ++ m2, by rw [e2, Array.append_assoc]⟩
 ·obtain ⟨m, hn, hl⟩ := I.loc
  refine ⟨m, ns m hn, fun i x v e1 e2 e3 => ?_⟩
  obtain ⟨u, r, l⟩ := hl i x v e1 e2 e3
  refine ⟨u, r, ?_⟩
  rcases l with l | ⟨k, c, e, z⟩
  ·exact .inl l
  ·exact .inr ⟨k, c, e, cellK x c e _ z⟩
 ·obtain ⟨v, z⟩ := I.cell x c e
  exact ⟨v, cellK x c e v z⟩
 ·obtain ⟨m, ⟨o, _, _, ho, _⟩, _⟩ := I.loc
  exact free _ o (fun z => (hch _ z).2.1 rfl) ho I.free
 ·obtain ⟨v, o, ho, hd⟩ := I.cell x c e
  exact free c o (fun z => (hch c z).2.2.1 x c e rfl) ho (I.freeC x c e)
 ·obtain ⟨e, n, ne, nf, d⟩ := I.pin p hp
  have nch : p.1 ∉ ch := fun z => (hch p.1 z).2.2.2 p hp rfl
  exact ⟨keep p.1 p.2 ne nf nch e n, free p.1 p.2 nch e n, ne, nf, d⟩
theorem Inv.un {t' : Nat} (I : Inv X pins σ H s) (u : Un X.fs [] H H' s.heap h') (hok : HOk X.prog X.w H' h') : Inv X pins σ H' { s with heap := h', toks := t' } := by
 obtain ⟨m, ⟨o, es, ep, ho, r⟩, _⟩ := id I.loc
 obtain ⟨sl, hL⟩ := u.any ho I.free (by simp)
 exact I.step (g' := s.gens) (d' := s.drawn) (ch := []) (fun _ z => nomatch z) (fun b o _ hb _ e n => u.keep b o e n hb (by simp)) (fun b o _ hb _ e n => u.slot b o e n hb (by simp)) (fun b o _ e n => u.free b o e n (by simp)) (fun b o _ e => u.there b o e (by simp)) u.tups u.frzs u.tbls (fun m' hm => by
  obtain ⟨o', es', ep', ho', r'⟩ := hm
  rw [ho] at ho'; cases ho'
  exact ⟨_, es', ep', hL, r'⟩) hok I.bare
theorem Inv.call {g' : Array GenState} {t' : Nat} {d' : Drawn} {ch : List Addr} (I : Inv X pins σ H s) (u : Un (frs X.stack) ch H H' s.heap h') (hok : HOk X.prog X.w H' h') (hg : AllBare g')
  (hch : ∀ b ∈ ch, (b ∈ X.ex \/ X.s₀.heap.objs.size <= b) /\ b ≠ X.env.locals /\ (∀ x c, X.env.cells.lookup x = some c -> c ≠ b) /\ ∀ p ∈ X.pn ++ pins, p.1 ≠ b) :
  Inv X pins σ H' { s with heap := h', gens := g', drawn := d', toks := t' } := by
 obtain ⟨m, ⟨o, es, ep, ho, r⟩, _⟩ := id I.loc
 obtain ⟨sl, hL⟩ := u.any ho I.free fun z => (hch _ z).2.1 rfl
 exact I.step (ch := ch) hch (fun b o hL hb hc e n => u.keep b o e n (fun z => (List.mem_cons.mp (I.stkSub b z)).elim hL hb) hc) (fun b o _ _ hc e n => u.any e n hc) (fun b o hc e n => u.free b o e n hc) (fun b o hc e => u.there b o e hc) u.tups u.frzs u.tbls (fun m' hm => by
  obtain ⟨o', es', ep', ho', r'⟩ := hm
  rw [ho] at ho'; cases ho'
  exact ⟨_, es', ep', hL, r'⟩) hok hg
theorem Inv.turned {t' : Nat} {it : Addr} (I : Inv X pins σ H s) (k : ∀ b o, b ≠ it -> s.heap.get? b = some o -> h'.get? b = some o) (hn : H it = none) (hL : it ≠ X.env.locals)
  (h1 : it ∈ X.ex \/ X.s₀.heap.objs.size <= it) (h2 : ∀ x c, X.env.cells.lookup x = some c -> c ≠ it) (h3 : ∀ p ∈ X.pn ++ pins, p.1 ≠ it) : Inv X pins σ H { s with heap := h', toks := t' } := by
 have nit : ∀ b u, H b = some u -> b ≠ it := fun b u e z => by rw [z, hn] at e; cases e
 refine I.step (g' := s.gens) (d' := s.drawn) (ch := [it]) (fun b hb => ?_) (fun b o _ _ hc e _ => k b o (fun z => hc (by simp [z])) e) (fun b o _ _ hc e _ => ⟨o.slots, k b o (fun z => hc (by simp [z])) e⟩) (fun _ _ _ _ n => n)
  (fun b o hc e => ⟨o, k b o (fun z => hc (by simp [z])) e⟩) (fun _ _ e => e) (fun _ _ _ e => e) (fun b ps e => ⟨#[], by rw [e]; simp⟩) (fun m hm => ?_) (fun b u e => ?_) I.bare
 ·have e : b = it := by simpa using hb
  subst e
  exact ⟨h1, hL, h2, h3⟩
 ·obtain ⟨o, es, ep, ho, r⟩ := hm
  exact ⟨o, es, ep, k _ o (Ne.symm hL) ho, r⟩
 ·refine (I.hok b u e).stay (fun c v hc q => k c v ?_ q) (fun _ q => q) fun _ _ q => q
  rcases hc with z | z
  ·rw [z]; exact nit b u e
  ·exact nit c _ z
theorem Inv.tok (I : Inv X pins σ H s) (t : Nat) : Inv X pins σ H { s with toks := t } := I.un (h' := s.heap) (t' := t) Un.refl I.hok
theorem Inv.kept {t' : Nat} (I : Inv X pins σ H s) (k : ∀ b u, s.heap.get? b = some u -> h'.get? b = some u) : Inv X pins σ H { s with heap := h', toks := t' } := I.un (Un.kept k) (I.hok.kept k)
theorem Inv.laid {a : Addr} {o : HO} {t' : Nat} (I : Inv X pins σ H s) (k : ∀ b u, s.heap.get? b = some u -> h'.get? b = some u) (hp : s.heap.objs.size <= a) (new : ObjOk X.prog X.w (upd H a o) h' a o) :
  Inv X pins σ (upd H a o) { s with heap := h', toks := t' } := I.un (Un.laid k hp (I.hok.fresh hp)) (I.hok.laid k hp new)
theorem Inv.write {x e : Addr} {o : HO} {t' : Nat} (I : Inv X pins σ H s) (mu : Mut (H x)) (he : e = x \/ H e = some (.own x)) (k : ∀ b u, b ≠ e -> s.heap.get? b = some u -> h'.get? b = some u) (heo : ∃ u, h'.get? e = some u)
  (new : ObjOk X.prog X.w (upd H x o) h' x o) : Inv X pins σ (upd H x o) { s with heap := h', toks := t' } := I.un (Un.write mu he k heo) (I.hok.write mu he k heo new)
theorem Inv.pins_of {pins' : List (Addr × Obj)} (I : Inv X pins σ H s) (h : ∀ p ∈ pins', s.heap.get? p.1 = some p.2 /\ H p.1 = none /\ p.1 ≠ X.env.locals /\ p.1 ∉ X.fs /\ ∀ v, p.2.data ≠ .cell v) : Inv X pins' σ H s :=
 ⟨I.ok, I.os, I.bare, I.base, I.loc, I.cell, I.free, I.freeC, fun p hp => (List.mem_append.mp hp).elim (fun z => I.pin p (List.mem_append_left _ z)) (h p), I.hok, I.len⟩
theorem aTH {N : List Str} (hN : N.Nodup) {i j : Nat} {x : Str} (a : N[i]? = some x) (b : N[j]? = some x) : i = j := by
 obtain ⟨h1, e1⟩ := List.getElem?_eq_some_iff.mp a
 obtain ⟨h2, e2⟩ := List.getElem?_eq_some_iff.mp b
 exact (List.getElem_inj hN).mp (e1.trans e2.symm)
theorem aWA {M : Model} {A : Around} {E : Value -> Shared -> Prop} {i : Nat} {x : Str} {v : V} {u : Value} {Q : Unit -> Shared -> Prop} (I : Inv X pins σ H s) (hN : X.N.Nodup) (hi : X.N[i]? = some x) (hx : Loc X.env.scope x) (r : RelV v u)
  (h : ∀ s', Inv X pins (σ.set i (some v)) H s' -> (∃ a, Heap.SameBut a s.heap s'.heap /\ (a = X.env.locals \/ X.env.cells.lookup x = some a)) -> Q () s') (hf : X.fn x = true \/ X.env.scope.names.lookup x = some .local := by first | exact .inl rfl | exact .inr rfl | assumption) : wpAny M A (storeName X.env x u) Q E s := by
 obtain ⟨m, hn, hl⟩ := id I.loc
 have hcls : (X.env.scope.kind == .class || (X.env.scope.kind == .module && X.env.locals != X.env.globals)) = false := by rw [I.ok.kind]; rfl
 have hiσ : i < σ.length := by rw [I.len]; exact (List.getElem?_eq_some_iff.mp hi).1
 have cne := I.cne
 have tracked : ∀ {a : Addr} {h' : Heap}, (∃ o, s.heap.get? a = some o /\ H a = none) -> Heap.SameBut a s.heap h' -> HOk X.prog X.w H h' := fun {a h'} ha hs b ob e => by
  obtain ⟨_, _, hfree⟩ := ha
  refine (I.hok b ob e).stay (fun c w' hc q => (hs.2 c ?_).trans q) (fun _ q => q) fun _ _ q => q
  rintro rfl
  rcases hc with rfl | hc
  ·rw [hfree] at e; cases e
  ·rw [hfree] at hc; cases hc
 rcases hx with hk | hk
 ·refine wpAny_storeName_local hk hn (fun h' hn' hs => ?_) hcls
  obtain ⟨oL, _, _, hoL, _⟩ := id hn
  refine h _ ⟨I.ok, I.os, I.bare, ⟨fun b o e n hb hx => ?_, fun b o e n hb hx => ?_, I.base.free, fun b o e hx => ?_, I.base.tups, I.base.frzs, I.base.tbls⟩, ⟨_, hn', fun j y v' e1 e2 e3 => ?_⟩, fun y c e => ?_, I.free, I.freeC, fun p hp => ?_, tracked ⟨oL, hoL, I.free⟩ hs, by simpa using I.len⟩ ⟨_, hs, .inl rfl⟩
  ·exact (hs.2 b (Nat.ne_of_lt (Nat.lt_of_lt_of_le (Heap.lt_size e) I.ok.above))).trans (I.base.keep b o e n hb hx)
  ·obtain ⟨sl, e1⟩ := I.base.slot b o e n hb hx
   exact ⟨sl, (hs.2 b (Nat.ne_of_lt (Nat.lt_of_lt_of_le (Heap.lt_size e) I.ok.above))).trans e1⟩
  ·obtain ⟨o', e1⟩ := I.base.there b o e hx
   exact ⟨o', (hs.2 b (Nat.ne_of_lt (Nat.lt_of_lt_of_le (Heap.lt_size e) I.ok.above))).trans e1⟩
  ·by_cases hj : j = i
   ·subst hj
    rw [hi] at e1; cases e1
    rw [List.getElem?_set_self hiσ] at e2
    cases e2
    exact ⟨u, r, .inl ⟨hk, by simp⟩⟩
   ·rw [List.getElem?_set_ne (Ne.symm hj)] at e2
    obtain ⟨u', r', q⟩ := hl j y v' e1 e2 e3
    refine ⟨u', r', ?_⟩
    rcases q with ⟨k, e⟩ | ⟨k, c, e, z⟩
    ·refine .inl ⟨k, ?_⟩
     have : y ≠ x := fun e => hj (aTH hN e1 (e ▸ hi))
     simp [this, e]
    ·exact .inr ⟨k, c, e, z.sameBut hs (cne y c e)⟩
  ·obtain ⟨w', z⟩ := I.cell y c e
   exact ⟨w', z.sameBut hs (cne y c e)⟩
  ·obtain ⟨e, n, ne, nf, d⟩ := I.pin p hp
   exact ⟨(hs.2 p.1 ne).trans e, n, ne, nf, d⟩
 ·have hfn : X.fn x = true := by
   rcases hf with z | z
   ·exact z
   ·rw [z] at hk; cases hk
  obtain ⟨c, hc⟩ := I.ok.has x (.inl hk)
  obtain ⟨w', z⟩ := I.cell x c hc
  refine wpAny_storeName_cell I.ok.kind hk hc z (fun h' hc' hs => ?_)
  obtain ⟨oc, hoc, hocd⟩ := id z
  refine h { s with heap := h' } ⟨I.ok, I.os, I.bare, ⟨fun b o e n hb hx => ?_, fun b o e n hb hx => ?_, I.base.free, fun b o e hx => ?_, I.base.tups, I.base.frzs, I.base.tbls⟩, ⟨m, hn.sameBut hs (Ne.symm (cne x c hc)), fun j y v' e1 e2 e3 => ?_⟩, fun y c' e => ?_, I.free, I.freeC, fun p hp => ?_, tracked ⟨oc, hoc, I.freeC x c hc⟩ hs, by simpa using I.len⟩ ⟨c, hs, .inr hc⟩
  ·exact (hs.2 b (Nat.ne_of_lt (Nat.lt_of_lt_of_le (Heap.lt_size e) (I.ok.cab x c hfn hc)))).trans (I.base.keep b o e n hb hx)
  ·obtain ⟨sl, e1⟩ := I.base.slot b o e n hb hx
   exact ⟨sl, (hs.2 b (Nat.ne_of_lt (Nat.lt_of_lt_of_le (Heap.lt_size e) (I.ok.cab x c hfn hc)))).trans e1⟩
  ·obtain ⟨o', e1⟩ := I.base.there b o e hx
   exact ⟨o', (hs.2 b (Nat.ne_of_lt (Nat.lt_of_lt_of_le (Heap.lt_size e) (I.ok.cab x c hfn hc)))).trans e1⟩
  ·by_cases hj : j = i
   ·subst hj
    rw [hi] at e1; cases e1
    rw [List.getElem?_set_self hiσ] at e2
    cases e2
    exact ⟨u, r, .inr ⟨.inl hk, c, hc, hc'⟩⟩
   ·rw [List.getElem?_set_ne (Ne.symm hj)] at e2
    obtain ⟨u', r', q⟩ := hl j y v' e1 e2 e3
    refine ⟨u', r', ?_⟩
    rcases q with q | ⟨k, c', e, z'⟩
    ·exact .inl q
    ·refine .inr ⟨k, c', e, z'.sameBut hs ?_⟩
     rintro rfl
     exact hj (aTH hN e1 (I.ok.inj _ _ _ e hc ▸ hi))
  ·by_cases hcc : c' = c
   ·subst hcc; exact ⟨_, hc'⟩
   ·obtain ⟨w2, z2⟩ := I.cell y c' e
    exact ⟨w2, z2.sameBut hs hcc⟩
  ·obtain ⟨e, n, ne, nf, d⟩ := I.pin p hp
   refine ⟨(hs.2 p.1 ?_).trans e, n, ne, nf, d⟩
   intro q
   rw [q, hoc] at e
   have q' : oc = p.2 := Option.some.inj e
   exact d w' (by rw [<- q']; exact hocd)
theorem aEF {M : Model} {A : Around} {E : Value -> Shared -> Prop} {i : Nat} {x : Str} {v : V} {u : Value} {Q : Unit -> Shared -> Prop} (I : Inv X pins σ H s) (hN : X.N.Nodup) (hi : X.N[i]? = some x) (hx : Loc X.env.scope x) (r : RelV v u)
  (h : ∀ s', Inv X pins (σ.set i (some v)) H s' -> Q () s') (hf : X.fn x = true \/ X.env.scope.names.lookup x = some .local := by first | exact .inl rfl | exact .inr rfl | assumption) : wpAny M A (storeName X.env x u) Q E s :=
 aWA I hN hi hx r (fun s' I' _ => h s' I') hf
theorem Inv.call' {s' : Shared} {ch : List Addr} (I : Inv X pins σ H s) (ho : s'.os = s.os) (u : Un (frs X.stack) ch H H' s.heap s'.heap) (hok : HOk X.prog X.w H' s'.heap) (hg : AllBare s'.gens)
  (hch : ∀ b ∈ ch, (b ∈ X.ex \/ X.s₀.heap.objs.size <= b) /\ b ≠ X.env.locals /\ (∀ x c, X.env.cells.lookup x = some c -> c ≠ b) /\ ∀ p ∈ X.pn ++ pins, p.1 ≠ b) : Inv X pins σ H' s' := by
 obtain ⟨h', g', d', t', o'⟩ := s'
 have e : o' = s.os := ho
 subst e
 exact I.call (g' := g') (t' := t') (d' := d') u hok hg hch
end
abbrev XK := Value -> Option Addr -> Hp -> Prop
abbrev St := List (Option V)
abbrev VK := V -> Hp -> Prop
abbrev TE := St -> Hp -> VK -> Prop
abbrev TT := St -> Hp -> (Bool -> Hp -> Prop) -> Prop
abbrev TA := St -> Hp -> (List V -> Hp -> Prop) -> Prop
structure aFO where
 nx : St -> Hp -> Prop
 rt : VK
 bk : St -> Hp -> Prop := fun _ _ => False
 ct : St -> Hp -> Prop := fun _ _ => False
abbrev TS := aFO -> St -> Hp -> Prop
def EP (X : Cx) (pins : List (Addr × Obj)) (σ : St) (Q : VK) (u : Value) (s' : Shared) : Prop := ∃ v H', Inv X pins σ H' s' /\ RelV v u /\ Q v H'
def TP (X : Cx) (pins : List (Addr × Obj)) (σ : St) (Q : Bool -> Hp -> Prop) (b : Bool) (s' : Shared) : Prop := ∃ H', Inv X pins σ H' s' /\ Q b H'
def AP (X : Cx) (pins : List (Addr × Obj)) (σ : St) (Q : List V -> Hp -> Prop) (us : List Value) (s' : Shared) : Prop := ∃ vs H', Inv X pins σ H' s' /\ Vals vs us /\ Q vs H'
def SP (X : Cx) (pins : List (Addr × Obj)) (D : aFO) (f : Flow) (s' : Shared) : Prop :=
 match f with
 | .next => ∃ σ' H', Inv X pins σ' H' s' /\ D.nx σ' H'
 | .brk => ∃ σ' H', Inv X pins σ' H' s' /\ D.bk σ' H'
 | .cont => ∃ σ' H', Inv X pins σ' H' s' /\ D.ct σ' H'
 | .ret u => ∃ v σ' H', Inv X pins σ' H' s' /\ RelV v u /\ D.rt v H'
def PE (X : Cx) (e : Expr) (t : TE) : Prop :=
 ∀ (pins : List (Addr × Obj)) (s : Shared) (σ : St) (H : Hp) (Q : VK), Inv X pins σ H s -> t σ H Q -> wpAny (model X.prog X.w) X.A (eval e X.env) (EP X pins σ Q) X.xe s
def PT (X : Cx) (e : Expr) (t : TT) : Prop :=
 ∀ (pins : List (Addr × Obj)) (s : Shared) (σ : St) (H : Hp) (Q : Bool -> Hp -> Prop), Inv X pins σ H s -> t σ H Q -> wpAny (model X.prog X.w) X.A (isTrue e X.env (eval e X.env)) (TP X pins σ Q) X.xe s
def PW (X : Cx) (e : Expr) (t : TT) : Prop :=
 ∀ (whole : Sem Value) (pins : List (Addr × Obj)) (s : Shared) (σ : St) (H : Hp) (Q : Bool -> Hp -> Prop), Inv X pins σ H s -> t σ H Q -> wpAny (model X.prog X.w) X.A (isTrue e X.env whole) (TP X pins σ Q) X.xe s
def PA (X : Cx) (es : List Expr) (t : TA) : Prop :=
 ∀ (pos : Pos) (pins : List (Addr × Obj)) (s : Shared) (σ : St) (H : Hp) (Q : List V -> Hp -> Prop), Inv X pins σ H s -> t σ H Q -> wpAny (model X.prog X.w) X.A (spliced (backTo pos (starEach es X.env))) (AP X pins σ Q) X.xe s
def PS (X : Cx) (st : Stmt) (t : TS) : Prop :=
 ∀ (pins : List (Addr × Obj)) (s : Shared) (σ : St) (H : Hp) (D : aFO), Inv X pins σ H s -> t D σ H -> wpAny (model X.prog X.w) X.A (exec st X.env) (SP X pins D) X.xe s
def PSs (X : Cx) (st : List Stmt) (t : TS) : Prop :=
 ∀ (pins : List (Addr × Obj)) (s : Shared) (σ : St) (H : Hp) (D : aFO), Inv X pins σ H s -> t D σ H -> wpAny (model X.prog X.w) X.A (execs st X.env) (SP X pins D) X.xe s
theorem thn {α : Type} {t : Sem α} {Q Q' : α -> Shared -> Prop} {M : Model} {A : Around} {E : Value -> Shared -> Prop} {s : Shared} (h : wpAny M A t Q E s) (hQ : ∀ a s, Q a s -> Q' a s) : wpAny M A t Q' E s := wpAny_mono h hQ fun _ _ x => x
section
variable {X : Cx}
theorem bin {a b : Expr} {ta tb : TE} (ha : PE X a ta) (hb : PE X b tb) {pins : List (Addr × Obj)} {s : Shared} {σ : St} {H : Hp} {R : V -> V -> Hp -> Prop} (I : Inv X pins σ H s) (h : ta σ H fun x H1 => tb σ H1 fun y H2 => R x y H2)
  {α : Type} {Q : α -> Shared -> Prop} {f : Value -> Value -> Sem α}
  (hf : ∀ v u s2 x y H2, Inv X pins σ H2 s2 -> RelV x v -> RelV y u -> R x y H2 -> wpAny (model X.prog X.w) X.A (f v u) Q X.xe s2) :
  wpAny (model X.prog X.w) X.A (eval a X.env) (fun v s₁ => wpAny (model X.prog X.w) X.A (eval b X.env) (fun u s₂ => wpAny (model X.prog X.w) X.A (f v u) Q X.xe s₂) X.xe s₁) X.xe s := by
 refine thn (ha pins s σ H _ I h) fun v s1 ⟨x, H1, I1, r1, q1⟩ => ?_
 refine thn (hb pins s1 σ H1 _ I1 q1) fun u s2 ⟨y, H2, I2, r2, q2⟩ => ?_
 exact hf v u s2 x y H2 I2 r1 r2 q2
def eNN (i : Nat) : TE := fun σ H Q => ∃ v, σ[i]? = some (some v) /\ Q v H
def tC (v : V) : TE := fun _ H Q => Q v H
theorem eIO {i : Nat} {x : Str} {pos : Pos} (hN : X.N[i]? = some x) (hv : Vis X.env.scope x) (hd : (x == ("__debug__" : Str)) = false := by decide) (hcd : (x == ("__classdict__" : Str)) = false := by decide) : PE X (.Name x pos) (eNN i) := by
 intro pins s σ H Q I h
 obtain ⟨v, e, h⟩ := h
 obtain ⟨m, hn, hl⟩ := I.loc
 obtain ⟨u, r, l⟩ := hl i x v hN e hv
 have fin : EP X pins σ Q u s := ⟨v, H, I, r, h⟩
 rcases l with ⟨hk, hm⟩ | ⟨hk, c, hc, hcell⟩
 ·exact wpAny_Name (wpAny_loadName_local I.ok.kind hk hn hm fin) hd
 ·rcases hk with hk | hk
  ·exact wpAny_Name (wpAny_loadName_cell I.ok.kind hk hc hcell fin) hd
  ·exact wpAny_Name (wpAny_loadName_free I.ok.kind hk hc hcell fin hcd) hd
theorem eCS {i j pos} : PE X (.Constant (.int i) j pos) (tC (.int i)) := fun _ _ _ H _ I h => wpAny_Constant_int ⟨.int i, H, I.tok _, ⟨_, rfl⟩, h⟩
theorem eMH {b j pos} : PE X (.Constant (.bool b) j pos) (tC (.bl b)) := fun _ _ _ H _ I h => Constant_bool ⟨.bl b, H, I, rfl, h⟩
theorem eIQ {x j pos} : PE X (.Constant (.str x) j pos) (tC (.str x)) := fun _ _ _ H _ I h => Calls.Constant_str ⟨.str x, H, I.tok _, ⟨_, rfl⟩, h⟩
def Gl (X : Cx) (x : Str) : Prop := X.env.kindOf x = some .globalImplicit
theorem aRG {E : Value -> Shared -> Prop} {pins : List (Addr × Obj)} {s : Shared} {σ : St} {H : Hp} {x : Str} {u : Value} {pos : Pos} {Q : Value -> Shared -> Prop} (I : Inv X pins σ H s) (hg : Gl X x) (hm : X.mg x = some u) (h : Q u s)
  (hd : (x == ("__debug__" : Str)) = false := by decide) : wpAny (model X.prog X.w) X.A (eval (.Name x pos) X.env) Q E s :=
 Calls.Name_function_global I.ok.kind hg (Calls.loadGlobal_global (by rw [I.ok.glob]; exact I.mod.glob.keeps I.bk) hm h) hd
theorem aKS {E : Value -> Shared -> Prop} {pins : List (Addr × Obj)} {s : Shared} {σ : St} {H : Hp} {x : Str} {u : Value} {pos : Pos} {Q : Value -> Shared -> Prop} (I : Inv X pins σ H s) (hg : Gl X x) (hm : X.mg x = none) (hv : bootBuiltins x = some u) (h : Q u s)
  (hn : x ≠ "__name__" := by decide) (hd : (x == ("__debug__" : Str)) = false := by decide) : wpAny (model X.prog X.w) X.A (eval (.Name x pos) X.env) Q E s := by
 obtain ⟨mb, h1, h2⟩ := I.mod.blt
 exact Calls.Name_function_global I.ok.kind hg (Calls.loadGlobal_builtin (by rw [I.ok.glob]; exact I.mod.glob.keeps I.bk) hm (by rw [I.ok.blt]; exact h1.keeps I.bk) ((h2 x hn).trans hv) h) hd
theorem aQV {x : Str} {v : V} {u : Value} {pos : Pos} (hg : Gl X x) (hm : X.mg x = some u) (r : RelV v u) (hd : (x == ("__debug__" : Str)) = false := by decide) : PE X (.Name x pos) (tC v) :=
 fun _ _ _ H _ I h => aRG I hg hm ⟨v, H, I, r, h⟩ hd
theorem aXK {x : Str} {v : V} {u : Value} {pos : Pos} (hg : Gl X x) (hm : X.mg x = none) (hv : bootBuiltins x = some u) (r : RelV v u) (hn : x ≠ "__name__" := by decide) (hd : (x == ("__debug__" : Str)) = false := by decide) : PE X (.Name x pos) (tC v) :=
 fun _ _ _ H _ I h => aKS I hg hm hv ⟨v, H, I, r, h⟩ hn hd
variable {a b : Expr} {ta tb : TE} {pos : Pos}
def PC (X : Cx) (op : CmpOp) (a b : Expr) (t : TE) : Prop :=
 ∀ (pins : List (Addr × Obj)) (s : Shared) (σ : St) (H : Hp) (Q : VK), Inv X pins σ H s -> t σ H Q ->
  wpAny (model X.prog X.w) X.A (eval a X.env) (fun v s₁ => wpAny (model X.prog X.w) X.A (eval b X.env) (fun u s₂ => wpAny (model X.prog X.w) X.A (compareOp op v u) (EP X pins σ Q) X.xe s₂) X.xe s₁) X.xe s
theorem jG (b : Expr) {op : CmpOp} (h : op ≠ .In) (h2 : op ≠ .NotIn) : behindInMarks op b = false := by
 have e1 : (op == CmpOp.In) = false := by cases op <;> first | rfl | exact absurd rfl h
 have e2 : (op == CmpOp.NotIn) = false := by cases op <;> first | rfl | exact absurd rfl h2
 cases b <;> simp [behindInMarks, e1, e2]
def tB (t : TE) : TT := fun σ H Q => t σ H fun x H1 => ∃ c, x = .bl c /\ Q c H1
theorem eNS {op : CmpOp} {t : TE} (h : PC X op a b t) (h1 : behindInMarks op b = false := by first | exact jG _ (by decide) (by decide) | rfl) : PT X (.Compare a [op] [b] pos) (tB t) := by
 intro pins s σ H Q I hw
 refine wpAny_isTrue_Compare1 (thn (h pins s σ H _ I hw) fun v s1 h1 => thn h1 fun u s2 h2 => thn h2 fun c s3 ⟨x, H1, I1, r1, q1⟩ => ?_) h1
 obtain ⟨d, rfl, q⟩ := q1
 cases r1
 exact wpAny_truthy_bool ⟨H1, I1, q⟩
theorem eIE {e : Expr} {t : TE} (h : PE X e t) (he : ∀ whole, isTrue e X.env whole = (do let v <- whole; standAt e.pos; holding [v] (truthy v)) := by intro _; rfl) : PT X e (tB t) := by
 intro pins s σ H Q I hw
 refine isTrue_plain (thn (h pins s σ H _ I hw) fun v s1 ⟨x, H1, I1, r1, q1⟩ => ?_) (he _)
 obtain ⟨d, rfl, q⟩ := q1
 cases r1
 exact wpAny_truthy_bool ⟨H1, I1, q⟩
variable {tA tB' : TT} {qZ : List Expr}
def eOV (t u : TT) : TT := fun σ H Q => t σ H fun c H1 => if c = true then u σ H1 Q else Q false H1
def tOr (t u : TT) : TT := fun σ H Q => t σ H fun c H1 => if c = true then Q true H1 else u σ H1 Q
def eON (t : TT) : TT := fun σ H Q => t σ H fun c H1 => Q (!c) H1
theorem eEZ (ha : PT X a tA) : PW X (.BoolOp .And [a] pos) tA := by
 intro wh pins s σ H Q I h
 refine isTrue_and (thn (ha pins s σ H Q I h) fun c s1 e => ?_)
 cases c with
 | true => exact isTrue_and_nil e
 | false => exact e
theorem eIC (ha : PT X a tA) : PW X (.BoolOp .Or [a] pos) tA := by
 intro wh pins s σ H Q I h
 refine isTrue_or (thn (ha pins s σ H Q I h) fun c s1 e => ?_)
 cases c with
 | false => exact isTrue_or_nil e
 | true => exact e
theorem eCK (ha : PT X a tA) (hb : PW X (.BoolOp .And (b :: qZ) pos) tB') : PW X (.BoolOp .And (a :: b :: qZ) pos) (eOV tA tB') := by
 intro wh pins s σ H Q I h
 refine isTrue_and (thn (ha pins s σ H _ I h) fun c s1 ⟨H1, I1, q1⟩ => ?_)
 cases c with
 | true => exact hb wh pins s1 σ H1 Q I1 q1
 | false => exact ⟨H1, I1, q1⟩
theorem eID (ha : PT X a tA) (hb : PW X (.BoolOp .Or (b :: qZ) pos) tB') : PW X (.BoolOp .Or (a :: b :: qZ) pos) (tOr tA tB') := by
 intro wh pins s σ H Q I h
 refine isTrue_or (thn (ha pins s σ H _ I h) fun c s1 ⟨H1, I1, q1⟩ => ?_)
 cases c with
 | true => exact ⟨H1, I1, q1⟩
 | false => exact hb wh pins s1 σ H1 Q I1 q1
theorem eIF (ha : PT X a tA) : PT X (.UnaryOp .Not a pos) (eON tA) := by
 intro pins s σ H Q I h
 exact isTrue_not (ha pins s σ H (fun c H1 => Q (!c) H1) I h)
def eMC (ta tb : TE) : TE := fun σ H Q => ta σ H fun x H1 => ∃ c, x = .bl c /\ if c = true then tb σ H1 Q else Q (.bl false) H1
theorem eIR {op} {t : TE} (h : PE X a t) : PE X (.BoolOp op [a] pos) t := fun pins s σ H Q I hw => BoolOp_one (h pins s σ H Q I hw)
theorem eCT (ha : PE X a ta) (hb : PE X (.BoolOp .And (b :: qZ) pos) tb) : PE X (.BoolOp .And (a :: b :: qZ) pos) (eMC ta tb) := by
 intro pins s σ H Q I h
 refine BoolOp_and (thn (ha pins s σ H _ I h) fun v s1 ⟨x, H1, I1, r1, q1⟩ => ?_)
 obtain ⟨c, rfl, q1⟩ := q1
 cases r1
 refine wpAny_truthy_bool ?_
 cases c with
 | true => exact hb pins s1 σ H1 Q I1 q1
 | false => exact ⟨.bl false, H1, I1, rfl, q1⟩
def tIf (t : TT) (ta tb : TE) : TE := fun σ H Q => t σ H fun c H1 => if c = true then ta σ H1 Q else tb σ H1 Q
theorem aGN {c : Expr} (hc : PT X c tA) (ha : PE X a ta) (hb : PE X b tb) : PE X (.IfExp c a b pos) (tIf tA ta tb) := by
 intro pins s σ H Q I h
 refine wpAny_IfExp (thn (hc pins s σ H _ I h) fun d s1 ⟨H1, I1, q1⟩ => ?_)
 cases d with
 | true => exact ha pins s1 σ H1 Q I1 q1
 | false => exact hb pins s1 σ H1 Q I1 q1
end
def SqL (K : PySem.W.Frag) (H : Hp) (a : Addr) (xs : List V) : Prop :=
 Rd H a (.lst xs) \/
  ∃ (o : Obj) (its : Array Value) (n : Nat), K.lookup a = some o /\ o.cls = .type "list" /\ o.dict = none /\ o.data = .seq its n /\ its.size <= sizeLine /\ Vals xs its.toList
def SqT (K : PySem.W.Frag) (H : Hp) (a : Addr) (xs : List V) : Prop :=
 Rd H a (.tup xs) \/
  ∃ (o : Obj) (its : Array Value) (n : Nat), K.lookup a = some o /\ o.cls = .type "tuple" /\ o.data = .seq its n /\ its.size <= sizeLine /\ Vals xs its.toList
def ePQ : Value -> Option V
 | .none => some .non
 | .bool b => some (.bl b)
 | .int i _ => some (.int i)
 | .str x _ => some (.str x)
 | .bytes b _ => some (.byt b)
 | .float b _ => some (.flt b)
 | .ref a => some (.ref a)
 | .type n => some (.ty n)
 | _ => none
theorem RelV.abs {x : V} {u : Value} (r : RelV x u) : ePQ u = some x := by
 cases x with
 | non => cases r; rfl
 | bl _ => cases r; rfl
 | int _ => obtain ⟨t, rfl⟩ := r; rfl
 | str _ => obtain ⟨t, rfl⟩ := r; rfl
 | byt _ => obtain ⟨t, rfl⟩ := r; rfl
 | flt _ => obtain ⟨t, rfl⟩ := r; rfl
 | ref _ => cases r; rfl
 | ty _ => cases r; rfl
theorem RelV.inj {x y : V} {u : Value} (r : RelV x u) (q : RelV y u) : x = y := Option.some.inj (r.abs.symm.trans q.abs)
theorem Vals.inj : ∀ {xs ys : List V} {us : List Value}, Vals xs us -> Vals ys us -> xs = ys
 | _, _, _, .nil, .nil => rfl
 | _, _, _, .cons r t, .cons r' t' => by rw [r.inj r', Vals.inj t t']
section
variable {X : Cx} {pins : List (Addr × Obj)} {σ : St} {H : Hp} {s : Shared} {a : Addr} {xs ys : List V}
theorem SqL.of {K : PySem.W.Frag} (h : H a = some (.lst xs)) : SqL K H a xs := .inl (.inl h)
theorem SqT.of {K : PySem.W.Frag} (h : H a = some (.tup xs)) : SqT K H a xs := .inl (.inl h)
theorem Inv.list (I : Inv X pins σ H s) (h : SqL X.K H a xs) : ∃ its : List Value, Vals xs its /\ PlainL s.heap a its.toArray /\ xs.length <= sizeLine := by
 rcases h with h | ⟨o, its, n, hk, hc, hd, hs, hz, r⟩
 ·obtain ⟨z, its, n, r, e⟩ := h.ok I.hok
  exact ⟨its, r, ⟨_, n, e, rfl, rfl, rfl⟩, z⟩
 ·refine ⟨its.toList, r, ⟨o, n, I.kIn a o hk, hc, hd, by simpa using hs⟩, ?_⟩
  have e := r.length
  simp only [Array.length_toList] at e
  omega
theorem Inv.tuple (I : Inv X pins σ H s) (h : SqT X.K H a xs) : ∃ its : List Value, Vals xs its /\ IsTup s.heap a its.toArray /\ xs.length <= sizeLine := by
 rcases h with h | ⟨o, its, n, hk, hc, hs, hz, r⟩
 ·obtain ⟨z, its, r, p⟩ := h.ok I.hok
  exact ⟨its, r, p, z⟩
 ·refine ⟨its.toList, r, ⟨o, I.kIn a o hk, hc, n, by simpa using hs⟩, ?_⟩
  have e := r.length
  simp only [Array.length_toList] at e
  omega
theorem Inv.list_inj (I : Inv X pins σ H s) (h : SqL X.K H a xs) (h' : SqL X.K H a ys) : xs = ys := by
 obtain ⟨its, r, ⟨o, n, e, _, _, d⟩, _⟩ := I.list h
 obtain ⟨its', r', ⟨o', n', e', _, _, d'⟩, _⟩ := I.list h'
 rw [e] at e'; cases e'
 rw [d] at d'
 injection d' with d1 _
 have : its = its' := by simpa using congrArg Array.toList d1
 subst this
 exact r.inj r'
theorem Inv.tuple_inj (I : Inv X pins σ H s) (h : SqT X.K H a xs) (h' : SqT X.K H a ys) : xs = ys := by
 obtain ⟨its, r, ⟨o, e, _, n, d⟩, _⟩ := I.tuple h
 obtain ⟨its', r', ⟨o', e', _, n', d'⟩, _⟩ := I.tuple h'
 rw [e] at e'; cases e'
 rw [d] at d'
 injection d' with d1 _
 have : its = its' := by simpa using congrArg Array.toList d1
 subst this
 exact r.inj r'
end
abbrev Cx.wish (X : Cx) (E : Value -> Shared -> Prop) : Cx := { X with xe := E }
abbrev Cx.nox (X : Cx) : Cx := X.wish fun _ _ => False
theorem Cx.Ok.wish {X : Cx} (ok : X.Ok) (E : Value -> Shared -> Prop) : (X.wish E).Ok :=
 ⟨ok.mod, ok.kind, ok.glob, ok.blt, ok.above, ok.inj, ok.has, ok.cab, ok.hd, ok.frames, ok.stk, ok.exf, ok.bs, ok.bsz, ok.noex, ok.exfs, ok.funs, ok.frf⟩
theorem Cx.Ok.unwish {X : Cx} {E : Value -> Shared -> Prop} (ok : (X.wish E).Ok) : X.Ok :=
 ⟨ok.mod, ok.kind, ok.glob, ok.blt, ok.above, ok.inj, ok.has, ok.cab, ok.hd, ok.frames, ok.stk, ok.exf, ok.bs, ok.bsz, ok.noex, ok.exfs, ok.funs, ok.frf⟩
section
variable {X : Cx} {pins : List (Addr × Obj)} {σ : St} {H : Hp} {s : Shared} {E : Value -> Shared -> Prop}
theorem Inv.wish (I : Inv X pins σ H s) (E : Value -> Shared -> Prop) : Inv (X.wish E) pins σ H s := ⟨I.ok.wish E, I.os, I.bare, I.base, I.loc, I.cell, I.free, I.freeC, I.pin, I.hok, I.len⟩
theorem Inv.unwish (I : Inv (X.wish E) pins σ H s) : Inv X pins σ H s := ⟨I.ok.unwish, I.os, I.bare, I.base, I.loc, I.cell, I.free, I.freeC, I.pin, I.hok, I.len⟩
theorem SP.unwish {D : aFO} {f : Flow} {s' : Shared} (h : SP (X.wish E) pins D f s') : SP X pins D f s' := by
 cases f with
 | next => obtain ⟨σ', H', I, q⟩ := h; exact ⟨σ', H', I.unwish, q⟩
 | brk => obtain ⟨σ', H', I, q⟩ := h; exact ⟨σ', H', I.unwish, q⟩
 | cont => obtain ⟨σ', H', I, q⟩ := h; exact ⟨σ', H', I.unwish, q⟩
 | ret u => obtain ⟨v, σ', H', I, r, q⟩ := h; exact ⟨v, σ', H', I.unwish, r, q⟩
theorem PSs.nox {st : List Stmt} {t : TS} (h : PSs X.nox st t) : PSs X st t := fun pins s σ H D I hw =>
 wpAny_mono (h pins s σ H D (I.wish _) hw) (fun _ _ q => q.unwish) fun _ _ z => False.elim z
end
section
variable {X : Cx} {st : Stmt} {qZ : List Stmt} {t u : TS} {e : Expr} {te : TE} {pos : Pos}
def eLW : TS := fun D σ H => D.nx σ H
def eOK (t u : TS) : TS := fun D σ H => t { D with nx := u D } σ H
theorem eFB : PSs X [] eLW := fun _ _ σ H _ I h => wpAny_execs_nil ⟨σ, H, I, h⟩
theorem wY (h1 : PS X st t) (h2 : PSs X qZ u) : PSs X (st :: qZ) (eOK t u) := by
 intro pins s σ H D I h
 refine wpAny_execs_cons (thn (h1 pins s σ H { D with nx := u D } I h) fun f s1 q => ?_)
 cases f with
 | next =>
  obtain ⟨σ', H', I', q⟩ := q
  exact h2 pins s1 σ' H' D I' q
 | ret v => exact q
 | brk => exact q
 | cont => exact q
theorem aDU (h1 : PS X st t) : PSs X [st] t := by
 intro pins s σ H D I h
 refine wpAny_execs_cons (thn (h1 pins s σ H D I h) fun f s1 q => ?_)
 cases f with
 | next => exact wpAny_execs_nil q
 | ret v => exact q
 | brk => exact q
 | cont => exact q
theorem Inv.quiet {pins : List (Addr × Obj)} {σ : St} {H : Hp} {s : Shared} (I : Inv X pins σ H s) : interactive X.env = false := by simp [interactive, I.ok.kind]
def eLY (te : TE) : TS := fun D σ H => te σ H fun _ H1 => D.nx σ H1
theorem aDV (he : PE X e te) (hs : swapsWith e none pos.line X.env = pure false := by rfl) : PS X (.Expr e pos) (eLY te) := by
 intro pins s σ H D I h
 exact wpAny_Expr_any (thn (he pins s σ H _ I h) fun v s1 ⟨x, H1, I1, r1, q1⟩ => ⟨σ, H1, I1, q1⟩) I.quiet hs
def eOL (te : TE) : TS := fun D σ H => te σ H D.rt
theorem aOK (he : PE X e te) : PS X (.Return (some e) pos) (eOL te) := by
 intro pins s σ H D I h
 exact wpAny_Return_some (thn (he pins s σ H _ I h) fun v s1 ⟨x, H1, I1, r1, q1⟩ => ⟨x, σ, H1, I1, r1, q1⟩)
def eLU : TS := fun D _ H => D.rt .non H
theorem eFC : PS X (.Return none pos) eLU := fun _ _ σ H _ I h => wpAny_Return_none ⟨.non, σ, H, I, rfl, h⟩
def eOQ (c : TT) (t u : TS) : TS := fun D σ H => c σ H fun b H1 => if b = true then t D σ H1 else u D σ H1
theorem aUN {c : Expr} {a b : List Stmt} {tc : TT} (hc : PT X c tc) (ha : PSs X a t) (hb : PSs X b u) : PS X (.If c a b pos) (eOQ tc t u) := by
 intro pins s σ H D I h
 refine wpAny_If (thn (hc pins s σ H _ I h) fun d s1 ⟨H1, I1, q1⟩ => ?_)
 cases d with
 | true => exact ha pins s1 σ H1 D I1 q1
 | false => exact hb pins s1 σ H1 D I1 q1
end
abbrev TG := V -> St -> Hp -> (St -> Hp -> Prop) -> Prop
abbrev TGs := List V -> St -> Hp -> (St -> Hp -> Prop) -> Prop
def PG (X : Cx) (target : Expr) (t : TG) : Prop :=
 ∀ (pins : List (Addr × Obj)) (s : Shared) (σ : St) (H : Hp) (v : V) (u : Value) (Q : St -> Hp -> Prop), Inv X pins σ H s -> RelV v u -> t v σ H Q ->
  wpAny (model X.prog X.w) X.A (assign target X.env u) (fun _ s' => ∃ σ' H', Inv X pins σ' H' s' /\ Q σ' H') X.xe s
def PGs (X : Cx) (ts : List Expr) (t : TGs) : Prop :=
 ∀ (pins : List (Addr × Obj)) (s : Shared) (σ : St) (H : Hp) (vs : List V) (us : List Value) (Q : St -> Hp -> Prop), Inv X pins σ H s -> Vals vs us -> t vs σ H Q ->
  wpAny (model X.prog X.w) X.A (assignInOrder ((assignEach ts X.env).map (·.2)) us) (fun _ s' => ∃ σ' H', Inv X pins σ' H' s' /\ Q σ' H') X.xe s
abbrev eHG := V -> V -> V -> Hp -> (Hp -> Prop) -> Prop
def eLL (X : Cx) (t : eHG) : Prop :=
 ∀ (pins : List (Addr × Obj)) (s : Shared) (σ : St) (H : Hp) (o i v : V) (ov iv u : Value) (Q : Hp -> Prop), Inv X pins σ H s -> RelV o ov -> RelV i iv -> RelV v u -> t o i v H Q ->
  wpAny (model X.prog X.w) X.A (setItem ov iv u) (fun _ s' => ∃ H', Inv X pins σ H' s' /\ Q H') X.xe s
abbrev TIp := V -> V -> Hp -> VK -> Prop
def PIp (X : Cx) (op : Operator) (t : TIp) : Prop :=
 ∀ (pins : List (Addr × Obj)) (s : Shared) (σ : St) (H : Hp) (x y : V) (v u : Value) (Q : VK), Inv X pins σ H s -> RelV x v -> RelV y u -> t x y H Q ->
  wpAny (model X.prog X.w) X.A (inplaceOp op v u) (EP X pins σ Q) X.xe s
section
variable {X : Cx} {pos : Pos}
def eKF (i : Nat) : TG := fun v σ H Q => Q (σ.set i (some v)) H
theorem aLZ {i : Nat} {x : Str} (hN : X.N.Nodup) (hi : X.N[i]? = some x) (hx : Loc X.env.scope x) (hf : X.fn x = true \/ X.env.scope.names.lookup x = some .local := by first | exact .inl rfl | exact .inr rfl | assumption) : PG X (.Name x pos) (eKF i) := by
 intro pins s σ H v u Q I r h
 exact wpAny_assign_Name (aEF I hN hi hx r (fun s' I' => ⟨_, H, I', h⟩) hf)
def ePM : TGs := fun vs σ H Q => vs = [] /\ Q σ H
def eMW (t : TG) (u : TGs) : TGs := fun vs σ H Q => ∃ v r, vs = v :: r /\ t v σ H fun σ' H' => u r σ' H' Q
theorem aXI : PGs X [] ePM := by
 intro pins s σ H vs us Q I r h
 obtain ⟨e, h⟩ := h
 subst e
 cases r
 exact assignInOrder_nil ⟨σ, H, I, h⟩
theorem aLY {e : Expr} {es : List Expr} {t : TG} {u : TGs} (h1 : PG X e t) (h2 : PGs X es u)
  (hs : (assignEach (e :: es) X.env).map (·.2) = assign e X.env :: (assignEach es X.env).map (·.2) := by rfl) : PGs X (e :: es) (eMW t u) := by
 intro pins s σ H vs us Q I r h
 obtain ⟨v, vr, e1, h⟩ := h
 subst e1
 cases r with
 | cons r rr =>
  rw [hs]
  refine assignInOrder_cons (thn (h1 pins s σ H _ _ _ I r h) fun _ s1 ⟨σ1, H1, I1, q1⟩ => ?_)
  exact h2 pins s1 σ1 H1 _ _ Q I1 rr q1
def ePK (K : PySem.W.Frag) (n : Nat) (t : TGs) : TG := fun v σ H Q => ∃ a xs, v = .ref a /\ SqT K H a xs /\ xs.length = n /\ t xs σ H Q
theorem eCP {es : List Expr} {k : Nat} {t : TGs} {n : Nat} (hc : X.calm = true) (h : PGs X es t)
  (hn : (assignEach es X.env).length = n := by rfl) (hst : (assignEach es X.env).findIdx? (·.1) = none := by rfl) : PG X (.Tuple es k pos) (ePK X.K n t) := by
 intro pins s σ H v u Q I r hw
 obtain ⟨a, xs, e1, hq, hl, hw⟩ := hw
 subst e1
 cases r
 obtain ⟨its, rv, ht, hz⟩ := I.tuple hq
 refine assign_Tuple_tuple (I.ok.hd hc) ht (by simp [hn, <- hl, rv.length]) hst fun h' hx => ?_
 have I1 : Inv X pins σ H { s with heap := h' } := I.kept (t' := s.toks) fun b o e => hx b o (Nat.ne_of_lt (Heap.lt_size e)) e
 exact h pins _ σ H xs _ Q I1 (by simpa using rv) hw
def ePL (to ti : TE) (t : eHG) : TG := fun v σ H Q => to σ H fun o H1 => ti σ H1 fun i H2 => t o i v H2 fun H3 => Q σ H3
theorem eCQ {o i : Expr} {to ti : TE} {t : eHG} (ho : PE X o to) (hi : PE X i ti) (hs : eLL X t)
  (ha : ∀ v, assign (.Subscript o i pos) X.env v = (do
   let ov <- holding [v] (eval o X.env)
   let iv <- holding [v, ov] (eval i X.env)
   standAt pos
   holding [v, ov, iv] (setItem ov iv v)
   release [v, ov, iv] []) := by intro _; rfl) : PG X (.Subscript o i pos) (ePL to ti t) := by
 intro pins s σ H v u Q I r h
 rw [ha]
 refine wpAny_bind (wpAny_holding (thn (ho pins s σ H _ I h) fun ov s1 ⟨x, H1, I1, r1, q1⟩ => ?_))
 refine wpAny_bind (wpAny_holding (thn (hi pins s1 σ H1 _ I1 q1) fun iv s2 ⟨y, H2, I2, r2, q2⟩ => ?_))
 refine wpAny_bind (wpAny_standAt (wpAny_bind (wpAny_holding (thn (hs pins s2 σ H2 x y v ov iv u _ I2 r1 r2 r q2) fun _ s3 ⟨H3, I3, q3⟩ => ?_))))
 exact wpAny_release ⟨σ, H3, I3, q3⟩
def eNO (te : TE) (g : TG) : TS := fun D σ H => te σ H fun x H1 => g x σ H1 D.nx
theorem eIH {tg e : Expr} {te : TE} {g : TG} (he : PE X e te) (hg : PG X tg g) (hs : swapsWithSole [tg] e pos.line X.env = pure false := by rfl) (hw : swappedStores [tg] e X.env = pure none := by rfl)
  (h1 : (assignEach [tg] X.env).map (·.2) = [assign tg X.env] := by rfl) : PS X (.Assign [tg] e pos) (eNO te g) := by
 intro pins s σ H D I h
 refine wpAny_Assign_stores (thn (he pins s σ H _ I h) fun v s1 ⟨x, H1, I1, r1, q1⟩ => ?_) hs hw
 rw [h1]
 exact thn (hg pins s1 σ H1 x v _ I1 r1 q1) fun _ s2 q => q
theorem aKM {i : Nat} {x : Str} {e : Expr} {te : TE} {pos' : Pos} (hN : X.N.Nodup) (hi : X.N[i]? = some x) (hx : Loc X.env.scope x) (he : PE X e te) (hs : swapsWith e (some (.Name x pos')) pos.line X.env = pure false := by rfl) (hf : X.fn x = true \/ X.env.scope.names.lookup x = some .local := by first | exact .inl rfl | exact .inr rfl | assumption) :
  PS X (.Assign [.Name x pos'] e pos) (eNO te (eKF i)) := by
 intro pins s σ H D I h
 refine wpAny_Assign_Name (thn (he pins s σ H _ I h) fun v s1 ⟨y, H1, I1, r1, q1⟩ => ?_) hs
 exact aEF I1 hN hi hx r1 (fun s2 I2 => ⟨_, H1, I2, q1⟩) hf
def eOM (i j : Nat) (ta : TA) : TS := fun D σ H => ta σ H fun vs H1 => ∃ v w, vs = [v, w] /\ D.nx ((σ.set i (some v)).set j (some w)) H1
theorem eIG {i j : Nat} {x y : Str} {a b : Expr} {ta : TA} {px py pt : Pos} {kt k2 pt2} (hc : X.calm = true) (hN : X.N.Nodup) (hi : X.N[i]? = some x) (hj : X.N[j]? = some y) (hij : i ≠ j)
  (hx : X.env.scope.names.lookup x = some .local) (hy : X.env.scope.names.lookup y = some .local) (ha : PA X [a, b] ta)
  (hw : swappedStores [.Tuple [.Name x px, .Name y py] kt pt] (.Tuple [a, b] k2 pt2) X.env = pure (some [x, y]))
  (hs : swapsWithSole [.Tuple [.Name x px, .Name y py] kt pt] (.Tuple [a, b] k2 pt2) pos.line X.env = pure false := by rfl) :
  PS X (.Assign [.Tuple [.Name x px, .Name y py] kt pt] (.Tuple [a, b] k2 pt2) pos) (eOM i j ta) := by
 intro pins s σ H D I h
 rw [exec_Assign_arm]
 refine wpAny_bind (wpAny_standAt ?_)
 rw [hs]
 refine wpAny_bind (wpAny_pure ?_)
 rw [if_neg (by decide)]
 refine wpAny_bind (Tuple_ (thn (ha _ pins s σ H _ I h) fun us s1 ⟨vs, H1, I1, r1, q1⟩ => ?_))
 obtain ⟨v, w, e1, q1⟩ := q1
 subst e1
 obtain ⟨u1, u2, rfl, rv, rw'⟩ : ∃ u1 u2, us = [u1, u2] /\ RelV v u1 /\ RelV w u2 := by
  cases r1 with
  | cons p q =>
   cases q with
   | cons p' q' =>
    cases q'
    exact ⟨_, _, rfl, p, p'⟩
 refine wpAny_newObj_type ?_ (by show 2 <= sizeLine; decide)
 have I2 : Inv X pins σ H1 { s1 with heap := s1.heap.push { cls := .type "tuple", data := .seq [u1, u2].toArray } } := I1.kept (t' := s1.toks) fun b o e => Heap.get?_push_of_some _ e
 rw [hw]
 refine wpAny_bind (wpAny_pure ?_)
 show wpAny (model X.prog X.w) X.A (do rule "assign.swapped-stores"; let items <- unpackItems (.ref s1.heap.objs.size) 2 none; assignInOrder [fun v => bindName X.env y v, fun v => bindName X.env x v] items.reverse; pure Flow.next) _ _ _
 refine wpAny_bind (wpAny_rule (wpAny_bind (unpackItems_tuple (items := #[u1, u2]) (I.ok.hd hc) (IsTup.new s1.heap _) fun h' hx' => ?_)))
 have I3 := I2.kept (h' := h') (t' := s1.toks) fun b o e => hx' b o (Nat.ne_of_lt (Heap.lt_size e)) e
 show wpAny _ _ (assignInOrder [fun v => bindName X.env y v, fun v => bindName X.env x v] [u2, u1] >>= fun _ => pure Flow.next) _ _ _
 refine wpAny_bind (assignInOrder_cons (wpAny_bindName (aEF I3 hN hj (.inl hy) rw' (fun s2 I4 => ?_) (.inr hy))))
 refine assignInOrder_cons (wpAny_bindName (aEF I4 hN hi (.inl hx) rv (fun s3 I5 => assignInOrder_nil (wpAny_pure ?_)) (.inr hx)))
 rw [List.set_comm _ _ (Ne.symm hij)] at I5
 exact ⟨_, H1, I5, q1⟩
def eOU (i : Nat) (te : TE) (ti : TIp) : TS := fun D σ H => ∃ x, σ[i]? = some (some x) /\ te σ H fun y H1 => ti x y H1 fun z H2 => D.nx (σ.set i (some z)) H2
theorem eCM {i : Nat} {x : Str} {e : Expr} {te : TE} {op : Operator} {ti : TIp} {pos' : Pos} (hN : X.N.Nodup) (hi : X.N[i]? = some x) (hx : Loc X.env.scope x) (he : PE X e te) (ho : PIp X op ti) (hf : X.fn x = true \/ X.env.scope.names.lookup x = some .local := by first | exact .inl rfl | exact .inr rfl | assumption) :
  PS X (.AugAssign (.Name x pos') op e pos) (eOU i te ti) := by
 intro pins s σ H D I h
 obtain ⟨v, e1, h⟩ := h
 obtain ⟨m, hn, hl⟩ := I.loc
 have vis : Vis X.env.scope x := by rcases hx with k | k; exact .inl k; exact .inr (.inl k)
 obtain ⟨u, r, l⟩ := hl i x v hi e1 vis
 refine wpAny_AugAssign_Name ?_
 have go : wpAny (model X.prog X.w) X.A (eval e X.env) (fun w s₂ => wpAny (model X.prog X.w) X.A (inplaceOp op u w) (fun r s₃ => wpAny (model X.prog X.w) X.A (storeName X.env x r) (fun _ => SP X pins D .next) X.xe s₃) X.xe s₂) X.xe s := by
  refine thn (he pins s σ H _ I h) fun w s1 ⟨y, H1, I1, r1, q1⟩ => ?_
  refine thn (ho pins s1 σ H1 v y u w _ I1 r r1 q1) fun z s2 ⟨zv, H2, I2, r2, q2⟩ => ?_
  exact aEF I2 hN hi hx r2 (fun s3 I3 => ⟨_, H2, I3, q2⟩) hf
 rcases l with ⟨hk, hm⟩ | ⟨hk, c, hc, hcell⟩
 ·exact wpAny_loadName_local I.ok.kind hk hn hm go
 ·rcases hk with hk | hk
  ·exact wpAny_loadName_cell I.ok.kind hk hc hcell go
  ·rcases hx with k | k
   ·have : X.env.scope.names.lookup x = some .free := hk
    rw [k] at this; cases this
   ·have : X.env.scope.names.lookup x = some .free := hk
    rw [k] at this; cases this
def eMB (to ti te : TE) (tget : V -> V -> Hp -> VK -> Prop) (tip : TIp) (tset : eHG) : TS := fun D σ H => to σ H fun o H1 => ti σ H1 fun i H2 => tget o i H2 fun x H3 => te σ H3 fun y H4 => tip x y H4 fun z H5 => tset o i z H5 fun H6 => D.nx σ H6
def eOD (X : Cx) (t : V -> V -> Hp -> VK -> Prop) : Prop :=
 ∀ (pins : List (Addr × Obj)) (s : Shared) (σ : St) (H : Hp) (o i : V) (ov iv : Value) (Q : VK), Inv X pins σ H s -> RelV o ov -> RelV i iv -> t o i H Q ->
  wpAny (model X.prog X.w) X.A (getItem ov iv) (EP X pins σ Q) X.xe s
theorem eFD {o i e : Expr} {to ti te : TE} {tget : V -> V -> Hp -> VK -> Prop} {tip : TIp} {tset : eHG} {op : Operator} {tpos : Pos} (ho : PE X o to) (hi : PE X i ti) (hg : eOD X tget) (he : PE X e te) (hp : PIp X op tip) (hs : eLL X tset)
  (ha : ∀ ov iv new, augStore i ov iv new = (do holding [new, ov, iv] (setItem ov iv new); release [new, ov, iv] []; pure .next) := by intros; rfl) : PS X (.AugAssign (.Subscript o i tpos) op e pos) (eMB to ti te tget tip tset) := by
 intro pins s σ H D I h
 refine wpAny_AugAssign_SubscriptAny (thn (ho pins s σ H _ I h) fun ov s1 ⟨x1, H1, I1, r1, q1⟩ => ?_) ha
 refine thn (hi pins s1 σ H1 _ I1 q1) fun iv s2 ⟨x2, H2, I2, r2, q2⟩ => ?_
 refine thn (hg pins s2 σ H2 x1 x2 ov iv _ I2 r1 r2 q2) fun old s3 ⟨x3, H3, I3, r3, q3⟩ => ?_
 refine thn (he pins s3 σ H3 _ I3 q3) fun v s4 ⟨x4, H4, I4, r4, q4⟩ => ?_
 refine thn (hp pins s4 σ H4 x3 x4 old v _ I4 r3 r4 q4) fun new s5 ⟨x5, H5, I5, r5, q5⟩ => ?_
 exact thn (hs pins s5 σ H5 x1 x2 x5 ov iv new _ I5 r1 r2 r5 q5) fun _ s6 ⟨H6, I6, q6⟩ => ⟨σ, H6, I6, q6⟩
end
section
variable {X : Cx} {pos : Pos}
def eHP (c : TT) (tb : TS) : TS := fun D σ H => ∃ W : Nat -> St -> Hp -> Prop, (∃ m, W m σ H) /\ ∀ m σ H, W m σ H ->
 c σ H fun b H1 => if b = true then ∃ N : St -> Hp -> Prop, (∀ σ' H', N σ' H' -> ∃ m', m' < m /\ W m' σ' H') /\ tb { D with nx := N, ct := N, bk := D.nx } σ H1 else D.nx σ H1
theorem aSY {c : Expr} {body : List Stmt} {tc : TT} {tb : TS} (hp : PassesOwn (model X.prog X.w) X.A X.env X.xe) (hc : PT X c tc) (hb : PSs X body tb) : PS X (.While c body [] pos) (eHP tc tb) := by
 intro pins s σ H D I h
 obtain ⟨W, ⟨m0, w0⟩, turn⟩ := h
 refine wpAny_While (codeAny_whileLoop (fun n s' => ∃ σ' H', Inv X pins σ' H' s' /\ W n σ' H') ?_ m0 ⟨σ, H, I, w0⟩)
 rintro n s1 ⟨σ1, H1, I1, w1⟩
 refine wpAny_passesOwn hp (thn (hc pins s1 σ1 H1 _ I1 (turn n σ1 H1 w1)) fun b s2 ⟨H2, I2, q2⟩ => ?_)
 cases b with
 | true =>
  obtain ⟨N, hN, q2⟩ := q2
  rw [if_pos rfl]
  refine wpAny_passesOwn hp (thn (hb pins s2 σ1 H2 _ I2 q2) fun f s3 q3 => ?_)
  cases f with
  | next =>
   obtain ⟨σ3, H3, I3, n3⟩ := q3
   obtain ⟨m', hm, w3⟩ := hN σ3 H3 n3
   exact ⟨m', hm, σ3, H3, I3, w3⟩
  | cont =>
   obtain ⟨σ3, H3, I3, n3⟩ := q3
   obtain ⟨m', hm, w3⟩ := hN σ3 H3 n3
   exact ⟨m', hm, σ3, H3, I3, w3⟩
  | brk => exact q3
  | ret v => exact q3
 | false =>
  rw [if_neg Bool.false_ne_true]
  exact wpAny_execs_nil ⟨σ1, H2, I2, q2⟩
end
structure It where
 go : Nat -> Hp -> Prop
 yld : Nat -> Hp -> V -> Hp -> Prop
 stop : Nat -> Hp -> Prop
 hot : Prop
def eNL (X : Cx) : Prop := ∃ (ea : Addr) (oe : Obj) (u : HO) (vs : Array Value), X.A.handled = some (.ref ea) /\ X.H₀ ea = some (.frz oe u) /\ oe.data = .fields vs /\ vs[2]? = some .none
def aUC (X : Cx) (pins : List (Addr × Obj)) (H : Hp) (b : Addr) : Prop :=
 H b = none /\ b ≠ X.env.locals /\ b ∉ X.fs /\ (b ∈ X.ex \/ X.s₀.heap.objs.size <= b) /\ (∀ x c, X.env.cells.lookup x = some c -> c ≠ b) /\ ∀ p ∈ X.pn ++ pins, p.1 ≠ b
theorem Inv.fpOk {X : Cx} {pins : List (Addr × Obj)} {σ : St} {H H' : Hp} {s : Shared} {b : Addr} (I : Inv X pins σ H s) (hb : s.heap.objs.size <= b) (hn : H' b = none) : aUC X pins H' b := by
 refine ⟨hn, Nat.ne_of_gt (Nat.lt_of_lt_of_le I.lt hb), I.nofs hb, .inr (Nat.le_trans I.sz hb), fun x c e z => ?_, fun p hp z => ?_⟩
 ·obtain ⟨v, q⟩ := I.cell x c e
  exact absurd (Nat.lt_of_lt_of_le q.lt (by rw [z]; exact hb)) (Nat.lt_irrefl _)
 ·exact absurd (Nat.lt_of_lt_of_le (Heap.lt_size (I.pin p hp).1) (by rw [z]; exact hb)) (Nat.lt_irrefl _)
structure eAH (P : Program) (w : World) (K : PySem.W.Frag) (tg : Expr) (J : It) (fp : List Addr) (it : Addr) (tn : Nat -> Heap -> Prop) : Prop where
 mem : it ∈ fp
 obj : ∀ i h, tn i h -> ∀ b ∈ fp, ∃ o, h.get? b = some o /\ ∀ v, o.data ≠ .cell v
 keep : ∀ i h h', tn i h -> (∀ b ∈ fp, ∀ o, h.get? b = some o -> h'.get? b = some o) -> tn i h'
 item : ∀ (X : Cx), X.prog = P -> X.w = w -> X.K = K -> (X.calm = true \/ (J.hot /\ eNL X)) -> ∀ (i : Nat) (pins : List (Addr × Obj)) (s : Shared) (σ : St) (H : Hp) (E : Value -> Shared -> Prop), Inv X pins σ H s -> (∀ b ∈ fp, aUC X pins H b) -> tn i s.heap -> J.go i H ->
  wpAny (model P w) X.A (pyNext (.ref it)) (fun r s1 => ∃ u, r = some u /\
   wpAny (model P w) X.A (letOwnedTupleGo tg (.ref it) u) (fun _ s2 => ∃ x H', Inv X pins σ H' s2 /\ RelV x u /\ J.yld i H x H' /\ tn (i + 1) s2.heap /\ ∀ b ∈ fp, H' b = none) E s1) E s
 done : ∀ (X : Cx), X.prog = P -> X.w = w -> X.K = K -> (X.calm = true \/ (J.hot /\ eNL X)) -> ∀ (i : Nat) (pins : List (Addr × Obj)) (s : Shared) (σ : St) (H : Hp) (E : Value -> Shared -> Prop), Inv X pins σ H s -> (∀ b ∈ fp, aUC X pins H b) -> tn i s.heap -> J.stop i H ->
  wpAny (model P w) X.A (pyNext (.ref it)) (fun r s1 => r = none /\ Inv X pins σ H s1) E s
 self : ∀ (A : Around) (i : Nat) (s : Shared) (Q : Value -> Shared -> Prop) (E : Value -> Shared -> Prop), tn i s.heap -> Q (.ref it) s -> wpAny (model P w) A (pyIter (.ref it)) Q E s
abbrev TI := St -> Hp -> (It -> Hp -> Prop) -> Prop
def PIE (X : Cx) (pins : List (Addr × Obj)) (σ : St) (tg : Expr) (R : It -> Hp -> Prop) (itv : Value) (s2 : Shared) : Prop :=
 ∃ (it : Addr) (fp : List Addr) (tn : Nat -> Heap -> Prop) (J : It) (H' : Hp), itv = .ref it /\ Inv X pins σ H' s2 /\ eAH X.prog X.w X.K tg J fp it tn /\ tn 0 s2.heap /\ (∀ b ∈ fp, aUC X pins H' b) /\ R J H'
def PI (X : Cx) (tg iter : Expr) (wi : TI) : Prop :=
 ∀ (pins : List (Addr × Obj)) (s : Shared) (σ : St) (H : Hp) (R : It -> Hp -> Prop), Inv X pins σ H s -> wi σ H R ->
  wpAny (model X.prog X.w) X.A (eval iter X.env) (fun v s1 => wpAny (model X.prog X.w) X.A (pyIter v) (PIE X pins σ tg R) X.xe s1) X.xe s
theorem aYE {M : Model} {A : Around} {E : Value -> Shared -> Prop} {s : Shared} {tg : Expr} {it : Addr} {u : Value} {o : Obj} {n : String} {vs : Array Value} {Q : Unit -> Shared -> Prop} (ho : s.heap.get? it = some o) (hc : o.cls = .type n) (hd : o.data = .fields vs)
    (hn : ["enumerate", "zip", "dict_itemiterator", "dict_reverseitemiterator", "odict_iterator", "itertools.zip_longest", "itertools.pairwise"].contains n = false) (hQ : Q () s) : wpAny M A (letOwnedTupleGo tg (.ref it) u) Q E s := by
  unfold letOwnedTupleGo
  cases tg <;> first
    | exact wpAny_pure hQ
    | (cases u <;> first
        | exact wpAny_pure hQ
        | (refine wpAny_bind (wpAny_load ho ?_)
           rw [hc, hd]
           show wpAny M A (if (["enumerate", "zip", "dict_itemiterator", "dict_reverseitemiterator", "odict_iterator", "itertools.zip_longest", "itertools.pairwise"].contains n && vs[0]? == some (rawInt _)) = true then _ else _) Q E s
           rw [if_neg (by intro h; rw [hn, Bool.false_and] at h; cases h)]
           exact wpAny_pure hQ))
def Itl (K : PySem.W.Frag) (a : Addr) : It :=
 ⟨fun i H => ∃ xs x, SqL K H a xs /\ xs[i]? = some x, fun i H x H' => H' = H /\ ∀ xs, SqL K H a xs -> xs[i]? = some x, fun i H => ∃ xs, SqL K H a xs /\ xs.length <= i, False⟩
def Itt (K : PySem.W.Frag) (a : Addr) : It :=
 ⟨fun i H => ∃ xs x, SqT K H a xs /\ xs[i]? = some x, fun i H x H' => H' = H /\ ∀ xs, SqT K H a xs -> xs[i]? = some x, fun i H => ∃ xs, SqT K H a xs /\ xs.length <= i, False⟩
def Itr (lo : Int) (n : Nat) : It := ⟨fun i _ => i < n, fun i H x H' => H' = H /\ x = .int (lo + i), fun i _ => n <= i, True⟩
theorem aVT {P : Program} {w : World} {K : PySem.W.Frag} {tg : Expr} (a it : Addr) : eAH P w K tg (Itl K a) [it] it (fun i h => h.IsListIter it a i) where
 mem := by simp
 obj := fun i h st b hb => by
  have e : b = it := by simpa using hb
  subst e
  obtain ⟨o, e, c, d⟩ := st
  exact ⟨o, e, fun v z => by rw [d] at z; cases z⟩
 keep := fun i h h' st k => st.at fun o e => k it (by simp) o e
 item := by
  intro X hP hw hK hc i pins s σ H E I hf st hg
  subst hP hw hK
  replace hc := hc.resolve_right fun z => z.1
  obtain ⟨xs, x, hq, hx⟩ := hg
  obtain ⟨its, rv, p, hz⟩ := I.list hq
  obtain ⟨u, hu, ru⟩ := rv.get hx
  obtain ⟨f0, f1, f2, f3, f4, f5⟩ := hf it (by simp)
  refine wpAny_pyNext_list_item st p.isList (x := u) (by simpa using hu) fun h' st' sb => ?_
  have I1 : Inv X pins σ H { s with heap := h' } := I.turned (t' := s.toks) (fun b o hb e => (sb.2 b hb).trans e) f0 f1 f3 f4 f5
  obtain ⟨o, e, c, d⟩ := id st'
  exact ⟨u, rfl, aYE (s := { s with heap := h' }) e c d (by decide) ⟨x, H, I1, ru, ⟨rfl, fun ys hy => by rw [I.list_inj hy hq]; exact hx⟩, st', fun b hb => (hf b hb).1⟩⟩
 done := by
  intro X hP hw hK hc i pins s σ H E I hf st hg
  subst hP hw hK
  replace hc := hc.resolve_right fun z => z.1
  obtain ⟨xs, hq, hx⟩ := hg
  obtain ⟨its, rv, p, hz⟩ := I.list hq
  obtain ⟨f0, f1, f2, f3, f4, f5⟩ := hf it (by simp)
  have hl := rv.length
  exact wpAny_pyNext_list_end (I.ok.hd hc) st p.isList (by simp; omega) fun h' eb => ⟨rfl, I.turned (t' := s.toks) (fun b o hb e => eb b o hb e) f0 f1 f3 f4 f5⟩
 self := fun _ _ _ _ _ st h => wpAny_pyIter_listiter st h
theorem aUE {P : Program} {w : World} {K : PySem.W.Frag} {tg : Expr} (a it : Addr) : eAH P w K tg (Itt K a) [it] it (fun i h => h.IsTupleIter it a i) where
 mem := by simp
 obj := fun i h st b hb => by
  have e : b = it := by simpa using hb
  subst e
  obtain ⟨o, e, c, d⟩ := st
  exact ⟨o, e, fun v z => by rw [d] at z; cases z⟩
 keep := fun i h h' st k => st.at fun o e => k it (by simp) o e
 item := by
  intro X hP hw hK hc i pins s σ H E I hf st hg
  subst hP hw hK
  replace hc := hc.resolve_right fun z => z.1
  obtain ⟨xs, x, hq, hx⟩ := hg
  obtain ⟨its, rv, p, hz⟩ := I.tuple hq
  obtain ⟨u, hu, ru⟩ := rv.get hx
  obtain ⟨f0, f1, f2, f3, f4, f5⟩ := hf it (by simp)
  refine wpAny_pyNext_tuple_item st (show s.heap.IsTuple a its.toArray from p) (x := u) (by simpa using hu) fun h' st' sb => ?_
  have I1 : Inv X pins σ H { s with heap := h' } := I.turned (t' := s.toks) (fun b o hb e => (sb.2 b hb).trans e) f0 f1 f3 f4 f5
  obtain ⟨o, e, c, d⟩ := id st'
  exact ⟨u, rfl, aYE (s := { s with heap := h' }) e c d (by decide) ⟨x, H, I1, ru, ⟨rfl, fun ys hy => by rw [I.tuple_inj hy hq]; exact hx⟩, st', fun b hb => (hf b hb).1⟩⟩
 done := by
  intro X hP hw hK hc i pins s σ H E I hf st hg
  subst hP hw hK
  replace hc := hc.resolve_right fun z => z.1
  obtain ⟨xs, hq, hx⟩ := hg
  obtain ⟨its, rv, p, hz⟩ := I.tuple hq
  obtain ⟨f0, f1, f2, f3, f4, f5⟩ := hf it (by simp)
  have hl := rv.length
  exact wpAny_pyNext_tuple_end (I.ok.hd hc) st (show s.heap.IsTuple a its.toArray from p) (by simp; omega) fun h' eb => ⟨rfl, I.turned (t' := s.toks) (fun b o hb e => eb b o hb e) f0 f1 f3 f4 f5⟩
 self := fun _ _ _ _ _ st h => wpAny_pyIter_tupleiter st h
theorem aNB : entryFor table "proto.unchain" = some Builtin.«proto.unchain» := entryFor_of_tree (by kernel_rfl)
theorem aEJ {prog : Program} {w : World} {A : Around} {E : Value -> Shared -> Prop} {s : Shared} {it ea : Addr} {x left step : Int} {oe : Obj} {vs : Array Value} {Q : Option Value -> Shared -> Prop} (hh : A.handled = some (.ref ea)) (he : s.heap.get? ea = some oe) (hd : oe.data = .fields vs) (h2 : vs[2]? = some .none)
  (hit : IsRangeIter s.heap it x left step) (hleft : left <= 0) (hQ : ∀ h', Heap.ExtBut it s.heap h' -> Q none { s with heap := h' }) : wpAny (model prog w) A (pyNext (.ref it)) Q E s := by
 have hT : s.TypeIs (.ref it) "range_iterator" := ⟨_, hit, rfl⟩
 unfold pyNext
 refine wpAny_bind (wpAny_attempt (wpAny_callSpecial?_slot (name := Str.ofString "__next__") hT F.slot_range_iterator_next (wpAny_call_entry F.slot_range_iterator_next hT F.entry_range_iterator_next ?_ (F.args_range_iterator_next_1 _))))
 show wpAny _ _ (field (.ref it) 0 >>= _) _ _ s
 refine wpAny_bind (wpAny_field hit rfl (x := rawInt x) rfl ?_)
 show wpAny _ _ (field (.ref it) 1 >>= _) _ _ s
 refine wpAny_bind (wpAny_field hit rfl (x := rawInt left) rfl ?_)
 show wpAny _ _ (field (.ref it) 2 >>= _) _ _ s
 refine wpAny_bind (wpAny_field hit rfl (x := rawInt step) rfl ?_)
 show wpAny _ _ (if left <= 0 then _ else _) _ _ s
 rw [if_pos hleft]
 refine wpAny_bind (wpAny_rule (wpAny_bind ?_))
 show wpAny _ _ (newExc (.type "StopIteration") [] >>= _) _ _ _
 refine wpAny_bind ?_
 simp only [newExc, newTuple]
 refine wpAny_bind (wpAny_newObj_type ?_ (by size_fits))
 refine wpAny_bind (m := firstArgMember _ _) (wpAny_of_eq (a := Value.none) (by first | rfl | (simp only [firstArgMember]; rfl)) ?_)
 refine wpAny_newObj_type ?_ (by size_fits)
 have hlt : ea < s.heap.objs.size := Heap.lt_size he
 simp only [raiseNew]
 refine wpAny_bind (wpAny_handled ?_)
 rw [show A.in1.handled = some (.ref ea) from hh]
 dsimp only
 have ne : (Value.ref ea != Value.ref (s.heap.push { cls := .type "tuple", data := .seq ([] : List Value).toArray }).objs.size) = true := by
  rw [Heap.size_push]
  have : ea ≠ s.heap.objs.size + 1 := Nat.ne_of_lt (Nat.lt_succ_of_lt hlt)
  simp [this]
 rw [if_pos ne]
 have he' : ((s.heap.push { cls := .type "tuple", data := .seq ([] : List Value).toArray }).push { cls := .type "StopIteration", data := .fields (#[.ref s.heap.objs.size, .none, .none, .none, .bool false, Value.none] ++ ownMembersOf (.type "StopIteration") []) }).get? ea = some oe := Heap.get?_push_of_some _ (Heap.get?_push_of_some _ he)
 refine wpAny_bind (wpAny_holding (wpAny_runValue (codeAny_builtin aNB ?_)))
 unfold Builtin.«proto.unchain»
 dsimp only
 refine wpAny_bind (wpAny_field he' hd h2 ?_)
 rw [if_pos (by decide)]
 refine wpAny_pure ?_
 dsimp only
 refine wpAny_bind ?_
 simp only [updateField]
 refine wpAny_bind (wpAny_load (Heap.get?_push_size _ rfl) ?_)
 dsimp only
 rw [if_pos (by rw [Array.size_append]; show 2 < 6 + _; omega)]
 refine wpAny_update (Heap.get?_push_size _ rfl) ?_
 refine wpAny_throw ?_
 refine wpAny_bind (wpAny_isInstance (T := "StopIteration") (b := true) ⟨_, Heap.get?_update_self _ (Heap.get?_push_size _ rfl) rfl, rfl⟩ isSubtype_stop ?_)
 refine wpAny_pure (hQ _ fun b o hb q => ?_)
 have hb2 : b < s.heap.objs.size := Heap.lt_size q
 rw [Heap.get?_update_other _ _ (by rw [Heap.size_push]; exact Nat.ne_of_gt (Nat.lt_succ_of_lt hb2))]
 exact Heap.get?_push_of_some _ (Heap.get?_push_of_some _ q)
theorem aUF {P : Program} {w : World} {K : PySem.W.Frag} {tg : Expr} (it : Addr) (lo : Int) (n : Nat) : eAH P w K tg (Itr lo n) [it] it (fun i h => IsRangeIter h it (lo + (i : Nat) * 1) ((n : Int) - (i : Nat)) 1) where
 mem := by simp
 obj := fun i h st b hb => by
  have e : b = it := by simpa using hb
  subst e
  exact ⟨_, st, fun v z => by
   have z' : Data.fields _ = Data.cell v := z
   cases z'⟩
 keep := fun i h h' st k => k it (by simp) _ st
 item := by
  intro X hP hw hK hc i pins s σ H E I hf st hg
  subst hP hw hK
  obtain ⟨f0, f1, f2, f3, f4, f5⟩ := hf it (by simp)
  refine wpAny_pyNext_range_item st (by have : i < n := hg; omega) fun h' st' sb => ?_
  have I1 : Inv X pins σ H { s with heap := h', toks := s.toks + 1 } := I.turned (fun b o hb e => (sb.2 b hb).trans e) f0 f1 f3 f4 f5
  have e1 : lo + (i : Nat) * 1 + 1 = lo + ((i + 1 : Nat) : Int) * 1 := by omega
  have e2 : (n : Int) - (i : Nat) - 1 = (n : Int) - ((i + 1 : Nat) : Int) := by omega
  rw [e1, e2] at st'
  refine ⟨_, rfl, aYE (s := { s with heap := h', toks := s.toks + 1 }) (n := "range_iterator") st' rfl rfl (by decide) ⟨.int (lo + i), H, I1, ⟨s.toks, ?_⟩, ⟨rfl, rfl⟩, st', fun b hb => (hf b hb).1⟩⟩
  rw [Int.mul_one]
 done := by
  intro X hP hw hK hc i pins s σ H E I hf st hg
  subst hP hw hK
  obtain ⟨f0, f1, f2, f3, f4, f5⟩ := hf it (by simp)
  rcases hc with hc | ⟨_, ea, oe, u, vs, k1, k2, k3, k4⟩
  rotate_left
  ·obtain ⟨ho, _⟩ := (show ObjOk X.prog X.w H s.heap ea (.frz oe u) from I.hok ea _ (I.base.frzs ea oe u k2))
   exact aEJ k1 ho k3 k4 st (by have : n <= i := hg; omega) fun h' eb => ⟨rfl, I.turned (t' := s.toks) (fun b o hb e => eb b o hb e) f0 f1 f3 f4 f5⟩
  exact wpAny_pyNext_range_end (I.ok.hd hc) st (by have : n <= i := hg; omega) fun h' eb => ⟨rfl, I.turned (t' := s.toks) (fun b o hb e => eb b o hb e) f0 f1 f3 f4 f5⟩
 self := fun _ _ _ _ _ st h => wpAny_pyIter_rangeiter st h
section
variable {X : Cx} {tg : Expr}
def eMU (K : PySem.W.Frag) (tl : TE) : TI := fun σ H R => tl σ H fun x H1 => ∃ a, x = .ref a /\ (∃ xs, SqL K H1 a xs) /\ R (Itl K a) H1
def ePH (K : PySem.W.Frag) (tl : TE) : TI := fun σ H R => tl σ H fun x H1 => ∃ a, x = .ref a /\ (∃ xs, SqT K H1 a xs) /\ R (Itt K a) H1
theorem aXH {l : Expr} {tl : TE} (hl : PE X l tl) : PI X tg l (eMU X.K tl) := by
 intro pins s σ H R I h
 refine thn (hl pins s σ H _ I h) fun v s1 ⟨x, H1, I1, r1, q1⟩ => ?_
 obtain ⟨a, e, ⟨xs, hq⟩, q⟩ := q1
 subst e
 cases r1
 obtain ⟨its, rv, p, hz⟩ := I1.list hq
 refine wpAny_pyIter_list p.isList ?_
 refine ⟨s1.heap.objs.size, [s1.heap.objs.size], _, _, H1, rfl, I1.kept (t' := s1.toks) fun b o e => Heap.get?_push_of_some _ e, aVT a _, ⟨_, Heap.get?_push_size _ rfl, rfl, rfl⟩, fun b hb => ?_, q⟩
 have e : b = s1.heap.objs.size := by simpa using hb
 subst e
 exact I1.fpOk (Nat.le_refl _) (I1.hok.fresh (Nat.le_refl _))
theorem eIK {l : Expr} {tl : TE} (hl : PE X l tl) : PI X tg l (ePH X.K tl) := by
 intro pins s σ H R I h
 refine thn (hl pins s σ H _ I h) fun v s1 ⟨x, H1, I1, r1, q1⟩ => ?_
 obtain ⟨a, e, ⟨xs, hq⟩, q⟩ := q1
 subst e
 cases r1
 obtain ⟨its, rv, p, hz⟩ := I1.tuple hq
 refine wpAny_pyIter_tuple (show s1.heap.IsTuple a its.toArray from p) ?_
 refine ⟨s1.heap.objs.size, [s1.heap.objs.size], _, _, H1, rfl, I1.kept (t' := s1.toks) fun b o e => Heap.get?_push_of_some _ e, aUE a _, ⟨_, Heap.get?_push_size _ rfl, rfl, rfl⟩, fun b hb => ?_, q⟩
 have e : b = s1.heap.objs.size := by simpa using hb
 subst e
 exact I1.fpOk (Nat.le_refl _) (I1.hok.fresh (Nat.le_refl _))
theorem eAW {pins : List (Addr × Obj)} {σ : St} {H : Hp} {s : Shared} {R : It -> Hp -> Prop} {E : Value -> Shared -> Prop} {lo hi : Int} {t u v : Tok} {tk : Nat} (I : Inv X pins σ H s) (h1 : -(2 ^ 62) <= lo) (h2 : lo < 2 ^ 62) (h3 : -(2 ^ 62) <= hi) (h4 : hi < 2 ^ 62)
  (q : R (Itr lo (hi - lo).toNat) H) : wpAny (model X.prog X.w) X.A (pyIter (.ref s.heap.objs.size)) (PIE X pins σ tg R) E { s with heap := s.heap.push { cls := .type "range", data := .fields #[.int lo t, .int hi u, .int 1 v] }, toks := tk } := by
 refine wpAny_pyIter_range (IsRange.new ..) (small_one h1 h2 h3 h4) ?_
 have I1 : Inv X pins σ H { s with heap := s.heap.push { cls := .type "range", data := .fields #[.int lo t, .int hi u, .int 1 v] }, toks := tk } := I.kept fun b o e => Heap.get?_push_of_some _ e
 refine ⟨(s.heap.push { cls := .type "range", data := .fields #[.int lo t, .int hi u, .int 1 v] }).objs.size, [(s.heap.push { cls := .type "range", data := .fields #[.int lo t, .int hi u, .int 1 v] }).objs.size], _, _, H, rfl,
  I1.kept (t' := tk) fun b o e => Heap.get?_push_of_some _ e, aUF _ lo (hi - lo).toNat, ?_, fun b hb => ?_, q⟩
 ·have e1 : lo + ((0 : Nat) : Int) * 1 = lo := by simp
  have e2 : (((hi - lo).toNat : Nat) : Int) - ((0 : Nat) : Int) = Builtin.Range.rangeSize lo hi 1 := by rw [rangeSize_one]; split <;> omega
  show IsRangeIter _ _ (lo + ((0 : Nat) : Int) * 1) ((((hi - lo).toNat : Nat) : Int) - ((0 : Nat) : Int)) 1
  rw [e1, e2]
  exact Heap.get?_push_size _ rfl
 ·have e : b = (s.heap.push { cls := .type "range", data := .fields #[.int lo t, .int hi u, .int 1 v] }).objs.size := by simpa using hb
  subst e
  exact I1.fpOk (Nat.le_refl _) (I1.hok.fresh (Nat.le_refl _))
def eMT (ta : TA) : TI := fun σ H R => ta σ H fun vs H1 => ∃ j : Int, vs = [.int j] /\ -(2 ^ 62) <= j /\ j < 2 ^ 62 /\ R (Itr 0 j.toNat) H1
theorem aXG {a : Expr} {ta : TA} {p pos : Pos} (hg : Gl X "range") (hm : X.mg "range" = none) (ha : PA X [a] ta) (hs : starEach [a] X.env = [(false, eval a X.env)] := by rfl) : PI X tg (.Call (.Name "range" p) [a] [] pos) (eMT ta) := by
 intro pins s σ H R I h
 refine Call_ (aKS I hg hm boot_range (PyProof.Rows.callWith_type1 (thn (ha pos pins s σ H _ I h) fun us s1 ⟨vs, H1, I1, r1, q1⟩ => ?_) hs rfl))
 obtain ⟨j, e, q1, q2, q⟩ := q1
 subst e
 cases r1 with
 | cons r rr =>
  cases rr
  obtain ⟨t, rfl⟩ := r
  exact call_range_1 (eAW I1 (by omega) (by omega) q1 q2 (by simpa using q))
def eOR (wi : TI) (g : TG) (tb : TS) : TS := fun D σ H => wi σ H fun J H1 => ∃ W : Nat -> Nat -> St -> Hp -> Prop, (∃ m, W 0 m σ H1) /\ ∀ i m σ H, W i m σ H ->
 (J.stop i H /\ D.nx σ H) \/ (J.go i H /\ ∃ N : St -> Hp -> Prop, (∀ σ' H', N σ' H' -> ∃ m', m' < m /\ W (i + 1) m' σ' H') /\ ∀ x H', J.yld i H x H' -> g x σ H' fun σ2 H2 => tb { D with nx := N, ct := N, bk := D.nx } σ2 H2)
def aTB (fp : List Addr) (h : Heap) : List (Addr × Obj) := fp.filterMap fun b => (h.get? b).map fun o => (b, o)
theorem aDD {fp : List Addr} {h : Heap} {b : Addr} {o : Obj} (hb : b ∈ fp) (e : h.get? b = some o) : (b, o) ∈ aTB fp h := List.mem_filterMap.mpr ⟨b, hb, by rw [e]; rfl⟩
theorem aXN {fp : List Addr} {h : Heap} {p : Addr × Obj} (hp : p ∈ aTB fp h) : p.1 ∈ fp /\ h.get? p.1 = some p.2 := by
 obtain ⟨b, hb, e⟩ := List.mem_filterMap.mp hp
 cases q : h.get? b with
 | none => rw [q] at e; cases e
 | some o =>
  rw [q] at e
  have e' : (b, o) = p := Option.some.inj e
  subst e'
  exact ⟨hb, q⟩
theorem Inv.pinned {pins : List (Addr × Obj)} {σ : St} {H : Hp} {s : Shared} {fp : List Addr} (I : Inv X pins σ H s) (hf : ∀ b ∈ fp, aUC X pins H b) (ho : ∀ b ∈ fp, ∃ o, s.heap.get? b = some o /\ ∀ v, o.data ≠ .cell v) : Inv X (pins ++ aTB fp s.heap) σ H s :=
 I.pins_of fun p hp => (List.mem_append.mp hp).elim (fun z => I.pin p (List.mem_append_right _ z)) fun z => by
  obtain ⟨hb, e⟩ := aXN z
  obtain ⟨f0, f1, f2, _⟩ := hf p.1 hb
  obtain ⟨o, e', d⟩ := ho p.1 hb
  rw [e] at e'; cases e'
  exact ⟨e, f0, f1, f2, d⟩
theorem Inv.unpinned {pins pl : List (Addr × Obj)} {σ : St} {H : Hp} {s : Shared} (I : Inv X (pins ++ pl) σ H s) : Inv X pins σ H s := I.pins_of fun p hp => I.pin p (List.mem_append_right _ (List.mem_append_left _ hp))
theorem eCL {iter : Expr} {body : List Stmt} {wi : TI} {g : TG} {tb : TS} {pos : Pos} (hp : PassesOwn (model X.prog X.w) X.A X.env X.xe) (hc : X.calm = true) (hi : PI X tg iter wi) (hg : PG X tg g) (hb : PSs X body tb)
  (hs : ∀ x, foldedSetIterable iter X.env x = pure x := by intro _; rfl) : PS X (.For tg iter body [] pos) (eOR wi g tb) := by
 intro pins s σ H D I h
 refine wpAny_For (thn (hi pins s σ H _ I h) fun v s1 h1 => thn h1 fun itv s2 h2 => ?_) hs
 obtain ⟨it, fp, tn, J, H2, e, I2, T, st2, f2, W, ⟨m0, w0⟩, turn⟩ := h2
 subst e
 have stat : ∀ {H' : Hp}, (∀ b ∈ fp, H' b = none) -> ∀ b ∈ fp, aUC X pins H' b := fun hn b hb => ⟨hn b hb, (f2 b hb).2⟩
 refine codeAny_forLoop_any (fun n s' => ∃ i σ' H', Inv X pins σ' H' s' /\ tn i s'.heap /\ (∀ b ∈ fp, H' b = none) /\ W i n σ' H') ?_ m0 ⟨0, σ, H2, I2, st2, fun b hb => (f2 b hb).1, w0⟩
 rintro n s3 ⟨i, σ3, H3, I3, st3, fr3, w3⟩
 rcases turn i n σ3 H3 w3 with ⟨stop, qn⟩ | ⟨go, N, hN, step⟩
 ·refine wpAny_passesOwn hp (thn (T.done X rfl rfl rfl (.inl hc) i pins s3 σ3 H3 X.xe I3 (stat fr3) st3 stop) fun r s4 ⟨hr, I4⟩ => ?_)
  subst hr
  exact wpAny_execs_nil ⟨σ3, H3, I4, qn⟩
 ·refine wpAny_passesOwn hp (thn (T.item X rfl rfl rfl (.inl hc) i pins s3 σ3 H3 X.xe I3 (stat fr3) st3 go) fun r s4 ⟨u, hr, h4⟩ => ?_)
  subst hr
  refine wpAny_passesOwn hp (thn h4 fun _ s5 ⟨x, H5, I5, r5, y5, st5, fr5⟩ => ?_)
  have I5' := I5.pinned (stat fr5) (T.obj _ _ st5)
  refine wpAny_passesOwn hp (thn (hg _ s5 σ3 H5 x u _ I5' r5 (step x H5 y5)) fun _ s6 ⟨σ6, H6, I6, q6⟩ => ?_)
  refine wpAny_passesOwn hp (thn (hb _ s6 σ6 H6 _ I6 q6) fun f s7 q7 => ?_)
  have again : ∀ {σ7 : St} {H7 : Hp}, Inv X (pins ++ aTB fp s5.heap) σ7 H7 s7 -> N σ7 H7 -> ∃ m, m < n /\ ∃ i σ' H', Inv X pins σ' H' s7 /\ tn i s7.heap /\ (∀ b ∈ fp, H' b = none) /\ W i m σ' H' := fun {σ7 H7} I7 n7 => by
   obtain ⟨m', hm, w7⟩ := hN σ7 H7 n7
   refine ⟨m', hm, i + 1, σ7, H7, I7.unpinned, T.keep _ _ _ st5 fun b hb o e => (I7.pin (b, o) (List.mem_append_right _ (List.mem_append_right _ (aDD hb e)))).1, fun b hb => ?_, w7⟩
   obtain ⟨o, e, d⟩ := T.obj _ _ st5 b hb
   exact (I7.pin (b, o) (List.mem_append_right _ (List.mem_append_right _ (aDD hb e)))).2.1
  cases f with
  | next => obtain ⟨σ7, H7, I7, n7⟩ := q7; exact again I7 n7
  | cont => obtain ⟨σ7, H7, I7, n7⟩ := q7; exact again I7 n7
  | brk => obtain ⟨σ7, H7, I7, q7⟩ := q7; exact ⟨σ7, H7, I7.unpinned, q7⟩
  | ret v => obtain ⟨x7, σ7, H7, I7, r7, q7⟩ := q7; exact ⟨x7, σ7, H7, I7.unpinned, r7, q7⟩
end
abbrev R2 := V -> V -> Hp -> VK -> Prop
def OpR (X : Cx) (f : Value -> Value -> Sem Value) (r : R2) : Prop :=
 ∀ (pins : List (Addr × Obj)) (s : Shared) (σ : St) (H : Hp) (x y : V) (v u : Value) (Q : VK), Inv X pins σ H s -> RelV x v -> RelV y u -> r x y H Q ->
  wpAny (model X.prog X.w) X.A (f v u) (EP X pins σ Q) X.xe s
def UnR (X : Cx) (f : Value -> Sem Value) (r : V -> Hp -> VK -> Prop) : Prop :=
 ∀ (pins : List (Addr × Obj)) (s : Shared) (σ : St) (H : Hp) (x : V) (v : Value) (Q : VK), Inv X pins σ H s -> RelV x v -> r x H Q ->
  wpAny (model X.prog X.w) X.A (f v) (EP X pins σ Q) X.xe s
def aCY (X : Cx) (f : Value) (r : List V -> Hp -> VK -> Prop) : Prop :=
 ∀ (pins : List (Addr × Obj)) (s : Shared) (σ : St) (H : Hp) (xs : List V) (us : List Value) (Q : VK), Inv X pins σ H s -> Vals xs us -> r xs H Q ->
  wpAny (model X.prog X.w) X.A (call f us) (EP X pins σ Q) X.xe s
def ePR (X : Cx) (r : V -> Hp -> (Bool -> Hp -> Prop) -> Prop) : Prop :=
 ∀ (pins : List (Addr × Obj)) (s : Shared) (σ : St) (H : Hp) (x : V) (v : Value) (Q : Bool -> Hp -> Prop), Inv X pins σ H s -> RelV x v -> r x H Q ->
  wpAny (model X.prog X.w) X.A (truthy v) (TP X pins σ Q) X.xe s
def tOp (r : R2) (ta tb : TE) : TE := fun σ H Q => ta σ H fun x H1 => tb σ H1 fun y H2 => r x y H2 Q
def tUn (r : V -> Hp -> VK -> Prop) (ta : TE) : TE := fun σ H Q => ta σ H fun x H1 => r x H1 Q
def rI (C : Int -> Int -> Prop) (g : Int -> Int -> V) : R2 := fun x y H Q => ∃ i j, x = .int i /\ y = .int j /\ C i j /\ Q (g i j) H
def rI0 (g : Int -> Int -> V) : R2 := fun x y H Q => ∃ i j, x = .int i /\ y = .int j /\ Q (g i j) H
def rU (g : Int -> V) : V -> Hp -> VK -> Prop := fun x H Q => ∃ i, x = .int i /\ Q (g i) H
section
variable {X : Cx} {a b c : Expr} {ta tb tc : TE} {pos : Pos}
theorem eNG (ha : PE X a ta) (hb : PE X b tb) {pins : List (Addr × Obj)} {s : Shared} {σ : St} {H : Hp} {R : V -> V -> Hp -> Prop} (I : Inv X pins σ H s)
  (h : ta σ H fun x H1 => tb σ H1 fun y H2 => R x y H2) {Q : Value -> Shared -> Prop} {f : Value -> Value -> Sem Value}
  (hf : ∀ v u s2 x y H2, Inv X pins σ H2 s2 -> RelV x v -> RelV y u -> R x y H2 -> wpAny (model X.prog X.w) X.A (f v u) Q X.xe s2) :
  wpAny (model X.prog X.w) X.A (eval a X.env) (fun v s₁ => wpAny (model X.prog X.w) X.A (eval b X.env) (fun u s₂ => wpAny (model X.prog X.w) X.A (f v u) Q X.xe s₂) X.xe s₁) X.xe s := by
 refine thn (ha pins s σ H _ I h) fun v s1 ⟨x, H1, I1, r1, q1⟩ => ?_
 refine thn (hb pins s1 σ H1 _ I1 q1) fun u s2 ⟨y, H2, I2, r2, q2⟩ => ?_
 exact hf v u s2 x y H2 I2 r1 r2 q2
theorem aQU {op : Operator} {r : R2} (ho : OpR X (binaryOp op) r) (ha : PE X a ta) (hb : PE X b tb) : PE X (.BinOp a op b pos) (tOp r ta tb) := by
 intro pins s σ H Q I h
 exact wpAny_BinOp (eNG ha hb I h fun v u s2 x y H2 I2 rx ry q => ho pins s2 σ H2 x y v u Q I2 rx ry q)
theorem eMG {op : UnaryOp} {r : V -> Hp -> VK -> Prop} (ho : UnR X (unaryOp op) r) (ha : PE X a ta) : PE X (.UnaryOp op a pos) (tUn r ta) := by
 intro pins s σ H Q I h
 exact UnaryOp_ (thn (ha pins s σ H _ I h) fun v s1 ⟨x, H1, I1, r1, q1⟩ => ho pins s1 σ H1 x v Q I1 r1 q1)
theorem opI {f : Value -> Value -> Sem Value} {C : Int -> Int -> Prop} {g : Int -> Int -> Int}
  (rule : ∀ (i j : Int) (t u : Tok) (s : Shared) (Q : Value -> Shared -> Prop) (E : Value -> Shared -> Prop), C i j -> Q (.int (g i j) s.toks) { s with toks := s.toks + 1 } -> wpAny (model X.prog X.w) X.A (f (.int i t) (.int j u)) Q E s) :
  OpR X f (rI C fun i j => .int (g i j)) := by
 intro pins s σ H x y v u Q I rx ry h
 obtain ⟨i, j, rfl, rfl, hc, q⟩ := h
 obtain ⟨t, rfl⟩ := rx
 obtain ⟨t', rfl⟩ := ry
 exact rule i j t t' s _ _ hc ⟨.int (g i j), H, I.tok _, ⟨_, rfl⟩, q⟩
theorem eML {f : Value -> Value -> Sem Value} {g : Int -> Int -> Int}
  (rule : ∀ (i j : Int) (t u : Tok) (s : Shared) (Q : Value -> Shared -> Prop) (E : Value -> Shared -> Prop), Q (.int (g i j) s.toks) { s with toks := s.toks + 1 } -> wpAny (model X.prog X.w) X.A (f (.int i t) (.int j u)) Q E s) :
  OpR X f (rI0 fun i j => .int (g i j)) := by
 intro pins s σ H x y v u Q I rx ry h
 obtain ⟨i, j, rfl, rfl, q⟩ := h
 obtain ⟨t, rfl⟩ := rx
 obtain ⟨t', rfl⟩ := ry
 exact rule i j t t' s _ _ ⟨.int (g i j), H, I.tok _, ⟨_, rfl⟩, q⟩
theorem eMM {f : Value -> Value -> Sem Value} {g : Int -> Int -> Bool}
  (rule : ∀ (i j : Int) (t u : Tok) (s : Shared) (Q : Value -> Shared -> Prop) (E : Value -> Shared -> Prop), Q (.bool (g i j)) s -> wpAny (model X.prog X.w) X.A (f (.int i t) (.int j u)) Q E s) :
  OpR X f (rI0 fun i j => .bl (g i j)) := by
 intro pins s σ H x y v u Q I rx ry h
 obtain ⟨i, j, rfl, rfl, q⟩ := h
 obtain ⟨t, rfl⟩ := rx
 obtain ⟨t', rfl⟩ := ry
 exact rule i j t t' s _ _ ⟨.bl (g i j), H, I, rfl, q⟩
def eOG (i j : Int) : Prop := 0 <= j /\ j <= 1000000 /\ i.natAbs < 2 ^ 64
theorem eJC : OpR X (binaryOp .Add) (rI0 fun i j => .int (i + j)) := eML fun _ _ _ _ _ _ _ q => add_int q
theorem eIU : OpR X (binaryOp .Sub) (rI0 fun i j => .int (i - j)) := eML fun _ _ _ _ _ _ _ q => sub_int q
theorem eIX : OpR X (binaryOp .Mod) (rI (fun _ j => 0 < j) fun i j => .int (i % j)) := opI fun i j _ _ _ _ _ hc q => by
 have h1 : (0 : Int) < j := hc
 exact mod_int' (by omega) (by rw [Int.fmod_eq_emod_of_nonneg i (by omega)]; exact q)
theorem eIW : OpR X (binaryOp .Pow) (rI eOG fun i j => .int (i ^ j.toNat)) := opI fun _ _ _ _ _ _ _ hc q => pow_int_small hc.1 hc.2.1 hc.2.2 q
theorem eJB : OpR X (binaryOp .BitAnd) (rI0 fun i j => .int (Builtin.bitAnd i j)) := eML fun _ _ _ _ _ _ _ q => and_int q
theorem unI {f : Value -> Sem Value} {g : Int -> Int}
  (rule : ∀ (i : Int) (t : Tok) (s : Shared) (Q : Value -> Shared -> Prop) (E : Value -> Shared -> Prop), Q (.int (g i) s.toks) { s with toks := s.toks + 1 } -> wpAny (model X.prog X.w) X.A (f (.int i t)) Q E s) :
  UnR X f (rU fun i => .int (g i)) := by
 intro pins s σ H x v Q I rx h
 obtain ⟨i, rfl, q⟩ := h
 obtain ⟨t, rfl⟩ := rx
 exact rule i t s _ _ ⟨.int (g i), H, I.tok _, ⟨_, rfl⟩, q⟩
theorem eHL : UnR X (unaryOp .USub) (rU fun i => .int (-i)) := unI fun _ _ _ _ _ q => neg_int q
end
def eNQ : V -> V -> Bool
 | .non, .non => true | .non, .int _ => true | .int _, .non => true | .non, .bl _ => true | .bl _, .non => true | .non, .str _ => true | .str _, .non => true
 | .int _, .int _ => true | .bl _, .bl _ => true | .str _, .str _ => true | .byt _, .byt _ => true
 | .int _, .str _ => true | .str _, .int _ => true | .bl _, .str _ => true | .str _, .bl _ => true
 | _, _ => false
def rEq : R2 := fun x y H Q => eNQ x y = true /\ Q (.bl (decide (x = y))) H
def rNe : R2 := fun x y H Q => eNQ x y = true /\ Q (.bl (!decide (x = y))) H
theorem aRO {i j : Int} : decide (V.int i = V.int j) = (i == j) := by
 rw [Bool.eq_iff_iff]
 simp
theorem eDQ {i j : Bool} : decide (V.bl i = V.bl j) = (i == j) := by
 rw [Bool.eq_iff_iff]
 simp
theorem aZD {i j : Str} : decide (V.str i = V.str j) = (i == j) := by
 rw [Bool.eq_iff_iff]
 simp
theorem aZE {i j : Array UInt8} : decide (V.byt i = V.byt j) = (i.toList == j.toList) := by
 rw [Bool.eq_iff_iff]
 cases i
 cases j
 simp
section
variable {X : Cx} {a b c : Expr} {ta tb tc : TE} {pos : Pos}
theorem zU {pins : List (Addr × Obj)} {σ : St} {H : Hp} {s : Shared} {Q : VK} {k k' : Bool} (I : Inv X pins σ H s) (q : Q (.bl k) H) (e : k = k') : EP X pins σ Q (.bool k') s := by
 subst e
 exact ⟨.bl k, H, I, rfl, q⟩
theorem eMK : OpR X (compareOp .Eq) rEq := by
 intro pins s σ H x y v u Q I rx ry h
 obtain ⟨hs, q⟩ := h
 cases x with
 | non =>
  cases rx
  cases y with
  | non => cases ry; exact PySem.EqNone.eq_none_none (zU I q (by simp))
  | bl j => cases ry; exact PySem.EqNone.eq_none_bool (zU I q (by simp))
  | int j => obtain ⟨t', rfl⟩ := ry; exact PySem.EqNone.eq_none_int (zU I q (by simp))
  | str j => obtain ⟨t', rfl⟩ := ry; exact PySem.EqNone.eq_none_str (zU I q (by simp))
  | _ => exact absurd (show false = true from hs) Bool.false_ne_true
 | bl i =>
  cases rx
  cases y with
  | non => cases ry; exact PySem.EqNone.eq_bool_none (zU I q (by simp))
  | bl j => cases ry; exact eq_bool (zU I q eDQ)
  | str j => obtain ⟨t', rfl⟩ := ry; exact PySem.EqMixed.eq_bool_str (zU I q (by simp))
  | _ => exact absurd (show false = true from hs) Bool.false_ne_true
 | int i =>
  obtain ⟨t, rfl⟩ := rx
  cases y with
  | non => cases ry; exact PySem.EqNone.eq_int_none (zU I q (by simp))
  | int j => obtain ⟨t', rfl⟩ := ry; exact eq_int (zU I q aRO)
  | str j => obtain ⟨t', rfl⟩ := ry; exact PySem.EqMixed.eq_int_str (zU I q (by simp))
  | _ => exact absurd (show false = true from hs) Bool.false_ne_true
 | str i =>
  obtain ⟨t, rfl⟩ := rx
  cases y with
  | non => cases ry; exact PySem.EqNone.eq_str_none (zU I q (by simp))
  | bl j => cases ry; exact PySem.EqMixed.eq_str_bool (zU I q (by simp))
  | int j => obtain ⟨t', rfl⟩ := ry; exact PySem.EqMixed.eq_str_int (zU I q (by simp))
  | str j => obtain ⟨t', rfl⟩ := ry; exact eq_str (zU I q aZD)
  | _ => exact absurd (show false = true from hs) Bool.false_ne_true
 | byt i =>
  obtain ⟨t, rfl⟩ := rx
  cases y with
  | byt j => obtain ⟨t', rfl⟩ := ry; exact PySem.W.eq_bytes (zU I q aZE)
  | _ => exact absurd (show false = true from hs) Bool.false_ne_true
 | _ => cases y <;> exact absurd (show false = true from hs) Bool.false_ne_true
theorem eMI : OpR X (compareOp .NotEq) rNe := by
 intro pins s σ H x y v u Q I rx ry h
 obtain ⟨hs, q⟩ := h
 cases x with
 | non =>
  cases rx
  cases y with
  | non => cases ry; exact PySem.EqNone.ne_none_none (zU I q (by simp))
  | bl j => cases ry; exact PySem.EqNone.ne_none_bool (zU I q (by simp))
  | int j => obtain ⟨t', rfl⟩ := ry; exact PySem.EqNone.ne_none_int (zU I q (by simp))
  | str j => obtain ⟨t', rfl⟩ := ry; exact PySem.EqNone.ne_none_str (zU I q (by simp))
  | _ => exact absurd (show false = true from hs) Bool.false_ne_true
 | bl i =>
  cases rx
  cases y with
  | non => cases ry; exact PySem.EqNone.ne_bool_none (zU I q (by simp))
  | bl j => cases ry; exact ne_bool (zU I q (congrArg not eDQ))
  | str j => obtain ⟨t', rfl⟩ := ry; exact PySem.EqMixed.ne_bool_str (zU I q (by simp))
  | _ => exact absurd (show false = true from hs) Bool.false_ne_true
 | int i =>
  obtain ⟨t, rfl⟩ := rx
  cases y with
  | non => cases ry; exact PySem.EqNone.ne_int_none (zU I q (by simp))
  | int j => obtain ⟨t', rfl⟩ := ry; exact ne_int (zU I q (congrArg not aRO))
  | str j => obtain ⟨t', rfl⟩ := ry; exact PySem.EqMixed.ne_int_str (zU I q (by simp))
  | _ => exact absurd (show false = true from hs) Bool.false_ne_true
 | str i =>
  obtain ⟨t, rfl⟩ := rx
  cases y with
  | non => cases ry; exact PySem.EqNone.ne_str_none (zU I q (by simp))
  | bl j => cases ry; exact PySem.EqMixed.ne_str_bool (zU I q (by simp))
  | int j => obtain ⟨t', rfl⟩ := ry; exact PySem.EqMixed.ne_str_int (zU I q (by simp))
  | str j => obtain ⟨t', rfl⟩ := ry; exact ne_str (zU I q (congrArg not aZD))
  | _ => exact absurd (show false = true from hs) Bool.false_ne_true
 | byt i =>
  obtain ⟨t, rfl⟩ := rx
  cases y with
  | byt j => obtain ⟨t', rfl⟩ := ry; exact PySem.W.ne_bytes (zU I q (congrArg not aZE))
  | _ => exact absurd (show false = true from hs) Bool.false_ne_true
 | _ => cases y <;> exact absurd (show false = true from hs) Bool.false_ne_true
theorem eIY : OpR X (compareOp .Lt) (rI0 fun i j => .bl (decide (i < j))) := eMM fun _ _ _ _ _ _ _ q => lt_int q
theorem eIZ : OpR X (compareOp .Gt) (rI0 fun i j => .bl (decide (j < i))) := eMM fun _ _ _ _ _ _ _ q => gt_int q
theorem eMJ : OpR X (compareOp .GtE) (rI0 fun i j => .bl (decide (j <= i))) := eMM fun _ _ _ _ _ _ _ q => ge_int q
theorem aXM : OpR X (compareOp .In) (fun x y H Q => ∃ i j, x = .str i /\ y = .str j /\ Q (.bl (!(Builtin.Str.occurrences j i 0 j.length 1).isEmpty)) H) := by
 intro pins s σ H x y v u Q I rx ry h
 obtain ⟨i, j, rfl, rfl, q⟩ := h
 obtain ⟨t, rfl⟩ := rx
 obtain ⟨t', rfl⟩ := ry
 exact in_str (zU I q rfl)
theorem eNV (b : Expr) {op : CmpOp} (h : op ≠ .In := by decide) (h2 : op ≠ .NotIn := by decide) : behindInMarks op b = false := by
 have e1 : (op == CmpOp.In) = false := by cases op <;> first | rfl | exact absurd rfl h
 have e2 : (op == CmpOp.NotIn) = false := by cases op <;> first | rfl | exact absurd rfl h2
 cases b <;> simp [behindInMarks, e1, e2]
theorem aMA {op : CmpOp} {r : R2} (ho : OpR X (compareOp op) r) (ha : PE X a ta) (hb : PE X b tb) (hm : behindInMarks op b = false) : PE X (.Compare a [op] [b] pos) (tOp r ta tb) := by
 intro pins s σ H Q I h
 exact wpAny_Compare1 (eNG ha hb I h fun v u s2 x y H2 I2 rx ry q => ho pins s2 σ H2 x y v u Q I2 rx ry q) hm
def eLT (t : TE) : TT := fun σ H Q => t σ H fun x H' => ∃ k, x = .bl k /\ Q k H'
theorem aBW {op : CmpOp} {r : R2} (ho : OpR X (compareOp op) r) (ha : PE X a ta) (hb : PE X b tb) (hm : behindInMarks op b = false) : PT X (.Compare a [op] [b] pos) (eLT (tOp r ta tb)) := by
 intro pins s σ H Q I h
 refine wpAny_isTrue_Compare1 (thn (ha pins s σ H _ I h) fun v s1 ⟨x, H1, I1, r1, q1⟩ => thn (hb pins s1 σ H1 _ I1 q1) fun u s2 ⟨y, H2, I2, r2, q2⟩ =>
  thn (ho pins s2 σ H2 x y v u _ I2 r1 r2 q2) fun c s3 ⟨z, H3, I3, r3, k, e, q3⟩ => ?_) hm
 subst e
 cases r3
 exact wpAny_truthy_bool ⟨H3, I3, q3⟩
def eOC (K : PySem.W.Frag) (x : V) (H : Hp) (k : Bool) : Prop :=
 match x with
 | .non => k = false
 | .bl b => k = b
 | .int i => k = (i != 0)
 | .str y => y.length <= sizeLine /\ k = ((y.length : Int) != 0)
 | .byt y => y.size <= sizeLine /\ k = ((y.size : Int) != 0)
 | .ref p => (∃ xs, SqL K H p xs /\ k = !xs.isEmpty) \/ (∃ xs, SqT K H p xs /\ k = !xs.isEmpty) \/ ∃ kvs, H p = some (.dK kvs) /\ k = !kvs.isEmpty
 | _ => False
theorem aUV {κ : Type} {kvs : List (κ × V)} {vs : List (κ × Value)} (r : KV kvs vs) : (!vs.isEmpty) = !kvs.isEmpty := by
 cases r <;> rfl
theorem aKT {xs : List V} {its : List Value} (r : Vals xs its) : (!its.toArray.isEmpty) = !xs.isEmpty := by
 cases r <;> simp
theorem aFR : (sizeLine : Nat) < 2 ^ 63 := by rw [sizeLine_eq]; decide
theorem eHN : ePR X (fun x H Q => ∃ k, eOC X.K x H k /\ Q k H) := by
 intro pins s σ H x v Q I rx h
 obtain ⟨k, e, q⟩ := h
 have hl := aFR
 have hs : sizeLine = 16777216 := sizeLine_eq
 cases x with
 | non =>
  cases rx
  have e' : k = false := e
  subst e'
  exact truthy_none ⟨H, I, q⟩
 | bl b =>
  cases rx
  have e' : k = b := e
  subst e'
  exact wpAny_truthy_bool ⟨H, I, q⟩
 | int i =>
  obtain ⟨t, rfl⟩ := rx
  have e' : k = (i != 0) := e
  subst e'
  exact PySem.P.truthy_int ⟨H, I, q⟩
 | str y =>
  obtain ⟨t, rfl⟩ := rx
  obtain ⟨hy, e'⟩ : y.length <= sizeLine /\ k = ((y.length : Int) != 0) := e
  subst e'
  exact PySem.P.truthy_str (by omega) ⟨H, I.tok _, q⟩
 | byt y =>
  obtain ⟨t, rfl⟩ := rx
  obtain ⟨hy, e'⟩ : y.size <= sizeLine /\ k = ((y.size : Int) != 0) := e
  subst e'
  exact PySem.W.truthy_bytes (by omega) ⟨H, I.tok _, q⟩
 | ref p =>
  cases rx
  have e' : (∃ xs, SqL X.K H p xs /\ k = !xs.isEmpty) \/ (∃ xs, SqT X.K H p xs /\ k = !xs.isEmpty) \/ ∃ kvs, H p = some (.dK kvs) /\ k = !kvs.isEmpty := e
  rcases e' with ⟨xs, hx, e'⟩ | ⟨xs, hx, e'⟩ | ⟨kvs, hx, e'⟩
  ·subst e'
   obtain ⟨its, r, pl, hz⟩ := I.list hx
   have hlen := r.length
   exact wpAny_truthy_list pl.isList (by simp only [List.size_toArray]; omega) ⟨H, I.tok _, by rw [aKT r]; exact q⟩
  ·subst e'
   obtain ⟨its, r, pl, hz⟩ := I.tuple hx
   have hlen := r.length
   exact truthy_tuple pl (by simp only [List.size_toArray]; omega) ⟨H, I.tok _, by rw [aKT r]; exact q⟩
  ·subst e'
   obtain ⟨hz, hS, vs, r, m⟩ : kvs.length <= sizeLine /\ (p == sysModules) = false /\ ∃ vs, KV kvs vs /\ s.heap.DictOf (aRA X.prog X.w) p vs := I.hok p _ hx
   have hlen : kvs.length = vs.length := Paired.length r
   exact wpAny_truthy_dict hS m (by omega) ⟨H, I.tok _, by rw [aUV r]; exact q⟩
 | _ => exact (show False from e).elim
theorem eAX (ha : PE X a ta) (he : ∀ whole, isTrue a X.env whole = (do let v <- whole; standAt a.pos; holding [v] (truthy v))) :
  PT X a (fun σ H Q => ta σ H fun x H' => ∃ k, eOC X.K x H' k /\ Q k H') := by
 intro pins s σ H Q I h
 exact isTrue_plain (thn (ha pins s σ H _ I h) fun v s1 ⟨x, H1, I1, r1, q1⟩ => eHN pins s1 σ H1 x v Q I1 r1 q1) (he _)
theorem aKP : OpR X (binaryOp .Add) (fun x y H Q => ∃ i j, x = .str i /\ y = .str j /\ i.length + j.length <= sizeLine /\ Q (.str (i ++ j)) H) := by
 intro pins s σ H x y v u Q I rx ry h
 obtain ⟨i, j, rfl, rfl, hz, q⟩ := h
 obtain ⟨t, rfl⟩ := rx
 obtain ⟨t', rfl⟩ := ry
 exact add_str (fun t' tk => ⟨.str (i ++ j), H, I.tok _, ⟨_, rfl⟩, q⟩) hz
theorem aRI : OpR X (inplaceOp .Add) (fun x y H Q => ∃ i j, x = .str i /\ y = .str j /\ i.length + j.length <= sizeLine /\ Q (.str (i ++ j)) H) := by
 intro pins s σ H x y v u Q I rx ry h
 obtain ⟨i, j, rfl, rfl, hz, q⟩ := h
 obtain ⟨t, rfl⟩ := rx
 obtain ⟨t', rfl⟩ := ry
 exact iadd_str (fun t' tk => ⟨.str (i ++ j), H, I.tok _, ⟨_, rfl⟩, q⟩) hz
theorem aFX {x : V} {us : List Value} (r : Vals [x] us) : ∃ u, us = [u] /\ RelV x u := by
 cases r with
 | cons r1 r2 => cases r2; exact ⟨_, rfl, r1⟩
theorem eAK {x y : V} {us : List Value} (r : Vals [x, y] us) : ∃ u w', us = [u, w'] /\ RelV x u /\ RelV y w' := by
 cases r with
 | cons r1 r2 =>
  cases r2 with
  | cons r3 r4 => cases r4; exact ⟨_, _, rfl, r1, r3⟩
theorem eBR : aCY X (.builtin "abs") (fun xs H Q => ∃ i, xs = [.int i] /\ Q (.int (if i < 0 then -i else i)) H) := by
 intro pins s σ H xs us Q I r h
 obtain ⟨i, rfl, q⟩ := h
 obtain ⟨u, rfl, t, rfl⟩ := aFX r
 exact call_abs_int fun u tk => ⟨.int (if i < 0 then -i else i), H, I.tok _, ⟨_, rfl⟩, q⟩
theorem aZK (hc : X.calm = true) : aCY X (.builtin "max") (fun xs H Q => ∃ i j, xs = [.int i, .int j] /\ Q (.int (if j > i then j else i)) H) := by
 intro pins s σ H xs us Q I r h
 obtain ⟨i, j, rfl, q⟩ := h
 obtain ⟨u, w', rfl, ⟨t, rfl⟩, ⟨t', rfl⟩⟩ := eAK r
 refine max_two_ints (I.ok.hd hc) fun h' tk k => ⟨_, H, I.kept k, ?_, q⟩
 by_cases hj : j > i
 ·rw [if_pos hj, if_pos hj]; exact ⟨_, rfl⟩
 ·rw [if_neg hj, if_neg hj]; exact ⟨_, rfl⟩
theorem aZL : aCY X (.type "int") (fun xs H Q => (∃ i, xs = [.int i] /\ Q (.int i) H) \/ ∃ k, xs = [.bl k] /\ Q (.int (if k then 1 else 0)) H) := by
 intro pins s σ H xs us Q I r h
 rcases h with ⟨i, rfl, q⟩ | ⟨k, rfl, q⟩
 ·obtain ⟨u, rfl, t, rfl⟩ := aFX r
  exact call_int_int ⟨.int i, H, I, ⟨_, rfl⟩, q⟩
 ·obtain ⟨u, rfl, r1⟩ := aFX r
  cases r1
  exact call_int_bool ⟨.int (if k then 1 else 0), H, I.tok _, ⟨_, rfl⟩, q⟩
theorem aPH : aCY X (.type "str") (fun xs H Q => ∃ i, xs = [.int i] /\ i.natAbs.log2 < 1920 /\ Q (.str (toString i)) H) := by
 intro pins s σ H xs us Q I r h
 obtain ⟨i, rfl, hz, q⟩ := h
 obtain ⟨u, rfl, t, rfl⟩ := aFX r
 exact PySem.P.str_of_int hz ⟨.str _, H, I.tok _, ⟨_, rfl⟩, q⟩
end
structure ObjM (h : Heap) (x dx C : Addr) (mA : Str -> Option Value) : Prop where
 obj : h.get? x = some (PySem.W.instObj C dx)
 ns : h.Ns1 dx mA
 ne : dx ≠ x
theorem aXU {h : Heap} {dx : Addr} {mA : Str -> Option Value} (n : h.Ns1 dx mA) : ∃ od, h.get? dx = some od /\ ∀ name, PySem.W.lookIn name od = some (mA name) := by
 obtain ⟨o, es, ep, ho, hd, hk, _, hm⟩ := n
 refine ⟨o, ho, fun name => ?_⟩
 have e := hm name
 unfold nsFind findBy at e
 rw [<- Array.find?_toList] at e
 unfold PySem.W.lookIn
 rw [hd]
 dsimp only
 split
 ·rename_i y q
  rw [q] at e
  exact congrArg some e
 ·rename_i q
  rw [q] at e
  have a : es.toList.any (·.refKey) = false := by
   rw [List.any_eq_false]
   intro y hy
   obtain ⟨z, t, hkey⟩ := hk y (Array.mem_toList_iff.mp hy)
   simp [DictEntry.refKey, hkey]
  have a' : ¬ es.toList.any (·.refKey) = true := by rw [a]; exact Bool.false_ne_true
  rw [if_neg a']
  exact congrArg some e
theorem ObjM.look {h : Heap} {x dx C : Addr} {mA : Str -> Option Value} (I : ObjM h x dx C mA) : ∃ od, PySem.W.InstAt h x (PySem.W.instObj C dx) C (some od) /\ ∀ name, PySem.W.lookIn name od = some (mA name) :=
 let ⟨od, ho, hl⟩ := aXU I.ns
 ⟨od, ⟨I.obj, rfl, rfl, ho⟩, hl⟩
section
variable {prog : Program} {w : World} {A : Around} {E : Value -> Shared -> Prop} {s : Shared} {K : PySem.W.Frag} {x dx C f : Addr} {mA : Str -> Option Value} {name : Str} {v : Value}
theorem eFZ {expr : Bool} {Q : Value -> Shared -> Prop} (X : K.In s.heap) (I : ObjM s.heap x dx C mA) (hg : PySem.W.plainGet K C name = true) (hh : PySem.W.hasDictIn K C = true)
  (ha : PySem.W.findIn K (.ref C) name = some none) (hv : mA name = some v) (hv' : PySem.W.handedIn v = true) (h : Q v { s with toks := s.toks + 1 }) :
  wpAny (model prog w) A (getAttr (.ref x) name expr) Q E s := by
 obtain ⟨od, J, hl⟩ := I.look
 exact PySem.W.get_value X J (PySem.W.plainGet_of hg).1 (PySem.W.findObj_own hh ha rfl (by rw [hl, hv])) hv' h
theorem eEN {ns : List Str} {Q : Unit -> Shared -> Prop} (X : K.In s.heap) (I : ObjM s.heap x dx C mA)
  (hs : PySem.W.findIn K (.ref C) "__setattr__" = some (some (.builtin "object.__setattr__"))) (hp : PySem.W.plainOver K C = true) (ht : PySem.W.takerIn K C name = some none) (hh : PySem.W.hasDictIn K C = true)
  (hw : PySem.Within mA ns) (hsz : ns.length <= sizeLine)
  (h : ∀ h', ObjM h' x dx C (fun y => if y = name then some v else mA y) -> Heap.SameBut dx s.heap h' -> Q () { s with heap := h', toks := s.toks + 2 }) :
  wpAny (model prog w) A (setAttr (.ref x) name v) Q E s := by
 obtain ⟨od, J, hl⟩ := I.look
 refine PySem.W.set_plain X J hs (PySem.W.osa_open (s := { s with toks := s.toks + 1 }) (r := none) X J hp ht fun b => ?_)
 obtain ⟨cd, hc, hd'⟩ := PySem.W.any_some hh
 have hx : s.heap.get? x = some ⟨.ref C, some dx, .plain, #[]⟩ := I.obj
 refine wpAny_bind (wpAny_pure (wpAny_bind (wpAny_bind (wpAny_loadPart hx (wpAny_bind (PySem.W.Looks.here (s := { s with toks := s.toks + 1 }) (PySem.W.looks_clsIn X hc) ?_))))))
 rw [hd']
 refine wpAny_pure (a := some dx) (wpAny_bind (wpAny_pure (wpAny_bind ?_)))
 refine wpAny_nsSet1 (s := { s with toks := s.toks + 1 }) I.ns fun h' hn2 hs2 => ?_
 obtain ⟨oD, esD, epD, hoD, hdD, hcD⟩ := hn2.count (PySem.Within.cons name v hw)
 refine wpAny_bind (wpAny_lookBehind hoD (by rw [hdD]; exact pastItsLine_dict (Nat.le_trans hcD (by rw [List.length_cons]; omega))) ?_)
 exact wpAny_pure (h _ ⟨(hs2.2 _ (Ne.symm I.ne)).trans I.obj, hn2, I.ne⟩ hs2)
theorem eBF {R : Result -> Shared -> Prop} {vs : List Value} {kw : List (Str × Value)} (X : K.In s.heap) (hm : PySem.W.makesIn K C = true)
  (hi : PySem.W.findIn K (.ref C) "__init__" = some (some (.ref f))) (hf : PySem.W.typeIn K (.ref f) = some (.type "function"))
  (h : codeAny (model prog w) (A.under (.builtin "type.__call__" ⟨.ref C :: vs, kw⟩)) (.call (.ref f) ⟨.ref (s.heap.objs.size + 1) :: vs, kw⟩) (PySem.W.InitBack (s.heap.objs.size + 1) R)
   { s with heap := (s.heap.push PySem.W.emptyDict).push (PySem.W.instObj C s.heap.objs.size) }) :
  codeAny (model prog w) A (.call (.ref C) ⟨vs, kw⟩) R s := by
 obtain ⟨hh, g, d, t, os⟩ := s
 exact PySem.W.make_core (PySem.W.makes_of X hm) (PySem.W.looks_findIn X hi) (fun self => PySem.W.bind_fn X self hf) (.inl rfl) h
end
def aLU (f : Str) (v : V) : List (Str × V) -> List (Str × V)
 | [] => [(f, v)]
 | (g, x) :: r => if g = f then (g, v) :: r else (g, x) :: aLU f v r
theorem aHQ (f g : Str) (v : V) : ∀ fs : List (Str × V), (aLU f v fs).lookup g = if g = f then some v else fs.lookup g
 | [] => by
  show List.lookup g [(f, v)] = _
  by_cases h : g = f
  ·have hb : (g == f) = true := beq_iff_eq.mpr h
   simp only [List.lookup, hb, if_pos h]
  ·have hb : (g == f) = false := beq_eq_false_iff_ne.mpr h
   simp only [List.lookup, hb, if_neg h]
 | (k, x) :: r => by
  have ih := aHQ f g v r
  rw [show aLU f v ((k, x) :: r) = (if k = f then (k, v) :: r else (k, x) :: aLU f v r) from rfl]
  by_cases hk : k = f
  ·rw [if_pos hk]
   by_cases h : g = k
   ·have hb : (g == k) = true := beq_iff_eq.mpr h
    simp only [List.lookup, hb, if_pos (h.trans hk)]
   ·have hb : (g == k) = false := beq_eq_false_iff_ne.mpr h
    simp only [List.lookup, hb, if_neg (fun e : g = f => h (e.trans hk.symm))]
  ·rw [if_neg hk]
   by_cases h : g = k
   ·have hb : (g == k) = true := beq_iff_eq.mpr h
    simp only [List.lookup, hb, if_neg (fun e : g = f => hk (h.symm.trans e))]
   ·have hb : (g == k) = false := beq_eq_false_iff_ne.mpr h
    simp only [List.lookup, hb]
    exact ih
theorem aIC (f : Str) (v : V) : ∀ fs : List (Str × V), f ∈ (aLU f v fs).map (·.1) /\ ∀ g, g ∈ fs.map (·.1) -> g ∈ (aLU f v fs).map (·.1)
 | [] => ⟨by simp [aLU], fun g h => by simp at h⟩
 | (k, x) :: r => by
  obtain ⟨i1, i2⟩ := aIC f v r
  rw [show aLU f v ((k, x) :: r) = (if k = f then (k, v) :: r else (k, x) :: aLU f v r) from rfl]
  by_cases hk : k = f
  ·rw [if_pos hk]
   subst hk
   exact ⟨by simp, fun g h => by simpa using h⟩
  ·rw [if_neg hk]
   refine ⟨?_, fun g h => ?_⟩
   ·rw [List.map_cons]
    exact List.mem_cons_of_mem _ i1
   ·rw [List.map_cons] at h ⊢
    rcases List.mem_cons.mp h with e | e
    ·exact List.mem_cons.mpr (.inl e)
    ·exact List.mem_cons_of_mem _ (i2 g e)
theorem aHS (f : Str) (v : V) : ∀ fs : List (Str × V), (aLU f v fs).length <= fs.length + 1
 | [] => by simp [aLU]
 | (k, x) :: r => by
  have ih := aHS f v r
  rw [show aLU f v ((k, x) :: r) = (if k = f then (k, v) :: r else (k, x) :: aLU f v r) from rfl]
  by_cases hk : k = f
  ·rw [if_pos hk, List.length_cons, List.length_cons]; omega
  ·rw [if_neg hk, List.length_cons, List.length_cons]; omega
theorem RelO.some_of {v : V} {o : Option Value} (r : RelO (some v) o) : ∃ u, o = some u /\ RelV v u := by
 cases o with
 | none => exact (show False from r).elim
 | some u => exact ⟨u, rfl, r⟩
theorem aYD {v : V} {u : Value} (r : RelV v u) : PySem.W.handedIn u = true := by
 cases v with
 | non => cases (show u = Value.none from r); rfl
 | bl b => cases (show u = Value.bool b from r); rfl
 | int i => obtain ⟨t, e⟩ := (show ∃ t, u = Value.int i t from r); cases e; rfl
 | str x => obtain ⟨t, e⟩ := (show ∃ t, u = Value.str x t from r); cases e; rfl
 | byt b => obtain ⟨t, e⟩ := (show ∃ t, u = Value.bytes b t from r); cases e; rfl
 | flt b => obtain ⟨t, e⟩ := (show ∃ t, u = Value.float b t from r); cases e; rfl
 | ref a => cases (show u = Value.ref a from r); rfl
 | ty n => cases (show u = Value.type n from r); rfl
section
variable {P : Program} {w : World} {H H' : Hp} {h h' : Heap} {a C dx : Addr} {fs fs' : List (Str × V)}
theorem aRJ (hok : HOk P w H h) (e : H a = some (.ins C dx fs)) : ∃ mA, ObjM h a dx C mA /\ (∀ f, RelO (fs.lookup f) (mA f)) /\ PySem.Within mA (fs.map (·.1)) /\ fs.length <= 1000 /\ H dx = some (.own a) := by
 obtain ⟨d, z, ne, ob, mA, n, r, q⟩ := (show ObjOk P w H h a (.ins C dx fs) from hok a _ e)
 exact ⟨mA, ⟨ob, n, ne⟩, r, q, z, d⟩
end
structure Cls (K : PySem.W.Frag) (C : Addr) : Prop where
 pg : PySem.W.plainGet K C Str.empty = true
 hd : PySem.W.hasDictIn K C = true
 po : PySem.W.plainOver K C = true
 sa : PySem.W.findIn K (.ref C) "__setattr__" = some (some (.builtin "object.__setattr__"))
theorem Cls.get {K : PySem.W.Frag} {C : Addr} (c : Cls K C) (f : Str) : PySem.W.plainGet K C f = true := c.pg
def NoAttr (K : PySem.W.Frag) (C : Addr) (f : Str) : Prop := PySem.W.findIn K (.ref C) f = some none
theorem NoAttr.taker {K : PySem.W.Frag} {C : Addr} {f : Str} (n : NoAttr K C f) : PySem.W.takerIn K C f = some none := by
 unfold PySem.W.takerIn
 rw [show PySem.W.findIn K (.ref C) f = some none from n]
 rfl
section
variable {X : Cx} {pins : List (Addr × Obj)} {σ : St} {H : Hp} {s : Shared} {a C dx : Addr} {fs : List (Str × V)} {f : Str} {v : V} {A : Around} {E : Value -> Shared -> Prop}
theorem aKU {b : Bool} {Q : Value -> Shared -> Prop} (I : Inv X pins σ H s) (e : H a = some (.ins C dx fs)) (c : Cls X.K C) (n : NoAttr X.K C f) (l : fs.lookup f = some v)
  (h : ∀ u s', Inv X pins σ H s' -> RelV v u -> Q u s') : wpAny (model X.prog X.w) A (getAttr (.ref a) f b) Q E s := by
 obtain ⟨mA, O, r, _, _, _⟩ := aRJ I.hok e
 obtain ⟨u, hu, ru⟩ := RelO.some_of (v := v) (o := mA f) (by rw [<- l]; exact r f)
 exact eFZ I.kIn O (c.get f) c.hd n hu (aYD ru) (h u _ (I.tok _) ru)
theorem aKH {y : V} {u : Value} {Q : Unit -> Shared -> Prop} (I : Inv X pins σ H s) (e : H a = some (.ins C dx fs)) (c : Cls X.K C) (n : NoAttr X.K C f) (hl : fs.length < 1000) (ry : RelV y u)
  (h : ∀ s', Inv X pins σ (upd H a (.ins C dx (aLU f y fs))) s' -> Q () s') : wpAny (model X.prog X.w) A (setAttr (.ref a) f u) Q E s := by
 obtain ⟨mA, O, r, wi, _, ho⟩ := aRJ I.hok e
 have hz : (fs.map (·.1)).length <= sizeLine := by rw [List.length_map, sizeLine_eq]; omega
 refine eEN I.kIn O c.sa c.po n.taker c.hd wi hz fun h' O' sb => h _ ?_
 have hd : ∃ o, h'.get? dx = some o := let ⟨o, _, _, e', _⟩ := O'.ns; ⟨o, e'⟩
 refine I.write (x := a) (e := dx) (by rw [e]; exact True.intro) (.inr ho) (fun b q hb z => (sb.2 b hb).trans z) hd ?_
 refine ⟨by rw [yI O.ne]; exact ho, ?_, O.ne, O'.obj, _, O'.ns, fun g => ?_, fun g hg => ?_⟩
 ·have := aHS f y fs; omega
 ·show RelO ((aLU f y fs).lookup g) (if g = f then some u else mA g)
  rw [aHQ]
  by_cases q : g = f
  ·rw [if_pos q, if_pos q]; exact ry
  ·rw [if_neg q, if_neg q]; exact r g
 ·by_cases q : g = f
  ·rw [q]; exact (aIC f y fs).1
  ·refine (aIC f y fs).2 g (wi g fun z => hg ?_)
   show (if g = f then some u else mA g) = none
   rw [if_neg q]; exact z
theorem Inv.made (I : Inv X pins σ H s) : Inv X pins σ (upd (upd H s.heap.objs.size (.own (s.heap.objs.size + 1))) (s.heap.objs.size + 1) (.ins C s.heap.objs.size []))
  { s with heap := (s.heap.push PySem.W.emptyDict).push (PySem.W.instObj C s.heap.objs.size) } := by
 have e1 : (s.heap.push PySem.W.emptyDict).get? s.heap.objs.size = some PySem.W.emptyDict := Heap.get?_push_size s.heap rfl
 have e2 : ((s.heap.push PySem.W.emptyDict).push (PySem.W.instObj C s.heap.objs.size)).get? (s.heap.objs.size + 1) = some (PySem.W.instObj C s.heap.objs.size) := by
  have := Heap.get?_push_size (s.heap.push PySem.W.emptyDict) (o := PySem.W.instObj C s.heap.objs.size) rfl
  rwa [Heap.size_push] at this
 have e3 : (s.heap.push PySem.W.emptyDict).Ns s.heap.objs.size (fun _ => none) := ⟨PySem.W.emptyDict, #[], _, e1, rfl, (fun e he => absurd he (by simp)), fun _ => rfl⟩
 have I1 := I.laid (a := s.heap.objs.size) (o := .own (s.heap.objs.size + 1)) (h' := s.heap.push PySem.W.emptyDict) (t' := s.toks) (fun b u q => Heap.get?_push_of_some _ q) (Nat.le_refl _) ⟨_, e1⟩
 refine I1.laid (a := s.heap.objs.size + 1) (o := .ins C s.heap.objs.size []) (t' := s.toks) (fun b u q => Heap.get?_push_of_some _ q) (Nat.le_of_eq (Heap.size_push _ _)) ?_
 have ne : s.heap.objs.size ≠ s.heap.objs.size + 1 := Nat.ne_of_lt (Nat.lt_succ_self _)
 refine ⟨by rw [yI ne, yK], Nat.zero_le _, ne, e2, fun _ => none, (Heap.Ns1.of_empty e3).at fun o q => Heap.get?_push_of_some _ q, fun _ => True.intro, fun y hy => absurd rfl hy⟩
theorem eGZ {prog : Program} {w : World} {env : Env} {e : Expr} {f : Str} {pos : Pos} {s : Shared} {Q : Value -> Shared -> Prop} (hb : attributeBase e f env (eval e env) = eval e env)
  (h : wpAny (model prog w) A (eval e env) (fun o s₁ => wpAny (model prog w) A (getAttr o f true) Q E s₁) E s) : wpAny (model prog w) A (eval (.Attribute e f pos) env) Q E s :=
 Attribute_any_ h (by rw [arm_eval_Attribute, hb])
end
def eOS (K : PySem.W.Frag) (ta : TE) (f : Str) : TE := fun σ H Q => ta σ H fun x H1 => ∃ a C dx fs v, x = .ref a /\ H1 a = some (.ins C dx fs) /\ Cls K C /\ NoAttr K C f /\ fs.lookup f = some v /\ Q v H1
def eOW (K : PySem.W.Frag) (ta tv : TE) (f : Str) : TS := fun D σ H => tv σ H fun y H1 => ta σ H1 fun x H2 => ∃ a C dx fs, x = .ref a /\ H2 a = some (.ins C dx fs) /\ Cls K C /\ NoAttr K C f /\ fs.length < 1000 /\
 D.nx σ (upd H2 a (.ins C dx (aLU f y fs)))
def ePV (X : Cx) (op : Operator) (rd : V -> V -> Hp -> VK -> Prop) : Prop :=
 ∀ (pins : List (Addr × Obj)) (s : Shared) (σ : St) (H : Hp) (x y : V) (u v : Value) (Q : VK), Inv X pins σ H s -> RelV x u -> RelV y v -> rd x y H Q -> wpAny (model X.prog X.w) X.A (inplaceOp op u v) (EP X pins σ Q) X.xe s
def eEP (K : PySem.W.Frag) (ta tv : TE) (rd : V -> V -> Hp -> VK -> Prop) (f : Str) : TS := fun D σ H => ta σ H fun x H1 => ∃ a C dx fs v, x = .ref a /\ H1 a = some (.ins C dx fs) /\ Cls K C /\ NoAttr K C f /\ fs.lookup f = some v /\
 tv σ H1 fun y H2 => rd v y H2 fun z H3 => ∃ dx' fs', H3 a = some (.ins C dx' fs') /\ fs'.length < 1000 /\ D.nx σ (upd H3 a (.ins C dx' (aLU f z fs')))
section
variable {X : Cx} {o e value : Expr} {f : Str} {pos pos' tpos : Pos} {ta tv : TE}
theorem aTE (he : PE X e ta) (hb : attributeBase e f X.env (eval e X.env) = eval e X.env) : PE X (.Attribute e f pos) (eOS X.K ta f) := by
 intro pins s σ H Q I h
 refine eGZ hb (thn (he pins s σ H _ I h) fun u s1 ⟨x, H1, I1, rx, a, C, dx, fs, v, ex, ea, c, n, l, q⟩ => ?_)
 subst ex
 obtain rfl : u = Value.ref a := rx
 exact aKU I1 ea c n l fun u' s2 I2 ru => ⟨v, H1, I2, ru, q⟩
theorem aWW (ha : PE X o ta) (hv : PE X value tv) (hs : swapsWith value (some (.Attribute o f pos')) pos.line X.env = pure false) : PS X (.Assign [.Attribute o f pos'] value pos) (eOW X.K ta tv f) := by
 intro pins s σ H D I h
 refine plainObj_wpAny_Assign_Attribute (thn (hv pins s σ H _ I h) fun u s1 ⟨y, H1, I1, ry, q⟩ => thn (ha pins s1 σ H1 _ I1 q) fun ov s2 ⟨x, H2, I2, rx, a, C, dx, fs, ex, ea, c, n, l, q2⟩ => ?_) hs
 subst ex
 obtain rfl : ov = Value.ref a := rx
 exact aKH I2 ea c n l ry fun s3 I3 => ⟨σ, _, I3, q2⟩
theorem aWV {op : Operator} {rd : V -> V -> Hp -> VK -> Prop} (ha : PE X o ta) (hv : PE X value tv) (hop : ePV X op rd) : PS X (.AugAssign (.Attribute o f tpos) op value pos) (eEP X.K ta tv rd f) := by
 intro pins s σ H D I h
 refine wpAny_AugAssign_AttributeAny (thn (ha pins s σ H _ I h) fun ov s1 ⟨x, H1, I1, rx, a, C, dx, fs, v, ex, ea, c, n, l, q⟩ => ?_)
 subst ex
 obtain rfl : ov = Value.ref a := rx
 refine aKU I1 ea c n l fun u s2 I2 ru => thn (hv pins s2 σ H1 _ I2 q) fun w3 s3 ⟨y, H2, I3, ry, q3⟩ => thn (hop pins s3 σ H2 v y u w3 _ I3 ru ry q3) fun w4 s4 ⟨z, H3, I4, rz, dx', fs', ea', l', q4⟩ => ?_
 exact aKH I4 ea' c n l' rz fun s5 I5 => ⟨σ, _, I5, q4⟩
def ePD : V -> V -> Hp -> VK -> Prop := fun x y H Q => ∃ i j, x = .int i /\ y = .int j /\ Q (.int (i + j)) H
end
section
variable {X : Cx} {pins : List (Addr × Obj)} {σ : St} {H : Hp} {s : Shared} {A : Around} {E : Value -> Shared -> Prop} {Q : Value -> Shared -> Prop} {c : Value} {b : Bool}
inductive aVJ (K : PySem.W.Frag) (H : Hp) : V -> Value -> Prop where
 | non : aVJ K H .non (.type "NoneType")
 | bl (x : Bool) : aVJ K H (.bl x) (.type "bool")
 | int (i : Int) : aVJ K H (.int i) (.type "int")
 | str (x : Str) : aVJ K H (.str x) (.type "str")
 | flt (x : UInt64) : aVJ K H (.flt x) (.type "float")
 | lst {a : Addr} {xs : List V} (e : H a = some (.lst xs)) : aVJ K H (.ref a) (.type "list")
 | frz {a : Addr} {o : Obj} {xs : List V} (e : H a = some (.frz o (.lst xs))) : aVJ K H (.ref a) (.type "list")
 | tup {a : Addr} {xs : List V} (e : H a = some (.tup xs)) : aVJ K H (.ref a) (.type "tuple")
 | dK {a : Addr} {kvs : List (Key × V)} (e : H a = some (.dK kvs)) : aVJ K H (.ref a) (.type "dict")
 | dT {a : Addr} {kvs : List (List Key × V)} (e : H a = some (.dT kvs)) : aVJ K H (.ref a) (.type "dict")
 | ins {a C dx : Addr} {fs : List (Str × V)} (e : H a = some (.ins C dx fs)) (cl : Cls K C) (ha : PySem.W.findIn K (.ref C) "__class__" = some (some (.builtin "object.__class__")))
   (hn : PySem.W.specialIn K (.builtin "object.__class__") "__get__" = some (some (.builtin "getset_descriptor.__get__"))) (htk : PySem.W.takesIn K (.builtin "object.__class__") = some true)
   (hm : PySem.W.mroIn K C (.type "object") = some true) : aVJ K H (.ref a) (.ref C)
theorem aXZ {x : V} {u t : Value} (I : Inv X pins σ H s) (rx : RelV x u) (ty : aVJ X.K H x t) (e : PySem.W.kitOne X.K t c = some b) (h : ∀ tk, Q (.bool b) { s with toks := tk }) :
  wpAny (model X.prog X.w) A (call (.builtin "isinstance") [u, c]) Q E s := by
 cases ty with
 | non => cases (show u = Value.none from rx); exact PySem.W.kia_one PySem.W.kitx_none I.kIn True.intro e (fun z => nomatch z) h
 | bl y => cases (show u = Value.bool y from rx); exact PySem.W.kia_one PySem.W.kitx_bool I.kIn True.intro e (fun z => nomatch z) h
 | int i => obtain ⟨t, q⟩ := (show ∃ t, u = Value.int i t from rx); cases q; exact PySem.W.kia_one PySem.W.kitx_int I.kIn True.intro e (fun z => nomatch z) h
 | str y => obtain ⟨t, q⟩ := (show ∃ t, u = Value.str y t from rx); cases q; exact PySem.W.kia_one PySem.W.kitx_str I.kIn True.intro e (fun z => nomatch z) h
 | flt y => obtain ⟨t, q⟩ := (show ∃ t, u = Value.float y t from rx); cases q; exact PySem.W.kia_one PySem.W.kitx_float I.kIn True.intro e (fun z => nomatch z) h
 | @lst a xs ea =>
  cases (show u = Value.ref a from rx)
  obtain ⟨_, _, n, _, h1⟩ := (show ObjOk X.prog X.w H s.heap a (.lst xs) from I.hok a _ ea)
  exact PySem.W.kia_one PySem.W.kitx_list I.kIn ⟨_, h1, rfl⟩ e (fun z => nomatch z) h
 | @frz a ob xs ea =>
  cases (show u = Value.ref a from rx)
  obtain ⟨_, _, _, n, _, h1⟩ := (show ObjOk X.prog X.w H s.heap a (.frz ob (.lst xs)) from I.hok a _ ea)
  exact PySem.W.kia_one PySem.W.kitx_list I.kIn ⟨_, h1, rfl⟩ e (fun z => nomatch z) h
 | @tup a xs ea =>
  cases (show u = Value.ref a from rx)
  obtain ⟨_, _, _, p⟩ := (show ObjOk X.prog X.w H s.heap a (.tup xs) from I.hok a _ ea)
  obtain ⟨o, h1, h2, _⟩ := p
  exact PySem.W.kia_one PySem.W.kitx_tuple I.kIn ⟨o, h1, h2⟩ e (fun z => nomatch z) h
 | @dK a kvs ea =>
  cases (show u = Value.ref a from rx)
  obtain ⟨_, _, vs, _, p⟩ := (show ObjOk X.prog X.w H s.heap a (.dK kvs) from I.hok a _ ea)
  obtain ⟨o, es, ep, h1, h2, _⟩ := p
  exact PySem.W.kia_one PySem.W.kitx_dict I.kIn ⟨o, h1, h2.1⟩ e (fun z => nomatch z) h
 | @dT a kvs ea =>
  cases (show u = Value.ref a from rx)
  obtain ⟨_, _, xs, _, o, es, ep, h1, h2, _⟩ := (show ObjOk X.prog X.w H s.heap a (.dT kvs) from I.hok a _ ea)
  exact PySem.W.kia_one PySem.W.kitx_dict I.kIn ⟨o, h1, h2.1⟩ e (fun z => nomatch z) h
 | @ins a C dx fs ea cl ha hn htk hm =>
  cases (show u = Value.ref a from rx)
  obtain ⟨mA, O, _⟩ := aRJ I.hok ea
  obtain ⟨od, J, _⟩ := O.look
  exact PySem.W.kia_one (PySem.W.kitx_own (cl.get _) cl.hd ha hn htk hm) I.kIn J e (fun z => nomatch z) h
end
structure Room (k : Nat) (A : Around) : Prop where
 hd : A.handled = none
 dp : A.depth + 3 * k + 105 < recursionLimit
 un : A.units + 16 * k + 200 < cLine
theorem Room.mono {j k : Nat} {A : Around} (r : Room k A) (h : j <= k) : Room j A := ⟨r.hd, by have := r.dp; omega, by have := r.un; omega⟩
theorem Room.deeper {k : Nat} {A : Around} (r : Room (k + 1) A) (env : Env) : Room k (A.deeper env) :=
 ⟨r.hd, by have := r.dp; show A.depth + 1 + 3 * k + 105 < _; omega, by have := r.un; show A.units + 3 + 16 * k + 200 < _; omega⟩
theorem aUS {A : Around} {C : Addr} {us : List Value} {kw : List (Str × Value)} : (A.under (.builtin "type.__call__" ⟨.ref C :: us, kw⟩)).depth = A.depth + 1 := by
 first | rfl | simp [Around.under, Code.weight, Code.isCreation, Code.isGuard, Code.isCaller, Code.frames, Code.isFrame, guardIds]
theorem aUR {A : Around} {C : Addr} {us : List Value} {kw : List (Str × Value)} : (A.under (.builtin "type.__call__" ⟨.ref C :: us, kw⟩)).units = A.units + 1 := by
 first | rfl | simp [Around.under, Code.cUnits, Code.frames, Code.isFrame]
theorem Room.make {k : Nat} {A : Around} (r : Room (k + 1) A) (C : Addr) (us : List Value) (kw : List (Str × Value)) : Room k (A.under (.builtin "type.__call__" ⟨.ref C :: us, kw⟩)) :=
 ⟨r.hd, by have := r.dp; rw [aUS]; omega, by have := r.un; rw [aUR]; omega⟩
theorem Room.dp100 {k : Nat} {A : Around} (r : Room k A) : A.depth + 100 < recursionLimit := by have := r.dp; omega
theorem Room.depth {k : Nat} {A : Around} (r : Room k A) : A.depth < recursionLimit := by have := r.dp; omega
theorem Room.units {k : Nat} {A : Around} (r : Room k A) : A.units + 64 < cLine := by have := r.un; omega
def eOO : TA := fun _ H Q => Q [] H
def eLZ (ta : TE) (tr : TA) : TA := fun σ H Q => ta σ H fun x H1 => tr σ H1 fun xs H2 => Q (x :: xs) H2
section
variable {X : Cx} {e : Expr} {es : List Expr} {te : TE} {t : TA} {pos : Pos}
theorem jW : PA X [] eOO := fun _ _ _ _ H Q I h => Calls.spliced_nil ⟨[], H, I, .nil, h⟩
theorem zC (ha : PE X e te) (hr : PA X es t) (hs : starEach (e :: es) X.env = (false, eval e X.env) :: starEach es X.env := by rfl) : PA X (e :: es) (eLZ te t) := by
 intro pos pins s σ H Q I h
 rw [hs]
 show wpAny _ _ (spliced ((false, eval e X.env) :: backTo pos (starEach es X.env))) _ _ s
 refine Calls.spliced_cons (thn (ha pins s σ H _ I h) fun u s1 ⟨x, H1, I1, r1, q1⟩ => ?_)
 exact thn (hr pos pins s1 σ H1 _ I1 q1) fun us s2 ⟨xs, H2, I2, r2, q2⟩ => ⟨x :: xs, H2, I2, .cons r1 r2, q2⟩
def eOJ (t : TA) : TE := fun σ H Q => t σ H fun xs H1 => xs.length <= sizeLine /\ ∀ p, H1 p = none -> Q (.ref p) (upd H1 p (.tup xs))
def eOP (t : TA) : TE := fun σ H Q => t σ H fun xs H1 => xs.length <= sizeLine /\ ∀ p, H1 p = none -> Q (.ref p) (upd H1 p (.lst xs))
theorem eIP {x1} (h : PA X es t) : PE X (.Tuple es x1 pos) (eOJ t) := by
 intro pins s σ H Q I hq
 refine wpAny_Tuple_spliced (thn (h pos pins s σ H _ I hq) fun us s1 ⟨xs, H1, I1, r, z, q⟩ => ⟨by rw [<- r.length]; exact z, ?_⟩)
 have hf : H1 s1.heap.objs.size = none := I1.hok.fresh (Nat.le_refl _)
 refine ⟨.ref s1.heap.objs.size, upd H1 s1.heap.objs.size (.tup xs), I1.laid (t' := s1.toks) (fun b u e => Heap.get?_push_of_some _ e) (Nat.le_refl _) ?_, rfl, q _ hf⟩
 exact ⟨z, us, r, ⟨_, Heap.get?_push_size _ rfl, rfl, _, rfl⟩⟩
theorem eCR (h : PA X es t) : PE X (.List es pos) (eOP t) := by
 intro pins s σ H Q I hq
 refine wpAny_List_spliced (thn (h pos pins s σ H _ I hq) fun us s1 ⟨xs, H1, I1, r, z, q⟩ => ⟨by rw [<- r.length]; exact z, ?_⟩)
 have hf : H1 s1.heap.objs.size = none := I1.hok.fresh (Nat.le_refl _)
 refine ⟨.ref s1.heap.objs.size, upd H1 s1.heap.objs.size (.lst xs), I1.laid (t' := s1.toks) (fun b u e => Heap.get?_push_of_some _ e) (Nat.le_refl _) ?_, rfl, q _ hf⟩
 exact ⟨z, us, 0, r, Heap.get?_push_size _ rfl⟩
end
abbrev Sp := List V -> Hp -> VK -> XK -> Prop
abbrev CXT := List Env -> Hp -> Shared -> XK -> Value -> Shared -> Prop
structure Env0 (P : Program) (w : World) (K : PySem.W.Frag) (mg : Str -> Option Value) (base : Heap) (A : Around) (outer : List Env) (s : Shared) (H : Hp) : Prop where
 frames : A.frames = some outer
 mod : Mod K mg base
 bs : ∀ b o, base.get? b = some o -> s.heap.get? b = some o /\ H b = none
 bsz : base.objs.size <= s.heap.objs.size
 funs : s.heap.FunFrames base outer
 frf : ∀ b ∈ frs outer, H b = none
 hok : HOk P w H s.heap
 bare : AllBare s.gens
def CE (outer : List Env) (P : Program) (w : World) (H : Hp) (s : Shared) (Q : VK) (u : Value) (s' : Shared) : Prop :=
 ∃ v H', s'.os = s.os /\ AllBare s'.gens /\ Un (frs outer) [] H H' s.heap s'.heap /\ HOk P w H' s'.heap /\ RelV v u /\ Q v H'
def CR (CX : CXT) (outer : List Env) (P : Program) (w : World) (H : Hp) (s : Shared) (Q : VK) (E : XK) (r : Result) (s' : Shared) : Prop :=
 match r with
 | .ok (.ret u) => CE outer P w H s Q u s'
 | .ok _ => False
 | .error e => CX outer H s E e s'
structure qU (P : Program) (w : World) (K : PySem.W.Frag) (mg : Str -> Option Value) (base : Heap) (CX : CXT) (k : Nat) (f : Addr) (fd : FuncData) (ps : List Str) (sp : Sp) : Prop where
 len : ∀ vs H Q E, sp vs H Q E -> vs.length = ps.length
 run : ∀ (A : Around) (outer : List Env) (s : Shared) (H : Hp) (args : Args) (us : List Value) (vs : List V) (Q : VK) (E : XK), Room k A -> Env0 P w K mg base A outer s H -> BindsTo s fd args (ps.zip us) -> Vals vs us -> sp vs H Q E ->
  codeAny (model P w) A (.call (.ref f) args) (CR CX outer P w H s Q E) s
theorem Env0.make {P : Program} {w : World} {K : PySem.W.Frag} {mg : Str -> Option Value} {base : Heap} {A : Around} {outer : List Env} {s : Shared} {H : Hp} (e : Env0 P w K mg base A outer s H) (C : Addr) (us : List Value) (kw : List (Str × Value)) :
  Env0 P w K mg base (A.under (.builtin "type.__call__" ⟨.ref C :: us, kw⟩)) outer s H := ⟨by first | exact e.frames | (simpa [Around.under, Code.envs, Code.isFrame, pushEnvs] using e.frames), e.mod, e.bs, e.bsz, e.funs, e.frf, e.hok, e.bare⟩
section
variable {X : Cx} {pins : List (Addr × Obj)} {σ : St} {H : Hp} {s s' : Shared}
theorem Inv.env0 (I : Inv X pins σ H s) : Env0 X.prog X.w X.K X.mg X.base X.A X.stack s H :=
 ⟨I.ok.frames, I.ok.mod, I.bs, Nat.le_trans I.ok.bsz I.sz, I.stack, I.stkFree, I.hok, I.bare⟩
theorem Inv.after {Q : VK} {u : Value} (I : Inv X pins σ H s) (h : CE X.stack X.prog X.w H s Q u s') : EP X pins σ Q u s' := by
 obtain ⟨v, H', os, bare, un, hok, r, q⟩ := h
 obtain ⟨hh, g, d, t, os'⟩ := s'
 obtain rfl : os' = s.os := os
 exact ⟨v, H', I.call (h' := hh) (g' := g) (d' := d) (t' := t) (ch := []) un hok bare (fun b z => absurd z (by simp)), r, q⟩
end
def eMA (sp : Sp) (dvs : List V) (E : XK) (t : TA) : TE := fun σ H Q => t σ H fun vs H1 => sp (vs ++ dvs) H1 Q E
def eLX (C : Addr) (sp : Sp) (dvs : List V) (E : XK) (t : TA) : TE := fun σ H Q => t σ H fun vs H1 => ∀ x dx, H1 x = none -> H1 dx = none -> dx ≠ x ->
 sp (.ref x :: (vs ++ dvs)) (upd (upd H1 dx (.own x)) x (.ins C dx [])) (fun v H2 => v = .non /\ Q (.ref x) H2) E
def Binds (K : PySem.W.Frag) (fd : FuncData) (ps : List Str) (ds : List Value) : Prop :=
 ∀ (s : Shared) (us : List Value), K.In s.heap -> (us ++ ds).length = ps.length -> BindsTo s fd ⟨us, []⟩ (ps.zip (us ++ ds))
theorem Binds.all {K : PySem.W.Frag} {fd : FuncData} {ps : List Str} (h : ∀ us : List Value, us.length = ps.length -> bindArgs fd ⟨us, []⟩ = pure (ps.zip us)) : Binds K fd ps [] := fun s us _ hl => by
 rw [List.append_nil] at hl ⊢
 exact .of_eq (h us hl)
def aCL (CX : CXT) (X : Cx) (E : XK) : Prop := ∀ (pins : List (Addr × Obj)) (σ : St) (H : Hp) (s : Shared) (e : Value) (s' : Shared), Inv X pins σ H s -> CX X.stack H s E e s' -> X.xe e s'
section
variable {X : Cx} {CX : CXT} {k : Nat} {f C : Addr} {fd : FuncData} {ps : List Str} {sp : Sp} {dvs : List V} {ds : List Value} {E : XK} {x m : Str} {p pos apos : Pos} {e o : Expr} {es : List Expr} {ta : TE} {t : TA}
theorem eHX {pins : List (Addr × Obj)} {σ : St} {H : Hp} {s : Shared} {Q : VK} {us : List Value} {vs : List V} (F : qU X.prog X.w X.K X.mg X.base CX k f fd ps sp) (hr : Room k X.A) (hb : Binds X.K fd ps ds) (hd : Vals dvs ds) (hx : aCL CX X E)
  (I : Inv X pins σ H s) (r : Vals vs us) (h : sp (vs ++ dvs) H Q E) : wpAny (model X.prog X.w) X.A (call (.ref f) us) (EP X pins σ Q) X.xe s := by
 have r2 : Vals (vs ++ dvs) (us ++ ds) := r.append hd
 have hl : (us ++ ds).length = ps.length := by rw [<- r2.length]; exact F.len _ _ _ _ h
 refine wpAny_call (codeAny_mono (F.run X.A X.stack s H ⟨us, []⟩ (us ++ ds) (vs ++ dvs) Q E hr I.env0 (hb s us I.kIn hl) r2 h) fun r s' hq => ?_)
 cases r with
 | error e => exact hx pins σ H s e s' I hq
 | ok fl =>
  cases fl with
  | ret u => exact I.after hq
  | next => exact False.elim hq
  | brk => exact False.elim hq
  | cont => exact False.elim hq
theorem aFC (F : qU X.prog X.w X.K X.mg X.base CX k f fd ps sp) (hr : Room k X.A) (hg : Gl X x) (hm : X.mg x = some (.ref f)) (hk : PySem.W.keepIn X.K (.ref f) = true) (hb : Binds X.K fd ps ds) (hd : Vals dvs ds) (hx : aCL CX X E)
  (ha : PA X (e :: es) t) (hdb : (x == ("__debug__" : Str)) = false := by decide) (he : starEach (e :: es) X.env = (false, eval e X.env) :: starEach es X.env := by rfl) (hpl : (backTo pos (starEach es X.env)).any (·.1) = false := by rfl) :
  PE X (.Call (.Name x p) (e :: es) [] pos) (eMA sp dvs E t) := by
 intro pins s σ H Q I h
 refine wpAny_Call_Name_kw (aRG I hg hm ?_ hdb)
 refine PySem.W.callWith_K (h₀ := X.base) I.ok.mod.kin hk (thn (ha pos pins s σ H _ I h) fun us s1 ⟨vs, H1, I1, r, q⟩ => ⟨I1.kIn, ?_⟩) he hpl
 exact eHX F hr hb hd hx I1 r q
structure Mk (K : PySem.W.Frag) (C f : Addr) : Prop where
 makes : PySem.W.makesIn K C = true
 init : PySem.W.findIn K (.ref C) "__init__" = some (some (.ref f))
 fn : PySem.W.isFn K (.ref f) = true
 kp : PySem.W.keepIn K (.ref C) = true
theorem eAS {pins : List (Addr × Obj)} {σ : St} {H : Hp} {s : Shared} {Q : VK} {us : List Value} {vs : List V} (M : Mk X.K C f) (F : qU X.prog X.w X.K X.mg X.base CX k f fd ps sp) (hr : Room (k + 1) X.A) (hb : Binds X.K fd ps ds) (hd : Vals dvs ds)
  (hx : aCL CX X E) (I : Inv X pins σ H s) (r : Vals vs us)
  (h : ∀ x dx, H x = none -> H dx = none -> dx ≠ x -> sp (.ref x :: (vs ++ dvs)) (upd (upd H dx (.own x)) x (.ins C dx [])) (fun v H2 => v = .non /\ Q (.ref x) H2) E) :
  wpAny (model X.prog X.w) X.A (call (.ref C) us) (EP X pins σ Q) X.xe s := by
 have hq := h (s.heap.objs.size + 1) s.heap.objs.size (I.hok.fresh (Nat.le_succ _)) (I.hok.fresh (Nat.le_refl _)) (Nat.ne_of_lt (Nat.lt_succ_self _))
 have I2 := Inv.made (C := C) I
 have r2 : Vals (V.ref (s.heap.objs.size + 1) :: (vs ++ dvs)) (Value.ref (s.heap.objs.size + 1) :: (us ++ ds)) := .cons rfl (r.append hd)
 have hl : (Value.ref (s.heap.objs.size + 1) :: us ++ ds).length = ps.length := by
  have e := r2.length
  rw [F.len _ _ _ _ hq] at e
  exact e.symm
 refine wpAny_call (eBF (f := f) I.kIn M.makes M.init (beq_iff_eq.mp M.fn) (codeAny_mono (F.run _ X.stack _ _ ⟨Value.ref (s.heap.objs.size + 1) :: us, []⟩ (Value.ref (s.heap.objs.size + 1) :: (us ++ ds)) _ _ E (hr.make C us [])
  (I2.env0.make C us []) (hb _ (Value.ref (s.heap.objs.size + 1) :: us) I2.kIn hl) r2 hq) fun r s' hq' => ?_))
 cases r with
 | error e => exact hx pins σ _ _ e s' I2 hq'
 | ok fl =>
  cases fl with
  | ret u =>
   obtain ⟨v, H', I3, rv, ev, q3⟩ := I2.after hq'
   subst ev
   exact ⟨rv, ⟨V.ref (s.heap.objs.size + 1), H', I3, rfl, q3⟩⟩
  | next => exact False.elim hq'
  | brk => exact False.elim hq'
  | cont => exact False.elim hq'
theorem eFI (M : Mk X.K C f) (F : qU X.prog X.w X.K X.mg X.base CX k f fd ps sp) (hr : Room (k + 1) X.A) (hg : Gl X x) (hm : X.mg x = some (.ref C)) (hb : Binds X.K fd ps ds) (hd : Vals dvs ds) (hx : aCL CX X E)
  (ha : PA X (e :: es) t) (hdb : (x == ("__debug__" : Str)) = false := by decide) (he : starEach (e :: es) X.env = (false, eval e X.env) :: starEach es X.env := by rfl) (hpl : (backTo pos (starEach es X.env)).any (·.1) = false := by rfl) :
  PE X (.Call (.Name x p) (e :: es) [] pos) (eLX C sp dvs E t) := by
 intro pins s σ H Q I h
 refine wpAny_Call_Name_kw (aRG I hg hm ?_ hdb)
 refine PySem.W.callWith_K (h₀ := X.base) I.ok.mod.kin M.kp (thn (ha pos pins s σ H _ I h) fun us s1 ⟨vs, H1, I1, r, q⟩ => ⟨I1.kIn, ?_⟩) he hpl
 exact eAS M F hr hb hd hx I1 r q
end
structure yL (N P : List Str) (sc : Scope) : Prop where
 kind : sc.kind = .function
 co : sc.isCoroutine = false
 gen : sc.isGenerator = false
 nd : N.Nodup
 pre : N.take P.length = P
 par : ∀ x ∈ P, sc.names.lookup x = some .local \/ sc.names.lookup x = some .cell
 nofree : ∀ y ∈ sc.names, y.2 ≠ .free
theorem aPO {kindOf : Str -> Option NameKind} {x : Str} : ∀ {binds : List (Str × Value)} {m : Str -> Option Value}, (∀ v, (x, v) ∉ binds) -> bindL kindOf binds m x = m x
 | [], _, _ => rfl
 | (n, v) :: r, m, h => by
  unfold bindL
  rw [aPO fun w hw => h w (List.mem_cons_of_mem _ hw)]
  split
  ·have : x ≠ n := by rintro rfl; exact h v List.mem_cons_self
   simp [this]
  ·rfl
theorem aPQ {kindOf : Str -> Option NameKind} {x : Str} : ∀ {binds : List (Str × Value)} {m : Str -> Option Value}, (∀ v, (x, v) ∉ binds) -> bindC kindOf binds m x = m x
 | [], _, _ => rfl
 | (n, v) :: r, m, h => by
  unfold bindC
  rw [aPQ fun w hw => h w (List.mem_cons_of_mem _ hw)]
  split
  ·rfl
  ·have : x ≠ n := by rintro rfl; exact h v List.mem_cons_self
   simp [this]
theorem aPP {kindOf : Str -> Option NameKind} {x : Str} {v : Value} : ∀ {P : List Str} {vs : List Value} {i : Nat} {m : Str -> Option Value}, P.Nodup -> P[i]? = some x -> vs[i]? = some v -> kindOf x = some .local ->
  bindL kindOf (P.zip vs) m x = some v
 | [], _, _, _, _, h, _, _ => by simp at h
 | _ :: _, [], _, _, _, _, h, _ => by simp at h
 | p :: P, w :: vs, 0, m, nd, h1, h2, hk => by
  simp at h1 h2; subst h1; subst h2
  show bindL kindOf ((p, w) :: P.zip vs) m p = _
  unfold bindL
  rw [aPO fun v hv => (List.nodup_cons.mp nd).1 (List.of_mem_zip hv).1, if_pos hk]
  simp
 | p :: P, w :: vs, i + 1, m, nd, h1, h2, hk => by
  show bindL kindOf ((p, w) :: P.zip vs) m x = _
  unfold bindL
  exact aPP (i := i) (List.nodup_cons.mp nd).2 (by simpa using h1) (by simpa using h2) hk
theorem aPR {kindOf : Str -> Option NameKind} {x : Str} {v : Value} : ∀ {P : List Str} {vs : List Value} {i : Nat} {m : Str -> Option Value}, P.Nodup -> P[i]? = some x -> vs[i]? = some v -> kindOf x ≠ some .local ->
  bindC kindOf (P.zip vs) m x = some v
 | [], _, _, _, _, h, _, _ => by simp at h
 | _ :: _, [], _, _, _, _, h, _ => by simp at h
 | p :: P, w :: vs, 0, m, nd, h1, h2, hk => by
  simp at h1 h2; subst h1; subst h2
  show bindC kindOf ((p, w) :: P.zip vs) m p = _
  unfold bindC
  rw [aPQ fun v hv => (List.nodup_cons.mp nd).1 (List.of_mem_zip hv).1, if_neg hk]
  simp
 | p :: P, w :: vs, i + 1, m, nd, h1, h2, hk => by
  show bindC kindOf ((p, w) :: P.zip vs) m x = _
  unfold bindC
  exact aPR (i := i) (List.nodup_cons.mp nd).2 (by simpa using h1) (by simpa using h2) hk
def start (N : List Str) (vs : List V) : St := vs.map some ++ List.replicate (N.length - vs.length) none
def aVA (CX : CXT) (P : Program) (w : World) (K : PySem.W.Frag) (mg : Str -> Option Value) (base : Heap) (N : List Str) (qual : Str) (scope : Scope) (f : Addr) (cd : Value) (A : Around) (outer : List Env) (s : Shared) (H : Hp) (E : XK) : Cx where
 prog := P
 w := w
 K := K
 mg := mg
 base := base
 A := A.deeper (envOfC qual scope s.heap.objs.size f cd)
 N := N
 s₀ := s
 H₀ := H
 env := envOfC qual scope s.heap.objs.size f cd
 outer := outer
 stack := envOfC qual scope s.heap.objs.size f cd :: outer
 ex := []
 calm := true
 fn := fun _ => true
 pn := []
 xe := fun e s' => wpAny (model P w) (A.deeper (envOfC qual scope s.heap.objs.size f cd)) (leaving (envOfC qual scope s.heap.objs.size f cd) e) (fun _ s'' => CX outer H s E e s'') (fun e' s'' => CX outer H s E e' s'') s'
theorem aTY {sc : Scope} {n : Nat} {x : Str} (h : sc.names.lookup x = some .cell) : ∃ c, (cellsFrom n sc.names []).lookup x = some c := by
 have q := PySem.W.cellsFrom_some sc.names n [] (.inl h)
 exact Option.isSome_iff_exists.mp q
theorem aYA {CX : CXT} {P : Program} {w : World} {K : PySem.W.Frag} {mg : Str -> Option Value} {base : Heap} {N ps : List Str} {qual : Str} {scope : Scope} {f : Addr} {cd : Value} {A : Around} {outer : List Env} {s s1 : Shared} {H : Hp} {E : XK} {us : List Value} {vs : List V}
  (S : yL N ps scope) (hd : A.handled = none) (e0 : Env0 P w K mg base A outer s H) (hl : vs.length = ps.length) (r : Vals vs us)
  (x : InCallC s s.heap.objs.size (bindL (envOfC qual scope s.heap.objs.size f cd).kindOf (ps.zip us) fun _ => none) (cellsFrom (s.heap.objs.size + 1) scope.names []) (bindC (envOfC qual scope s.heap.objs.size f cd).kindOf (ps.zip us) fun _ => none) s1) :
  Inv (aVA CX P w K mg base N qual scope f cd A outer s H E) [] (start N vs) H s1 := by
 have hpl : ps.length <= N.length := by have := congrArg List.length S.pre; rw [List.length_take] at this; omega
 obtain ⟨h1, tk, rfl, hk⟩ := x.done
 have noA : ∀ b : Addr, b ∉ (aVA CX P w K mg base N qual scope f cd A outer s H E).ex := fun b z => absurd (show b ∈ ([] : List Addr) from z) (by simp)
 refine ⟨⟨e0.mod, S.kind, rfl, rfl, Nat.le_refl _, fun y z c h1 h2 => ?_, fun y hy => ?_, fun y c _ h => ?_, fun _ => hd, Around.frames_deeper e0.frames, .inr ⟨rfl, rfl⟩, fun b z => absurd z (noA b), e0.bs, e0.bsz, fun b _ _ => noA b, fun b z => absurd z (noA b), e0.funs, e0.frf⟩,
  rfl, e0.bare, Un.kept hk, ⟨_, x.toInCall.ns, fun i y v h1 h2 h3 => ?_⟩, fun y c h => ⟨_, x.cell y c h⟩, e0.hok.fresh (Nat.le_refl _), fun y c h => ?_, fun p hp => absurd (show p ∈ ([] : List (Addr × Obj)) from hp) (by simp), e0.hok.kept hk, ?_⟩
 ·exact name_of_addr x.apart (PySem.mem_of_lookup h1) (PySem.mem_of_lookup h2)
 ·have hy : scope.names.lookup y = some .cell \/ scope.names.lookup y = some .free := hy
  rcases hy with hy | hy
  ·exact aTY hy
  ·exact absurd rfl (S.nofree _ (PySem.mem_of_lookup hy))
 ·exact Nat.le_of_lt (x.above y c (PySem.mem_of_lookup h))
 ·have hi : i < vs.length := by
   unfold start at h2
   by_cases hi : i < vs.length
   ·exact hi
   ·rw [List.getElem?_append_right (by simpa using hi)] at h2
    rw [List.getElem?_replicate] at h2
    split at h2 <;> cases h2
  have ha : vs[i]? = some v := by
   unfold start at h2
   rw [List.getElem?_append_left (by simpa using hi), List.getElem?_map] at h2
   cases e : vs[i]? with
   | none => rw [e] at h2; cases h2
   | some a => rw [e] at h2; cases h2; rfl
  obtain ⟨u, hu, rv⟩ := r.get ha
  have hp : ps[i]? = some y := by
   rw [<- S.pre, List.getElem?_take_of_lt (by omega)]; exact h1
  have ndP : ps.Nodup := by rw [<- S.pre]; exact S.nd.sublist (List.take_sublist _ _)
  refine ⟨u, rv, ?_⟩
  rcases S.par y (List.mem_of_getElem? hp) with k | k
  ·exact .inl ⟨k, aPP ndP hp hu k⟩
  ·obtain ⟨c, e⟩ := aTY (n := s.heap.objs.size + 1) k
   refine .inr ⟨.inl k, c, e, ?_⟩
   have q := x.cell y c e
   rw [aPR ndP hp hu (by show scope.names.lookup y ≠ _; rw [k]; decide)] at q
   exact q
 ·exact e0.hok.fresh (Nat.le_of_lt (x.above y c (PySem.mem_of_lookup h)))
 ·unfold start
  show _ = N.length
  rw [List.length_append, List.length_map, List.length_replicate]
  omega
theorem eMX {CX : CXT} {P : Program} {w : World} {K : PySem.W.Frag} {mg : Str -> Option Value} {base : Heap} {k : Nat} {f : Addr} {name qual : Str} {params : Arguments} {body : List Stmt} {scope : Scope} {dV kV doc pm cdv ct oc : Value} {an od : Option Addr}
  {osl : Array (Option Value)} {N ps : List Str} {sp : Sp} (lk : K.lookup f = some ⟨oc, od, .func (PySem.W.fnOf name qual params body scope dV kV doc pm an cdv ct), osl⟩) (hcd : PySem.W.codeIn K cdv qual = true) (S : yL N ps scope)
  (len : ∀ vs H Q E, sp vs H Q E -> vs.length = ps.length)
  (hbody : ∀ (A : Around) (outer : List Env) (s : Shared) (H : Hp) (vs : List V) (Q : VK) (E : XK), Room k (A.deeper (envOfC qual scope s.heap.objs.size f cdv)) -> sp vs H Q E ->
   ∃ t, PSs (aVA CX P w K mg base N qual scope f cdv A outer s H E) body t /\ t { nx := fun _ H' => Q .non H', rt := Q } (start N vs) H) :
  qU P w K mg base CX (k + 1) f (PySem.W.fnOf name qual params body scope dV kV doc pm an cdv ct) ps sp := by
 refine ⟨len, fun A outer s H args us vs Q E hr e0 hb r hsp => ?_⟩
 have hl := len _ _ _ _ hsp
 have KX : K.In s.heap := e0.mod.kin.keeps fun b o e => (e0.bs b o e).1
 have lim : s.heap.NoLimit := e0.mod.nolimit.keeps fun b o e => (e0.bs b o e).1
 have hkind : ∀ y ∈ ps.zip us, scope.names.lookup y.1 = some .local \/ (scope.names.lookup y.1 = some .cell /\ ((cellsFrom (s.heap.objs.size + 1) scope.names []).lookup y.1).isSome = true) := fun ⟨n, v⟩ hy => by
  rcases S.par n (List.of_mem_zip hy).1 with q | q
  ·exact .inl q
  ·exact .inr ⟨q, PySem.W.cellsFrom_some _ _ _ (.inl q)⟩
 refine codeAny_call_function hr.depth (KX _ _ lk) rfl S.co S.gen rfl (PySem.W.codeRec_of KX hcd) (hb _ _ _ _ ?_)
 refine wpAny_newFunctionEnv_cells S.kind hkind fun env he s1 x => ?_
 subst he
 refine ⟨lim.keeps x.toInCall.keep, codeAny_func ?_⟩
 obtain ⟨t, ht, hq⟩ := hbody A outer s H vs Q E (hr.deeper _) hsp
 have I : Inv (aVA CX P w K mg base N qual scope f cdv A outer s H E) [] (start N vs) H s1 := aYA S hr.hd e0 hl r x
 refine wpAny_mono (ht [] s1 (start N vs) H _ I hq) (fun fl s' hs => ?_) fun e s' hs => hs
 have fin : ∀ {σ' : St} {H' : Hp} {v : V} {u : Value}, Inv (aVA CX P w K mg base N qual scope f cdv A outer s H E) [] σ' H' s' -> RelV v u -> Q v H' -> CE outer P w H s Q u s' :=
  fun {σ' H' v u} J rv q => ⟨v, H', J.os, J.bare, J.base, J.hok, rv, q⟩
 cases fl with
 | ret u =>
  obtain ⟨v, σ', H', J, rv, q⟩ := hs
  exact fin J rv q
 | next =>
  obtain ⟨σ', H', J, q⟩ := hs
  exact fin (v := V.non) (u := Value.none) J rfl q
 | brk =>
  obtain ⟨_, _, _, q⟩ := hs
  exact False.elim q
 | cont =>
  obtain ⟨_, _, _, q⟩ := hs
  exact False.elim q
section
variable {X : Cx} {x : Str} {p pos : Pos} {e : Expr} {es : List Expr} {t : TA} {id T : String} {r : List V -> Hp -> VK -> Prop}
def tCB (r : List V -> Hp -> VK -> Prop) (t : TA) : TE := fun σ H Q => t σ H fun vs H1 => r vs H1 Q
theorem aDB (hc : aCY X (.builtin id) r) (hg : Gl X x) (hm : X.mg x = none) (hv : bootBuiltins x = some (.builtin id)) (ha : PA X (e :: es) t) (hn : x ≠ "__name__" := by decide) (hdb : (x == ("__debug__" : Str)) = false := by decide)
  (he : starEach (e :: es) X.env = (false, eval e X.env) :: starEach es X.env := by rfl) (hpl : (backTo pos (starEach es X.env)).any (·.1) = false := by rfl) : PE X (.Call (.Name x p) (e :: es) [] pos) (tCB r t) := by
 intro pins s σ H Q I h
 refine wpAny_Call_Name_kw (aKS I hg hm hv ?_ hn hdb)
 exact PyProof.Rows.callWith_builtin1 (thn (ha pos pins s σ H _ I h) fun us s1 ⟨vs, H1, I1, r1, q1⟩ => hc pins s1 σ H1 vs us Q I1 r1 q1) he hpl
theorem aEL (hc : aCY X (.type T) r) (hg : Gl X x) (hm : X.mg x = none) (hv : bootBuiltins x = some (.type T)) (ha : PA X (e :: es) t) (hn : x ≠ "__name__" := by decide) (hdb : (x == ("__debug__" : Str)) = false := by decide)
  (he : starEach (e :: es) X.env = (false, eval e X.env) :: starEach es X.env := by rfl) (hpl : (backTo pos (starEach es X.env)).any (·.1) = false := by rfl) : PE X (.Call (.Name x p) (e :: es) [] pos) (tCB r t) := by
 intro pins s σ H Q I h
 refine wpAny_Call_Name_kw (aKS I hg hm hv ?_ hn hdb)
 exact PyProof.Rows.callWith_type1 (thn (ha pos pins s σ H _ I h) fun us s1 ⟨vs, H1, I1, r1, q1⟩ => hc pins s1 σ H1 vs us Q I1 r1 q1) he hpl
end
end L2
namespace HT
open PySem PyProof.Rows
section
open PySem.SeqAt
open PySem.AutoSeq1 (wpAny_loadPart')
open PySem.MeetsSeq PySem.MeetsSeq2 PySem.MeetsSeq3
end
section
variable {prog : Program} {w : World} {A : Around} {E : Value -> Shared -> Prop} {s : Shared}
def sIx (n d : Nat) : Option Int -> Nat
 | none => d
 | some v => if v < 0 then (v + (n : Int)).toNat else min v.toNat n
end
end HT
namespace L2
open PySem PySem.Spec PyProof.Rows
abbrev TO := St -> Hp -> (Option Int -> Hp -> Prop) -> Prop
def PO (X : Cx) (e : Option Expr) (t : TO) : Prop :=
 ∀ (pins : List (Addr × Obj)) (s : Shared) (σ : St) (H : Hp) (Q : Option Int -> Hp -> Prop), Inv X pins σ H s -> t σ H Q ->
  wpAny (model X.prog X.w) X.A (evalPart e X.env) (fun u s' => ∃ o H', Inv X pins σ H' s' /\ IsPart u o /\ Q o H') X.xe s
def eEH : TO := fun _ H Q => Q none H
def eLV (t : TE) : TO := fun σ H Q => t σ H fun x H1 => ∃ i, x = .int i /\ Q (some i) H1
section
variable {X : Cx} {e : Expr} {te : TE} {lo hi : Option Expr} {tl th : TO} {pos p2 : Pos}
theorem eFG : PO X none eEH := by
 intro pins s σ H Q I h
 rw [evalPart_none]
 exact wpAny_pure ⟨none, H, I, .none, h⟩
theorem aQT (h : PE X e te) : PO X (some e) (eLV te) := by
 intro pins s σ H Q I hw
 rw [evalPart_some]
 refine thn (h pins s σ H _ I hw) fun u s1 ⟨x, H1, I1, r1, q1⟩ => ?_
 obtain ⟨i, rfl, q⟩ := q1
 obtain ⟨t, rfl⟩ := r1
 exact ⟨some i, H1, I1, .int i t, q⟩
def SlR (X : Cx) (r : V -> Option Int -> Option Int -> Hp -> VK -> Prop) : Prop :=
 ∀ (pins : List (Addr × Obj)) (s : Shared) (σ : St) (H : Hp) (x : V) (v vl vu : Value) (lo hi : Option Int) (sl : Addr) (Q : VK), Inv X pins σ H s -> RelV x v -> s.heap.IsSliceOf sl vl vu .none -> IsPart vl lo -> IsPart vu hi -> r x lo hi H Q ->
  ∃ T id, typeLookup (.type T) "__getitem__" = pure (some (.builtin id)) /\ s.TypeIs v T /\ wpAny (model X.prog X.w) X.A (getItem v (.ref sl)) (EP X pins σ Q) X.xe s
def tSl (r : V -> Option Int -> Option Int -> Hp -> VK -> Prop) (te : TE) (tl th : TO) : TE := fun σ H Q => te σ H fun x H1 => tl σ H1 fun l H2 => th σ H2 fun u H3 => r x l u H3 Q
theorem aTD {r : V -> Option Int -> Option Int -> Hp -> VK -> Prop} (hr : SlR X r) (he : PE X e te) (hl : PO X lo tl) (hu : PO X hi th) : PE X (.Subscript e (.Slice lo hi none p2) pos) (tSl r te tl th) := by
 intro pins s σ H Q I h
 refine Subscript_ (thn (he pins s σ H _ I h) fun v s1 ⟨x, H1, I1, r1, q1⟩ => ?_)
 refine wpAny_Slice (thn (hl pins s1 σ H1 _ I1 q1) fun vl s2 ⟨l, H2, I2, pl, q2⟩ => thn (hu pins s2 σ H2 _ I2 q2) fun vu s3 ⟨u, H3, I3, pu, q3⟩ => ?_)
 rw [evalPart_none]
 refine wpAny_pure ?_
 have I4 : Inv X pins σ H3 { s3 with heap := s3.heap.push { cls := .type "slice", data := .fields #[vl, vu, .none] } } := I3.kept (t' := s3.toks) fun b ob q => Heap.get?_push_of_some _ q
 obtain ⟨T, id, hT, ht, hg⟩ := hr pins { s3 with heap := s3.heap.push { cls := .type "slice", data := .fields #[vl, vu, .none] } } σ H3 x v vl vu l u s3.heap.objs.size Q I4 r1 (Heap.IsSliceOf.new ..) pl pu q3
 show wpAny (model X.prog X.w) X.A (subscriptTail e (.Slice lo hi none p2) v (.ref s3.heap.objs.size)) (EP X pins σ Q) X.xe { s3 with heap := s3.heap.push { cls := .type "slice", data := .fields #[vl, vu, .none] } }
 exact tail_any (ops := [.ref s3.heap.objs.size, v]) ht hT hg (by with_unfolding_all rfl)
def eHF (xs : List V) (lo hi : Option Int) : List V := (xs.drop (HT.sIx xs.length 0 lo)).take (HT.sIx xs.length xs.length hi - HT.sIx xs.length 0 lo)
theorem aRP (xs : List V) (lo hi : Option Int) : (eHF xs lo hi).length <= xs.length := by
 unfold eHF
 rw [List.length_take, List.length_drop]
 omega
end
def ixN (n : Nat) (i : Int) : Option Nat := if 0 <= i then (if i < n then some i.toNat else none) else if -(n : Int) <= i then some (i + n).toNat else none
def atI {α : Type} (xs : List α) (i : Int) : Option α := (ixN xs.length i).bind fun j => xs[j]?
theorem aXY {n : Nat} {i : Int} {j : Nat} (h : ixN n i = some j) : seqIndex? i n = some j /\ j < n /\ -(n : Int) <= i /\ i < n := by
 unfold ixN at h
 by_cases h0 : 0 <= i
 ·rw [if_pos h0] at h
  by_cases h1 : i < n
  ·rw [if_pos h1] at h
   have e : i.toNat = j := Option.some.inj h
   exact ⟨by rw [seqIndex_of h0 h1, e], by omega, by omega, h1⟩
  ·rw [if_neg h1] at h; cases h
 ·rw [if_neg h0] at h
  by_cases h1 : -(n : Int) <= i
  ·rw [if_pos h1] at h
   have e : (i + n).toNat = j := Option.some.inj h
   exact ⟨by rw [seqIndex_neg (by omega) h1, e], by omega, h1, by omega⟩
  ·rw [if_neg h1] at h; cases h
theorem aNR {α : Type} {xs : List α} {i : Int} {v : α} (h : atI xs i = some v) : ∃ j, seqIndex? i xs.length = some j /\ xs[j]? = some v /\ j < xs.length /\ -(xs.length : Int) <= i /\ i < xs.length := by
 unfold atI at h
 cases e : ixN xs.length i with
 | none => rw [e] at h; cases h
 | some j =>
  rw [e] at h
  obtain ⟨h1, h2, h3, h4⟩ := aXY e
  exact ⟨j, h1, h, h2, h3, h4⟩
theorem aBZ {α : Type} {xs : List α} {j : Nat} {v : α} (h : xs[j]? = some v) : atI xs (j : Int) = some v := by
 have hj : j < xs.length := (List.getElem?_eq_some_iff.mp h).1
 have e : ixN xs.length (j : Int) = some j := by
  unfold ixN
  rw [if_pos (by omega), if_pos (by omega)]; simp
 unfold atI; rw [e]; exact h
def aIZ (b : Expr) : Prop := ∀ o i, subscripted b false o i = operate [o, i] (getItem o i)
def IxR (X : Cx) (r : R2) : Prop :=
 ∀ (value slice : Expr) (pins : List (Addr × Obj)) (s : Shared) (σ : St) (H : Hp) (x y : V) (v u : Value) (Q : VK), Inv X pins σ H s -> RelV x v -> RelV y u -> r x y H Q ->
  subscripted slice false v u = operate [v, u] (getItem v u) -> wpAny (model X.prog X.w) X.A (subscriptTail value slice v u) (EP X pins σ Q) X.xe s
def MtR (X : Cx) (id : String) (r : V -> List V -> Hp -> VK -> Prop) : Prop :=
 ∀ (pins : List (Addr × Obj)) (s : Shared) (σ : St) (H : Hp) (x : V) (xs : List V) (v : Value) (us : List Value) (Q : VK), Inv X pins σ H s -> RelV x v -> Vals xs us -> r x xs H Q ->
  wpAny (model X.prog X.w) X.A (call (.builtin id) (v :: us)) (EP X pins σ Q) X.xe s
section
variable {X : Cx} {a b : Expr} {ta tb : TE} {pos : Pos}
theorem eAZ {r : R2} (hr : IxR X r) (ha : PE X a ta) (hb : PE X b tb) (hs : aIZ b) : PE X (.Subscript a b pos) (tOp r ta tb) := by
 intro pins s σ H Q I h
 exact Subscript_ (eNG ha hb I h fun v u s2 x y H2 I2 rx ry q => hr a b pins s2 σ H2 x y v u Q I2 rx ry q (hs _ _))
def eNR (K : PySem.W.Frag) : R2 := fun x y H Q => ∃ p xs i v, x = .ref p /\ y = .int i /\ SqL K H p xs /\ atI xs i = some v /\ Q v H
def ePA (K : PySem.W.Frag) : R2 := fun x y H Q => ∃ p xs i v, x = .ref p /\ y = .int i /\ SqT K H p xs /\ atI xs i = some v /\ Q v H
def ePB : R2 := fun x y H Q => ∃ z i c, x = .str z /\ y = .int i /\ z.length <= sizeLine /\ atI z.cps.toList i = some c /\ Q (.str ⟨#[c]⟩) H
theorem aXX : IxR X (eNR X.K) := by
 intro value slice pins s σ H x y v u Q I rx ry h hs
 obtain ⟨p, xs, i, z, rfl, rfl, hq, he, q⟩ := h
 cases rx
 obtain ⟨t, rfl⟩ := ry
 obtain ⟨its, r, pl, hz⟩ := I.list hq
 obtain ⟨j, h1, h2, h3, h4, h5⟩ := aNR he
 obtain ⟨w, ew, rw'⟩ := r.get h2
 have hl := r.length
 have hn := aFR
 have fin : EP X pins σ Q w s := ⟨z, H, I, rw', q⟩
 by_cases h0 : 0 <= i
 ·have hj : i.toNat = j := by
   rw [seqIndex_of h0 h5] at h1
   exact Option.some.inj h1
  exact item_listR pl.isList h0 (by omega) (by rw [hj]; simpa using ew) fin hs
 ·have hj : (i + (its.toArray.size : Int)).toNat = j := by
   rw [seqIndex_neg (by omega) h4] at h1
   rw [List.size_toArray, <- hl]
   exact Option.some.inj h1
  exact subscriptTail_builtinR (x := w) pl.isList.typeIs slot_list_getitem.lookup
   (wpAny_getItem_list_neg (Q := fun r s' => r = w /\ EP X pins σ Q r s') pl.isList (by omega) (by rw [List.size_toArray] <;> omega) (by omega) (by rw [hj]; simpa using ew) ⟨rfl, fin⟩) hs
theorem eJV : IxR X (ePA X.K) := by
 intro value slice pins s σ H x y v u Q I rx ry h hs
 obtain ⟨p, xs, i, z, rfl, rfl, hq, he, q⟩ := h
 cases rx
 obtain ⟨t, rfl⟩ := ry
 obtain ⟨its, r, pl, hz⟩ := I.tuple hq
 obtain ⟨j, h1, h2, h3, h4, h5⟩ := aNR he
 obtain ⟨w, ew, rw'⟩ := r.get h2
 have hl := r.length
 have hn := aFR
 have fin : EP X pins σ Q w s := ⟨z, H, I, rw', q⟩
 exact subscriptTail_builtinR (x := w) pl.typeIs slot_tuple_getitem.lookup
  (getItem_tuple (j := j) (Q := fun r s' => r = w /\ EP X pins σ Q r s') pl (by omega) (by omega) (by rw [List.size_toArray, <- hl]; exact h1) (by simpa using ew) ⟨rfl, fin⟩) hs
theorem eJW : IxR X ePB := by
 intro value slice pins s σ H x y v u Q I rx ry h hs
 obtain ⟨z, i, c, rfl, rfl, hz, he, q⟩ := h
 obtain ⟨t, rfl⟩ := rx
 obtain ⟨t', rfl⟩ := ry
 obtain ⟨j, h1, h2, h3, h4, h5⟩ := aNR he
 have hl : z.cps.toList.length = z.length := by simp [Str.length]
 rw [hl] at h1 h4 h5
 have hn := aFR
 exact tail_any (typeIs_str s z t) slot_str_getitem.lookup (getItem_str (c := c) (by
  have e1 : decide (i < -(2 ^ 63 : Int)) = false := decide_eq_false (by omega)
  have e2 : decide (i ≥ 2 ^ 63) = false := decide_eq_false (by omega)
  rw [e1, e2, Bool.or_false]) (by rw [h1]; simpa using h2) ⟨.str ⟨#[c]⟩, H, I.tok _, ⟨_, rfl⟩, q⟩) hs
theorem aUQ (its : List Value) (n j : Nat) (u : Value) : Obj.mapSeq (·.setIfInBounds j u) { cls := .type "list", data := .seq its.toArray n } = { cls := .type "list", data := .seq (its.set j u).toArray n } := by
 simp [Obj.mapSeq]
theorem Inv.lst {pins : List (Addr × Obj)} {σ : St} {H : Hp} {s : Shared} {p : Addr} {xs : List V} (I : Inv X pins σ H s) (h : H p = some (.lst xs)) :
  ∃ (its : List Value) (n : Nat), Vals xs its /\ s.heap.get? p = some { cls := .type "list", data := .seq its.toArray n } /\ xs.length <= sizeLine := by
 obtain ⟨z, its, n, r, e⟩ := I.hok p _ h
 exact ⟨its, n, r, e, z⟩
theorem Inv.lstUpd {pins : List (Addr × Obj)} {σ : St} {H : Hp} {s : Shared} {p : Addr} {xs ys : List V} {its its' : List Value} {n n' : Nat} {f : Obj -> Obj} (I : Inv X pins σ H s) (h : H p = some (.lst xs))
  (ho : s.heap.get? p = some { cls := .type "list", data := .seq its.toArray n }) (hf : f { cls := .type "list", data := .seq its.toArray n } = { cls := .type "list", data := .seq its'.toArray n' }) (r : Vals ys its') (hz : ys.length <= sizeLine) (t : Nat) :
  Inv X pins σ (upd H p (.lst ys)) { s with heap := s.heap.update p f, toks := t } := by
 have e : (s.heap.update p f).get? p = some { cls := .type "list", data := .seq its'.toArray n' } := by
  rw [Heap.get?_update_self f ho (by rw [hf] <;> rfl), hf]
 refine I.write (x := p) (e := p) (by rw [h]; trivial) (.inl rfl) (fun b u hb q => (Heap.get?_update_other _ _ (Ne.symm hb)).trans q) ⟨_, e⟩ ?_
 exact ⟨hz, its', n', r, e⟩
def eMD : V -> V -> V -> Hp -> (Hp -> Prop) -> Prop := fun o i v H Q => ∃ p xs k j, o = .ref p /\ i = .int k /\ H p = some (.lst xs) /\ ixN xs.length k = some j /\ Q (upd H p (.lst (xs.set j v)))
theorem aST : eLL X eMD := by
 intro pins s σ H o i v ov iv u Q I ro ri rv h
 obtain ⟨p, xs, k, j, rfl, rfl, hp, hj, q⟩ := h
 cases ro
 obtain ⟨t, rfl⟩ := ri
 obtain ⟨its, n, r, ho, hz⟩ := I.lst hp
 obtain ⟨h1, h2, h3, h4⟩ := aXY hj
 have hl := r.length
 have hn := aFR
 have I' : Inv X pins σ (upd H p (.lst (xs.set j v))) { s with heap := s.heap.update p (Obj.mapSeq (·.setIfInBounds j u)) } :=
  I.lstUpd hp ho (aUQ its n j u) (r.set rv j) (by rw [List.length_set]; exact hz) s.toks
 by_cases h0 : 0 <= k
 ·have hk : k.toNat = j := by
   rw [seqIndex_of h0 h4] at h1
   exact Option.some.inj h1
  exact PySem.W.ki_setAt ho h0 (by omega) (by rw [List.size_toArray, <- hl]; exact h4) (by rw [hk]; exact ⟨_, I', q⟩)
 ·have hk : (k + (its.toArray.size : Int)).toNat = j := by
   rw [seqIndex_neg (by omega) h3] at h1
   rw [List.size_toArray, <- hl]
   exact Option.some.inj h1
  exact PySem.W.ki_setBack ho (by omega) (by rw [List.size_toArray, <- hl]; exact h3) (by omega) (by rw [hk]; exact ⟨_, I', q⟩)
theorem aNW (lo hi : Option Int) (n : Nat) : (sliceBounds lo hi none n).1 = ((HT.sIx n 0 lo : Nat) : Int) /\ (sliceBounds lo hi none n).2.1 = ((HT.sIx n n hi : Nat) : Int) /\ (sliceBounds lo hi none n).2.2 = 1 := by
 refine ⟨?_, ?_, rfl⟩
 ·cases lo with
  | none => simp [sliceBounds, HT.sIx]
  | some i =>
   simp only [sliceBounds, HT.sIx, Option.getD_none, show (1 : Int) > 0 by decide, if_true]
   by_cases h : i < 0
   ·simp only [h, if_true] <;> omega
   ·simp only [h, if_false] <;> omega
 ·cases hi with
  | none => simp [sliceBounds, HT.sIx]
  | some i =>
   simp only [sliceBounds, HT.sIx, Option.getD_none, show (1 : Int) > 0 by decide, if_true]
   by_cases h : i < 0
   ·simp only [h, if_true] <;> omega
   ·simp only [h, if_false] <;> omega
theorem aLD (its : List Value) (lo hi : Option Int) : slicePick its.toArray lo hi none = ((its.drop (HT.sIx its.length 0 lo)).take (HT.sIx its.length its.length hi - HT.sIx its.length 0 lo)).toArray := by
 obtain ⟨h1, h2, h3⟩ := aNW lo hi its.toArray.size
 unfold slicePick
 rw [h1, h2, h3]
 simp only [sliceRange_one, pick_run, List.size_toArray] <;> rfl
def eOX (K : PySem.W.Frag) : V -> Option Int -> Option Int -> Hp -> VK -> Prop := fun x lo hi H Q => ∃ a xs, x = .ref a /\ SqL K H a xs /\ ∀ p, H p = none -> Q (.ref p) (upd H p (.lst (eHF xs lo hi)))
theorem eEL : SlR X (eOX X.K) := by
 intro pins s σ H x v vl vu lo hi sl Q I rx hs pl pu h
 obtain ⟨a, xs, rfl, hx, q⟩ := h
 cases rx
 obtain ⟨its, r, ht, hz⟩ := I.list hx
 have hlen := r.length
 refine ⟨"list", _, slot_list_getitem.lookup, ht.isList.typeIs, ?_⟩
 refine wpAny_getItem_list_slice ht.isList hs pl pu .none (by simp) ?_ (by rw [List.size_toArray] <;> omega)
 rw [aLD, <- hlen]
 refine ⟨.ref s.heap.objs.size, _, I.laid (t' := s.toks) (o := .lst (eHF xs lo hi)) (fun b ob q => Heap.get?_push_of_some _ q) (Nat.le_refl _) ?_, rfl, q _ (I.hok.fresh (Nat.le_refl _))⟩
 exact ⟨Nat.le_trans (aRP xs lo hi) hz, _, 0, (r.drop (HT.sIx xs.length 0 lo)).take (HT.sIx xs.length xs.length hi - HT.sIx xs.length 0 lo), Heap.get?_push_size _ rfl⟩
theorem aFW : aCY X (.builtin "len") (fun xs H Q => ∃ p ys, xs = [.ref p] /\ (SqL X.K H p ys \/ SqT X.K H p ys) /\ Q (.int ys.length) H) := by
 intro pins s σ H xs us Q I r h
 obtain ⟨p, ys, rfl, hq, q⟩ := h
 obtain ⟨u, rfl, rx⟩ := aFX r
 cases rx
 have hn := aFR
 rcases hq with hq | hq
 ·obtain ⟨its, r', pl, hz⟩ := I.list hq
  have hlen := r'.length
  exact Calls.call_len_list pl.isList (by simp only [List.size_toArray] <;> omega) ⟨.int ys.length, H, I.tok _, ⟨s.toks + 1, by rw [List.size_toArray, hlen]⟩, q⟩
 ·obtain ⟨its, r', pl, hz⟩ := I.tuple hq
  have hlen := r'.length
  exact len_tuple pl (by simp only [List.size_toArray] <;> omega) ⟨.int ys.length, H, I.tok _, ⟨s.toks + 1, by rw [List.size_toArray, hlen]⟩, q⟩
theorem aPJ : aCY X (.builtin "len") (fun xs H Q => ∃ z, xs = [.str z] /\ z.length <= sizeLine /\ Q (.int z.length) H) := by
 intro pins s σ H xs us Q I r h
 obtain ⟨z, rfl, hz, q⟩ := h
 obtain ⟨u, rfl, t, rfl⟩ := aFX r
 have hn := aFR
 exact len_str (by omega) ⟨.int z.length, H, I.tok _, ⟨_, rfl⟩, q⟩
theorem aPI : aCY X (.type "list") (fun xs H Q => ∃ p ys, xs = [.ref p] /\ (SqL X.K H p ys \/ SqT X.K H p ys) /\ ∀ l, H l = none -> Q (.ref l) (upd H l (.lst ys))) := by
 intro pins s σ H xs us Q I r h
 obtain ⟨p, ys, rfl, hq, q⟩ := h
 obtain ⟨u, rfl, rx⟩ := aFX r
 cases rx
 have fin : ∀ (its : List Value), Vals ys its -> ys.length <= sizeLine -> ∀ (h' : Heap) (c' : Nat), (∀ b o', s.heap.get? b = some o' -> h'.get? b = some o') ->
   h'.get? s.heap.objs.size = some { cls := .type "list", dict := none, data := .seq its.toArray c', slots := #[] } -> EP X pins σ Q (.ref s.heap.objs.size) { s with heap := h' } := fun its r' hz h' c' kp e =>
  ⟨.ref s.heap.objs.size, _, I.laid (t' := s.toks) kp (Nat.le_refl _) (show ObjOk X.prog X.w _ h' _ (.lst ys) from ⟨hz, its, c', r', e⟩), rfl, q _ (I.hok.fresh (Nat.le_refl _))⟩
 rcases hq with hq | hq
 ·obtain ⟨its, r', pl, hz⟩ := I.list hq
  have hlen := r'.length
  obtain ⟨o, ho, hc, n, hd⟩ := pl.isList
  exact call_list_seq p (.inl rfl) ho hc hd (fun h' c' kp e => fin its r' hz h' c' kp e) (by simp only [List.size_toArray] <;> omega)
 ·obtain ⟨its, r', pl, hz⟩ := I.tuple hq
  have hlen := r'.length
  obtain ⟨o, ho, hc, n, hd⟩ := pl
  exact call_list_seq p (.inr rfl) ho hc hd (fun h' c' kp e => fin its r' hz h' c' kp e) (by simp only [List.size_toArray] <;> omega)
theorem aNG : aCY X (.type "tuple") (fun xs H Q => ∃ p ys, xs = [.ref p] /\ ((SqL X.K H p ys /\ ∀ l, H l = none -> Q (.ref l) (upd H l (.tup ys))) \/ (SqT X.K H p ys /\ Q (.ref p) H))) := by
 intro pins s σ H xs us Q I r h
 obtain ⟨p, ys, rfl, h⟩ := h
 obtain ⟨u, rfl, rx⟩ := aFX r
 cases rx
 rcases h with ⟨hq, q⟩ | ⟨hq, q⟩
 ·obtain ⟨its, r', pl, hz⟩ := I.list hq
  have hlen := r'.length
  refine call_tuple_list pl.isList (fun h' kp => ?_) (by simp only [List.size_toArray] <;> omega)
  have I1 : Inv X pins σ H { s with heap := h' } := I.kept (t' := s.toks) kp
  have I2 : Inv X pins σ (upd H h'.objs.size (.tup ys)) { s with heap := h'.push { cls := .type "tuple", data := .seq its.toArray } } :=
   I1.laid (t' := s.toks) (fun b o e => Heap.get?_push_of_some _ e) (Nat.le_refl _) (show ObjOk X.prog X.w _ _ _ (.tup ys) from ⟨hz, its, r', IsTup.new _ _⟩)
  exact ⟨.ref h'.objs.size, _, I2, rfl, q _ (I1.hok.fresh (Nat.le_refl _))⟩
 ·obtain ⟨its, r', pl, hz⟩ := I.tuple hq
  exact call_tuple_same pl ⟨.ref p, H, I, rfl, q⟩
def tyV (K : PySem.W.Frag) (T : String) (x : V) (H : Hp) : Prop := match x with
 | .str _ => T = "str"
 | .int _ => T = "int"
 | .ref p => (T = "list" /\ ∃ xs, SqL K H p xs) \/ (T = "tuple" /\ ∃ o, K.lookup p = some o /\ o.cls = .type "tuple" /\ o.dict = none) \/
   (T = "dict" /\ ((∃ kvs, H p = some (.dK kvs)) \/ ∃ kvs, H p = some (.dT kvs))) \/ (T = "set" /\ ∃ S n, H p = some (.set S n))
 | _ => False
theorem eCA {pins : List (Addr × Obj)} {σ : St} {H : Hp} {s : Shared} {T : String} {x : V} {v : Value} (I : Inv X pins σ H s) (r : RelV x v) (ty : tyV X.K T x H) :
  s.TypeIs v T /\ ∀ a, v = .ref a -> ∃ ob, s.heap.get? a = some ob /\ ob.dict = none := by
 cases x with
 | str z =>
  obtain ⟨t, rfl⟩ := r
  cases (show T = "str" from ty)
  exact ⟨typeIs_str s z t, fun _ e => nomatch e⟩
 | int i =>
  obtain ⟨t, rfl⟩ := r
  cases (show T = "int" from ty)
  exact ⟨typeIs_int s i t, fun _ e => nomatch e⟩
 | ref p =>
  cases r
  rcases ty with ⟨rfl, xs, hq⟩ | ⟨rfl, o, hk, hc, hd⟩ | ⟨rfl, hk⟩ | ⟨rfl, S, n, hk⟩
  ·obtain ⟨its, _, pl, _⟩ := I.list hq
   refine ⟨pl.isList.typeIs, fun a e => ?_⟩
   cases e
   obtain ⟨o, n, e, c, hd, _⟩ := pl
   exact ⟨o, e, hd⟩
  ·refine ⟨⟨o, I.kIn p o hk, hc⟩, fun a e => ?_⟩
   cases e
   exact ⟨o, I.kIn _ o hk, hd⟩
  ·have z : ∃ o, s.heap.get? p = some o /\ o.ExactDict := by
    rcases hk with ⟨kvs, hk⟩ | ⟨kvs, hk⟩
    ·obtain ⟨_, _, _, _, o, _, _, e, ex, _⟩ := I.hok p _ hk
     exact ⟨o, e, ex⟩
    ·obtain ⟨_, _, _, _, o, _, _, e, ex, _⟩ := I.hok p _ hk
     exact ⟨o, e, ex⟩
   obtain ⟨o, e, ex⟩ := z
   refine ⟨⟨o, e, ex.1⟩, fun a e2 => ?_⟩
   cases e2
   exact ⟨o, e, ex.2.1⟩
  ·obtain ⟨o, _, _, _, e, ex, _⟩ := I.hok p _ hk
   refine ⟨⟨o, e, ex.1⟩, fun a e2 => ?_⟩
   cases e2
   exact ⟨o, e, ex.2.1⟩
 | _ => exact False.elim ty
def eOT (K : PySem.W.Frag) (T : String) (r : V -> List V -> Hp -> VK -> Prop) (to : TE) : TE := fun σ H Q => to σ H fun x H1 => tyV K T x H1 /\ r x [] H1 Q
def tBM (K : PySem.W.Frag) (T : String) (r : V -> List V -> Hp -> VK -> Prop) (to : TE) (t : TA) : TE := fun σ H Q => to σ H fun x H1 => tyV K T x H1 /\ t σ H1 fun xs H2 => r x xs H2 Q
variable {o e : Expr} {es : List Expr} {to : TE} {t : TA} {name : Str} {apos cpos : Pos} {T id : String} {r : V -> List V -> Hp -> VK -> Prop}
theorem aXJ (pa : PlainAttrs T) (slot : Slot T name id) (hty : typeOf (.builtin id) = pure (.type "method_descriptor")) (hm : MtR X id r) (ho : PE X o to)
  (hbase : attributeBase o name X.env (eval o X.env) = eval o X.env := by rfl) (hline : (apos.endLine == cpos.line) = true := by rfl) : PE X (.Call (.Attribute o name apos) [] [] cpos) (eOT X.K T r to) := by
 intro pins s σ H Q I h
 refine wpAny_Call_method0_late hbase hline (thn (ho pins s σ H _ I h) fun v s1 ⟨x, H1, I1, r1, ty, q1⟩ => ?_)
 obtain ⟨h1, h2⟩ := eCA I1 r1 ty
 exact ⟨T, id, pa, slot, hty, h1, h2, Calls.callWith_builtin rfl (PySem.evalArgs_none (hm pins s1 σ H1 x [] v [] Q I1 r1 .nil q1))⟩
theorem eBA (pa : PlainAttrs T) (slot : Slot T name id) (hty : typeOf (.builtin id) = pure (.type "method_descriptor")) (hm : MtR X id r) (ho : PE X o to) (ha : PA X (e :: es) t)
  (hbase : attributeBase o name X.env (eval o X.env) = eval o X.env := by rfl)
  (hfew : ((backTo cpos (starEach (e :: es) X.env)).all (fun x => !x.1) && (backToKw cpos (keywordEach [] X.env)).all (fun x => x.1.isSome)
   && decide ((e :: es).length + ([] : List Keyword).length + (if ([] : List Keyword).isEmpty then 0 else 1) < 30)) = true := by rfl)
  (hline : (apos.endLine == cpos.line) = true := by rfl) (hs : starEach (e :: es) X.env = (false, eval e X.env) :: starEach es X.env := by rfl) (hplain : (backTo cpos (starEach es X.env)).any (·.1) = false := by rfl) :
  PE X (.Call (.Attribute o name apos) (e :: es) [] cpos) (tBM X.K T r to t) := by
 intro pins s σ H Q I h
 refine wpAny_Call_method_late hbase hfew hline rfl (thn (ho pins s σ H _ I h) fun v s1 ⟨x, H1, I1, r1, ty, q1⟩ => ?_)
 obtain ⟨h1, h2⟩ := eCA I1 r1 ty
 refine ⟨T, id, pa, slot, hty, h1, h2, ?_⟩
 have hA := ha cpos pins s1 σ H1 _ I1 q1
 rw [hs] at hA ⊢
 refine Calls.callWith_builtin (by show (false || (backTo cpos (starEach es X.env)).any (·.1)) = false; rw [hplain] <;> rfl) (Calls.evalArgs_plain ?_)
 exact thn hA fun us s2 ⟨vs, H2, I2, r2, q2⟩ => hm pins s2 σ H2 x vs v us Q I2 r1 r2 q2
/- xs.append(e), list.index on a module's tuple .. are MtR facts of 06m -/
end
def MtM (X : Cx) (id : String) (r : V -> List V -> Hp -> VK -> Prop) : Prop :=
 ∀ (pins : List (Addr × Obj)) (s : Shared) (σ : St) (H : Hp) (x : V) (xs : List V) (v : Value) (us : List Value) (Q : VK), Inv X pins σ H s -> RelV x v -> Vals xs us -> r x xs H Q ->
  wpAny (model X.prog X.w) X.A (call (.builtin id) (v :: us)) (EP X pins σ Q) X.xe s
theorem Vals.one : ∀ {x : V} {us : List Value}, Vals [x] us -> ∃ u, us = [u] /\ RelV x u
 | _, _, .cons r .nil => ⟨_, rfl, r⟩
theorem Vals.zero : ∀ {us : List Value}, Vals [] us -> us = []
 | _, .nil => rfl
theorem Vals.dropLast {xs : List V} {us : List Value} (h : Vals xs us) : Vals xs.dropLast us.dropLast := by
 induction h with
 | nil => exact .nil
 | cons r t ih =>
  cases t with
  | nil => exact .nil
  | cons q t' => exact .cons r ih
theorem Vals.rep {xs : List V} {us : List Value} (h : Vals xs us) : ∀ k : Nat, Vals (List.replicate k xs).flatten (List.replicate k us).flatten
 | 0 => .nil
 | k + 1 => by
  rw [List.replicate_succ, List.replicate_succ, List.flatten_cons, List.flatten_cons]
  exact Vals.append h (Vals.rep h k)
theorem aUX {α : Type} (l : List α) : l.eraseIdx (l.length - 1) = l.dropLast := by
 induction l with
 | nil => rfl
 | cons a r ih =>
  cases r with
  | nil => rfl
  | cons b r =>
   have e : (a :: b :: r).length - 1 = ((b :: r).length - 1) + 1 := by
    have h1 : (a :: b :: r).length = r.length + 2 := rfl
    have h2 : (b :: r).length = r.length + 1 := rfl
    omega
   rw [e, List.eraseIdx_cons_succ, ih]
   all_goals rfl
theorem aOY (its : List Value) : ∀ (k : Nat) (acc : List Value),
  List.foldl (fun x1 x2 => x1 ++ x2) acc.toArray (List.replicate k its.toArray) = (acc ++ (List.replicate k its).flatten).toArray
 | 0, acc => by simp
 | k + 1, acc => by
  have e : acc.toArray ++ its.toArray = (acc ++ its).toArray := by simp
  have e2 : (acc ++ its) ++ (List.replicate k its).flatten = acc ++ (List.replicate (k + 1) its).flatten := by
   rw [List.replicate_succ, List.flatten_cons, List.append_assoc]
  rw [<- e2, <- aOY its k (acc ++ its), <- e, List.replicate_succ, List.foldl_cons]
section
variable {X : Cx} {pins : List (Addr × Obj)} {σ : St} {H : Hp} {s : Shared} {l b : Addr} {xs ys zs : List V}
theorem Inv.lset {its its' : List Value} {n : Nat} {f : Array Value -> Array Value} {t' : Nat} (I : Inv X pins σ H s) (hH : H l = some (.lst xs))
  (e : s.heap.get? l = some { cls := .type "list", data := .seq its.toArray n }) (hf : f its.toArray = its'.toArray) (hv : Vals ys its') (hz : ys.length <= sizeLine) :
  Inv X pins σ (upd H l (.lst ys)) { s with heap := s.heap.update l (Obj.mapSeq f), toks := t' } := by
 have q := PySem.IsL.update e f
 rw [hf] at q
 refine I.write (x := l) (e := l) (by rw [hH]; exact trivial) (.inl rfl) (fun b' u hb hu => (Heap.get?_update_other s.heap (Obj.mapSeq f) (Ne.symm hb)).trans hu) ⟨_, q⟩ ?_
 exact ⟨hz, its', _, hv, q⟩
theorem Inv.lnew {its : List Value} {t' : Nat} (I : Inv X pins σ H s) (hv : Vals ys its) (hz : ys.length <= sizeLine) :
  Inv X pins σ (upd H s.heap.objs.size (.lst ys)) { s with heap := s.heap.push { cls := .type "list", data := .seq its.toArray }, toks := t' } :=
 I.laid (fun _ _ q => Heap.get?_push_of_some _ q) (Nat.le_refl _) ⟨hz, its, 0, hv, Heap.get?_push_size _ rfl⟩
theorem Inv.fresh (I : Inv X pins σ H s) : H s.heap.objs.size = none := I.hok.fresh (Nat.le_refl _)
theorem Inv.lstM (I : Inv X pins σ H s) (hH : H l = some (.lst xs)) : xs.length <= sizeLine /\ ∃ (its : List Value) (n : Nat), Vals xs its /\ xs.length = its.length /\ s.heap.get? l = some { cls := .type "list", data := .seq its.toArray n } := by
 obtain ⟨z, its, n, r, e⟩ := I.hok l _ hH
 exact ⟨z, its, n, r, r.length, e⟩
theorem aTG {n : Nat} (h : n <= sizeLine) : Builtin.List.listTooLong n = false := by
 unfold Builtin.List.listTooLong
 exact decide_eq_false (by omega)
end
section
variable {X : Cx}
def eEY : V -> List V -> Hp -> VK -> Prop := fun x vs H Q => ∃ l xs y, x = .ref l /\ vs = [y] /\ H l = some (.lst xs) /\ xs.length < sizeLine /\ Q .non (upd H l (.lst (xs ++ [y])))
theorem aEN : MtM X "list.append" eEY := by
 intro pins s σ H x vs v us Q I rx rv h
 obtain ⟨l, xs, y, rfl, rfl, hH, hz, q⟩ := h
 cases rx
 obtain ⟨u, rfl, ru⟩ := rv.one
 obtain ⟨z, its, n, r, hl, e⟩ := I.lstM hH
 refine call_meets F.slot_list_append ⟨_, e, rfl⟩ F.entry_list_append (F.args_list_append_2 _ _) (PySem.list_append l its.toArray n u (by rw [List.size_toArray]; omega)) ⟨e, ?_⟩
 refine ⟨.non, _, I.lset (its' := its ++ [u]) hH e (by simp) (r.append (.cons ru .nil)) ?_, rfl, q⟩
 rw [List.length_append, List.length_singleton]
 omega
def eEX : V -> List V -> Hp -> VK -> Prop := fun x vs H Q => ∃ l b xs zs, x = .ref l /\ vs = [.ref b] /\ H l = some (.lst xs) /\ H b = some (.lst zs) /\ xs.length + zs.length <= sizeLine /\ Q .non (upd H l (.lst (xs ++ zs)))
theorem eJJ : MtM X "list.extend" eEX := by
 intro pins s σ H x vs v us Q I rx rv h
 obtain ⟨l, b, xs, zs, rfl, rfl, hH, hB, hz, q⟩ := h
 cases rx
 obtain ⟨u, rfl, ru⟩ := rv.one
 cases ru
 obtain ⟨z, its, n, r, hl, e⟩ := I.lstM hH
 obtain ⟨z2, its2, n2, r2, hl2, e2⟩ := I.lstM hB
 have hsz : its.toArray.size + its2.toArray.size <= sizeLine := by rw [List.size_toArray, List.size_toArray]; omega
 have hlong : ¬ (!its.toArray.isEmpty && Builtin.List.listTooLong (its.toArray.size + its2.toArray.size)) = true := by
  rw [aTG hsz, Bool.and_false]
  exact Bool.false_ne_true
 refine call_meets F.slot_list_extend ⟨_, e, rfl⟩ F.entry_list_extend (F.args_list_extend_2 _ _)
  (AutoSeq1.list_extend_list_list_0 l its.toArray n b its2.toArray n2 hlong (by rw [List.size_toArray]; omega) (by omega)) ⟨e, e2, ?_⟩
 refine ⟨.non, _, I.lset (its' := its ++ its2) hH e (by simp) (r.append r2) ?_, rfl, q⟩
 rw [List.length_append]
 omega
def eOZ : V -> List V -> Hp -> VK -> Prop := fun x vs H Q => ∃ l xs y, x = .ref l /\ vs = [] /\ H l = some (.lst xs) /\ xs[xs.length - 1]? = some y /\ Q y (upd H l (.lst xs.dropLast))
theorem eCY : MtM X "list.pop" eOZ := by
 intro pins s σ H x vs v us Q I rx rv h
 obtain ⟨l, xs, y, rfl, rfl, hH, hy, q⟩ := h
 cases rx
 have hus := rv.zero
 subst hus
 obtain ⟨z, its, n, r, hl, e⟩ := I.lstM hH
 obtain ⟨u, hu, ru⟩ := r.get hy
 have hy' : its.toArray[its.toArray.size - 1]? = some u := by
  show its.toArray[its.length - 1]? = some u
  rw [<- Array.getElem?_toList, <- hl]
  exact hu
 refine call_meets F.slot_list_pop ⟨_, e, rfl⟩ F.entry_list_pop (F.args_list_pop_1 _) (MeetsSeq.list_pop_last l its.toArray n u hy' (by rw [List.size_toArray]; omega)) ⟨e, ?_⟩
 refine ⟨y, _, I.lset (its' := its.dropLast) hH e ?_ r.dropLast ?_, ru, q⟩
 ·show its.toArray.eraseIdxIfInBounds (its.toArray.size - 1) = its.dropLast.toArray
  rw [List.size_toArray, List.eraseIdxIfInBounds_toArray, aUX]
 ·rw [List.length_dropLast]
  omega
def ePC : R2 := fun x y H Q => ∃ l b xs zs, x = .ref l /\ y = .ref b /\ H l = some (.lst xs) /\ H b = some (.lst zs) /\ xs.length + zs.length <= sizeLine /\ ∀ p, H p = none -> Q (.ref p) (upd H p (.lst (xs ++ zs)))
theorem eJA : OpR X (binaryOp .Add) ePC := by
 intro pins s σ H x y v u Q I rx ry h
 obtain ⟨l, b, xs, zs, rfl, rfl, hH, hB, hz, q⟩ := h
 cases rx
 cases ry
 obtain ⟨z, its, n, r, hl, e⟩ := I.lstM hH
 obtain ⟨z2, its2, n2, r2, hl2, e2⟩ := I.lstM hB
 refine PySem.P.add_list e e2 ?_ (by rw [List.size_toArray, List.size_toArray]; omega)
 have ea : its.toArray ++ its2.toArray = (its ++ its2).toArray := by simp
 rw [ea]
 exact ⟨.ref _, _, I.lnew (t' := s.toks) (r.append r2) (by rw [List.length_append]; omega), rfl, q _ I.fresh⟩
def eOY : R2 := fun x y H Q => ∃ l k xs, x = .ref l /\ y = .int k /\ H l = some (.lst xs) /\ -(2 ^ 63) <= k /\ k < 2 ^ 63 /\ xs.length * k.toNat <= sizeLine /\
 ∀ p, H p = none -> Q (.ref p) (upd H p (.lst (List.replicate k.toNat xs).flatten))
theorem eFT {α : Type} (xs : List α) (k : Nat) : (List.replicate k xs).flatten.length = k * xs.length := by
 induction k with
 | zero => simp
 | succ k ih => rw [List.replicate_succ, List.flatten_cons, List.length_append, ih, Nat.succ_mul, Nat.add_comm]
theorem eIV : OpR X (binaryOp .Mult) eOY := by
 intro pins s σ H x y v u Q I rx ry h
 obtain ⟨l, k, xs, rfl, rfl, hH, h1, h2, hz, q⟩ := h
 cases rx
 obtain ⟨t, rfl⟩ := ry
 obtain ⟨z, its, n, r, hl, e⟩ := I.lstM hH
 have hlen : its.toArray.size * k.toNat <= sizeLine := by rw [List.size_toArray, <- hl]; exact hz
 have hcap : ¬ its.toArray.size * k.toNat > (2 ^ 63 - 1) / 8 := by
  have : (sizeLine : Nat) <= (2 ^ 63 - 1) / 8 := by decide
  omega
 have hfit : ¬ (!Builtin.List.listFitsIndex k) = true := by
  rw [fitsIndex_both h1 h2]
  exact Bool.false_ne_true
 have hlong : ¬ Builtin.List.listTooLong (its.toArray.size * k.toNat) = true := by
  rw [aTG hlen]
  exact Bool.false_ne_true
 have hnew : List.foldl (fun x1 x2 => x1 ++ x2) #[] (List.replicate (if its.toArray.isEmpty = true then 0 else k.toNat) its.toArray) = (List.replicate k.toNat its).flatten.toArray := by
  have f0 : ∀ m : Nat, List.foldl (fun x1 x2 => x1 ++ x2) #[] (List.replicate m its.toArray) = (List.replicate m its).flatten.toArray := fun m => by
   have := aOY its m []
   rw [List.nil_append] at this
   exact this
  rw [f0]
  cases its with
  | nil => simp
  | cons a r' => rw [if_neg (by simp)]
 refine wpAny_binaryOp_repeat_ref (T := "list") (U := "int") (by decide) ⟨_, e, rfl⟩ (fun s' => typeIs_int s' k t) noFill_list_mul F.fills_int_mul F.slot_int_rmul repeat_list F.slot_int_index.lookup
  (call_meets F.slot_int_rmul (typeIs_int s k t) F.entry_int_rmul (F.args_int_rmul_2 _ _) (int___rmul___int_list k t l its.toArray n)
   ⟨e, rfl, ⟨_, e, rfl⟩, call_meets F.slot_list_mul ⟨_, e, rfl⟩ F.entry_list_mul (F.args_list_mul_2 _ _) (AutoListH.list___mul___list_int_3 l its.toArray n k t hfit hcap hlong) ⟨e, ?_⟩⟩)
 rw [hnew]
 exact ⟨.ref _, _, I.lnew (t' := s.toks) (r.rep k.toNat) (by rw [eFT, Nat.mul_comm]; exact hz), rfl, q _ I.fresh⟩
end
end L2
namespace Att
open PySem PySem.W PySem.Calls PyProof.Rows
theorem aIE {P : Params} {h : Heap} : ∀ (ns : List Int) (vs : List Value), WellAll P h vs (ns.map WData.int) -> IntsAre vs ns := by
 intro ns
 induction ns with
 | nil =>
  intro vs w
  rw [List.map_nil] at w
  cases w
  exact .nil
 | cons n ns ih =>
  intro vs w
  rw [List.map_cons] at w
  cases w with
  | cons a b =>
   cases a
   exact .cons _ _ (ih _ b)
theorem aWH {l : OpenLaw} {n : Nat} (hn : l.most = some n) {P : Params} {h : Heap} {args : List WData} {vals : List Value}
  (hpre : l.row.toRowW.claim.pre args = true) (hwl : WellAll P h vals args) :
  ∃ a vs ns, vals = [Value.ref a] /\ args = [WData.list (ns.map WData.int)] /\ h.get? a = some { cls := .type "list", data := .seq vs.toArray } /\ IntsAre vs ns /\ ns.length <= n := by
 have hsh : WShape.hasAll [] args [.list .int] = true := (pre_splitW hpre).1
 have hc : l.pre.holds [] { args := args } = true := (pre_splitW hpre).2
 obtain ⟨d, r, rfl, h1, h2⟩ := hasAllW_cons hsh
 obtain rfl := hasAllW_nil h2
 obtain ⟨xs, rfl, h3⟩ := hasW_list h1
 obtain ⟨ns, rfl⟩ := items_int h3
 have hlen : ns.length <= n := by
  unfold OpenLaw.pre at hc
  have h4 : (WTm.not (.lt (.lit (.int (n : Int))) (.len (.arg 0)))).holds [] { args := [.list (ns.map .int)] } = true := by
   have h4 := (holds_andW hc).1
   rw [hn] at h4
   exact h4
  have h5 := condW_of h4 (w_not (w_lt w_lit (w_len_list (w_arg rfl))))
  rw [List.length_map] at h5
  refine Nat.le_of_not_lt fun q => ?_
  have q' : (n : Int) < ((ns.length : Nat) : Int) := by omega
  first
   | (rw [decide_eq_true q'] at h5; exact absurd h5 (by decide))
   | (simp at h5; omega)
 cases hwl with
 | cons w1 w2 =>
  cases w2
  cases w1 with
  | list ho hall => exact ⟨_, _, ns, rfl, rfl, ho, aIE ns _ hall, hlen⟩
theorem aXD (l : OpenLaw) (args : List WData) : l.row.toRowW.claim.post args (.bool true) args = true :=
 postW_of (r := l.row.toRowW) (X := (true == true))
  (show WShape.has [] (.bool true) .bool = true by first | rfl | decide | simp [WShape.has, WShape.arms, WShape.armsAll])
  (show (WTm.eq .res (.lit (.bool true))).value [] { args := args, res := some (.bool true), after := args } = some (.bool (true == true)) from w_eq_bool (w_res rfl) w_lit) rfl
theorem attach_call {l : OpenLaw} {n : Nat} {q : Program} {loose : List Str} {XP : (Str -> Option Value) -> Heap -> Prop} {YP : World -> Heap -> Prop} {d : DefRec}
  (hn : l.most = some n) (hdf : d.params.defaults = [])
  (call : ∀ (w : World) (s₀ s₁ : Shared) (mg mb : Str -> Option Value) (fa : Addr) (o : Obj) (pm cd doc : Value) (a : Addr) (vs : List Value) (ns : List Int),
   Ground q loose [] XP w s₀ mg mb s₁.heap -> YP w s₁.heap ->
   s₁.heap.get? fa = some o -> o.data = .func (docDef d.name d.params d.body d.scope pm cd doc) -> s₁.heap.CodeRec cd d.name -> mg d.name = some (.ref fa) ->
   s₁.heap.get? a = some { cls := .type "list", data := .seq vs.toArray } -> IntsAre vs ns -> ns.length <= n -> s₁.gens = #[] ->
   codeAny (model l.prog w) callerA (.call (.ref fa) ⟨[.ref a], []⟩) (fun r s' => r = .ok (.ret (.bool true)) /\ OldK s₁.heap s'.heap /\ s'.os = s₁.os /\ AllBare s'.gens) s₁) :
  WalkO q loose XP YP l.row.toRowW d [] (fun f vs => PySem.call f vs) := by
 intro w s₀ s₁ mg mb G Y fa o pm cd doc dV kV ho hd hcd hD hmg hg args vals as hpre hlay hrd hwl hlo
 obtain rfl : dV = .none := Dflts.none hD hdf
 obtain rfl : kV = .none := Dflts.noKw hD
 obtain ⟨a, vs, ns, rfl, rfl, hobj, hints, hlen⟩ := aWH hn hpre hwl
 refine enter_call (codeAny_mono (call w s₀ s₁ mg mb fa o pm cd doc a vs ns G Y ho (fd_plain hd) hcd hmg hobj hints hlen hg) fun r s' hq => ?_)
 obtain ⟨rfl, h2, h3, h4⟩ := hq
 exact ⟨.inl ⟨.bool true, .bool true, [], rfl, fun _ => rfl, .bool true, aXD l _, fun _ => ⟨List.Pairwise.nil, fun _ hm => (nomatch hm)⟩⟩, h2, h3, h4⟩
section
variable {prog : Program} {w : World} {A : Around} {E : Value -> Shared -> Prop} {s : Shared} {K : Frag}
def eNW (h : Heap) (L d : Addr) : List (Addr × Obj) := (List.range h.objs.size).filterMap fun a => if a = L \/ a = d then none else (h.get? a).map fun o => (a, o)
end
end Att
namespace L2
open PySem PySem.Spec PyProof.Rows
theorem aNV : ∀ {vs : List Value} {ns : List Int}, IntsAre vs ns -> Vals (ns.map V.int) vs
 | _, _, .nil => .nil
 | _, _, .cons n t h => .cons ⟨t, rfl⟩ (aNV h)
def eNK (H : Hp) : Prop := ∀ b, H b = none \/ ∃ o xs, H b = some (.frz o (.lst xs))
theorem eBH {P : Program} {w : World} {K : PySem.W.Frag} {mg mb : Str -> Option Value} {CX : CXT} {k : Nat} {fa a : Addr} {fd : FuncData} {x : Str} {sp : Sp} {s₁ : Shared} {vs : List Value} {ns : List Int}
  (KX : K.In s₁.heap) (hns : s₁.heap.Ns mainGlobals mg) (hb : s₁.heap.Ns builtinsNs mb) (hbb : ∀ x : Str, x ≠ "__name__" -> mb x = bootBuiltins x) (hlim : s₁.heap.NoLimit) (hseer : s₁.heap.NoSeer) (hg : s₁.gens = #[])
  (ha : s₁.heap.get? a = some { cls := .type "list", data := .seq vs.toArray }) (hi : IntsAre vs ns) (hl : ns.length <= sizeLine) (hr : Room k callerA)
  (F : ∀ base : Heap, K.In base -> base.Ns mainGlobals mg -> qU P w K mg base CX k fa fd [x] sp) (hbind : ∀ (s : Shared) (u : Value), BindsTo s fd ⟨[u], []⟩ [(x, u)])
  (hsp : ∀ H : Hp, eNK H -> SqL K H a (ns.map V.int) -> sp [.ref a] H (fun v _ => v = .bl true) fun _ _ _ => False)
  (hCX : ∀ H e s', CX [] H s₁ (fun _ _ _ => False) e s' -> False) :
  codeAny (model P w) callerA (.call (.ref fa) ⟨[.ref a], []⟩) (fun r s' => r = .ok (.ret (.bool true)) /\ OldK s₁.heap s'.heap /\ s'.os = s₁.os /\ AllBare s'.gens) s₁ := by
 have rv := aNV hi
 have lenV := hi.length
 have core : ∀ H : Hp, eNK H -> SqL K H a (ns.map V.int) -> HOk P w H s₁.heap -> (∀ b, H b ≠ none -> b = a) -> (H a ≠ none -> K.lookup a = none) ->
   codeAny (model P w) callerA (.call (.ref fa) ⟨[.ref a], []⟩) (fun r s' => r = .ok (.ret (.bool true)) /\ OldK s₁.heap s'.heap /\ s'.os = s₁.os /\ AllBare s'.gens) s₁ := by
  intro H hO hS hok hA hK
  have base_of : ∀ {b : Addr} {o : Obj}, s₁.heap.get? b = some o -> H b = none -> (eAG s₁.heap H).get? b = some o := fun e n => eBJ e n
  have noA : ∀ {b : Addr} {o : Obj} {es : Array DictEntry} {ep : Nat}, s₁.heap.get? b = some o -> o.data = .dict es ep -> H b = none := fun {b o es ep} e d => by
   cases q : H b with
   | none => rfl
   | some u =>
    have e' : b = a := hA b (by rw [q]; simp)
    subst e'
    rw [ha] at e; cases e
    have d' : Data.seq vs.toArray _ = Data.dict es ep := d
    cases d'
  have nsK : ∀ {b : Addr} {m : Str -> Option Value}, s₁.heap.Ns b m -> (eAG s₁.heap H).Ns b m := fun {b m} ⟨o, es, ep, e, d, r⟩ => ⟨o, es, ep, base_of e (noA e d), d, r⟩
  have hKb : K.In (eAG s₁.heap H) := fun b o e => base_of (KX b o e) (by
   cases q : H b with
   | none => rfl
   | some u =>
    have e' : b = a := hA b (by rw [q]; simp)
    subst e'
    rw [hK (by rw [q]; simp)] at e; cases e)
  have hSeer : (eAG s₁.heap H).NoSeer := {
   statics := let ⟨mc, a1, b1⟩ := hseer.statics; ⟨mc, nsK a1, b1⟩
   mods := let ⟨mc, a1, b1⟩ := hseer.mods; ⟨mc, nsK a1, b1⟩
   imp := let ⟨mc, a1, b1⟩ := hseer.imp; ⟨mc, nsK a1, b1⟩
   main := let ⟨mg', bm, ob, a1, b1, c1, d1, e1⟩ := hseer.main; ⟨mg', bm, ob, nsK a1, b1, base_of c1 (by
    cases q : H bm with
    | none => rfl
    | some u =>
     have e' : bm = a := hA bm (by rw [q]; simp)
     subst e'
     rw [ha] at c1; cases c1
     injection d1 with d2
     exact absurd d2 (by decide)), d1, e1⟩ }
  have hM : Mod K mg (eAG s₁.heap H) := ⟨hKb, nsK hns, ⟨mb, nsK hb, hbb⟩, let ⟨mc, h1, h2⟩ := hlim; ⟨mc, nsK h1, h2⟩, hSeer⟩
  have e0 : Env0 P w K mg (eAG s₁.heap H) callerA [] s₁ H := ⟨rfl, hM, fun b o e => eFO e, Nat.le_of_eq (aYB _ _), trivial, fun b hb => absurd (show b ∈ ([] : List Addr) from hb) (by simp), hok, .of_eq hg⟩
  refine codeAny_mono ((F _ hKb (nsK hns)).run callerA [] s₁ H ⟨[.ref a], []⟩ [.ref a] [.ref a] _ _ hr e0 (hbind s₁ (.ref a)) (.cons rfl .nil) (hsp H hO hS)) fun r s' h => ?_
  cases r with
  | error e => exact (hCX H e s' h).elim
  | ok fl =>
   cases fl with
   | next => exact False.elim h
   | brk => exact False.elim h
   | cont => exact False.elim h
   | ret u =>
    obtain ⟨v, H', os, bare, un, hok', r', q⟩ := h
    have q' : v = .bl true := q
    subst q'
    obtain rfl : u = Value.bool true := r'
    refine ⟨rfl, OldK.of_keep fun b o e => ?_, os, bare⟩
    cases q : H b with
    | none => exact un.keep b o e q (by intro z; exact absurd (show b ∈ ([] : List Addr) from z) (by simp)) (by simp)
    | some u =>
     rcases hO b with z | ⟨ob, xs, z⟩
     ·rw [q] at z; cases z
     ·have z2 := un.frzs b ob _ z
      obtain ⟨e1, _⟩ := hok b _ z
      obtain ⟨e2, _⟩ := hok' b _ z2
      rw [e] at e1; cases e1
      exact e2
 cases hk : K.lookup a with
 | some o =>
  have e := KX a o hk
  rw [ha] at e
  cases e
  refine core (fun _ => none) (fun _ => .inl rfl) (.inr ⟨_, vs.toArray, _, hk, rfl, rfl, rfl, by rw [List.size_toArray, lenV]; exact hl, by simpa using rv⟩) (fun b u z => by have z' : (none : Option HO) = some u := z; cases z') (fun b z => absurd rfl z) fun z => absurd rfl z
 | none =>
  refine core (fun b => if b = a then some (.frz { cls := .type "list", data := .seq vs.toArray } (.lst (ns.map V.int))) else none) (fun b => ?_) (.inl (.inr ⟨{ cls := .type "list", data := .seq vs.toArray }, if_pos rfl⟩)) (fun b u z => ?_) (fun b z => ?_) fun _ => hk
  ·by_cases hb : b = a
   ·exact .inr ⟨_, _, if_pos hb⟩
   ·exact .inl (if_neg hb)
  ·by_cases hb : b = a
   ·have z' := (if_pos hb).symm.trans z
    cases z'
    subst hb
    exact ⟨ha, by rw [List.length_map]; exact hl, vs, _, rv, ha⟩
   ·have z' := (if_neg hb).symm.trans z
    cases z'
  ·by_cases hb : b = a
   ·exact hb
   ·exact absurd (if_neg hb) z
theorem walk_of {l : PySem.W.OpenLaw} {n k : Nat} {q : Program} {loose : List Str} {XP : (Str -> Option Value) -> Heap -> Prop} {YP : World -> Heap -> Prop} {d : DefRec} {K : Params -> PySem.W.Frag} {CX : World -> CXT} {sp : World -> Sp} {x : Str}
  (hq : importsNone q = true) (hn : l.most = some n) (hn2 : n <= sizeLine) (hdf : d.params.defaults = []) (hr : Room k callerA)
  (hY : ∀ (w : World) (h : Heap), YP w h -> (K w.params).In h)
  (F : ∀ (w : World) (mg : Str -> Option Value) (fa : Addr) (h : Heap), (K w.params).In h -> h.Ns mainGlobals mg -> mg d.name = some (.ref fa) ->
   ∃ fd : FuncData, (∀ (s : Shared) (u : Value), BindsTo s fd ⟨[u], []⟩ [(x, u)]) /\
    ∀ base : Heap, (K w.params).In base -> base.Ns mainGlobals mg -> qU l.prog w (K w.params) mg base (CX w) k fa fd [x] (sp w))
  (hsp : ∀ (w : World) (H : Hp) (a : Addr) (ns : List Int), ns.length <= n -> eNK H -> SqL (K w.params) H a (ns.map V.int) -> sp w [.ref a] H (fun v _ => v = .bl true) fun _ _ _ => False)
  (hCX : ∀ (w : World) (H : Hp) (s : Shared) (e : Value) (s' : Shared), CX w [] H s (fun _ _ _ => False) e s' -> False) :
  PySem.W.WalkO q loose XP YP l.row.toRowW d [] (fun f vs => PySem.call f vs) := by
 refine Att.attach_call hn hdf fun w s₀ s₁ mg mb fa o pm cd doc a vs ns G Y ho hd hcd hmg hobj hints hlen hg => ?_
 have KX := hY w _ Y
 obtain ⟨fd, hb, hF⟩ := F w mg fa _ KX G.T.g hmg
 exact eBH KX G.T.g G.T.b G.T.builtins G.T.nolimit (G.T.seer hq) hg hobj hints (Nat.le_trans hlen hn2) hr hF hb (fun H hO hS => hsp w H a ns hlen hO hS) fun H e s' => hCX w H s₁ e s'
end L2
/- THE LAST THEOREM (shape; LID, My.* are yours):
   My.Adr: a structure of the addresses that your layer names (classes, functions); My.Txt K t: a structure (Prop) of the equations over K;
   My.txt_mk : {K} {implicit addresses ..} (e1 : nsIn K mainGlobals "law" = some (some (.ref f))) (e2 : K.lookup f = some ⟨oc, od, .func (fnOf "law" "law" params body scope dV kV doc pm an cdv ct), sl⟩) (e3 : codeIn K cdv "law" = true) .. : ∃ t, My.Txt K t
(the tactic k_is has no namespace: write k_is) -/
namespace L2
open PySem PySem.Spec PyProof.Rows
def yN (s : Stmt) : Arguments := match s with
 | .FunctionDef _ a _ _ _ _ _ _ _ _ => a
 | _ => { posonlyargs := [], args := [], vararg := none, kwonlyargs := [], kw_defaults := [], kwarg := none, defaults := [] }
def yF (s : Stmt) : List Stmt := match s with
 | .FunctionDef _ _ b _ _ _ _ _ _ _ => b
 | _ => []
def yB (s : Stmt) : Scope := match s with
 | .FunctionDef _ _ _ _ _ _ sc _ _ _ => sc
 | _ => { kind := .function, names := [], isGenerator := false, isCoroutine := false }
abbrev CX0 : CXT := fun _ _ _ _ _ _ => False
abbrev E0 : XK := fun _ _ _ => False
theorem aQW {X : Cx} : aCL CX0 X E0 := fun _ _ _ _ _ _ _ h => h.elim
structure Fun (K : PySem.W.Frag) (x qual : Str) (st : Stmt) (f : Addr) (fd : FuncData) : Prop where
 ex : ∃ (oc : Value) (od : Option Addr) (kV doc pm : Value) (an : Option Addr) (cdv ct : Value) (osl : Array (Option Value)),
  fd = PySem.W.fnOf x qual (yN st) (yF st) (yB st) .none kV doc pm an cdv ct /\ K.lookup f = some ⟨oc, od, .func fd, osl⟩ /\ PySem.W.codeIn K cdv qual = true
 kp : PySem.W.keepIn K (.ref f) = true
section
variable {P : Program} {w : World} {K : PySem.W.Frag} {mg : Str -> Option Value} {base : Heap}
theorem Fun.ok {x qual : Str} {st : Stmt} {f : Addr} {fd : FuncData} {N ps : List Str} {k : Nat} {sp : Sp} (F : Fun K x qual st f fd) (S : yL N ps (yB st)) (len : ∀ vs H Q E, sp vs H Q E -> vs.length = ps.length)
  (hbody : ∀ (cdv : Value) (A : Around) (outer : List Env) (s : Shared) (H : Hp) (vs : List V) (Q : VK) (E : XK), Room k (A.deeper (envOfC qual (yB st) s.heap.objs.size f cdv)) -> sp vs H Q E ->
   ∃ t, PSs (aVA CX0 P w K mg base N qual (yB st) f cdv A outer s H E).nox (yF st) t /\ t { nx := fun _ H' => Q .non H', rt := Q } (start N vs) H) : qU P w K mg base CX0 (k + 1) f fd ps sp := by
 obtain ⟨oc, od, kV, doc, pm, an, cdv, ct, osl, rfl, lk, hcd⟩ := F.ex
 refine eMX lk hcd S len fun A outer s H vs Q E hr hsp => ?_
 obtain ⟨t, h, q⟩ := hbody cdv A outer s H vs Q E hr hsp
 exact ⟨t, h.nox, q⟩
theorem Fun.binds {x qual : Str} {st : Stmt} {f : Addr} {fd : FuncData} {ps : List Str} (F : Fun K x qual st f fd)
  (h : ∀ (kV doc pm : Value) (an : Option Addr) (cdv ct : Value) (us : List Value), us.length = ps.length -> bindArgs (PySem.W.fnOf x qual (yN st) (yF st) (yB st) .none kV doc pm an cdv ct) ⟨us, []⟩ = pure (ps.zip us)) : Binds K fd ps [] := by
 obtain ⟨oc, od, kV, doc, pm, an, cdv, ct, osl, rfl, lk, hcd⟩ := F.ex
 exact .all (h kV doc pm an cdv ct)
theorem yS {x qual : Str} {st : Stmt} {f : Addr} {oc : Value} {od an : Option Addr} {osl : Array (Option Value)} {kV doc pm cdv ct : Value} (l : K.lookup f = some ⟨oc, od, .func (PySem.W.fnOf x qual (yN st) (yF st) (yB st) .none kV doc pm an cdv ct), osl⟩)
  (c : PySem.W.codeIn K cdv qual = true) (k : PySem.W.keepIn K (.ref f) = true) : Fun K x qual st f (PySem.W.fnOf x qual (yN st) (yF st) (yB st) .none kV doc pm an cdv ct) := ⟨⟨oc, od, kV, doc, pm, an, cdv, ct, osl, rfl, l, c⟩, k⟩
end
def Same (H H' : Hp) : Prop := ∀ b o, H b = some o -> H' b = some o
theorem Same.refl (H : Hp) : Same H H := fun _ _ h => h
theorem Same.trans {H H1 H2 : Hp} (a : Same H H1) (b : Same H1 H2) : Same H H2 := fun c o h => b c o (a c o h)
theorem Same.free {H H' : Hp} (e : Same H H') {l : Addr} (h : H' l = Option.none) : H l = Option.none := by
 cases q : H l with
 | none => rfl
 | some o =>
  rw [e l o q] at h
  cases h
theorem Same.seq {K : PySem.W.Frag} {H H' : Hp} {a : Addr} {xs : List V} (e : Same H H') (h : SqL K H a xs) : SqL K H' a xs := by
 rcases h with (h | ⟨o, h⟩) | h
 ·exact .inl (.inl (e _ _ h))
 ·exact .inl (.inr ⟨o, e _ _ h⟩)
 ·exact .inr h
end L2
namespace L2.EV
open PySem PySem.Spec PyProof.Rows
inductive D where
 | non | bl (b : Bool) | int (i : Int) | str (x : Str) | tup (xs : List D) | lst (xs : List D) | scr (ns : List Int) | exc (C : Addr) | exh (C ea : Addr) | dic (kvs : List (List Int × Int)) | adr (p : Addr) | stt (q : Addr)
def eKO (a C : Addr) : Heap -> Prop := fun h => ∃ ob vs, h.get? a = some ob /\ ob.cls = .ref C /\ ob.data = .fields vs /\ vs[2]? = some .none
def eNC (o : Obj) (xs : List (List Int × Addr × Int)) : Prop := o.ExactDict /\ ∃ (es : Array DictEntry) (ep : Nat) (ys : List (List Int × Addr × Value)), o.data = .dict es ep /\ (∀ (P : Program) (w : World), es.toList = ys.map (entryOfKey (tupleKind (intKind P w)))) /\
 Paired (fun (x : List Int × Addr × Int) (y : List Int × Addr × Value) => y.1 = x.1 /\ y.2.1 = x.2.1 /\ RelV (.int x.2.2) y.2.2) xs ys /\ (ys.map (·.1)).Nodup
def aAJ (a : Addr) (xs : List (List Int × Addr × Int)) : Heap -> Prop := fun h => xs.length <= sizeLine /\ (a == sysModules) = false /\ ∃ o, h.get? a = some o /\ eNC o xs
def DicR (F : Hp) (kvs : List (List Int × Int)) (xs : List (List Int × Addr × Int)) : Prop := kvs = xs.map (fun x => (x.1, x.2.2)) /\ ∀ x ∈ xs, F x.2.1 = some (.tup (x.1.map V.int))
theorem DicR.mono {F F' : Hp} {kvs : List (List Int × Int)} {xs : List (List Int × Addr × Int)} (h : Same F F') (r : DicR F kvs xs) : DicR F' kvs xs := ⟨r.1, fun x hx => h _ _ (r.2 x hx)⟩
mutual
inductive Rep (K : PySem.W.Frag) (F : Hp) : V -> D -> Prop where
 | non : Rep K F .non .non
 | bl (b : Bool) : Rep K F (.bl b) (.bl b)
 | int (i : Int) : Rep K F (.int i) (.int i)
 | str (x : Str) : Rep K F (.str x) (.str x)
 | tup {a : Addr} {vs : List V} {ds : List D} : F a = some (.tup vs) -> RepL K F vs ds -> Rep K F (.ref a) (.tup ds)
 | lst {a : Addr} {vs : List V} {ds : List D} : F a = some (.lst vs) -> RepL K F vs ds -> Rep K F (.ref a) (.lst ds)
 | scr {a : Addr} {ns : List Int} : SqL K F a (ns.map V.int) -> Rep K F (.ref a) (.scr ns)
 | exc {a C : Addr} {ob : Obj} : F a = some (.frz ob (.ext (eKO a C))) -> Rep K F (.ref a) (.exc C)
 | exh {a C : Addr} {ob : Obj} : F a = some (.frz ob (.ext (eKO a C))) -> Rep K F (.ref a) (.exh C a)
 | dic {a : Addr} {ob : Obj} {kvs : List (List Int × Int)} {xs : List (List Int × Addr × Int)} : F a = some (.frz ob (.ext (aAJ a xs))) -> DicR F kvs xs -> Rep K F (.ref a) (.dic kvs)
 | adr (a : Addr) : Rep K F (.ref a) (.adr a)
 | stt {a q : Addr} : F a = some (.dK [(Sum.inr "xs", .ref q)]) -> Rep K F (.ref a) (.stt q)
inductive RepL (K : PySem.W.Frag) (F : Hp) : List V -> List D -> Prop where
 | nil : RepL K F [] []
 | cons {v : V} {d : D} {vs : List V} {ds : List D} : Rep K F v d -> RepL K F vs ds -> RepL K F (v :: vs) (d :: ds)
end
section
variable {K : PySem.W.Frag} {F F' : Hp}
mutual
theorem Rep.mono (h : Same F F') : ∀ {v : V} {d : D}, Rep K F v d -> Rep K F' v d
 | _, _, .non => .non
 | _, _, .bl b => .bl b
 | _, _, .int i => .int i
 | _, _, .str x => .str x
 | _, _, .tup e r => .tup (h _ _ e) (RepL.mono h r)
 | _, _, .lst e r => .lst (h _ _ e) (RepL.mono h r)
 | _, _, .scr e => .scr (h.seq e)
 | _, _, .exc e => .exc (h _ _ e)
 | _, _, .exh e => .exh (h _ _ e)
 | _, _, .dic e r => .dic (h _ _ e) (r.mono h)
 | _, _, .adr a => .adr a
 | _, _, .stt e => .stt (h _ _ e)
theorem RepL.mono (h : Same F F') : ∀ {vs : List V} {ds : List D}, RepL K F vs ds -> RepL K F' vs ds
 | _, _, .nil => .nil
 | _, _, .cons r t => .cons (Rep.mono h r) (RepL.mono h t)
end
theorem RepL.length : ∀ {vs : List V} {ds : List D}, RepL K F vs ds -> vs.length = ds.length
 | _, _, .nil => rfl
 | _, _, .cons _ t => congrArg Nat.succ (RepL.length t)
theorem RepL.get : ∀ {vs : List V} {ds : List D} {i : Nat} {d : D}, RepL K F vs ds -> ds[i]? = some d -> ∃ v, vs[i]? = some v /\ Rep K F v d
 | _, _, _, _, .nil, e => by simp at e
 | _, _, 0, _, .cons r _, e => by simp at e; subst e; exact ⟨_, rfl, r⟩
 | _, _, i + 1, d, .cons _ t, e => by
  obtain ⟨v, h1, h2⟩ := RepL.get (i := i) (d := d) t (by simpa using e)
  exact ⟨v, by simpa using h1, h2⟩
theorem RepL.append : ∀ {vs us : List V} {ds es : List D}, RepL K F vs ds -> RepL K F us es -> RepL K F (vs ++ us) (ds ++ es)
 | _, _, _, _, .nil, s => s
 | _, _, _, _, .cons r t, s => .cons r (RepL.append t s)
theorem RepL.take : ∀ {vs : List V} {ds : List D} (n : Nat), RepL K F vs ds -> RepL K F (vs.take n) (ds.take n)
 | _, _, 0, _ => .nil
 | _, _, _ + 1, .nil => .nil
 | _, _, n + 1, .cons r t => .cons r (RepL.take n t)
theorem RepL.drop : ∀ {vs : List V} {ds : List D} (n : Nat), RepL K F vs ds -> RepL K F (vs.drop n) (ds.drop n)
 | _, _, 0, r => r
 | _, _, _ + 1, .nil => .nil
 | _, _, n + 1, .cons _ t => RepL.drop n t
theorem RepL.set {v : V} {d : D} (r : Rep K F v d) : ∀ {vs : List V} {ds : List D} (i : Nat), RepL K F vs ds -> RepL K F (vs.set i v) (ds.set i d)
 | _, _, _, .nil => .nil
 | _, _, 0, .cons _ t => .cons r t
 | _, _, i + 1, .cons q t => .cons q (RepL.set r i t)
theorem RepL.dropLast {vs : List V} {ds : List D} (h : RepL K F vs ds) : RepL K F vs.dropLast ds.dropLast := by
 rw [List.dropLast_eq_take, List.dropLast_eq_take, h.length]
 exact h.take _
theorem RepL.rep {vs : List V} {ds : List D} (h : RepL K F vs ds) : ∀ k : Nat, RepL K F (List.replicate k vs).flatten (List.replicate k ds).flatten
 | 0 => .nil
 | k + 1 => by
  rw [List.replicate_succ, List.replicate_succ, List.flatten_cons, List.flatten_cons]
  exact RepL.append h (RepL.rep h k)
theorem RepL.ints : ∀ ns : List Int, RepL K F (ns.map V.int) (ns.map D.int)
 | [] => .nil
 | n :: ns => .cons (.int n) (RepL.ints ns)
theorem RepL.of_ints : ∀ {ns : List Int} {vs : List V}, RepL K F vs (ns.map D.int) -> vs = ns.map V.int
 | [], _, h => by cases h; rfl
 | n :: ns, _, h => by
  cases h with
  | cons r t => cases r; rw [List.map_cons, RepL.of_ints t]
end
structure B0 where
 F : Hp
 H : Hp
structure Ext (B : B0) (F H : Hp) : Prop where
 sub : Same F H
 sh : Same B.H H
 sf : Same B.F F
 nw : ∀ a, F a ≠ none -> B.F a ≠ none \/ B.H a = none
inductive Sl where
 | un | val (d : D) | own (xs : List D) | dct (kvs : List (List Int × Int))
structure DOk (B : B0) (F H : Hp) (σ : St) (ρ : List Sl) : Prop where
 dcts : ∀ (i : Nat) kvs, ρ[i]? = some (.dct kvs) -> ∃ a es, σ[i]? = some (some (.ref a)) /\ H a = some (.ext (aAJ a es)) /\ F a = none /\ B.H a = none /\ DicR F kvs es
 distD : ∀ (i j : Nat) xs ys a, ρ[i]? = some (.dct xs) -> ρ[j]? = some (.dct ys) -> σ[i]? = some (some (.ref a)) -> σ[j]? = some (some (.ref a)) -> i = j
theorem DOk.to {B : B0} {F F' H H' : Hp} {σ σ' : St} {ρ ρ' : List Sl} (k : DOk B F H σ ρ) (hF : Same F F') (hH : ∀ a φ, H a = some (.ext φ) -> F a = none -> B.H a = none -> H' a = some (.ext φ) /\ F' a = none)
  (hρ : ∀ (i : Nat) kvs, ρ'[i]? = some (.dct kvs) -> ρ[i]? = some (.dct kvs) /\ σ'[i]? = σ[i]?) : DOk B F' H' σ' ρ' := by
 refine ⟨fun i kvs e => ?_, fun i j xs ys a e1 e2 e3 e4 => ?_⟩
 ·obtain ⟨q, z⟩ := hρ i kvs e
  obtain ⟨a, es, h1, h2, h3, h4, h5⟩ := k.dcts i kvs q
  obtain ⟨g1, g2⟩ := hH a _ h2 h3 h4
  exact ⟨a, es, z.trans h1, g1, g2, h4, h5.mono hF⟩
 ·obtain ⟨q1, z1⟩ := hρ i xs e1
  obtain ⟨q2, z2⟩ := hρ j ys e2
  exact k.distD i j xs ys a q1 q2 (z1 ▸ e3) (z2 ▸ e4)
theorem aQI {σ : St} {ρ : List Sl} {i : Nat} {v : Option V} {s : Sl} (hs : ∀ kvs, s ≠ .dct kvs) (j : Nat) (kvs : List (List Int × Int)) (h : (ρ.set i s)[j]? = some (.dct kvs)) : ρ[j]? = some (.dct kvs) /\ (σ.set i v)[j]? = σ[j]? := by
 by_cases e : i = j
 ·subst e
  rw [List.getElem?_set_self'] at h
  cases z : ρ[i]? with
  | none => rw [z] at h; cases h
  | some w => rw [z] at h; exact absurd (Option.some.inj h) (hs kvs)
 ·rw [List.getElem?_set_ne e] at h ⊢
  exact ⟨h, rfl⟩
theorem aLE {σ : St} {ρ : List Sl} {i : Nat} {s : Sl} (hs : ∀ kvs, s ≠ .dct kvs) (j : Nat) (kvs : List (List Int × Int)) (h : (ρ.set i s)[j]? = some (.dct kvs)) : ρ[j]? = some (.dct kvs) /\ σ[j]? = σ[j]? :=
 ⟨(aQI (σ := []) (v := none) hs j kvs h).1, rfl⟩
structure Ok (K : PySem.W.Frag) (B : B0) (F H : Hp) (σ : St) (ρ : List Sl) : Prop extends Ext B F H where
 len : σ.length = ρ.length
 vals : ∀ (i : Nat) d, ρ[i]? = some (.val d) -> ∃ v, σ[i]? = some (some v) /\ Rep K F v d
 owns : ∀ (i : Nat) xs, ρ[i]? = some (.own xs) -> ∃ a vs, σ[i]? = some (some (.ref a)) /\ H a = some (.lst vs) /\ F a = none /\ B.H a = none /\ RepL K F vs xs
 dist : ∀ (i j : Nat) xs ys a, ρ[i]? = some (.own xs) -> ρ[j]? = some (.own ys) -> σ[i]? = some (some (.ref a)) -> σ[j]? = some (some (.ref a)) -> i = j
 dic : DOk B F H σ ρ
theorem yM {H : Hp} {p : Addr} {o : HO} (h : H p = none) : Same H (upd H p o) := fun b u q => by rw [yI (zZ q h)]; exact q
theorem aSK {F H : Hp} {p : Addr} {o : HO} (h : Same F H) : Same (upd F p o) (upd H p o) := fun b u q => by
 by_cases hb : b = p
 ·subst hb; rw [yK] at q ⊢; exact q
 ·rw [yI hb] at q ⊢; exact h b u q
section
variable {K : PySem.W.Frag} {B : B0} {F H F' H' : Hp} {σ : St} {ρ : List Sl} {p : Addr} {o : HO}
theorem Ext.refl (h : Same F H) : Ext ⟨F, H⟩ F H := ⟨h, .refl _, .refl _, fun a q => .inl q⟩
theorem Ext.trans (x : Ext B F H) (y : Ext ⟨F, H⟩ F' H') : Ext B F' H' :=
 ⟨y.sub, x.sh.trans y.sh, x.sf.trans y.sf, fun a q => by
  rcases y.nw a q with z | z
  ·exact x.nw a z
  ·exact .inr (x.sh.free z)⟩
theorem Ext.grow (x : Ext B F H) (hp : H p = none) : Ext B (upd F p o) (upd H p o) :=
 ⟨aSK x.sub, x.sh.trans (yM hp), x.sf.trans (yM (x.sub.free hp)), fun a q => by
  by_cases h : a = p
  ·subst h; exact .inr (x.sh.free hp)
  ·rw [yI h] at q; exact x.nw a q⟩
theorem Ok.ext (k : Ok K B F H σ ρ) (y : Ext ⟨F, H⟩ F' H') : Ok K B F' H' σ ρ := by
 refine ⟨k.toExt.trans y, k.len, fun i d e => ?_, fun i xs e => ?_, k.dist, k.dic.to y.sf (fun a φ e1 e2 e3 => ⟨y.sh _ _ e1, ?_⟩) fun _ _ e => ⟨e, rfl⟩⟩
 rotate_left 2
 ·cases q : F' a with
  | none => rfl
  | some u =>
   rcases y.nw a (by rw [q]; exact fun z => nomatch z) with z | z
   ·exact absurd e2 z
   ·have z' : H a = none := z
    rw [e1] at z'; cases z'
 ·obtain ⟨v, h1, h2⟩ := k.vals i d e
  exact ⟨v, h1, h2.mono y.sf⟩
 ·obtain ⟨a, vs, h1, h2, h3, h4, h5⟩ := k.owns i xs e
  refine ⟨a, vs, h1, y.sh _ _ h2, ?_, h4, h5.mono y.sf⟩
  cases q : F' a with
  | none => rfl
  | some u =>
   rcases y.nw a (by rw [q]; exact fun z => nomatch z) with z | z
   ·exact absurd h3 z
   ·have z' : H a = none := z
    rw [h2] at z'; cases z'
theorem Ok.growH (k : Ok K B F H σ ρ) (hp : H p = none) : Ok K B F (upd H p o) σ ρ :=
 k.ext ⟨k.sub.trans (yM hp), yM hp, .refl _, fun a q => .inl q⟩
def NoOwn (σ : St) (ρ : List Sl) (p : Addr) : Prop := ∀ (i : Nat) xs, ρ[i]? = some (.own xs) -> σ[i]? ≠ some (some (.ref p))
theorem Ok.noOwn (k : Ok K B F H σ ρ) (hp : H p = none) : NoOwn σ ρ p := fun i xs e q => by
 obtain ⟨a, vs, h1, h2, _⟩ := k.owns i xs e
 rw [h1] at q
 cases q
 rw [hp] at h2; cases h2
theorem Ok.setVal {v : V} {d : D} (k : Ok K B F H σ ρ) (i : Nat) (r : Rep K F v d) : Ok K B F H (σ.set i (some v)) (ρ.set i (.val d)) := by
 refine ⟨k.toExt, by rw [List.length_set, List.length_set, k.len], fun j e q => ?_, fun j xs q => ?_, fun j l xs ys a q1 q2 q3 q4 => ?_, k.dic.to (.refl _) (fun _ _ e1 e2 _ => ⟨e1, e2⟩) (aQI fun _ z => nomatch z)⟩
 ·by_cases h : i = j
  ·subst h
   rw [List.getElem?_set_self'] at q
   cases z : ρ[i]? with
   | none => rw [z] at q; cases q
   | some w =>
    rw [z] at q; cases q
    have hi : i < σ.length := by rw [k.len]; exact (List.getElem?_eq_some_iff.mp z).1
    exact ⟨v, by rw [List.getElem?_set_self hi], r⟩
  ·rw [List.getElem?_set_ne h] at q ⊢
   exact k.vals j e q
 ·by_cases h : i = j
  ·subst h
   rw [List.getElem?_set_self'] at q
   cases z : ρ[i]? with
   | none => rw [z] at q; cases q
   | some w => rw [z] at q; cases q
  ·rw [List.getElem?_set_ne h] at q ⊢
   exact k.owns j xs q
 ·have n1 : i ≠ j := by
   rintro rfl
   rw [List.getElem?_set_self'] at q1
   cases z : ρ[i]? with
   | none => rw [z] at q1; cases q1
   | some w => rw [z] at q1; cases q1
  have n2 : i ≠ l := by
   rintro rfl
   rw [List.getElem?_set_self'] at q2
   cases z : ρ[i]? with
   | none => rw [z] at q2; cases q2
   | some w => rw [z] at q2; cases q2
  rw [List.getElem?_set_ne n1] at q1 q3
  rw [List.getElem?_set_ne n2] at q2 q4
  exact k.dist j l xs ys a q1 q2 q3 q4
theorem Ok.setOwn {vs : List V} {ds : List D} (k : Ok K B F H σ ρ) (i : Nat) (hp : H p = some (.lst vs)) (hf : F p = none) (hb : B.H p = none) (hn : NoOwn σ ρ p) (r : RepL K F vs ds) :
  Ok K B F H (σ.set i (some (.ref p))) (ρ.set i (.own ds)) := by
 refine ⟨k.toExt, by rw [List.length_set, List.length_set, k.len], fun j e q => ?_, fun j xs q => ?_, fun j l xs ys a q1 q2 q3 q4 => ?_, k.dic.to (.refl _) (fun _ _ e1 e2 _ => ⟨e1, e2⟩) (aQI fun _ z => nomatch z)⟩
 ·by_cases h : i = j
  ·subst h
   rw [List.getElem?_set_self'] at q
   cases z : ρ[i]? with
   | none => rw [z] at q; cases q
   | some w => rw [z] at q; cases q
  ·rw [List.getElem?_set_ne h] at q ⊢
   exact k.vals j e q
 ·by_cases h : i = j
  ·subst h
   rw [List.getElem?_set_self'] at q
   cases z : ρ[i]? with
   | none => rw [z] at q; cases q
   | some w =>
    rw [z] at q; cases q
    have hi : i < σ.length := by rw [k.len]; exact (List.getElem?_eq_some_iff.mp z).1
    exact ⟨p, vs, by rw [List.getElem?_set_self hi], hp, hf, hb, r⟩
  ·rw [List.getElem?_set_ne h] at q ⊢
   exact k.owns j xs q
 ·by_cases n1 : i = j
  ·by_cases n2 : i = l
   ·exact n1.symm.trans n2
   ·subst n1
    rw [List.getElem?_set_ne n2] at q2 q4
    have hi : i < σ.length := by
     have := (List.getElem?_eq_some_iff.mp q3).1
     rw [List.length_set] at this; exact this
    rw [List.getElem?_set_self hi] at q3
    cases q3
    exact absurd q4 (hn l ys q2)
  ·by_cases n2 : i = l
   ·subst n2
    rw [List.getElem?_set_ne n1] at q1 q3
    have hi : i < σ.length := by
     have := (List.getElem?_eq_some_iff.mp q4).1
     rw [List.length_set] at this; exact this
    rw [List.getElem?_set_self hi] at q4
    cases q4
    exact absurd q3 (hn j xs q1)
   ·rw [List.getElem?_set_ne n1] at q1 q3
    rw [List.getElem?_set_ne n2] at q2 q4
    exact k.dist j l xs ys a q1 q2 q3 q4
theorem Ok.chgOwn {vs ws : List V} {xs ds : List D} {i : Nat} (k : Ok K B F H σ ρ) (hi : ρ[i]? = some (.own xs)) (hs : σ[i]? = some (some (.ref p))) (r : RepL K F ws ds) :
  Ok K B F (upd H p (.lst ws)) σ (ρ.set i (.own ds)) := by
 obtain ⟨a, us, h1, h2, h3, h4, h5⟩ := k.owns i xs hi
 rw [h1] at hs
 cases hs
 have hlt : i < ρ.length := (List.getElem?_eq_some_iff.mp hi).1
 refine ⟨⟨fun b u q => ?_, fun b u q => ?_, k.sf, k.nw⟩, by rw [List.length_set, k.len], fun j e q => ?_, fun j ys q => ?_, fun j l ys zs b q1 q2 q3 q4 => ?_, k.dic.to (.refl _) (fun b φ e1 e2 _ => ⟨by rw [yI (fun z => by subst z; rw [h2] at e1; cases e1)]; exact e1, e2⟩) (aLE fun _ z => nomatch z)⟩
 ·have ne : b ≠ p := fun z => by subst z; rw [h3] at q; cases q
  rw [yI ne]; exact k.sub b u q
 ·have ne : b ≠ p := fun z => by subst z; rw [h4] at q; cases q
  rw [yI ne]; exact k.sh b u q
 ·by_cases h : i = j
  ·subst h
   rw [List.getElem?_set_self hlt] at q; cases q
  ·rw [List.getElem?_set_ne h] at q
   exact k.vals j e q
 ·by_cases h : i = j
  ·subst h
   rw [List.getElem?_set_self hlt] at q; cases q
   exact ⟨p, ws, h1, yK, h3, h4, r⟩
  ·rw [List.getElem?_set_ne h] at q
   obtain ⟨b, us', g1, g2, g3, g4, g5⟩ := k.owns j ys q
   have ne : b ≠ p := fun z => by subst z; exact h (k.dist i j xs ys b hi q h1 g1)
   exact ⟨b, us', g1, by rw [yI ne]; exact g2, g3, g4, g5⟩
 ·have own : ∀ (m : Nat) ys, (ρ.set i (.own ds))[m]? = some (.own ys) -> ∃ zs, ρ[m]? = some (.own zs) := fun m ys q => by
   by_cases h : i = m
   ·subst h; exact ⟨xs, hi⟩
   ·rw [List.getElem?_set_ne h] at q; exact ⟨ys, q⟩
  obtain ⟨y1, z1⟩ := own j ys q1
  obtain ⟨y2, z2⟩ := own l zs q2
  exact k.dist j l _ _ b z1 z2 q3 q4
theorem Ok.freezeAt {xs : List D} {i : Nat} (k : Ok K B F H σ ρ) (hi : ρ[i]? = some (.own xs)) : ∃ F', Same F F' /\ Ok K B F' H σ (ρ.set i (.val (.lst xs))) := by
 obtain ⟨a, us, h1, h2, h3, h4, h5⟩ := k.owns i xs hi
 have hlt : i < ρ.length := (List.getElem?_eq_some_iff.mp hi).1
 have sf : Same F (upd F a (.lst us)) := yM h3
 have nown : ∀ (j : Nat) ys, (ρ.set i (.val (.lst xs)))[j]? = some (.own ys) -> i ≠ j /\ ρ[j]? = some (.own ys) := fun j ys q => by
  by_cases h : i = j
  ·subst h; rw [List.getElem?_set_self hlt] at q; cases q
  ·rw [List.getElem?_set_ne h] at q; exact ⟨h, q⟩
 refine ⟨upd F a (.lst us), sf, ⟨fun b u q => ?_, k.sh, k.sf.trans sf, fun b q => ?_⟩, by rw [List.length_set, k.len], fun j e q => ?_, fun j ys q => ?_, fun j l ys zs b q1 q2 q3 q4 => ?_, k.dic.to sf (fun b φ e1 e2 _ => ⟨e1, by rw [yI (fun z => by subst z; rw [h2] at e1; cases e1)]; exact e2⟩) (aLE fun _ z => nomatch z)⟩
 ·by_cases h : b = a
  ·subst h; rw [yK] at q; cases q; exact h2
  ·rw [yI h] at q; exact k.sub b u q
 ·by_cases h : b = a
  ·subst h; exact .inr h4
  ·rw [yI h] at q; exact k.nw b q
 ·by_cases h : i = j
  ·subst h
   rw [List.getElem?_set_self hlt] at q; cases q
   exact ⟨_, h1, .lst yK (h5.mono sf)⟩
  ·rw [List.getElem?_set_ne h] at q
   obtain ⟨v, g1, g2⟩ := k.vals j e q
   exact ⟨v, g1, g2.mono sf⟩
 ·obtain ⟨h, q⟩ := nown j ys q
  obtain ⟨b, us', g1, g2, g3, g4, g5⟩ := k.owns j ys q
  have ne : b ≠ a := fun z => by subst z; exact h (k.dist i j xs ys b hi q h1 g1)
  exact ⟨b, us', g1, g2, by rw [yI ne]; exact g3, g4, g5.mono sf⟩
 ·exact k.dist j l _ _ b (nown j ys q1).2 (nown l zs q2).2 q3 q4
end
set_option autoImplicit false
structure wE (X : Cx) (e : Expr) (σ : St) (H : Hp) (Q : VK) : Prop where
 go : ∀ (pins : List (Addr × Obj)) (s : Shared), Inv X pins σ H s -> wpAny (model X.prog X.w) X.A (eval e X.env) (EP X pins σ Q) X.xe s
instance wE_f {X : Cx} {e : Expr} {σ : St} {H : Hp} {Q : VK} : CoeFun (wE X e σ H Q) (fun _ => ∀ (pins : List (Addr × Obj)) (s : Shared), Inv X pins σ H s -> wpAny (model X.prog X.w) X.A (eval e X.env) (EP X pins σ Q) X.xe s) := ⟨wE.go⟩
structure wT (X : Cx) (e : Expr) (σ : St) (H : Hp) (Q : (Bool -> Hp -> Prop)) : Prop where
 go : ∀ (pins : List (Addr × Obj)) (s : Shared), Inv X pins σ H s -> wpAny (model X.prog X.w) X.A (isTrue e X.env (eval e X.env)) (TP X pins σ Q) X.xe s
instance wT_f {X : Cx} {e : Expr} {σ : St} {H : Hp} {Q : Bool -> Hp -> Prop} : CoeFun (wT X e σ H Q) (fun _ => ∀ (pins : List (Addr × Obj)) (s : Shared), Inv X pins σ H s -> wpAny (model X.prog X.w) X.A (isTrue e X.env (eval e X.env)) (TP X pins σ Q) X.xe s) := ⟨wT.go⟩
structure wW (X : Cx) (e : Expr) (σ : St) (H : Hp) (Q : (Bool -> Hp -> Prop)) : Prop where
 go : ∀ (whole : Sem Value) (pins : List (Addr × Obj)) (s : Shared), Inv X pins σ H s -> wpAny (model X.prog X.w) X.A (isTrue e X.env whole) (TP X pins σ Q) X.xe s
instance wW_f {X : Cx} {e : Expr} {σ : St} {H : Hp} {Q : Bool -> Hp -> Prop} : CoeFun (wW X e σ H Q) (fun _ => ∀ (whole : Sem Value) (pins : List (Addr × Obj)) (s : Shared), Inv X pins σ H s -> wpAny (model X.prog X.w) X.A (isTrue e X.env whole) (TP X pins σ Q) X.xe s) := ⟨wW.go⟩
structure wA (X : Cx) (es : List Expr) (σ : St) (H : Hp) (Q : (List V -> Hp -> Prop)) : Prop where
 go : ∀ (pos : Pos) (pins : List (Addr × Obj)) (s : Shared), Inv X pins σ H s -> wpAny (model X.prog X.w) X.A (spliced (backTo pos (starEach es X.env))) (AP X pins σ Q) X.xe s
instance wA_f {X : Cx} {es : List Expr} {σ : St} {H : Hp} {Q : List V -> Hp -> Prop} : CoeFun (wA X es σ H Q) (fun _ => ∀ (pos : Pos) (pins : List (Addr × Obj)) (s : Shared), Inv X pins σ H s -> wpAny (model X.prog X.w) X.A (spliced (backTo pos (starEach es X.env))) (AP X pins σ Q) X.xe s) := ⟨wA.go⟩
structure wS (X : Cx) (st : Stmt) (D : aFO) (σ : St) (H : Hp) : Prop where
 go : ∀ (pins : List (Addr × Obj)) (s : Shared), Inv X pins σ H s -> wpAny (model X.prog X.w) X.A (exec st X.env) (SP X pins D) X.xe s
instance wS_f {X : Cx} {st : Stmt} {D : aFO} {σ : St} {H : Hp} : CoeFun (wS X st D σ H) (fun _ => ∀ (pins : List (Addr × Obj)) (s : Shared), Inv X pins σ H s -> wpAny (model X.prog X.w) X.A (exec st X.env) (SP X pins D) X.xe s) := ⟨wS.go⟩
structure wSs (X : Cx) (st : List Stmt) (D : aFO) (σ : St) (H : Hp) : Prop where
 go : ∀ (pins : List (Addr × Obj)) (s : Shared), Inv X pins σ H s -> wpAny (model X.prog X.w) X.A (execs st X.env) (SP X pins D) X.xe s
instance wSs_f {X : Cx} {st : List Stmt} {D : aFO} {σ : St} {H : Hp} : CoeFun (wSs X st D σ H) (fun _ => ∀ (pins : List (Addr × Obj)) (s : Shared), Inv X pins σ H s -> wpAny (model X.prog X.w) X.A (execs st X.env) (SP X pins D) X.xe s) := ⟨wSs.go⟩
structure wO (X : Cx) (e : Option Expr) (σ : St) (H : Hp) (Q : (Option Int -> Hp -> Prop)) : Prop where
 go : ∀ (pins : List (Addr × Obj)) (s : Shared), Inv X pins σ H s -> wpAny (model X.prog X.w) X.A (evalPart e X.env) (fun u s' => ∃ o H', Inv X pins σ H' s' /\ IsPart u o /\ Q o H') X.xe s
instance wO_f {X : Cx} {e : Option Expr} {σ : St} {H : Hp} {Q : Option Int -> Hp -> Prop} : CoeFun (wO X e σ H Q) (fun _ => ∀ (pins : List (Addr × Obj)) (s : Shared), Inv X pins σ H s -> wpAny (model X.prog X.w) X.A (evalPart e X.env) (fun u s' => ∃ o H', Inv X pins σ H' s' /\ IsPart u o /\ Q o H') X.xe s) := ⟨wO.go⟩
structure wG (X : Cx) (e : Expr) (v : V) (σ : St) (H : Hp) (Q : (St -> Hp -> Prop)) : Prop where
 go : ∀ (pins : List (Addr × Obj)) (s : Shared) (u : Value), Inv X pins σ H s -> RelV v u -> wpAny (model X.prog X.w) X.A (assign e X.env u) (fun _ s' => ∃ σ' H', Inv X pins σ' H' s' /\ Q σ' H') X.xe s
instance wG_f {X : Cx} {e : Expr} {v : V} {σ : St} {H : Hp} {Q : St -> Hp -> Prop} : CoeFun (wG X e v σ H Q) (fun _ => ∀ (pins : List (Addr × Obj)) (s : Shared) (u : Value), Inv X pins σ H s -> RelV v u -> wpAny (model X.prog X.w) X.A (assign e X.env u) (fun _ s' => ∃ σ' H', Inv X pins σ' H' s' /\ Q σ' H') X.xe s) := ⟨wG.go⟩
section
variable {X : Cx} {e : Expr} {es : List Expr} {st : Stmt} {sts : List Stmt} {oe : Option Expr}
theorem yU : PE X e (wE X e) := fun pins s _ _ _ I h => h pins s I
theorem aLV : PT X e (wT X e) := fun pins s _ _ _ I h => h pins s I
theorem eLI : PW X e (wW X e) := fun wh pins s _ _ _ I h => h wh pins s I
theorem aVO : PA X es (wA X es) := fun pos pins s _ _ _ I h => h pos pins s I
theorem eAF : PS X st (wS X st) := fun pins s _ _ _ I h => h pins s I
theorem vD : PSs X sts (wSs X sts) := fun pins s _ _ _ I h => h pins s I
theorem eNT : PO X oe (wO X oe) := fun pins s _ _ _ I h => h pins s I
theorem eLJ : PG X e (wG X e) := fun pins s _ _ _ u _ I r h => h pins s u I r
end
abbrev Rho := List Sl
def EvE (X : Cx) (ρ : Rho) (e : Expr) (d : D) : Prop := ∀ (B : B0) (F H : Hp) (σ : St) (Q : VK), Ok X.K B F H σ ρ ->
 (∀ v F' H', Ext ⟨F, H⟩ F' H' -> Rep X.K F' v d -> Q v H') -> wE X e σ H Q
def EvN (X : Cx) (ρ : Rho) (e : Expr) (xs : List D) : Prop := ∀ (B : B0) (F H : Hp) (σ : St) (Q : VK), Ok X.K B F H σ ρ ->
 (∀ p vs F' H', Ext ⟨F, H⟩ F' H' -> H p = none -> H' p = some (.lst vs) -> F' p = none -> RepL X.K F' vs xs -> Q (.ref p) H') -> wE X e σ H Q
def SqB (K : PySem.W.Frag) (k : Bool) (H : Hp) (a : Addr) (vs : List V) : Prop := if k = true then SqL K H a vs else SqT K H a vs
def EvQ (X : Cx) (ρ : Rho) (e : Expr) (k : Bool) (xs : List D) : Prop := ∀ (B : B0) (F H : Hp) (σ : St) (Q : VK), Ok X.K B F H σ ρ ->
 (∀ a vs F' H', Ext ⟨F, H⟩ F' H' -> SqB X.K k H' a vs -> RepL X.K F' vs xs -> Q (.ref a) H') -> wE X e σ H Q
def EvT (X : Cx) (ρ : Rho) (e : Expr) (b : Bool) : Prop := ∀ (B : B0) (F H : Hp) (σ : St) (Q : Bool -> Hp -> Prop), Ok X.K B F H σ ρ ->
 (∀ F' H', Ext ⟨F, H⟩ F' H' -> Q b H') -> wT X e σ H Q
def EvW (X : Cx) (ρ : Rho) (e : Expr) (b : Bool) : Prop := ∀ (B : B0) (F H : Hp) (σ : St) (Q : Bool -> Hp -> Prop), Ok X.K B F H σ ρ ->
 (∀ F' H', Ext ⟨F, H⟩ F' H' -> Q b H') -> wW X e σ H Q
def Pl (e : Expr) : Prop := ∀ (es : List Expr) (env : Env), starEach (e :: es) env = (false, eval e env) :: starEach es env
def PlA : List Expr -> Prop
 | [] => True
 | e :: es => Pl e /\ PlA es
theorem PlA.any {env : Env} {pos : Pos} : ∀ {es : List Expr}, PlA es -> (backTo pos (starEach es env)).any (·.1) = false
 | [], _ => rfl
 | e :: es, h => by
  rw [h.1 es env]
  show (false || (backTo pos (starEach es env)).any (·.1)) = false
  rw [PlA.any h.2]; rfl
def EvA (X : Cx) (ρ : Rho) (es : List Expr) (ds : List D) : Prop := PlA es /\ ∀ (B : B0) (F H : Hp) (σ : St) (Q : List V -> Hp -> Prop), Ok X.K B F H σ ρ ->
 (∀ vs F' H', Ext ⟨F, H⟩ F' H' -> RepL X.K F' vs ds -> Q vs H') -> wA X es σ H Q
def EvO (X : Cx) (ρ : Rho) (e : Option Expr) (o : Option Int) : Prop := ∀ (B : B0) (F H : Hp) (σ : St) (Q : Option Int -> Hp -> Prop), Ok X.K B F H σ ρ ->
 (∀ F' H', Ext ⟨F, H⟩ F' H' -> Q o H') -> wO X e σ H Q
inductive Out where
 | nx (ρ : Rho) | rt (d : D)
def Post (K : PySem.W.Frag) (B : B0) (F₀ : Hp) (E : aFO) : Out -> Prop
 | .nx ρ => ∀ F H σ, Ok K B F H σ ρ -> Same F₀ F -> E.nx σ H
 | .rt d => ∀ v F H, Ext B F H -> Rep K F v d -> E.rt v H
theorem Post.later {K : PySem.W.Frag} {B : B0} {F₀ F₁ : Hp} {E : aFO} {o : Out} (h : Post K B F₀ E o) (s : Same F₀ F₁) : Post K B F₁ E o := by
 cases o with
 | nx ρ => exact fun F H σ k s' => h F H σ k (s.trans s')
 | rt d => exact h
def EvS (X : Cx) (ρ : Rho) (st : Stmt) (o : Out) : Prop := ∀ (B : B0) (F H : Hp) (σ : St) (E : aFO), Ok X.K B F H σ ρ -> Post X.K B F E o -> wS X st E σ H
def EvSs (X : Cx) (ρ : Rho) (sts : List Stmt) (o : Out) : Prop := ∀ (B : B0) (F H : Hp) (σ : St) (E : aFO), Ok X.K B F H σ ρ -> Post X.K B F E o -> wSs X sts E σ H
def EvG (X : Cx) (ρ : Rho) (tg : Expr) (d : D) (ρ' : Rho) : Prop := ∀ (B : B0) (F H : Hp) (σ : St) (v : V) (Q : St -> Hp -> Prop), Ok X.K B F H σ ρ -> Rep X.K F v d ->
 (∀ F' H' σ', Ok X.K B F' H' σ' ρ' -> Same F F' -> Q σ' H') -> wG X tg v σ H Q
def EvGn (X : Cx) (ρ : Rho) (tg : Expr) (d : D) (ρ' : Rho) : Prop := ∀ (B : B0) (F H : Hp) (σ : St) (v : V) (Q : St -> Hp -> Prop), Ok X.K B F H σ ρ -> Rep X.K F v d ->
 (∀ σ', Ok X.K B F H σ' ρ' -> (∀ p, NoOwn σ ρ p -> NoOwn σ' ρ' p) -> Q σ' H) -> wG X tg v σ H Q
theorem Ext.t {F H F' H' F2 H2 : Hp} (x : Ext ⟨F, H⟩ F' H') (y : Ext ⟨F', H'⟩ F2 H2) : Ext ⟨F, H⟩ F2 H2 := x.trans y
section
variable {X : Cx} {ρ : Rho} {e a b c : Expr} {d : D} {pos : Pos}
theorem EvE.of {t : TE} (h : PE X e t) (r : ∀ (B : B0) (F H : Hp) (σ : St) (Q : VK), Ok X.K B F H σ ρ -> (∀ v F' H', Ext ⟨F, H⟩ F' H' -> Rep X.K F' v d -> Q v H') -> t σ H Q) : EvE X ρ e d :=
 fun B F H σ Q k q => .mk fun pins s I => h pins s σ H Q I (r B F H σ Q k q)
theorem EvN.of {t : TE} {xs : List D} (h : PE X e t) (r : ∀ (B : B0) (F H : Hp) (σ : St) (Q : VK), Ok X.K B F H σ ρ ->
  (∀ p vs F' H', Ext ⟨F, H⟩ F' H' -> H p = none -> H' p = some (.lst vs) -> F' p = none -> RepL X.K F' vs xs -> Q (.ref p) H') -> t σ H Q) : EvN X ρ e xs :=
 fun B F H σ Q k q => .mk fun pins s I => h pins s σ H Q I (r B F H σ Q k q)
theorem EvQ.of {t : TE} {k : Bool} {xs : List D} (h : PE X e t) (r : ∀ (B : B0) (F H : Hp) (σ : St) (Q : VK), Ok X.K B F H σ ρ ->
  (∀ a vs F' H', Ext ⟨F, H⟩ F' H' -> SqB X.K k H' a vs -> RepL X.K F' vs xs -> Q (.ref a) H') -> t σ H Q) : EvQ X ρ e k xs :=
 fun B F H σ Q k q => .mk fun pins s I => h pins s σ H Q I (r B F H σ Q k q)
theorem EvT.of {t : TT} {b : Bool} (h : PT X e t) (r : ∀ (B : B0) (F H : Hp) (σ : St) (Q : Bool -> Hp -> Prop), Ok X.K B F H σ ρ -> (∀ F' H', Ext ⟨F, H⟩ F' H' -> Q b H') -> t σ H Q) : EvT X ρ e b :=
 fun B F H σ Q k q => .mk fun pins s I => h pins s σ H Q I (r B F H σ Q k q)
theorem EvW.of {t : TT} {b : Bool} (h : PW X e t) (r : ∀ (B : B0) (F H : Hp) (σ : St) (Q : Bool -> Hp -> Prop), Ok X.K B F H σ ρ -> (∀ F' H', Ext ⟨F, H⟩ F' H' -> Q b H') -> t σ H Q) : EvW X ρ e b :=
 fun B F H σ Q k q => .mk fun wh pins s I => h wh pins s σ H Q I (r B F H σ Q k q)
theorem EvS.of {st : Stmt} {o : Out} {t : TS} (h : PS X st t) (r : ∀ (B : B0) (F H : Hp) (σ : St) (E : aFO), Ok X.K B F H σ ρ -> Post X.K B F E o -> t E σ H) : EvS X ρ st o :=
 fun B F H σ E k q => .mk fun pins s I => h pins s σ H E I (r B F H σ E k q)
theorem EvSs.of {sts : List Stmt} {o : Out} {t : TS} (h : PSs X sts t) (r : ∀ (B : B0) (F H : Hp) (σ : St) (E : aFO), Ok X.K B F H σ ρ -> Post X.K B F E o -> t E σ H) : EvSs X ρ sts o :=
 fun B F H σ E k q => .mk fun pins s I => h pins s σ H E I (r B F H σ E k q)
theorem EvG.of {ρ' : Rho} {t : TG} (h : PG X e t) (r : ∀ (B : B0) (F H : Hp) (σ : St) (v : V) (Q : St -> Hp -> Prop), Ok X.K B F H σ ρ -> Rep X.K F v d -> (∀ F' H' σ', Ok X.K B F' H' σ' ρ' -> Same F F' -> Q σ' H') -> t v σ H Q) : EvG X ρ e d ρ' :=
 fun B F H σ v Q k rv q => .mk fun pins s u I ru => h pins s σ H v u Q I ru (r B F H σ v Q k rv q)
theorem EvGn.of {ρ' : Rho} {t : TG} (h : PG X e t) (r : ∀ (B : B0) (F H : Hp) (σ : St) (v : V) (Q : St -> Hp -> Prop), Ok X.K B F H σ ρ -> Rep X.K F v d -> (∀ σ', Ok X.K B F H σ' ρ' -> (∀ p, NoOwn σ ρ p -> NoOwn σ' ρ' p) -> Q σ' H) -> t v σ H Q) : EvGn X ρ e d ρ' :=
 fun B F H σ v Q k rv q => .mk fun pins s u I ru => h pins s σ H v u Q I ru (r B F H σ v Q k rv q)
theorem NoOwn.setVal {σ : St} {ρ : Rho} {p : Addr} (h : NoOwn σ ρ p) (i : Nat) (v : Option V) (d : D) : NoOwn (σ.set i v) (ρ.set i (.val d)) p := fun j xs e q => by
 by_cases hj : i = j
 ·subst hj
  rw [List.getElem?_set_self'] at e
  cases z : ρ[i]? with
  | none => rw [z] at e; cases e
  | some w => rw [z] at e; cases e
 ·rw [List.getElem?_set_ne hj] at e q
  exact h j xs e q
theorem Ext.freeze {F H F' H' : Hp} {p : Addr} {vs : List V} (x : Ext ⟨F, H⟩ F' H') (h0 : H p = none) (hp : H' p = some (.lst vs)) (hf : F' p = none) : Ext ⟨F, H⟩ (upd F' p (.lst vs)) H' :=
 ⟨fun b u q => by
  by_cases h : b = p
  ·subst h; rw [yK] at q; cases q; exact hp
  ·rw [yI h] at q; exact x.sub b u q, x.sh, x.sf.trans (yM hf), fun a q => by
  by_cases h : a = p
  ·subst h; exact .inr h0
  ·rw [yI h] at q; exact x.nw a q⟩
theorem EvN.toE {xs : List D} (h : EvN X ρ e xs) : EvE X ρ e (.lst xs) := fun B F H σ Q k q =>
 h B F H σ Q k fun p vs F' H' x h0 hp hf r => q _ _ _ (x.freeze h0 hp hf) (.lst yK (r.mono (yM hf)))
theorem SqB.mono {K : PySem.W.Frag} {k : Bool} {H H' : Hp} {a : Addr} {vs : List V} (s : Same H H') (h : SqB K k H a vs) : SqB K k H' a vs := by
 cases k with
 | true => exact s.seq h
 | false =>
  have h' : SqT K H a vs := h
  show SqT K H' a vs
  rcases h' with (h | ⟨o, h⟩) | h
  ·exact .inl (.inl (s _ _ h))
  ·exact .inl (.inr ⟨o, s _ _ h⟩)
  ·exact .inr h
theorem EvE.ql {xs : List D} (h : EvE X ρ e (.lst xs)) : EvQ X ρ e true xs := fun B F H σ Q k q =>
 h B F H σ Q k fun v F' H' x r => by
  cases r with
  | lst hf rl => exact q _ _ _ _ x (show SqL _ _ _ _ from SqL.of (x.sub _ _ hf)) rl
theorem EvE.qt {xs : List D} (h : EvE X ρ e (.tup xs)) : EvQ X ρ e false xs := fun B F H σ Q k q =>
 h B F H σ Q k fun v F' H' x r => by
  cases r with
  | tup hf rl => exact q _ _ _ _ x (show SqT _ _ _ _ from SqT.of (x.sub _ _ hf)) rl
theorem EvE.qs {ns : List Int} (h : EvE X ρ e (.scr ns)) : EvQ X ρ e true (ns.map D.int) := fun B F H σ Q k q =>
 h B F H σ Q k fun v F' H' x r => by
  cases r with
  | scr hs => exact q _ _ _ _ x (show SqL _ _ _ _ from x.sub.seq hs) (RepL.ints ns)
theorem EvN.toQ {xs : List D} (h : EvN X ρ e xs) : EvQ X ρ e true xs := h.toE.ql
structure At (X : Cx) (N : List Str) (sc : Scope) : Prop where
 eN : X.N = N
 eS : X.env.scope = sc
 calm : X.calm = true
 nd : X.N.Nodup
 nox : X.xe = fun _ _ => False
 un : X.A.units + 64 < cLine
 dp : X.A.depth + 100 < recursionLimit
 tree : X.prog.given.tree = none
 fr : ∃ env l, X.stack = env :: l /\ env.scope.isGenerator = false /\ env.scope.isCoroutine = false /\ env.builtins = builtinsNs /\ env.globals = mainGlobals
structure At0 (X : Cx) (N : List Str) (sc : Scope) : Prop where
 eN : X.N = N
 eS : X.env.scope = sc
 nd : X.N.Nodup
 nox : X.xe = fun _ _ => False
 un : X.A.units + 64 < cLine
 dp : X.A.depth + 100 < recursionLimit
 tree : X.prog.given.tree = none
 fr : ∃ env l, X.stack = env :: l /\ env.scope.isGenerator = false /\ env.scope.isCoroutine = false /\ env.builtins = builtinsNs /\ env.globals = mainGlobals
theorem At.z {X : Cx} {N : List Str} {sc : Scope} (t : At X N sc) : At0 X N sc := ⟨t.eN, t.eS, t.nd, t.nox, t.un, t.dp, t.tree, t.fr⟩
theorem At0.at {X : Cx} {N : List Str} {sc : Scope} (t : At0 X N sc) (h : X.calm = true) : At X N sc := ⟨t.eN, t.eS, h, t.nd, t.nox, t.un, t.dp, t.tree, t.fr⟩
def eOE (A : Around) (H : Hp) : Prop := ∃ (ea : Addr) (oe : Obj) (u : HO) (vs : Array Value), A.handled = some (.ref ea) /\ H ea = some (.frz oe u) /\ oe.data = .fields vs /\ vs[2]? = some .none
class FnT (X : Cx) : Prop where
 fn : ∀ x, X.fn x = true
variable {N : List Str} {sc : Scope}
theorem At.pass (a : At X N sc) : PassesOwn (model X.prog X.w) X.A X.env X.xe := by rw [a.nox]; exact PassesOwn.never
def aDQ (sc : Scope) (x : Str) : Bool := match sc.names.lookup x with
 | some .local => true
 | some .cell => true
 | some .free => true
 | _ => false
def aPZ (sc : Scope) (x : Str) : Bool := match sc.names.lookup x with
 | some .local => true
 | some .cell => true
 | _ => false
theorem eHJ {x : Str} (h : aDQ sc x = true) : Vis sc x := by
 unfold aDQ at h
 cases e : sc.names.lookup x with
 | none => rw [e] at h; cases h
 | some k =>
  rw [e] at h
  cases k <;> first | exact .inl e | exact .inr (.inl e) | exact .inr (.inr e) | cases h
theorem eJN {x : Str} (h : aPZ sc x = true) : Loc sc x := by
 unfold aPZ at h
 cases e : sc.names.lookup x with
 | none => rw [e] at h; cases h
 | some k =>
  rw [e] at h
  cases k <;> first | exact .inl e | exact .inr e | cases h
def qS (x : Str) : Bool := !(x == ("__debug__" : Str)) && !(x == ("__classdict__" : Str))
theorem aVN (t : At X N sc) {i : Nat} {x : Str} (hN : N[i]? = some x) (hv : aDQ sc x = true) (hx : qS x = true) : PE X (.Name x pos) (eNN i) := by
 unfold qS at hx
 rw [Bool.and_eq_true, Bool.not_eq_true', Bool.not_eq_true'] at hx
 exact eIO (by rw [t.eN]; exact hN) (by rw [t.eS]; exact eHJ hv) hx.1 hx.2
theorem yA (t : At X N sc) (i : Nat) {x : Str} (hr : ρ[i]? = some (.val d)) (hN : N[i]? = some x := by rfl) (hv : aDQ sc x = true := by rfl) (hx : qS x = true := by rfl) : EvE X ρ (.Name x pos) d :=
 .of (aVN t hN hv hx) fun B F H σ Q k q => by
  obtain ⟨v, h1, h2⟩ := k.vals i d hr
  exact ⟨v, h1, q v F H (.refl k.sub) h2⟩
theorem aAL (t : At X N sc) (i : Nat) {x : Str} {xs : List D} (hr : ρ[i]? = some (.own xs)) (hN : N[i]? = some x := by rfl) (hv : aDQ sc x = true := by rfl) (hx : qS x = true := by rfl) : EvQ X ρ (.Name x pos) true xs :=
 .of (aVN t hN hv hx) fun B F H σ Q k q => by
  obtain ⟨p, vs, h1, h2, h3, h4, h5⟩ := k.owns i xs hr
  exact ⟨_, h1, q p vs F H (.refl k.sub) (show SqL _ _ _ _ from SqL.of h2) h5⟩
theorem yD {i : Int} {j : Nat} : EvE X ρ (.Constant (.int i) j pos) (.int i) := .of eCS fun B F H σ Q k q => q _ F H (.refl k.sub) (.int i)
theorem eNA {b : Bool} {j : Nat} : EvE X ρ (.Constant (.bool b) j pos) (.bl b) := .of eMH fun B F H σ Q k q => q _ F H (.refl k.sub) (.bl b)
theorem ev_str {x : Str} {j : Nat} : EvE X ρ (.Constant (.str x) j pos) (.str x) := .of eIQ fun B F H σ Q k q => q _ F H (.refl k.sub) (.str x)
theorem two {da db : D} (ha : EvE X ρ a da) (hb : EvE X ρ b db) {B : B0} {F H : Hp} {σ : St} {R : V -> V -> Hp -> Prop} (k : Ok X.K B F H σ ρ)
  (h : ∀ x y F' H', Ext ⟨F, H⟩ F' H' -> Rep X.K F' x da -> Rep X.K F' y db -> R x y H') : wE X a σ H fun x H1 => wE X b σ H1 fun y H2 => R x y H2 :=
 ha B F H σ _ k fun x F1 H1 x1 r1 => hb B F1 H1 σ _ (k.ext x1) fun y F2 H2 x2 r2 => h x y F2 H2 (x1.t x2) (r1.mono x2.sf) r2
theorem aMY {op : Operator} {i j m : Int} {C : Int -> Int -> Prop} {g : Int -> Int -> Int} (ho : OpR X (binaryOp op) (rI C fun i j => .int (g i j))) (ha : EvE X ρ a (.int i)) (hb : EvE X ρ b (.int j)) (hc : C i j) (hm : g i j = m) :
  EvE X ρ (.BinOp a op b pos) (.int m) :=
 .of (aQU ho yU yU) fun B F H σ Q k q => two ha hb k fun x y F' H' x' rx ry => by
  cases rx; cases ry; subst hm
  exact ⟨i, j, rfl, rfl, hc, q _ F' H' x' (.int _)⟩
theorem aMX {op : Operator} {i j m : Int} {g : Int -> Int -> Int} (ho : OpR X (binaryOp op) (rI0 fun i j => .int (g i j))) (ha : EvE X ρ a (.int i)) (hb : EvE X ρ b (.int j)) (hm : g i j = m) :
  EvE X ρ (.BinOp a op b pos) (.int m) :=
 .of (aQU ho yU yU) fun B F H σ Q k q => two ha hb k fun x y F' H' x' rx ry => by
  cases rx; cases ry; subst hm
  exact ⟨i, j, rfl, rfl, q _ F' H' x' (.int _)⟩
theorem zQ {i j : Int} (ha : EvE X ρ a (.int i)) (hb : EvE X ρ b (.int j)) : EvE X ρ (.BinOp a .Add b pos) (.int (i + j)) := aMX eJC ha hb rfl
theorem jM {i j : Int} (ha : EvE X ρ a (.int i)) (hb : EvE X ρ b (.int j)) : EvE X ρ (.BinOp a .Sub b pos) (.int (i - j)) := aMX eIU ha hb rfl
theorem eFL : OpR X (binaryOp .Mult) (rI IntMulOk fun i j => .int (i * j)) := opI fun _ _ _ _ _ _ _ hc q => mul_int q hc
theorem At.pylong (t : At X N sc) {pins : List (Addr × Obj)} {σ : St} {H : Hp} {s : Shared} (I : Inv X pins σ H s) : PylongRoom (model X.prog X.w) X.A s := by
 obtain ⟨env, l, h1, h2, h3, h4, h5⟩ := t.fr
 exact PylongRoom.of I.nolimit t.dp (SeerAt.of (I.ok.mod.seer.keeps I.bk) t.tree (by rw [I.ok.frames, h1]) h2 h3 h4 h5)
theorem eFM (t : At X N sc) : OpR X (binaryOp .FloorDiv) (rI (fun _ j => j ≠ 0) fun i j => .int (i.fdiv j)) := by
 intro pins s σ H x y v u Q I rx ry h
 obtain ⟨i, j, rfl, rfl, hc, q⟩ := h
 obtain ⟨t1, rfl⟩ := rx
 obtain ⟨t2, rfl⟩ := ry
 exact floordiv_int hc ⟨.int (i.fdiv j), H, I.tok _, ⟨_, rfl⟩, q⟩ (.inr (t.pylong I))
theorem wQ {i j : Int} (ha : EvE X ρ a (.int i)) (hb : EvE X ρ b (.int j)) (hc : IntMulOk i j) : EvE X ρ (.BinOp a .Mult b pos) (.int (i * j)) := aMY eFL ha hb hc rfl
theorem aMV (t : At X N sc) {i j : Int} (ha : EvE X ρ a (.int i)) (hb : EvE X ρ b (.int j)) (h0 : 0 < j) : EvE X ρ (.BinOp a .FloorDiv b pos) (.int (i / j)) :=
 aMY (eFM t) ha hb (by omega) (Int.fdiv_eq_ediv_of_nonneg i (by omega))
theorem yV {i j : Int} (ha : EvE X ρ a (.int i)) (hb : EvE X ρ b (.int j)) (h0 : 0 < j) : EvE X ρ (.BinOp a .Mod b pos) (.int (i % j)) := aMY eIX ha hb h0 rfl
theorem aOZ {i j : Int} (ha : EvE X ρ a (.int i)) (hb : EvE X ρ b (.int j)) (h0 : eOG i j) : EvE X ρ (.BinOp a .Pow b pos) (.int (i ^ j.toNat)) := aMY eIW ha hb h0 rfl
theorem aCR {i : Int} (ha : EvE X ρ a (.int i)) : EvE X ρ (.UnaryOp .USub a pos) (.int (-i)) :=
 .of (eMG eHL yU) fun B F H σ Q k q => ha B F H σ _ k fun x F' H' x' rx => by
  cases rx
  exact ⟨i, rfl, q _ F' H' x' (.int _)⟩
theorem eGI {op : CmpOp} {i j : Int} {g : Int -> Int -> Bool} (ho : OpR X (compareOp op) (rI0 fun i j => .bl (g i j))) (ha : EvE X ρ a (.int i)) (hb : EvE X ρ b (.int j)) (hm : behindInMarks op b = false) : EvE X ρ (.Compare a [op] [b] pos) (.bl (g i j)) :=
 .of (aMA ho yU yU hm) fun B F H σ Q k q => two ha hb k fun x y F' H' x' rx ry => by
  cases rx; cases ry
  exact ⟨i, j, rfl, rfl, q _ F' H' x' (.bl _)⟩
theorem eKQ {i j : Int} (ha : EvE X ρ a (.int i)) (hb : EvE X ρ b (.int j)) : EvE X ρ (.Compare a [.Gt] [b] pos) (.bl (decide (j < i))) := eGI eIZ ha hb (jG _ (by decide) (by decide))
end
mutual
def toP : D -> PyData
 | .non => .none
 | .bl b => .bool b
 | .int i => .int i
 | .str x => .str x
 | .tup xs => .tuple (toPs xs)
 | .lst xs => .list (toPs xs)
 | .scr ns => .list (ns.map PyData.int)
 | .exc _ => .dict []
 | .exh _ _ => .dict []
 | .dic _ => .dict []
 | .adr _ => .dict []
 | .stt _ => .dict []
def toPs : List D -> List PyData
 | [] => []
 | d :: ds => toP d :: toPs ds
end
theorem aSL (xs : List D) : toPs xs = xs.map toP := by
 induction xs with
 | nil => rfl
 | cons d ds ih => rw [toPs, ih, List.map_cons]
theorem aBF (ns : List Int) : toPs (ns.map D.int) = ns.map PyData.int := by
 rw [aSL, List.map_map]; rfl
section
variable {X : Cx} {pins : List (Addr × Obj)} {σ : St} {F H : Hp} {s : Shared}
theorem aOJ : ∀ {ns : List Int} {us : List Value}, Vals (ns.map V.int) us -> ∃ as, ReadsAll s.heap us (ns.map PyData.int) as
 | [], _, r => by cases r; exact ⟨_, .nil⟩
 | n :: ns, _, r => by
  rw [List.map_cons] at r
  cases r with
  | cons r1 r2 =>
   obtain ⟨as, h⟩ := aOJ r2
   obtain ⟨t, rfl⟩ := r1
   exact ⟨_, .cons (Reads.int n t) h⟩
mutual
theorem Rep.reads (I : Inv X pins σ H s) (sub : Same F H) : ∀ {v : V} {d : D} {u : Value}, Rep X.K F v d -> RelV v u -> (toP d).canLay0 = true -> ∃ as, Reads s.heap u (toP d) as
 | _, _, u, .non, r, hs => by cases (show u = Value.none from r); exact ⟨_, Reads.none⟩
 | _, _, u, .bl b, r, hs => by cases (show u = Value.bool b from r); exact ⟨_, Reads.bool b⟩
 | _, _, u, .int i, r, hs => by obtain ⟨t, e⟩ := (show ∃ t, u = Value.int i t from r); cases e; exact ⟨_, Reads.int i t⟩
 | _, _, u, .str x, r, hs => by obtain ⟨t, e⟩ := (show ∃ t, u = Value.str x t from r); cases e; exact ⟨_, Reads.str x t⟩
 | _, _, u, .tup (a := a) h rl, r, hs => by
  cases (show u = Value.ref a from r)
  obtain ⟨its, rv, p, _⟩ := I.tuple (SqT.of (sub _ _ h))
  obtain ⟨o, e, c, n, dt⟩ := p
  obtain ⟨as, ra⟩ := RepL.reads I sub rl rv (by simpa [toP, PyData.canLay0] using hs)
  exact ⟨_, Reads.tuple e c dt (by simpa using ra)⟩
 | _, _, u, .lst (a := a) h rl, r, hs => by
  cases (show u = Value.ref a from r)
  obtain ⟨its, rv, p, _⟩ := I.list (SqL.of (sub _ _ h))
  obtain ⟨o, e, c, n, dt⟩ := p.isList
  obtain ⟨as, ra⟩ := RepL.reads I sub rl rv (by simpa [toP, PyData.canLay0] using hs)
  exact ⟨_, Reads.list e c dt (by simpa using ra)⟩
 | _, _, u, .exc h, r, hs => by simp [toP, PyData.canLay0] at hs
 | _, _, u, .exh h, r, hs => by simp [toP, PyData.canLay0] at hs
 | _, _, u, .dic h _, r, hs => by simp [toP, PyData.canLay0] at hs
 | _, _, u, .adr _, r, hs => by simp [toP, PyData.canLay0] at hs
 | _, _, u, .stt _, r, hs => by simp [toP, PyData.canLay0] at hs
 | _, _, u, .scr (a := a) h, r, hs => by
  cases (show u = Value.ref a from r)
  obtain ⟨its, rv, p, _⟩ := I.list (sub.seq h)
  obtain ⟨o, e, c, n, dt⟩ := p.isList
  obtain ⟨as, ra⟩ := aOJ (s := s) rv
  exact ⟨_, Reads.list e c dt (by simpa using ra)⟩
theorem RepL.reads (I : Inv X pins σ H s) (sub : Same F H) : ∀ {vs : List V} {ds : List D} {us : List Value}, RepL X.K F vs ds -> Vals vs us -> PyData.canLayAll0 (toPs ds) = true -> ∃ as, ReadsAll s.heap us (toPs ds) as
 | _, _, _, .nil, r, hs => by cases r; exact ⟨_, .nil⟩
 | _, _, _, .cons r1 r2, r, hs => by
  cases r with
  | cons q1 q2 =>
   rw [toPs, PyData.canLayAll0, Bool.and_eq_true] at hs
   have hs2 := hs
   obtain ⟨as, h1⟩ := Rep.reads I sub r1 q1 hs2.1
   obtain ⟨bs, h2⟩ := RepL.reads I sub r2 q2 hs2.2
   exact ⟨_, .cons h1 h2⟩
end
theorem SqB.reads {k : Bool} {a : Addr} {vs : List V} {xs : List D} (I : Inv X pins σ H s) (sub : Same F H) (h : SqB X.K k H a vs) (r : RepL X.K F vs xs) (hs : (if k = true then PyData.list (toPs xs) else .tuple (toPs xs)).canLay0 = true) : ∃ as, Reads s.heap (.ref a) (if k = true then PyData.list (toPs xs) else .tuple (toPs xs)) as := by
 cases k with
 | true =>
  obtain ⟨its, rv, p, _⟩ := I.list (show SqL _ _ _ _ from h)
  obtain ⟨o, e, c, n, dt⟩ := p.isList
  obtain ⟨as, ra⟩ := RepL.reads I sub r rv (by simpa [PyData.canLay0] using hs)
  exact ⟨_, Reads.list e c dt (by simpa using ra)⟩
 | false =>
  obtain ⟨its, rv, p, _⟩ := I.tuple (show SqT _ _ _ _ from h)
  obtain ⟨o, e, c, n, dt⟩ := p
  obtain ⟨as, ra⟩ := RepL.reads I sub r rv (by simpa [PyData.canLay0] using hs)
  exact ⟨_, Reads.tuple e c dt (by simpa using ra)⟩
end
def RdP (X : Cx) (H : Hp) (v : V) (p : PyData) : Prop := p.canLay0 = true -> ∀ (H' : Hp), Same H H' -> ∀ (pins : List (Addr × Obj)) (σ : St) (s : Shared) (u : Value), Inv X pins σ H' s -> RelV v u -> ∃ as, Reads s.heap u p as
def EvP (X : Cx) (ρ : Rho) (e : Expr) (p : PyData) : Prop := ∀ (B : B0) (F H : Hp) (σ : St) (Q : VK), Ok X.K B F H σ ρ -> (∀ v F' H', Ext ⟨F, H⟩ F' H' -> RdP X H' v p -> Q v H') -> wE X e σ H Q
section
variable {X : Cx} {ρ : Rho} {e a b c : Expr} {d : D} {pos : Pos} {N : List Str} {sc : Scope}
theorem EvE.p (h : EvE X ρ e d) : EvP X ρ e (toP d) := fun B F H σ Q k q => h B F H σ Q k fun v F' H' x r => q v F' H' x fun hs H2 s2 pins σ s u I ru => r.reads I (x.sub.trans s2) ru hs
theorem EvQ.p {k : Bool} {xs : List D} (h : EvQ X ρ e k xs) : EvP X ρ e (if k = true then PyData.list (toPs xs) else .tuple (toPs xs)) := fun B F H σ Q k' q => h B F H σ Q k' fun a vs F' H' x hs r => q _ F' H' x fun hc H2 s2 pins σ s u I ru => by
 cases (show u = Value.ref a from ru)
 exact SqB.reads I (x.sub.trans s2) (hs.mono s2) r hc
theorem eEW (t : At X N sc) {p q : PyData} (sp : SeqAt.shaped p = true) (sq : SeqAt.shaped q = true) : OpR X (compareOp .Eq) (fun x y H Q => RdP X H x p /\ RdP X H y q /\ Q (.bl (p.eqv q)) H) := by
 intro pins s σ H x y v u Q I rx ry h
 obtain ⟨h1, h2, h3⟩ := h
 obtain ⟨as, r1⟩ := h1 (SeqAt.canLay_of_shaped sp) H (.refl _) pins σ s v I rx
 obtain ⟨bs, r2⟩ := h2 (SeqAt.canLay_of_shaped sq) H (.refl _) pins σ s u I ry
 exact eq_dataH r1 r2 sp sq t.un ⟨.bl _, H, I, rfl, h3⟩
theorem eIB (t : At X N sc) {p q : PyData} (sp : SeqAt.shaped p = true) (sq : SeqAt.shaped q = true) : OpR X (compareOp .NotEq) (fun x y H Q => RdP X H x p /\ RdP X H y q /\ Q (.bl (!p.eqv q)) H) := by
 intro pins s σ H x y v u Q I rx ry h
 obtain ⟨h1, h2, h3⟩ := h
 obtain ⟨as, r1⟩ := h1 (SeqAt.canLay_of_shaped sp) H (.refl _) pins σ s v I rx
 obtain ⟨bs, r2⟩ := h2 (SeqAt.canLay_of_shaped sq) H (.refl _) pins σ s u I ry
 exact ne_dataH r1 r2 sp sq t.un ⟨.bl _, H, I, rfl, h3⟩
theorem RdP.mono {H H' : Hp} {v : V} {p : PyData} (h : RdP X H v p) (s : Same H H') : RdP X H' v p := fun hc H2 s2 => h hc H2 (s.trans s2)
theorem eEF {p q : PyData} (ha : EvP X ρ a p) (hb : EvP X ρ b q) {B : B0} {F H : Hp} {σ : St} {R : V -> V -> Hp -> Prop} (k : Ok X.K B F H σ ρ)
  (h : ∀ x y F' H', Ext ⟨F, H⟩ F' H' -> RdP X H' x p -> RdP X H' y q -> R x y H') : wE X a σ H fun x H1 => wE X b σ H1 fun y H2 => R x y H2 :=
 ha B F H σ _ k fun x F1 H1 x1 r1 => hb B F1 H1 σ _ (k.ext x1) fun y F2 H2 x2 r2 => h x y F2 H2 (x1.t x2) (r1.mono x2.sh) r2
theorem eDK (t : At X N sc) {p q : PyData} (ha : EvP X ρ a p) (hb : EvP X ρ b q) (sp : SeqAt.shaped p = true) (sq : SeqAt.shaped q = true) {r : Bool} (hr : p.eqv q = r) : EvE X ρ (.Compare a [.Eq] [b] pos) (.bl r) :=
 .of (aMA (eEW t sp sq) yU yU (jG _ (by decide) (by decide))) fun B F H σ Q k q => eEF ha hb k fun x y F' H' x' rx ry => ⟨rx, ry, by rw [hr]; exact q _ F' H' x' (.bl r)⟩
theorem aYM (t : At X N sc) {p q : PyData} (ha : EvP X ρ a p) (hb : EvP X ρ b q) (sp : SeqAt.shaped p = true) (sq : SeqAt.shaped q = true) {r : Bool} (hr : (!p.eqv q) = r) : EvE X ρ (.Compare a [.NotEq] [b] pos) (.bl r) :=
 .of (aMA (eIB t sp sq) yU yU (jG _ (by decide) (by decide))) fun B F H σ Q k q => eEF ha hb k fun x y F' H' x' rx ry => ⟨rx, ry, by rw [hr]; exact q _ F' H' x' (.bl r)⟩
theorem RepL.at {K : PySem.W.Frag} {F : Hp} {vs : List V} {xs : List D} {i : Int} {d : D} (r : RepL K F vs xs) (h : atI xs i = some d) : ∃ v, atI vs i = some v /\ Rep K F v d := by
 unfold atI at h ⊢
 rw [r.length]
 cases e : ixN xs.length i with
 | none => rw [e] at h; cases h
 | some j =>
  rw [e] at h
  obtain ⟨v, h1, h2⟩ := r.get h
  exact ⟨v, h1, h2⟩
theorem qe {k : Bool} {xs : List D} {db : D} (ha : EvQ X ρ a k xs) (hb : EvE X ρ b db) {B : B0} {F H : Hp} {σ : St} {R : V -> V -> Hp -> Prop} (k' : Ok X.K B F H σ ρ)
  (h : ∀ l vs y F' H', Ext ⟨F, H⟩ F' H' -> SqB X.K k H' l vs -> RepL X.K F' vs xs -> Rep X.K F' y db -> R (.ref l) y H') : wE X a σ H fun x H1 => wE X b σ H1 fun y H2 => R x y H2 :=
 ha B F H σ _ k' fun l vs F1 H1 x1 s1 r1 => hb B F1 H1 σ _ (k'.ext x1) fun y F2 H2 x2 r2 => h l vs y F2 H2 (x1.t x2) (s1.mono x2.sh) (r1.mono x2.sf) r2
theorem zE {k : Bool} {xs : List D} {i : Int} (ha : EvQ X ρ a k xs) (hb : EvE X ρ b (.int i)) (h : atI xs i = some d) (hs : aIZ b := by intro _ _; rfl) : EvE X ρ (.Subscript a b pos) d := by
 cases k with
 | true =>
  exact .of (eAZ aXX yU yU hs) fun B F H σ Q k' q => qe ha hb k' fun l vs y F' H' x' sl rl ry => by
   cases ry
   obtain ⟨v, h1, h2⟩ := rl.at h
   exact ⟨l, vs, i, v, rfl, rfl, sl, h1, q v F' H' x' h2⟩
 | false =>
  exact .of (eAZ eJV yU yU hs) fun B F H σ Q k' q => qe ha hb k' fun l vs y F' H' x' sl rl ry => by
   cases ry
   obtain ⟨v, h1, h2⟩ := rl.at h
   exact ⟨l, vs, i, v, rfl, rfl, sl, h1, q v F' H' x' h2⟩
theorem vE : EvO X ρ none none := fun B F H σ Q k q => .mk fun pins s I => eFG pins s σ H Q I (q F H (.refl k.sub))
theorem vR {i : Int} (h : EvE X ρ e (.int i)) : EvO X ρ (some e) (some i) := fun B F H σ Q k q => .mk fun pins s I => aQT yU pins s σ H Q I (h B F H σ _ k fun v F' H' x r => by
 cases r
 exact ⟨i, rfl, q F' H' x⟩)
def eGU (xs : List D) (lo hi : Option Int) : List D := (xs.drop (HT.sIx xs.length 0 lo)).take (HT.sIx xs.length xs.length hi - HT.sIx xs.length 0 lo)
theorem RepL.cut {K : PySem.W.Frag} {F : Hp} {vs : List V} {xs : List D} (r : RepL K F vs xs) (lo hi : Option Int) : RepL K F (eHF vs lo hi) (eGU xs lo hi) := by
 unfold eHF eGU
 rw [r.length]
 exact (r.drop _).take _
theorem aAN {xs : List D} {lo hi : Option Expr} {l h : Option Int} {p2 : Pos} (ha : EvQ X ρ a true xs) (hl : EvO X ρ lo l) (hh : EvO X ρ hi h) : EvN X ρ (.Subscript a (.Slice lo hi none p2) pos) (eGU xs l h) :=
 .of (aTD eEL yU eNT eNT) fun B F H σ Q k q => ha B F H σ _ k fun p vs F1 H1 x1 s1 r1 => hl B F1 H1 σ _ (k.ext x1) fun F2 H2 x2 => hh B F2 H2 σ _ (k.ext (x1.t x2)) fun F3 H3 x3 => by
  have x := x1.t (x2.t x3)
  refine ⟨p, vs, rfl, (s1.mono x2.sh).mono x3.sh, fun l' hl' => ?_⟩
  have r3 := (r1.mono x2.sf).mono x3.sf
  exact q l' _ F3 _ ⟨x.sub.trans (yM hl'), x.sh.trans (yM hl'), x.sf, x.nw⟩ (x.sh.free hl') yK (x.sub.free hl') (r3.cut l h)
theorem yE : EvA X ρ [] [] := ⟨trivial, fun B F H σ Q k q => .mk fun pos pins s I => jW pos pins s σ H Q I (q [] F H (.refl k.sub) .nil)⟩
theorem yC {es : List Expr} {ds : List D} (h1 : EvE X ρ e d) (h2 : EvA X ρ es ds) (hs : Pl e := by intro _ _; rfl) : EvA X ρ (e :: es) (d :: ds) :=
 ⟨⟨hs, h2.1⟩, fun B F H σ Q k q => .mk fun pos pins s I => zC yU aVO (hs _ _) pos pins s σ H Q I (h1 B F H σ _ k fun v F1 H1 x1 r1 => h2.2 B F1 H1 σ _ (k.ext x1) fun vs F2 H2 x2 r2 => q _ F2 H2 (x1.t x2) (.cons (r1.mono x2.sf) r2))⟩
theorem yP {es : List Expr} {ds : List D} {x1 : Nat} (h : EvA X ρ es ds) (hl : ds.length <= sizeLine := by exact Nat.le_of_ble_eq_true rfl) : EvE X ρ (.Tuple es x1 pos) (.tup ds) :=
 .of (eIP aVO) fun B F H σ Q k q => h.2 B F H σ _ k fun vs F' H' x r => ⟨by rw [r.length]; exact hl, fun p hp => q _ _ _ (x.grow hp) (.tup yK (r.mono (yM (x.sub.free hp))))⟩
theorem zX {es : List Expr} {ds : List D} (h : EvA X ρ es ds) (hl : ds.length <= sizeLine := by exact Nat.le_of_ble_eq_true rfl) : EvN X ρ (.List es pos) ds :=
 .of (eCR aVO) fun B F H σ Q k q => h.2 B F H σ _ k fun vs F' H' x r => ⟨by rw [r.length]; exact hl, fun p hp => q p vs F' _ ⟨x.sub.trans (yM hp), x.sh.trans (yM hp), x.sf, x.nw⟩ (x.sh.free hp) yK (x.sub.free hp) r⟩
theorem aTQ {xs ys : List D} (ha : EvE X ρ a (.lst xs)) (hb : EvE X ρ b (.lst ys)) (hz : xs.length + ys.length <= sizeLine) : EvN X ρ (.BinOp a .Add b pos) (xs ++ ys) :=
 .of (aQU eJA yU yU) fun B F H σ Q k q => two ha hb k fun x y F' H' x' rx ry => by
  cases rx with
  | lst h1 r1 =>
   cases ry with
   | lst h2 r2 =>
    refine ⟨_, _, _, _, rfl, rfl, x'.sub _ _ h1, x'.sub _ _ h2, by rw [r1.length, r2.length]; exact hz, fun p hp => ?_⟩
    exact q p _ F' _ ⟨x'.sub.trans (yM hp), x'.sh.trans (yM hp), x'.sf, x'.nw⟩ (x'.sh.free hp) yK (x'.sub.free hp) (r1.append r2)
theorem eDO {xs : List D} {n : Int} (ha : EvE X ρ a (.lst xs)) (hb : EvE X ρ b (.int n)) (h1 : -(2 ^ 63) <= n) (h2 : n < 2 ^ 63) (hz : xs.length * n.toNat <= sizeLine) : EvN X ρ (.BinOp a .Mult b pos) (List.replicate n.toNat xs).flatten :=
 .of (aQU eIV yU yU) fun B F H σ Q k q => two ha hb k fun x y F' H' x' rx ry => by
  cases rx with
  | lst g1 r1 =>
   cases ry
   refine ⟨_, n, _, rfl, rfl, x'.sub _ _ g1, h1, h2, by rw [r1.length]; exact hz, fun p hp => ?_⟩
   exact q p _ F' _ ⟨x'.sub.trans (yM hp), x'.sh.trans (yM hp), x'.sf, x'.nw⟩ (x'.sh.free hp) yK (x'.sub.free hp) (r1.rep _)
theorem aIJ {r : Bool} (ha : EvT X ρ a r) : EvW X ρ (.BoolOp .And [a] pos) r := .of (eEZ aLV) fun B F H σ Q k q => ha B F H σ Q k q
theorem aFS {r : Bool} (ha : EvT X ρ a r) : EvW X ρ (.BoolOp .Or [a] pos) r := .of (eIC aLV) fun B F H σ Q k q => ha B F H σ Q k q
theorem aIH {qZ : List Expr} {r : Bool} (ha : EvT X ρ a true) (hb : EvW X ρ (.BoolOp .And (b :: qZ) pos) r) : EvW X ρ (.BoolOp .And (a :: b :: qZ) pos) r :=
 .of (eCK aLV eLI) fun B F H σ Q k q => ha B F H σ _ k fun F1 H1 x1 => by rw [if_pos rfl]; exact hb B F1 H1 σ _ (k.ext x1) fun F2 H2 x2 => q F2 H2 (x1.t x2)
theorem aII {qZ : List Expr} (ha : EvT X ρ a false) : EvW X ρ (.BoolOp .And (a :: b :: qZ) pos) false :=
 .of (eCK aLV eLI) fun B F H σ Q k q => ha B F H σ _ k fun F1 H1 x1 => by rw [if_neg Bool.false_ne_true]; exact q F1 H1 x1
theorem aDP {qZ : List Expr} {r : Bool} (ha : EvT X ρ a false) (hb : EvW X ρ (.BoolOp .Or (b :: qZ) pos) r) : EvW X ρ (.BoolOp .Or (a :: b :: qZ) pos) r :=
 .of (eID aLV eLI) fun B F H σ Q k q => ha B F H σ _ k fun F1 H1 x1 => by rw [if_neg Bool.false_ne_true]; exact hb B F1 H1 σ _ (k.ext x1) fun F2 H2 x2 => q F2 H2 (x1.t x2)
theorem aKV {qZ : List Expr} (ha : EvT X ρ a true) : EvW X ρ (.BoolOp .Or (a :: b :: qZ) pos) true :=
 .of (eID aLV eLI) fun B F H σ Q k q => ha B F H σ _ k fun F1 H1 x1 => by rw [if_pos rfl]; exact q F1 H1 x1
theorem EvW.toT {r : Bool} (h : EvW X ρ e r) : EvT X ρ e r := fun B F H σ Q k q => .mk fun pins s I => h B F H σ Q k q _ pins s I
theorem aYU {r : Bool} (ha : EvT X ρ a r) : EvT X ρ (.UnaryOp .Not a pos) (!r) := .of (eIF aLV) fun B F H σ Q k q => ha B F H σ _ k q
theorem eKP {op : BoolOp} (h : EvE X ρ a d) : EvE X ρ (.BoolOp op [a] pos) d := .of (eIR yU) fun B F H σ Q k q => h B F H σ Q k q
theorem eGJ {qZ : List Expr} (ha : EvE X ρ a (.bl true)) (hb : EvE X ρ (.BoolOp .And (b :: qZ) pos) d) : EvE X ρ (.BoolOp .And (a :: b :: qZ) pos) d :=
 .of (eCT yU yU) fun B F H σ Q k q => ha B F H σ _ k fun v F1 H1 x1 r => by
  cases r
  exact ⟨true, rfl, by rw [if_pos rfl]; exact hb B F1 H1 σ _ (k.ext x1) fun v F2 H2 x2 r2 => q v F2 H2 (x1.t x2) r2⟩
theorem eGK {qZ : List Expr} (ha : EvE X ρ a (.bl false)) : EvE X ρ (.BoolOp .And (a :: b :: qZ) pos) (.bl false) :=
 .of (eCT yU yU) fun B F H σ Q k q => ha B F H σ _ k fun v F1 H1 x1 r => by
  cases r
  exact ⟨false, rfl, by rw [if_neg Bool.false_ne_true]; exact q _ F1 H1 x1 (.bl false)⟩
theorem aIL (hc : EvT X ρ c true) (ha : EvE X ρ a d) : EvE X ρ (.IfExp c a b pos) d :=
 .of (aGN aLV yU yU) fun B F H σ Q k q => hc B F H σ _ k fun F1 H1 x1 => by rw [if_pos rfl]; exact ha B F1 H1 σ _ (k.ext x1) fun v F2 H2 x2 r2 => q v F2 H2 (x1.t x2) r2
theorem aFT (hc : EvT X ρ c false) (hb : EvE X ρ b d) : EvE X ρ (.IfExp c a b pos) d :=
 .of (aGN aLV yU yU) fun B F H σ Q k q => hc B F H σ _ k fun F1 H1 x1 => by rw [if_neg Bool.false_ne_true]; exact hb B F1 H1 σ _ (k.ext x1) fun v F2 H2 x2 r2 => q v F2 H2 (x1.t x2) r2
theorem eDN {i : Int} (ha : EvE X ρ e (.int i)) (he : ∀ whole, isTrue e X.env whole = (do let v <- whole; standAt e.pos; holding [v] (truthy v)) := by intro _; rfl) : EvT X ρ e (i != 0) :=
 .of (eAX yU he) fun B F H σ Q k q => ha B F H σ _ k fun v F1 H1 x1 r => by
  cases r
  exact ⟨_, rfl, q F1 H1 x1⟩
theorem aMZ {r : Bool} (ha : EvE X ρ e (.bl r)) (he : ∀ whole, isTrue e X.env whole = (do let v <- whole; standAt e.pos; holding [v] (truthy v)) := by intro _; rfl) : EvT X ρ e r :=
 .of (eIE yU he) fun B F H σ Q k q => ha B F H σ _ k fun v F1 H1 x1 rv => by
  cases rv
  exact ⟨r, rfl, q F1 H1 x1⟩
end
section
variable {X : Cx} {ρ : Rho} {e a b c : Expr} {d : D} {pos : Pos} {N : List Str} {sc : Scope}
theorem aPA {op : CmpOp} {r : R2} {da db : D} {k : Bool} (ho : OpR X (compareOp op) r) (ha : EvE X ρ a da) (hb : EvE X ρ b db) (hm : behindInMarks op b = false)
  (hr : ∀ (F H : Hp) x y (Q : VK), Rep X.K F x da -> Rep X.K F y db -> Q (.bl k) H -> r x y H Q) : EvT X ρ (.Compare a [op] [b] pos) k :=
 .of (aBW ho yU yU hm) fun B F H σ Q k' q => two ha hb k' fun x y F' H' x' rx ry => hr F' H' x y _ rx ry ⟨k, rfl, q F' H' x'⟩
theorem aAA {i j : Int} (ha : EvE X ρ a (.int i)) (hb : EvE X ρ b (.int j)) : EvT X ρ (.Compare a [.Lt] [b] pos) (decide (i < j)) := aPA eIY ha hb (jG _ (by decide) (by decide)) fun F H x y Q rx ry q => by cases rx; cases ry; exact ⟨i, j, rfl, rfl, q⟩
theorem aDL {i j : Int} (ha : EvE X ρ a (.int i)) (hb : EvE X ρ b (.int j)) : EvT X ρ (.Compare a [.Gt] [b] pos) (decide (j < i)) := aPA eIZ ha hb (jG _ (by decide) (by decide)) fun F H x y Q rx ry q => by cases rx; cases ry; exact ⟨i, j, rfl, rfl, q⟩
theorem eKU {i j : Int} (ha : EvE X ρ a (.int i)) (hb : EvE X ρ b (.int j)) : EvT X ρ (.Compare a [.GtE] [b] pos) (decide (j <= i)) := aPA eMJ ha hb (jG _ (by decide) (by decide)) fun F H x y Q rx ry q => by cases rx; cases ry; exact ⟨i, j, rfl, rfl, q⟩
theorem aTT {i j : Int} : decide (V.int i = V.int j) = decide (i = j) := by rw [aRO, Bool.beq_eq_decide_eq]
theorem jX {i j : Int} (ha : EvE X ρ a (.int i)) (hb : EvE X ρ b (.int j)) : EvT X ρ (.Compare a [.Eq] [b] pos) (decide (i = j)) := aPA eMK ha hb (jG _ (by decide) (by decide)) fun F H x y Q rx ry q => by
 cases rx; cases ry; exact ⟨rfl, by rw [aTT]; exact q⟩
theorem aFV {i j : Int} (ha : EvE X ρ a (.int i)) (hb : EvE X ρ b (.int j)) : EvT X ρ (.Compare a [.NotEq] [b] pos) (!decide (i = j)) := aPA eMI ha hb (jG _ (by decide) (by decide)) fun F H x y Q rx ry q => by
 cases rx; cases ry; exact ⟨rfl, by rw [aTT]; exact q⟩
theorem wC (t : At X N sc) {p q : PyData} (ha : EvP X ρ a p) (hb : EvP X ρ b q) (sp : SeqAt.shaped p = true) (sq : SeqAt.shaped q = true) {r : Bool} (hr : p.eqv q = r) : EvT X ρ (.Compare a [.Eq] [b] pos) r :=
 .of (aBW (eEW t sp sq) yU yU (jG _ (by decide) (by decide))) fun B F H σ Q k q => eEF ha hb k fun x y F' H' x' rx ry => ⟨rx, ry, r, by rw [hr], q F' H' x'⟩
theorem aFU (t : At X N sc) {p q : PyData} (ha : EvP X ρ a p) (hb : EvP X ρ b q) (sp : SeqAt.shaped p = true) (sq : SeqAt.shaped q = true) {r : Bool} (hr : (!p.eqv q) = r) : EvT X ρ (.Compare a [.NotEq] [b] pos) r :=
 .of (aBW (eIB t sp sq) yU yU (jG _ (by decide) (by decide))) fun B F H σ Q k q => eEF ha hb k fun x y F' H' x' rx ry => ⟨rx, ry, r, by rw [hr], q F' H' x'⟩
structure Blt (X : Cx) (sc : Scope) (x : Str) (u : Value) : Prop where
 g : sc.names.lookup x = some .globalImplicit
 m : X.mg x = none
 v : bootBuiltins x = some u
 n : x ≠ "__name__"
 d : (x == ("__debug__" : Str)) = false
theorem wK (t : At X N sc) {x : Str} (h : sc.names.lookup x = some .globalImplicit) : Gl X x := by
 show X.env.scope.names.lookup x = _
 rw [t.eS]; exact h
variable {x : Str} {p : Pos} {es : List Expr} {ds : List D}
theorem aMW (t : At X N sc) {id : String} {r : List V -> Hp -> VK -> Prop} (bl : Blt X sc x (.builtin id)) (hc : aCY X (.builtin id) r) (ha : EvA X ρ (e :: es) ds)
  (hr : ∀ (F H : Hp) vs (Q : VK), Same F H -> RepL X.K F vs ds -> (∀ v F' H', Ext ⟨F, H⟩ F' H' -> Rep X.K F' v d -> Q v H') -> r vs H Q) : EvE X ρ (.Call (.Name x p) (e :: es) [] pos) d :=
 .of (aDB hc (wK t bl.g) bl.m bl.v aVO bl.n bl.d (ha.1.1 _ _) (PlA.any ha.1.2)) fun B F H σ Q k q => ha.2 B F H σ _ k fun vs F' H' x' rv => hr F' H' vs Q x'.sub rv fun v F2 H2 x2 r2 => q v F2 H2 (x'.t x2) r2
theorem aIM (t : At X N sc) {T : String} {r : List V -> Hp -> VK -> Prop} (bl : Blt X sc x (.type T)) (hc : aCY X (.type T) r) (ha : EvA X ρ (e :: es) ds)
  (hr : ∀ (F H : Hp) vs (Q : VK), Same F H -> RepL X.K F vs ds -> (∀ v F' H', Ext ⟨F, H⟩ F' H' -> Rep X.K F' v d -> Q v H') -> r vs H Q) : EvE X ρ (.Call (.Name x p) (e :: es) [] pos) d :=
 .of (aEL hc (wK t bl.g) bl.m bl.v aVO bl.n bl.d (ha.1.1 _ _) (PlA.any ha.1.2)) fun B F H σ Q k q => ha.2 B F H σ _ k fun vs F' H' x' rv => hr F' H' vs Q x'.sub rv fun v F2 H2 x2 r2 => q v F2 H2 (x'.t x2) r2
theorem RepL.one {K : PySem.W.Frag} {F : Hp} {vs : List V} {d : D} (h : RepL K F vs [d]) : ∃ v, vs = [v] /\ Rep K F v d := by
 cases h with
 | cons r t => cases t; exact ⟨_, rfl, r⟩
theorem RepL.two {K : PySem.W.Frag} {F : Hp} {vs : List V} {d e : D} (h : RepL K F vs [d, e]) : ∃ v u, vs = [v, u] /\ Rep K F v d /\ Rep K F u e := by
 cases h with
 | cons r t => obtain ⟨u, rfl, q⟩ := t.one; exact ⟨_, _, rfl, r, q⟩
theorem jH (t : At X N sc) {k : Bool} {xs : List D} (bl : Blt X sc x (.builtin "len")) (ha : EvQ X ρ e k xs) (hpe : Pl e := by intro _ _; rfl) : EvE X ρ (.Call (.Name x p) [e] [] pos) (.int xs.length) :=
 .of (aDB aFW (wK t bl.g) bl.m bl.v (zC yU jW (hpe _ _)) bl.n bl.d (hpe _ _) rfl) fun B F H σ Q k' q => ha B F H σ _ k' fun l vs F' H' x' sl rl => by
  refine ⟨l, vs, rfl, ?_, ?_⟩
  ·cases k with
   | true => exact .inl sl
   | false => exact .inr sl
  ·rw [rl.length]; exact q _ F' H' x' (.int _)
theorem aTO (t : At X N sc) {i : Int} (bl : Blt X sc x (.builtin "abs")) (ha : EvE X ρ e (.int i)) (hpe : Pl e := by intro _ _; rfl) : EvE X ρ (.Call (.Name x p) [e] [] pos) (.int i.natAbs) :=
 aMW t bl eBR (yC ha yE hpe) fun F H vs Q sub r q => by
  obtain ⟨v, rfl, rv⟩ := r.one
  cases rv
  have e : (if i < 0 then -i else i) = (i.natAbs : Int) := by split <;> omega
  exact ⟨i, rfl, by rw [e]; exact q _ F H (.refl sub) (.int _)⟩
theorem aYN (t : At X N sc) {i j : Int} (bl : Blt X sc x (.builtin "max")) (ha : EvE X ρ a (.int i)) (hb : EvE X ρ b (.int j)) (hpa : Pl a := by intro _ _; rfl) (hpb : Pl b := by intro _ _; rfl) : EvE X ρ (.Call (.Name x p) [a, b] [] pos) (.int (max i j)) :=
 aMW t bl (aZK t.calm) (yC ha (yC hb yE hpb) hpa) fun F H vs Q sub r q => by
  obtain ⟨v, u, rfl, rv, ru⟩ := r.two
  cases rv; cases ru
  have e : (if j > i then j else i) = max i j := by split <;> omega
  exact ⟨i, j, rfl, by rw [e]; exact q _ F H (.refl sub) (.int _)⟩
theorem aIK (t : At X N sc) {k : Bool} (bl : Blt X sc x (.type "int")) (ha : EvE X ρ e (.bl k)) (hpe : Pl e := by intro _ _; rfl) : EvE X ρ (.Call (.Name x p) [e] [] pos) (.int (if k then 1 else 0)) :=
 aIM t bl aZL (yC ha yE hpe) fun F H vs Q sub r q => by
  obtain ⟨v, rfl, rv⟩ := r.one
  cases rv
  exact .inr ⟨k, rfl, q _ F H (.refl sub) (.int _)⟩
theorem eGO (t : At X N sc) {k : Bool} {xs : List D} (bl : Blt X sc x (.type "list")) (ha : EvQ X ρ e k xs) (hpe : Pl e := by intro _ _; rfl) : EvN X ρ (.Call (.Name x p) [e] [] pos) xs :=
 .of (aEL aPI (wK t bl.g) bl.m bl.v (zC yU jW (hpe _ _)) bl.n bl.d (hpe _ _) rfl) fun B F H σ Q k' q => ha B F H σ _ k' fun l vs F' H' x' sl rl => by
  refine ⟨l, vs, rfl, ?_, fun p hp => ?_⟩
  ·cases k with
   | true => exact .inl sl
   | false => exact .inr sl
  ·exact q p vs F' _ ⟨x'.sub.trans (yM hp), x'.sh.trans (yM hp), x'.sf, x'.nw⟩ (x'.sh.free hp) yK (x'.sub.free hp) rl
theorem aDE (t : At X N sc) {xs : List D} (bl : Blt X sc x (.type "tuple")) (ha : EvQ X ρ e true xs) (hpe : Pl e := by intro _ _; rfl) : EvE X ρ (.Call (.Name x p) [e] [] pos) (.tup xs) :=
 .of (aEL aNG (wK t bl.g) bl.m bl.v (zC yU jW (hpe _ _)) bl.n bl.d (hpe _ _) rfl) fun B F H σ Q k' q => ha B F H σ _ k' fun l vs F' H' x' sl rl => by
  refine ⟨l, vs, rfl, .inl ⟨sl, fun p hp => ?_⟩⟩
  exact q _ _ _ (x'.grow hp) (.tup yK (rl.mono (yM (x'.sub.free hp))))
def tyD : D -> Value
 | .non => .type "NoneType" | .bl _ => .type "bool" | .int _ => .type "int" | .str _ => .type "str" | .tup _ => .type "tuple" | .lst _ => .type "list" | .scr _ => .type "list" | .exc C => .ref C | .exh C _ => .ref C | .dic _ => .type "dict" | .adr _ => .type "dict" | .stt _ => .type "dict"
theorem eOI {F H : Hp} (sub : Same F H) {v : V} {d : D} (r : Rep X.K F v d) (hd : ∀ ns, d ≠ .scr ns) (hx : ∀ C ea, d ≠ .exc C /\ d ≠ .exh C ea /\ d ≠ .adr C := by intro _ _; exact And.intro (fun h => by cases h) (And.intro (fun h => by cases h) (fun h => by cases h))) (hq : ∀ kvs, d ≠ .dic kvs := by intro _ h; cases h) : aVJ X.K H v (tyD d) := by
 cases r with
 | non => exact .non
 | bl b => exact .bl b
 | int i => exact .int i
 | str x => exact .str x
 | tup h _ => exact .tup (sub _ _ h)
 | lst h _ => exact .lst (sub _ _ h)
 | scr h => exact absurd rfl (hd _)
 | exc h => exact absurd rfl (hx _ 0).1
 | exh h => exact absurd rfl (hx _ _).2.1
 | adr a => exact absurd rfl (hx a 0).2.2
 | stt h => exact .dK (sub _ _ h)
 | dic h _ => exact absurd rfl (hq _)
theorem eKC {T : String} {k : Bool} (hx : ∀ C ea, d ≠ .exc C /\ d ≠ .exh C ea /\ d ≠ .adr C) (hd : ∀ ns, d ≠ .scr ns) (hq : ∀ kvs, d ≠ .dic kvs) (hk : PySem.W.kitOne X.K (tyD d) (.type T) = some k) :
  aCY X (.builtin "isinstance") (fun xs H Q => ∃ x F, xs = [x, .ty T] /\ Same F H /\ Rep X.K F x d /\ Q (.bl k) H) := by
 intro pins s σ H xs us Q I r h
 obtain ⟨v, F, rfl, sub, rv, q⟩ := h
 obtain ⟨u, w, rfl, ru, rw'⟩ := eAK r
 cases (show w = Value.type T from rw')
 exact aXZ I ru (eOI sub rv hd hx hq) hk fun tk => ⟨.bl k, H, I.tok tk, rfl, q⟩
theorem aKW (t : At X N sc) {T : String} {y : Str} {k : Bool} {py : Pos} (bl : Blt X sc x (.builtin "isinstance")) (bt : Blt X sc y (.type T)) (ha : EvE X ρ a d) (hk : PySem.W.kitOne X.K (tyD d) (.type T) = some k) (hd : ∀ ns, d ≠ .scr ns := by intro _ h; cases h) (hpa : Pl a := by intro _ _; rfl) (hx : ∀ C ea, d ≠ .exc C /\ d ≠ .exh C ea /\ d ≠ .adr C := by intro _ _; exact And.intro (fun h => by cases h) (And.intro (fun h => by cases h) (fun h => by cases h))) (hq : ∀ kvs, d ≠ .dic kvs := by intro _ h; cases h) :
  EvE X ρ (.Call (.Name x p) [a, .Name y py] [] pos) (.bl k) :=
 .of (aDB (eKC hx hd hq hk) (wK t bl.g) bl.m bl.v (zC yU (zC (aXK (v := .ty T) (wK t bt.g) bt.m bt.v rfl bt.n bt.d) jW) (hpa _ _)) bl.n bl.d (hpa _ _) rfl) fun B F H σ Q k' q =>
  ha B F H σ _ k' fun v F' H' x' r => ⟨v, F', rfl, x'.sub, r, q _ F' H' x' (.bl k)⟩
theorem RepL.bls {K : PySem.W.Frag} {F : Hp} : ∀ {bs : List Bool} {vs : List V}, RepL K F vs (bs.map D.bl) -> vs = bs.map V.bl
 | [], _, h => by cases h; rfl
 | b :: bs, _, h => by
  cases h with
  | cons r t => cases r; rw [List.map_cons, RepL.bls t]
theorem aTZ : ∀ {bs : List Bool} {us : List Value}, Vals (bs.map V.bl) us -> LSm.BoolsAre us bs
 | [], _, r => by cases r; exact .nil
 | b :: bs, _, r => by
  rw [List.map_cons] at r
  cases r with
  | cons r1 r2 =>
   cases (show _ = Value.bool b from r1)
   exact .cons b (aTZ r2)
theorem aZM (hc : X.calm = true) : aCY X (.builtin "all") (fun xs H Q => ∃ (l : Addr) (bs : List Bool), xs = [.ref l] /\ SqL X.K H l (bs.map V.bl) /\ Q (.bl (bs.all id)) H) := by
 intro pins s σ H xs us Q I r h
 obtain ⟨l, bs, rfl, sl, q⟩ := h
 obtain ⟨u, rfl, ru⟩ := aFX r
 cases (show u = Value.ref l from ru)
 obtain ⟨vs, rv, pl, hz⟩ := I.list sl
 have hb := aTZ rv
 have hl := pl.isList
 have hlt : l < s.heap.objs.size := by obtain ⟨_, e, _⟩ := hl; exact Heap.lt_size e
 refine call_all_walk (wpAny_pyIter_list hl ?_)
 refine ⟨s.heap.objs.size, [s.heap.objs.size, l], [s.heap.objs.size], vs.toArray.size, _, _, fun i => (bs[i]?).getD true, rfl, Walks.list (A := X.A.in1) (I.ok.hd hc) _ l (Nat.ne_of_lt hlt) vs.toArray,
  ⟨⟨_, Heap.get?_push_size _ rfl, rfl, rfl⟩, hl.push _⟩, fun i v s' Q' E' hP hQ => ?_, fun h' tk hk => ?_⟩
 ·obtain ⟨b, e, rfl⟩ := hb.get i v (by simpa using hP)
  simp only [e, Option.getD_some] at hQ
  exact wpAny_truthy_bool hQ
 ·have e : ((List.range vs.toArray.size).all fun i => (bs[i]?).getD true) = bs.all id := by
   rw [List.size_toArray, hb.length]; exact LSm.range_all bs
  rw [e]
  exact ⟨.bl _, H, I.kept (LSm.kept_iter hk), rfl, q⟩
theorem eKS (t : At X N sc) {bs : List Bool} (bl : Blt X sc x (.builtin "all")) (ha : EvQ X ρ e true (bs.map D.bl)) (hpe : Pl e := by intro _ _; rfl) : EvE X ρ (.Call (.Name x p) [e] [] pos) (.bl (bs.all id)) :=
 .of (aDB (aZM t.calm) (wK t bl.g) bl.m bl.v (zC yU jW (hpe _ _)) bl.n bl.d (hpe _ _) rfl) fun B F H σ Q k' q => ha B F H σ _ k' fun l vs F' H' x' sl rl => by
  have e := rl.bls
  subst e
  exact ⟨l, bs, rfl, sl, q _ F' H' x' (.bl _)⟩
def spC (K : PySem.W.Frag) (C : List D -> D -> Prop) : Sp := fun vs H Q _ => ∃ F ds d, Same F H /\ RepL K F vs ds /\ C ds d /\ ∀ v F' H', Ext ⟨F, H⟩ F' H' -> Rep K F' v d -> Q v H'
def Callee (X : Cx) (x : Str) (C : List D -> D -> Prop) : Prop := ∃ (f : Addr) (fd : FuncData) (ps : List Str) (k : Nat), qU X.prog X.w X.K X.mg X.base CX0 k f fd ps (spC X.K C) /\ Room k X.A /\ X.mg x = some (.ref f) /\ PySem.W.keepIn X.K (.ref f) = true /\ Binds X.K fd ps []
theorem yO (t : At X N sc) {C : List D -> D -> Prop} (h : Callee X x C) (ha : EvA X ρ (e :: es) ds) (hC : C ds d) (hg : sc.names.lookup x = some .globalImplicit := by rfl) (hdb : (x == ("__debug__" : Str)) = false := by rfl) : EvE X ρ (.Call (.Name x p) (e :: es) [] pos) d := by
 obtain ⟨f, fd, ps, k, F, hr, hm, hk, hb⟩ := h
 have pz : aCL CX0 X E0 := aQW
 refine .of (aFC F hr (wK t hg) hm hk hb .nil pz aVO hdb (ha.1.1 _ _) (PlA.any ha.1.2)) fun B F' H σ Q k' q => ha.2 B F' H σ _ k' fun vs F1 H1 x1 r1 => ?_
 refine ⟨F1, ds, d, x1.sub, by rw [List.append_nil]; exact r1, hC, fun v F2 H2 x2 r2 => q v F2 H2 (x1.t x2) r2⟩
def dE (sc : Scope) : Env := { scope := sc, locals := 0, globals := 0, cells := [], qual := "", func := none, code := .none, frame := none, builtins := 0 }
theorem aVZ {ts : List Expr} {v : Expr} {env env' : Env} (h : env.scope = env'.scope) : swappedStores ts v env = swappedStores ts v env' := by
 unfold swappedStores Env.blockKind Env.kindOf
 rw [h]
variable {st : Stmt} {qZ : List Stmt} {o : Out} {ρ' : Rho}
theorem zW : EvSs X ρ [] (.nx ρ) := .of eFB fun B F H σ E k q => q F H σ k (.refl _)
theorem yG (h1 : EvS X ρ st (.nx ρ')) (h2 : EvSs X ρ' qZ o) : EvSs X ρ (st :: qZ) o :=
 .of (wY eAF vD) fun B F H σ E k q => h1 B F H σ _ k fun F1 H1 σ1 k1 s1 => h2 B F1 H1 σ1 E k1 (q.later s1)
theorem wR (h1 : EvS X ρ st (.rt d)) : EvSs X ρ (st :: qZ) (.rt d) :=
 .of (wY eAF vD) fun B F H σ E k q => h1 B F H σ _ k q
theorem yH (h1 : EvS X ρ st o) : EvSs X ρ [st] o := .of (aDU eAF) fun B F H σ E k q => h1 B F H σ E k q
theorem vG {xs : List D} (i : Nat) (hi : ρ[i]? = some (.own xs)) (h : EvSs X (ρ.set i (.val (.lst xs))) qZ o) : EvSs X ρ qZ o := fun B F H σ E k q => by
 obtain ⟨F', sf, k'⟩ := k.freezeAt hi
 exact h B F' H σ E k' (q.later sf)
theorem zH (h : EvE X ρ e d) : EvS X ρ (.Return (some e) pos) (.rt d) :=
 .of (aOK yU) fun B F H σ E k q => h B F H σ _ k fun v F' H' x r => q v F' H' (k.toExt.trans x) r
theorem jY {ss us : List Stmt} (hc : EvT X ρ c true) (h : EvSs X ρ ss o) : EvS X ρ (.If c ss us pos) o :=
 .of (aUN aLV vD vD) fun B F H σ E k q => hc B F H σ _ k fun F1 H1 x1 => by rw [if_pos rfl]; exact h B F1 H1 σ E (k.ext x1) (q.later x1.sf)
theorem jI {ss us : List Stmt} (hc : EvT X ρ c false) (h : EvSs X ρ us o) : EvS X ρ (.If c ss us pos) o :=
 .of (aUN aLV vD vD) fun B F H σ E k q => hc B F H σ _ k fun F1 H1 x1 => by rw [if_neg Bool.false_ne_true]; exact h B F1 H1 σ E (k.ext x1) (q.later x1.sf)
theorem hfT [FnT X] {x : Str} : X.fn x = true \/ X.env.scope.names.lookup x = some .local := .inl (FnT.fn x)
theorem At.loc (t : At X N sc) {x : Str} (hx : aPZ sc x = true) : Loc X.env.scope x := by rw [t.eS]; exact eJN hx
theorem At.ix (t : At X N sc) {i : Nat} {x : Str} (h : N[i]? = some x) : X.N[i]? = some x := by rw [t.eN]; exact h
theorem qR [FnT X] (t : At X N sc) (i : Nat) {pos' : Pos} (h : EvE X ρ e d) (hi : N[i]? = some x := by rfl) (hx : aPZ sc x = true := by rfl) (hs : swapsWith e (some (.Name x pos')) pos.line X.env = pure false := by rfl) :
  EvS X ρ (.Assign [.Name x pos'] e pos) (.nx (ρ.set i (.val d))) :=
 .of (aKM (i := i) t.nd (t.ix hi) (t.loc hx) yU hs hfT) fun B F H σ E k q => h B F H σ _ k fun v F' H' x' r => q F' H' _ ((k.ext x').setVal i r) x'.sf
theorem aCK [FnT X] (t : At X N sc) (i : Nat) {pos' : Pos} {xs : List D} (h : EvN X ρ e xs) (hi : N[i]? = some x := by rfl) (hx : aPZ sc x = true := by rfl) (hs : swapsWith e (some (.Name x pos')) pos.line X.env = pure false := by rfl) :
  EvS X ρ (.Assign [.Name x pos'] e pos) (.nx (ρ.set i (.own xs))) :=
 .of (aKM (i := i) t.nd (t.ix hi) (t.loc hx) yU hs hfT) fun B F H σ E k q => h B F H σ _ k fun p vs F' H' x' h0 hp hf r =>
  q F' H' _ ((k.ext x').setOwn i hp hf (k.sh.free h0) (k.noOwn h0) r) x'.sf
theorem eCD [FnT X] (t : At X N sc) (i : Nat) {op : Operator} {g : Int -> Int -> Int} {C : Int -> Int -> Prop} {n m : Int} {pos' : Pos} (ho : OpR X (inplaceOp op) (rI C fun i j => .int (g i j))) (hr : ρ[i]? = some (.val (.int n))) (h : EvE X ρ e (.int m)) (hc : C n m) (hi : N[i]? = some x := by rfl) (hx : aPZ sc x = true := by rfl) :
  EvS X ρ (.AugAssign (.Name x pos') op e pos) (.nx (ρ.set i (.val (.int (g n m))))) :=
 .of (eCM (i := i) t.nd (t.ix hi) (t.loc hx) yU (show PIp X op (rI C fun i j => .int (g i j)) from ho) hfT) fun B F H σ E k q => by
  obtain ⟨v, h1, h2⟩ := k.vals i _ hr
  cases h2
  exact ⟨_, h1, h B F H σ _ k fun v F' H' x' r => by
   cases r
   exact ⟨n, m, rfl, rfl, hc, q F' H' _ ((k.ext x').setVal i (.int _)) x'.sf⟩⟩
theorem aTI : OpR X (inplaceOp .Add) (rI (fun _ _ => True) fun i j => .int (i + j)) := opI fun _ _ _ _ _ _ _ _ q => iadd_int q
theorem eBI : OpR X (inplaceOp .Sub) (rI (fun _ _ => True) fun i j => .int (i - j)) := opI fun _ _ _ _ _ _ _ _ q => isub_int q
theorem eAQ [FnT X] (t : At X N sc) (i : Nat) {n m : Int} {pos' : Pos} (hr : ρ[i]? = some (.val (.int n))) (h : EvE X ρ e (.int m)) (hi : N[i]? = some x := by rfl) (hx : aPZ sc x = true := by rfl) :
  EvS X ρ (.AugAssign (.Name x pos') .Add e pos) (.nx (ρ.set i (.val (.int (n + m))))) := eCD t i aTI hr h trivial hi hx
theorem aSU [FnT X] (t : At X N sc) (i : Nat) {n m : Int} {pos' : Pos} (hr : ρ[i]? = some (.val (.int n))) (h : EvE X ρ e (.int m)) (hi : N[i]? = some x := by rfl) (hx : aPZ sc x = true := by rfl) :
  EvS X ρ (.AugAssign (.Name x pos') .Sub e pos) (.nx (ρ.set i (.val (.int (n - m))))) := eCD t i eBI hr h trivial hi hx
theorem jJ [FnT X] (t : At X N sc) (i : Nat) (hi : N[i]? = some x := by rfl) (hx : aPZ sc x = true := by rfl) : EvG X ρ (.Name x pos) d (ρ.set i (.val d)) :=
 .of (aLZ (i := i) t.nd (t.ix hi) (t.loc hx) hfT) fun B F H σ v Q k r q => q F H _ (k.setVal i r) (.refl _)
theorem aCV [FnT X] (t : At X N sc) (i j : Nat) {y : Str} {u v : D} {px py : Pos} {kt : Nat} (hi : N[i]? = some x := by rfl) (hj : N[j]? = some y := by rfl) (hx : aPZ sc x = true := by rfl) (hy : aPZ sc y = true := by rfl) :
  EvG X ρ (.Tuple [.Name x px, .Name y py] kt pos) (.tup [u, v]) ((ρ.set i (.val u)).set j (.val v)) :=
 .of (eCP t.calm (aLY (aLZ (i := i) t.nd (t.ix hi) (t.loc hx) hfT) (aLY (aLZ (i := j) t.nd (t.ix hj) (t.loc hy) hfT) aXI))) fun B F H σ w Q k r q => by
  cases r with
  | tup h rl =>
   obtain ⟨v1, v2, rfl, r1, r2⟩ := rl.two
   exact ⟨_, _, rfl, SqT.of (k.sub _ _ h), rfl, _, _, rfl, _, _, rfl, rfl, q F H _ ((k.setVal i r1).setVal j r2) (.refl _)⟩
theorem jP (t : At X N sc) (i : Nat) (hi : N[i]? = some x := by rfl) (hx : sc.names.lookup x = some .local := by rfl) : EvGn X ρ (.Name x pos) d (ρ.set i (.val d)) :=
 .of (aLZ (i := i) t.nd (t.ix hi) (by rw [t.eS]; exact .inl hx) (by rw [t.eS]; exact .inr hx)) fun B F H σ v Q k r q => q _ (k.setVal i r) fun p h => h.setVal i _ d
theorem eAR (t : At X N sc) {tg : Expr} (h : EvE X ρ e d) (hg : EvG X ρ tg d ρ') (hs : swapsWithSole [tg] e pos.line X.env = pure false := by rfl) (hw : swappedStores [tg] e (dE sc) = pure none := by rfl)
  (h1 : (assignEach [tg] X.env).map (·.2) = [assign tg X.env] := by rfl) : EvS X ρ (.Assign [tg] e pos) (.nx ρ') :=
 .of (eIH yU eLJ hs ((aVZ (show X.env.scope = (dE sc).scope from t.eS)).trans hw) h1) fun B F H σ E k q => h B F H σ _ k fun v F1 H1 x1 r1 => hg B F1 H1 σ v _ (k.ext x1) r1 fun F2 H2 σ2 k2 s2 => q F2 H2 σ2 k2 (x1.sf.trans s2)
theorem aON (t : At X N sc) {i : Nat} {xs : List D} (hr : ρ[i]? = some (.own xs)) (hN : N[i]? = some x) (hv : aDQ sc x = true) (hx : qS x = true) {B : B0} {F H : Hp} {σ : St} {Q : VK} (k : Ok X.K B F H σ ρ)
  (h : ∀ p vs, σ[i]? = some (some (.ref p)) -> H p = some (.lst vs) -> RepL X.K F vs xs -> Q (.ref p) H) : wE X (.Name x pos) σ H Q := .mk fun pins s I => by
 obtain ⟨p, vs, h1, h2, h3, h4, h5⟩ := k.owns i xs hr
 exact aVN t hN hv hx pins s σ H Q I ⟨_, h1, h p vs h1 h2 h5⟩
theorem wX (t : At X N sc) (i : Nat) {xs : List D} {apos cpos : Pos} {y : Str} (hr : ρ[i]? = some (.own xs)) (h : EvE X ρ e d) (hz : xs.length < sizeLine) (hN : N[i]? = some y := by rfl) (hv : aDQ sc y = true := by rfl) (hx : qS y = true := by rfl)
  (hs : starEach [e] X.env = (false, eval e X.env) :: starEach [] X.env := by rfl) (hline : (apos.endLine == cpos.line) = true := by rfl) (hpl : (backTo cpos (starEach [] X.env)).any (·.1) = false := by rfl)
  (hfew : ((backTo cpos (starEach [e] X.env)).all (fun x => !x.1) && (backToKw cpos (keywordEach [] X.env)).all (fun x => x.1.isSome) && decide (([e] : List Expr).length + ([] : List Keyword).length + (if ([] : List Keyword).isEmpty then 0 else 1) < 30)) = true := by rfl)
  (hsw : swapsWith (.Call (.Attribute (.Name y p) "append" apos) [e] [] cpos) none pos.line X.env = pure false := by rfl) :
  EvS X ρ (.Expr (.Call (.Attribute (.Name y p) "append" apos) [e] [] cpos) pos) (.nx (ρ.set i (.own (xs ++ [d])))) :=
 .of (aDV (eBA PySem.F.plainAttrs_list PySem.F.slot_list_append PySem.F.type_list_append aEN yU (zC yU jW hs) rfl hfew hline hs hpl) hsw) fun B F H σ E k q =>
  aON t hr hN hv hx k fun l vs h1 h2 h3 => ⟨.inl ⟨rfl, _, SqL.of h2⟩, h B F H σ _ k fun v F' H' x' r => by
   have k' := k.ext x'
   have h2' := x'.sh _ _ h2
   refine ⟨l, vs, v, rfl, rfl, h2', by rw [h3.length]; exact hz, ?_⟩
   exact q F' _ _ (k'.chgOwn (vs := vs) hr h1 ((h3.mono x'.sf).append (.cons r .nil))) x'.sf⟩
theorem eHV (t : At X N sc) (i : Nat) {xs : List D} {apos cpos : Pos} {y : Str} (hr : ρ[i]? = some (.own xs)) (hz : xs ≠ []) (hN : N[i]? = some y := by rfl) (hv : aDQ sc y = true := by rfl) (hx : qS y = true := by rfl)
  (hline : (apos.endLine == cpos.line) = true := by rfl) (hsw : swapsWith (.Call (.Attribute (.Name y p) "pop" apos) [] [] cpos) none pos.line X.env = pure false := by rfl) :
  EvS X ρ (.Expr (.Call (.Attribute (.Name y p) "pop" apos) [] [] cpos) pos) (.nx (ρ.set i (.own xs.dropLast))) :=
 .of (aDV (aXJ PySem.F.plainAttrs_list PySem.F.slot_list_pop PySem.F.type_list_pop eCY yU rfl hline) hsw) fun B F H σ E k q =>
  aON t hr hN hv hx k fun l vs h1 h2 h3 => ⟨.inl ⟨rfl, _, SqL.of h2⟩, by
   have hl := h3.length
   have hne : vs ≠ [] := fun z => hz (List.eq_nil_of_length_eq_zero (by rw [<- hl, z]; rfl))
   obtain ⟨w, hw⟩ : ∃ w, vs[vs.length - 1]? = some w := ⟨vs[vs.length - 1]'(by have := List.length_pos_iff.mpr hne; omega), List.getElem?_eq_getElem _⟩
   exact ⟨l, vs, w, rfl, rfl, h2, hw, q F _ _ (k.chgOwn (vs := vs) hr h1 h3.dropLast) (.refl _)⟩⟩
theorem eGQ (t : At X N sc) (i : Nat) {xs : List D} {n : Int} {j : Nat} {y : Str} (hr : ρ[i]? = some (.own xs)) (h : EvE X ρ b (.int n)) (hj : ixN xs.length n = some j) (hN : N[i]? = some y := by rfl) (hv : aDQ sc y = true := by rfl) (hx : qS y = true := by rfl)
  (ha : ∀ v, assign (.Subscript (.Name y p) b pos) X.env v = (do
   let ov <- holding [v] (eval (.Name y p) X.env)
   let iv <- holding [v, ov] (eval b X.env)
   standAt pos
   holding [v, ov, iv] (setItem ov iv v)
   release [v, ov, iv] []) := by intro _; rfl) : EvG X ρ (.Subscript (.Name y p) b pos) d (ρ.set i (.own (xs.set j d))) :=
 .of (eCQ yU yU aST ha) fun B F H σ v Q k r q =>
  aON t hr hN hv hx k fun l vs h1 h2 h3 => h B F H σ _ k fun w F' H' x' rw' => by
   cases rw'
   have h2' := x'.sh _ _ h2
   refine ⟨l, vs, n, j, rfl, rfl, h2', by rw [h3.length]; exact hj, ?_⟩
   exact q F' _ _ ((k.ext x').chgOwn (vs := vs) hr h1 ((h3.mono x'.sf).set (r.mono x'.sf) j)) x'.sf
theorem aYG : eOD X (eNR X.K) := by
 intro pins s σ H o i ov iv Q I ro ri h
 obtain ⟨p, xs, n, z, rfl, rfl, hq, he, q⟩ := h
 cases ro
 obtain ⟨t, rfl⟩ := ri
 obtain ⟨its, r, pl, hz⟩ := I.list hq
 obtain ⟨j, h1, h2, h3, h4, h5⟩ := aNR he
 obtain ⟨w, ew, rw'⟩ := r.get h2
 have hl := r.length
 have hn := aFR
 have fin : EP X pins σ Q w s := ⟨z, H, I, rw', q⟩
 by_cases h0 : 0 <= n
 ·have hj : n.toNat = j := by
   rw [seqIndex_of h0 h5] at h1
   exact Option.some.inj h1
  exact wpAny_getItem_list pl.isList h0 (by omega) (by rw [hj]; simpa using ew) fin
 ·have hj : (n + (its.toArray.size : Int)).toNat = j := by
   rw [seqIndex_neg (by omega) h4] at h1
   rw [List.size_toArray, <- hl]
   exact Option.some.inj h1
  exact wpAny_getItem_list_neg pl.isList (by omega) (by rw [List.size_toArray] <;> omega) (by omega) (by rw [hj]; simpa using ew) fin
theorem aWL (t : At X N sc) (i : Nat) {op : Operator} {g : Int -> Int -> Int} {C : Int -> Int -> Prop} {xs : List D} {n u m : Int} {j : Nat} {y : Str} {tpos : Pos} (ho : OpR X (inplaceOp op) (rI C fun i j => .int (g i j))) (hr : ρ[i]? = some (.own xs))
  (hb : EvE X ρ b (.int n)) (hj : ixN xs.length n = some j) (hu : xs[j]? = some (.int u)) (he : EvE X ρ e (.int m)) (hc : C u m) (hN : N[i]? = some y := by rfl) (hv : aDQ sc y = true := by rfl) (hx : qS y = true := by rfl)
  (ha : ∀ ov iv new, augStore b ov iv new = (do holding [new, ov, iv] (setItem ov iv new); release [new, ov, iv] []; pure .next) := by intros; rfl) :
  EvS X ρ (.AugAssign (.Subscript (.Name y p) b tpos) op e pos) (.nx (ρ.set i (.own (xs.set j (.int (g u m)))))) :=
 .of (eFD yU yU aYG yU (show PIp X op (rI C fun i j => .int (g i j)) from ho) aST ha) fun B F H σ E k q =>
  aON t hr hN hv hx k fun l vs h1 h2 h3 => hb B F H σ _ k fun w F1 H1 x1 rw' => by
   cases rw'
   have h21 := x1.sh _ _ h2
   have hat : atI xs n = some (.int u) := by unfold atI; rw [hj]; exact hu
   obtain ⟨w, hw1, hw2⟩ := (h3.mono x1.sf).at hat
   cases hw2
   refine ⟨l, vs, n, _, rfl, rfl, SqL.of h21, hw1, he B F1 H1 σ _ (k.ext x1) fun w F2 H2 x2 rw2 => ?_⟩
   cases rw2
   have h22 := x2.sh _ _ h21
   refine ⟨u, m, rfl, rfl, hc, l, vs, n, j, rfl, rfl, h22, by rw [h3.length]; exact hj, ?_⟩
   exact q F2 _ _ ((k.ext (x1.t x2)).chgOwn (vs := vs) hr h1 (((h3.mono x1.sf).mono x2.sf).set (.int _) j)) (x1.t x2).sf
end
structure wI (X : Cx) (tg e : Expr) (σ : St) (H : Hp) (R : It -> Hp -> Prop) : Prop where
 go : ∀ (pins : List (Addr × Obj)) (s : Shared), Inv X pins σ H s -> wpAny (model X.prog X.w) X.A (eval e X.env) (fun v s1 => wpAny (model X.prog X.w) X.A (pyIter v) (PIE X pins σ tg R) X.xe s1) X.xe s
instance wI_f {X : Cx} {tg e : Expr} {σ : St} {H : Hp} {R : It -> Hp -> Prop} : CoeFun (wI X tg e σ H R) (fun _ => ∀ (pins : List (Addr × Obj)) (s : Shared), Inv X pins σ H s -> wpAny (model X.prog X.w) X.A (eval e X.env) (fun v s1 => wpAny (model X.prog X.w) X.A (pyIter v) (PIE X pins σ tg R) X.xe s1) X.xe s) := ⟨wI.go⟩
theorem ePE {X : Cx} {tg e : Expr} : PI X tg e (wI X tg e) := fun pins s _ _ _ I h => h pins s I
def eAC (K : PySem.W.Frag) (J : It) (F : Hp) (ds : List D) : Prop := ∀ (i : Nat) (F2 H2 : Hp), Same F F2 -> Same F2 H2 ->
 (∀ d, ds[i]? = some d -> J.go i H2 /\ ∀ x H', J.yld i H2 x H' -> ∃ F', Ext ⟨F2, H2⟩ F' H' /\ Rep K F' x d) /\ (ds.length <= i -> J.stop i H2)
def EvI (X : Cx) (ρ : Rho) (tg e : Expr) (ds : List D) : Prop := ∀ (B : B0) (F H : Hp) (σ : St) (R : It -> Hp -> Prop), Ok X.K B F H σ ρ ->
 (∀ J F' H', Ext ⟨F, H⟩ F' H' -> eAC X.K J F' ds -> R J H') -> wI X tg e σ H R
section
variable {X : Cx} {ρ : Rho} {tg e a b c : Expr} {d : D} {pos : Pos} {N : List Str} {sc : Scope} {ds : List D}
theorem EvI.of {t : TI} (h : PI X tg e t) (r : ∀ (B : B0) (F H : Hp) (σ : St) (R : It -> Hp -> Prop), Ok X.K B F H σ ρ -> (∀ J F' H', Ext ⟨F, H⟩ F' H' -> eAC X.K J F' ds -> R J H') -> t σ H R) : EvI X ρ tg e ds :=
 fun B F H σ R k q => .mk fun pins s I => h pins s σ H R I (r B F H σ R k q)
theorem eFW {K : PySem.W.Frag} {F : Hp} {l : Addr} {vs : List V} (hs : ∀ H, Same F H -> SqL K H l vs) (r : RepL K F vs ds) : eAC K (Itl K l) F ds := fun i F2 H2 s1 s2 =>
 ⟨fun d hd => by
  obtain ⟨v, hv, rv⟩ := r.get hd
  have sq := hs H2 (s1.trans s2)
  refine ⟨⟨vs, v, sq, hv⟩, fun x H' y => ?_⟩
  obtain ⟨rfl, y⟩ := y
  have e := y vs sq
  rw [hv] at e; cases e
  exact ⟨F2, .refl s2, rv.mono s1⟩, fun h => ⟨vs, hs H2 (s1.trans s2), by rw [r.length]; exact h⟩⟩
theorem eJX {K : PySem.W.Frag} {F : Hp} {l : Addr} {vs : List V} (hs : ∀ H, Same F H -> SqT K H l vs) (r : RepL K F vs ds) : eAC K (Itt K l) F ds := fun i F2 H2 s1 s2 =>
 ⟨fun d hd => by
  obtain ⟨v, hv, rv⟩ := r.get hd
  have sq := hs H2 (s1.trans s2)
  refine ⟨⟨vs, v, sq, hv⟩, fun x H' y => ?_⟩
  obtain ⟨rfl, y⟩ := y
  have e := y vs sq
  rw [hv] at e; cases e
  exact ⟨F2, .refl s2, rv.mono s1⟩, fun h => ⟨vs, hs H2 (s1.trans s2), by rw [r.length]; exact h⟩⟩
theorem aTS (h : EvE X ρ e (.lst ds)) : EvI X ρ tg e ds := .of (aXH yU) fun B F H σ R k q => h B F H σ _ k fun v F' H' x r => by
 cases r with
 | lst hf rl => exact ⟨_, rfl, ⟨_, SqL.of (x.sub _ _ hf)⟩, q _ F' H' x (eFW (fun H2 s2 => SqL.of (s2 _ _ hf)) rl)⟩
theorem aYX (h : EvE X ρ e (.tup ds)) : EvI X ρ tg e ds := .of (eIK yU) fun B F H σ R k q => h B F H σ _ k fun v F' H' x r => by
 cases r with
 | tup hf rl => exact ⟨_, rfl, ⟨_, SqT.of (x.sub _ _ hf)⟩, q _ F' H' x (eJX (fun H2 s2 => SqT.of (s2 _ _ hf)) rl)⟩
def wP (lo : Int) (n : Nat) : List D := (List.range n).map fun (i : Nat) => D.int (lo + (i : Int))
theorem eJZ {K : PySem.W.Frag} {F : Hp} {lo : Int} {n : Nat} : eAC K (Itr lo n) F (wP lo n) := fun i F2 H2 s1 s2 =>
 ⟨fun d hd => by
  unfold wP at hd
  rw [List.getElem?_map] at hd
  have hi : i < n := by
   by_cases h : i < n
   ·exact h
   ·rw [List.getElem?_eq_none (by simpa using h)] at hd; cases hd
  rw [List.getElem?_range hi] at hd
  cases hd
  refine ⟨hi, fun x H' y => ?_⟩
  obtain ⟨rfl, rfl⟩ := y
  exact ⟨F2, .refl s2, .int _⟩, fun h => by
   have h' : n <= i := by simpa [wP] using h
   exact h'⟩
theorem wD (t : At X N sc) {j : Int} {p : Pos} (bl : Blt X sc "range" (.type "range")) (h : EvE X ρ a (.int j)) (h1 : -(2 ^ 62) <= j) (h2 : j < 2 ^ 62) (hs : Pl a := by intro _ _; rfl) : EvI X ρ tg (.Call (.Name "range" p) [a] [] pos) (wP 0 j.toNat) :=
 .of (aXG (wK t bl.g) bl.m (zC yU jW (hs _ _)) (hs _ _)) fun B F H σ R k q => h B F H σ _ k fun v F' H' x r => by
  cases r
  exact ⟨j, rfl, h1, h2, q _ F' H' x eJZ⟩
inductive FRun (X : Cx) (tg : Expr) (body : List Stmt) : List D -> Rho -> Out -> Prop where
 | nil {ρ : Rho} : FRun X tg body [] ρ (.nx ρ)
 | cons {d : D} {ds : List D} {ρ ρ1 ρ2 : Rho} {o : Out} : EvG X ρ tg d ρ1 -> EvSs X ρ1 body (.nx ρ2) -> FRun X tg body ds ρ2 o -> FRun X tg body (d :: ds) ρ o
 | ret {d r : D} {ds : List D} {ρ ρ1 : Rho} : EvG X ρ tg d ρ1 -> EvSs X ρ1 body (.rt r) -> FRun X tg body (d :: ds) ρ (.rt r)
theorem aBP {α : Type} {xs ys : List α} {x : α} {i : Nat} (h : xs.drop i = x :: ys) : xs[i]? = some x /\ xs.drop (i + 1) = ys /\ i < xs.length := by
 have hi : i < xs.length := by
  by_cases q : i < xs.length
  ·exact q
  ·rw [List.drop_eq_nil_of_le (by omega)] at h; cases h
 have e := List.drop_eq_getElem_cons hi
 rw [h] at e
 injection e with e1 e2
 exact ⟨by rw [List.getElem?_eq_getElem hi, e1], e2.symm, hi⟩
theorem aBH (t : At X N sc) {body : List Stmt} {o : Out} (hi : EvI X ρ tg e ds) (h : FRun X tg body ds ρ o) (hs : ∀ x, foldedSetIterable e X.env x = pure x := by intro _; rfl) : EvS X ρ (.For tg e body [] pos) o :=
 .of (eCL t.pass t.calm ePE eLJ vD hs) fun B F H σ E k q => hi B F H σ _ k fun J F1 H1 x1 J1 => by
  refine ⟨fun i m σ H => ∃ ρ' F', Ok X.K B F' H σ ρ' /\ Same F1 F' /\ FRun X tg body (ds.drop i) ρ' o /\ m = ds.length - i, ⟨ds.length, ρ, F1, k.ext x1, .refl _, by simpa using h, by simp⟩, ?_⟩
  rintro i m σ H ⟨ρ', F', k', sf, run, rfl⟩
  have q' : Post X.K B F' E o := q.later (x1.sf.trans sf)
  have J2 := J1 i F' H sf k'.sub
  generalize e1 : ds.drop i = qZ at run
  cases run with
  | nil =>
   have hl : ds.length <= i := by
    have := congrArg List.length e1
    rw [List.length_drop, List.length_nil] at this
    omega
   exact .inl ⟨J2.2 hl, q' F' H σ k' (.refl _)⟩
  | @cons d0 ds0 ρ0 ρ1 ρ2 o0 g b r =>
   obtain ⟨hd, hr, hlt⟩ := aBP e1
   obtain ⟨go, yl⟩ := J2.1 _ hd
   refine .inr ⟨go, fun σ' H' => ∃ F'', Ok X.K B F'' H' σ' ρ2 /\ Same F1 F'', fun σ' H' ⟨F'', k'', s''⟩ => ⟨ds.length - (i + 1), by omega, _, F'', k'', s'', by rw [hr]; exact r, rfl⟩, fun x H' y => ?_⟩
   obtain ⟨F2, x2, rx⟩ := yl x H' y
   refine g B F2 H' σ x _ (k'.ext x2) rx fun F3 H3 σ3 k3 s3 => b B F3 H3 σ3 _ k3 fun F4 H4 σ4 k4 s4 => ⟨F4, k4, sf.trans (x2.sf.trans (s3.trans s4))⟩
  | ret g b =>
   obtain ⟨hd, hr, hlt⟩ := aBP e1
   obtain ⟨go, yl⟩ := J2.1 _ hd
   refine .inr ⟨go, fun _ _ => False, fun σ' H' z => z.elim, fun x H' y => ?_⟩
   obtain ⟨F2, x2, rx⟩ := yl x H' y
   exact g B F2 H' σ x _ (k'.ext x2) rx fun F3 H3 σ3 k3 s3 => b B F3 H3 σ3 _ k3 q
theorem FRun.of (body : List Stmt) (R : Nat -> Rho) : ∀ (ds : List D) (i : Nat), (∀ (j : Nat) d, ds[j]? = some d -> ∃ ρ1, EvG X (R (i + j)) tg d ρ1 /\ EvSs X ρ1 body (.nx (R (i + j + 1)))) -> FRun X tg body ds (R i) (.nx (R (i + ds.length)))
 | [], i, _ => .nil
 | d :: ds, i, h => by
  obtain ⟨ρ1, h1, h2⟩ := h 0 d rfl
  refine .cons h1 h2 ?_
  have r := FRun.of body R ds (i + 1) fun j e he => by
   have := h (j + 1) e (by simpa using he)
   rw [show i + 1 + j = i + (j + 1) by omega]
   exact this
  rw [show i + (d :: ds).length = i + 1 + ds.length by simp; omega]
  exact r
inductive WRun (X : Cx) (c : Expr) (body : List Stmt) : Nat -> Rho -> Out -> Prop where
 | stop {ρ : Rho} : EvT X ρ c false -> WRun X c body 0 ρ (.nx ρ)
 | step {n : Nat} {ρ ρ1 : Rho} {o : Out} : EvT X ρ c true -> EvSs X ρ body (.nx ρ1) -> WRun X c body n ρ1 o -> WRun X c body (n + 1) ρ o
 | ret {ρ : Rho} {r : D} : EvT X ρ c true -> EvSs X ρ body (.rt r) -> WRun X c body 0 ρ (.rt r)
theorem aHJ (t : At X N sc) {body : List Stmt} {o : Out} (h : ∃ n, WRun X c body n ρ o) : EvS X ρ (.While c body [] pos) o :=
 .of (aSY t.pass aLV vD) fun B F H σ E k q => by
  obtain ⟨n, h⟩ := h
  refine ⟨fun m σ H => ∃ ρ' F', Ok X.K B F' H σ ρ' /\ Same F F' /\ WRun X c body m ρ' o, ⟨n, ρ, F, k, .refl _, h⟩, ?_⟩
  rintro m σ H ⟨ρ', F', k', sf, run⟩
  cases run with
  | stop hc =>
   refine hc B F' H σ _ k' fun F1 H1 x1 => ?_
   rw [if_neg Bool.false_ne_true]
   exact q F1 H1 σ (k'.ext x1) (sf.trans x1.sf)
  | @step n0 ρ0 ρ1 o0 hc hb r =>
   refine hc B F' H σ _ k' fun F1 H1 x1 => ?_
   rw [if_pos rfl]
   exact ⟨fun σ' H' => ∃ F'', Ok X.K B F'' H' σ' ρ1 /\ Same F F'', fun σ' H' ⟨F'', k'', s''⟩ => ⟨_, Nat.lt_succ_self _, _, F'', k'', s'', r⟩, hb B F1 H1 σ _ (k'.ext x1) fun F2 H2 σ2 k2 s2 => ⟨F2, k2, sf.trans (x1.sf.trans s2)⟩⟩
  | ret hc hb =>
   refine hc B F' H σ _ k' fun F1 H1 x1 => ?_
   rw [if_pos rfl]
   exact ⟨fun _ _ => False, fun σ' H' z => z.elim, hb B F1 H1 σ _ (k'.ext x1) q⟩
structure DefX (P : Program) (w : World) (K : PySem.W.Frag) (mg : Str -> Option Value) (base : Heap) (k : Nat) (N : List Str) (sc : Scope) (X : Cx) : Prop where
 at' : At X N sc
 prog : X.prog = P
 w' : X.w = w
 k' : X.K = K
 mg' : X.mg = mg
 base' : X.base = base
 room : Room k X.A
 fnT : FnT X
 stk : X.stack = X.env :: X.outer /\ X.env.frame = some X.env.locals
theorem aDC {K : PySem.W.Frag} {F H : Hp} {vs : List V} (sub : Same F H) (r : RepL K F vs ds) (n : Nat) : Ok K ⟨F, H⟩ F H (vs.map some ++ List.replicate n none) (ds.map Sl.val ++ List.replicate n Sl.un) := by
 have hl := r.length
 have own : ∀ (i : Nat) xs, (ds.map Sl.val ++ List.replicate n Sl.un)[i]? ≠ some (.own xs) := fun i xs h => by
  by_cases hi : i < ds.length
  ·rw [List.getElem?_append_left (by simpa using hi), List.getElem?_map] at h
   cases e : ds[i]? with
   | none => rw [e] at h; cases h
   | some d => rw [e] at h; cases h
  ·rw [List.getElem?_append_right (by simpa using hi), List.getElem?_replicate] at h
   split at h <;> cases h
 have ownD : ∀ (i : Nat) xs, (ds.map Sl.val ++ List.replicate n Sl.un)[i]? ≠ some (.dct xs) := fun i xs h => by
  by_cases hi : i < ds.length
  ·rw [List.getElem?_append_left (by simpa using hi), List.getElem?_map] at h
   cases e : ds[i]? with
   | none => rw [e] at h; cases h
   | some d => rw [e] at h; cases h
  ·rw [List.getElem?_append_right (by simpa using hi), List.getElem?_replicate] at h
   split at h <;> cases h
 refine ⟨.refl sub, by simp [hl], fun i d h => ?_, fun i xs h => absurd h (own i xs), fun i j xs ys a h => absurd h (own i xs), ⟨fun i kvs h => absurd h (ownD i kvs), fun i j xs ys a h => absurd h (ownD i xs)⟩⟩
 by_cases hi : i < ds.length
 ·rw [List.getElem?_append_left (by simpa using hi), List.getElem?_map] at h
  cases e : ds[i]? with
  | none => rw [e] at h; cases h
  | some d' =>
   rw [e] at h; cases h
   obtain ⟨v, hv, rv⟩ := r.get e
   exact ⟨v, by rw [List.getElem?_append_left (by rw [List.length_map]; omega), List.getElem?_map, hv]; rfl, rv⟩
 ·rw [List.getElem?_append_right (by simpa using hi), List.getElem?_replicate] at h
  split at h <;> cases h
theorem jZ {P : Program} (htree : P.given.tree = none) {w : World} {K : PySem.W.Frag} {mg : Str -> Option Value} {base : Heap} {x qual : Str} {st : Stmt} {f : Addr} {fd : FuncData} {N ps : List Str} {k : Nat} {C : List D -> D -> Prop} (F : Fun K x qual st f fd) (S : yL N ps (yB st))
  (len : ∀ ds d, C ds d -> ds.length = ps.length)
  (body : ∀ X, DefX P w K mg base k N (yB st) X -> ∀ ds d, C ds d -> EvSs X (ds.map Sl.val ++ List.replicate (N.length - ds.length) Sl.un) (yF st) (.rt d)) : qU P w K mg base CX0 (k + 1) f fd ps (spC K C) := by
 refine F.ok S (fun vs H Q E h => ?_) (fun cdv A outer s H vs Q E hr h => ?_)
 ·obtain ⟨F', ds, d, sub, r, hC, q⟩ := h
  rw [r.length]; exact len ds d hC
 ·obtain ⟨F', ds, d, sub, r, hC, q⟩ := h
  refine ⟨_, vD, ?_⟩
  have hx : DefX P w K mg base k N (yB st) (aVA CX0 P w K mg base N qual (yB st) f cdv A outer s H E).nox :=
   ⟨⟨rfl, rfl, rfl, S.nd, rfl, hr.units, hr.dp100, htree, ⟨_, _, rfl, S.gen, S.co, rfl, rfl⟩⟩, rfl, rfl, rfl, rfl, rfl, hr, ⟨fun _ => rfl⟩, rfl, rfl⟩
  have hb := body _ hx ds d hC
  have hk : Ok K ⟨F', H⟩ F' H (start N vs) (ds.map Sl.val ++ List.replicate (N.length - ds.length) Sl.un) := by
   unfold start
   rw [r.length]
   exact aDC sub r _
  exact hb ⟨F', H⟩ F' H _ _ hk fun v F2 H2 x2 r2 => q v F2 H2 x2 r2
theorem DefX.callee {P : Program} {w : World} {K : PySem.W.Frag} {mg : Str -> Option Value} {base : Heap} {k j : Nat} {f : Addr} {fd : FuncData} {ps : List Str} {x : Str} {C : List D -> D -> Prop} (h : DefX P w K mg base k N sc X)
  (F : qU P w K mg base CX0 j f fd ps (spC K C)) (hj : j <= k) (hm : mg x = some (.ref f)) (hk : PySem.W.keepIn K (.ref f) = true) (hb : Binds K fd ps []) : Callee X x C := by
 obtain ⟨h0, rfl, rfl, rfl, rfl, rfl, hr, _⟩ := h
 exact ⟨f, fd, ps, j, F, hr.mono hj, hm, hk, hb⟩
end
def aWR (scope sc : Scope) : Scope := { scope with names := scope.names.map fun (n, k) => if (k == .free && sc.kind == .function && sc.names.lookup n == some .cell) then (n, .cell) else (n, k) }
theorem aSW {scope : Scope} {env : Env} {sc : Scope} (h : env.scope = sc) : relabel scope env = aWR scope sc := by subst h; rfl
theorem aRQ (env : Env) : ∀ (names : List (Str × NameKind)) (cs : List (Str × Addr)), (∀ n, (n, NameKind.free) ∈ names -> ∃ c, env.cells.lookup n = some c) ->
  (∀ n c, cs.lookup n = some c -> env.cells.lookup n = some c) ->
  ∃ cl : List (Str × Addr), (forIn (m := Sem) names cs fun (x : Str × NameKind) r => if x.2 == .free then do let c <- cellOf env x.1; pure (ForInStep.yield ((x.1, c) :: r)) else pure (ForInStep.yield r)) = pure cl /\
   (∀ n c, cl.lookup n = some c -> env.cells.lookup n = some c) /\ (∀ n, (n, NameKind.free) ∈ names -> ∃ c, cl.lookup n = some c) /\ (∀ n c, cs.lookup n = some c -> ∃ c', cl.lookup n = some c')
 | [], cs, _, h => ⟨cs, rfl, h, (fun n hn => nomatch hn), fun n c e => ⟨c, e⟩⟩
 | (n, k) :: r, cs, hf, h => by
  rw [List.forIn_cons]
  by_cases hk : k = .free
  ·subst hk
   obtain ⟨c, hc⟩ := hf n List.mem_cons_self
   have hcell : cellOf env n = pure c := by unfold cellOf; rw [hc]
   have h' : ∀ m c', ((n, c) :: cs).lookup m = some c' -> env.cells.lookup m = some c' := fun m c' e => by
    rw [List.lookup_cons] at e
    cases hm : m == n with
    | true => rw [hm] at e; cases e; rw [eq_of_beq hm]; exact hc
    | false => rw [hm] at e; exact h m c' e
   obtain ⟨cl, e1, e2, e3, e4⟩ := aRQ env r ((n, c) :: cs) (fun m hm => hf m (List.mem_cons_of_mem _ hm)) h'
   refine ⟨cl, ?_, e2, fun m hm => ?_, fun m c' e => ?_⟩
   ·show ((do let c <- cellOf env n; pure (ForInStep.yield ((n, c) :: cs))) >>= _ : Sem (List (Str × Addr))) = _
    rw [hcell]
    exact e1
   ·rcases List.mem_cons.mp hm with z | z
    ·cases z
     exact e4 n c (by rw [List.lookup_cons, beq_self_eq_true])
    ·exact e3 m z
   ·by_cases hm : m = n
    ·subst hm; exact e4 m c (by rw [List.lookup_cons, beq_self_eq_true])
    ·exact e4 m c' (by rw [List.lookup_cons, beq_eq_false_iff_ne.mpr hm]; exact e)
  ·have hb : (k == NameKind.free) = false := beq_eq_false_iff_ne.mpr hk
   obtain ⟨cl, e1, e2, e3, e4⟩ := aRQ env r cs (fun m hm => hf m (List.mem_cons_of_mem _ hm)) h
   refine ⟨cl, ?_, e2, fun m hm => ?_, e4⟩
   ·show ((if (k == NameKind.free) = true then _ else pure (ForInStep.yield cs)) >>= _ : Sem (List (Str × Addr))) = _
    rw [hb, if_neg Bool.false_ne_true]
    exact e1
   ·rcases List.mem_cons.mp hm with z | z
    ·cases z; exact absurd rfl hk
    ·exact e3 m z
theorem aVB {env : Env} {scope : Scope} (hf : ∀ n, (n, NameKind.free) ∈ scope.names -> ∃ c, env.cells.lookup n = some c) :
  ∃ cl : List (Str × Addr), closureFor scope env = pure cl /\ (∀ n c, cl.lookup n = some c -> env.cells.lookup n = some c) /\ (∀ n, (n, NameKind.free) ∈ scope.names -> ∃ c, cl.lookup n = some c) := by
 obtain ⟨cl, e1, e2, e3, _⟩ := aRQ env scope.names [] hf (fun n c e => nomatch e)
 refine ⟨cl, ?_, e2, e3⟩
 show (forIn (m := Sem) scope.names ([] : List (Str × Addr)) (fun (x : Str × NameKind) r => if x.2 == .free then do let c <- cellOf env x.1; pure (ForInStep.yield ((x.1, c) :: r)) else pure (ForInStep.yield r)) >>= fun s => pure s) = pure cl
 rw [e1]; rfl
structure aJC (N : List Str) (sc : Scope) (N' : List Str) (scope : Scope) : Prop where
 kind : scope.kind = .function
 cells : ∀ y ∈ scope.names, y.2 = .cell -> scope.names.lookup y.1 = some .cell
 names : ∀ y ∈ scope.names, y.2 = .local -> scope.names.lookup y.1 = some .local
 free : ∀ y ∈ scope.names, y.2 = .free -> sc.names.lookup y.1 = some .cell
 fun' : sc.kind = .function
 nd : N'.Nodup
 old : ∀ (i : Nat) x, i < N.length -> N'[i]? = some x -> aDQ (aWR scope sc) x = true -> N[i]? = some x /\ scope.names.lookup x = some .free
 len : N.length <= N'.length
def eFJ (scope : Scope) (x : Str) : Bool := match scope.names.lookup x with
 | some .cell => true
 | _ => false
structure FC (names : List (Str × NameKind)) (cells : List (Str × Addr)) (n : Nat) (cl : List (Str × Addr)) (h : Heap) : Prop where
 look : ∀ m c, cl.lookup m = some c -> (cells.lookup m = some c /\ ¬ (m, NameKind.cell) ∈ names) \/ (n <= c /\ (m, NameKind.cell) ∈ names /\ h.IsCell c none)
 has : ∀ m, ((m, NameKind.cell) ∈ names \/ ∃ c, cells.lookup m = some c) -> ∃ c, cl.lookup m = some c
 inj : ∀ x y c, n <= c -> cl.lookup x = some c -> cl.lookup y = some c -> x = y
theorem aDX {M : Model} {A : Around} {E : Value -> Shared -> Prop} : ∀ (names : List (Str × NameKind)) (cells : List (Str × Addr)) (s : Shared) (Q : List (Str × Addr) -> Shared -> Prop), (∀ m c, cells.lookup m = some c -> c < s.heap.objs.size) ->
  (∀ cl h, (∀ b o, s.heap.get? b = some o -> h.get? b = some o) -> FC names cells s.heap.objs.size cl h -> Q cl { s with heap := h }) ->
  wpAny M A (forIn names cells fun x __s => match x with
   | (name, kind) => if (kind == NameKind.cell) = true then do
     let a <- alloc { cls := Value.type "cell", data := Data.cell none }
     pure (ForInStep.yield ((name, a) :: __s))
    else pure (ForInStep.yield __s)) Q E s
 | [], cells, s, Q, hb, q => by
  refine wpAny_pure (q cells s.heap (fun _ _ e => e) ⟨fun m c e => .inl ⟨e, fun z => nomatch z⟩, fun m hm => hm.elim (fun z => nomatch z) id, fun x y c hc e _ => absurd (hb x c e) (Nat.not_lt_of_le hc)⟩)
 | (name, kind) :: qZ, cells, s, Q, hb, q => by
  rw [List.forIn_cons]
  by_cases hk : kind = .cell
  ·subst hk
   refine wpAny_bind ?_
   show wpAny M A (alloc _ >>= _) _ _ s
   refine wpAny_bind (wpAny_alloc (wpAny_pure ?_))
   have hsz : (s.heap.push { cls := Value.type "cell", data := Data.cell none }).objs.size = s.heap.objs.size + 1 := by rw [Heap.size_push]
   refine aDX qZ _ _ _ (fun m c e => ?_) fun cl h kp f => q cl h (fun b o e => kp b o (Heap.get?_push_of_some _ e)) ⟨fun m c e => ?_, fun m hm => f.has m ?_, fun x y c hc ex ey => ?_⟩
   ·show c < (s.heap.push { cls := Value.type "cell", data := Data.cell none }).objs.size
    rw [hsz]
    rw [List.lookup_cons] at e
    split at e
    ·cases e; exact Nat.lt_succ_self _
    ·exact Nat.lt_succ_of_lt (hb m c e)
   ·have f' := f.look m c e
    rcases f' with ⟨e1, e2⟩ | ⟨e1, e2, e3⟩
    ·rw [List.lookup_cons] at e1
     split at e1
     ·rename_i hm
      cases e1
      have hm' : m = name := by simpa using hm
      subst hm'
      exact .inr ⟨Nat.le_refl _, by simp, ⟨_, kp _ _ (Heap.get?_push_size _ rfl), rfl⟩⟩
     ·rename_i hm
      have hm' : m ≠ name := by simpa using hm
      exact .inl ⟨e1, fun z => by
       rcases List.mem_cons.mp z with z | z
       ·exact hm' (congrArg Prod.fst z)
       ·exact e2 z⟩
    ·have e1' : s.heap.objs.size + 1 <= c := by rw [<- hsz]; exact e1
     exact .inr ⟨by omega, by simp [e2], e3⟩
   ·rcases hm with hm | ⟨c, hc⟩
    ·rcases List.mem_cons.mp hm with z | z
     ·right
      have : m = name := congrArg Prod.fst z
      subst this
      exact ⟨s.heap.objs.size, by rw [List.lookup_cons]; simp⟩
     ·exact .inl z
    ·right
     rw [List.lookup_cons]
     split
     ·exact ⟨_, rfl⟩
     ·exact ⟨c, hc⟩
   ·by_cases hc' : s.heap.objs.size + 1 <= c
    ·exact f.inj x y c (by show (s.heap.push _).objs.size <= c; rw [hsz]; exact hc') ex ey
    ·have one : ∀ z, cl.lookup z = some c -> z = name := fun z ez => by
      rcases f.look z c ez with ⟨e1, _⟩ | ⟨e1, _⟩
      ·rw [List.lookup_cons] at e1
       split at e1
       ·rename_i hm; simpa using hm
       ·exact absurd (hb z c e1) (Nat.not_lt_of_le hc)
      ·exact absurd (show s.heap.objs.size + 1 <= c from Nat.le_trans (Nat.le_of_eq hsz.symm) e1) hc'
     rw [one x ex, one y ey]
  ·have hk' : (kind == NameKind.cell) = false := by simpa using hk
   have mem : ∀ m, (m, NameKind.cell) ∈ (name, kind) :: qZ ↔ (m, NameKind.cell) ∈ qZ := fun m => by
    constructor
    ·intro z
     rcases List.mem_cons.mp z with z | z
     ·exact absurd (congrArg Prod.snd z).symm hk
     ·exact z
    ·intro z; simp [z]
   refine wpAny_bind ?_
   show wpAny M A (if (kind == NameKind.cell) = true then _ else _) _ _ s
   rw [hk', if_neg Bool.false_ne_true]
   refine wpAny_pure (aDX qZ cells s Q hb fun cl h kp f => q cl h kp ⟨fun m c e => ?_, fun m hm => f.has m ?_, f.inj⟩)
   ·rw [mem]; exact f.look m c e
   ·rw [mem] at hm; exact hm
theorem aQZ {M : Model} {A : Around} {E : Value -> Shared -> Prop} {s : Shared} {scope : Scope} {env : Env} {cl : List (Str × Addr)} {Q : Env -> Shared -> Prop} (hb : ∀ m c, cl.lookup m = some c -> c < s.heap.objs.size)
  (h : ∀ cl' h', (∀ b o, s.heap.get? b = some o -> h'.get? b = some o) -> (∃ m, h'.Ns s.heap.objs.size m) -> FC scope.names cl s.heap.objs.size cl' h' -> Q { scope := scope, locals := s.heap.objs.size, globals := env.globals, cells := cl', qual := env.qual, func := none, code := env.code, frame := env.frame, builtins := env.builtins } { s with heap := h' }) :
  wpAny M A (newFunctionEnv scope env.globals cl [] env.qual none .none (some env)) Q E s := by
 unfold newFunctionEnv
 refine wpAny_bind (wpAny_alloc ?_)
 have hsz : (s.heap.push { cls := Value.type "dict", data := Data.dict #[] }).objs.size = s.heap.objs.size + 1 := by rw [Heap.size_push]
 refine wpAny_bind (aDX scope.names cl _ _ (fun m c e => ?_) fun cl' h' kp f => ?_)
 ·show c < (s.heap.push { cls := Value.type "dict", data := Data.dict #[] }).objs.size
  rw [hsz]; exact Nat.lt_succ_of_lt (hb m c e)
 ·refine wpAny_bind (wpAny_pure (wpAny_pure ?_))
  obtain ⟨o, es, ep, g1, g2, g3, g4⟩ := Heap.Ns.new s.heap (.type "dict")
  refine h cl' h' (fun b o e => kp b o (Heap.get?_push_of_some _ e)) ⟨_, o, es, ep, kp _ _ g1, g2, g3, g4⟩ ⟨fun m c e => ?_, f.has, fun x y c hc ex ey => ?_⟩
  ·rcases f.look m c e with z | ⟨z1, z2, z3⟩
   ·exact .inl z
   ·have z1' : s.heap.objs.size + 1 <= c := Nat.le_trans (Nat.le_of_eq hsz.symm) z1
    exact .inr ⟨Nat.le_of_succ_le z1', z2, z3⟩
  ·by_cases hc' : s.heap.objs.size + 1 <= c
   ·exact f.inj x y c (Nat.le_trans (Nat.le_of_eq hsz) hc') ex ey
   ·have e : c = s.heap.objs.size := Nat.le_antisymm (Nat.le_of_lt_succ (Nat.lt_of_not_le hc')) hc
    rcases f.look x c ex with ⟨z, _⟩ | ⟨z, _⟩
    ·exact absurd (hb x c z) (Nat.not_lt_of_le hc)
    ·have z' : s.heap.objs.size + 1 <= c := Nat.le_trans (Nat.le_of_eq hsz.symm) z
     exact absurd z' hc'
structure CompX0 (X X' : Cx) (N' : List Str) (sc' : Scope) (ow : Str -> Bool) : Prop where
 at0 : At0 X' N' sc'
 cal : X'.calm = X.calm
 prog : X'.prog = X.prog
 w' : X'.w = X.w
 k' : X'.K = X.K
 mg' : X'.mg = X.mg
 base' : X'.base = X.base
 a' : X'.A = X.A
 fn' : ∀ x, ow x = true -> X'.fn x = true
structure CompX (X X' : Cx) (N' : List Str) (sc' : Scope) (ow : Str -> Bool) : Prop where
 at' : At X' N' sc'
 prog : X'.prog = X.prog
 w' : X'.w = X.w
 k' : X'.K = X.K
 mg' : X'.mg = X.mg
 base' : X'.base = X.base
 a' : X'.A = X.A
 fn' : ∀ x, ow x = true -> X'.fn x = true
section
variable {X X' : Cx} {N N' : List Str} {sc sc' : Scope} {ow : Str -> Bool}
theorem CompX0.calm (h : CompX0 X X' N' sc' ow) (hc : X.calm = true) : CompX X X' N' sc' ow := ⟨h.at0.at (h.cal.trans hc), h.prog, h.w', h.k', h.mg', h.base', h.a', h.fn'⟩
theorem CompX.callee {x : Str} {C : List D -> D -> Prop} (h : CompX X X' N' sc' ow) (c : Callee X x C) : Callee X' x C := by
 obtain ⟨f, fd, ps, k, F, hr, hm, hk, hb⟩ := c
 refine ⟨f, fd, ps, k, ?_, ?_, ?_, ?_, ?_⟩
 ·rw [h.prog, h.w', h.k', h.mg', h.base']; exact F
 ·rw [h.a']; exact hr
 ·rw [h.mg']; exact hm
 ·rw [h.k']; exact hk
 ·rw [h.k']; exact hb
end
inductive CRun (X : Cx) (tg elt : Expr) (ifs : List Expr) : List D -> Rho -> List D -> Prop where
 | nil {ρ : Rho} : CRun X tg elt ifs [] ρ []
 | take {d r : D} {ds rs : List D} {ρ ρ1 : Rho} : EvGn X ρ tg d ρ1 -> (ifs = [] \/ ∃ c, ifs = [c] /\ EvT X ρ1 c true) -> EvE X ρ1 elt r -> CRun X tg elt ifs ds ρ1 rs -> CRun X tg elt ifs (d :: ds) ρ (r :: rs)
 | skip {d : D} {ds rs : List D} {ρ ρ1 : Rho} {c : Expr} : EvGn X ρ tg d ρ1 -> ifs = [c] -> EvT X ρ1 c false -> CRun X tg elt ifs ds ρ1 rs -> CRun X tg elt ifs (d :: ds) ρ rs
section
variable {prog : Program} {w : World} {A : Around} {R : Result -> Shared -> Prop} {s : Shared}
theorem aPF {elt target iter : Expr} {ifs : List Expr} {scope : Scope} {pos : Pos} {it acc : Value} {env : Env} (I : Nat -> Shared -> Prop)
  (turn : ∀ n s, I n s -> wpAny (model prog w) A (pyNext it) (fun r s₁ => match r with
   | none => R (.ok .next) s₁
   | some v => wpAny (model prog w) A (letOwnedTupleGo target it v) (fun _ s₀ => wpAny (model prog w) A (assign target env v) (fun _ s₂ =>
     wpAny (model prog w) A (forIn ifs true fun c r => if r = true then do let ok <- isTrue c env (eval c env); pure (ForInStep.yield ok) else pure (ForInStep.yield r)) (fun ok s₃ =>
      if ok = true then wpAny (model prog w) A (eval elt env) (fun x s₄ =>
       wpAny (model prog w) A (call (.builtin "list.append") [acc, x]) (fun _ s₅ => ∃ m, m < n /\ I m s₅) (fun _ _ => False) s₄) (fun _ _ => False) s₃
      else ∃ m, m < n /\ I m s₃) (fun _ _ => False) s₂) (fun _ _ => False) s₀) (fun _ _ => False) s₁) (fun _ _ => False) s)
  (n : Nat) (h : I n s) :
  codeAny (model prog w) A (.compLoop (.ListComp elt [⟨target, iter, ifs, 0⟩] scope pos) 0 it acc env) R s := by
 refine codeAny_loop rfl I (fun n s hI => ?_) n h
 show wpAny _ A ((compTurn (.ListComp elt [⟨target, iter, ifs, 0⟩] scope pos) 0 it acc env).onRaise (fun x => do noteFrame x env; theTreesLotGoes x)) _ _ s
 refine wpAny_noted ?_
 rw [compTurn_list]
 refine wpAny_bind (wpAny_standAt (wpAny_bind (wpAny_mono (turn n s hI) (fun r s₁ h₁ => ?_) fun _ _ h' => h'.elim)))
 cases r with
 | none => exact wpAny_pure h₁
 | some v =>
  refine wpAny_bind (wpAny_mono h₁ (fun _ s₀ h₀ => wpAny_bind (wpAny_mono h₀ (fun _ s₂ h₂ => wpAny_bind (wpAny_mono h₂ (fun ok s₃ h₃ => ?_) fun _ _ h' => h'.elim)) fun _ _ h' => h'.elim)) fun _ _ h' => h'.elim)
  cases ok with
  | false => exact wpAny_pure ⟨rfl, h₃⟩
  | true =>
   exact wpAny_bind (wpAny_bind (wpAny_mono h₃ (fun x s₄ h₄ => wpAny_bind (wpAny_mono h₄ (fun _ s₅ h₅ => wpAny_pure (wpAny_pure ⟨rfl, h₅⟩)) fun _ _ h' => h'.elim)) fun _ _ h' => h'.elim))
end
theorem Ok.chgFree {K : PySem.W.Frag} {B : B0} {F H : Hp} {σ : St} {ρ : Rho} {p : Addr} {o : HO} (k : Ok K B F H σ ρ) (hf : F p = none) (hb : B.H p = none) (hn : NoOwn σ ρ p) (hl : ∃ vs, H p = some (.lst vs)) : Ok K B F (upd H p o) σ ρ := by
 refine ⟨⟨fun b u q => ?_, fun b u q => ?_, k.sf, k.nw⟩, k.len, k.vals, fun i xs e => ?_, k.dist, k.dic.to (.refl _) (fun b φ e1 e2 _ => ⟨by rw [yI (fun z => by subst z; obtain ⟨vs, hl⟩ := hl; rw [hl] at e1; cases e1)]; exact e1, e2⟩) fun _ _ e => ⟨e, rfl⟩⟩
 ·have ne : b ≠ p := fun z => by subst z; rw [hf] at q; cases q
  rw [yI ne]; exact k.sub b u q
 ·have ne : b ≠ p := fun z => by subst z; rw [hb] at q; cases q
  rw [yI ne]; exact k.sh b u q
 ·obtain ⟨a, vs, h1, h2, h3, h4, h5⟩ := k.owns i xs e
  have ne : a ≠ p := fun z => by subst z; exact hn i xs e h1
  exact ⟨a, vs, h1, by rw [yI ne]; exact h2, h3, h4, h5⟩
theorem Ok.more {K : PySem.W.Frag} {B : B0} {F H : Hp} {σ : St} {ρ : Rho} (k : Ok K B F H σ ρ) (n : Nat) : Ok K B F H (σ ++ List.replicate n none) (ρ ++ List.replicate n .un) := by
 have get : ∀ (i : Nat) s, (ρ ++ List.replicate n Sl.un)[i]? = some s -> s ≠ .un -> ρ[i]? = some s /\ (σ ++ List.replicate n none)[i]? = σ[i]? := fun i s h hn => by
  by_cases hi : i < ρ.length
  ·rw [List.getElem?_append_left hi] at h
   exact ⟨h, List.getElem?_append_left (by rw [k.len]; exact hi)⟩
  ·rw [List.getElem?_append_right (by omega), List.getElem?_replicate] at h
   split at h
   ·cases h; exact absurd rfl hn
   ·cases h
 refine ⟨k.toExt, by simp [k.len], fun i d h => ?_, fun i xs h => ?_, fun i j xs ys a h1 h2 h3 h4 => ?_, k.dic.to (.refl _) (fun _ _ e1 e2 _ => ⟨e1, e2⟩) fun i kvs h => get i _ h fun z => nomatch z⟩
 ·obtain ⟨e1, e2⟩ := get i _ h fun z => nomatch z
  rw [e2]; exact k.vals i d e1
 ·obtain ⟨e1, e2⟩ := get i _ h fun z => nomatch z
  rw [e2]; exact k.owns i xs e1
 ·obtain ⟨e1, e2⟩ := get i _ h1 fun z => nomatch z
  obtain ⟨g1, g2⟩ := get j _ h2 fun z => nomatch z
  rw [e2] at h3; rw [g2] at h4
  exact k.dist i j xs ys a e1 g1 h3 h4
theorem aBM {names : List (Str × NameKind)} {x : Str} {k : NameKind} (h : names.lookup x = some k) : (x, k) ∈ names := PySem.mem_of_lookup h
theorem aKJ {scope sc : Scope} (hf : sc.kind = .function) (fr : ∀ y ∈ scope.names, y.2 = .free -> sc.names.lookup y.1 = some .cell) {x : Str} {k : NameKind} (h : (aWR scope sc).names.lookup x = some k) :
  ∃ k', scope.names.lookup x = some k' /\ (k' = .free -> k = .cell) /\ (k' ≠ .free -> k = k') := by
 have go : ∀ names : List (Str × NameKind), (∀ y ∈ names, y.2 = .free -> sc.names.lookup y.1 = some .cell) -> (names.map fun (n, k) => if (k == NameKind.free && sc.kind == .function && sc.names.lookup n == some .cell) then (n, NameKind.cell) else (n, k)).lookup x = some k ->
   ∃ k', names.lookup x = some k' /\ (k' = .free -> k = .cell) /\ (k' ≠ .free -> k = k') := by
  intro names
  induction names with
  | nil => intro _ h; cases h
  | cons y r ih =>
   intro fr h
   obtain ⟨n, kk⟩ := y
   have hr := ih fun y hy => fr y (List.mem_cons_of_mem _ hy)
   by_cases hkk : kk = .free
   ·subst hkk
    have hc := fr (n, .free) List.mem_cons_self rfl
    have e : (if (NameKind.free == NameKind.free && sc.kind == .function && sc.names.lookup n == some .cell) = true then (n, NameKind.cell) else (n, NameKind.free)) = (n, NameKind.cell) := by
     have hc' : sc.names.lookup n = some .cell := hc
     rw [hc', hf]; rfl
    rw [List.map_cons] at h
    simp only [e] at h
    rw [List.lookup_cons] at h ⊢
    cases hx : x == n with
    | true => rw [hx] at h; cases h; exact ⟨.free, rfl, fun _ => rfl, fun z => absurd rfl z⟩
    | false => rw [hx] at h; exact hr h
   ·have e : (if (kk == NameKind.free && sc.kind == .function && sc.names.lookup n == some .cell) = true then (n, NameKind.cell) else (n, kk)) = (n, kk) := by
     have hb : (kk == NameKind.free) = false := beq_eq_false_iff_ne.mpr hkk
     rw [hb]; rfl
    rw [List.map_cons] at h
    simp only [e] at h
    rw [List.lookup_cons] at h ⊢
    cases hx : x == n with
    | true => rw [hx] at h; cases h; exact ⟨_, rfl, fun z => absurd z hkk, fun _ => rfl⟩
    | false => rw [hx] at h; exact hr h
 exact go scope.names fr h
def cxC (X : Cx) (N' : List Str) (scope : Scope) (cl : List (Str × Addr)) (C : Addr) (s3 : Shared) (H3 : Hp) (fp : List Addr) : Cx :=
 { X with N := N', s₀ := s3, H₀ := H3, env := compEnvC scope cl C X.env, outer := X.stack, stack := X.stack, ex := fp, fn := eFJ scope, pn := [], xe := fun _ _ => False }
section
variable {X : Cx} {N N' : List Str} {sc scope : Scope} {ρ : Rho} {tg elt iter : Expr} {ifs : List Expr} {pos : Pos} {pins : List (Addr × Obj)} {σ : St} {B : B0} {F2 H2 : Hp} {s2 : Shared} {it : Addr} {fp : List Addr} {tn : Nat -> Heap -> Prop} {J : It} {ds rs : List D}
theorem eLB {s3 : Shared} {H3 : Hp} {cl cl0 : List (Str × Addr)} (t : At0 X N sc) (S : aJC N sc N' scope) (I3 : Inv X pins σ H3 s3) (hc1 : ∀ n c, cl0.lookup n = some c -> X.env.cells.lookup n = some c) (hc2 : ∀ n, (n, NameKind.free) ∈ scope.names -> ∃ c, cl0.lookup n = some c) {h₁ : Heap} (CN : FC scope.names cl0 s3.heap.objs.size cl h₁)
  (fo : ∀ b ∈ fp, aUC X pins H3 b) (fl : ∀ b ∈ fp, b < s3.heap.objs.size) : (cxC X N' scope cl s3.heap.objs.size s3 H3 fp).Ok := by
 refine ⟨I3.ok.mod, ?_, I3.ok.glob, I3.ok.blt, Nat.le_refl _, fun x y c h1 h2 => ?_, fun x hx => ?_, (fun x c hf h => ?_), I3.ok.hd, I3.ok.frames, .inl rfl, fun b hb => ⟨?_, fun x c h => ?_⟩, I3.bs, Nat.le_trans I3.ok.bsz I3.sz, fun b o h hb => ?_, fun b hb h => ?_, I3.stack, I3.stkFree⟩
 ·exact S.kind
 ·by_cases hc : s3.heap.objs.size <= c
  ·exact CN.inj x y c hc h1 h2
  ·have old : ∀ z, cl.lookup z = some c -> X.env.cells.lookup z = some c := fun z ez => by
    rcases CN.look z c ez with ⟨e, _⟩ | ⟨e, _⟩
    ·exact hc1 z c e
    ·exact absurd e hc
   exact I3.ok.inj x y c (old x h1) (old y h2)
 ·have hx' : (relabel scope X.env).names.lookup x = some .cell \/ (relabel scope X.env).names.lookup x = some .free := hx
  rw [aSW t.eS] at hx'
  have hk : ∃ k, (k = NameKind.cell \/ k = .free) /\ (aWR scope sc).names.lookup x = some k := by
   rcases hx' with h | h
   ·exact ⟨_, .inl rfl, h⟩
   ·exact ⟨_, .inr rfl, h⟩
  obtain ⟨k, hk, h⟩ := hk
  obtain ⟨k', h1, h2, h3⟩ := aKJ S.fun' S.free h
  by_cases hf : k' = .free
  ·subst hf; exact CN.has x (.inr (hc2 x (aBM h1)))
  ·have e := h3 hf
   rcases hk with hk | hk
   ·have e' : k' = .cell := e.symm.trans hk
    subst e'
    exact CN.has x (.inl (aBM h1))
   ·exact absurd (e.symm.trans hk) hf
 ·have hm : (x, NameKind.cell) ∈ scope.names := by
   have hf' : eFJ scope x = true := hf
   unfold eFJ at hf'
   cases e : scope.names.lookup x with
   | none => rw [e] at hf'; cases hf'
   | some kk => rw [e] at hf'; cases kk <;> first | exact aBM e | cases hf'
  rcases CN.look x c h with ⟨_, e⟩ | ⟨e, _⟩
  ·exact absurd hm e
  ·exact e
 ·exact Nat.ne_of_lt (fl b hb)
 ·rcases CN.look x c h with ⟨e, _⟩ | ⟨e, _⟩
  ·exact (fo b hb).2.2.2.2.1 x c (hc1 x c e)
  ·exact fun z => absurd (fl b hb) (by rw [<- z]; exact Nat.not_lt_of_le e)
 ·rcases (fo b hb).2.2.2.1 with z | z
  ·exact I3.ok.noex b o h z
  ·have h1 := Heap.lt_size h
   have h2 := I3.ok.bsz
   exact absurd (Nat.lt_of_lt_of_le h1 (Nat.le_trans h2 z)) (Nat.lt_irrefl _)
 ·have h' : b ∈ frs X.stack := h
  rcases List.mem_cons.mp (I3.stkSub b h') with z | z
  ·exact (fo b hb).2.1 z
  ·exact (fo b hb).2.2.1 z
theorem eGR {s3 : Shared} {H3 : Hp} {cl cl0 : List (Str × Addr)} {tk : Nat} (t : At0 X N sc) (S : aJC N sc N' scope) (I3 : Inv X pins σ H3 s3) (hc1 : ∀ n c, cl0.lookup n = some c -> X.env.cells.lookup n = some c) (hc2 : ∀ n, (n, NameKind.free) ∈ scope.names -> ∃ c, cl0.lookup n = some c) {h₁ : Heap} (CN : FC scope.names cl0 s3.heap.objs.size cl h₁)
  (fo : ∀ b ∈ fp, aUC X pins H3 b) (fl : ∀ b ∈ fp, b < s3.heap.objs.size) (hns : ∃ m, h₁.Ns s3.heap.objs.size m) (kp : ∀ b o, s3.heap.get? b = some o -> h₁.get? b = some o) :
  Inv (cxC X N' scope cl s3.heap.objs.size s3 H3 fp) [] (σ ++ List.replicate (N'.length - N.length) none) H3 { s3 with heap := h₁, toks := tk } := by
 obtain ⟨m, hm⟩ := hns
 have hlen : σ.length = N.length := by rw [I3.len, t.eN]
 refine ⟨eLB t S I3 hc1 hc2 CN fo fl, rfl, I3.bare, Un.kept kp, ⟨m, hm, fun i x v h1 h2 h3 => ?_⟩, fun x c h => ?_, I3.hok.fresh (Nat.le_refl _), fun x c h => (CN.look x c h).elim (fun z => I3.freeC x c (hc1 x c z.1)) (fun z => I3.hok.fresh z.1), (fun p hp => nomatch hp), I3.hok.kept kp, ?_⟩
 ·have hi : i < σ.length := by
   by_cases hi : i < σ.length
   ·exact hi
   ·rw [List.getElem?_append_right (by omega), List.getElem?_replicate] at h2
    split at h2 <;> cases h2
  rw [List.getElem?_append_left hi] at h2
  have h3' : Vis (aWR scope sc) x := by rw [<- aSW t.eS]; exact h3
  have hv : aDQ (aWR scope sc) x = true := by
   unfold aDQ
   rcases h3' with z | z | z <;> rw [z]
  obtain ⟨e1, e2⟩ := S.old i x (by omega) h1 hv
  have hcell : sc.names.lookup x = some .cell := S.free _ (aBM e2) rfl
  obtain ⟨m0, hn0, hl0⟩ := I3.loc
  obtain ⟨u, ru, lk⟩ := hl0 i x v (by rw [t.eN]; exact e1) h2 (by rw [t.eS]; exact .inr (.inl hcell))
  refine ⟨u, ru, ?_⟩
  have hkx : X.env.kindOf x = some .cell := by show X.env.scope.names.lookup x = _; rw [t.eS]; exact hcell
  rcases lk with ⟨k, _⟩ | ⟨_, c, hc, hcc⟩
  ·rw [hkx] at k; cases k
  ·obtain ⟨c', hc'⟩ := CN.has x (.inr (hc2 x (aBM e2)))
   have ho : cl0.lookup x = some c' := by
    rcases CN.look x c' hc' with ⟨z, _⟩ | ⟨_, z, _⟩
    ·exact z
    ·have z' := S.cells _ z rfl
     rw [e2] at z'; cases z'
   have e : c' = c := Option.some.inj ((hc1 x c' ho).symm.trans hc)
   subst e
   refine .inr ⟨?_, c', hc', ?_⟩
   ·show (relabel scope X.env).names.lookup x = _ \/ (relabel scope X.env).names.lookup x = _
    rw [aSW t.eS]
    rcases h3' with z | z | z
    ·obtain ⟨k', g1, g2, g3⟩ := aKJ S.fun' S.free z
     by_cases hk' : k' = .free
     ·have := g2 hk'; cases this
     ·have e := g3 hk'
      subst e
      rw [e2] at g1
      cases g1
    ·exact .inl z
    ·exact .inr z
   ·obtain ⟨oc, ho, hd⟩ := hcc
    exact ⟨oc, kp _ _ ho, hd⟩
 ·rcases CN.look x c h with ⟨z, _⟩ | ⟨_, _, z⟩
  ·obtain ⟨v, oc, ho, hd⟩ := I3.cell x c (hc1 x c z)
   exact ⟨v, oc, kp _ _ ho, hd⟩
  ·exact ⟨_, z⟩
 ·show (σ ++ List.replicate (N'.length - N.length) none).length = N'.length
  have := S.len
  rw [List.length_append, List.length_replicate, hlen]
  omega
end
def eOH (X : Cx) (pins : List (Addr × Obj)) (σ : St) (F2 H2 : Hp) (rs : List D) (D' C : Addr) (s' : Shared) : Prop :=
 ∃ (F' H' : Hp) (vs : List V) (m : Str -> Option Value), Inv X pins σ H' s' /\ s'.heap.Ns C m /\ H' C = none /\ C ≠ X.env.locals /\ X.s₀.heap.objs.size <= C /\ (∀ x c, X.env.cells.lookup x = some c -> c ≠ C) /\ (∀ p ∈ X.pn ++ pins, p.1 ≠ C) /\
  Ext ⟨F2, H2⟩ F' H' /\ H2 D' = none /\ H' D' = some (.lst vs) /\ F' D' = none /\ RepL X.K F' vs rs /\ D' ≠ C
section
variable {X : Cx} {N N' : List Str} {sc scope : Scope} {ρ : Rho} {tg elt iter : Expr} {ifs : List Expr} {pos : Pos} {pins : List (Addr × Obj)} {σ : St} {B : B0} {F2 H2 : Hp} {s2 : Shared} {it : Addr} {fp : List Addr} {tn : Nat -> Heap -> Prop} {J : It} {ds rs : List D}
theorem aZI {cl cl0 : List (Str × Addr)} {s3 : Shared} {DD C : Addr} {h₁ : Heap} {tk : Nat} (t : At0 X N sc) (md : X.calm = true \/ (J.hot /\ eOE X.A H2)) (S : aJC N sc N' scope) (hC : s3.heap.objs.size = C) (hDC : DD ≠ C) (I3 : Inv X pins σ (upd H2 DD (.lst [])) s3) (hD0 : H2 DD = none)
  (fo3 : ∀ b ∈ fp, aUC X pins (upd H2 DD (.lst [])) b) (fl3 : ∀ b ∈ fp, b < s3.heap.objs.size) (T : eAH X.prog X.w X.K tg J fp it tn) (tn3 : tn 0 s3.heap)
  (hns₁ : ∃ m, h₁.Ns s3.heap.objs.size m) (kp4 : ∀ b o, s3.heap.get? b = some o -> h₁.get? b = some o)
  (k2 : Ok X.K B F2 H2 σ ρ) (JO : eAC X.K J F2 ds) (hz : ds.length < sizeLine)
  (hc1 : ∀ n c, cl0.lookup n = some c -> X.env.cells.lookup n = some c) (hc2 : ∀ n, (n, NameKind.free) ∈ scope.names -> ∃ c, cl0.lookup n = some c) (CN : FC scope.names cl0 s3.heap.objs.size cl h₁)
  (run : ∀ X', CompX0 X X' N' (aWR scope sc) (eFJ scope) -> CRun X' tg elt ifs ds (ρ ++ List.replicate (N'.length - N.length) .un) rs)
  {RR : Value -> Addr -> Result -> Shared -> Prop} (hRR : ∀ D' C s', eOH X pins σ F2 H2 rs D' C s' -> RR (.ref D') C (.ok .next) s') :
  codeAny (model X.prog X.w) X.A (.compStart (.ListComp elt [⟨tg, iter, ifs, 0⟩] scope pos) 0 (.ref it) (.ref DD) (compEnvC scope cl C X.env)) (RR (.ref DD) C) { s3 with heap := h₁, toks := tk } := by
 have I4 : Inv (cxC X N' scope cl C s3 (upd H2 DD (.lst [])) fp) [] (σ ++ List.replicate (N'.length - N.length) none) (upd H2 DD (.lst [])) { s3 with heap := h₁, toks := tk } := by
  have q := eGR (N' := N') (tk := tk) (fp := fp) t S I3 hc1 hc2 CN fo3 fl3 hns₁ kp4
  rw [hC] at q
  exact q
 generalize hX' : cxC X N' scope cl C s3 (upd H2 DD (.lst [])) fp = X' at I4
 have cx : CompX0 X X' N' (aWR scope sc) (eFJ scope) := by
  subst hX'
  exact ⟨⟨rfl, aSW t.eS, S.nd, rfl, t.un, t.dp, t.tree, t.fr⟩, rfl, rfl, rfl, rfl, rfl, rfl, rfl, fun x hx => hx⟩
 have md' : X'.calm = true \/ (J.hot /\ eNL X') := by
  rcases md with z | ⟨z, ea, oe, u, vs, k1, k2, k3, k4⟩
  ·exact .inl (cx.cal.trans z)
  ·refine .inr ⟨z, ea, oe, u, vs, by rw [cx.a']; exact k1, ?_, k3, k4⟩
   have e : X'.H₀ = upd H2 DD (.lst []) := by subst hX'; rfl
   rw [e, yI (zZ k2 hD0)]; exact k2
 have run' := run X' cx
 have eP : X'.prog = X.prog := cx.prog
 have eW : X'.w = X.w := cx.w'
 have eA : X'.A = X.A := cx.a'
 have eK : X'.K = X.K := cx.k'
 have eEnv : X'.env = compEnvC scope cl C X.env := by subst hX'; rfl
 have eX : X'.xe = fun _ _ => False := cx.at0.nox
 have eEx : X'.ex = fp := by subst hX'; rfl
 have ePn : X'.pn = [] := by subst hX'; rfl
 have k4 : Ok X.K B F2 (upd H2 DD (.lst [])) (σ ++ List.replicate (N'.length - N.length) none) (ρ ++ List.replicate (N'.length - N.length) .un) := (k2.growH hD0).more _
 have no4 : NoOwn (σ ++ List.replicate (N'.length - N.length) none) (ρ ++ List.replicate (N'.length - N.length) .un) DD := (k2.more _).noOwn hD0
 have bD : B.H DD = none := k2.sh.free hD0
 have fD : F2 DD = none := k2.sub.free hD0
 have fp4 : ∀ {H' : Hp}, (∀ b ∈ fp, H' b = none) -> ∀ b ∈ fp, aUC X' [] H' b := fun {H'} hn b hb => by
  refine ⟨hn b hb, ?_, ?_, .inl (by rw [eEx]; exact hb), fun x c h => ?_, fun p hp => ?_⟩
  ·exact (I4.ok.exf b (by rw [eEx]; exact hb)).1
  ·exact I4.ok.exfs b (by rw [eEx]; exact hb)
  ·exact (I4.ok.exf b (by rw [eEx]; exact hb)).2 x c h
  ·rw [ePn] at hp; exact nomatch hp
 have fin : ∀ (σ' : St) (F' H' : Hp) (vs : List V) (s' : Shared), Inv X' [] σ' H' s' -> Ext ⟨F2, H2⟩ F' H' -> H' DD = some (.lst vs) -> F' DD = none -> RepL X.K F' vs rs -> RR (.ref DD) C (.ok .next) s' := fun σ' F' H' vs s' I' x' h1 h2 h3 => by
  refine hRR DD C s' ?_
  have base := I'.base
  have hos := I'.os
  have hhok := I'.hok
  have hfree := I'.free
  obtain ⟨m, hm, _⟩ := I'.loc
  rw [eEnv] at hfree hm
  rw [eEx] at base
  have e1 : X'.fs = frs X.stack := by subst hX'; rfl
  have e2 : X'.H₀ = upd H2 DD (.lst []) := by subst hX'; rfl
  have e3 : X'.s₀ = s3 := by subst hX'; rfl
  rw [e1, e2, e3] at base
  rw [e3] at hos
  rw [eP, eW] at hhok
  have IX : Inv X pins σ H' s' := I3.call' (ch := fp) hos base hhok I'.bare fun b hb => ⟨(fo3 b hb).2.2.2.1, (fo3 b hb).2.1, (fo3 b hb).2.2.2.2.1, (fo3 b hb).2.2.2.2.2⟩
  refine ⟨F', H', vs, m, IX, hm, hfree, ?_, ?_, fun x c h z => ?_, fun p hp z => ?_, x', hD0, h1, h2, h3, hDC⟩
  ·have := I3.lt; rw [hC] at this; exact fun z => absurd (z ▸ this) (Nat.lt_irrefl _)
  ·have := I3.sz; rw [hC] at this; exact this
  ·obtain ⟨v, q⟩ := I3.cell x c h
   have := q.lt; rw [hC, z] at this; exact absurd this (Nat.lt_irrefl _)
  ·have := Heap.lt_size (I3.pin p hp).1
   rw [hC, z] at this; exact absurd this (Nat.lt_irrefl _)
 have tn4 : tn 0 h₁ := T.keep 0 _ _ tn3 fun b hb o e => kp4 b o e
 have loop : ∀ s4 : Shared, s4 = { s3 with heap := h₁, toks := tk } ->
   codeAny (model X.prog X.w) X.A (.compLoop (.ListComp elt [⟨tg, iter, ifs, 0⟩] scope pos) 0 (.ref it) (.ref DD) (compEnvC scope cl C X.env)) (RR (.ref DD) C) s4 := by
  rintro s4 rfl
  refine aPF (fun n s' => ∃ (i : Nat) (σ' : St) (F' H' : Hp) (ρ' : Rho) (vs : List V) (r0 r1 : List D), Inv X' [] σ' H' s' /\ tn i s'.heap /\ (∀ b ∈ fp, H' b = none) /\ Ok X.K B F' H' σ' ρ' /\ Ext ⟨F2, H2⟩ F' H' /\ H' DD = some (.lst vs) /\ F' DD = none /\ NoOwn σ' ρ' DD /\
    RepL X.K F' vs r0 /\ CRun X' tg elt ifs (ds.drop i) ρ' r1 /\ r0 ++ r1 = rs /\ r0.length <= i /\ i <= ds.length /\ n = ds.length + 1 - i) ?_ (ds.length + 1)
   ⟨0, _, F2, _, _, [], [], rs, I4, tn4, fun b hb => (fo3 b hb).1, k4, ⟨k2.sub.trans (yM hD0), yM hD0, .refl _, fun a h => .inl h⟩, yK, fD, no4, .nil, by simpa using run', rfl, Nat.zero_le _, Nat.zero_le _, by simp⟩
  rintro n s' ⟨i, σ', F', H', ρ', vs, r0, r1, I', tni, fpi, k', x', hH, hF, no', rv, cr, er, hr0, hi, rfl⟩
  have JO' := JO i F' H' x'.sf k'.sub
  have TI := T.item X' eP eW eK md' i [] s' σ' H' (fun _ _ => False) I' (fp4 fpi) tni
  have TD := T.done X' eP eW eK md' i [] s' σ' H' (fun _ _ => False) I' (fp4 fpi) tni
  rw [eA] at TI TD
  generalize e1 : ds.drop i = qZ at cr
  have stepI : ∀ {d : D} {rest' : List D} {ρ1 : Rho} (hd : ds[i]? = some d) (g : EvGn X' ρ' tg d ρ1)
    (K : ∀ (pins' : List (Addr × Obj)) (s5 : Shared) (σ5 : St) (F5 H5 : Hp), Inv X' pins' σ5 H5 s5 -> Ok X.K B F5 H5 σ5 ρ1 -> Ext ⟨F2, H2⟩ F5 H5 -> H5 DD = some (.lst vs) -> F5 DD = none -> NoOwn σ5 ρ1 DD -> RepL X.K F5 vs r0 ->
     (∀ (s6 : Shared) (σ6 : St) (H6 : Hp), Inv X' pins' σ6 H6 s6 -> Inv X' [] σ6 H6 s6 /\ tn (i + 1) s6.heap /\ ∀ b ∈ fp, H6 b = none) ->
     wpAny (model X.prog X.w) X.A (forIn ifs true fun c r => if r = true then do let ok <- isTrue c (compEnvC scope cl C X.env) (eval c (compEnvC scope cl C X.env)); pure (ForInStep.yield ok) else pure (ForInStep.yield r)) (fun ok s₃ =>
      if ok = true then wpAny (model X.prog X.w) X.A (eval elt (compEnvC scope cl C X.env)) (fun x s₄ =>
       wpAny (model X.prog X.w) X.A (call (.builtin "list.append") [.ref DD, x]) (fun _ s₅ => ∃ m, m < ds.length + 1 - i /\ ∃ (i : Nat) (σ' : St) (F' H' : Hp) (ρ' : Rho) (vs : List V) (r0 r1 : List D), Inv X' [] σ' H' s₅ /\ tn i s₅.heap /\ (∀ b ∈ fp, H' b = none) /\ Ok X.K B F' H' σ' ρ' /\ Ext ⟨F2, H2⟩ F' H' /\ H' DD = some (.lst vs) /\ F' DD = none /\ NoOwn σ' ρ' DD /\
    RepL X.K F' vs r0 /\ CRun X' tg elt ifs (ds.drop i) ρ' r1 /\ r0 ++ r1 = rs /\ r0.length <= i /\ i <= ds.length /\ m = ds.length + 1 - i) (fun _ _ => False) s₄) (fun _ _ => False) s₃
      else ∃ m, m < ds.length + 1 - i /\ ∃ (i : Nat) (σ' : St) (F' H' : Hp) (ρ' : Rho) (vs : List V) (r0 r1 : List D), Inv X' [] σ' H' s₃ /\ tn i s₃.heap /\ (∀ b ∈ fp, H' b = none) /\ Ok X.K B F' H' σ' ρ' /\ Ext ⟨F2, H2⟩ F' H' /\ H' DD = some (.lst vs) /\ F' DD = none /\ NoOwn σ' ρ' DD /\
    RepL X.K F' vs r0 /\ CRun X' tg elt ifs (ds.drop i) ρ' r1 /\ r0 ++ r1 = rs /\ r0.length <= i /\ i <= ds.length /\ m = ds.length + 1 - i) (fun _ _ => False) s5),
    wpAny (model X.prog X.w) X.A (pyNext (.ref it)) (fun r s₁ => match r with
   | none => RR (.ref DD) C (.ok .next) s₁
   | some v => wpAny (model X.prog X.w) X.A (letOwnedTupleGo tg (.ref it) v) (fun _ s₀ => wpAny (model X.prog X.w) X.A (assign tg (compEnvC scope cl C X.env) v) (fun _ s₂ =>
     wpAny (model X.prog X.w) X.A (forIn ifs true fun c r => if r = true then do let ok <- isTrue c (compEnvC scope cl C X.env) (eval c (compEnvC scope cl C X.env)); pure (ForInStep.yield ok) else pure (ForInStep.yield r)) (fun ok s₃ =>
      if ok = true then wpAny (model X.prog X.w) X.A (eval elt (compEnvC scope cl C X.env)) (fun x s₄ =>
       wpAny (model X.prog X.w) X.A (call (.builtin "list.append") [.ref DD, x]) (fun _ s₅ => ∃ m, m < ds.length + 1 - i /\ ∃ (i : Nat) (σ' : St) (F' H' : Hp) (ρ' : Rho) (vs : List V) (r0 r1 : List D), Inv X' [] σ' H' s₅ /\ tn i s₅.heap /\ (∀ b ∈ fp, H' b = none) /\ Ok X.K B F' H' σ' ρ' /\ Ext ⟨F2, H2⟩ F' H' /\ H' DD = some (.lst vs) /\ F' DD = none /\ NoOwn σ' ρ' DD /\
    RepL X.K F' vs r0 /\ CRun X' tg elt ifs (ds.drop i) ρ' r1 /\ r0 ++ r1 = rs /\ r0.length <= i /\ i <= ds.length /\ m = ds.length + 1 - i) (fun _ _ => False) s₄) (fun _ _ => False) s₃
      else ∃ m, m < ds.length + 1 - i /\ ∃ (i : Nat) (σ' : St) (F' H' : Hp) (ρ' : Rho) (vs : List V) (r0 r1 : List D), Inv X' [] σ' H' s₃ /\ tn i s₃.heap /\ (∀ b ∈ fp, H' b = none) /\ Ok X.K B F' H' σ' ρ' /\ Ext ⟨F2, H2⟩ F' H' /\ H' DD = some (.lst vs) /\ F' DD = none /\ NoOwn σ' ρ' DD /\
    RepL X.K F' vs r0 /\ CRun X' tg elt ifs (ds.drop i) ρ' r1 /\ r0 ++ r1 = rs /\ r0.length <= i /\ i <= ds.length /\ m = ds.length + 1 - i) (fun _ _ => False) s₂) (fun _ _ => False) s₀) (fun _ _ => False) s₁) (fun _ _ => False) s' := by
   intro d rest' ρ1 hd g K
   obtain ⟨go, yl⟩ := JO'.1 _ hd
   refine thn (TI go) fun r s4 ⟨u, hr, h4⟩ => ?_
   subst hr
   refine thn h4 fun _ s5 ⟨x, H5, I5, r5, y5, st5, fr5⟩ => ?_
   obtain ⟨F5, x5, rx⟩ := yl x H5 y5
   have I5' := I5.pinned (fp4 fr5) (T.obj _ _ st5)
   have gg := g B F5 H5 σ' x (fun σ6 H6 => H6 = H5 /\ Ok X.K B F5 H5 σ6 ρ1 /\ NoOwn σ6 ρ1 DD) (by rw [eK]; exact k'.ext x5) (by rw [eK]; exact rx) (fun σ6 k6 n6 => ⟨rfl, by rw [eK] at k6; exact k6, n6 DD no'⟩) _ s5 u I5' r5
   rw [eP, eW, eA, eEnv, eX] at gg
   refine thn gg fun _ s6 ⟨σ6, H6, I6, e6, k6, n6⟩ => ?_
   subst e6
   refine K _ s6 σ6 F5 H6 I6 k6 (x'.t x5) (x5.sh _ _ hH) ?_ n6 (rv.mono x5.sf) fun s7 σ7 H7 I7 => ⟨I7.unpinned, T.keep _ _ _ st5 fun b hb o e => (I7.pin (b, o) (List.mem_append_right _ (List.mem_append_right _ (aDD hb e)))).1, fun b hb => ?_⟩
   ·cases q : F5 DD with
    | none => rfl
    | some w =>
     rcases x5.nw DD (by rw [q]; exact fun z => nomatch z) with z | z
     ·exact absurd hF z
     ·have z' : H' DD = none := z
      rw [hH] at z'; cases z'
   ·obtain ⟨o, e, d⟩ := T.obj _ _ st5 b hb
    exact (I7.pin (b, o) (List.mem_append_right _ (List.mem_append_right _ (aDD hb e)))).2.1
  have eltI : ∀ {d r : D} {rest' rs' : List D} {ρ1 : Rho} (hlt : i < ds.length) (hdr : ds.drop (i + 1) = rest') (ev : EvE X' ρ1 elt r) (cr' : CRun X' tg elt ifs rest' ρ1 rs') (er' : r0 ++ (r :: rs') = rs) (pins' : List (Addr × Obj)) (s5 : Shared) (σ5 : St) (F5 H5 : Hp), Inv X' pins' σ5 H5 s5 -> Ok X.K B F5 H5 σ5 ρ1 -> Ext ⟨F2, H2⟩ F5 H5 -> H5 DD = some (.lst vs) -> F5 DD = none -> NoOwn σ5 ρ1 DD -> RepL X.K F5 vs r0 ->
     (∀ (s6 : Shared) (σ6 : St) (H6 : Hp), Inv X' pins' σ6 H6 s6 -> Inv X' [] σ6 H6 s6 /\ tn (i + 1) s6.heap /\ ∀ b ∈ fp, H6 b = none) ->
     wpAny (model X.prog X.w) X.A (eval elt (compEnvC scope cl C X.env)) (fun x s₄ =>
       wpAny (model X.prog X.w) X.A (call (.builtin "list.append") [.ref DD, x]) (fun _ s₅ => ∃ m, m < ds.length + 1 - i /\ ∃ (i : Nat) (σ' : St) (F' H' : Hp) (ρ' : Rho) (vs : List V) (r0 r1 : List D), Inv X' [] σ' H' s₅ /\ tn i s₅.heap /\ (∀ b ∈ fp, H' b = none) /\ Ok X.K B F' H' σ' ρ' /\ Ext ⟨F2, H2⟩ F' H' /\ H' DD = some (.lst vs) /\ F' DD = none /\ NoOwn σ' ρ' DD /\
    RepL X.K F' vs r0 /\ CRun X' tg elt ifs (ds.drop i) ρ' r1 /\ r0 ++ r1 = rs /\ r0.length <= i /\ i <= ds.length /\ m = ds.length + 1 - i) (fun _ _ => False) s₄) (fun _ _ => False) s5 := by
   intro d r rest' rs' ρ1 hlt hdr ev cr' er' pins' s5 σ5 F5 H5 I5 k5 x5 h5 f5 n5 rv5 back
   have ee := ev B F5 H5 σ5 (fun v H6 => ∃ F6, Ext ⟨F5, H5⟩ F6 H6 /\ Rep X.K F6 v r) (by rw [eK]; exact k5) (fun v F6 H6 x6 r6 => ⟨F6, x6, by rw [eK] at r6; exact r6⟩) pins' s5 I5
   rw [eP, eW, eA, eEnv, eX] at ee
   refine thn ee fun u s6 ⟨v, H6, I6, ru, F6, x6, r6⟩ => ?_
   have h6 := x6.sh _ _ h5
   have f6 : F6 DD = none := by
    cases q : F6 DD with
    | none => rfl
    | some w =>
     rcases x6.nw DD (by rw [q]; exact fun z => nomatch z) with z | z
     ·exact absurd f5 z
     ·have z' : H5 DD = none := z
      rw [h5] at z'; cases z'
   have hlen : vs.length < sizeLine := by
    have := rv5.length
    omega
   have app := aEN (X := X') pins' s6 σ5 H6 (.ref DD) [v] (.ref DD) [u] (fun z H7 => H7 = upd H6 DD (.lst (vs ++ [v]))) I6 rfl (.cons ru .nil) ⟨DD, vs, v, rfl, rfl, h6, hlen, rfl⟩
   rw [eP, eW, eA, eX] at app
   refine thn app fun _ s7 ⟨z, H7, I7, _, e7⟩ => ?_
   subst e7
   obtain ⟨I8, t8, f8⟩ := back s7 σ5 _ I7
   have x7 := x5.t x6
   refine ⟨ds.length + 1 - (i + 1), by omega, i + 1, σ5, F6, _, ρ1, vs ++ [v], r0 ++ [r], rs', I8, t8, f8, (k5.ext x6).chgFree f6 bD n5 ⟨_, h6⟩, ⟨fun b w q => ?_, fun b w q => ?_, x7.sf, x7.nw⟩, yK, f6, n5, (rv5.mono x6.sf).append (.cons r6 .nil), by rw [hdr]; exact cr', by rw [List.append_assoc]; exact er', by rw [List.length_append, List.length_singleton]; omega, hlt, rfl⟩
   ·have ne : b ≠ DD := fun z => by subst z; rw [f6] at q; cases q
    rw [yI ne]; exact x6.sub b w q
   ·have ne : b ≠ DD := fun z => by subst z; have q' : H2 b = some w := q; rw [hD0] at q'; cases q'
    rw [yI ne]; exact x7.sh b w q
  cases cr with
  | nil =>
   have hl : ds.length <= i := by
    have := congrArg List.length e1
    rw [List.length_drop, List.length_nil] at this
    omega
   refine thn (TD (JO'.2 hl)) fun r s4 ⟨hr, I4'⟩ => ?_
   subst hr
   rw [List.append_nil] at er
   subst er
   exact fin σ' F' H' vs s4 I4' x' hH hF rv
  | @take d r ds0 rs0 ρ0 ρ1 g ci ev cr' =>
   obtain ⟨hd, hdr, hlt⟩ := aBP e1
   refine stepI (rest' := ds0) hd g fun pins' s5 σ5 F5 H5 I5 k5 x5 h5 f5 n5 rv5 back => ?_
   rcases ci with rfl | ⟨c, rfl, et⟩
   ·refine wpAny_tests_nil ?_
    rw [if_pos rfl]
    exact eltI (d := d) hlt hdr ev cr' er pins' s5 σ5 F5 H5 I5 k5 x5 h5 f5 n5 rv5 back
   ·have tt := et B F5 H5 σ5 (fun b H6 => b = true /\ ∃ F6, Ext ⟨F5, H5⟩ F6 H6) (by rw [eK]; exact k5) (fun F6 H6 x6 => ⟨rfl, F6, x6⟩) pins' s5 I5
    rw [eP, eW, eA, eEnv, eX] at tt
    refine wpAny_tests_one (thn tt fun b s6 ⟨H6, I6, eb, F6, x6⟩ => ?_)
    subst eb
    rw [if_pos rfl]
    have f6 : F6 DD = none := by
     cases q : F6 DD with
     | none => rfl
     | some w =>
      rcases x6.nw DD (by rw [q]; exact fun z => nomatch z) with z | z
      ·exact absurd f5 z
      ·have z' : H5 DD = none := z
       rw [h5] at z'; cases z'
    exact eltI (d := d) hlt hdr ev cr' er pins' s6 σ5 F6 H6 I6 (k5.ext x6) (x5.t x6) (x6.sh _ _ h5) f6 n5 (rv5.mono x6.sf) back
  | @skip d ds0 rs0 ρ0 ρ1 c g hc et cr' =>
   obtain ⟨hd, hdr, hlt⟩ := aBP e1
   subst hc
   refine stepI (rest' := ds0) hd g fun pins' s5 σ5 F5 H5 I5 k5 x5 h5 f5 n5 rv5 back => ?_
   have tt := et B F5 H5 σ5 (fun b H6 => b = false /\ ∃ F6, Ext ⟨F5, H5⟩ F6 H6) (by rw [eK]; exact k5) (fun F6 H6 x6 => ⟨rfl, F6, x6⟩) pins' s5 I5
   rw [eP, eW, eA, eEnv, eX] at tt
   refine wpAny_tests_one (thn tt fun b s6 ⟨H6, I6, eb, F6, x6⟩ => ?_)
   subst eb
   rw [if_neg Bool.false_ne_true]
   have f6 : F6 DD = none := by
    cases q : F6 DD with
    | none => rfl
    | some w =>
     rcases x6.nw DD (by rw [q]; exact fun z => nomatch z) with z | z
     ·exact absurd f5 z
     ·have z' : H5 DD = none := z
      rw [h5] at z'; cases z'
   obtain ⟨I8, t8, f8⟩ := back s6 σ5 _ I6
   exact ⟨ds.length + 1 - (i + 1), by omega, i + 1, σ5, F6, H6, ρ1, vs, r0, _, I8, t8, f8, k5.ext x6, x5.t x6, x6.sh _ _ h5, f6, n5, rv5.mono x6.sf, by rw [hdr]; exact cr', er, by omega, hlt, rfl⟩
 exact codeAny_compStart_list (loop _ rfl) (T.self _ 0 _ _ _ tn4 (loop _ rfl))
theorem eBQ {E : Value -> Shared -> Prop} {cl : List (Str × Addr)} (t : At0 X N sc) (md : X.calm = true \/ (J.hot /\ eOE X.A H2)) (S : aJC N sc N' scope) (I2 : Inv X pins σ H2 s2) (T : eAH X.prog X.w X.K tg J fp it tn) (t0 : tn 0 s2.heap) (fo2 : ∀ b ∈ fp, aUC X pins H2 b)
  (k2 : Ok X.K B F2 H2 σ ρ) (JO : eAC X.K J F2 ds) (hz : ds.length < sizeLine)
  (hc1 : ∀ n c, cl.lookup n = some c -> X.env.cells.lookup n = some c) (hc2 : ∀ n, (n, NameKind.free) ∈ scope.names -> ∃ c, cl.lookup n = some c)
  (run : ∀ X', CompX0 X X' N' (aWR scope sc) (eFJ scope) -> CRun X' tg elt ifs ds (ρ ++ List.replicate (N'.length - N.length) .un) rs)
  {RR : Value -> Addr -> Result -> Shared -> Prop} (hRR : ∀ D' C s', eOH X pins σ F2 H2 rs D' C s' -> RR (.ref D') C (.ok .next) s') :
  wpAny (model X.prog X.w) X.A (newList []) (fun acc s₃ => wpAny (model X.prog X.w) X.A (newFunctionEnv scope X.env.globals cl [] X.env.qual none .none (some X.env)) (fun cenv s₄ =>
   codeAny (model X.prog X.w) X.A (.compStart (.ListComp elt [⟨tg, iter, ifs, 0⟩] scope pos) 0 (.ref it) acc { cenv with scope := relabel scope X.env }) (RR acc cenv.locals) s₄) E s₃) E s2 := by
 have hclb : ∀ m c, cl.lookup m = some c -> c < (s2.heap.push { cls := .type "list", data := .seq ([] : List Value).toArray }).objs.size := fun m c e => by
  obtain ⟨v, q⟩ := I2.cell m c (hc1 m c e)
  rw [Heap.size_push]; exact Nat.lt_succ_of_lt q.lt
 refine wpAny_newObj_type (aQZ hclb fun cl' h₁ kp₁ hns₁ CN => ?_)
 have I3 : Inv X pins σ (upd H2 s2.heap.objs.size (.lst [])) { s2 with heap := s2.heap.push { cls := .type "list", data := .seq ([] : List Value).toArray } } := I2.lnew (t' := s2.toks) (ys := []) .nil (Nat.zero_le _)
 have hD0 : H2 s2.heap.objs.size = none := I2.hok.fresh (Nat.le_refl _)
 have hsz : (s2.heap.push { cls := .type "list", data := .seq ([] : List Value).toArray }).objs.size = s2.heap.objs.size + 1 := by rw [Heap.size_push]
 have tfp : ∀ b ∈ fp, b < s2.heap.objs.size := fun b hb => by
  obtain ⟨o, e, _⟩ := T.obj 0 _ t0 b hb
  exact Heap.lt_size e
 refine aZI (s3 := { s2 with heap := s2.heap.push { cls := .type "list", data := .seq ([] : List Value).toArray } }) t md S rfl (by
  show s2.heap.objs.size ≠ (s2.heap.push { cls := .type "list", data := .seq ([] : List Value).toArray }).objs.size
  rw [hsz]; exact Nat.ne_of_lt (Nat.lt_succ_self _)) I3 hD0 (fun b hb => ?_) (fun b hb => ?_) T (T.keep 0 _ _ t0 fun b hb o e => Heap.get?_push_of_some _ e) hns₁ kp₁ k2 JO hz hc1 hc2 CN run hRR
 ·obtain ⟨f0, f1⟩ := fo2 b hb
  exact ⟨by rw [yI (Nat.ne_of_lt (tfp b hb))]; exact f0, f1⟩
 ·show b < (s2.heap.push { cls := .type "list", data := .seq ([] : List Value).toArray }).objs.size
  rw [hsz]; exact Nat.lt_succ_of_lt (tfp b hb)
end
section
variable {X : Cx} {N : List Str} {sc scope : Scope} {ρ : Rho} {tg elt iter : Expr} {ifs : List Expr} {pos : Pos} {ds rs : List D}
theorem eGV (t : At0 X N sc) {N' : List Str} (S : aJC N sc N' scope) {pins : List (Addr × Obj)} {σ : St} {H : Hp} {s : Shared} (I : Inv X pins σ H s) :
  ∃ cl : List (Str × Addr), closureFor scope X.env = pure cl /\ (∀ n c, cl.lookup n = some c -> X.env.cells.lookup n = some c) /\ (∀ n, (n, NameKind.free) ∈ scope.names -> ∃ c, cl.lookup n = some c) :=
 aVB fun n hn => I.ok.has n (.inl (by show X.env.scope.names.lookup n = _; rw [t.eS]; exact S.free _ hn rfl))
theorem aFK (t : At X N sc) (N' : List Str) (S : aJC N sc N' scope) (hi : EvI X ρ tg iter ds) (hz : ds.length < sizeLine) (run : ∀ X', CompX X X' N' (aWR scope sc) (eFJ scope) -> CRun X' tg elt ifs ds (ρ ++ List.replicate (N'.length - N.length) .un) rs)
  (hs : ∀ x, foldedSetIterable iter X.env x = pure x := by intro _; rfl) : EvN X ρ (.ListComp elt [⟨tg, iter, ifs, 0⟩] scope pos) rs := fun B F H σ Q k q => .mk fun pins s I => by
 obtain ⟨cl, e1, e2, e3⟩ := eGV t.z S I
 rw [eval_ListComp]
 have h1 := hi B F H σ (fun J H1 => ∃ F1, Ext ⟨F, H⟩ F1 H1 /\ eAC X.K J F1 ds) k (fun J F' H' x j => ⟨F', x, j⟩) pins s I
 refine wpAny_comprehension_free (use := none) rfl hs e1 S.kind S.names (thn h1 fun v s1 h => thn h fun itv s2 h2 => ?_)
 obtain ⟨it, fp, tn, J, H', e, I2, T, t0, fo, F1, x1, JO⟩ := h2
 subst e
 refine eBQ (RR := fun acc C => compPost (model X.prog X.w) X.A X.xe none (EP X pins σ Q) acc C) t.z (.inl t.calm) S I2 T t0 fo (k.ext x1) JO hz e2 e3 (fun X' c0 => run X' (c0.calm t.calm)) ?_
 rintro D' C s' ⟨F', H'', vs, m, IX, hm, h0, hL, hs0, hcl, hpn, x', hd0, hd, hf, rv, hDC⟩
 refine ⟨m, hm, fun h'' sb => ?_⟩
 have IX' : Inv X pins σ H'' { s' with heap := h'' } := IX.turned (t' := s'.toks) (it := C) (fun b o hb e => sb.extBut b o hb e) h0 hL (.inr hs0) hcl hpn
 exact ⟨.ref D', H'', IX', rfl, q D' vs F' H'' (x1.t x') (x1.sh.free hd0) hd hf rv⟩
theorem CRun.all {X : Cx} {tg elt : Expr} (R : D -> Rho) (f : D -> D) : ∀ (ds : List D) (ρ : Rho), (∀ d ∈ ds, EvGn X ρ tg d (R d)) -> (∀ d ∈ ds, ∀ e ∈ ds, EvGn X (R d) tg e (R e)) -> (∀ d ∈ ds, EvE X (R d) elt (f d)) -> CRun X tg elt [] ds ρ (ds.map f)
 | [], _, _, _, _ => .nil
 | d :: ds, ρ, h1, h2, h3 => .take (h1 d List.mem_cons_self) (.inl rfl) (h3 d List.mem_cons_self)
   (CRun.all R f ds (R d) (fun e he => h2 d List.mem_cons_self e (List.mem_cons_of_mem _ he)) (fun a ha e he => h2 a (List.mem_cons_of_mem _ ha) e (List.mem_cons_of_mem _ he)) fun e he => h3 e (List.mem_cons_of_mem _ he))
end
def eNX (N : List Str) (sc : Scope) (N' : List Str) (scope : Scope) : Bool :=
 decide (scope.kind = .function) && scope.names.all (fun y => decide (y.2 = .cell -> scope.names.lookup y.1 = some .cell)) && scope.names.all (fun y => decide (y.2 = .local -> scope.names.lookup y.1 = some .local)) &&
  scope.names.all (fun y => decide (y.2 = .free -> sc.names.lookup y.1 = some .cell)) && decide (sc.kind = .function) && decide N'.Nodup &&
  (List.range N.length).all (fun i => match N'[i]? with
   | some x => !(aDQ (aWR scope sc) x) || (decide (N[i]? = some x) && decide (scope.names.lookup x = some .free))
   | none => true) && decide (N.length <= N'.length)
theorem csc {N N' : List Str} {sc scope : Scope} (h : eNX N sc N' scope = true) : aJC N sc N' scope := by
 unfold eNX at h
 simp only [Bool.and_eq_true, decide_eq_true_eq, List.all_eq_true] at h
 obtain ⟨⟨⟨⟨⟨⟨⟨h1, h2⟩, h3⟩, h4⟩, h5⟩, h6⟩, h7⟩, h8⟩ := h
 refine ⟨h1, h2, h3, h4, h5, h6, fun i x hi hx hv => ?_, h8⟩
 have q := h7 i (List.mem_range.mpr hi)
 rw [hx] at q
 simp only [hv, Bool.not_true, Bool.false_or, Bool.and_eq_true, decide_eq_true_eq] at q
 exact q
theorem yR {X : Cx} {sc : Scope} {x : Str} {u : Value} (hm : X.mg x = none) (g : sc.names.lookup x = some .globalImplicit := by rfl) (v : bootBuiltins x = some u := by rfl) (n : x ≠ "__name__" := by decide) (d : (x == ("__debug__" : Str)) = false := by rfl) : Blt X sc x u := ⟨g, hm, v, n, d⟩
abbrev qO (f : List Int) : D := .tup (f.map D.int)
abbrev qV (f : List Int) : D := .lst (f.map D.int)
theorem aIX {xs : List Int} {i : Int} {n : Nat} (h0 : 0 <= i) (hn : i.toNat = n) (h : n < xs.length) : atI (xs.map D.int) i = some (.int xs[n]) := by
 have e : i = ((n : Nat) : Int) := by omega
 subst e
 exact aBZ (by rw [List.getElem?_map, List.getElem?_eq_getElem h]; rfl)
theorem aXW {n : Nat} {i : Int} {j : Nat} (h0 : 0 <= i) (hn : i.toNat = j) (h : j < n) : ixN n i = some j := by
 unfold ixN
 rw [if_pos h0, if_pos (by omega), hn]
theorem aTP (xs ys : List Int) : PyData.eqvAll (xs.map PyData.int) (ys.map PyData.int) = decide (xs = ys) := by
 induction xs generalizing ys with
 | nil => cases ys <;> simp [PyData.eqvAll]
 | cons x xs ih =>
  cases ys with
  | nil => simp [PyData.eqvAll]
  | cons y ys =>
   simp only [List.map_cons, PyData.eqvAll, PyData.eqv, ih]
   by_cases h1 : x = y <;> by_cases h2 : xs = ys <;> simp [h1, h2]
theorem aDY (xs ys : List Int) : (toP (qO xs)).eqv (toP (qO ys)) = decide (xs = ys) := by
 show (PyData.tuple (toPs (xs.map D.int))).eqv (.tuple (toPs (ys.map D.int))) = _
 rw [aBF, aBF]
 simp only [PyData.eqv]
 exact aTP xs ys
theorem aRM (xs ys : List Int) : (PyData.list (toPs (xs.map D.int))).eqv (.list (toPs (ys.map D.int))) = decide (xs = ys) := by
 rw [aBF, aBF]
 simp only [PyData.eqv]
 exact aTP xs ys
theorem aRR (xs : List Int) : PyData.canLayAll0 (xs.map PyData.int) = true := PySem.W.canLayAll0_ints xs
theorem zA (xs : List Int) : SeqAt.shaped (toP (qO xs)) = true := by
 show SeqAt.shaped (.tuple (toPs (xs.map D.int))) = true
 rw [aBF]
 have h1 := PySem.W.depthAll_ints xs
 have h2 : PyData.depth (.tuple (xs.map PyData.int)) <= 64 := by simp only [PyData.depth]; omega
 show (PyData.canLay0 (.tuple (xs.map PyData.int)) && decide (PyData.depth (.tuple (xs.map PyData.int)) <= 64)) = true
 rw [Bool.and_eq_true]
 exact ⟨by simp only [PyData.canLay0]; exact aRR xs, decide_eq_true h2⟩
theorem vO (xs : List Int) : SeqAt.shaped (PyData.list (toPs (xs.map D.int))) = true := by
 rw [aBF]; exact PySem.W.shaped_ints xs
inductive Weak : Rho -> Rho -> Prop where
 | nil : Weak [] []
 | keep {s : Sl} {a b : Rho} : Weak a b -> Weak (s :: a) (s :: b)
 | forget {s : Sl} {a b : Rho} : Weak a b -> Weak (s :: a) (.un :: b)
theorem Weak.len : ∀ {a b : Rho}, Weak a b -> a.length = b.length
 | _, _, .nil => rfl
 | _, _, .keep h => congrArg Nat.succ h.len
 | _, _, .forget h => congrArg Nat.succ h.len
theorem Weak.get : ∀ {a b : Rho}, Weak a b -> ∀ (i : Nat) (s : Sl), b[i]? = some s -> s ≠ .un -> a[i]? = some s
 | _, _, .nil, _, _, h, _ => by simp at h
 | _, _, .keep h, 0, s, e, _ => by simpa using e
 | _, _, .keep h, i + 1, s, e, hn => by simpa using h.get i s (by simpa using e) hn
 | _, _, .forget h, 0, s, e, hn => by simp at e; exact absurd e.symm hn
 | _, _, .forget h, i + 1, s, e, hn => by simpa using h.get i s (by simpa using e) hn
theorem Ok.weak {K : PySem.W.Frag} {B : B0} {F H : Hp} {σ : St} {a b : Rho} (k : Ok K B F H σ a) (w : Weak a b) : Ok K B F H σ b :=
 ⟨k.toExt, k.len.trans w.len, fun i d h => k.vals i d (w.get i _ h fun z => nomatch z), fun i xs h => k.owns i xs (w.get i _ h fun z => nomatch z), fun i j xs ys p h1 h2 => k.dist i j xs ys p (w.get i _ h1 fun z => nomatch z) (w.get j _ h2 fun z => nomatch z), k.dic.to (.refl _) (fun _ _ e1 e2 _ => ⟨e1, e2⟩) fun i kvs h => ⟨w.get i _ h (fun z => nomatch z), rfl⟩⟩
section
variable {X : Cx} {ρ ρ1 ρ2 : Rho} {sts : List Stmt} {o : Out}
theorem EvSs.weak (h : EvSs X ρ sts (.nx ρ1)) (w : Weak ρ1 ρ2) : EvSs X ρ sts (.nx ρ2) := fun B F H σ E k q => h B F H σ E k fun F' H' σ' k' s' => q F' H' σ' (k'.weak w) s'
end
section
variable {X : Cx} {ρ : Rho} {e : Expr}
theorem EvT.eq {b b' : Bool} (h : EvT X ρ e b) (q : b = b') : EvT X ρ e b' := q ▸ h
theorem EvE.eq {d d' : D} (h : EvE X ρ e d) (q : d = d') : EvE X ρ e d' := q ▸ h
theorem EvN.eq {d d' : List D} (h : EvN X ρ e d) (q : d = d') : EvN X ρ e d' := q ▸ h
theorem EvQ.eq {k : Bool} {d d' : List D} (h : EvQ X ρ e k d) (q : d = d') : EvQ X ρ e k d' := q ▸ h
theorem EvI.eq {tg : Expr} {d d' : List D} (h : EvI X ρ tg e d) (q : d = d') : EvI X ρ tg e d' := q ▸ h
theorem EvSs.eq {sts : List Stmt} {o o' : Out} (h : EvSs X ρ sts o) (q : o = o') : EvSs X ρ sts o' := q ▸ h
theorem EvS.eq {st : Stmt} {o o' : Out} (h : EvS X ρ st o) (q : o = o') : EvS X ρ st o' := q ▸ h
end
theorem FRun.same {X : Cx} {tg : Expr} {body : List Stmt} (ρ : Rho) : ∀ (ds : List D), (∀ d ∈ ds, ∃ ρ1, EvG X ρ tg d ρ1 /\ EvSs X ρ1 body (.nx ρ)) -> FRun X tg body ds ρ (.nx ρ)
 | [], _ => .nil
 | d :: ds, h => by
  obtain ⟨ρ1, h1, h2⟩ := h d List.mem_cons_self
  exact .cons h1 h2 (FRun.same ρ ds fun e he => h e (List.mem_cons_of_mem _ he))
theorem FRun.upto {X : Cx} {tg : Expr} {body : List Stmt} {ds : List D} (R : Nat -> Rho) (h : ∀ (j : Nat) d, ds[j]? = some d -> ∃ ρ1, EvG X (R j) tg d ρ1 /\ EvSs X ρ1 body (.nx (R (j + 1)))) : FRun X tg body ds (R 0) (.nx (R ds.length)) := by
 have q := FRun.of (X := X) (tg := tg) body R ds 0 fun j d e => by
  obtain ⟨ρ1, h1, h2⟩ := h j d e
  exact ⟨ρ1, by simpa using h1, by simpa using h2⟩
 simpa using q
theorem FRun.uptoE {X : Cx} {tg : Expr} {body : List Stmt} {ds : List D} {ρ ρ' : Rho} (R : Nat -> Rho) (h : ∀ (j : Nat) d, ds[j]? = some d -> ∃ ρ1, EvG X (R j) tg d ρ1 /\ EvSs X ρ1 body (.nx (R (j + 1)))) (e0 : R 0 = ρ) (e1 : R ds.length = ρ') : FRun X tg body ds ρ (.nx ρ') := by
 subst e0; subst e1; exact FRun.upto R h
theorem aBJ {i j : Int} (h1 : -(2 ^ 64) < j) (h2 : j < 2 ^ 64) : IntMulOk i j := .of_right (intBits_le_64 h1 h2)
theorem vV {i j : Int} (h1 : -(2 ^ 64) < i) (h2 : i < 2 ^ 64) : IntMulOk i j := .of_left (intBits_le_64 h1 h2)
def aBY (xs : List Int) (lo hi : Option Int) : List Int := (xs.drop (HT.sIx xs.length 0 lo)).take (HT.sIx xs.length xs.length hi - HT.sIx xs.length 0 lo)
theorem aAB (xs : List Int) (lo hi : Option Int) : eGU (xs.map D.int) lo hi = (aBY xs lo hi).map D.int := by
 unfold eGU aBY
 rw [List.length_map, List.map_take, List.map_drop]
theorem eBP (xs : List Int) (lo hi : Option Int) : (aBY xs lo hi).length <= xs.length := by
 unfold aBY
 rw [List.length_take, List.length_drop]
 omega
theorem eAV (k : Nat) (n : Int) : (List.replicate k [D.int n]).flatten = (List.replicate k n).map D.int := by
 induction k with
 | zero => rfl
 | succ k ih => rw [List.replicate_succ, List.flatten_cons, ih, List.replicate_succ, List.map_cons]; rfl
theorem CRun.gen {X : Cx} {tg elt : Expr} {α : Type} (g f : α -> D) (R : α -> Rho) : ∀ (xs : List α) (ρ : Rho), (∀ x ∈ xs, EvGn X ρ tg (g x) (R x)) -> (∀ x ∈ xs, ∀ y ∈ xs, EvGn X (R x) tg (g y) (R y)) -> (∀ x ∈ xs, EvE X (R x) elt (f x)) -> CRun X tg elt [] (xs.map g) ρ (xs.map f)
 | [], _, _, _, _ => .nil
 | x :: xs, ρ, h1, h2, h3 => .take (h1 x List.mem_cons_self) (.inl rfl) (h3 x List.mem_cons_self)
   (CRun.gen g f R xs (R x) (fun e he => h2 x List.mem_cons_self e (List.mem_cons_of_mem _ he)) (fun a ha e he => h2 a (List.mem_cons_of_mem _ ha) e (List.mem_cons_of_mem _ he)) fun e he => h3 e (List.mem_cons_of_mem _ he))
theorem aZS {xs : List Int} {i : Int} (h0 : 0 <= i) (h : i.toNat < xs.length) : atI (xs.map D.int) i = some (.int (xs.getD i.toNat 0)) := by
 rw [aIX h0 rfl h, List.getD_eq_getElem?_getD, List.getElem?_eq_getElem h]; rfl
theorem aRC : (sizeLine : Nat) = 16777216 := sizeLine_eq
open AutoSeq1 (wpAny_loadPart')
section
variable {prog : Program} {w : World} {A : Around} {E : Value -> Shared -> Prop} {s : Shared}
theorem aHP {it t : Addr} {i : Nat} {items : Array Value} {x : Value} {Q : Value -> Shared -> Prop} (hit : s.heap.IsTupleIter it t i) (ht : s.heap.IsTuple t items) (hx : items[i]? = some x)
  (hQ : ∀ h', h'.IsTupleIter it t (i + 1) -> Heap.SameBut it s.heap h' -> Q x { s with heap := h' }) : wpAny (model prog w) A (Builtin.SmallTypes.nextOf (.ref it)) Q E s := by
 obtain ⟨o, ho, hc, hd⟩ := id hit
 obtain ⟨ol, hol, _, nl, hdl⟩ := ht
 unfold Builtin.SmallTypes.nextOf
 refine wpAny_bind (wpAny_callSpecial?_slot (name := Str.ofString "__next__") hit.typeIs F.slot_tuple_iterator_next (wpAny_call_entry F.slot_tuple_iterator_next hit.typeIs F.entry_tuple_iterator_next ?_ (F.args_tuple_iterator_next_1 _)))
 show wpAny _ _ (field (.ref it) 0 >>= _) _ _ s
 refine wpAny_bind (wpAny_field ho hd (x := .ref t) rfl ?_)
 show wpAny _ _ (if (Value.ref t == Value.none) = true then _ else _) _ _ s
 rw [if_neg (show ¬ ((Value.ref t == Value.none) = true) from Bool.false_ne_true)]
 show wpAny _ _ (field (.ref it) 1 >>= _) _ _ s
 refine wpAny_bind (wpAny_field ho hd (x := .int i 0) rfl ?_)
 show wpAny _ _ (seqItems? (.ref t) >>= _) _ _ s
 refine wpAny_bind (wpAny_seqItems hol hdl ?_)
 simp only [Int.toNat_natCast, hx]
 refine wpAny_bind (wpAny_setField ho hd (by simp) (wpAny_pure ⟨x, rfl, wpAny_pure (hQ _ ?_ (Heap.SameBut.update ..))⟩))
 exact ⟨_, Heap.get?_update_self _ ho (Obj.isFreed_of_fields (Obj.data_mapFields hd _)), (Obj.cls_mapFields ..).trans hc, by rw [Obj.data_mapFields hd]; simp [rawInt]⟩
theorem aDO {it t : Addr} {i : Nat} {items : Array Value} {Q : Value -> Shared -> Prop} (hh : A.handled = none) (hit : s.heap.IsTupleIter it t i) (ht : s.heap.IsTuple t items) (hx : items[i]? = none)
  (hE : ∀ h' e, Heap.ExtBut it s.heap h' -> (∃ o, h'.get? e = some o /\ o.cls = .type "StopIteration") -> E (.ref e) { s with heap := h' }) : wpAny (model prog w) A (Builtin.SmallTypes.nextOf (.ref it)) Q E s := by
 obtain ⟨o, ho, hc, hd⟩ := id hit
 obtain ⟨ol, hol, _, nl, hdl⟩ := ht
 unfold Builtin.SmallTypes.nextOf
 refine wpAny_bind (wpAny_callSpecial?_slot (name := Str.ofString "__next__") hit.typeIs F.slot_tuple_iterator_next (wpAny_call_entry F.slot_tuple_iterator_next hit.typeIs F.entry_tuple_iterator_next ?_ (F.args_tuple_iterator_next_1 _)))
 show wpAny _ _ (field (.ref it) 0 >>= _) _ _ s
 refine wpAny_bind (wpAny_field ho hd (x := .ref t) rfl ?_)
 show wpAny _ _ (if (Value.ref t == Value.none) = true then _ else _) _ _ s
 rw [if_neg (show ¬ ((Value.ref t == Value.none) = true) from Bool.false_ne_true)]
 show wpAny _ _ (field (.ref it) 1 >>= _) _ _ s
 refine wpAny_bind (wpAny_field ho hd (x := .int i 0) rfl ?_)
 show wpAny _ _ (seqItems? (.ref t) >>= _) _ _ s
 refine wpAny_bind (wpAny_seqItems hol hdl ?_)
 simp only [Int.toNat_natCast, hx]
 refine wpAny_bind (wpAny_rule (wpAny_bind (wpAny_setField ho hd (by simp) ?_)))
 show wpAny _ _ (newExc (.type "StopIteration") [] >>= _) _ _ _
 refine wpAny_bind ?_
 simp only [newExc, newTuple]
 refine wpAny_bind (wpAny_newObj_type ?_ (by size_fits))
 refine wpAny_bind (m := firstArgMember _ _) (wpAny_of_eq (a := Value.none) (by first | rfl | (simp only [firstArgMember]; rfl)) ?_)
 refine wpAny_newObj_type ?_ (by size_fits)
 simp only [raiseNew]
 refine wpAny_bind (wpAny_handled ?_)
 first | rw [show A.in1.handled = none from hh] | rw [hh]
 refine wpAny_bind (wpAny_pure (wpAny_throw ?_))
 exact hE _ _ (((Heap.SameBut.update ..).extBut.push _).push _) ⟨_, Heap.get?_push_size _ rfl, rfl⟩
end
theorem aZA {prog : Program} {w : World} {A : Around} (hh : A.handled = none) (it t : Addr) (hne : t ≠ it) (items : Array Value) :
  Draws prog w A it [it, t] items.size (fun i v => items[i]? = some v) (fun i h => h.IsTupleIter it t i /\ h.IsTuple t items) where
 live := fun _ _ st => let ⟨o, ho, _⟩ := st.1; ⟨o, ho⟩
 frame := fun _ _ _ st hk => ⟨st.1.at fun o e => hk it (by simp) o e, let ⟨o, e, r⟩ := st.2; ⟨o, hk t (by simp) o e, r⟩⟩
 item := fun i s Q E hi st hQ => by
  refine aHP st.1 st.2 (x := items[i]) (by simp [hi]) fun h' hit' hs' => ?_
  exact hQ _ h' s.toks (by simp [hi]) ⟨hit', let ⟨o, e, r⟩ := st.2; ⟨o, hs'.extBut t o hne e, r⟩⟩ hs'
 done := fun s Q E st hE => aDO hh st.1 st.2 (by simp) hE
theorem aRB (l : Addr) (items : Array Value) (n : Nat) (dct : Option Addr) (sl : Array (Option Value)) :
  Meets (Builtin.«enumerate.__new__» ⟨[.type "enumerate", .ref l], []⟩) (fun _ R s => s.heap.get? l = some { cls := .type "tuple", dict := dct, data := .seq items n, slots := sl } /\
   R (.ok (.ret (.ref (s.heap.push { cls := .type "tuple_iterator", data := .fields #[.ref l, .int 0 0] }).objs.size)))
    { s with heap := (s.heap.push { cls := .type "tuple_iterator", data := .fields #[.ref l, .int 0 0] }).push { cls := .type "enumerate", data := .fields #[.none, .bool false, .ref s.heap.objs.size, rawInt 0, .none, .none] } }) :=
 .of_wp fun prog w A R s h => by
  obtain ⟨hp, g, d, tk, os⟩ := s; obtain ⟨hl, h⟩ := h
  have hsub := sub_enumerate
  have hL : Heap.IsTuple (Shared.heap ⟨hp, g, d, tk, os⟩) l items := ⟨_, hl, rfl, n, rfl⟩
  wp_walk using wpAny_loadPart' hl
  refine wpAny_stack_any fun st => wpAny_pure ?_
  split
  ·rename_i c _ _ _ _ _
   cases (c == Value.type "enumerate")
   ·wp_walk using wpAny_loadPart' hl, wpAny_pyIter_tuple hL
    exact ⟨_, rfl, h⟩
   ·wp_walk using wpAny_loadPart' hl, wpAny_pyIter_tuple hL
    exact ⟨_, rfl, h⟩
  ·wp_walk using wpAny_loadPart' hl, wpAny_pyIter_tuple hL
   exact ⟨_, rfl, h⟩
section
variable {prog : Program} {w : World} {A : Around} {E : Value -> Shared -> Prop} {s : Shared}
theorem aVD {l : Addr} {items : Array Value} {Q : Value -> Shared -> Prop} (hL : s.heap.IsTuple l items)
  (h : ∀ h', IsEnum h' (s.heap.objs.size + 1) s.heap.objs.size 0 .none -> h'.IsTupleIter s.heap.objs.size l 0 -> h'.objs.size = s.heap.objs.size + 2 ->
   (∀ b o, s.heap.get? b = some o -> h'.get? b = some o) -> Q (.ref (s.heap.objs.size + 1)) { s with heap := h' }) : wpAny (model prog w) A (call (.type "enumerate") [.ref l]) Q E s := by
 obtain ⟨⟨c, dct, dt, sl⟩, hl, hc, n, hd⟩ := hL
 replace hc : c = .type "tuple" := hc
 replace hd : dt = .seq items n := hd
 subst hc hd
 refine callType_new F.called_enumerate (by decide) (F.typeCall_enumerate_1 _) (F.newCall_enumerate_1 _) (fun obj => F.args_object_init_2 obj _) F.entry_enumerate_new (aRB l items n dct sl) ⟨hl, ?_⟩
 have hz : (s.heap.push { cls := .type "tuple_iterator", data := .fields #[.ref l, .int 0 0] }).objs.size = s.heap.objs.size + 1 := Heap.size_push ..
 show _ /\ _
 rw [hz]
 have he : IsEnum ((s.heap.push { cls := .type "tuple_iterator", data := .fields #[.ref l, .int 0 0] }).push { cls := .type "enumerate", data := .fields #[.none, .bool false, .ref s.heap.objs.size, rawInt 0, .none, .none] }) (s.heap.objs.size + 1) s.heap.objs.size 0 .none := by
  have := Heap.get?_push_size (s.heap.push { cls := .type "tuple_iterator", data := .fields #[.ref l, .int 0 0] }) (o := { cls := .type "enumerate", data := .fields #[.none, .bool false, .ref s.heap.objs.size, rawInt 0, .none, .none] }) rfl
  rw [hz] at this; exact this
 refine ⟨⟨_, he, rfl⟩, h _ he ⟨_, Heap.get?_push_of_some _ (Heap.get?_push_size _ rfl), rfl, rfl⟩ (by rw [Heap.size_push, hz]) fun b o x => Heap.get?_push_of_some _ (Heap.get?_push_of_some _ x)⟩
end
def Ite (K : PySem.W.Frag) (a : Addr) : It :=
 ⟨fun i H => ∃ xs x, SqT K H a xs /\ xs[i]? = some x, fun i H x H' => ∃ p, H p = none /\ x = .ref p /\ ∀ xs, SqT K H a xs -> ∃ v, xs[i]? = some v /\ H' = upd H p (.tup [.int i, v]), fun i H => ∃ xs, SqT K H a xs /\ xs.length <= i, False⟩
section
variable {X : Cx}
theorem Inv.turn2 {pins : List (Addr × Obj)} {σ : St} {H : Hp} {s : Shared} {h' : Heap} {t' : Nat} {e it : Addr} (I : Inv X pins σ H s) (k : ∀ b o, b ≠ e -> b ≠ it -> s.heap.get? b = some o -> h'.get? b = some o) (fe : aUC X pins H e) (fi : aUC X pins H it) :
  Inv X pins σ H { s with heap := h', toks := t' } := by
 obtain ⟨e0, e1, e2, e3, e4, e5⟩ := fe
 obtain ⟨i0, i1, i2, i3, i4, i5⟩ := fi
 refine I.step (g' := s.gens) (d' := s.drawn) (ch := [e, it]) (fun b hb => ?_) (fun b o _ _ hc q _ => k b o (fun z => hc (by simp [z])) (fun z => hc (by simp [z])) q) (fun b o _ _ hc q _ => ⟨o.slots, k b o (fun z => hc (by simp [z])) (fun z => hc (by simp [z])) q⟩) (fun _ _ _ _ n => n)
  (fun b o hc q => ⟨o, k b o (fun z => hc (by simp [z])) (fun z => hc (by simp [z])) q⟩) (fun _ _ q => q) (fun _ _ _ q => q) (fun b ps q => ⟨#[], by rw [q]; simp⟩) (fun m hm => ?_) (fun b u q => ?_) I.bare
 ·rcases List.mem_cons.mp hb with rfl | hb
  ·exact ⟨e3, e1, e4, e5⟩
  ·rw [List.mem_singleton.mp hb]; exact ⟨i3, i1, i4, i5⟩
 ·obtain ⟨o, es, ep, ho, r⟩ := hm
  exact ⟨o, es, ep, k _ o (Ne.symm e1) (Ne.symm i1) ho, r⟩
 ·have ne : ∀ c v, H c = some v -> c ≠ e /\ c ≠ it := fun c v q => ⟨(fun z => by rw [z, e0] at q; cases q), (fun z => by rw [z, i0] at q; cases q)⟩
  refine (I.hok b u q).stay (fun c v hc r => ?_) (fun _ r => r) fun _ _ r => r
  rcases hc with z | z
  ·subst z; exact k c v (ne c _ q).1 (ne c _ q).2 r
  ·exact k c v (ne c _ z).1 (ne c _ z).2 r
end
section
variable {X : Cx} {pins : List (Addr × Obj)} {σ : St} {H : Hp} {s : Shared}
theorem Inv.track {p : Addr} {o : HO} (I : Inv X pins σ H s) (hp : H p = none) (h1 : X.s₀.heap.objs.size <= p) (h2 : p ≠ X.env.locals) (h3 : ∀ x c, X.env.cells.lookup x = some c -> c ≠ p) (h4 : ∀ q ∈ X.pn ++ pins, q.1 ≠ p) (new : ObjOk X.prog X.w (upd H p o) s.heap p o) : Inv X pins σ (upd H p o) s := by
 have old : ∀ b ob, X.s₀.heap.get? b = some ob -> b ≠ p := fun b ob e => Nat.ne_of_lt (Nat.lt_of_lt_of_le (Heap.lt_size e) h1)
 refine ⟨I.ok, I.os, I.bare, ⟨I.base.keep, I.base.slot, fun b ob e n hx => by rw [yI (old b ob e)]; exact I.base.free b ob e n hx, I.base.there, fun b xs e => ?_, fun b ob u e => ?_, fun b ps e => ?_⟩, I.loc, I.cell, by rw [yI (Ne.symm h2)]; exact I.free, fun x c e => by rw [yI (h3 x c e)]; exact I.freeC x c e, fun q hq => ?_, fun b u e => ?_, I.len⟩
 ·have q := I.base.tups b xs e
  rw [yI (zZ q hp)]; exact q
 ·have q := I.base.frzs b ob u e
  rw [yI (zZ q hp)]; exact q
 ·obtain ⟨more, q⟩ := I.base.tbls b ps e
  exact ⟨more, by rw [yI (zZ q hp)]; exact q⟩
 ·obtain ⟨a, b, c⟩ := I.pin q hq
  exact ⟨a, by rw [yI (h4 q hq)]; exact b, c⟩
 ·by_cases hb : b = p
  ·subst hb; rw [yK] at e; cases e; exact new
  ·rw [yI hb] at e
   exact (I.hok b u e).stay (fun _ _ _ q => q) (fun c q => by rw [yI (zZ q hp)]; exact q) fun c xs q => by rw [yI (zZ q hp)]; exact q
end
theorem aVU {P : Program} {w : World} {K : PySem.W.Frag} {es : List Expr} {x1 : Nat} {pos : Pos} (a e it : Addr) (hne : e ≠ it) : eAH P w K (.Tuple es x1 pos) (Ite K a) [e, it] e (fun i h => (∃ old, IsEnum h e it i old) /\ h.IsTupleIter it a i) where
 mem := by simp
 obj := fun i h st b hb => by
  obtain ⟨⟨old, he⟩, o, ho, c, d⟩ := st
  rcases List.mem_cons.mp hb with rfl | hb
  ·exact ⟨_, he, fun v z => by cases z⟩
  ·rw [List.mem_singleton.mp hb]
   exact ⟨o, ho, fun v z => by rw [d] at z; cases z⟩
 keep := fun i h h' st k => by
  obtain ⟨⟨old, he⟩, hi⟩ := st
  exact ⟨⟨old, k e (by simp) _ he⟩, hi.at fun o q => k it (by simp) o q⟩
 item := by
  intro X hP hw hK hc i pins s σ H E I hf st hg
  subst hP hw hK
  replace hc := hc.resolve_right fun z => z.1
  obtain ⟨⟨old, he⟩, hit⟩ := st
  obtain ⟨xs, x, hq, hx⟩ := hg
  obtain ⟨its, rv, p, hz⟩ := I.tuple hq
  obtain ⟨u, hu, ru⟩ := rv.get hx
  have fe := hf e (by simp)
  have fi := hf it (by simp)
  have hlt : i < its.length := (List.getElem?_eq_some_iff.mp hu).1
  obtain ⟨oa, hoa, hca, na, hda⟩ := id p
  have hae : e ≠ a := fun z => by
   subst z
   rw [he] at hoa; cases hoa
   have z' : Value.type "enumerate" = Value.type "tuple" := hca
   injection z' with z2
   exact absurd z2 (by decide)
  have hai : a ≠ it := fun z => by
   subst z
   obtain ⟨oi, hoi, hci, _⟩ := hit
   rw [hoa] at hoi; cases hoi
   rw [hca] at hci
   injection hci with z2
   exact absurd z2 (by decide)
  have Dr := aZA (prog := X.prog) (w := X.w) (A := X.A.in1) (I.ok.hd hc) it a hai its.toArray
  refine wpAny_pyNext_enum_itemD Dr he ⟨hit, p⟩ (by simpa using hlt) hne (by simp [hae, hne]) fun y h' tk hy ho hst hT hsz hk => ?_
  have ey : y = u := by
   have : its[i]? = some y := by simpa using hy
   rw [hu] at this; exact (Option.some.inj this).symm
  subst ey
  refine ⟨_, rfl, wpAny_letOwnedTupleGo_enum ho fun h2 he2 sb => ?_⟩
  have hTe : s.heap.objs.size ≠ e := Nat.ne_of_gt (Heap.lt_size he)
  have hTi : s.heap.objs.size ≠ it := by
   obtain ⟨oi, hoi, _⟩ := id hit
   exact Nat.ne_of_gt (Heap.lt_size hoi)
  have sb' : Heap.SameBut e h' h2 := sb
  have kk : ∀ b o, b ≠ e -> b ≠ it -> s.heap.get? b = some o -> h2.get? b = some o := fun b o h1 h2' q => sb'.extBut b o h1 (hk b o h1 h2' q)
  have I1 : Inv X pins σ H { s with heap := h2, toks := tk + 1 } := Inv.turn2 I kk fe fi
  have hp0 : H s.heap.objs.size = none := I.hok.fresh (Nat.le_refl _)
  have hT2 : h2.get? s.heap.objs.size = some { cls := .type "tuple", data := .seq #[.int i tk, y] } := sb'.extBut _ _ hTe hT
  have I2 : Inv X pins σ (upd H s.heap.objs.size (.tup [.int i, x])) { s with heap := h2, toks := tk + 1 } := by
   refine Inv.track I1 hp0 I.sz (Nat.ne_of_gt I.lt) (fun z c h => ?_) (fun q hq2 z => ?_) ⟨Nat.le_of_ble_eq_true rfl, [.int i tk, y], .cons ⟨tk, rfl⟩ (.cons ru .nil), ⟨_, hT2, rfl, 0, rfl⟩⟩
   ·obtain ⟨v, hv⟩ := I.cell z c h
    exact Nat.ne_of_lt hv.lt
   ·have := Heap.lt_size (I.pin q hq2).1
    rw [z] at this; exact absurd this (Nat.lt_irrefl _)
  refine ⟨.ref s.heap.objs.size, _, I2, rfl, ⟨s.heap.objs.size, hp0, rfl, fun ys hys => ⟨x, by rw [I.tuple_inj hys hq]; exact hx, rfl⟩⟩, ⟨⟨_, by simpa using he2⟩, hst.1.at fun o q => sb'.extBut it o (Ne.symm hne) q⟩, fun b hb => ?_⟩
  have bT : b ≠ s.heap.objs.size := by
   rcases List.mem_cons.mp hb with rfl | hb
   ·exact Ne.symm hTe
   ·rw [List.mem_singleton.mp hb]; exact Ne.symm hTi
  rw [yI bT]; exact (hf b hb).1
 done := by
  intro X hP hw hK hc i pins s σ H E I hf st hg
  subst hP hw hK
  replace hc := hc.resolve_right fun z => z.1
  obtain ⟨⟨old, he⟩, hit⟩ := st
  obtain ⟨xs, hq, hx⟩ := hg
  obtain ⟨its, rv, p, hz⟩ := I.tuple hq
  have fi := hf it (by simp)
  obtain ⟨f0, f1, f2, f3, f4, f5⟩ := fi
  have hl := rv.length
  have hT : s.TypeIs (.ref e) "enumerate" := ⟨_, he, rfl⟩
  unfold pyNext
  refine wpAny_bind (wpAny_attempt (wpAny_callSpecial?_slot (name := Str.ofString "__next__") hT F.slot_enumerate_next (wpAny_call_entry F.slot_enumerate_next hT F.entry_enumerate_next ?_ (F.args_enumerate_next_1 _))))
  show wpAny _ _ (field (.ref e) 2 >>= _) _ _ _
  refine wpAny_bind (wpAny_field he rfl (x := .ref it) rfl ?_)
  refine wpAny_bind (aDO (I.ok.hd hc) hit p (by simp; omega) fun h' x he' hx' => ?_)
  obtain ⟨o, ho, hc'⟩ := hx'
  refine wpAny_bind (wpAny_isInstance (T := "StopIteration") (b := true) ⟨o, ho, hc'⟩ isSubtype_stop ?_)
  exact wpAny_pure ⟨rfl, I.turned (t' := s.toks) (fun b o hb e => he' b o hb e) f0 f1 f3 f4 f5⟩
 self := fun _ _ s Q E st h => by
  obtain ⟨⟨old, he⟩, hit⟩ := st
  exact wpAny_pyIter_enum he h
section
variable {X : Cx} {ρ : Rho} {a : Expr} {pos : Pos} {N : List Str} {sc : Scope} {ds : List D}
def eMV (K : PySem.W.Frag) (ta : TA) : TI := fun σ H R => ta σ H fun vs H1 => ∃ a, vs = [.ref a] /\ (∃ xs, SqT K H1 a xs) /\ R (Ite K a) H1
theorem eFH {es : List Expr} {x1 : Nat} {tp p : Pos} {ta : TA} (hg : Gl X "enumerate") (hm : X.mg "enumerate" = none) (hl : PA X [a] ta) (hs : Pl a) : PI X (.Tuple es x1 tp) (.Call (.Name "enumerate" p) [a] [] pos) (eMV X.K ta) := by
 intro pins s σ H R I h
 refine Call_ (aKS I hg hm (show bootBuiltins "enumerate" = some (.type "enumerate") by decide +kernel) (PyProof.Rows.callWith_type1 (thn (hl pos pins s σ H _ I h) fun us s1 ⟨vs, H1, I1, r1, q1⟩ => ?_) (hs _ _) rfl))
 obtain ⟨l, rfl, ⟨xs, hq⟩, q⟩ := q1
 obtain ⟨u, rfl, ru⟩ := aFX r1
 cases (show u = Value.ref l from ru)
 obtain ⟨its, rv, pt, hz⟩ := I1.tuple hq
 refine aVD pt fun h' he hi hsz kp => ?_
 have I2 : Inv X pins σ H1 { s1 with heap := h' } := I1.kept (t' := s1.toks) kp
 refine wpAny_pyIter_enum he ?_
 have fr : ∀ b, s1.heap.objs.size <= b -> aUC X pins H1 b := fun b hb => I1.fpOk hb (I1.hok.fresh hb)
 refine ⟨s1.heap.objs.size + 1, [s1.heap.objs.size + 1, s1.heap.objs.size], _, _, H1, rfl, I2, aVU l _ _ (Nat.ne_of_gt (Nat.lt_succ_self _)), ⟨⟨_, he⟩, hi⟩, fun b hb => ?_, q⟩
 rcases List.mem_cons.mp hb with rfl | hb
 ·exact fr _ (by omega)
 ·rw [List.mem_singleton.mp hb]; exact fr _ (Nat.le_refl _)
def aUY (ds : List D) : List D := (List.range ds.length).map fun (i : Nat) => .tup [.int (i : Int), ds.getD i .non]
theorem aCT {i : Nat} {d : D} (h : (aUY ds)[i]? = some d) : ∃ e, ds[i]? = some e /\ d = .tup [.int (i : Int), e] := by
 unfold aUY at h
 rw [List.getElem?_map] at h
 by_cases hi : i < ds.length
 ·rw [List.getElem?_range hi] at h
  cases h
  exact ⟨ds[i], List.getElem?_eq_getElem hi, by show D.tup [D.int (i : Int), ds.getD i .non] = _; rw [List.getD_eq_getElem?_getD, List.getElem?_eq_getElem hi]; rfl⟩
 ·rw [List.getElem?_eq_none (by simpa using hi)] at h; cases h
theorem aCS : (aUY ds).length = ds.length := by simp [aUY]
theorem eKA {K : PySem.W.Frag} {F : Hp} {l : Addr} {vs : List V} (hf : F l = some (.tup vs)) (r : RepL K F vs ds) : eAC K (Ite K l) F (aUY ds) := fun i F2 H2 s1 s2 =>
 ⟨fun d hd => by
  obtain ⟨e, he, rfl⟩ := aCT hd
  obtain ⟨v, hv, rv⟩ := r.get he
  have sq : SqT K H2 l vs := SqT.of (s2 _ _ (s1 _ _ hf))
  refine ⟨⟨vs, v, sq, hv⟩, fun x H' y => ?_⟩
  obtain ⟨p, hp, rfl, y⟩ := y
  obtain ⟨v', hv', rfl⟩ := y vs sq
  rw [hv] at hv'; cases hv'
  exact ⟨_, (Ext.refl s2).grow hp, .tup yK (.cons (.int _) (.cons ((rv.mono s1).mono (yM (s2.free hp))) .nil))⟩, fun h => ⟨vs, SqT.of (s2 _ _ (s1 _ _ hf)), by rw [r.length]; rw [aCS] at h; exact h⟩⟩
theorem aNC (t : At X N sc) {es : List Expr} {x1 : Nat} {tp p : Pos} (bl : Blt X sc "enumerate" (.type "enumerate")) (h : EvE X ρ a (.tup ds)) (hs : Pl a := by intro _ _; rfl) : EvI X ρ (.Tuple es x1 tp) (.Call (.Name "enumerate" p) [a] [] pos) (aUY ds) :=
 .of (eFH (wK t bl.g) bl.m (zC yU jW (hs _ _)) hs) fun B F H σ R k q => h B F H σ _ k fun v F' H' x r => by
  cases r with
  | tup hf rl => exact ⟨_, rfl, ⟨_, SqT.of (x.sub _ _ hf)⟩, q _ F' H' x (eKA hf rl)⟩
end
abbrev vB : List Value := [.type "ValueError", .type "Exception", .type "BaseException", .type "object"]
def TrV (h base : Heap) (e C : Addr) (fl : Value) : Prop :=
 ∃ (oe : Obj) (vs : Array Value) (T : Addr) (oT : Obj) (ts : Array Value), h.get? e = some oe /\ oe.cls = .ref C /\ oe.data = .fields vs /\ vs[1]? = some (.ref T) /\ vs[2]? = some .none /\ base.get? T = none /\ T ≠ e /\ h.get? T = some oT /\ oT.data = .fields ts /\ ts[3]? = some fl
def ePW (base : Heap) (l : List Env) (e C : Addr) (fl : Value) (h : Heap) : Prop := base.StaysIn h /\ base.get? e = none /\ h.FunFrames base l /\ TrV h base e C fl
structure Fly (P : Program) (w : World) (l : List Env) (H : Hp) (s : Shared) (H' : Hp) (C : Addr) (e : Value) (s' : Shared) : Prop where
 ex : ∃ (ea : Addr) (B : Heap), e = .ref ea /\ ePW B l ea C .none s'.heap /\ HOk P w H' B /\
  (∀ b o, s.heap.get? b = some o -> H b = none -> b ∉ frs l -> B.get? b = some o) /\ (∀ b o, s.heap.get? b = some o -> b ∉ frs l -> ∃ o', B.get? b = some o')
 os : s'.os = s.os
 bare : AllBare s'.gens
 slot : ∀ b o, s.heap.get? b = some o -> H b = none -> b ∈ frs l -> ∃ sl, s'.heap.get? b = some { o with slots := sl }
 free : ∀ b o, s.heap.get? b = some o -> H b = none -> H' b = none
 tups : ∀ b xs, H b = some (.tup xs) -> H' b = some (.tup xs)
 frzs : ∀ b o u, H b = some (.frz o u) -> H' b = some (.frz o u)
 tbls : ∀ b ps, H b = some (.tbl ps) -> ∃ more, H' b = some (.tbl (ps ++ more))
inductive aZZ (X : Cx) (m : Bool) (H : Hp) (s : Shared) (H' : Hp) (C : Addr) (e : Value) (s' : Shared) : Prop where
 | fly : Fly X.prog X.w X.stack H s H' C e s' -> aZZ X m H s H' C e s'
 | made {ea : Addr} {vs : List Value} : m = true -> H' = H -> e = .ref ea -> Heap.MadeExcOf s.heap s'.heap ea (.ref C) vs -> s'.os = s.os -> s'.gens = s.gens -> aZZ X m H s H' C e s'
def XP (X : Cx) (m : Bool) (pins : List (Addr × Obj)) (B : B0) (F : Hp) (ρ' : Rho) (C : Addr) (e : Value) (s' : Shared) : Prop :=
 ∃ (σ1 : St) (H1 : Hp) (s1 : Shared) (F' H' : Hp), Inv X pins σ1 H1 s1 /\ Ok X.K B F' H' σ1 ρ' /\ Same F F' /\ aZZ X m H1 s1 H' C e s'
structure wGs (X : Cx) (es : List Expr) (vs : List V) (σ : St) (H : Hp) (Q : St -> Hp -> Prop) : Prop where
 go : ∀ (pins : List (Addr × Obj)) (s : Shared) (us : List Value), Inv X pins σ H s -> Vals vs us -> wpAny (model X.prog X.w) X.A (assignInOrder ((assignEach es X.env).map (·.2)) us) (fun _ s' => ∃ σ' H', Inv X pins σ' H' s' /\ Q σ' H') X.xe s
theorem eIN {X : Cx} {es : List Expr} : PGs X es (wGs X es) := fun pins s _ _ _ us _ I r h => h.go pins s us I r
def eLN (X : Cx) (ρ : Rho) (es : List Expr) (ds : List D) (ρ' : Rho) : Prop := ((∀ env, (assignEach es env).length = ds.length) /\ ∀ env, (assignEach es env).findIdx? (·.1) = none) /\ ∀ (B : B0) (F H : Hp) (σ : St) (vs : List V) (Q : St -> Hp -> Prop), Ok X.K B F H σ ρ -> RepL X.K F vs ds ->
 (∀ F' H' σ', Ok X.K B F' H' σ' ρ' -> Same F F' -> Q σ' H') -> wGs X es vs σ H Q
def PlG (e : Expr) : Prop := ∀ (es : List Expr) (env : Env), assignEach (e :: es) env = (false, assign e env) :: assignEach es env
section
variable {X : Cx} {ρ ρ1 ρ' : Rho} {e : Expr} {es : List Expr} {d : D} {ds : List D} {pos : Pos} {N : List Str} {sc : Scope}
theorem eGP : eLN X ρ [] [] ρ := ⟨⟨fun _ => rfl, fun _ => rfl⟩, fun B F H σ vs Q k r q => .mk fun pins s us I ru => by
 cases r
 exact aXI pins s σ H [] us Q I ru ⟨rfl, q F H σ k (.refl _)⟩⟩
theorem aND (h1 : EvG X ρ e d ρ1) (h2 : eLN X ρ1 es ds ρ') (hs : PlG e := by intro _ _; rfl) : eLN X ρ (e :: es) (d :: ds) ρ' := ⟨⟨fun env => by rw [hs es env, List.length_cons, List.length_cons, h2.1.1 env], fun env => by
  rw [hs es env, List.findIdx?_cons]
  simp [h2.1.2 env]⟩, fun B F H σ vs Q k r q => .mk fun pins s us I ru => by
 cases r with
 | cons r1 r2 =>
  refine aLY eLJ eIN (by rw [hs es X.env]; rfl) pins s σ H _ us Q I ru ⟨_, _, rfl, ?_⟩
  exact h1 B F H σ _ _ k r1 fun F1 H1 σ1 k1 s1 => h2.2 B F1 H1 σ1 _ _ k1 (r2.mono s1) fun F2 H2 σ2 k2 s2 => q F2 H2 σ2 k2 (s1.trans s2)⟩
theorem eKY (t : At X N sc) {k : Nat} (h : eLN X ρ es ds ρ') : EvG X ρ (.Tuple es k pos) (.tup ds) ρ' :=
 .of (eCP (n := ds.length) t.calm eIN (h.1.1 _) (h.1.2 _)) fun B F H σ v Q k r q => by
  cases r with
  | tup hf rl => exact ⟨_, _, rfl, SqT.of (k.sub _ _ hf), rl.length, h.2 B F H σ _ Q k rl q⟩
end
open AutoSeq1 (wpAny_loadPart')
section
variable {X : Cx} {m : Bool} {ρ ρ1 ρ' : Rho} {e a b c : Expr} {es : List Expr} {d : D} {ds : List D} {pos p : Pos} {N : List Str} {sc : Scope} {C : Addr} {st : Stmt} {qZ : List Stmt} {x : Str}
theorem eFK : OpR X (binaryOp .Sub) (fun x y H Q => ∃ k j : Bool, x = .bl k /\ y = .bl j /\ Q (.int (b2i k - b2i j)) H) := by
 intro pins s σ H x y v u Q I rx ry h
 obtain ⟨k, j, rfl, rfl, q⟩ := h
 cases rx
 cases ry
 exact sub_bool ⟨.int (b2i k - b2i j), H, I.tok _, ⟨_, rfl⟩, q⟩
theorem eGG {k j : Bool} (ha : EvE X ρ a (.bl k)) (hb : EvE X ρ b (.bl j)) : EvE X ρ (.BinOp a .Sub b pos) (.int (b2i k - b2i j)) :=
 .of (aQU eFK yU yU) fun B F H σ Q k' q => two ha hb k' fun x y F' H' x' rx ry => by
  cases rx; cases ry
  exact ⟨k, j, rfl, rfl, q _ F' H' x' (.int _)⟩
end
end L2.EV
namespace HT
open PySem PyProof.Rows PySem.Spec
end HT
namespace L2.EV
open PySem PySem.Spec PyProof.Rows
def del (F : Hp) (p : Addr) : Hp := fun a => if a = p then none else F a
end L2.EV
namespace L2
open PySem PySem.Spec PyProof.Rows
def eLM (lo st : Int) (n : Nat) : It := ⟨fun i _ => i < n, fun i H x H' => H' = H /\ x = .int (lo + (i : Nat) * st), fun i _ => n <= i, True⟩
theorem aQE {P : Program} {w : World} {K : PySem.W.Frag} {tg : Expr} (it : Addr) (lo st : Int) (n : Nat) : eAH P w K tg (eLM lo st n) [it] it (fun i h => IsRangeIter h it (lo + (i : Nat) * st) ((n : Int) - (i : Nat)) st) where
 mem := by simp
 obj := fun i h st b hb => by
  have e : b = it := by simpa using hb
  subst e
  exact ⟨_, st, fun v z => by
   have z' : Data.fields _ = Data.cell v := z
   cases z'⟩
 keep := fun i h h' st k => k it (by simp) _ st
 item := by
  intro X hP hw hK hc i pins s σ H E I hf st' hg
  subst hP hw hK
  obtain ⟨f0, f1, f2, f3, f4, f5⟩ := hf it (by simp)
  refine wpAny_pyNext_range_item st' (by have : i < n := hg; omega) fun h' st' sb => ?_
  have I1 : Inv X pins σ H { s with heap := h', toks := s.toks + 1 } := I.turned (fun b o hb e => (sb.2 b hb).trans e) f0 f1 f3 f4 f5
  have e1 : lo + (i : Nat) * st + st = lo + ((i + 1 : Nat) : Int) * st := by rw [Int.natCast_add, Int.add_mul]; omega
  have e2 : (n : Int) - (i : Nat) - 1 = (n : Int) - ((i + 1 : Nat) : Int) := by omega
  rw [e1, e2] at st'
  exact ⟨_, rfl, aYE (s := { s with heap := h', toks := s.toks + 1 }) (n := "range_iterator") st' rfl rfl (by decide) ⟨.int (lo + (i : Nat) * st), H, I1, ⟨s.toks, rfl⟩, ⟨rfl, rfl⟩, st', fun b hb => (hf b hb).1⟩⟩
 done := by
  intro X hP hw hK hc i pins s σ H E I hf st' hg
  subst hP hw hK
  obtain ⟨f0, f1, f2, f3, f4, f5⟩ := hf it (by simp)
  rcases hc with hc | ⟨_, ea, oe, u, vs, k1, k2, k3, k4⟩
  rotate_left
  ·obtain ⟨ho, _⟩ := (show ObjOk X.prog X.w H s.heap ea (.frz oe u) from I.hok ea _ (I.base.frzs ea oe u k2))
   exact aEJ k1 ho k3 k4 st' (by have : n <= i := hg; omega) fun h' eb => ⟨rfl, I.turned (t' := s.toks) (fun b o hb e => eb b o hb e) f0 f1 f3 f4 f5⟩
  exact wpAny_pyNext_range_end (I.ok.hd hc) st' (by have : n <= i := hg; omega) fun h' eb => ⟨rfl, I.turned (t' := s.toks) (fun b o hb e => eb b o hb e) f0 f1 f3 f4 f5⟩
 self := fun _ _ _ _ _ st h => wpAny_pyIter_rangeiter st h
end L2
namespace L2.EV
open PySem PySem.Spec PyProof.Rows
section
variable {prog : Program} {w : World} {A : Around} {E : Value -> Shared -> Prop} {s : Shared} {it d : Addr} {i n ep : Nat} {es : Array DictEntry} {e : DictEntry} {o : Obj}
theorem aUZ {Q : Option Value -> Shared -> Prop}
  (hit : s.heap.IsKeyIter it d i n ep) (hd : s.heap.get? d = some o) (ho : o.data = .dict es ep) (hn : es.size = n) (he : es[i]? = some e)
  (hQ : ∀ h', h'.IsKeyIter it d (i + 1) n ep -> Heap.SameBut it s.heap h' -> Q (some e.key) { s with heap := h' }) : wpAny (model prog w) A (pyNext (.ref it)) Q E s := by
 have hT : s.TypeIs (.ref it) "dict_keyiterator" := hit.typeIs
 obtain ⟨⟨cl, di, da, sl⟩, h1, h2, h3⟩ := id hit
 replace h2 : cl = _ := h2
 replace h3 : da = _ := h3
 subst h2 h3
 unfold pyNext
 refine wpAny_bind (wpAny_attempt (wpAny_callSpecial?_slot (name := Str.ofString "__next__") hT F.slot_dict_keyiterator_next (wpAny_call_entry F.slot_dict_keyiterator_next hT F.entry_dict_keyiterator_next ?_ (F.args_dict_keyiterator_next_1 _))))
 show wpAny _ _ (Builtin.Dict_items.slot0 "__next__" { pos := [Value.ref it] } >>= _) _ _ s
 refine wpAny_bind (wpAny_of_eq (a := Value.ref it) (by rfl) ?_)
 show wpAny _ _ (((typeNameOfWhole (.ref it) >>= _) >>= _) >>= _) _ _ s
 refine wpAny_bind (wpAny_bind (wpAny_bind (wpAny_typeNameOfWhole_keyiter hT ?_)))
 refine wpAny_pure ?_
 refine wpAny_bind (wpAny_fieldsOf h1 rfl ?_)
 show wpAny _ _ (Builtin.Dict_items.addrOf (.ref d) >>= _) _ _ s
 refine wpAny_bind (wpAny_of_eq (a := d) (by rfl) ?_)
 refine wpAny_bind (wpAny_dictEntries hd ho ?_)
 dsimp only
 rw [if_neg (by rw [hn]; simp)]
 refine wpAny_bind (wpAny_of_eq (a := d) (by rfl) ?_)
 refine wpAny_bind (wpAny_dictEpoch hd ho ?_)
 rw [if_neg (by simp)]
 refine wpAny_pure ?_
 dsimp only
 rw [if_neg (by omega), Int.toNat_natCast, he]
 dsimp only
 show wpAny _ _ ((typeNameOfWhole (.ref it) >>= _) >>= _) _ _ s
 refine wpAny_bind (wpAny_bind (wpAny_typeNameOfWhole_keyiter hT ?_))
 refine wpAny_pure ?_
 refine wpAny_bind (wpAny_isOneOf_keyiter hT ?_)
 refine wpAny_bind (wpAny_setField h1 rfl (show 1 < 4 by decide) ?_)
 show wpAny _ _ _ _ _ { s with heap := s.heap.update it (Obj.mapFields fun x_1 => x_1.setIfInBounds 1 (rawInt (i + 1))) }
 have e2 := Heap.get?_update_self (Obj.mapFields fun x_1 => x_1.setIfInBounds 1 (rawInt (i + 1))) h1 (by rfl)
 have hT' : Shared.TypeIs { s with heap := s.heap.update it (Obj.mapFields fun x_1 => x_1.setIfInBounds 1 (rawInt (i + 1))) } (.ref it) "dict_keyiterator" := ⟨_, e2, rfl⟩
 refine wpAny_bind (wpAny_holding ?_)
 show wpAny _ _ (Builtin.Dict_items.isOneOf (.ref it) ["dict_keyiterator", "dict_reversekeyiterator"] >>= _) _ _ _
 refine wpAny_bind (wpAny_isOneOf_keyiter hT' ?_)
 rw [if_pos (by decide)]
 refine wpAny_pure ?_
 refine wpAny_pure ⟨_, rfl, ?_⟩
 refine wpAny_pure ?_
 refine hQ _ ⟨_, e2, rfl, rfl⟩ ⟨Heap.size_update _ _ _, fun b hb => Heap.get?_update_other _ _ (Ne.symm hb)⟩
theorem aZB {Q : Option Value -> Shared -> Prop} (hh : A.handled = none)
  (hit : s.heap.IsKeyIter it d i n ep) (hd : s.heap.get? d = some o) (ho : o.data = .dict es ep) (hn : es.size = n) (he : es[i]? = none)
  (hQ : ∀ h', Heap.ExtBut it s.heap h' -> Q none { s with heap := h' }) : wpAny (model prog w) A (pyNext (.ref it)) Q E s := by
 have hT : s.TypeIs (.ref it) "dict_keyiterator" := hit.typeIs
 obtain ⟨⟨cl, di, da, sl⟩, h1, h2, h3⟩ := id hit
 replace h2 : cl = _ := h2
 replace h3 : da = _ := h3
 subst h2 h3
 unfold pyNext
 refine wpAny_bind (wpAny_attempt (wpAny_callSpecial?_slot (name := Str.ofString "__next__") hT F.slot_dict_keyiterator_next (wpAny_call_entry F.slot_dict_keyiterator_next hT F.entry_dict_keyiterator_next ?_ (F.args_dict_keyiterator_next_1 _))))
 show wpAny _ _ (Builtin.Dict_items.slot0 "__next__" { pos := [Value.ref it] } >>= _) _ _ s
 refine wpAny_bind (wpAny_of_eq (a := Value.ref it) (by rfl) ?_)
 show wpAny _ _ (((typeNameOfWhole (.ref it) >>= _) >>= _) >>= _) _ _ s
 refine wpAny_bind (wpAny_bind (wpAny_bind (wpAny_typeNameOfWhole_keyiter hT ?_)))
 refine wpAny_pure ?_
 refine wpAny_bind (wpAny_fieldsOf h1 rfl ?_)
 show wpAny _ _ (Builtin.Dict_items.addrOf (.ref d) >>= _) _ _ s
 refine wpAny_bind (wpAny_of_eq (a := d) (by rfl) ?_)
 refine wpAny_bind (wpAny_dictEntries hd ho ?_)
 dsimp only
 rw [if_neg (by rw [hn]; simp)]
 refine wpAny_bind (wpAny_of_eq (a := d) (by rfl) ?_)
 refine wpAny_bind (wpAny_dictEpoch hd ho ?_)
 rw [if_neg (by simp)]
 refine wpAny_pure ?_
 dsimp only
 rw [if_neg (by omega), Int.toNat_natCast, he]
 dsimp only
 show wpAny _ _ ((typeNameOfWhole (.ref it) >>= _) >>= _) _ _ s
 refine wpAny_bind (wpAny_bind (wpAny_typeNameOfWhole_keyiter hT ?_))
 refine wpAny_pure ?_
 refine wpAny_bind (wpAny_setField h1 rfl (show 0 < 4 by decide) ?_)
 show wpAny _ _ _ _ _ { s with heap := s.heap.update it (Obj.mapFields fun x_1 => x_1.setIfInBounds 0 Value.none) }
 refine wpAny_bind ?_
 simp only [newExc, newTuple]
 refine wpAny_bind (wpAny_newObj_type ?_ (by size_fits))
 refine wpAny_bind (m := firstArgMember _ _) (wpAny_of_eq (a := Value.none) (by first | rfl | (simp only [firstArgMember]; rfl)) ?_)
 refine wpAny_newObj_type ?_ (by size_fits)
 simp only [raiseNew]
 refine wpAny_bind (wpAny_handled ?_)
 rw [show A.in1.handled = none from hh]
 dsimp only
 refine wpAny_throw ?_
 refine wpAny_bind (wpAny_isInstance (T := "StopIteration") (b := true) ⟨_, Heap.get?_push_size _ rfl, rfl⟩ isSubtype_stop ?_)
 refine wpAny_pure (hQ _ fun b o hb q => ?_)
 exact Heap.get?_push_of_some _ (Heap.get?_push_of_some _ (by rw [Heap.get?_update_other _ _ (Ne.symm hb)]; exact q))
theorem eNB {Q : Value -> Shared -> Prop} (hs : (d == sysModules) = false) (hd : s.heap.get? d = some o) (hx : o.ExactDict) (ho : o.data = .dict es ep)
  (hQ : Q (.ref s.heap.objs.size) { s with heap := s.heap.push { cls := .type "dict_keyiterator", data := .fields #[.ref d, rawInt 0, rawInt es.size, rawInt ep] } }) : wpAny (model prog w) A (pyIter (.ref d)) Q E s := by
 have hT : s.TypeIs (.ref d) "dict" := ⟨o, hd, hx.1⟩
 refine wpAny_pyIter_slot hT F.slot_dict_iter (wpAny_call_entry F.slot_dict_iter hT F.entry_dict_iter ?_ (F.args_dict_iter_1 _))
 unfold Builtin.«dict.__iter__»
 show wpAny _ _ ((Builtin.Dict.notOrdered "__iter__" { pos := [Value.ref d] } >>= _) >>= _) _ _ s
 refine wpAny_bind (wpAny_bind ?_)
 unfold Builtin.Dict.notOrdered
 rw [if_pos (by decide)]
 refine wpAny_bind (wpAny_typeOf hT ?_)
 rw [if_neg (by decide)]
 refine wpAny_pure ?_
 refine wpAny_bind (wpAny_of_eq (a := (Value.ref d, [])) (by rfl) ?_)
 refine wpAny_pure ?_
 refine wpAny_bind (wpAny_of_eq (a := d) (by rfl) ?_)
 unfold Builtin.Dict.showsAll
 rw [if_neg (by rw [hs]; decide)]
 refine wpAny_bind (wpAny_pure ?_)
 refine wpAny_bind (wpAny_dictEntries hd ho ?_)
 refine wpAny_bind (wpAny_dictEpoch hd ho ?_)
 refine wpAny_bind ?_
 unfold newFields
 refine wpAny_newObj_type ?_ (by size_fits)
 refine wpAny_pure ⟨_, rfl, "dict_keyiterator", _, ⟨_, Heap.get?_push_size _ rfl, rfl⟩, by rfl, hQ⟩
end
abbrev KVs := List (List Int × Int)
abbrev KXs := List (List Int × Addr × Int)
def aCO (kvs : KVs) (k : List Int) : Option Int := (kvs.find? fun p => decide (p.1 = k)).map (·.2)
def aGC (kvs : KVs) (k : List Int) (n : Int) : KVs := if (aCO kvs k).isSome = true then kvs.map (fun p => if p.1 = k then (p.1, n) else p) else kvs ++ [(k, n)]
def stX (xs : KXs) (k : List Int) (b : Addr) (n : Int) : KXs := if (xs.find? fun p => decide (p.1 = k)).isSome = true then xs.map (fun p => if p.1 = k then (p.1, p.2.1, n) else p) else xs ++ [(k, b, n)]
abbrev kv (x : List Int × Addr × Int) : List Int × Int := (x.1, x.2.2)
theorem aQD (xs : KXs) (k : List Int) : aCO (xs.map kv) k = (xs.find? fun p => decide (p.1 = k)).map (·.2.2) := by
 unfold aCO
 induction xs with
 | nil => rfl
 | cons x xs ih =>
  rw [List.map_cons, List.find?_cons, List.find?_cons]
  by_cases h : x.1 = k
  ·simp [kv, h]
  ·have h' : decide ((kv x).1 = k) = false := by simp [kv, h]
   have h2 : decide (x.1 = k) = false := by simp [h]
   rw [h']; exact ih
theorem eFA (xs : KXs) (k : List Int) (b : Addr) (n : Int) : aGC (xs.map kv) k n = (stX xs k b n).map kv := by
 unfold aGC stX
 rw [aQD, Option.isSome_map]
 by_cases h : (xs.find? fun p => decide (p.1 = k)).isSome = true
 ·rw [if_pos h, if_pos h, List.map_map, List.map_map]
  refine List.map_congr_left fun x _ => ?_
  show (if x.1 = k then (x.1, n) else kv x) = kv (if x.1 = k then (x.1, x.2.1, n) else x)
  by_cases e : x.1 = k
  ·rw [if_pos e, if_pos e]
  ·rw [if_neg e, if_neg e]
 ·rw [if_neg h, if_neg h, List.map_append]; rfl
abbrev KPair : KXs -> List (List Int × Addr × Value) -> Prop := Paired fun (x : List Int × Addr × Int) (y : List Int × Addr × Value) => y.1 = x.1 /\ y.2.1 = x.2.1 /\ RelV (.int x.2.2) y.2.2
theorem KPair.at {xs : KXs} {ys : List (List Int × Addr × Value)} (r : KPair xs ys) (k : List Int) : ((xs.find? fun p => decide (p.1 = k)) = none -> atKey ys k = none) /\ ∀ x, (xs.find? fun p => decide (p.1 = k)) = some x -> ∃ v, atKey ys k = some (x.2.1, v) /\ RelV (.int x.2.2) v := by
 induction r with
 | nil => exact ⟨fun _ => rfl, fun x h => by cases h⟩
 | @cons p q ps qs h t ih =>
  obtain ⟨h1, h2, h3⟩ := h
  rw [List.find?_cons]
  by_cases e : p.1 = k
  ·have e' : decide (p.1 = k) = true := by simp [e]
   rw [e']
   refine ⟨fun z => (by cases z), fun x z => ?_⟩
   cases z
   refine ⟨q.2.2, ?_, h3⟩
   have e2 : decide (q.1 = k) = true := by simp [h1, e]
   show (List.find? _ (q :: qs)).map _ = _
   rw [List.find?_cons, e2]
   show some q.2 = some (p.2.1, q.2.2)
   rw [<- h2]
  ·have e' : decide (p.1 = k) = false := by simp [e]
   have e2 : decide (q.1 = k) = false := by simp [h1, e]
   rw [e']
   have e3 : atKey (q :: qs) k = atKey qs k := by
    show (List.find? _ (q :: qs)).map _ = _
    rw [List.find?_cons, e2]; rfl
   rw [e3]; exact ih
theorem KPair.isSome {xs : KXs} {ys : List (List Int × Addr × Value)} (r : KPair xs ys) (k : List Int) : (atKey ys k).isSome = (xs.find? fun p => decide (p.1 = k)).isSome := by
 obtain ⟨h1, h2⟩ := r.at k
 cases q : (xs.find? fun p => decide (p.1 = k)) with
 | none => rw [h1 q]; rfl
 | some x => obtain ⟨v, e, _⟩ := h2 x q; rw [e]; rfl
theorem KPair.snoc {p : List Int × Addr × Int} {q : List Int × Addr × Value} (h : q.1 = p.1 /\ q.2.1 = p.2.1 /\ RelV (.int p.2.2) q.2.2) : ∀ {xs : KXs} {ys : List (List Int × Addr × Value)}, KPair xs ys -> KPair (xs ++ [p]) (ys ++ [q])
 | _, _, .nil => .cons h .nil
 | _, _, .cons a t => .cons a (KPair.snoc h t)
theorem KPair.put {xs : KXs} {ys : List (List Int × Addr × Value)} (r : KPair xs ys) (k : List Int) (b : Addr) {n : Int} {u : Value} (ru : RelV (.int n) u) : KPair (stX xs k b n) (storedH ys k b u) := by
 unfold stX storedH
 rw [r.isSome k]
 by_cases h : (xs.find? fun p => decide (p.1 = k)).isSome = true
 ·rw [if_pos h, if_pos h]
  clear h
  induction r with
  | nil => exact .nil
  | @cons p q ps qs h t ih =>
   obtain ⟨h1, h2, h3⟩ := h
   rw [List.map_cons, List.map_cons]
   refine .cons ?_ ih
   unfold putAt
   by_cases e : p.1 = k
   ·rw [if_pos e, if_pos (h1.trans e)]; exact ⟨h1, h2, ru⟩
   ·rw [if_neg e, if_neg (fun z => e (h1.symm.trans z))]; exact ⟨h1, h2, h3⟩
 ·rw [if_neg h, if_neg h]
  exact KPair.snoc ⟨rfl, rfl, ru⟩ r
theorem KPair.len {xs : KXs} {ys : List (List Int × Addr × Value)} (r : KPair xs ys) : xs.length = ys.length := by
 induction r with
 | nil => rfl
 | cons h t ih => rw [List.length_cons, List.length_cons, ih]
theorem aWB (xs : KXs) (k : List Int) (b : Addr) (n : Int) : (stX xs k b n).length <= xs.length + 1 := by
 unfold stX
 split
 ·rw [List.length_map]; omega
 ·rw [List.length_append, List.length_singleton]; omega
theorem DicR.put {F : Hp} {kvs : KVs} {xs : KXs} {k : List Int} {b : Addr} (r : DicR F kvs xs) (hb : F b = some (.tup (k.map V.int))) (n : Int) : DicR F (aGC kvs k n) (stX xs k b n) := by
 refine ⟨?_, fun x hx => ?_⟩
 ·rw [r.1]; exact eFA xs k b n
 ·unfold stX at hx
  split at hx
  ·obtain ⟨y, hy, rfl⟩ := List.mem_map.mp hx
   by_cases e : y.1 = k
   ·rw [if_pos e]; exact r.2 y hy
   ·rw [if_neg e]; exact r.2 y hy
  ·rcases List.mem_append.mp hx with h | h
   ·exact r.2 x h
   ·rw [List.mem_singleton] at h; subst h; exact hb
def DcRd (H : Hp) (a : Addr) (xs : KXs) : Prop := H a = some (.ext (aAJ a xs)) \/ ∃ ob, H a = some (.frz ob (.ext (aAJ a xs)))
theorem DcRd.mono {H H' : Hp} {a : Addr} {xs : KXs} (s : Same H H') (h : DcRd H a xs) : DcRd H' a xs := h.elim (fun z => .inl (s _ _ z)) fun ⟨ob, z⟩ => .inr ⟨ob, s _ _ z⟩
theorem items_int {P : Program} {w : World} : ∀ {ks : List Int} {us : List Value}, Vals (ks.map V.int) us -> ItemsAre (intKind P w) ks us
 | [], _, r => by rw [List.map_nil] at r; cases r; exact .nil
 | k :: ks, _, r => by
  rw [List.map_cons] at r
  cases r with
  | cons h t =>
   obtain ⟨tk, rfl⟩ := (show ∃ t, _ = Value.int k t from h)
   exact .cons (by show Value.isInt k (.int k tk) = true; simp [Value.isInt]) (items_int t)
section
variable {X : Cx} {pins : List (Addr × Obj)} {σ : St} {H : Hp} {s : Shared} {a b : Addr} {xs : KXs}
theorem eHO (I : Inv X pins σ H s) {k : List Int} (e : H b = some (.tup (k.map V.int))) : (tupleKind (intKind X.prog X.w)).is s.heap k b := by
 obtain ⟨_, its, r, o, h1, h2, n, h3⟩ := (show ObjOk X.prog X.w H s.heap b (.tup (k.map V.int)) from I.hok b _ e)
 exact ⟨o, its.toArray, n, h1, h2, h3, by simpa using items_int r⟩
theorem DcRd.is (I : Inv X pins σ H s) (h : DcRd H a xs) : aAJ a xs s.heap := by
 rcases h with e | ⟨ob, e⟩
 ·exact (show ObjOk X.prog X.w H s.heap a (.ext (aAJ a xs)) from I.hok a _ e).1
 ·exact (show ObjOk X.prog X.w H s.heap a (.frz ob (.ext (aAJ a xs))) from I.hok a _ e).2.1
theorem aNF (I : Inv X pins σ H s) (h : aAJ a xs s.heap) (hk : ∀ x ∈ xs, H x.2.1 = some (.tup (x.1.map V.int))) : xs.length <= sizeLine /\ (a == sysModules) = false /\ ∃ ys, KPair xs ys /\ s.heap.DictOfH (tupleKind (intKind X.prog X.w)) a ys := by
 obtain ⟨z, hd, o, ho, hx, es, ep, ys, h1, h2, r, nd⟩ := h
 refine ⟨z, hd, ys, r, o, es, ep, ho, hx, h1, h2 _ _, fun y hy => ?_, nd⟩
 have all : ∀ {l : KXs} {m : List (List Int × Addr × Value)}, KPair l m -> (∀ x ∈ l, H x.2.1 = some (.tup (x.1.map V.int))) -> ∀ y ∈ m, (tupleKind (intKind X.prog X.w)).is s.heap y.1 y.2.1 := by
  intro l m q
  induction q with
  | nil => intro _ y hy; exact nomatch hy
  | @cons p q ps qs hq t ih =>
   intro hl y hy
   rcases List.mem_cons.mp hy with e | hy
   ·subst e
    rw [hq.1, hq.2.1]
    exact eHO I (hl p (by simp))
   ·exact ih (fun x hx => hl x (by simp [hx])) y hy
 exact all r hk y hy
theorem aZF {P : Program} {w : World} {h : Heap} {ys : List (List Int × Addr × Value)} (z : xs.length <= sizeLine) (hd : (a == sysModules) = false) (r : KPair xs ys) (dd : h.DictOfH (tupleKind (intKind P w)) a ys) : aAJ a xs h := by
 obtain ⟨o, es, ep, h1, h2, h3, h4, h5, h6⟩ := dd
 exact ⟨z, hd, o, h1, h2, es, ep, ys, h3, fun _ _ => h4, r, h6⟩
theorem aTU {P : Program} {w : World} {H' : Hp} {h : Heap} (z : aAJ a xs h) : ObjOk P w H' h a (.ext (aAJ a xs)) := by
 refine ⟨z, let ⟨_, _, o, h1, _⟩ := z; ⟨o, h1⟩, fun h1 h2 y k => ?_⟩
 obtain ⟨q1, q2, o, h3, h4⟩ := y
 exact ⟨q1, q2, o, k o h3, h4⟩
theorem Inv.frzD (I : Inv X pins σ H s) (h : H a = some (.ext (aAJ a xs))) : ∃ ob, Inv X pins σ (upd H a (.frz ob (.ext (aAJ a xs)))) s := by
 have z := DcRd.is I (.inl h)
 obtain ⟨q1, q2, ob, h1, h2⟩ := id z
 refine ⟨ob, ?_⟩
 exact I.write (x := a) (e := a) (t' := s.toks) (by rw [h]; exact True.intro) (.inl rfl) (fun b u _ q => q) ⟨ob, h1⟩ ⟨h1, aTU z⟩
end
section
variable {K : PySem.W.Frag} {B : B0} {F H : Hp} {σ : St} {ρ : List Sl} {p : Addr} {kvs kvs' : KVs} {es es' : KXs}
def eLF (σ : St) (ρ : List Sl) (p : Addr) : Prop := ∀ (i : Nat) xs, ρ[i]? = some (.dct xs) -> σ[i]? ≠ some (some (.ref p))
theorem Ok.noDct (k : Ok K B F H σ ρ) (hp : H p = none) : eLF σ ρ p := fun i xs e q => by
 obtain ⟨a, vs, h1, h2, _⟩ := k.dic.dcts i xs e
 rw [h1] at q; cases q
 rw [hp] at h2; cases h2
theorem wN {i : Nat} {s : Sl} (j : Nat) (t : Sl) (h : (ρ.set i s)[j]? = some t) (hn : t ≠ s) : i ≠ j /\ ρ[j]? = some t := by
 by_cases e : i = j
 ·subst e
  rw [List.getElem?_set_self'] at h
  cases z : ρ[i]? with
  | none => rw [z] at h; cases h
  | some w => rw [z] at h; exact absurd (Option.some.inj h).symm hn
 ·rw [List.getElem?_set_ne e] at h; exact ⟨e, h⟩
theorem Ok.setDct (k : Ok K B F H σ ρ) (i : Nat) (hp : H p = some (.ext (aAJ p es))) (hf : F p = none) (hb : B.H p = none) (hn : eLF σ ρ p) (r : DicR F kvs es) : Ok K B F H (σ.set i (some (.ref p))) (ρ.set i (.dct kvs)) := by
 refine ⟨k.toExt, by rw [List.length_set, List.length_set, k.len], fun j d q => ?_, fun j xs q => ?_, fun j l xs ys a q1 q2 q3 q4 => ?_, fun j ks q => ?_, fun j l xs ys a q1 q2 q3 q4 => ?_⟩
 ·obtain ⟨n, q'⟩ := wN j _ q (fun z => nomatch z)
  rw [List.getElem?_set_ne n]; exact k.vals j d q'
 ·obtain ⟨n, q'⟩ := wN j _ q (fun z => nomatch z)
  rw [List.getElem?_set_ne n]; exact k.owns j xs q'
 ·obtain ⟨n1, q1⟩ := wN j _ q1 (fun z => nomatch z)
  obtain ⟨n2, q2⟩ := wN l _ q2 (fun z => nomatch z)
  rw [List.getElem?_set_ne n1] at q3
  rw [List.getElem?_set_ne n2] at q4
  exact k.dist j l xs ys a q1 q2 q3 q4
 ·by_cases h : i = j
  ·subst h
   rw [List.getElem?_set_self'] at q
   cases z : ρ[i]? with
   | none => rw [z] at q; cases q
   | some w =>
    rw [z] at q; cases q
    have hi : i < σ.length := by rw [k.len]; exact (List.getElem?_eq_some_iff.mp z).1
    exact ⟨p, es, by rw [List.getElem?_set_self hi], hp, hf, hb, r⟩
  ·rw [List.getElem?_set_ne h] at q ⊢
   exact k.dic.dcts j ks q
 ·by_cases n1 : i = j
  ·by_cases n2 : i = l
   ·exact n1.symm.trans n2
   ·subst n1
    rw [List.getElem?_set_ne n2] at q2 q4
    have hi : i < σ.length := by
     have := (List.getElem?_eq_some_iff.mp q3).1
     rw [List.length_set] at this; exact this
    rw [List.getElem?_set_self hi] at q3
    cases q3
    exact absurd q4 (hn l ys q2)
  ·by_cases n2 : i = l
   ·subst n2
    rw [List.getElem?_set_ne n1] at q1 q3
    have hi : i < σ.length := by
     have := (List.getElem?_eq_some_iff.mp q4).1
     rw [List.length_set] at this; exact this
    rw [List.getElem?_set_self hi] at q4
    cases q4
    exact absurd q3 (hn j xs q1)
   ·rw [List.getElem?_set_ne n1] at q1 q3
    rw [List.getElem?_set_ne n2] at q2 q4
    exact k.dic.distD j l xs ys a q1 q2 q3 q4
theorem Ok.chgDct {i : Nat} (k : Ok K B F H σ ρ) (hi : ρ[i]? = some (.dct kvs)) (hs : σ[i]? = some (some (.ref p))) (r : DicR F kvs' es') : Ok K B F (upd H p (.ext (aAJ p es'))) σ (ρ.set i (.dct kvs')) := by
 obtain ⟨a, us, h1, h2, h3, h4, h5⟩ := k.dic.dcts i kvs hi
 rw [h1] at hs
 cases hs
 have hlt : i < ρ.length := (List.getElem?_eq_some_iff.mp hi).1
 refine ⟨⟨fun b u q => ?_, fun b u q => ?_, k.sf, k.nw⟩, by rw [List.length_set, k.len], fun j d q => ?_, fun j xs q => ?_, fun j l xs ys a q1 q2 => ?_, fun j ks q => ?_, fun j l xs ys a q1 q2 q3 q4 => ?_⟩
 ·have ne : b ≠ p := fun z => by subst z; rw [h3] at q; cases q
  rw [yI ne]; exact k.sub b u q
 ·have ne : b ≠ p := fun z => by subst z; rw [h4] at q; cases q
  rw [yI ne]; exact k.sh b u q
 ·exact k.vals j d (wN j _ q (fun z => nomatch z)).2
 ·obtain ⟨b, vs, g1, g2, g3⟩ := k.owns j xs (wN j _ q (fun z => nomatch z)).2
  have ne : b ≠ p := fun z => by subst z; rw [h2] at g2; cases g2
  exact ⟨b, vs, g1, by rw [yI ne]; exact g2, g3⟩
 ·exact k.dist j l xs ys a (wN j _ q1 (fun z => nomatch z)).2 (wN l _ q2 (fun z => nomatch z)).2
 ·by_cases h : i = j
  ·subst h
   rw [List.getElem?_set_self hlt] at q; cases q
   exact ⟨p, es', h1, yK, h3, h4, r⟩
  ·rw [List.getElem?_set_ne h] at q
   obtain ⟨b, us', g1, g2, g3, g4, g5⟩ := k.dic.dcts j ks q
   have ne : b ≠ p := fun z => by subst z; exact h (k.dic.distD i j kvs ks b hi q h1 g1)
   exact ⟨b, us', g1, by rw [yI ne]; exact g2, g3, g4, g5⟩
 ·have own : ∀ (m : Nat) ys, (ρ.set i (.dct kvs'))[m]? = some (.dct ys) -> ∃ zs, ρ[m]? = some (.dct zs) := fun m ys q => by
   by_cases h : i = m
   ·subst h; exact ⟨kvs, hi⟩
   ·rw [List.getElem?_set_ne h] at q; exact ⟨ys, q⟩
  obtain ⟨y1, z1⟩ := own j xs q1
  obtain ⟨y2, z2⟩ := own l ys q2
  exact k.dic.distD j l _ _ a z1 z2 q3 q4
theorem Ok.freezeD {i : Nat} (k : Ok K B F H σ ρ) (hi : ρ[i]? = some (.dct kvs)) : ∃ a es, H a = some (.ext (aAJ a es)) /\ ∀ ob, Same F (upd F a (.frz ob (.ext (aAJ a es)))) /\ Ok K B (upd F a (.frz ob (.ext (aAJ a es)))) (upd H a (.frz ob (.ext (aAJ a es)))) σ (ρ.set i (.val (.dic kvs))) := by
 obtain ⟨a, es, h1, h2, h3, h4, h5⟩ := k.dic.dcts i kvs hi
 have hlt : i < ρ.length := (List.getElem?_eq_some_iff.mp hi).1
 refine ⟨a, es, h2, fun ob => ?_⟩
 have sf : Same F (upd F a (.frz ob (.ext (aAJ a es)))) := yM h3
 refine ⟨sf, ⟨fun b u q => ?_, fun b u q => ?_, k.sf.trans sf, fun b q => ?_⟩, by rw [List.length_set, k.len], fun j d q => ?_, fun j xs q => ?_, fun j l xs ys a q1 q2 => ?_, fun j ks q => ?_, fun j l xs ys a q1 q2 => ?_⟩
 ·by_cases h : b = a
  ·subst h; rw [yK] at q ⊢; exact q
  ·rw [yI h] at q ⊢; exact k.sub b u q
 ·have ne : b ≠ a := fun z => by subst z; rw [h4] at q; cases q
  rw [yI ne]; exact k.sh b u q
 ·by_cases h : b = a
  ·subst h; exact .inr h4
  ·rw [yI h] at q; exact k.nw b q
 ·by_cases h : i = j
  ·subst h
   rw [List.getElem?_set_self hlt] at q; cases q
   exact ⟨_, h1, .dic yK (h5.mono sf)⟩
  ·rw [List.getElem?_set_ne h] at q
   obtain ⟨v, g1, g2⟩ := k.vals j d q
   exact ⟨v, g1, g2.mono sf⟩
 ·obtain ⟨b, vs, g1, g2, g3, g4, g5⟩ := k.owns j xs (wN j _ q (fun z => nomatch z)).2
  have ne : b ≠ a := fun z => by subst z; rw [h2] at g2; cases g2
  exact ⟨b, vs, g1, by rw [yI ne]; exact g2, by rw [yI ne]; exact g3, g4, g5.mono sf⟩
 ·exact k.dist j l xs ys a (wN j _ q1 (fun z => nomatch z)).2 (wN l _ q2 (fun z => nomatch z)).2
 ·obtain ⟨n, q⟩ := wN j _ q (fun z => nomatch z)
  obtain ⟨b, us', g1, g2, g3, g4, g5⟩ := k.dic.dcts j ks q
  have ne : b ≠ a := fun z => by subst z; exact n (k.dic.distD i j kvs ks b hi q h1 g1)
  exact ⟨b, us', g1, by rw [yI ne]; exact g2, by rw [yI ne]; exact g3, g4, g5.mono sf⟩
 ·exact k.dic.distD j l xs ys a (wN j _ q1 (fun z => nomatch z)).2 (wN l _ q2 (fun z => nomatch z)).2
end
def eLO (X : Cx) (ρ : Rho) (e : Expr) (kvs : KVs) : Prop := ∀ (B : B0) (F H : Hp) (σ : St) (Q : VK), Ok X.K B F H σ ρ -> (∀ a xs F' H', Ext ⟨F, H⟩ F' H' -> DcRd H' a xs -> DicR F' kvs xs -> Q (.ref a) H') -> wE X e σ H Q
def EvDn (X : Cx) (ρ : Rho) (e : Expr) (kvs : KVs) : Prop := ∀ (B : B0) (F H : Hp) (σ : St) (Q : VK), Ok X.K B F H σ ρ -> (∀ p xs F' H', Ext ⟨F, H⟩ F' H' -> H p = none -> H' p = some (.ext (aAJ p xs)) -> F' p = none -> DicR F' kvs xs -> Q (.ref p) H') -> wE X e σ H Q
section
variable {X : Cx} {ρ ρ' : Rho} {e a b c : Expr} {d : D} {pos p : Pos} {N : List Str} {sc : Scope} {x y : Str} {kvs kvs' : KVs} {sts : List Stmt} {o : Out} {k : List Int} {n : Int}
theorem EvE.dr (h : EvE X ρ e (.dic kvs)) : eLO X ρ e kvs := fun B F H σ Q k q => h B F H σ Q k fun v F' H' x' r => by
 cases r with
 | dic hf r => exact q _ _ F' H' x' (.inr ⟨_, x'.sub _ _ hf⟩) r
theorem eKR (t : At X N sc) (i : Nat) (hr : ρ[i]? = some (.dct kvs)) (hN : N[i]? = some x := by rfl) (hv : aDQ sc x = true := by rfl) (hx : qS x = true := by rfl) : eLO X ρ (.Name x pos) kvs := fun B F H σ Q k q => .mk fun pins s I => by
 obtain ⟨a, es, h1, h2, h3, h4, h5⟩ := k.dic.dcts i kvs hr
 exact aVN t hN hv hx pins s σ H Q I ⟨_, h1, q a es F H (.refl k.sub) (.inl h2) h5⟩
theorem Ext.freezeD {F H F' H' : Hp} {q : Addr} {xs : KXs} {ob : Obj} (x : Ext ⟨F, H⟩ F' H') (h0 : H q = none) (hf : F' q = none) : Ext ⟨F, H⟩ (upd F' q (.frz ob (.ext (aAJ q xs)))) (upd H' q (.frz ob (.ext (aAJ q xs)))) :=
 ⟨aSK x.sub, fun b u z => by
  have ne : b ≠ q := fun w => by subst w; have z' : H b = some u := z; rw [h0] at z'; cases z'
  rw [yI ne]; exact x.sh b u z, x.sf.trans (yM hf), fun b z => by
  by_cases h : b = q
  ·subst h; exact .inr h0
  ·rw [yI h] at z; exact x.nw b z⟩
theorem EvDn.toE (h : EvDn X ρ e kvs) : EvE X ρ e (.dic kvs) := fun B F H σ Q k q => .mk fun pins s I =>
 thn (h B F H σ (fun v H' => ∃ p xs F', v = .ref p /\ Ext ⟨F, H⟩ F' H' /\ H p = none /\ H' p = some (.ext (aAJ p xs)) /\ F' p = none /\ DicR F' kvs xs) k (fun p xs F' H' x' h0 h1 h2 r => ⟨p, xs, F', rfl, x', h0, h1, h2, r⟩) pins s I) fun u s1 ⟨v, H', I1, rv, p, xs, F', ev, x', h0, h1, h2, r⟩ => by
  subst ev
  obtain ⟨ob, I2⟩ := Inv.frzD I1 h1
  exact ⟨_, _, I2, rv, q _ _ _ (x'.freezeD h0 h2) (.dic yK (r.mono (yM h2)))⟩
theorem aUW (i : Nat) (hi : ρ[i]? = some (.dct kvs)) (h : EvSs X (ρ.set i (.val (.dic kvs))) sts o) : EvSs X ρ sts o := fun B F H σ E k q => .mk fun pins s I => by
 obtain ⟨a, es, h2, g⟩ := k.freezeD hi
 obtain ⟨ob, I2⟩ := Inv.frzD I h2
 obtain ⟨sf, k'⟩ := g ob
 exact h B _ _ σ E k' (q.later sf) pins s I2
theorem aYY : EvDn X ρ (.Dict [] [] pos) [] := fun B F H σ Q k q => .mk fun pins s I => by
 have hn := I.hok.fresh (Nat.le_refl s.heap.objs.size)
 have hb : sysModules < s.heap.objs.size := Nat.lt_trans (by decide) (show mainGlobals < s.heap.objs.size from (I.mod.glob.keeps I.bk).lt)
 have z : aAJ s.heap.objs.size [] (s.heap.push { cls := .type "dict", data := .dict #[] }) := aZF (P := X.prog) (w := X.w) (Nat.zero_le _) (beq_eq_false_iff_ne.mpr (Ne.symm (Nat.ne_of_lt hb))) .nil (Heap.DictOfH.new s.heap)
 refine wpAny_Dict_empty ⟨.ref s.heap.objs.size, _, I.laid (a := s.heap.objs.size) (o := .ext (aAJ s.heap.objs.size [])) (t' := s.toks) (fun _ _ q => Heap.get?_push_of_some _ q) (Nat.le_refl _) (aTU z), rfl, ?_⟩
 exact q _ [] F _ ⟨k.sub.trans (yM hn), yM hn, .refl _, fun _ z => .inl z⟩ hn yK (k.sub.free hn) ⟨rfl, fun _ z => nomatch z⟩
theorem aWJ [FnT X] (t : At X N sc) (i : Nat) {pos' : Pos} (h : EvDn X ρ e kvs) (hi : N[i]? = some x := by rfl) (hx : aPZ sc x = true := by rfl) (hs : swapsWith e (some (.Name x pos')) pos.line X.env = pure false := by rfl) :
  EvS X ρ (.Assign [.Name x pos'] e pos) (.nx (ρ.set i (.dct kvs))) :=
 .of (aKM (i := i) t.nd (t.ix hi) (t.loc hx) yU hs hfT) fun B F H σ E k q => h B F H σ _ k fun p vs F' H' x' h0 hp hf r =>
  q F' H' _ ((k.ext x').setDct i hp hf (k.sh.free h0) (by
   have hd := k.noDct h0
   exact hd) r) x'.sf
theorem eDL (t : At X N sc) (ha : eLO X ρ a kvs) (hb : EvE X ρ b (.tup (k.map D.int))) (h : aCO kvs k = some n) (hs : aIZ b := by intro _ _; rfl) : EvE X ρ (.Subscript a b pos) (.int n) := fun B F H σ Q kk q => .mk fun pins s I => by
 refine Subscript_ (thn (ha B F H σ (fun v H1 => ∃ p xs F1, v = .ref p /\ Ext ⟨F, H⟩ F1 H1 /\ DcRd H1 p xs /\ DicR F1 kvs xs) kk (fun p xs F1 H1 x1 r1 r2 => ⟨p, xs, F1, rfl, x1, r1, r2⟩) pins s I) fun u s1 ⟨v, H1, I1, rv, p, xs, F1, ev, x1, r1, r2⟩ => ?_)
 subst ev
 cases (show u = Value.ref p from rv)
 refine thn (hb B F1 H1 σ (fun v H2 => ∃ F2, Ext ⟨F1, H1⟩ F2 H2 /\ Rep X.K F2 v (.tup (k.map D.int))) (kk.ext x1) (fun v F2 H2 x2 r3 => ⟨F2, x2, r3⟩) pins s1 I1) fun iv s2 ⟨w, H2, I2, rw', F2, x2, r3⟩ => ?_
 cases r3 with
 | @tup bt vs ds hf rl =>
  have ev := RepL.of_ints rl
  subst ev
  cases (show iv = Value.ref bt from rw')
  have hd := DcRd.is I2 (r1.mono x2.sh)
  have r2' := r2.mono x2.sf
  obtain ⟨z, hsm, ys, rel, dd⟩ := aNF I2 hd (fun x hx => x2.sub _ _ (r2'.2 x hx))
  have hv : aCO (xs.map kv) k = some n := by rw [<- h, r2.1]
  rw [aQD] at hv
  obtain ⟨x0, hx0, e0⟩ := Option.map_eq_some_iff.mp hv
  obtain ⟨w0, hw0, rw0⟩ := (rel.at k).2 x0 hx0
  refine subscriptTail_builtinR (x := w0) dd.typeIs PySem.F.slot_dict_getitem.lookup ?_ (hs _ _)
  refine wpAny_getItem_heap (Q := fun r s' => r = w0 /\ EP X pins σ Q r s') (tupleKind_room_in1 (by have := t.un; omega)) (eHO I2 (x2.sub _ _ hf)) dd hw0 ⟨rfl, .int n, H2, I2.tok _, ?_, q _ F2 H2 (x1.t x2) (.int n)⟩
  rw [<- e0]; exact rw0
end
section
variable {X : Cx}
theorem eDR {pins : List (Addr × Obj)} {σ : St} {H : Hp} {s : Shared} {a b : Addr} {xs : KXs} {k : List Int} {n : Int} {u : Value} (I : Inv X pins σ H s) (h : H a = some (.ext (aAJ a xs))) (hk : ∀ x ∈ xs, H x.2.1 = some (.tup (x.1.map V.int)))
  (hb : H b = some (.tup (k.map V.int))) (hz : xs.length < sizeLine) (ru : RelV (.int n) u) {h' : Heap} {ys : List (List Int × Addr × Value)} {t' : Nat} (rel : KPair xs ys) (hs : (a == sysModules) = false) (dd : h'.DictOfH (tupleKind (intKind X.prog X.w)) a (storedH ys k b u)) (sb : Heap.SameBut a s.heap h') :
  Inv X pins σ (upd H a (.ext (aAJ a (stX xs k b n)))) { s with heap := h', toks := t' } := by
 have z : aAJ a (stX xs k b n) h' := aZF (by have := aWB xs k b n; omega) hs (rel.put k b ru) dd
 exact I.write (x := a) (e := a) (by rw [h]; exact True.intro) (.inl rfl) (fun c q hc w => (sb.2 c hc).trans w) (let ⟨_, _, o, h1, _⟩ := z; ⟨o, h1⟩) (aTU z)
def eME : eHG := fun o i v H Q => ∃ a xs k b n, o = .ref a /\ i = .ref b /\ v = .int n /\ H a = some (.ext (aAJ a xs)) /\ (∀ x ∈ xs, H x.2.1 = some (.tup (x.1.map V.int))) /\ H b = some (.tup (k.map V.int)) /\ xs.length < sizeLine /\ Q (upd H a (.ext (aAJ a (stX xs k b n))))
theorem eHR (hu : X.A.units + 1 < cLine) : eLL X eME := by
 intro pins s σ H o i v ov iv u Q I ro ri rv h
 obtain ⟨a, xs, k, b, n, rfl, rfl, rfl, h1, h2, h3, h4, q⟩ := h
 cases (show ov = Value.ref a from ro)
 cases (show iv = Value.ref b from ri)
 obtain ⟨z, hs, ys, rel, dd⟩ := aNF I (DcRd.is I (.inl h1)) h2
 refine wpAny_setItem_heap (hsz := by rw [<- rel.len]; exact z) (tupleKind_room_in1 hu) (eHO I h3) dd fun h' dd' sb => ⟨_, eDR I h1 h2 h3 h4 rv rel hs dd' sb, q⟩
def aUJ (xs : KXs) (is : KXs) : KXs := is.foldl (fun acc x => stX acc x.1 x.2.1 x.2.2) xs
theorem eBO (hu : X.A.units < cLine) {pins : List (Addr × Obj)} {σ : St} {a : Addr} {E : Value -> Shared -> Prop} {Q : PUnit -> Shared -> Prop} : ∀ (is : KXs) (ws : List (Value × Value)) (xs : KXs) (H : Hp) (s : Shared), Inv X pins σ H s -> H a = some (.ext (aAJ a xs)) -> (∀ x ∈ xs, H x.2.1 = some (.tup (x.1.map V.int))) -> (∀ x ∈ is, H x.2.1 = some (.tup (x.1.map V.int))) ->
  Paired (fun (x : List Int × Addr × Int) (w : Value × Value) => w.1 = .ref x.2.1 /\ RelV (.int x.2.2) w.2) is ws -> xs.length + is.length < sizeLine -> (∀ s', Inv X pins σ (upd H a (.ext (aAJ a (aUJ xs is)))) s' -> Q PUnit.unit s') ->
  wpAny (model X.prog X.w) X.A (forIn ws PUnit.unit fun x _ => do
   dictSet a x.fst x.snd
   pure (ForInStep.yield PUnit.unit)) Q E s := by
 intro is
 induction is with
 | nil =>
  intro ws xs H s I h1 h2 h3 r hz q
  cases r
  have e : upd H a (.ext (aAJ a xs)) = H := funext fun b => by
   by_cases hb : b = a
   ·subst hb; rw [yK, h1]
   ·rw [yI hb]
  have q' := q s
  rw [show aUJ xs [] = xs from rfl, e] at q'
  exact wpAny_pure (q' I)
 | cons x is ih =>
  intro ws xs H s I h1 h2 h3 r hz q
  cases r with
  | @cons _ w _ ws hw t =>
  obtain ⟨k, b, n⟩ := x
  obtain ⟨w1, w2⟩ := w
  obtain ⟨e1, rn⟩ := hw
  cases (show w1 = Value.ref b from e1)
  rw [List.length_cons] at hz
  rw [List.forIn_cons]
  obtain ⟨z, hs, ys, rel, dd⟩ := aNF I (DcRd.is I (.inl h1)) h2
  have hb : H b = some (.tup (k.map V.int)) := h3 (k, b, n) (by simp)
  refine wpAny_bind (wpAny_bind (wpAny_dictSet_heap (by show X.A.units < cLine; exact hu) (eHO I hb) dd (fun h' dd' sb => ?_) (by rw [<- rel.len]; exact z)))
  refine wpAny_pure ?_
  have I2 := eDR (t' := s.toks + (tupleKind (intKind X.prog X.w)).draws k) I h1 h2 hb (by omega) rn rel hs dd' sb
  have tn : ∀ c ks, H c = some (.tup ks) -> upd H a (.ext (aAJ a (stX xs k b n))) c = some (.tup ks) := fun c ks hc => by
   rw [yI (fun z => by subst z; rw [h1] at hc; cases hc)]; exact hc
  refine ih ws (stX xs k b n) _ _ I2 yK (fun y hy => ?_) (fun y hy => tn _ _ (h3 y (by simp [hy]))) t (by have := aWB xs k b n; omega) fun s' I3 => q s' ?_
  ·unfold stX at hy
   split at hy
   ·obtain ⟨y', hy', rfl⟩ := List.mem_map.mp hy
    by_cases e : y'.1 = k
    ·rw [if_pos e]; exact tn _ _ (h2 y' hy')
    ·rw [if_neg e]; exact tn _ _ (h2 y' hy')
   ·rcases List.mem_append.mp hy with h | h
    ·exact tn _ _ (h2 y h)
    ·rw [List.mem_singleton] at h; subst h; exact tn _ _ hb
  ·rw [aVR] at I3; exact I3
end
section
variable {X : Cx} {ρ ρ' : Rho} {e f a b c : Expr} {d : D} {pos p apos cpos : Pos} {N : List Str} {sc : Scope} {x y : Str} {kvs kvs' : KVs} {sts : List Stmt} {o : Out} {k : List Int} {n : Int}
theorem aRN (t : At X N sc) (i : Nat) (hr : ρ[i]? = some (.dct kvs)) (hb : EvE X ρ b (.tup (k.map D.int))) (hz : kvs.length < sizeLine) (hN : N[i]? = some y := by rfl) (hv : aDQ sc y = true := by rfl) (hx : qS y = true := by rfl)
  (ha : ∀ v, assign (.Subscript (.Name y p) b pos) X.env v = (do
   let ov <- holding [v] (eval (.Name y p) X.env)
   let iv <- holding [v, ov] (eval b X.env)
   standAt pos
   holding [v, ov, iv] (setItem ov iv v)
   release [v, ov, iv] []) := by intro _; rfl) : EvG X ρ (.Subscript (.Name y p) b pos) (.int n) (ρ.set i (.dct (aGC kvs k n))) :=
 .of (eCQ yU yU (eHR (by have := t.un; omega)) ha) fun B F H σ v Q kk r q => by
  cases r
  refine .mk fun pins s I => ?_
  obtain ⟨l, es, h1, h2, h3, h4, h5⟩ := kk.dic.dcts i kvs hr
  refine aVN t hN hv hx pins s σ H _ I ⟨_, h1, ?_⟩
  refine hb B F H σ _ kk fun w F' H' x' rw' => ?_
  cases rw' with
  | @tup bt vs ds hf rl =>
   have ev := RepL.of_ints rl
   subst ev
   have h5' := h5.mono x'.sf
   refine ⟨l, es, k, bt, n, rfl, rfl, rfl, x'.sh _ _ h2, fun x hx => x'.sub _ _ (h5'.2 x hx), x'.sub _ _ hf, ?_, ?_⟩
   ·have e := congrArg List.length h5.1
    rw [List.length_map] at e; omega
   ·exact q F' _ _ ((kk.ext x').chgDct hr h1 (h5'.put hf n)) x'.sf
theorem aYR (t : At X N sc) {n0 : Int} (ho : eLO X ρ a kvs) (ha : EvA X ρ [e, f] [.tup (k.map D.int), .int n0]) (hbase : attributeBase a "get" X.env (eval a X.env) = eval a X.env := by rfl)
  (hfew : ((backTo cpos (starEach [e, f] X.env)).all (fun x => !x.1) && (backToKw cpos (keywordEach [] X.env)).all (fun x => x.1.isSome)
   && decide (([e, f] : List Expr).length + ([] : List Keyword).length + (if ([] : List Keyword).isEmpty then 0 else 1) < 30)) = true := by rfl)
  (hline : (apos.endLine == cpos.line) = true := by rfl) (hs : starEach [e, f] X.env = (false, eval e X.env) :: starEach [f] X.env := by rfl) (hplain : (backTo cpos (starEach [f] X.env)).any (·.1) = false := by rfl) :
  EvE X ρ (.Call (.Attribute a "get" apos) [e, f] [] cpos) (.int ((aCO kvs k).getD n0)) := fun B F H σ Q kk q => .mk fun pins s I => by
 refine wpAny_Call_method_late hbase hfew hline rfl (thn (ho B F H σ (fun v H1 => ∃ p xs F1, v = .ref p /\ Ext ⟨F, H⟩ F1 H1 /\ DcRd H1 p xs /\ DicR F1 kvs xs) kk (fun p xs F1 H1 x1 r1 r2 => ⟨p, xs, F1, rfl, x1, r1, r2⟩) pins s I) fun u s1 ⟨v, H1, I1, rv, p, xs, F1, ev, x1, r1, r2⟩ => ?_)
 subst ev
 cases (show u = Value.ref p from rv)
 have hd := DcRd.is I1 r1
 obtain ⟨_, _, ob, g1, g2, _⟩ := id hd
 refine ⟨"dict", "dict.get", PySem.F.plainAttrs_dict, PySem.F.slot_dict_get, PySem.F.type_dict_get, ⟨ob, g1, g2.1⟩, fun c ec => (by cases ec; exact ⟨ob, g1, g2.2.1⟩), ?_⟩
 have hA := ha.2 B F1 H1 σ (fun vs H2 => ∃ F2, Ext ⟨F1, H1⟩ F2 H2 /\ RepL X.K F2 vs [.tup (k.map D.int), .int n0]) (kk.ext x1) (fun vs F2 H2 x2 r3 => ⟨F2, x2, r3⟩) cpos pins s1 I1
 rw [hs] at hA ⊢
 refine Calls.callWith_builtin (by show (false || (backTo cpos (starEach [f] X.env)).any (·.1)) = false; rw [hplain] <;> rfl) (Calls.evalArgs_plain ?_)
 refine thn hA fun us s2 ⟨vs, H2, I2, rvs, F2, x2, r3⟩ => ?_
 cases r3 with
 | cons ra rb =>
 cases rb with
 | cons rn rnil =>
 cases rnil
 cases rn
 cases ra with
 | @tup bt ks ds hf rl =>
 have ev := RepL.of_ints rl
 subst ev
 obtain ⟨u1, u2, rfl, ru1, ru2⟩ := eAK rvs
 cases (show u1 = Value.ref bt from ru1)
 have r2' := r2.mono x2.sf
 obtain ⟨z, hsm, ys, rel, dd⟩ := aNF I2 (DcRd.is I2 (r1.mono x2.sh)) (fun x hx => x2.sub _ _ (r2'.2 x hx))
 refine call_meetsIn PySem.F.slot_dict_get dd.typeIs PySem.F.entry_dict_get (PySem.F.args_dict_get_3 _ _ _) (meetsH_dict_get_default (tupleKind (intKind X.prog X.w)) p bt hsm u2) ⟨tupleKind_room_in1 (by have := t.un; omega), k, ys, eHO I2 (x2.sub _ _ hf), dd, ?_⟩
 refine ⟨.int ((aCO kvs k).getD n0), H2, I2.tok _, ?_, q _ F2 H2 (x1.t x2) (.int _)⟩
 rw [r2.1, aQD]
 obtain ⟨hN, hS⟩ := rel.at k
 cases qq : (xs.find? fun p => decide (p.1 = k)) with
 | none => rw [hN qq]; exact ru2
 | some x0 =>
  obtain ⟨w0, hw0, rw0⟩ := hS x0 qq
  rw [hw0]; exact rw0
def Itd (l : Addr) (ob : Obj) (xs : KXs) : It :=
 ⟨fun i H => H l = some (.frz ob (.ext (aAJ l xs))) /\ i < xs.length, fun i H v H' => H' = H /\ ∃ x, xs[i]? = some x /\ v = .ref x.2.1, fun i H => H l = some (.frz ob (.ext (aAJ l xs))) /\ xs.length <= i, False⟩
theorem eKW {es : Array DictEntry} {ys : List (List Int × Addr × Value)} {xs : KXs} (h : ∀ (P : Program) (w : World), es.toList = ys.map (entryOfKey (tupleKind (intKind P w)))) (P : Program) (w : World) (r : KPair xs ys) : es.size = xs.length /\ ∀ (i : Nat) x, xs[i]? = some x -> ∃ e, es[i]? = some e /\ e.key = .ref x.2.1 := by
 have h' := h P w
 have hl : es.size = ys.length := by rw [<- Array.length_toList, h', List.length_map]
 refine ⟨by rw [hl, r.len], fun i x hx => ?_⟩
 have g : ∀ {xs : KXs} {ys : List (List Int × Addr × Value)}, KPair xs ys -> ∀ (i : Nat) x, xs[i]? = some x -> ∃ y, ys[i]? = some y /\ y.2.1 = x.2.1 := by
  intro xs ys r
  induction r with
  | nil => intro i x hx; simp at hx
  | @cons p q ps qs hq t ih =>
   intro i x hx
   cases i with
   | zero => simp at hx; subst hx; exact ⟨q, by simp, hq.2.1⟩
   | succ i => simpa using ih i x (by simpa using hx)
 obtain ⟨y, hy, ey⟩ := g r i x hx
 refine ⟨entryOfKey (tupleKind (intKind P w)) y, ?_, ?_⟩
 ·rw [<- Array.getElem?_toList, h', List.getElem?_map, hy]; rfl
 ·show Value.ref y.2.1 = _
  rw [ey]
theorem eAL {P : Program} {w : World} {K : PySem.W.Frag} {tg : Expr} (l it : Addr) (ob : Obj) (xs : KXs) {es : Array DictEntry} {ep : Nat} {ys : List (List Int × Addr × Value)} (h1 : ob.data = .dict es ep) (h2 : ∀ (P : Program) (w : World), es.toList = ys.map (entryOfKey (tupleKind (intKind P w)))) (r : KPair xs ys) :
  eAH P w K tg (Itd l ob xs) [it] it (fun i h => h.IsKeyIter it l i es.size ep) where
 mem := by simp
 obj := fun i h st b hb => by
  have e : b = it := by simpa using hb
  subst e
  obtain ⟨o, e, c, d⟩ := st
  exact ⟨o, e, fun v z => by rw [d] at z; cases z⟩
 keep := fun i h h' st k => st.at fun o e => k it (by simp) o e
 item := by
  intro X hP hw hK hc i pins s σ H E I hf st hg
  subst hP hw hK
  replace hc := hc.resolve_right fun z => z.1
  obtain ⟨hq, hx⟩ := hg
  obtain ⟨f0, f1, f2, f3, f4, f5⟩ := hf it (by simp)
  have ho := (show ObjOk X.prog X.w H s.heap l (.frz ob (.ext (aAJ l xs))) from I.hok l _ hq).1
  obtain ⟨hl, hg⟩ := eKW h2 X.prog X.w r
  obtain ⟨e, he, ek⟩ := hg i xs[i] (List.getElem?_eq_getElem hx)
  refine aUZ st ho h1 rfl he fun h' st' sb => ?_
  have I1 : Inv X pins σ H { s with heap := h' } := I.turned (t' := s.toks) (fun b o hb e => (sb.2 b hb).trans e) f0 f1 f3 f4 f5
  exact ⟨e.key, rfl, letGo_keyiter (s' := { s with heap := h' }) st' ⟨.ref xs[i].2.1, H, I1, ek, ⟨rfl, _, List.getElem?_eq_getElem hx, rfl⟩, st', fun b hb => (hf b hb).1⟩⟩
 done := by
  intro X hP hw hK hc i pins s σ H E I hf st hg
  subst hP hw hK
  replace hc := hc.resolve_right fun z => z.1
  obtain ⟨hq, hx⟩ := hg
  obtain ⟨f0, f1, f2, f3, f4, f5⟩ := hf it (by simp)
  have ho := (show ObjOk X.prog X.w H s.heap l (.frz ob (.ext (aAJ l xs))) from I.hok l _ hq).1
  obtain ⟨hl, hg⟩ := eKW h2 X.prog X.w r
  exact aZB (I.ok.hd hc) st ho h1 rfl (Array.getElem?_eq_none (by omega)) fun h' eb => ⟨rfl, I.turned (t' := s.toks) (fun b o hb e => eb b o hb e) f0 f1 f3 f4 f5⟩
 self := fun _ _ _ _ _ st h => wpAny_pyIter_keyiter st h
def ePJ (tl : TE) : TI := fun σ H R => tl σ H fun x H1 => ∃ l ob xs, x = .ref l /\ H1 l = some (.frz ob (.ext (aAJ l xs))) /\ R (Itd l ob xs) H1
theorem eIM {tg l : Expr} {tl : TE} (hl : PE X l tl) : PI X tg l (ePJ tl) := by
 intro pins s σ H R I h
 refine thn (hl pins s σ H _ I h) fun v s1 ⟨x, H1, I1, r1, q1⟩ => ?_
 obtain ⟨a, ob, xs, e, hq, q⟩ := q1
 subst e
 cases (show v = Value.ref a from r1)
 obtain ⟨ho, hz⟩ := (show ObjOk X.prog X.w H1 s1.heap a (.frz ob (.ext (aAJ a xs))) from I1.hok a _ hq)
 obtain ⟨_, hs, o, g1, g2, es, ep, ys, g3, g4, g5, _⟩ := hz.1
 have eo : o = ob := by rw [ho] at g1; exact (Option.some.inj g1).symm
 subst eo
 refine eNB hs ho g2 g3 ?_
 refine ⟨s1.heap.objs.size, [s1.heap.objs.size], _, _, H1, rfl, I1.kept (t' := s1.toks) fun b o e => Heap.get?_push_of_some _ e, eAL a _ _ xs g3 g4 g5, ⟨_, Heap.get?_push_size _ rfl, rfl, rfl⟩, fun b hb => ?_, q⟩
 have e : b = s1.heap.objs.size := by simpa using hb
 subst e
 exact I1.fpOk (Nat.le_refl _) (I1.hok.fresh (Nat.le_refl _))
abbrev ePG (q : List Int × Int) : D := .tup (q.1.map D.int)
theorem eDP {tg : Expr} (h : EvE X ρ e (.dic kvs)) : EvI X ρ tg e (kvs.map ePG) := .of (eIM yU) fun B F H σ R kk q => h B F H σ _ kk fun v F' H' x' r => by
 cases r with
 | @dic l ob ks xs hf r =>
  refine ⟨l, ob, xs, rfl, x'.sub _ _ hf, q _ F' H' x' fun i F2 H2 s1 s2 => ⟨fun d hd => ?_, fun hl => ⟨s2 _ _ (s1 _ _ hf), by rw [r.1, List.length_map, List.length_map] at hl; exact hl⟩⟩⟩
  rw [r.1, List.map_map, List.getElem?_map] at hd
  obtain ⟨x, hx, e⟩ := Option.map_eq_some_iff.mp hd
  subst e
  refine ⟨⟨s2 _ _ (s1 _ _ hf), (List.getElem?_eq_some_iff.mp hx).1⟩, fun v H3 hy => ?_⟩
  obtain ⟨rfl, x', hx', rfl⟩ := hy
  rw [hx] at hx'; cases hx'
  exact ⟨F2, .refl s2, .tup (s1 _ _ (r.2 x (List.mem_of_getElem? hx))) (RepL.ints x.1)⟩
end
section
variable {X : Cx} {ρ ρ' : Rho} {e f a b c : Expr} {d : D} {pos p apos cpos pos' : Pos} {N : List Str} {sc : Scope} {x y : Str} {kvs kvs' : KVs} {o : Out} {k : List Int} {n : Int} {st : Stmt} {qZ : List Stmt} {ds : List D} {es : List Expr}
inductive EvKs (X : Cx) (ρ : Rho) : List (Option Expr) -> List Expr -> KVs -> Prop where
 | nil : EvKs X ρ [] [] []
 | cons {a b : Expr} {as : List (Option Expr)} {bs : List Expr} {k : List Int} {n : Int} {r : KVs} : EvE X ρ a (.tup (k.map D.int)) -> EvE X ρ b (.int n) -> EvKs X ρ as bs r -> EvKs X ρ (some a :: as) (b :: bs) ((k, n) :: r)
theorem EvKs.len {as : List (Option Expr)} {bs : List Expr} (h : EvKs X ρ as bs kvs) : as.all (·.isSome) = true /\ as.length = bs.length /\ as.length = kvs.length := by
 induction h with
 | nil => exact ⟨rfl, rfl, rfl⟩
 | cons h1 h2 h3 ih => exact ⟨by rw [List.all_cons, ih.1]; rfl, congrArg Nat.succ ih.2.1, congrArg Nat.succ ih.2.2⟩
def aSX (kvs more : KVs) : KVs := more.foldl (fun acc q => aGC acc q.1 q.2) kvs
theorem EvKs.walk {as : List (Option Expr)} {bs : List Expr} (h : EvKs X ρ as bs kvs) : ∀ {B : B0} {F H : Hp} {σ : St}, Ok X.K B F H σ ρ -> ∀ {pins : List (Addr × Obj)} {s : Shared}, Inv X pins σ H s ->
  wpAny (model X.prog X.w) X.A (evalPairs (pairTrees as bs X.env pos)) (fun ws s' => ∃ F' H' xs, Inv X pins σ H' s' /\ Ext ⟨F, H⟩ F' H' /\ DicR F' kvs xs /\ Paired (fun (x : List Int × Addr × Int) (w : Value × Value) => w.1 = .ref x.2.1 /\ RelV (.int x.2.2) w.2) xs ws) X.xe s := by
 induction h with
 | nil => intro B F H σ kk pins s I; exact pairTrees_nil_walk ⟨F, H, [], I, .refl kk.sub, ⟨rfl, fun _ z => nomatch z⟩, .nil⟩
 | @cons a b as bs k n r h1 h2 h3 ih =>
  intro B F H σ kk pins s I
  refine pairTrees_cons_walk (thn (h1 B F H σ (fun v H1 => ∃ F1, Ext ⟨F, H⟩ F1 H1 /\ Rep X.K F1 v (.tup (k.map D.int))) kk (fun v F1 H1 x1 r1 => ⟨F1, x1, r1⟩) pins s I) fun u s1 ⟨v, H1, I1, rv, F1, x1, r1⟩ => ?_)
  have k1 := kk.ext x1
  refine thn (h2 B F1 H1 σ (fun v H2 => ∃ F2, Ext ⟨F1, H1⟩ F2 H2 /\ Rep X.K F2 v (.int n)) k1 (fun v F2 H2 x2 r2 => ⟨F2, x2, r2⟩) pins s1 I1) fun u2 s2 ⟨v2, H2, I2, rv2, F2, x2, r2⟩ => ?_
  refine thn (ih (k1.ext x2) I2) fun ws s3 ⟨F3, H3, xs, I3, x3, r3, pr⟩ => ?_
  cases r2
  cases r1 with
  | @tup bt vs ds hf rl =>
  have ev := RepL.of_ints rl
  subst ev
  cases (show u = Value.ref bt from rv)
  refine ⟨F3, H3, (k, bt, n) :: xs, I3, (x1.t x2).t x3, ⟨by rw [r3.1]; rfl, fun x hx => ?_⟩, .cons ⟨rfl, rv2⟩ pr⟩
  rcases List.mem_cons.mp hx with e | hx
  ·subst e; exact x3.sf _ _ (x2.sf _ _ hf)
  ·exact r3.2 x hx
theorem aWE {F : Hp} : ∀ (is : KXs) (kvs : KVs) (xs : KXs), DicR F kvs xs -> (∀ x ∈ is, F x.2.1 = some (.tup (x.1.map V.int))) -> DicR F (aSX kvs (is.map kv)) (aUJ xs is)
 | [], kvs, xs, r, _ => r
 | (k, b, n) :: is, kvs, xs, r, h => by
  show DicR F (aSX (aGC kvs k n) (is.map kv)) (aUJ (stX xs k b n) is)
  exact aWE is _ _ (r.put (h (k, b, n) (by simp)) n) fun x hx => h x (by simp [hx])
theorem aNE (t : At X N sc) {as : List (Option Expr)} {bs : List Expr} (h : EvKs X ρ as bs kvs) (h0 : as ≠ [] := by exact fun z => nomatch z) (h15 : as.length <= 15 := by decide) : EvDn X ρ (.Dict as bs pos) (aSX [] kvs) := fun B F H σ Q kk q => .mk fun pins s I => by
 obtain ⟨l1, l2, l3⟩ := h.len
 rw [arm_eval_Dict, zip_pairTrees as bs X.env pos l1 l2]
 have hpl : (pairTrees as bs X.env pos).length = as.length := pairTrees_length as bs X.env pos l1 l2
 rw [dictDisplay_pairs _ (fun z => h0 (List.eq_nil_of_length_eq_zero (by rw [<- hpl, z]; rfl))) (by omega)]
 refine wpAny_bind (wpAny_standAt (wpAny_bind ?_))
 unfold subDict
 refine wpAny_bind (wpAny_alloc ?_)
 have hn := I.hok.fresh (Nat.le_refl s.heap.objs.size)
 have hb : sysModules < s.heap.objs.size := Nat.lt_trans (by decide) (show mainGlobals < s.heap.objs.size from (I.mod.glob.keeps I.bk).lt)
 have z : aAJ s.heap.objs.size [] (s.heap.push { cls := .type "dict", data := .dict #[] }) := aZF (P := X.prog) (w := X.w) (Nat.zero_le _) (beq_eq_false_iff_ne.mpr (Ne.symm (Nat.ne_of_lt hb))) .nil (Heap.DictOfH.new s.heap)
 have I1 := I.laid (a := s.heap.objs.size) (o := .ext (aAJ s.heap.objs.size [])) (h' := s.heap.push { cls := .type "dict", data := .dict #[] }) (t' := s.toks) (fun _ _ q => Heap.get?_push_of_some _ q) (Nat.le_refl _) (aTU z)
 have x1 : Ext ⟨F, H⟩ F (upd H s.heap.objs.size (.ext (aAJ s.heap.objs.size []))) := ⟨kk.sub.trans (yM hn), yM hn, .refl _, fun _ z => .inl z⟩
 refine wpAny_bind (wpAny_holding ?_)
 rw [if_pos (by omega)]
 refine wpAny_bind (thn (h.walk (kk.ext x1) I1) fun ws s2 ⟨F2, H2, is, I2, x2, r2, pr⟩ => ?_)
 refine wpAny_holding (wpAny_bind ?_)
 have hf2 : F2 s.heap.objs.size = none := by
  cases e : F2 s.heap.objs.size with
  | none => rfl
  | some o =>
   rcases x2.nw s.heap.objs.size (by rw [e]; exact Option.some_ne_none o) with w | w
   ·exact absurd (kk.sub.free hn) w
   ·have w' : upd H s.heap.objs.size (.ext (aAJ s.heap.objs.size [])) s.heap.objs.size = none := w
    rw [yK] at w'; cases w'
 have h2 : H2 s.heap.objs.size = some (.ext (aAJ s.heap.objs.size [])) := x2.sh _ _ yK
 have hlen : is.length = kvs.length := by rw [r2.1, List.length_map]
 refine eBO (by have := t.un; omega) is ws [] H2 s2 I2 h2 (fun _ z => nomatch z) (fun x hx => x2.sub _ _ (r2.2 x hx)) pr (by rw [List.length_nil, sizeLine_eq]; omega) fun s3 I3 => ?_
 refine wpAny_pure (wpAny_pure (wpAny_pure ⟨.ref s.heap.objs.size, _, I3, rfl, ?_⟩))
 have x12 := x1.t x2
 have R : DicR F2 (aSX [] kvs) (aUJ [] is) := by
  have := aWE is [] [] ⟨rfl, fun _ z => nomatch z⟩ r2.2
  rw [<- r2.1] at this
  exact this
 refine q _ (aUJ [] is) F2 _ ⟨fun c u w => ?_, fun c u w => ?_, x12.sf, x12.nw⟩ hn yK hf2 R
 ·have ne : c ≠ s.heap.objs.size := fun z => by subst z; rw [hf2] at w; cases w
  rw [yI ne]; exact x12.sub c u w
 ·have ne : c ≠ s.heap.objs.size := fun z => by subst z; have w' : H s.heap.objs.size = some u := w; rw [hn] at w'; cases w'
  rw [yI ne]; exact x12.sh c u w
theorem EvDn.eq (h : EvDn X ρ e kvs) (q : kvs = kvs') : EvDn X ρ e kvs' := q ▸ h
def spD (K : PySem.W.Frag) (C : List D -> KVs -> Prop) : Sp := fun vs H Q _ => ∃ F ds kvs, Same F H /\ RepL K F vs ds /\ C ds kvs /\ ∀ p us F' H', Ext ⟨F, H⟩ F' H' -> H p = none -> H' p = some (.ext (aAJ p us)) -> F' p = none -> DicR F' kvs us -> Q (.ref p) H'
def aJB (X : Cx) (x : Str) (C : List D -> KVs -> Prop) : Prop := ∃ (f : Addr) (fd : FuncData) (ps : List Str) (k : Nat), qU X.prog X.w X.K X.mg X.base CX0 k f fd ps (spD X.K C) /\ Room k X.A /\ X.mg x = some (.ref f) /\ PySem.W.keepIn X.K (.ref f) = true /\ Binds X.K fd ps []
def aJA (X : Cx) (ρ : Rho) (sts : List Stmt) (kvs : KVs) : Prop := ∀ (B : B0) (F H : Hp) (σ : St) (E : aFO), Ok X.K B F H σ ρ -> (∀ p us F' H', Ext B F' H' -> B.H p = none -> H' p = some (.ext (aAJ p us)) -> F' p = none -> DicR F' kvs us -> E.rt (.ref p) H') -> wSs X sts E σ H
theorem aBB (t : At X N sc) {C : List D -> KVs -> Prop} (h : aJB X x C) (ha : EvA X ρ (e :: es) ds) (hC : C ds kvs) (hg : sc.names.lookup x = some .globalImplicit := by rfl) (hdb : (x == ("__debug__" : Str)) = false := by rfl) : EvDn X ρ (.Call (.Name x p) (e :: es) [] pos) kvs := by
 obtain ⟨f, fd, ps, k, F, hr, hm, hk, hb⟩ := h
 have pz : aCL CX0 X E0 := aQW
 intro B F' H σ Q k' q
 refine .mk fun pins s I => ?_
 refine aFC F hr (wK t hg) hm hk hb .nil pz aVO hdb (ha.1.1 _ _) (PlA.any ha.1.2) pins s σ H Q I (ha.2 B F' H σ _ k' fun vs F1 H1 x1 r1 => ?_)
 exact ⟨F1, ds, kvs, x1.sub, by rw [List.append_nil]; exact r1, hC, fun p us F2 H2 x2 h0 hp hf r2 => q p us F2 H2 (x1.t x2) (x1.sh.free h0) hp hf r2⟩
theorem aDG (h1 : EvS X ρ st (.nx ρ')) (h2 : aJA X ρ' qZ kvs) : aJA X ρ (st :: qZ) kvs := fun B F H σ E k q =>
 (.mk fun pins s I => wY eAF vD pins s σ H E I (h1 B F H σ _ k fun F1 H1 σ1 k1 s1 => h2 B F1 H1 σ1 E k1 q))
theorem aYW (t : At X N sc) (i : Nat) (hr : ρ[i]? = some (.dct kvs)) (hN : N[i]? = some x := by rfl) (hv : aDQ sc x = true := by rfl) (hx : qS x = true := by rfl) : aJA X ρ [.Return (some (.Name x pos')) pos] kvs := fun B F H σ E k q => by
 obtain ⟨a, us, h1, h2, h3, h4, h5⟩ := k.dic.dcts i kvs hr
 exact .mk fun pins s I => aDU (aOK (aVN t hN hv hx)) pins s σ H E I ⟨_, h1, q a us F H k.toExt h4 h2 h3 h5⟩
theorem eBL (h : EvDn X ρ e kvs) : aJA X ρ [.Return (some e) pos] kvs := fun B F H σ E k q => .mk fun pins s I =>
 aDU (aOK yU) pins s σ H E I (h B F H σ _ k fun p us F' H' x' h0 h1 h2 r => q p us F' H' (k.toExt.trans x') (k.sh.free h0) h1 h2 r)
theorem aYH {P : Program} (htree : P.given.tree = none) {w : World} {K : PySem.W.Frag} {mg : Str -> Option Value} {base : Heap} {x qual : Str} {st : Stmt} {f : Addr} {fd : FuncData} {N ps : List Str} {k : Nat} {C : List D -> KVs -> Prop} (F : Fun K x qual st f fd) (S : yL N ps (yB st))
  (len : ∀ ds xs, C ds xs -> ds.length = ps.length)
  (body : ∀ X, DefX P w K mg base k N (yB st) X -> ∀ ds xs, C ds xs -> aJA X (ds.map Sl.val ++ List.replicate (N.length - ds.length) Sl.un) (yF st) xs) : qU P w K mg base CX0 (k + 1) f fd ps (spD K C) := by
 refine F.ok S (fun vs H Q E h => ?_) (fun cdv A outer s H vs Q E hr h => ?_)
 ·obtain ⟨F', ds, d, sub, r, hC, q⟩ := h
  rw [r.length]; exact len ds d hC
 ·obtain ⟨F', ds, d, sub, r, hC, q⟩ := h
  refine ⟨_, vD, ?_⟩
  have hx : DefX P w K mg base k N (yB st) (aVA CX0 P w K mg base N qual (yB st) f cdv A outer s H E).nox :=
   ⟨⟨rfl, rfl, rfl, S.nd, rfl, hr.units, hr.dp100, htree, ⟨_, _, rfl, S.gen, S.co, rfl, rfl⟩⟩, rfl, rfl, rfl, rfl, rfl, hr, ⟨fun _ => rfl⟩, rfl, rfl⟩
  have hb := body _ hx ds d hC
  have hk : Ok K ⟨F', H⟩ F' H (start N vs) (ds.map Sl.val ++ List.replicate (N.length - ds.length) Sl.un) := by
   unfold start
   rw [r.length]
   exact aDC sub r _
  exact hb ⟨F', H⟩ F' H _ _ hk fun p us F2 H2 x2 h0 hp hf r2 => q p us F2 H2 x2 h0 hp hf r2
theorem DefX.calleeD {P : Program} {w : World} {K : PySem.W.Frag} {mg : Str -> Option Value} {base : Heap} {k j : Nat} {f : Addr} {fd : FuncData} {ps : List Str} {x : Str} {C : List D -> KVs -> Prop} (h : DefX P w K mg base k N sc X)
  (F : qU P w K mg base CX0 j f fd ps (spD K C)) (hj : j <= k) (hm : mg x = some (.ref f)) (hk : PySem.W.keepIn K (.ref f) = true) (hb : Binds K fd ps []) : aJB X x C := by
 obtain ⟨h0, rfl, rfl, rfl, rfl, rfl, hr, _⟩ := h
 exact ⟨f, fd, ps, j, F, hr.mono hj, hm, hk, hb⟩
end
section
variable {X : Cx} {ρ : Rho} {a b : Expr} {pos : Pos} {N : List Str} {sc : Scope} {x : Str}
theorem eEO (t : At X N sc) (i j : Nat) {y : Str} {us : List D} {v : D} {px py pt : Pos} {kt k2 : Nat} {pt2 : Pos} (h1 : EvN X ρ a us) (h2 : EvE X ρ b v) (hij : i ≠ j) (hi : N[i]? = some x := by rfl) (hj : N[j]? = some y := by rfl)
  (hx : sc.names.lookup x = some .local := by rfl) (hy : sc.names.lookup y = some .local := by rfl)
  (hw : swappedStores [.Tuple [.Name x px, .Name y py] kt pt] (.Tuple [a, b] k2 pt2) (dE sc) = pure (some [x, y]) := by rfl)
  (hs : swapsWithSole [.Tuple [.Name x px, .Name y py] kt pt] (.Tuple [a, b] k2 pt2) pos.line X.env = pure false := by rfl)
  (hs1 : starEach [a, b] X.env = (false, eval a X.env) :: starEach [b] X.env := by rfl) (hs2 : starEach [b] X.env = (false, eval b X.env) :: starEach [] X.env := by rfl) :
  EvS X ρ (.Assign [.Tuple [.Name x px, .Name y py] kt pt] (.Tuple [a, b] k2 pt2) pos) (.nx ((ρ.set i (.own us)).set j (.val v))) :=
 .of (eIG (i := i) (j := j) t.calm t.nd (t.ix hi) (t.ix hj) hij (by rw [t.eS]; exact hx) (by rw [t.eS]; exact hy) (zC yU (zC yU jW hs2) hs1) ((aVZ (show X.env.scope = (dE sc).scope from t.eS)).trans hw) hs) fun B F H σ E k q =>
  h1 B F H σ _ k fun p vs F1 H1 x1 h0 hp hf r => h2 B F1 H1 σ _ (k.ext x1) fun v2 F2 H2 x2 r2 => by
   have hf2 : F2 p = none := by
    cases z : F2 p with
    | none => rfl
    | some o =>
     exfalso
     rcases x2.nw p (by rw [z]; exact fun q => nomatch q) with q1 | q1
     ·exact q1 hf
     ·have q1' : H1 p = none := q1
      rw [hp] at q1'; cases q1'
   exact ⟨.ref p, v2, rfl, q F2 H2 _ (((k.ext (x1.t x2)).setOwn i (x2.sh _ _ hp) hf2 (k.sh.free h0) (k.noOwn h0) (r.mono x2.sf)).setVal j r2) (x1.t x2).sf⟩
end
section
variable {X : Cx} {ρ : Rho} {a b : Expr} {pos p : Pos} {N : List Str} {sc : Scope} {x : Str}
theorem eIA (t : At X N sc) {p : PyData} {qs : List PyData} (sp : p.canLay0 = true) (sd : p.depth <= 62) (sq : PyData.canLayAll0 qs = true) : OpR X (compareOp .NotIn) (fun x y H Q => RdP X H x p /\ RdP X H y (.list qs) /\ Q (.bl (!qs.any fun y => PyData.eqv y p)) H) := by
 intro pins s σ H x y v u Q I rx ry h
 obtain ⟨h1, h2, h3⟩ := h
 obtain ⟨as, r1⟩ := h1 sp H (.refl _) pins σ s v I rx
 obtain ⟨bs, r2⟩ := h2 (by simpa [PyData.canLay0] using sq) H (.refl _) pins σ s u I ry
 refine SeqAt.notIn_list_reads r2 r1 sq sp ?_ ⟨.bl _, H, I, rfl, h3⟩
 have hu := t.un
 have : min (PyData.depthAll qs) p.depth <= p.depth := Nat.min_le_right _ _
 omega
end
end L2.EV
namespace HT
open PySem PySem.Spec PyProof.Rows
end HT
namespace L2
open PySem PySem.Spec PyProof.Rows
end L2
namespace L2.EV
open PySem PySem.Spec PyProof.Rows
def UpB (B : B0) (p : Addr) (us : List V) : B0 := ⟨B.F, upd B.H p (.lst us)⟩
theorem UpB.same {B : B0} {p : Addr} {us : List V} (h : B.H p = some (.lst us)) : UpB B p us = B := by
 have : upd B.H p (.lst us) = B.H := funext fun b => by
  by_cases z : b = p
  ·subst z; rw [yK, h]
  ·rw [yI z]
 show (⟨B.F, upd B.H p (.lst us)⟩ : B0) = B
 rw [this]
theorem UpB.up {B : B0} {p : Addr} {us ws : List V} : UpB (UpB B p us) p ws = UpB B p ws := by
 show (⟨B.F, upd (upd B.H p (.lst us)) p (.lst ws)⟩ : B0) = ⟨B.F, upd B.H p (.lst ws)⟩
 rw [aVR]
structure Lent (K : PySem.W.Frag) (B : B0) (p : Addr) (F : Hp) (us : List V) (xs : List D) : Prop where
 st : B.H p = some (.lst us)
 fr : B.F p = none
 rep : RepL K F us xs
theorem Lent.free {K : PySem.W.Frag} {B : B0} {p : Addr} {F H : Hp} {us : List V} {xs : List D} (l : Lent K B p F us xs) (x : Ext B F H) : F p = none := by
 cases e : F p with
 | none => rfl
 | some o =>
  rcases x.nw p (by rw [e]; exact Option.some_ne_none o) with z | z
  ·exact absurd l.fr z
  ·rw [l.st] at z; cases z
def aVK (K : PySem.W.Frag) (B : B0) (p : Addr) (F₀ : Hp) (E : aFO) (xs' : List D) : Out -> Prop
 | .nx ρ => ∀ F H σ us, Ok K (UpB B p us) F H σ ρ -> RepL K F us xs' -> Same F₀ F -> E.nx σ H
 | .rt d => ∀ v F H us, Ext (UpB B p us) F H -> RepL K F us xs' -> Rep K F v d -> E.rt v H
def EvM (X : Cx) (p : Addr) (ρ : Rho) (sts : List Stmt) (o : Out) (xs xs' : List D) : Prop := ∀ (B : B0) (F H : Hp) (σ : St) (E : aFO) (us : List V), Lent X.K B p F us xs -> Ok X.K B F H σ ρ -> aVK X.K B p F E xs' o -> wSs X sts E σ H
def eDY (X : Cx) (p : Addr) (ρ : Rho) (st : Stmt) (o : Out) (xs xs' : List D) : Prop := ∀ (B : B0) (F H : Hp) (σ : St) (E : aFO) (us : List V), Lent X.K B p F us xs -> Ok X.K B F H σ ρ -> aVK X.K B p F E xs' o -> wS X st E σ H
theorem Ok.now {K : PySem.W.Frag} {B : B0} {F H : Hp} {σ : St} {ρ : Rho} (k : Ok K B F H σ ρ) : Ok K ⟨F, B.H⟩ F H σ ρ :=
 ⟨⟨k.sub, k.sh, .refl _, fun a q => .inl q⟩, k.len, k.vals, k.owns, k.dist, ⟨k.dic.dcts, k.dic.distD⟩⟩
theorem Ext.then_ {B : B0} {F H F' H' : Hp} (x : Ext B F H) (y : Ext ⟨F, B.H⟩ F' H') : Ext B F' H' :=
 ⟨y.sub, y.sh, x.sf.trans y.sf, fun a q => by
  rcases y.nw a q with z | z
  ·exact x.nw a z
  ·exact .inr z⟩
section
variable {X : Cx} {p : Addr} {ρ ρ' ρ1 : Rho} {st : Stmt} {sts qZ : List Stmt} {o : Out} {xs xs1 xs' : List D} {e b : Expr} {d : D} {pos py ps : Pos} {N : List Str} {sc : Scope} {x : Str}
theorem eFF {B : B0} {F F1 : Hp} {E : aFO} {us : List V} (q : aVK X.K B p F E xs' o) (s : Same F F1) : aVK X.K (UpB B p us) p F1 E xs' o := by
 cases o with
 | nx ρ' => exact fun F' H' σ' ws k r s' => q F' H' σ' ws (by rw [UpB.up] at k; exact k) r (s.trans s')
 | rt d => exact fun v F' H' ws x r rv => q v F' H' ws (by rw [UpB.up] at x; exact x) r rv
theorem aKR (h1 : eDY X p ρ st (.nx ρ1) xs xs1) (h2 : EvM X p ρ1 qZ o xs1 xs') : EvM X p ρ (st :: qZ) o xs xs' := fun B F H σ E us l k q =>
 (.mk fun pins s I => wY eAF vD pins s σ H E I (h1 B F H σ _ us l k fun F1 H1 σ1 ws k1 r1 s1 => h2 (UpB B p ws) F1 H1 σ1 E ws ⟨yK, l.fr, r1⟩ k1 (eFF q s1)))
theorem aBK (h1 : eDY X p ρ st o xs xs') : EvM X p ρ [st] o xs xs' := fun B F H σ E us l k q => (.mk fun pins s I => aDU eAF pins s σ H E I (h1 B F H σ E us l k q))
theorem Ok.chgAt {K : PySem.W.Frag} {B : B0} {F H : Hp} {σ : St} {us ws : List V} (k : Ok K B F H σ ρ) (l : Lent K B p F us xs) : Ok K (UpB B p ws) F (upd H p (.lst ws)) σ ρ := by
 have hf := l.free k.toExt
 have ho : ∀ a, B.H a = none -> a ≠ p := fun a h z => by subst z; rw [l.st] at h; cases h
 refine ⟨⟨fun c u q => ?_, fun c u q => ?_, k.sf, fun a q => ?_⟩, k.len, k.vals, fun i ys h => ?_, k.dist, ⟨fun i kvs h => ?_, k.dic.distD⟩⟩
 ·have ne : c ≠ p := fun z => by subst z; rw [hf] at q; cases q
  rw [yI ne]; exact k.sub c u q
 ·by_cases z : c = p
  ·subst z
   have q' : upd B.H c (.lst ws) c = some u := q
   rw [yK] at q' ⊢; exact q'
  ·have q' : upd B.H p (.lst ws) c = some u := q
   rw [yI z] at q' ⊢; exact k.sh c u q'
 ·have ne : a ≠ p := fun z => by subst z; exact q hf
  rcases k.nw a q with z | z
  ·exact .inl z
  ·refine .inr ?_
   show upd B.H p (.lst ws) a = none
   rw [yI ne]; exact z
 ·obtain ⟨a, vs, h1, h2, h3, h4, h5⟩ := k.owns i ys h
  have ne := ho a h4
  exact ⟨a, vs, h1, by rw [yI ne]; exact h2, h3, by show upd B.H p (.lst ws) a = none; rw [yI ne]; exact h4, h5⟩
 ·obtain ⟨a, es, h1, h2, h3, h4, h5⟩ := k.dic.dcts i kvs h
  have ne := ho a h4
  exact ⟨a, es, h1, by rw [yI ne]; exact h2, h3, by show upd B.H p (.lst ws) a = none; rw [yI ne]; exact h4, h5⟩
theorem eDU (t : At X N sc) {i : Nat} (hr : ρ[i]? = some (.val (.adr p))) (hN : N[i]? = some x) (hv : aDQ sc x = true) (hx : qS x = true) {B : B0} {F H : Hp} {σ : St} {Q : VK} (k : Ok X.K B F H σ ρ) (h : Q (.ref p) H) : wE X (.Name x py) σ H Q := .mk fun pins s I => by
 obtain ⟨v, h1, h2⟩ := k.vals i _ hr
 cases h2
 exact aVN t hN hv hx pins s σ H Q I ⟨_, h1, h⟩
end
theorem Lent.ext {K : PySem.W.Frag} {B : B0} {p : Addr} {F H F' H' : Hp} {us : List V} {xs : List D} (l : Lent K B p F us xs) (x : Ext ⟨F, H⟩ F' H') : Lent K B p F' us xs := ⟨l.st, l.fr, l.rep.mono x.sf⟩
theorem Ok.back {K : PySem.W.Frag} {B : B0} {F H F' H' : Hp} {σ : St} {ρ : Rho} {i : Nat} {xs xs' : List D} {a : Addr} {us' : List V} (k : Ok K B F H σ ρ) (hi : ρ[i]? = some (.own xs)) (hs : σ[i]? = some (some (.ref a))) (x : Ext (UpB ⟨F, H⟩ a us') F' H') (r : RepL K F' us' xs') :
  Ok K B F' H' σ (ρ.set i (.own xs')) := by
 obtain ⟨a', us, h1, h2, h3, h4, h5⟩ := k.owns i xs hi
 rw [h1] at hs
 cases hs
 have hlt : i < ρ.length := (List.getElem?_eq_some_iff.mp hi).1
 have hu : ∀ b u, b ≠ a -> H b = some u -> H' b = some u := fun b u ne q => x.sh b u (by show upd H a (.lst us') b = some u; rw [yI ne]; exact q)
 have hfree : ∀ b, F b = none -> (b = a \/ H b ≠ none) -> F' b = none := fun b hf hh => by
  cases e : F' b with
  | none => rfl
  | some o =>
   exfalso
   rcases x.nw b (by rw [e]; exact Option.some_ne_none o) with z | z
   ·exact z hf
   ·have z' : upd H a (.lst us') b = none := z
    by_cases y : b = a
    ·subst y; rw [yK] at z'; cases z'
    ·rw [yI y] at z'
     rcases hh with w | w
     ·exact y w
     ·exact w z'
 have hn : ∀ b, B.H b = none \/ B.H b ≠ none := fun b => by cases B.H b <;> simp
 refine ⟨⟨x.sub, fun b u q => ?_, k.sf.trans x.sf, fun c q => ?_⟩, by rw [List.length_set, k.len], fun j d q => ?_, fun j ys q => ?_, fun j l ys zs b q1 q2 q3 q4 => ?_, ?_⟩
 ·exact hu b u (fun z => by subst z; rw [h4] at q; cases q) (k.sh b u q)
 ·rcases x.nw c q with z | z
  ·exact k.nw c z
  ·refine .inr ?_
   have z' : upd H a (.lst us') c = none := z
   by_cases y : c = a
   ·subst y; rw [yK] at z'; cases z'
   ·rw [yI y] at z'; exact k.sh.free z'
 ·by_cases h : i = j
  ·subst h; rw [List.getElem?_set_self hlt] at q; cases q
  ·rw [List.getElem?_set_ne h] at q
   obtain ⟨v, g1, g2⟩ := k.vals j d q
   exact ⟨v, g1, g2.mono x.sf⟩
 ·by_cases h : i = j
  ·subst h
   rw [List.getElem?_set_self hlt] at q; cases q
   exact ⟨a, us', h1, x.sh a _ (by show upd H a (.lst us') a = _; rw [yK]), hfree a h3 (.inl rfl), h4, r⟩
  ·rw [List.getElem?_set_ne h] at q
   obtain ⟨b, vs, g1, g2, g3, g4, g5⟩ := k.owns j ys q
   have ne : b ≠ a := fun z => by subst z; exact h (k.dist i j xs ys b hi q h1 g1)
   exact ⟨b, vs, g1, hu b _ ne g2, hfree b g3 (.inr (by rw [g2]; exact Option.some_ne_none _)), g4, g5.mono x.sf⟩
 ·have back : ∀ (m : Nat) ys, (ρ.set i (.own xs'))[m]? = some (.own ys) -> ∃ ws, ρ[m]? = some (.own ws) := fun m ys e => by
   by_cases h : i = m
   ·subst h; exact ⟨xs, hi⟩
   ·rw [List.getElem?_set_ne h] at e; exact ⟨ys, e⟩
  obtain ⟨w1, e1⟩ := back j ys q1
  obtain ⟨w2, e2⟩ := back l zs q2
  exact k.dist j l w1 w2 b e1 e2 q3 q4
 ·exact k.dic.to x.sf (fun b φ e1 e2 e3 => by
   have ne : b ≠ a := fun z => by subst z; rw [h2] at e1; cases e1
   exact ⟨hu b _ ne e1, hfree b e2 (.inr (by rw [e1]; exact Option.some_ne_none _))⟩) (aLE fun _ z => nomatch z)
abbrev Tb := List (Addr × List D)
theorem aVE (x : Int) (k : Nat) : Builtin.bitAnd x (2 ^ k - 1) = x % 2 ^ k := by
 have e : ((2 : Int) ^ k - 1) = ((2 ^ k - 1 : Nat) : Int) := by
  have : 1 <= 2 ^ k := Nat.one_le_two_pow
  rw [Int.natCast_sub this, Int.natCast_pow]; rfl
 have hp : (0 : Int) <= 2 ^ k - 1 := by rw [e]; exact Int.natCast_nonneg _
 have et : ((2 : Int) ^ k - 1).toNat = 2 ^ k - 1 := by rw [e]; exact Int.toNat_natCast _
 have ek : ((2 ^ k : Nat) : Int) = (2 : Int) ^ k := by rw [Int.natCast_pow]; rfl
 by_cases hx : 0 <= x
 ·rw [bitAnd_pp hx hp, et, Nat.and_two_pow_sub_one_eq_mod, Int.natCast_emod, ek, Int.toNat_of_nonneg hx]
 ·rw [bitAnd_np hx hp, et, Nat.and_comm, Nat.and_two_pow_sub_one_eq_mod, Int.natCast_emod, ek]
  unfold Builtin.bitNot
  rw [Int.toNat_of_nonneg (by omega)]
  have hpos : (0 : Int) < 2 ^ k := by rw [<- ek]; exact Int.natCast_pos.mpr (Nat.two_pow_pos k)
  generalize (2 : Int) ^ k = m at *
  have h1 := Int.emod_nonneg (-x - 1) (Int.ne_of_gt hpos)
  have h2 := Int.emod_lt_of_pos (-x - 1) hpos
  have h3 := Int.mul_ediv_add_emod (-x - 1) m
  have h4 : x = m - 1 - (-x - 1) % m + m * (-((-x - 1) / m) - 1) := by
   have : m * (-((-x - 1) / m) - 1) = - (m * ((-x - 1) / m)) - m := by rw [Int.mul_sub, Int.mul_neg, Int.mul_one]
   omega
  have h5 : x % m = (m - 1 - (-x - 1) % m) % m := by
   conv => lhs; rw [h4]
   rw [Int.add_mul_emod_self_left]
  have h6 : (m - 1 - (-x - 1) % m) % m = m - 1 - (-x - 1) % m := Int.emod_eq_of_lt (by omega) (by omega)
  rw [h5, h6]
section
variable {X : Cx} {ρ : Rho} {e a b : Expr} {d : D} {pos p apos cpos : Pos} {N : List Str} {sc : Scope} {x : Str}
theorem aYO {i : Int} {k : Nat} (ha : EvE X ρ a (.int i)) (hb : EvE X ρ b (.int (2 ^ k - 1))) : EvE X ρ (.BinOp a .BitAnd b pos) (.int (i % 2 ^ k)) := aMX eJB ha hb (aVE i k)
end
section
variable {X : Cx} {ρ : Rho} {a b : Expr} {pos p : Pos} {N : List Str} {sc : Scope} {x : Str}
theorem aWS (t : At X N sc) {p : PyData} {qs : List PyData} (sp : p.canLay0 = true) (sd : p.depth <= 62) (sq : PyData.canLayAll0 qs = true) : OpR X (compareOp .In) (fun x y H Q => RdP X H x p /\ RdP X H y (.tuple qs) /\ Q (.bl (qs.any fun y => PyData.eqv y p)) H) := by
 intro pins s σ H x y v u Q I rx ry h
 obtain ⟨h1, h2, h3⟩ := h
 obtain ⟨as, r1⟩ := h1 sp H (.refl _) pins σ s v I rx
 obtain ⟨bs, r2⟩ := h2 (by simpa [PyData.canLay0] using sq) H (.refl _) pins σ s u I ry
 refine SeqAt.in_tuple_reads r2 r1 sq sp ?_ ⟨.bl _, H, I, rfl, h3⟩
 have hu := t.un
 have : min (PyData.depthAll qs) p.depth <= p.depth := Nat.min_le_right _ _
 omega
theorem aIO (t : At X N sc) {d : D} {xs : List D} {r : Bool} (ha : EvE X ρ a d) (hb : EvE X ρ b (.tup xs)) (sp : (toP d).canLay0 = true) (sd : (toP d).depth <= 62) (sq : PyData.canLayAll0 (toPs xs) = true) (he : ((toPs xs).any fun y => PyData.eqv y (toP d)) = r)
  (hm : behindInMarks .In b = false := by rfl) : EvT X ρ (.Compare a [.In] [b] pos) r :=
 .of (aBW (aWS t sp sd sq) yU yU hm) fun B F H σ Q k q => eEF (EvE.p ha) (EvE.p hb) k fun x y F' H' x' rx ry => ⟨rx, ry, r, by rw [he], q F' H' x'⟩
end
section
variable {X : Cx} {ρ : Rho} {a b : Expr} {pos p : Pos} {N : List Str} {sc : Scope} {x : Str}
theorem aBN {z : Str} {i : Int} {c : Nat} (ha : EvE X ρ a (.str z)) (hb : EvE X ρ b (.int i)) (hz : z.length <= sizeLine) (h : atI z.cps.toList i = some c) (hs : aIZ b := by intro _ _; rfl) : EvE X ρ (.Subscript a b pos) (.str ⟨#[c]⟩) :=
 .of (eAZ eJW yU yU hs) fun B F H σ Q k q => two ha hb k fun x y F' H' x' rx ry => by
  cases rx; cases ry
  exact ⟨z, i, c, rfl, rfl, hz, h, q _ F' H' x' (.str _)⟩
end
def eHH (X : Cx) (q : Addr) (ρ : Rho) (e : Expr) (d : D) (xs xs' : List D) : Prop := ∀ (B : B0) (F H : Hp) (σ : St) (Q : VK) (us : List V), Lent X.K B q F us xs -> Ok X.K B F H σ ρ ->
 (∀ v F' H' us', Ext (UpB ⟨F, H⟩ q us') F' H' -> RepL X.K F' us' xs' -> Rep X.K F' v d -> Q v H') -> wE X e σ H Q
def eLQ (X : Cx) (q : Addr) (ρ : Rho) (es : List Expr) (ds : List D) (xs xs' : List D) : Prop := PlA es /\ ∀ (B : B0) (F H : Hp) (σ : St) (Q : List V -> Hp -> Prop) (us : List V), Lent X.K B q F us xs -> Ok X.K B F H σ ρ ->
 (∀ vs F' H' us', Ext (UpB ⟨F, H⟩ q us') F' H' -> RepL X.K F' us' xs' -> RepL X.K F' vs ds -> Q vs H') -> wA X es σ H Q
def eNM (X : Cx) (q : Addr) (ρ : Rho) (e : Expr) (b : Bool) (xs : List D) : Prop := ∀ (B : B0) (F H : Hp) (σ : St) (Q : Bool -> Hp -> Prop) (us : List V), Lent X.K B q F us xs -> Ok X.K B F H σ ρ ->
 (∀ F' H', Ext ⟨F, H⟩ F' H' -> Q b H') -> wT X e σ H Q
theorem eED {F H F1 H1 : Hp} {q : Addr} {us : List V} (x : Ext (UpB ⟨F, H⟩ q us) F1 H1) (hf : F q = none) : F1 q = none := by
 cases e : F1 q with
 | none => rfl
 | some o =>
  rcases x.nw q (by rw [e]; exact Option.some_ne_none o) with z | z
  ·exact absurd hf z
  ·have z' : upd H q (.lst us) q = none := z
   rw [yK] at z'; cases z'
theorem Ext.reUp {F H F1 H1 : Hp} {q : Addr} {us ws : List V} (x : Ext (UpB ⟨F, H⟩ q us) F1 H1) (hf : F q = none) : Ext (UpB ⟨F, H⟩ q ws) F1 (upd H1 q (.lst ws)) := by
 have h1 := eED x hf
 refine ⟨fun b u z => ?_, fun b u z => ?_, x.sf, fun a z => ?_⟩
 ·have ne : b ≠ q := fun w => by subst w; rw [h1] at z; cases z
  rw [yI ne]; exact x.sub b u z
 ·have z' : upd H q (.lst ws) b = some u := z
  by_cases ne : b = q
  ·subst ne; rw [yK] at z' ⊢; exact z'
  ·rw [yI ne] at z' ⊢; exact x.sh b u (by show upd H q (.lst us) b = some u; rw [yI ne]; exact z')
 ·have ne : a ≠ q := fun w => by subst w; exact z h1
  rcases x.nw a z with y | y
  ·exact .inl y
  ·refine .inr ?_
   have y' : upd H q (.lst us) a = none := y
   show upd H q (.lst ws) a = none
   rw [yI ne] at y' ⊢; exact y'
theorem Ext.tM {F H F1 H1 F2 H2 : Hp} {q : Addr} {us ws : List V} (x : Ext (UpB ⟨F, H⟩ q us) F1 H1) (hf : F q = none) (y : Ext (UpB ⟨F1, H1⟩ q ws) F2 H2) : Ext (UpB ⟨F, H⟩ q ws) F2 H2 := (x.reUp hf).trans y
theorem Ext.toM {F H F' H' : Hp} {q : Addr} {us : List V} (x : Ext ⟨F, H⟩ F' H') (h : H q = some (.lst us)) : Ext (UpB ⟨F, H⟩ q us) F' H' := by rw [UpB.same (B := ⟨F, H⟩) h]; exact x
section
variable {X : Cx} {q : Addr} {ρ ρ' ρ1 : Rho} {st : Stmt} {sts qZ ss us' : List Stmt} {o : Out} {xs xs1 xs2 xs' ds : List D} {tg e a b c : Expr} {es : List Expr} {d : D} {pos p py ps : Pos} {N : List Str} {sc : Scope} {x y : Str}
theorem Ok.extM {K : PySem.W.Frag} {B : B0} {F H F' H' : Hp} {σ : St} {us ws : List V} (k : Ok K B F H σ ρ) (l : Lent K B q F us xs) (x : Ext (UpB ⟨F, H⟩ q ws) F' H') : Ok K (UpB B q ws) F' H' σ ρ := (k.chgAt l).ext x
theorem Lent.ff {K : PySem.W.Frag} {B : B0} {F H : Hp} {σ : St} {us : List V} (l : Lent K B q F us xs) (k : Ok K B F H σ ρ) : F q = none := l.free k.toExt
theorem EvE.em (h : EvE X ρ e d) : eHH X q ρ e d xs xs := fun B F H σ Q us l k w => h B F H σ Q k fun v F' H' x r => w v F' H' us (x.toM (k.sh _ _ l.st)) (l.rep.mono x.sf) r
theorem EvA.am (h : EvA X ρ es ds) : eLQ X q ρ es ds xs xs := ⟨h.1, fun B F H σ Q us l k w => h.2 B F H σ Q k fun v F' H' x r => w v F' H' us (x.toM (k.sh _ _ l.st)) (l.rep.mono x.sf) r⟩
theorem aSB (h1 : eHH X q ρ e d xs xs1) (h2 : eLQ X q ρ es ds xs1 xs') (hs : Pl e := by intro _ _; rfl) : eLQ X q ρ (e :: es) (d :: ds) xs xs' :=
 ⟨⟨hs, h2.1⟩, fun B F H σ Q us l k w => .mk fun pos pins s I => zC yU aVO (hs _ _) pos pins s σ H Q I (h1 B F H σ _ us l k fun v F1 H1 u1 x1 r1 rv => h2.2 (UpB B q u1) F1 H1 σ _ u1 ⟨yK, l.fr, r1⟩ (k.extM l x1) fun vs F2 H2 u2 x2 r2 rvs => w _ F2 H2 u2 (x1.tM (l.ff k) x2) r2 (.cons (rv.mono x2.sf) rvs))⟩
theorem aKQ [FnT X] (t : At X N sc) (i : Nat) {pos' : Pos} (h : eHH X q ρ e d xs xs') (hi : N[i]? = some x := by rfl) (hx : aPZ sc x = true := by rfl) (hs : swapsWith e (some (.Name x pos')) pos.line X.env = pure false := by rfl) :
  eDY X q ρ (.Assign [.Name x pos'] e pos) (.nx (ρ.set i (.val d))) xs xs' := fun B F H σ E us l k w =>
 (.mk fun pins s I => aKM (i := i) t.nd (t.ix hi) (t.loc hx) yU hs hfT pins s σ H E I (h B F H σ _ us l k fun v F' H' u1 x' r rv => w F' H' _ u1 ((k.extM l x').setVal i rv) r x'.sf))
theorem EvT.l {r : Bool} (h : EvT X ρ e r) : eNM X q ρ e r xs := fun B F H σ Q us l k w => h B F H σ Q k w
theorem aXT {B : B0} {F F1 : Hp} {E : aFO} (w : aVK X.K B q F E xs' o) (s : Same F F1) : aVK X.K B q F1 E xs' o := by
 cases o with
 | nx ρ' => exact fun F' H' σ' ws k r s' => w F' H' σ' ws k r (s.trans s')
 | rt d => exact w
theorem aUT (hc : eNM X q ρ c true xs) (h : EvM X q ρ ss o xs xs') : eDY X q ρ (.If c ss us' pos) o xs xs' := fun B F H σ E us l k w =>
 (.mk fun pins s I => aUN aLV vD vD pins s σ H E I (hc B F H σ _ us l k fun F1 H1 x1 => by rw [if_pos rfl]; exact h B F1 H1 σ E us (l.ext x1) (k.ext x1) (aXT w x1.sf)))
theorem aOR (hc : eNM X q ρ c false xs) (h : EvM X q ρ us' o xs xs') : eDY X q ρ (.If c ss us' pos) o xs xs' := fun B F H σ E us l k w =>
 (.mk fun pins s I => aUN aLV vD vD pins s σ H E I (hc B F H σ _ us l k fun F1 H1 x1 => by rw [if_neg Bool.false_ne_true]; exact h B F1 H1 σ E us (l.ext x1) (k.ext x1) (aXT w x1.sf)))
end
mutual
inductive GP (K : PySem.W.Frag) : Value -> PyData -> Prop where
 | int (i : Int) (t : Tok) : GP K (.int i t) (.int i)
 | str (x : Str) (t : Tok) : GP K (.str x t) (.str x)
 | tup {a : Addr} {o : Obj} {its : Array Value} {n : Nat} {ps : List PyData} : K.lookup a = some o -> o.cls = .type "tuple" -> o.data = .seq its n -> GPs K its.toList ps -> GP K (.ref a) (.tuple ps)
inductive GPs (K : PySem.W.Frag) : List Value -> List PyData -> Prop where
 | nil : GPs K [] []
 | cons {v : Value} {vs : List Value} {p : PyData} {ps : List PyData} : GP K v p -> GPs K vs ps -> GPs K (v :: vs) (p :: ps)
end
mutual
theorem GP.reads {K : PySem.W.Frag} {h : Heap} (i : K.In h) : ∀ {v : Value} {p : PyData}, GP K v p -> ∃ as, Reads h v p as
 | _, _, .int i t => ⟨_, .int i t⟩
 | _, _, .str x t => ⟨_, .str x t⟩
 | _, _, .tup e c d r => by obtain ⟨as, ra⟩ := GPs.reads i r; exact ⟨_, .tuple (i _ _ e) c d ra⟩
theorem GPs.reads {K : PySem.W.Frag} {h : Heap} (i : K.In h) : ∀ {vs : List Value} {ps : List PyData}, GPs K vs ps -> ∃ as, ReadsAll h vs ps as
 | _, _, .nil => ⟨_, .nil⟩
 | _, _, .cons a b => by obtain ⟨as, ra⟩ := GP.reads i a; obtain ⟨bs, rb⟩ := GPs.reads i b; exact ⟨_, .cons ra rb⟩
end
section
variable {X : Cx} {ρ : Rho} {e a b c : Expr} {d : D} {pos p : Pos} {N : List Str} {sc : Scope} {x y : Str} {xs ys ds : List D}
theorem aMT (t : At X N sc) {l : Addr} {q : PyData} (hm : X.mg x = some (.ref l)) (hk : GP X.K (.ref l) q) (hg : sc.names.lookup x = some .globalImplicit := by rfl) (hdb : (x == ("__debug__" : Str)) = false := by rfl) : EvP X ρ (.Name x pos) q := fun B F H σ Q k w => .mk fun pins s I =>
 aQV (v := .ref l) (wK t hg) hm rfl hdb pins s σ H Q I (w _ F H (.refl k.sub) fun hc H' s' pins σ s u I ru => by
  cases (show u = Value.ref l from ru)
  exact hk.reads I.kIn)
theorem aYV (t : At X N sc) {q : PyData} {qs : List PyData} {r : Bool} (ha : EvP X ρ a q) (hb : EvP X ρ b (.tuple qs)) (sp : q.canLay0 = true) (sd : q.depth <= 62) (sq : PyData.canLayAll0 qs = true) (he : (qs.any fun y => PyData.eqv y q) = r)
  (hm : behindInMarks .In b = false := by rfl) : EvT X ρ (.Compare a [.In] [b] pos) r :=
 .of (aBW (aWS t sp sd sq) yU yU hm) fun B F H σ Q k q => eEF ha hb k fun x y F' H' x' rx ry => ⟨rx, ry, r, by rw [he], q F' H' x'⟩
def Pk : D -> Bool
 | .non => true | .bl _ => true | .int _ => true | .str _ => true | .tup _ => true | .lst _ => true | .dic _ => true | _ => false
theorem eFX {T : String} {k : Bool} (hk : PySem.W.kitOne X.K (.type "dict") (.type T) = some k) :
  aCY X (.builtin "isinstance") (fun xs H Q => ∃ x F kvs, xs = [x, .ty T] /\ Same F H /\ Rep X.K F x (.dic kvs) /\ Q (.bl k) H) := by
 intro pins s σ H xs us Q I r h
 obtain ⟨v, F, kvs, rfl, sub, rv, q⟩ := h
 obtain ⟨u, w, rfl, ru, rw'⟩ := eAK r
 cases (show w = Value.type T from rw')
 cases rv with
 | @dic a ob _ zs hf _ =>
 cases (show u = Value.ref a from ru)
 obtain ⟨_, _, o, h1, h2, _⟩ := DcRd.is I (.inr ⟨ob, sub _ _ hf⟩ : DcRd H a zs)
 exact PySem.W.kia_one PySem.W.kitx_dict I.kIn ⟨o, h1, h2.1⟩ hk (fun z => nomatch z) fun tk => ⟨.bl k, H, I.tok tk, rfl, q⟩
theorem eGH (t : At X N sc) {T : String} {k : Bool} {py : Pos} (bl : Blt X sc x (.builtin "isinstance")) (bt : Blt X sc y (.type T)) (ha : EvE X ρ a d) (hp : Pk d = true) (hk : PySem.W.kitOne X.K (tyD d) (.type T) = some k) (hpa : Pl a := by intro _ _; rfl) :
  EvE X ρ (.Call (.Name x p) [a, .Name y py] [] pos) (.bl k) := by
 cases d with
 | dic kvs =>
  exact .of (aDB (eFX hk) (wK t bl.g) bl.m bl.v (zC yU (zC (aXK (v := .ty T) (wK t bt.g) bt.m bt.v rfl bt.n bt.d) jW) (hpa _ _)) bl.n bl.d (hpa _ _) rfl) fun B F H σ Q k' q =>
   ha B F H σ _ k' fun v F' H' x' r => ⟨v, F', kvs, rfl, x'.sub, r, q _ F' H' x' (.bl k)⟩
 | non => exact aKW t bl bt ha hk (hpa := hpa)
 | bl _ => exact aKW t bl bt ha hk (hpa := hpa)
 | int _ => exact aKW t bl bt ha hk (hpa := hpa)
 | str _ => exact aKW t bl bt ha hk (hpa := hpa)
 | tup _ => exact aKW t bl bt ha hk (hpa := hpa)
 | lst _ => exact aKW t bl bt ha hk (hpa := hpa)
 | scr _ => cases hp
 | exc _ => cases hp
 | exh _ _ => cases hp
 | adr _ => cases hp
 | stt _ => cases hp
def eMR : D -> Bool
 | .str _ => true | _ => false
theorem aTN (t : At X N sc) {py : Pos} (bl : Blt X sc x (.builtin "isinstance")) (bt : Blt X sc y (.type "str")) (ha : EvE X ρ a d) (hp : Pk d = true) (hpa : Pl a := by intro _ _; rfl) : EvE X ρ (.Call (.Name x p) [a, .Name y py] [] pos) (.bl (eMR d)) :=
 eGH t bl bt ha hp (by cases d <;> first | rfl | cases hp) hpa
end
section
variable {X : Cx} {ρ : Rho} {a b c e : Expr} {d : D} {pos p : Pos} {N : List Str} {sc : Scope} {x y : Str} {xs : List D}
theorem aAO {α : Type} [DecidableEq α] (u v : α) : (u == v) = decide (u = v) := by
 by_cases h : u = v
 ·simp [h]
 ·simp [h]
theorem vT (w : Str) : (toP (.str w)).depth <= 62 := by simp [toP, PyData.depth]
theorem aAT {w : Str} (h : PyData.strOk w = true) : (toP (.str w)).canLay0 = true := by simp [toP, PyData.canLay0, h]
theorem vN {w : Str} (h : PyData.strOk w = true) : SeqAt.shaped (toP (.str w)) = true := by
 show ((toP (.str w)).canLay0 && decide ((toP (.str w)).depth <= 64)) = true
 rw [decide_eq_true (by have := vT w; omega), aAT h]; rfl
theorem cl2 {u v : Str} (hu : PyData.strOk u = true) (hv : PyData.strOk v = true) : PyData.canLayAll0 [.str u, .str v] = true := by simp [PyData.canLayAll0, PyData.canLay0, hu, hv]
theorem vF (t : At X N sc) {u v : Str} (ha : EvE X ρ a (.str u)) (hb : EvE X ρ b (.str v)) (hu : PyData.strOk u = true) (hv : PyData.strOk v = true := by decide +kernel) : EvT X ρ (.Compare a [.Eq] [b] pos) (decide (u = v)) :=
 wC t ha.p hb.p (vN hu) (vN hv) (by show (u == v) = _; exact aAO u v)
theorem eDJ (t : At X N sc) {u v : Str} (ha : EvE X ρ a (.str u)) (hb : EvE X ρ b (.str v)) (hu : PyData.strOk u = true) (hv : PyData.strOk v = true := by decide +kernel) : EvE X ρ (.Compare a [.Eq] [b] pos) (.bl (decide (u = v))) :=
 eDK t ha.p hb.p (vN hu) (vN hv) (by show (u == v) = _; exact aAO u v)
theorem eNY (u v w : Str) : ([PyData.str u, .str v].any fun y => PyData.eqv y (.str w)) = (decide (w = u) || decide (w = v)) := by
 show ((u == w) || ((v == w) || false)) = _
 rw [aAO, aAO, Bool.or_false, decide_eq_decide.mpr (eq_comm (a := u)), decide_eq_decide.mpr (eq_comm (a := v))]
theorem eKT (t : At X N sc) {u v w : Str} {k : Nat} {p1 p2 p3 : Pos} {i j : Nat} (ha : EvE X ρ a (.str w)) (hw : PyData.strOk w = true) (hu : PyData.strOk u = true := by decide +kernel) (hv : PyData.strOk v = true := by decide +kernel) : EvT X ρ (.Compare a [.In] [.Tuple [.Constant (.str u) i p1, .Constant (.str v) j p2] k p3] pos) (decide (w = u) || decide (w = v)) :=
 aIO t (xs := [.str u, .str v]) ha (yP (yC ev_str (yC ev_str yE))) (aAT hw) (vT w) (cl2 hu hv) (eNY u v w)
theorem aZR {i : Int} {ys : List D} (hi : i = -1 \/ i = ((ys ++ [d]).length : Int) - 1) : atI (ys ++ [d]) i = some d := by
 unfold atI
 have hl : (ys ++ [d]).length = ys.length + 1 := by simp
 rcases hi with rfl | rfl
 ·have : ixN (ys ++ [d]).length (-1) = some ys.length := by
   unfold ixN; simp [hl]; omega
  rw [this]; simp
 ·rw [aXW (j := ys.length) (by omega) (by omega) (by omega)]; simp
end
section
variable {X : Cx} {ρ : Rho} {a b c e : Expr} {d : D} {pos p : Pos} {N : List Str} {sc : Scope} {u v w : Bool} {body qZ els : List Stmt} {o : Out}
theorem eGL (ha : EvE X ρ a (.bl u)) (hb : u = true -> EvE X ρ b (.bl v)) : EvE X ρ (.BoolOp .And [a, b] pos) (.bl (u && v)) := by
 cases u with
 | true => exact eGJ ha (eKP (hb rfl))
 | false => exact eGK ha
theorem aIN (ha : EvT X ρ a u) (hb : u = false -> EvT X ρ b v) : EvT X ρ (.BoolOp .Or [a, b] pos) (u || v) := by
 cases u with
 | true => exact EvW.toT (aKV ha)
 | false => exact EvW.toT (aDP ha (aFS (hb rfl)))
theorem eDM (ha : EvT X ρ a u) (hb : u = false -> EvT X ρ b v) (hc : u = false -> v = false -> EvT X ρ c w) : EvT X ρ (.BoolOp .Or [a, b, c] pos) (u || (v || w)) := by
 cases u with
 | true => exact EvW.toT (aKV ha)
 | false => cases v with
  | true => exact EvW.toT (aDP ha (aKV (hb rfl)))
  | false => exact EvW.toT (aDP ha (aDP (hb rfl) (aFS (hc rfl rfl))))
theorem aNA (ha : EvT X ρ a u) (hb : u = true -> EvT X ρ b v) : EvT X ρ (.BoolOp .And [a, b] pos) (u && v) := by
 cases u with
 | true => exact EvW.toT (aIH ha (aIJ (hb rfl)))
 | false => exact EvW.toT (aII ha)
theorem eKV (hc : EvT X ρ c u) (h1 : u = true -> EvSs X ρ body (.rt d)) (h2 : u = false -> EvSs X ρ qZ (.rt d)) : EvSs X ρ (.If c body [] pos :: qZ) (.rt d) := by
 cases u with
 | true => exact wR (jY hc (h1 rfl))
 | false => exact yG (jI hc zW) (h2 rfl)
end
theorem WRun.scan {X : Cx} {c : Expr} {body : List Stmt} {d0 : D} {σ : Type} (R : σ -> Rho) (I F : σ -> Prop) (μ : σ -> Nat) (st : ∀ s, I s -> (EvT X (R s) c false /\ F s) \/ (EvT X (R s) c true /\ (EvSs X (R s) body (.rt d0) \/ ∃ s', EvSs X (R s) body (.nx (R s')) /\ I s' /\ μ s' < μ s))) : ∀ (n : Nat) (s : σ), μ s <= n -> I s -> ∃ m o, WRun X c body m (R s) o /\ (o = .rt d0 \/ ∃ s', o = .nx (R s') /\ F s')
 | n, s, hn, hI => by
  rcases st s hI with ⟨h1, h2⟩ | ⟨h1, h2 | ⟨s', h2, h3, h4⟩⟩
  ·exact ⟨0, _, .stop h1, .inr ⟨s, rfl, h2⟩⟩
  ·exact ⟨0, _, .ret h1 h2, .inl rfl⟩
  ·cases n with
   | zero => omega
   | succ n =>
    obtain ⟨m, o, hr, ho⟩ := WRun.scan R I F μ st n s' (by omega) h3
    exact ⟨m + 1, o, .step h1 h2 hr, ho⟩
theorem aPB {X : Cx} {N : List Str} {sc : Scope} {c : Expr} {body qZ : List Stmt} {pos : Pos} {d0 : D} {σ : Type} (t : At X N sc) (R : σ -> Rho) (I F : σ -> Prop) (μ : σ -> Nat) (s0 : σ) (h0 : I s0) (st : ∀ s, I s -> (EvT X (R s) c false /\ F s) \/ (EvT X (R s) c true /\ (EvSs X (R s) body (.rt d0) \/ ∃ s', EvSs X (R s) body (.nx (R s')) /\ I s' /\ μ s' < μ s)))
  (fin : ∀ s, F s -> EvSs X (R s) qZ (.rt d0)) : EvSs X (R s0) (.While c body [] pos :: qZ) (.rt d0) := by
 obtain ⟨m, o, hr, ho⟩ := WRun.scan (X := X) (c := c) (body := body) (d0 := d0) R I F μ st (μ s0) s0 (Nat.le_refl _) h0
 have run := aHJ (pos := pos) t ⟨m, hr⟩
 rcases ho with rfl | ⟨s', rfl, hf⟩
 ·exact wR run
 ·exact yG run (fin s' hf)
def Glb (mg : Str -> Option Value) (K : PySem.W.Frag) (x : Str) (q : PyData) : Prop := ∃ l, mg x = some (.ref l) /\ GP K (.ref l) q
theorem mod_lt {x : Int} {xs : List D} (h : xs ≠ []) : (x % (xs.length : Int)).toNat < xs.length := by
 have : 0 < xs.length := List.length_pos_iff.mpr h
 have := Int.emod_lt_of_pos x (show (0 : Int) < (xs.length : Int) by omega)
 have := Int.emod_nonneg x (show (xs.length : Int) ≠ 0 by omega)
 omega
structure LS where
 cs : Type
 ds : Type
 ov : cs -> Addr -> Option HO
 dom : ∀ c c' a, ov c a = none -> ov c' a = none
 rep : PySem.W.Frag -> Hp -> cs -> ds -> Prop
 mono : ∀ {K : PySem.W.Frag} {F F' : Hp} {c : cs} {s : ds}, Same F F' -> rep K F c s -> rep K F' c s
def ovH (o : Addr -> Option HO) (H : Hp) : Hp := fun a => match o a with
 | some u => some u
 | none => H a
theorem aDW {o : Addr -> Option HO} {H : Hp} {a : Addr} {u : HO} (h : o a = some u) : ovH o H a = some u := by unfold ovH; rw [h]
theorem qW {o : Addr -> Option HO} {H : Hp} {a : Addr} (h : o a = none) : ovH o H a = H a := by unfold ovH; rw [h]
def UpZ (S : LS) (B : B0) (c : S.cs) : B0 := ⟨B.F, ovH (S.ov c) B.H⟩
structure Ln (S : LS) (K : PySem.W.Frag) (B : B0) (F : Hp) (c : S.cs) (s : S.ds) : Prop where
 st : ∀ a u, S.ov c a = some u -> B.H a = some u
 fr : ∀ a u, S.ov c a = some u -> B.F a = none
 rep : S.rep K F c s
section
variable {S : LS} {K : PySem.W.Frag} {B : B0} {F H F1 H1 F2 H2 : Hp} {σ : St} {ρ : Rho} {c c1 c2 : S.cs} {s s1 s2 : S.ds} {a : Addr} {u : HO}
theorem UpZ.same (h : ∀ a u, S.ov c a = some u -> B.H a = some u) : UpZ S B c = B := by
 have : ovH (S.ov c) B.H = B.H := funext fun a => by
  cases e : S.ov c a with
  | none => exact qW e
  | some u => rw [aDW e, h a u e]
 show (⟨B.F, ovH (S.ov c) B.H⟩ : B0) = B
 rw [this]
theorem UpZ.up : UpZ S (UpZ S B c) c1 = UpZ S B c1 := by
 have : ovH (S.ov c1) (ovH (S.ov c) B.H) = ovH (S.ov c1) B.H := funext fun a => by
  cases e : S.ov c1 a with
  | some u => rw [aDW e, aDW e]
  | none => rw [qW e, qW e, qW (S.dom c1 c a e)]
 show (⟨B.F, ovH (S.ov c1) (ovH (S.ov c) B.H)⟩ : B0) = ⟨B.F, ovH (S.ov c1) B.H⟩
 rw [this]
theorem LS.has (h : S.ov c1 a = some u) (c : S.cs) : ∃ v, S.ov c a = some v := by
 cases e : S.ov c a with
 | some v => exact ⟨v, rfl⟩
 | none => rw [S.dom c c1 a e] at h; cases h
theorem Ln.free (l : Ln S K B F c s) (x : Ext B F H) (h : S.ov c1 a = some u) : F a = none := by
 obtain ⟨v, hv⟩ := LS.has h c
 cases e : F a with
 | none => rfl
 | some o =>
  rcases x.nw a (by rw [e]; exact Option.some_ne_none o) with z | z
  ·exact absurd (l.fr a v hv) z
  ·rw [l.st a v hv] at z; cases z
theorem Ln.up (l : Ln S K B F c s) (r : S.rep K F1 c1 s1) : Ln S K (UpZ S B c1) F1 c1 s1 := ⟨fun a u h => aDW h, fun a u h => by obtain ⟨v, hv⟩ := LS.has h c; exact l.fr a v hv, r⟩
theorem Ln.ext {F' H' : Hp} (l : Ln S K B F c s) (x : Ext ⟨F, H⟩ F' H') : Ln S K B F' c s := ⟨l.st, l.fr, S.mono x.sf l.rep⟩
theorem Ok.chgZ (k : Ok K B F H σ ρ) (l : Ln S K B F c s) : Ok K (UpZ S B c1) F (ovH (S.ov c1) H) σ ρ := by
 have hf : ∀ a u, S.ov c1 a = some u -> F a = none := fun a u h => l.free k.toExt h
 have ho : ∀ a, B.H a = none -> S.ov c1 a = none := fun a h => by
  cases e : S.ov c1 a with
  | none => rfl
  | some u => obtain ⟨v, hv⟩ := LS.has e c; rw [l.st a v hv] at h; cases h
 refine ⟨⟨fun b u q => ?_, fun b u q => ?_, k.sf, fun a q => ?_⟩, k.len, k.vals, fun i ys h => ?_, k.dist, ⟨fun i kvs h => ?_, k.dic.distD⟩⟩
 ·cases e : S.ov c1 b with
  | some v => rw [hf b v e] at q; cases q
  | none => rw [qW e]; exact k.sub b u q
 ·have q' : ovH (S.ov c1) B.H b = some u := q
  cases e : S.ov c1 b with
  | some v => rw [aDW e] at q' ⊢; exact q'
  | none => rw [qW e] at q' ⊢; exact k.sh b u q'
 ·rcases k.nw a q with z | z
  ·exact .inl z
  ·refine .inr ?_
   show ovH (S.ov c1) B.H a = none
   rw [qW (ho a z)]; exact z
 ·obtain ⟨a, vs, h1, h2, h3, h4, h5⟩ := k.owns i ys h
  have e := ho a h4
  exact ⟨a, vs, h1, by rw [qW e]; exact h2, h3, by show ovH (S.ov c1) B.H a = none; rw [qW e]; exact h4, h5⟩
 ·obtain ⟨a, es, h1, h2, h3, h4, h5⟩ := k.dic.dcts i kvs h
  have e := ho a h4
  exact ⟨a, es, h1, by rw [qW e]; exact h2, h3, by show ovH (S.ov c1) B.H a = none; rw [qW e]; exact h4, h5⟩
theorem Ok.extZ (k : Ok K B F H σ ρ) (l : Ln S K B F c s) (x : Ext (UpZ S ⟨F, H⟩ c1) F1 H1) : Ok K (UpZ S B c1) F1 H1 σ ρ := (k.chgZ l).ext x
theorem eDZ (x : Ext (UpZ S ⟨F, H⟩ c1) F1 H1) (hf : ∀ a u, S.ov c1 a = some u -> F a = none) (h : S.ov c2 a = some u) : F1 a = none := by
 obtain ⟨v, hv⟩ := LS.has h c1
 cases e : F1 a with
 | none => rfl
 | some o =>
  rcases x.nw a (by rw [e]; exact Option.some_ne_none o) with z | z
  ·exact absurd (hf a v hv) z
  ·have z' : ovH (S.ov c1) H a = none := z
   rw [aDW hv] at z'; cases z'
theorem Ext.reZ (x : Ext (UpZ S ⟨F, H⟩ c1) F1 H1) (hf : ∀ a u, S.ov c1 a = some u -> F a = none) : Ext (UpZ S ⟨F, H⟩ c2) F1 (ovH (S.ov c2) H1) := by
 refine ⟨fun b u z => ?_, fun b u z => ?_, x.sf, fun a z => ?_⟩
 ·cases e : S.ov c2 b with
  | some v => rw [eDZ x hf e] at z; cases z
  | none => rw [qW e]; exact x.sub b u z
 ·have z' : ovH (S.ov c2) H b = some u := z
  cases e : S.ov c2 b with
  | some v => rw [aDW e] at z' ⊢; exact z'
  | none =>
   rw [qW e] at z' ⊢
   exact x.sh b u (by show ovH (S.ov c1) H b = some u; rw [qW (S.dom c2 c1 b e)]; exact z')
 ·rcases x.nw a z with y | y
  ·exact .inl y
  ·refine .inr ?_
   have y' : ovH (S.ov c1) H a = none := y
   show ovH (S.ov c2) H a = none
   cases e : S.ov c1 a with
   | some v => rw [aDW e] at y'; cases y'
   | none => rw [qW e] at y'; rw [qW (S.dom c1 c2 a e)]; exact y'
theorem Ext.tZ (x : Ext (UpZ S ⟨F, H⟩ c1) F1 H1) (hf : ∀ a u, S.ov c1 a = some u -> F a = none) (y : Ext (UpZ S ⟨F1, H1⟩ c2) F2 H2) : Ext (UpZ S ⟨F, H⟩ c2) F2 H2 := (x.reZ hf).trans y
theorem Ext.toZ (x : Ext ⟨F, H⟩ F1 H1) (h : ∀ a u, S.ov c a = some u -> H a = some u) : Ext (UpZ S ⟨F, H⟩ c) F1 H1 := by rw [UpZ.same (B := ⟨F, H⟩) h]; exact x
theorem Ln.now (l : Ln S K B F c s) (k : Ok K B F H σ ρ) : ∀ a u, S.ov c a = some u -> H a = some u := fun a u h => k.sh _ _ (l.st a u h)
theorem Ln.ff (l : Ln S K B F c s) (k : Ok K B F H σ ρ) : ∀ a u, S.ov c1 a = some u -> F a = none := fun a u h => l.free k.toExt h
end
def EvEZ (S : LS) (X : Cx) (ρ : Rho) (e : Expr) (d : D) (s s' : S.ds) : Prop := ∀ (B : B0) (F H : Hp) (σ : St) (Q : VK) (c : S.cs), Ln S X.K B F c s -> Ok X.K B F H σ ρ ->
 (∀ v F' H' c', Ext (UpZ S ⟨F, H⟩ c') F' H' -> S.rep X.K F' c' s' -> Rep X.K F' v d -> Q v H') -> wE X e σ H Q
def eLP (S : LS) (X : Cx) (ρ : Rho) (es : List Expr) (ds : List D) (s s' : S.ds) : Prop := PlA es /\ ∀ (B : B0) (F H : Hp) (σ : St) (Q : List V -> Hp -> Prop) (c : S.cs), Ln S X.K B F c s -> Ok X.K B F H σ ρ ->
 (∀ vs F' H' c', Ext (UpZ S ⟨F, H⟩ c') F' H' -> S.rep X.K F' c' s' -> RepL X.K F' vs ds -> Q vs H') -> wA X es σ H Q
def EvTZ (S : LS) (X : Cx) (ρ : Rho) (e : Expr) (b : Bool) (s s' : S.ds) : Prop := ∀ (B : B0) (F H : Hp) (σ : St) (Q : Bool -> Hp -> Prop) (c : S.cs), Ln S X.K B F c s -> Ok X.K B F H σ ρ ->
 (∀ F' H' c', Ext (UpZ S ⟨F, H⟩ c') F' H' -> S.rep X.K F' c' s' -> Q b H') -> wT X e σ H Q
def eAB (S : LS) (K : PySem.W.Frag) (B : B0) (F₀ : Hp) (E : aFO) (s' : S.ds) : Out -> Prop
 | .nx ρ => ∀ F H σ c, Ok K (UpZ S B c) F H σ ρ -> S.rep K F c s' -> Same F₀ F -> E.nx σ H
 | .rt d => ∀ v F H c, Ext (UpZ S B c) F H -> S.rep K F c s' -> Rep K F v d -> E.rt v H
def EvZ (S : LS) (X : Cx) (ρ : Rho) (sts : List Stmt) (o : Out) (s s' : S.ds) : Prop := ∀ (B : B0) (F H : Hp) (σ : St) (E : aFO) (c : S.cs), Ln S X.K B F c s -> Ok X.K B F H σ ρ -> eAB S X.K B F E s' o -> wSs X sts E σ H
def aSD (S : LS) (X : Cx) (ρ : Rho) (st : Stmt) (o : Out) (s s' : S.ds) : Prop := ∀ (B : B0) (F H : Hp) (σ : St) (E : aFO) (c : S.cs), Ln S X.K B F c s -> Ok X.K B F H σ ρ -> eAB S X.K B F E s' o -> wS X st E σ H
section
variable {S : LS} {X : Cx} {ρ ρ1 ρ2 ρ' : Rho} {st : Stmt} {sts qZ ss us body : List Stmt} {o : Out} {s s1 s2 s' : S.ds} {tg e a b cd : Expr} {es : List Expr} {d : D} {ds : List D} {pos p py ps : Pos} {N : List Str} {sc : Scope} {x y : Str}
theorem EvE.z (h : EvE X ρ e d) : EvEZ S X ρ e d s s := fun B F H σ Q c l k w => h B F H σ Q k fun v F' H' x r => w v F' H' c (x.toZ (l.now k)) (S.mono x.sf l.rep) r
theorem EvA.z (h : EvA X ρ es ds) : eLP S X ρ es ds s s := ⟨h.1, fun B F H σ Q c l k w => h.2 B F H σ Q k fun v F' H' x r => w v F' H' c (x.toZ (l.now k)) (S.mono x.sf l.rep) r⟩
theorem EvT.z {r : Bool} (h : EvT X ρ e r) : EvTZ S X ρ e r s s := fun B F H σ Q c l k w => h B F H σ Q k fun F' H' x => w F' H' c (x.toZ (l.now k)) (S.mono x.sf l.rep)
theorem EvEZ.eq {d' : D} (h : EvEZ S X ρ e d s s') (q : d = d') : EvEZ S X ρ e d' s s' := q ▸ h
theorem EvTZ.eq {r r' : Bool} (h : EvTZ S X ρ e r s s') (q : r = r') : EvTZ S X ρ e r' s s' := q ▸ h
theorem jK (h1 : EvEZ S X ρ e d s s1) (h2 : eLP S X ρ es ds s1 s') (hs : Pl e := by intro _ _; rfl) : eLP S X ρ (e :: es) (d :: ds) s s' :=
 ⟨⟨hs, h2.1⟩, fun B F H σ Q c l k w => .mk fun pos pins st I => zC yU aVO (hs _ _) pos pins st σ H Q I (h1 B F H σ _ c l k fun v F1 H1 c1 x1 r1 rv => h2.2 (UpZ S B c1) F1 H1 σ _ c1 (l.up r1) (k.extZ l x1) fun vs F2 H2 c2 x2 r2 rvs => w _ F2 H2 c2 (x1.tZ (l.ff k) x2) r2 (.cons (rv.mono x2.sf) rvs))⟩
theorem eHM {da db : D} (ha : EvEZ S X ρ a da s s1) (hb : EvEZ S X ρ b db s1 s') {B : B0} {F H : Hp} {σ : St} {R : V -> V -> Hp -> Prop} {c : S.cs} (l : Ln S X.K B F c s) (k : Ok X.K B F H σ ρ)
  (h : ∀ x y F' H' c', Ext (UpZ S ⟨F, H⟩ c') F' H' -> S.rep X.K F' c' s' -> Rep X.K F' x da -> Rep X.K F' y db -> R x y H') : wE X a σ H fun x H1 => wE X b σ H1 fun y H2 => R x y H2 :=
 ha B F H σ _ c l k fun x F1 H1 c1 x1 r1 rv => hb (UpZ S B c1) F1 H1 σ _ c1 (l.up r1) (k.extZ l x1) fun y F2 H2 c2 x2 r2 ry => h x y F2 H2 c2 (x1.tZ (l.ff k) x2) r2 (rv.mono x2.sf) ry
theorem Rep.rd {F H : Hp} {v : V} (sub : Same F H) (r : Rep X.K F v d) : RdP X H v (toP d) := fun hs H2 s2 pins σ s u I ru => r.reads I (sub.trans s2) ru hs
theorem eLS (t : At X N sc) {da db : D} {r : Bool} (ha : EvEZ S X ρ a da s s1) (hb : EvEZ S X ρ b db s1 s') (sp : SeqAt.shaped (toP da) = true) (sq : SeqAt.shaped (toP db) = true) (hr : (toP da).eqv (toP db) = r) : EvTZ S X ρ (.Compare a [.Eq] [b] pos) r s s' := fun B F H σ Q c l k w => .mk fun pins st I =>
 aBW (eEW t sp sq) yU yU (jG _ (by decide) (by decide)) pins st σ H Q I (eHM ha hb l k fun x y F' H' c' x' r' rx ry => ⟨rx.rd x'.sub, ry.rd x'.sub, r, by rw [hr], w F' H' c' x' r'⟩)
theorem eLR (t : At X N sc) {da : D} {xs : List D} {r : Bool} (ha : EvEZ S X ρ a da s s1) (hb : EvEZ S X ρ b (.tup xs) s1 s') (sp : (toP da).canLay0 = true) (sd : (toP da).depth <= 62) (sq : PyData.canLayAll0 (toPs xs) = true) (he : ((toPs xs).any fun y => PyData.eqv y (toP da)) = r)
  (hm : behindInMarks .In b = false := by rfl) : EvTZ S X ρ (.Compare a [.In] [b] pos) r s s' := fun B F H σ Q c l k w => .mk fun pins st I =>
 aBW (aWS t sp sd sq) yU yU hm pins st σ H Q I (eHM ha hb l k fun x y F' H' c' x' r' rx ry => ⟨rx.rd x'.sub, (ry.rd x'.sub : RdP X H' y (.tuple (toPs xs))), r, by rw [he], w F' H' c' x' r'⟩)
theorem eEE {i j : Int} (ha : EvEZ S X ρ a (.int i) s s1) (hb : EvEZ S X ρ b (.int j) s1 s') : EvTZ S X ρ (.Compare a [.Lt] [b] pos) (decide (i < j)) s s' := fun B F H σ Q c l k w => .mk fun pins st I =>
 aBW eIY yU yU (jG _ (by decide) (by decide)) pins st σ H Q I (eHM ha hb l k fun x y F' H' c' x' r' rx ry => by cases rx; cases ry; exact ⟨i, j, rfl, rfl, _, rfl, w F' H' c' x' r'⟩)
theorem eKM (hc : EvTZ S X ρ cd true s s1) (ha : EvEZ S X ρ a d s1 s') : EvEZ S X ρ (.IfExp cd a b pos) d s s' := fun B F H σ Q c l k w => .mk fun pins st I =>
 aGN aLV yU yU pins st σ H Q I (hc B F H σ _ c l k fun F1 H1 c1 x1 r1 => by rw [if_pos rfl]; exact ha (UpZ S B c1) F1 H1 σ _ c1 (l.up r1) (k.extZ l x1) fun v F2 H2 c2 x2 r2 rv => w v F2 H2 c2 (x1.tZ (l.ff k) x2) r2 rv)
theorem eKN (hc : EvTZ S X ρ cd false s s1) (hb : EvEZ S X ρ b d s1 s') : EvEZ S X ρ (.IfExp cd a b pos) d s s' := fun B F H σ Q c l k w => .mk fun pins st I =>
 aGN aLV yU yU pins st σ H Q I (hc B F H σ _ c l k fun F1 H1 c1 x1 r1 => by rw [if_neg Bool.false_ne_true]; exact hb (UpZ S B c1) F1 H1 σ _ c1 (l.up r1) (k.extZ l x1) fun v F2 H2 c2 x2 r2 rv => w v F2 H2 c2 (x1.tZ (l.ff k) x2) r2 rv)
theorem aKO {B : B0} {F H : Hp} {σ : St} {E : aFO} {c : S.cs} (l : Ln S X.K B F c s) (k : Ok X.K B F H σ ρ) (q : eAB S X.K B F E s o) : (∃ ρ', o = .nx ρ' /\ Post X.K B F E o) \/ (∃ d, o = .rt d /\ Post X.K ⟨F, B.H⟩ F E o) := by
 cases o with
 | nx ρ' => exact .inl ⟨ρ', rfl, fun F' H' σ' k' s' => q F' H' σ' c (by rw [UpZ.same l.st]; exact k') (S.mono s' l.rep) s'⟩
 | rt d => exact .inr ⟨d, rfl, fun v F' H' x r => q v F' H' c (by rw [UpZ.same l.st]; exact k.toExt.then_ x) (S.mono x.sf l.rep) r⟩
theorem EvSs.z (h : EvSs X ρ sts o) : EvZ S X ρ sts o s s := fun B F H σ E c l k q => by
 rcases aKO l k q with ⟨_, _, z⟩ | ⟨_, _, z⟩
 ·exact h B F H σ E k z
 ·exact h ⟨F, B.H⟩ F H σ E k.now z
theorem EvS.z (h : EvS X ρ st o) : aSD S X ρ st o s s := fun B F H σ E c l k q => by
 rcases aKO l k q with ⟨_, _, z⟩ | ⟨_, _, z⟩
 ·exact h B F H σ E k z
 ·exact h ⟨F, B.H⟩ F H σ E k.now z
theorem aLW {B : B0} {F F1 : Hp} {E : aFO} {c : S.cs} (q : eAB S X.K B F E s' o) (sf : Same F F1) : eAB S X.K (UpZ S B c) F1 E s' o := by
 cases o with
 | nx ρ' => exact fun F' H' σ' c' k r s' => q F' H' σ' c' (by rw [UpZ.up] at k; exact k) r (sf.trans s')
 | rt d => exact fun v F' H' c' x r rv => q v F' H' c' (by rw [UpZ.up] at x; exact x) r rv
theorem zY (h1 : aSD S X ρ st (.nx ρ1) s s1) (h2 : EvZ S X ρ1 qZ o s1 s') : EvZ S X ρ (st :: qZ) o s s' := fun B F H σ E c l k q => .mk fun pins w I =>
 wY eAF vD pins w σ H E I (h1 B F H σ _ c l k fun F1 H1 σ1 c1 k1 r1 sf => h2 (UpZ S B c1) F1 H1 σ1 E c1 (l.up r1) k1 (aLW q sf))
theorem vM (h1 : aSD S X ρ st o s s') : EvZ S X ρ [st] o s s' := fun B F H σ E c l k q => .mk fun pins w I => aDU eAF pins w σ H E I (h1 B F H σ E c l k q)
theorem aSH : EvZ S X ρ [] (.nx ρ) s s := EvSs.z zW
theorem aSF [FnT X] (t : At X N sc) (i : Nat) {pos' : Pos} (h : EvEZ S X ρ e d s s') (hi : N[i]? = some x := by rfl) (hx : aPZ sc x = true := by rfl) (hs : swapsWith e (some (.Name x pos')) pos.line X.env = pure false := by rfl) :
  aSD S X ρ (.Assign [.Name x pos'] e pos) (.nx (ρ.set i (.val d))) s s' := fun B F H σ E c l k w => .mk fun pins q I =>
 aKM (i := i) t.nd (t.ix hi) (t.loc hx) yU hs hfT pins q σ H E I (h B F H σ _ c l k fun v F' H' c1 x' r rv => w F' H' _ c1 ((k.extZ l x').setVal i rv) r x'.sf)
theorem aSG (h : EvEZ S X ρ e d s s') : aSD S X ρ (.Return (some e) pos) (.rt d) s s' := fun B F H σ E c l k w => .mk fun pins q I =>
 aOK yU pins q σ H E I (h B F H σ _ c l k fun v F' H' c1 x' r rv => w v F' H' c1 (k.extZ l x').toExt r rv)
theorem aAK (h : EvEZ S X ρ e d s s') (hsw : swapsWith e none pos.line X.env = pure false := by rfl) : aSD S X ρ (.Expr e pos) (.nx ρ) s s' := fun B F H σ E c l k w => .mk fun pins q I =>
 aDV yU hsw pins q σ H E I (h B F H σ _ c l k fun v F' H' c1 x' r rv => w F' H' σ c1 (k.extZ l x') r x'.sf)
theorem aVP (hc : EvTZ S X ρ cd true s s1) (h : EvZ S X ρ ss o s1 s') : aSD S X ρ (.If cd ss us pos) o s s' := fun B F H σ E c l k w => .mk fun pins q I =>
 aUN aLV vD vD pins q σ H E I (hc B F H σ _ c l k fun F1 H1 c1 x1 r1 => by rw [if_pos rfl]; exact h (UpZ S B c1) F1 H1 σ E c1 (l.up r1) (k.extZ l x1) (aLW w x1.sf))
theorem aNU (hc : EvTZ S X ρ cd false s s1) (h : EvZ S X ρ us o s1 s') : aSD S X ρ (.If cd ss us pos) o s s' := fun B F H σ E c l k w => .mk fun pins q I =>
 aUN aLV vD vD pins q σ H E I (hc B F H σ _ c l k fun F1 H1 c1 x1 r1 => by rw [if_neg Bool.false_ne_true]; exact h (UpZ S B c1) F1 H1 σ E c1 (l.up r1) (k.extZ l x1) (aLW w x1.sf))
inductive WRunZ (S : LS) (X : Cx) (cd : Expr) (body : List Stmt) : Nat -> Rho -> S.ds -> Rho -> S.ds -> Prop where
 | stop {ρ : Rho} {s s1 : S.ds} : EvTZ S X ρ cd false s s1 -> WRunZ S X cd body 0 ρ s ρ s1
 | step {n : Nat} {ρ ρ1 ρ2 : Rho} {s s1 s2 s3 : S.ds} : EvTZ S X ρ cd true s s1 -> EvZ S X ρ body (.nx ρ1) s1 s2 -> WRunZ S X cd body n ρ1 s2 ρ2 s3 -> WRunZ S X cd body (n + 1) ρ s ρ2 s3
theorem eAI (t : At X N sc) (h : ∃ n, WRunZ S X cd body n ρ s ρ' s') : aSD S X ρ (.While cd body [] pos) (.nx ρ') s s' := fun B F H σ E c l k q => .mk fun pins w I =>
 aSY t.pass aLV vD pins w σ H E I (by
  obtain ⟨n, h⟩ := h
  refine ⟨fun m σ H => ∃ ρ1 F1 c1 s1, Ok X.K (UpZ S B c1) F1 H σ ρ1 /\ S.rep X.K F1 c1 s1 /\ Same F F1 /\ WRunZ S X cd body m ρ1 s1 ρ' s', ⟨n, ρ, F, c, s, by rw [UpZ.same l.st]; exact k, l.rep, .refl _, h⟩, ?_⟩
  rintro m σ H ⟨ρ1, F1, c1, s1, k1, r1, sf, run⟩
  have l1 : Ln S X.K (UpZ S B c1) F1 c1 s1 := l.up r1
  cases run with
  | stop hc =>
   refine hc (UpZ S B c1) F1 H σ _ c1 l1 k1 fun F2 H2 c2 x2 r2 => ?_
   rw [if_neg Bool.false_ne_true]
   have k2 := k1.extZ l1 x2
   rw [UpZ.up] at k2
   exact q F2 H2 σ c2 k2 r2 (sf.trans x2.sf)
  | @step n0 _ ρa _ _ sa sb _ hc hb r =>
   refine hc (UpZ S B c1) F1 H σ _ c1 l1 k1 fun F2 H2 c2 x2 r2 => ?_
   rw [if_pos rfl]
   have k2 := k1.extZ l1 x2
   rw [UpZ.up] at k2
   refine ⟨fun σ' H' => ∃ F'' c'', Ok X.K (UpZ S B c'') F'' H' σ' ρa /\ S.rep X.K F'' c'' sb /\ Same F F'', fun σ' H' ⟨F'', c'', k'', r'', s''⟩ => ⟨_, Nat.lt_succ_self _, _, F'', c'', _, k'', r'', s'', r⟩, hb (UpZ S B c2) F2 H2 σ _ c2 (l.up r2) k2 fun F3 H3 σ3 c3 k3 r3 s3 => ⟨F3, c3, ?_, r3, sf.trans (x2.sf.trans s3)⟩⟩
   rw [UpZ.up] at k3; exact k3)
theorem EvZ.weak (h : EvZ S X ρ sts (.nx ρ1) s s') (w : Weak ρ1 ρ2) : EvZ S X ρ sts (.nx ρ2) s s' := fun B F H σ E c l k pq => h B F H σ E c l k fun F' H' σ' ws k' r sf => pq F' H' σ' ws (k'.weak w) r sf
end
structure aJF where
 C : Addr
 p : Addr
 dx : Addr
 q : Addr
 l : Addr
 toks : List Str
def eKD (r : aJF) (n : Int) : HO := .ins r.C r.dx [("tokens", .ref r.l), ("done", .int n), ("steps", .ref r.q)]
def RdS (r : aJF) : LS where
 cs := Int × List V
 ds := Int × List D
 ov c a := if a = r.p then some (eKD r c.1) else if a = r.q then some (.lst c.2) else none
 dom c c' a h := by
  by_cases h1 : a = r.p
  ·rw [if_pos h1] at h; cases h
  ·rw [if_neg h1] at h ⊢
   by_cases h2 : a = r.q
   ·rw [if_pos h2] at h; cases h
   ·rw [if_neg h2]
 rep K F c s := c.1 = s.1 /\ RepL K F c.2 s.2 /\ F r.l = some (.lst (r.toks.map V.str))
 mono := fun sf h => ⟨h.1, h.2.1.mono sf, sf _ _ h.2.2⟩
structure aIY (K : PySem.W.Frag) (r : aJF) : Prop where
 cls : Cls K r.C
 n1 : NoAttr K r.C "tokens"
 n2 : NoAttr K r.C "done"
 n3 : NoAttr K r.C "steps"
 ne : r.q ≠ r.p
theorem aOI {K : PySem.W.Frag} {F : Hp} : ∀ ts : List Str, RepL K F (ts.map V.str) (ts.map D.str)
 | [] => .nil
 | t :: ts => .cons (.str t) (aOI ts)
section
variable {r : aJF} {X : Cx} {ρ ρ1 ρ' : Rho} {e a b : Expr} {es : List Expr} {d : D} {ds : List D} {pos p py ps apos cpos : Pos} {N : List Str} {sc : Scope} {x : Str} {n : Int} {xs : List D}
theorem RdS.atP {c : Int × List V} : (RdS r).ov c r.p = some (eKD r c.1) := if_pos rfl
theorem RdS.atQ (ok : r.q ≠ r.p) {c : Int × List V} : (RdS r).ov c r.q = some (.lst c.2) := by
 show (if r.q = r.p then _ else if r.q = r.q then _ else _) = _
 rw [if_neg ok, if_pos rfl]
theorem eLD (t : At X N sc) {i : Nat} {q : Addr} (hr : ρ[i]? = some (.val (.adr q))) (hN : N[i]? = some x) (hv : aDQ sc x = true) (hx : qS x = true) {B : B0} {F H : Hp} {σ : St} {Q : VK} (k : Ok X.K B F H σ ρ) (h : Q (.ref q) H) : wE X (.Name x py) σ H Q := .mk fun pins s I => by
 obtain ⟨v, h1, h2⟩ := k.vals i _ hr
 cases h2
 exact aVN t hN hv hx pins s σ H Q I ⟨_, h1, h⟩
theorem aLQ (t : At X N sc) (ok : aIY X.K r) (i : Nat) {s : Int × List D} (hr : ρ[i]? = some (.val (.adr r.p))) (hN : N[i]? = some x := by rfl) (hv : aDQ sc x = true := by rfl) (hx : qS x = true := by rfl) (hb : attributeBase (.Name x py) "tokens" X.env (eval (.Name x py) X.env) = eval (.Name x py) X.env := by rfl) :
  EvEZ (RdS r) X ρ (.Attribute (.Name x py) "tokens" pos) (.lst (r.toks.map D.str)) s s := fun B F H σ Q c l k w => .mk fun pins st I =>
 aTE yU hb pins st σ H Q I (eLD t hr hN hv hx k ⟨r.p, r.C, r.dx, _, .ref r.l, rfl, l.now k _ _ RdS.atP, ok.cls, ok.n1, rfl, w _ F H c ((Ext.refl k.sub).toZ (l.now k)) l.rep (.lst l.rep.2.2 (aOI _))⟩)
theorem aLR (t : At X N sc) (ok : aIY X.K r) (i : Nat) {s : Int × List D} (hr : ρ[i]? = some (.val (.adr r.p))) (hN : N[i]? = some x := by rfl) (hv : aDQ sc x = true := by rfl) (hx : qS x = true := by rfl) (hb : attributeBase (.Name x py) "done" X.env (eval (.Name x py) X.env) = eval (.Name x py) X.env := by rfl) :
  EvEZ (RdS r) X ρ (.Attribute (.Name x py) "done" pos) (.int s.1) s s := fun B F H σ Q c l k w => .mk fun pins st I =>
 aTE yU hb pins st σ H Q I (eLD t hr hN hv hx k ⟨r.p, r.C, r.dx, _, .int c.1, rfl, l.now k _ _ RdS.atP, ok.cls, ok.n2, rfl, w _ F H c ((Ext.refl k.sub).toZ (l.now k)) l.rep (by rw [l.rep.1]; exact .int _)⟩)
theorem eIT {c c' : Int × List V} {H : Hp} (ok : r.q ≠ r.p) (h : ∀ a u, (RdS r).ov c a = some u -> H a = some u) (hc : c'.2 = c.2) : ovH ((RdS r).ov c') H = upd H r.p (eKD r c'.1) := funext fun a => by
 by_cases h1 : a = r.p
 ·subst h1; rw [aDW RdS.atP, yK]
 ·rw [yI h1]
  by_cases h2 : a = r.q
  ·subst h2; rw [aDW (RdS.atQ ok), h _ _ (RdS.atQ ok), hc]
  ·exact qW (show (if a = r.p then _ else if a = r.q then _ else _) = _ by rw [if_neg h1, if_neg h2])
theorem eIS {c c' : Int × List V} {H : Hp} (ok : r.q ≠ r.p) (h : ∀ a u, (RdS r).ov c a = some u -> H a = some u) (hc : c'.1 = c.1) : ovH ((RdS r).ov c') H = upd H r.q (.lst c'.2) := funext fun a => by
 by_cases h1 : a = r.p
 ·subst h1; rw [aDW RdS.atP, yI (Ne.symm ok), h _ _ RdS.atP, hc]
 ·by_cases h2 : a = r.q
  ·subst h2; rw [aDW (RdS.atQ ok), yK]
  ·rw [yI h2]
   exact qW (show (if a = r.p then _ else if a = r.q then _ else _) = _ by rw [if_neg h1, if_neg h2])
theorem eEV (t : At X N sc) (ok : aIY X.K r) (i : Nat) {m : Int} (hr : ρ[i]? = some (.val (.adr r.p))) (he : EvE X ρ e (.int m)) (hN : N[i]? = some x := by rfl) (hv : aDQ sc x = true := by rfl) (hx : qS x = true := by rfl) :
  aSD (RdS r) X ρ (.AugAssign (.Attribute (.Name x py) "done" ps) .Add e pos) (.nx ρ) (n, xs) (n + m, xs) := fun B F H σ E c l k w => .mk fun pins st I =>
 aWV (op := .Add) (rd := ePD) yU yU (fun pins s σ H x y u v Q I rx ry h => by
  obtain ⟨i, j, rfl, rfl, q⟩ := h
  obtain ⟨t1, rfl⟩ := rx
  obtain ⟨t2, rfl⟩ := ry
  exact iadd_int ⟨.int (i + j), H, I.tok _, ⟨_, rfl⟩, q⟩) pins st σ H E I (eLD t hr hN hv hx k ⟨r.p, r.C, r.dx, _, .int c.1, rfl, l.now k _ _ RdS.atP, ok.cls, ok.n2, rfl, he B F H σ _ k fun v F1 H1 x1 r1 => by
   cases r1
   have k1 := k.ext x1
   have l1 : Ln (RdS r) X.K B F1 c (n, xs) := l.ext x1
   refine ⟨c.1, m, rfl, rfl, r.dx, _, l1.now k1 _ _ RdS.atP, Nat.le_of_ble_eq_true rfl, ?_⟩
   have e1 : c.1 = n := l.rep.1
   have hq := w F1 (ovH ((RdS r).ov (c.1 + m, c.2)) H1) σ (c.1 + m, c.2) (k1.chgZ l1) ⟨by rw [e1], l1.rep.2⟩ x1.sf
   rw [eIT (c := c) (c' := (c.1 + m, c.2)) ok.ne (l1.now k1) rfl] at hq
   exact hq⟩)
theorem aHK (t : At X N sc) (ok : aIY X.K r) (i : Nat) {s s1 : Int × List D} (hr : ρ[i]? = some (.val (.adr r.p))) (he : EvEZ (RdS r) X ρ e d s s1) (hz : s1.2.length < sizeLine) (hN : N[i]? = some x := by rfl) (hv : aDQ sc x = true := by rfl) (hx : qS x = true := by rfl) (hb : attributeBase (.Name x py) "steps" X.env (eval (.Name x py) X.env) = eval (.Name x py) X.env := by rfl)
  (hb2 : attributeBase (.Attribute (.Name x py) "steps" ps) "append" X.env (eval (.Attribute (.Name x py) "steps" ps) X.env) = eval (.Attribute (.Name x py) "steps" ps) X.env := by rfl)
  (hs : starEach [e] X.env = (false, eval e X.env) :: starEach [] X.env := by rfl) (hline : (apos.endLine == cpos.line) = true := by rfl) (hpl : (backTo cpos (starEach [] X.env)).any (·.1) = false := by rfl)
  (hfew : ((backTo cpos (starEach [e] X.env)).all (fun x => !x.1) && (backToKw cpos (keywordEach [] X.env)).all (fun x => x.1.isSome) && decide (([e] : List Expr).length + ([] : List Keyword).length + (if ([] : List Keyword).isEmpty then 0 else 1) < 30)) = true := by rfl)
  (hsw : swapsWith (.Call (.Attribute (.Attribute (.Name x py) "steps" ps) "append" apos) [e] [] cpos) none pos.line X.env = pure false := by rfl) :
  aSD (RdS r) X ρ (.Expr (.Call (.Attribute (.Attribute (.Name x py) "steps" ps) "append" apos) [e] [] cpos) pos) (.nx ρ) s (s1.1, s1.2 ++ [d]) := fun B F H σ E c l k w => .mk fun pins st I =>
 aDV (eBA PySem.F.plainAttrs_list PySem.F.slot_list_append PySem.F.type_list_append aEN (aTE yU hb) (zC yU jW hs) hb2 hfew hline hs hpl) hsw pins st σ H E I
  (eLD t hr hN hv hx k ⟨r.p, r.C, r.dx, _, .ref r.q, rfl, l.now k _ _ RdS.atP, ok.cls, ok.n3, rfl, .inl ⟨rfl, _, SqL.of (l.now k _ _ (RdS.atQ ok.ne))⟩, he B F H σ _ c l k fun v F1 H1 c1 x1 r1 rv => by
   have k1 := k.extZ l x1
   have l1 : Ln (RdS r) X.K (UpZ (RdS r) B c1) F1 c1 s1 := l.up r1
   refine ⟨r.q, c1.2, v, rfl, rfl, l1.now k1 _ _ (RdS.atQ ok.ne), by rw [r1.2.1.length]; exact hz, ?_⟩
   have k2 : Ok X.K (UpZ (RdS r) (UpZ (RdS r) B c1) (c1.1, c1.2 ++ [v])) F1 (ovH ((RdS r).ov (c1.1, c1.2 ++ [v])) H1) σ ρ := k1.chgZ l1
   have e1 : UpZ (RdS r) (UpZ (RdS r) B c1) (c1.1, c1.2 ++ [v]) = UpZ (RdS r) B (c1.1, c1.2 ++ [v]) := UpZ.up (S := RdS r)
   rw [e1, eIS (c := c1) (c' := (c1.1, c1.2 ++ [v])) ok.ne (l1.now k1) rfl] at k2
   exact w F1 _ σ (c1.1, c1.2 ++ [v]) k2 ⟨r1.1, r1.2.1.append (.cons rv .nil), r1.2.2⟩ x1.sf⟩)
end
section
variable {S : LS} {X : Cx} {ρ : Rho} {e a b : Expr} {d : D} {s s1 s' : S.ds} {pos p py : Pos} {N : List Str} {sc : Scope} {x : Str} {xs : List D}
theorem aYL (t : At X N sc) (bl : Blt X sc x (.builtin "len")) (ha : EvEZ S X ρ e (.lst xs) s s') (hpe : Pl e := by intro _ _; rfl) : EvEZ S X ρ (.Call (.Name x p) [e] [] pos) (.int xs.length) s s' := fun B F H σ Q c l k w => .mk fun pins st I =>
 aDB aFW (wK t bl.g) bl.m bl.v (zC yU jW (hpe _ _)) bl.n bl.d (hpe _ _) rfl pins st σ H Q I (ha B F H σ _ c l k fun v F1 H1 c1 x1 r1 rv => by
  cases rv with
  | lst hf rl => exact ⟨_, _, rfl, .inl (SqL.of (x1.sub _ _ hf)), by rw [rl.length]; exact w _ F1 H1 c1 x1 r1 (.int _)⟩)
theorem eKL {i : Int} (ha : EvEZ S X ρ a (.lst xs) s s1) (hb : EvEZ S X ρ b (.int i) s1 s') (h : atI xs i = some d) (hs : aIZ b := by intro _ _; rfl) : EvEZ S X ρ (.Subscript a b pos) d s s' := fun B F H σ Q c l k w => .mk fun pins st I =>
 eAZ aXX yU yU hs pins st σ H Q I (eHM ha hb l k fun x y F' H' c' x' r' rx ry => by
  cases ry
  cases rx with
  | lst hf rl =>
   obtain ⟨z, h1, h2⟩ := rl.at h
   exact ⟨_, _, i, z, rfl, rfl, SqL.of (x'.sub _ _ hf), h1, w z F' H' c' x' r' h2⟩)
end
def spR (K : PySem.W.Frag) (C : List Str -> List D -> Int × List D -> D -> Int × List D -> Prop) : Sp := fun vs H Q _ => ∃ (r : aJF) (F : Hp) (ds : List D) (d : D) (c : Int × List V) (s s' : Int × List D), Same F H /\ aIY K r /\ (∀ a u, (RdS r).ov c a = some u -> H a = some u) /\ (∀ a u, (RdS r).ov c a = some u -> F a = none) /\ (RdS r).rep K F c s /\ RepL K F vs (.adr r.p :: ds) /\ C r.toks ds s d s' /\
 ∀ v F' H' c', Ext (UpZ (RdS r) ⟨F, H⟩ c') F' H' -> (RdS r).rep K F' c' s' -> Rep K F' v d -> Q v H'
def zV (X : Cx) (x : Str) (C : List Str -> List D -> Int × List D -> D -> Int × List D -> Prop) : Prop := ∃ (f : Addr) (fd : FuncData) (ps : List Str) (k : Nat), qU X.prog X.w X.K X.mg X.base CX0 k f fd ps (spR X.K C) /\ Room k X.A /\ X.mg x = some (.ref f) /\ PySem.W.keepIn X.K (.ref f) = true /\ Binds X.K fd ps []
section
variable {X : Cx} {ρ : Rho} {e : Expr} {es : List Expr} {d : D} {ds : List D} {pos p : Pos} {N : List Str} {sc : Scope} {x : Str} {r : aJF} {s s1 s' : Int × List D}
theorem aER {P : Program} (htree : P.given.tree = none) {w : World} {K : PySem.W.Frag} {mg : Str -> Option Value} {base : Heap} {x qual : Str} {st : Stmt} {f : Addr} {fd : FuncData} {N ps : List Str} {k : Nat} {C : List Str -> List D -> Int × List D -> D -> Int × List D -> Prop} (F : Fun K x qual st f fd) (S : yL N ps (yB st))
  (len : ∀ ts ds s d s', C ts ds s d s' -> ds.length + 1 = ps.length)
  (body : ∀ X, DefX P w K mg base k N (yB st) X -> ∀ (r : aJF), aIY X.K r -> ∀ ds s d s', C r.toks ds s d s' -> EvZ (RdS r) X (.val (.adr r.p) :: ds.map Sl.val ++ List.replicate (N.length - (ds.length + 1)) Sl.un) (yF st) (.rt d) s s' \/ (d = .non /\ ∃ ρ', EvZ (RdS r) X (.val (.adr r.p) :: ds.map Sl.val ++ List.replicate (N.length - (ds.length + 1)) Sl.un) (yF st) (.nx ρ') s s')) : qU P w K mg base CX0 (k + 1) f fd ps (spR K C) := by
 refine F.ok S (fun vs H Q E h => ?_) (fun cdv A outer s H vs Q E hr h => ?_)
 ·obtain ⟨r, F', ds, d, c, s, s', sub, ok, h1, h2, h3, rv, hC, q⟩ := h
  rw [rv.length]; exact len r.toks ds s d s' hC
 ·obtain ⟨r, F', ds, d, c, s1, s', sub, ok, h1, h2, h3, rv, hC, q⟩ := h
  refine ⟨_, vD, ?_⟩
  have hx : DefX P w K mg base k N (yB st) (aVA CX0 P w K mg base N qual (yB st) f cdv A outer s H E).nox :=
   ⟨⟨rfl, rfl, rfl, S.nd, rfl, hr.units, hr.dp100, htree, ⟨_, _, rfl, S.gen, S.co, rfl, rfl⟩⟩, rfl, rfl, rfl, rfl, rfl, hr, ⟨fun _ => rfl⟩, rfl, rfl⟩
  have hk : Ok K ⟨F', H⟩ F' H (start N vs) (.val (.adr r.p) :: ds.map Sl.val ++ List.replicate (N.length - (ds.length + 1)) Sl.un) := by
   unfold start
   rw [rv.length]
   exact aDC sub rv _
  rcases body _ hx r ok ds s1 d s' hC with hb | ⟨rfl, ρ', hb⟩
  ·exact hb ⟨F', H⟩ F' H _ _ c ⟨h1, h2, h3⟩ hk fun v F2 H2 c2 x2 r2 rv => q v F2 H2 c2 x2 r2 rv
  ·exact hb ⟨F', H⟩ F' H _ _ c ⟨h1, h2, h3⟩ hk fun F2 H2 σ2 c2 k2 r2 s2 => q .non F2 H2 c2 k2.toExt r2 .non
theorem DefX.calleeR {P : Program} {w : World} {K : PySem.W.Frag} {mg : Str -> Option Value} {base : Heap} {k j : Nat} {f : Addr} {fd : FuncData} {ps : List Str} {C : List Str -> List D -> Int × List D -> D -> Int × List D -> Prop} (h : DefX P w K mg base k N sc X)
  (F : qU P w K mg base CX0 j f fd ps (spR K C)) (hj : j <= k) (hm : mg x = some (.ref f)) (hk : PySem.W.keepIn K (.ref f) = true) (hb : Binds K fd ps []) : zV X x C := by
 obtain ⟨h0, rfl, rfl, rfl, rfl, rfl, hr, _⟩ := h
 exact ⟨f, fd, ps, j, F, hr.mono hj, hm, hk, hb⟩
theorem jT (t : At X N sc) (ok : aIY X.K r) {C : List Str -> List D -> Int × List D -> D -> Int × List D -> Prop} (h : zV X x C) (ha : eLP (RdS r) X ρ (e :: es) (.adr r.p :: ds) s s1) (hC : C r.toks ds s1 d s') (hg : sc.names.lookup x = some .globalImplicit := by rfl) (hdb : (x == ("__debug__" : Str)) = false := by rfl) :
  EvEZ (RdS r) X ρ (.Call (.Name x p) (e :: es) [] pos) d s s' := fun B F0 H σ Q c l k w => .mk fun pins st I => by
 obtain ⟨f, fd, ps, kk, F, hr', hm, hk, hb⟩ := h
 have pz : aCL CX0 X E0 := aQW
 refine aFC F hr' (wK t hg) hm hk hb .nil pz aVO hdb (ha.1.1 _ _) (PlA.any ha.1.2) pins st σ H Q I (ha.2 B F0 H σ _ c l k fun vs F1 H1 c1 x1 r1 rv => ?_)
 have k1 := k.extZ l x1
 have l1 : Ln (RdS r) X.K (UpZ (RdS r) B c1) F1 c1 s1 := l.up r1
 refine ⟨r, F1, ds, d, c1, s1, s', k1.sub, ok, l1.now k1, l1.ff k1, r1, by rw [List.append_nil]; exact rv, hC, fun v F2 H2 c2 x2 r2 rv2 => w v F2 H2 c2 (x1.tZ (l.ff k) x2) r2 rv2⟩
end
section
variable {S : LS} {K : PySem.W.Frag} {B : B0} {F H : Hp} {σ : St} {ρ : Rho} {c c1 : S.cs}
theorem Ok.pin (k : Ok K B F H σ ρ) (hb : ∀ a u, S.ov c a = some u -> B.H a = none) (hh : ∀ a u, S.ov c a = some u -> H a = some u) (hf : ∀ a u, S.ov c a = some u -> F a = none)
  (ho : ∀ (i : Nat) xs a, ρ[i]? = some (.own xs) -> σ[i]? = some (some (.ref a)) -> S.ov c a = none) (hd : ∀ (i : Nat) xs a, ρ[i]? = some (.dct xs) -> σ[i]? = some (some (.ref a)) -> S.ov c a = none) : Ok K (UpZ S B c) F H σ ρ := by
 refine ⟨⟨k.sub, fun b u q => ?_, k.sf, fun a q => ?_⟩, k.len, k.vals, fun i ys h => ?_, k.dist, ⟨fun i kvs h => ?_, k.dic.distD⟩⟩
 ·have q' : ovH (S.ov c) B.H b = some u := q
  cases e : S.ov c b with
  | some v => rw [aDW e] at q'; cases q'; exact hh b _ e
  | none => rw [qW e] at q'; exact k.sh b u q'
 ·rcases k.nw a q with z | z
  ·exact .inl z
  ·refine .inr ?_
   show ovH (S.ov c) B.H a = none
   cases e : S.ov c a with
   | some v => exact absurd (hf a v e) q
   | none => rw [qW e]; exact z
 ·obtain ⟨a, vs, h1, h2, h3, h4, h5⟩ := k.owns i ys h
  exact ⟨a, vs, h1, h2, h3, by show ovH (S.ov c) B.H a = none; rw [qW (ho i ys a h h1)]; exact h4, h5⟩
 ·obtain ⟨a, es, h1, h2, h3, h4, h5⟩ := k.dic.dcts i kvs h
  exact ⟨a, es, h1, h2, h3, by show ovH (S.ov c) B.H a = none; rw [qW (hd i kvs a h h1)]; exact h4, h5⟩
theorem Ext.unpin (x : Ext (UpZ S B c1) F H) (hb : ∀ a u, S.ov c1 a = some u -> B.H a = none) : Ext B F H := by
 refine ⟨x.sub, fun b u q => ?_, x.sf, fun a q => ?_⟩
 ·refine x.sh b u ?_
  show ovH (S.ov c1) B.H b = some u
  cases e : S.ov c1 b with
  | some v => rw [hb b v e] at q; cases q
  | none => rw [qW e]; exact q
 ·rcases x.nw a q with z | z
  ·exact .inl z
  ·refine .inr ?_
   have z' : ovH (S.ov c1) B.H a = none := z
   cases e : S.ov c1 a with
   | some v => rw [aDW e] at z'; cases z'
   | none => rw [qW e] at z'; exact z'
end
def ePT (K : PySem.W.Frag) (F H F' H' : Hp) (r : aJF) : Prop := aIY K r /\ Ext ⟨F, H⟩ F' H' /\ H r.p = none /\ H r.q = none /\ H' r.p = some (eKD r 0) /\ H' r.q = some (.lst []) /\ F' r.p = none /\ F' r.q = none /\ F' r.l = some (.lst (r.toks.map V.str))
def eLG (K : PySem.W.Frag) (C : List D -> List Str -> Prop) : Sp := fun vs H Q _ => ∃ F ds toks, Same F H /\ RepL K F vs ds /\ C ds toks /\ ∀ r F' H', r.toks = toks -> ePT K F H F' H' r -> Q (.ref r.p) H'
def aNS (X : Cx) (x : Str) (C : List D -> List Str -> Prop) : Prop := ∃ (f : Addr) (fd : FuncData) (ps : List Str) (k : Nat), qU X.prog X.w X.K X.mg X.base CX0 k f fd ps (eLG X.K C) /\ Room k X.A /\ X.mg x = some (.ref f) /\ PySem.W.keepIn X.K (.ref f) = true /\ Binds X.K fd ps []
def aVL (X : Cx) (ρ : Rho) (sts : List Stmt) (toks : List Str) : Prop := ∀ (B : B0) (F H : Hp) (σ : St) (E : aFO), Ok X.K B F H σ ρ -> (∀ r F' H', r.toks = toks -> aIY X.K r -> Ext B F' H' -> B.H r.p = none -> B.H r.q = none -> H' r.p = some (eKD r 0) -> H' r.q = some (.lst []) -> F' r.p = none -> F' r.q = none -> F' r.l = some (.lst (toks.map V.str)) -> E.rt (.ref r.p) H') -> wSs X sts E σ H
section
variable {X : Cx} {ρ ρ' : Rho} {e b : Expr} {es : List Expr} {d : D} {ds : List D} {pos p py pos' cpos : Pos} {N : List Str} {sc : Scope} {x y : Str} {toks : List Str} {st : Stmt} {qZ body : List Stmt} {r : aJF}
theorem aGV (h1 : EvS X ρ st (.nx ρ')) (h2 : aVL X ρ' qZ toks) : aVL X ρ (st :: qZ) toks := fun B F H σ E k q => .mk fun pins s I =>
 wY eAF vD pins s σ H E I (h1 B F H σ _ k fun F1 H1 σ1 k1 s1 => h2 B F1 H1 σ1 E k1 q)
theorem eGC {P : Program} (htree : P.given.tree = none) {w : World} {K : PySem.W.Frag} {mg : Str -> Option Value} {base : Heap} {x qual : Str} {st : Stmt} {f : Addr} {fd : FuncData} {N ps : List Str} {k : Nat} {C : List D -> List Str -> Prop} (F : Fun K x qual st f fd) (S : yL N ps (yB st))
  (len : ∀ ds ts, C ds ts -> ds.length = ps.length)
  (body : ∀ X, DefX P w K mg base k N (yB st) X -> ∀ ds ts, C ds ts -> aVL X (ds.map Sl.val ++ List.replicate (N.length - ds.length) Sl.un) (yF st) ts) : qU P w K mg base CX0 (k + 1) f fd ps (eLG K C) := by
 refine F.ok S (fun vs H Q E h => ?_) (fun cdv A outer s H vs Q E hr h => ?_)
 ·obtain ⟨F', ds, ts, sub, rv, hC, q⟩ := h
  rw [rv.length]; exact len ds ts hC
 ·obtain ⟨F', ds, ts, sub, rv, hC, q⟩ := h
  refine ⟨_, vD, ?_⟩
  have hx : DefX P w K mg base k N (yB st) (aVA CX0 P w K mg base N qual (yB st) f cdv A outer s H E).nox :=
   ⟨⟨rfl, rfl, rfl, S.nd, rfl, hr.units, hr.dp100, htree, ⟨_, _, rfl, S.gen, S.co, rfl, rfl⟩⟩, rfl, rfl, rfl, rfl, rfl, hr, ⟨fun _ => rfl⟩, rfl, rfl⟩
  have hb := body _ hx ds ts hC
  have hk : Ok K ⟨F', H⟩ F' H (start N vs) (ds.map Sl.val ++ List.replicate (N.length - ds.length) Sl.un) := by
   unfold start
   rw [rv.length]
   exact aDC sub rv _
  exact hb ⟨F', H⟩ F' H _ _ hk fun r F2 H2 e ok x2 h1 h2 h3 h4 h5 h6 h7 => q r F2 H2 e ⟨ok, x2, h1, h2, h3, h4, h5, h6, by rw [e]; exact h7⟩
theorem DefX.calleeRN {P : Program} {w : World} {K : PySem.W.Frag} {mg : Str -> Option Value} {base : Heap} {k j : Nat} {f : Addr} {fd : FuncData} {ps : List Str} {C : List D -> List Str -> Prop} (h : DefX P w K mg base k N sc X)
  (F : qU P w K mg base CX0 j f fd ps (eLG K C)) (hj : j <= k) (hm : mg x = some (.ref f)) (hk : PySem.W.keepIn K (.ref f) = true) (hb : Binds K fd ps []) : aNS X x C := by
 obtain ⟨h0, rfl, rfl, rfl, rfl, rfl, hr, _⟩ := h
 exact ⟨f, fd, ps, j, F, hr.mono hj, hm, hk, hb⟩
theorem eGN [FnT X] (t : At X N sc) (i : Nat) {C : List D -> List Str -> Prop} (h : aNS X x C) (ha : EvA X ρ (e :: es) ds) (hC : C ds toks) (hrest : ∀ r : aJF, aIY X.K r -> r.toks = toks -> ∃ s', EvZ (RdS r) X (ρ.set i (.val (.adr r.p))) qZ (.rt d) (0, []) s')
  (hg : sc.names.lookup x = some .globalImplicit := by rfl) (hdb : (x == ("__debug__" : Str)) = false := by rfl) (hi : N[i]? = some y := by rfl) (hx : aPZ sc y = true := by rfl) (hs : swapsWith (.Call (.Name x p) (e :: es) [] cpos) (some (.Name y pos')) pos.line X.env = pure false := by rfl) :
  EvSs X ρ (.Assign [.Name y pos'] (.Call (.Name x p) (e :: es) [] cpos) pos :: qZ) (.rt d) := fun B F0 H σ E k w => .mk fun pins s I => by
 obtain ⟨f, fd, ps, kk, F, hr', hm, hk, hb⟩ := h
 have pz : aCL CX0 X E0 := aQW
 refine wY eAF vD pins s σ H E I (.mk fun pins s I => aKM (i := i) t.nd (t.ix hi) (t.loc hx) (aFC F hr' (wK t hg) hm hk hb .nil pz aVO hdb (ha.1.1 _ _) (PlA.any ha.1.2)) hs hfT pins s σ H _ I (ha.2 B F0 H σ _ k fun vs F1 H1 x1 r1 => ?_))
 refine ⟨F1, ds, toks, x1.sub, by rw [List.append_nil]; exact r1, hC, fun r F2 H2 et nr => ?_⟩
 obtain ⟨ok, x2, n1, n2, h1, h2, f1, f2, hl⟩ := nr
 have k1 := k.ext x1
 have k2 := (k1.ext x2).setVal i (.adr r.p : Rep X.K F2 (.ref r.p) (.adr r.p))
 have dm : ∀ a u, (RdS r).ov ((0 : Int), ([] : List V)) a = some u -> H1 a = none /\ H2 a = some u /\ F2 a = none := fun a u z => by
  by_cases e1 : a = r.p
  ·subst e1; rw [RdS.atP] at z; cases z; exact ⟨n1, h1, f1⟩
  ·by_cases e2 : a = r.q
   ·subst e2; rw [RdS.atQ ok.ne] at z; cases z; exact ⟨n2, h2, f2⟩
   ·rw [show (RdS r).ov ((0 : Int), ([] : List V)) a = none from (show (if a = r.p then _ else if a = r.q then _ else _) = _ by rw [if_neg e1, if_neg e2])] at z; cases z
 have hb0 : ∀ (c : (RdS r).cs) a u, (RdS r).ov c a = some u -> B.H a = none := fun c a u z => by
  obtain ⟨v, hv⟩ := LS.has z ((0 : Int), ([] : List V))
  exact k1.sh.free (dm a v hv).1
 have no : ∀ (j : Nat) xs a, (ρ.set i (.val (.adr r.p)))[j]? = some (.own xs) -> (σ.set i (some (.ref r.p)))[j]? = some (some (.ref a)) -> (RdS r).ov ((0 : Int), ([] : List V)) a = none := fun j xs a q1 q2 => by
  obtain ⟨hne, q1'⟩ := wN j _ q1 (fun z => nomatch z)
  rw [List.getElem?_set_ne hne] at q2
  obtain ⟨a', vs', g1, g2, _⟩ := k1.owns j xs q1'
  rw [g1] at q2; cases q2
  cases e : (RdS r).ov ((0 : Int), ([] : List V)) a with
  | none => rfl
  | some u => rw [(dm a u e).1] at g2; cases g2
 have nd : ∀ (j : Nat) xs a, (ρ.set i (.val (.adr r.p)))[j]? = some (.dct xs) -> (σ.set i (some (.ref r.p)))[j]? = some (some (.ref a)) -> (RdS r).ov ((0 : Int), ([] : List V)) a = none := fun j xs a q1 q2 => by
  obtain ⟨hne, q1'⟩ := wN j _ q1 (fun z => nomatch z)
  rw [List.getElem?_set_ne hne] at q2
  obtain ⟨a', vs', g1, g2, _⟩ := k1.dic.dcts j xs q1'
  rw [g1] at q2; cases q2
  cases e : (RdS r).ov ((0 : Int), ([] : List V)) a with
  | none => rfl
  | some u => rw [(dm a u e).1] at g2; cases g2
 have k3 : Ok X.K (UpZ (RdS r) B ((0 : Int), ([] : List V))) F2 H2 (σ.set i (some (.ref r.p))) (ρ.set i (.val (.adr r.p))) := k2.pin (S := RdS r) (c := ((0 : Int), ([] : List V))) (fun a u z => hb0 _ a u z) (fun a u z => (dm a u z).2.1) (fun a u z => (dm a u z).2.2) no nd
 obtain ⟨s', hz⟩ := hrest r ok et
 refine hz (UpZ (RdS r) B ((0 : Int), ([] : List V))) F2 H2 _ E ((0 : Int), ([] : List V)) ⟨fun a u z => aDW z, fun a u z => ?_, ⟨rfl, .nil, hl⟩⟩ k3 fun v F3 H3 c3 x3 r3 rv => ?_
 ·cases eb : B.F a with
  | none => exact eb
  | some o =>
   have := k3.sf a o eb
   rw [(dm a u z).2.2] at this; cases this
 ·have e3 : UpZ (RdS r) (UpZ (RdS r) B ((0 : Int), ([] : List V))) c3 = UpZ (RdS r) B c3 := UpZ.up (S := RdS r)
  rw [e3] at x3
  exact w v F3 H3 (x3.unpin fun a u z => hb0 c3 a u z) rv
end
def aSR (C : Addr) : Sp := fun vs H Q _ => ∃ x dx l, vs = [.ref x, .ref l] /\ H x = some (.ins C dx []) /\ ∀ q H', H q = none -> q ≠ x -> H' = upd (upd H q (.lst [])) x (.ins C dx [("tokens", .ref l), ("done", .int 0), ("steps", .ref q)]) -> Q .non H'
structure MkR (X : Cx) (x : Str) (C : Addr) : Prop where
 fn : ∃ (f : Addr) (fd : FuncData) (ps : List Str) (k : Nat), Mk X.K C f /\ qU X.prog X.w X.K X.mg X.base CX0 k f fd ps (aSR C) /\ Room (k + 1) X.A /\ Binds X.K fd ps []
 m : X.mg x = some (.ref C)
 cls : Cls X.K C
 n1 : NoAttr X.K C "tokens"
 n2 : NoAttr X.K C "done"
 n3 : NoAttr X.K C "steps"
theorem aQF {K : PySem.W.Frag} {F : Hp} : ∀ {ts : List Str} {vs : List V}, RepL K F vs (ts.map D.str) -> vs = ts.map V.str
 | [], _, h => by cases h; rfl
 | t :: ts, _, h => by
  cases h with
  | cons r q => cases r; rw [List.map_cons, aQF q]
section
variable {X : Cx} {ρ ρ' : Rho} {e a b : Expr} {es : List Expr} {d : D} {ds xs xs' : List D} {pos p py ps cpos : Pos} {N : List Str} {sc : Scope} {x y : Str} {toks : List Str} {r : aJF} {body : List Stmt} {tg : Expr}
theorem eBK (t : At X N sc) {C : Addr} (M : MkR X x C) (h : EvE X ρ e (.lst (toks.map D.str))) (hg : sc.names.lookup x = some .globalImplicit := by rfl) (hdb : (x == ("__debug__" : Str)) = false := by rfl) (hpe : Pl e := by intro _ _; rfl) :
  aVL X ρ [.Return (some (.Call (.Name x p) [e] [] cpos)) pos] toks := fun B F H σ E k w => .mk fun pins s I => by
 obtain ⟨f, fd, ps, kk, mk, fo, hr, hb⟩ := M.fn
 have pz : aCL CX0 X E0 := aQW
 refine aDU (aOK (eFI mk fo hr (wK t hg) M.m hb .nil pz (zC yU jW (hpe _ _)) hdb (hpe _ _) rfl)) pins s σ H E I (h B F H σ _ k fun v F1 H1 x1 r1 => ?_)
 intro x0 dx hx hdx hne
 cases r1 with
 | @lst l vs _ hf rl =>
 have ev := aQF rl
 subst ev
 refine ⟨x0, dx, l, rfl, by rw [yK], fun q H' hq hqx eH => ⟨rfl, ?_⟩⟩
 rw [yI hqx] at hq
 have hqd : q ≠ dx := fun z => by subst z; rw [yK] at hq; cases hq
 rw [yI hqd] at hq
 have k1 := k.ext x1
 have x2 : Ext ⟨F1, H1⟩ F1 H' := by
  refine ⟨fun b u z => ?_, fun b u z => ?_, .refl _, fun a z => .inl z⟩
  ·have z' := x1.sub b u z
   rw [eH, yI (fun e => by subst e; rw [hx] at z'; cases z'), yI (fun e => by subst e; rw [hq] at z'; cases z'), yI (fun e => by subst e; rw [hx] at z'; cases z'), yI (fun e => by subst e; rw [hdx] at z'; cases z')]
   exact z'
  ·have z' : H1 b = some u := z
   rw [eH, yI (fun e => by subst e; rw [hx] at z'; cases z'), yI (fun e => by subst e; rw [hq] at z'; cases z'), yI (fun e => by subst e; rw [hx] at z'; cases z'), yI (fun e => by subst e; rw [hdx] at z'; cases z')]
   exact z'
 refine w ⟨C, x0, dx, q, l, toks⟩ F1 H' rfl ⟨M.cls, M.n1, M.n2, M.n3, hqx⟩ (k1.toExt.trans x2) (k1.sh.free hx) (k1.sh.free hq) (by rw [eH, yK]; rfl) (by rw [eH]; show upd _ x0 _ q = _; rw [yI hqx, yK]) (x1.sub.free hx) (x1.sub.free hq) hf
theorem eAJ (t : At X N sc) (ok : aIY X.K r) (i : Nat) {s : Int × List D} (hr : ρ[i]? = some (.val (.adr r.p))) (h : FRun X tg body s.2 ρ (.nx ρ')) (hN : N[i]? = some x := by rfl) (hv : aDQ sc x = true := by rfl) (hx : qS x = true := by rfl) (hb : attributeBase (.Name x py) "steps" X.env (eval (.Name x py) X.env) = eval (.Name x py) X.env := by rfl)
  (hs : ∀ z, foldedSetIterable (.Attribute (.Name x py) "steps" ps) X.env z = pure z := by intro _; rfl) : aSD (RdS r) X ρ (.For tg (.Attribute (.Name x py) "steps" ps) body [] pos) (.nx ρ') s s := fun B F H σ E c l k q => .mk fun pins w I =>
 eCL t.pass t.calm (aXH (aTE yU hb)) eLJ vD hs pins w σ H E I (eLD t hr hN hv hx k ⟨r.p, r.C, r.dx, _, .ref r.q, rfl, l.now k _ _ RdS.atP, ok.cls, ok.n3, rfl, r.q, rfl, ⟨_, SqL.of (l.now k _ _ (RdS.atQ ok.ne))⟩, by
  refine ⟨fun i m σ H => ∃ ρ1 F1, Ok X.K B F1 H σ ρ1 /\ Same F F1 /\ FRun X tg body (s.2.drop i) ρ1 (.nx ρ') /\ m = s.2.length - i, ⟨s.2.length, ρ, F, k, .refl _, by simpa using h, by simp⟩, ?_⟩
  rintro i m σ H ⟨ρ1, F1, k1, sf, run, rfl⟩
  have hq : H r.q = some (.lst c.2) := k1.sh _ _ (l.st _ _ (RdS.atQ ok.ne))
  have rl : RepL X.K F1 c.2 s.2 := l.rep.2.1.mono sf
  generalize e1 : s.2.drop i = qZ at run
  cases run with
  | nil =>
   have hl : s.2.length <= i := by
    have := congrArg List.length e1
    rw [List.length_drop, List.length_nil] at this
    omega
   refine .inl ⟨⟨c.2, SqL.of hq, by rw [rl.length]; exact hl⟩, q F1 H σ c (by rw [UpZ.same l.st]; exact k1) (S_mono l sf) sf⟩
  | @cons d0 ds0 _ ρa ρb _ g bd rr =>
   obtain ⟨hd, hrest, hlt⟩ := aBP e1
   obtain ⟨v, hv1, rv⟩ := rl.get hd
   refine .inr ⟨⟨c.2, v, SqL.of hq, hv1⟩, fun σ' H' => ∃ F'', Ok X.K B F'' H' σ' ρb /\ Same F F'', fun σ' H' ⟨F'', k'', s''⟩ => ⟨s.2.length - (i + 1), by omega, _, F'', k'', s'', by rw [hrest]; exact rr, rfl⟩, fun xv H' y => ?_⟩
   obtain ⟨rfl, y⟩ := y
   have ex := y c.2 (SqL.of hq)
   rw [hv1] at ex; cases ex
   exact g B F1 H' σ v _ k1 rv fun F3 H3 σ3 k3 s3 => bd B F3 H3 σ3 _ k3 fun F4 H4 σ4 k4 s4 => ⟨F4, k4, sf.trans (s3.trans s4)⟩⟩)
where
 S_mono {B : B0} {F F1 : Hp} {c : (RdS r).cs} {s : Int × List D} (l : Ln (RdS r) X.K B F c s) (sf : Same F F1) : (RdS r).rep X.K F1 c s := (RdS r).mono sf l.rep
end
section
variable {X : Cx} {ρ ρ' ρ1 : Rho} {q : Addr} {xs xs1 xs' ds : List D} {e a b : Expr} {es : List Expr} {d d0 : D} {pos p py ps cpos apos : Pos} {N : List Str} {sc : Scope} {x y : Str}
theorem aCU (t : At X N sc) (i : Nat) (hr : ρ[i]? = some (.val (.adr q))) (hxs : xs = xs' ++ [d]) (hN : N[i]? = some x := by rfl) (hv : aDQ sc x = true := by rfl) (hx : qS x = true := by rfl) (hline : (apos.endLine == cpos.line) = true := by rfl) :
  eHH X q ρ (.Call (.Attribute (.Name x py) "pop" apos) [] [] cpos) d xs xs' := fun B F H σ Q us l k w => .mk fun pins s I => by
 subst hxs
 refine aXJ PySem.F.plainAttrs_list PySem.F.slot_list_pop PySem.F.type_list_pop eCY yU rfl hline pins s σ H Q I ?_
 refine eDU t hr hN hv hx k ?_
 have h2 : H q = some (.lst us) := k.sh _ _ l.st
 refine ⟨.inl ⟨rfl, _, SqL.of h2⟩, ?_⟩
 have hl := l.rep.length
 obtain ⟨v, hw, rw'⟩ := l.rep.get (i := xs'.length) (d := d) (by simp)
 have hll : us.length - 1 = xs'.length := by rw [hl]; simp
 refine ⟨q, us, v, rfl, rfl, h2, by rw [hll]; exact hw, ?_⟩
 have hf := l.ff k
 have rd := l.rep.dropLast
 rw [List.dropLast_concat] at rd
 exact w v F _ us.dropLast ⟨fun b u z => by rw [yI (fun e => by subst e; rw [hf] at z; cases z)]; exact k.sub b u z, fun b u z => z, .refl _, fun a z => .inl z⟩ rd rw'
theorem aBL (t : At X N sc) (i : Nat) (hr : ρ[i]? = some (.val (.adr q))) (he : eHH X q ρ e d xs xs1) (hz : xs1.length < sizeLine) (hN : N[i]? = some x := by rfl) (hv : aDQ sc x = true := by rfl) (hx : qS x = true := by rfl)
  (hb2 : attributeBase (.Name x py) "append" X.env (eval (.Name x py) X.env) = eval (.Name x py) X.env := by rfl)
  (hs : starEach [e] X.env = (false, eval e X.env) :: starEach [] X.env := by rfl) (hline : (apos.endLine == cpos.line) = true := by rfl) (hpl : (backTo cpos (starEach [] X.env)).any (·.1) = false := by rfl)
  (hfew : ((backTo cpos (starEach [e] X.env)).all (fun x => !x.1) && (backToKw cpos (keywordEach [] X.env)).all (fun x => x.1.isSome) && decide (([e] : List Expr).length + ([] : List Keyword).length + (if ([] : List Keyword).isEmpty then 0 else 1) < 30)) = true := by rfl)
  (hsw : swapsWith (.Call (.Attribute (.Name x py) "append" apos) [e] [] cpos) none pos.line X.env = pure false := by rfl) :
  eDY X q ρ (.Expr (.Call (.Attribute (.Name x py) "append" apos) [e] [] cpos) pos) (.nx ρ) xs (xs1 ++ [d]) := fun B F H σ E us l k w => .mk fun pins st I =>
 aDV (eBA PySem.F.plainAttrs_list PySem.F.slot_list_append PySem.F.type_list_append aEN yU (zC yU jW hs) hb2 hfew hline hs hpl) hsw pins st σ H E I
  (eDU t hr hN hv hx k ⟨.inl ⟨rfl, _, SqL.of (k.sh _ _ l.st)⟩, he B F H σ _ us l k fun v F1 H1 u1 x1 r1 rv => by
   have k1 := k.extM l x1
   have l1 : Lent X.K (UpB B q u1) q F1 u1 xs1 := ⟨yK, l.fr, r1⟩
   refine ⟨q, u1, v, rfl, rfl, k1.sh _ _ yK, by rw [r1.length]; exact hz, ?_⟩
   have k2 : Ok X.K (UpB (UpB B q u1) q (u1 ++ [v])) F1 (upd H1 q (.lst (u1 ++ [v]))) σ ρ := k1.chgAt l1
   rw [UpB.up] at k2
   exact w F1 _ σ (u1 ++ [v]) k2 (r1.append (.cons rv .nil)) x1.sf⟩)
def eLH (K : PySem.W.Frag) (C : D -> List D -> List D -> Prop) : Sp := fun vs H Q _ => ∃ q F d0 us xs xs', Same F H /\ H q = some (.lst us) /\ F q = none /\ RepL K F us xs /\ RepL K F vs [d0, .adr q] /\ C d0 xs xs' /\ ∀ v F' H' us', Ext (UpB ⟨F, H⟩ q us') F' H' -> RepL K F' us' xs' -> Rep K F' v .non -> Q v H'
def aNT (X : Cx) (x : Str) (C : D -> List D -> List D -> Prop) : Prop := ∃ (f : Addr) (fd : FuncData) (ps : List Str) (k : Nat), qU X.prog X.w X.K X.mg X.base CX0 k f fd ps (eLH X.K C) /\ Room k X.A /\ X.mg x = some (.ref f) /\ PySem.W.keepIn X.K (.ref f) = true /\ Binds X.K fd ps []
theorem eGD {P : Program} (htree : P.given.tree = none) {w : World} {K : PySem.W.Frag} {mg : Str -> Option Value} {base : Heap} {x qual : Str} {st : Stmt} {f : Addr} {fd : FuncData} {N ps : List Str} {k : Nat} {C : D -> List D -> List D -> Prop} (F : Fun K x qual st f fd) (S : yL N ps (yB st))
  (len : 2 = ps.length)
  (body : ∀ X, DefX P w K mg base k N (yB st) X -> ∀ q d0 xs xs', C d0 xs xs' -> ∃ ρ', EvM X q (.val d0 :: .val (.adr q) :: List.replicate (N.length - 2) Sl.un) (yF st) (.nx ρ') xs xs') : qU P w K mg base CX0 (k + 1) f fd ps (eLH K C) := by
 refine F.ok S (fun vs H Q E h => ?_) (fun cdv A outer s H vs Q E hr h => ?_)
 ·obtain ⟨p, F', d0, us, xs, xs', sub, hp, hf, ru, r, hC, q⟩ := h
  rw [r.length]; exact len
 ·obtain ⟨p, F', d0, us, xs, xs', sub, hp, hf, ru, r, hC, q⟩ := h
  refine ⟨_, vD, ?_⟩
  have hx : DefX P w K mg base k N (yB st) (aVA CX0 P w K mg base N qual (yB st) f cdv A outer s H E).nox :=
   ⟨⟨rfl, rfl, rfl, S.nd, rfl, hr.units, hr.dp100, htree, ⟨_, _, rfl, S.gen, S.co, rfl, rfl⟩⟩, rfl, rfl, rfl, rfl, rfl, hr, ⟨fun _ => rfl⟩, rfl, rfl⟩
  have hk : Ok K ⟨F', H⟩ F' H (start N vs) ([d0, .adr p].map Sl.val ++ List.replicate (N.length - 2) Sl.un) := by
   unfold start
   rw [r.length]
   exact aDC sub r _
  obtain ⟨ρ', hb⟩ := body _ hx p d0 xs xs' hC
  exact hb ⟨F', H⟩ F' H _ _ us ⟨hp, hf, ru⟩ hk fun F2 H2 σ2 us2 k2 r2 s2 => q .non F2 H2 us2 k2.toExt r2 .non
theorem DefX.calleeM2 {P : Program} {w : World} {K : PySem.W.Frag} {mg : Str -> Option Value} {base : Heap} {k j : Nat} {f : Addr} {fd : FuncData} {ps : List Str} {C : D -> List D -> List D -> Prop} (h : DefX P w K mg base k N sc X)
  (F : qU P w K mg base CX0 j f fd ps (eLH K C)) (hj : j <= k) (hm : mg x = some (.ref f)) (hk : PySem.W.keepIn K (.ref f) = true) (hb : Binds K fd ps []) : aNT X x C := by
 obtain ⟨h0, rfl, rfl, rfl, rfl, rfl, hr, _⟩ := h
 exact ⟨f, fd, ps, j, F, hr.mono hj, hm, hk, hb⟩
theorem eAP (t : At X N sc) {C : D -> List D -> List D -> Prop} (h : aNT X x C) (i : Nat) (hr : ρ[i]? = some (.own xs)) (ha : EvE X ρ e d0) (hC : C d0 xs xs') (hN : N[i]? = some y := by rfl) (hv : aDQ sc y = true := by rfl) (hx : qS y = true := by rfl)
  (hg : sc.names.lookup x = some .globalImplicit := by rfl) (hdb : (x == ("__debug__" : Str)) = false := by rfl) (hs : Pl (.Name y py) := by intro _ _; rfl) (he : Pl e := by intro _ _; rfl) (hsw : swapsWith (.Call (.Name x p) [e, .Name y py] [] cpos) none pos.line X.env = pure false := by rfl) :
  EvS X ρ (.Expr (.Call (.Name x p) [e, .Name y py] [] cpos) pos) (.nx (ρ.set i (.own xs'))) := by
 obtain ⟨f, fd, ps, k, F, hr', hm, hk, hb⟩ := h
 have pz : aCL CX0 X E0 := aQW
 refine .of (aDV (aFC F hr' (wK t hg) hm hk hb .nil pz (zC yU (zC yU jW (hs _ _)) (he _ _)) hdb (he _ _) (by rw [hs]; rfl)) hsw) fun B F' H σ E k' q => ?_
 refine ha B F' H σ _ k' fun v0 F1 H1 x1 r1 => ?_
 have k1 := k'.ext x1
 refine aON t hr hN hv hx k1 fun l us h1 h2 h3 => ?_
 have hf1 : F1 l = none := by
  obtain ⟨a, vs, o1, o2, o3, o4, o5⟩ := k1.owns i xs hr
  rw [h1] at o1
  cases o1
  exact o3
 refine ⟨l, F1, d0, us, xs, xs', x1.sub, h2, hf1, h3, ?_, hC, fun v F2 H2 us2 x2 r2 rv => q F2 H2 σ (k1.back hr h1 x2 r2) (x1.sf.trans x2.sf)⟩
 exact .cons r1 (.cons (.adr l) .nil)
end
section
variable {X : Cx} {ρ : Rho} {a b e : Expr} {pos p pos' : Pos} {N : List Str} {sc : Scope} {x : Str}
theorem aFJ {z w : Str} (ha : EvE X ρ a (.str z)) (hb : EvE X ρ b (.str w)) (hz : z.length + w.length <= sizeLine) : EvE X ρ (.BinOp a .Add b pos) (.str (z ++ w)) :=
 .of (aQU aKP yU yU) fun B F H σ Q k q => two ha hb k fun x y F' H' x' rx ry => by
  cases rx; cases ry
  exact ⟨z, w, rfl, rfl, hz, q _ F' H' x' (.str _)⟩
theorem eCC [FnT X] (t : At X N sc) (i : Nat) {z w : Str} (hr : ρ[i]? = some (.val (.str z))) (h : EvE X ρ e (.str w)) (hz : z.length + w.length <= sizeLine) (hi : N[i]? = some x := by rfl) (hx : aPZ sc x = true := by rfl) :
  EvS X ρ (.AugAssign (.Name x pos') .Add e pos) (.nx (ρ.set i (.val (.str (z ++ w))))) :=
 .of (eCM (i := i) t.nd (t.ix hi) (t.loc hx) yU (show PIp X .Add _ from aRI) hfT) fun B F H σ E k q => by
  obtain ⟨v, h1, h2⟩ := k.vals i _ hr
  cases h2
  exact ⟨_, h1, h B F H σ _ k fun v F' H' x' r => by
   cases r
   exact ⟨z, w, rfl, rfl, hz, q F' H' _ ((k.ext x').setVal i (.str _)) x'.sf⟩⟩
theorem eDI {z w : Str} {r : Bool} (ha : EvE X ρ a (.str z)) (hb : EvE X ρ b (.str w)) (hr : (!(Builtin.Str.occurrences w z 0 w.length 1).isEmpty) = r) (hm : behindInMarks .In b = false := by rfl) : EvE X ρ (.Compare a [.In] [b] pos) (.bl r) :=
 .of (aMA aXM yU yU hm) fun B F H σ Q k q => two ha hb k fun x y F' H' x' rx ry => by
  cases rx; cases ry; subst hr
  exact ⟨z, w, rfl, rfl, q _ F' H' x' (.bl _)⟩
theorem aAM (t : At X N sc) {z : Str} (bl : Blt X sc x (.builtin "len")) (ha : EvE X ρ e (.str z)) (hz : z.length <= sizeLine) (hpe : Pl e := by intro _ _; rfl) : EvE X ρ (.Call (.Name x p) [e] [] pos) (.int z.length) :=
 aMW t bl aPJ (yC ha yE hpe) fun F H vs Q sub r q => by
  obtain ⟨v, rfl, rv⟩ := r.one
  cases rv
  exact ⟨z, rfl, hz, q _ F H (.refl sub) (.int _)⟩
theorem aRK (t : At X N sc) {i : Int} (bl : Blt X sc x (.type "str")) (ha : EvE X ρ e (.int i)) (hz : i.natAbs.log2 < 1920) (hpe : Pl e := by intro _ _; rfl) : EvE X ρ (.Call (.Name x p) [e] [] pos) (.str (toString i)) :=
 aIM t bl aPH (yC ha yE hpe) fun F H vs Q sub r q => by
  obtain ⟨v, rfl, rv⟩ := r.one
  cases rv
  exact ⟨i, rfl, hz, q _ F H (.refl sub) (.str _)⟩
theorem aPK : aCY X (.type "int") (fun xs H Q => ∃ z n, xs = [.str z] /\ PySem.intText? z = some n /\ z.length <= 640 /\ Q (.int n) H) := by
 intro pins s σ H xs us Q I r h
 obtain ⟨z, n, rfl, h1, h2, q⟩ := h
 obtain ⟨u, rfl, t, rfl⟩ := aFX r
 exact PySem.W.KIN.call_text h1 h2 ⟨.int n, H, I.tok _, ⟨_, rfl⟩, q⟩
theorem aYP (t : At X N sc) {z : Str} {n : Int} (bl : Blt X sc x (.type "int")) (ha : EvE X ρ e (.str z)) (hn : PySem.intText? z = some n) (hz : z.length <= 640) (hpe : Pl e := by intro _ _; rfl) : EvE X ρ (.Call (.Name x p) [e] [] pos) (.int n) :=
 aIM t bl aPK (yC ha yE hpe) fun F H vs Q sub r q => by
  obtain ⟨v, rfl, rv⟩ := r.one
  cases rv
  exact ⟨z, n, rfl, hn, hz, q _ F H (.refl sub) (.int _)⟩
theorem aUP : MtR X "str.isalnum" (fun x xs H Q => ∃ z, x = .str z /\ xs = [] /\ Q (.bl (Txt.isalnum z)) H) := by
 intro pins s σ H x xs v us Q I rx rs h
 obtain ⟨z, rfl, rfl, q⟩ := h
 obtain ⟨t, rfl⟩ := rx
 cases rs
 exact SC.isalnum ⟨.bl _, H, I, rfl, q⟩
theorem aDF {z : Str} {apos cpos : Pos} (ho : EvE X ρ a (.str z)) (hbase : attributeBase a "isalnum" X.env (eval a X.env) = eval a X.env := by rfl) (hline : (apos.endLine == cpos.line) = true := by rfl) :
  EvE X ρ (.Call (.Attribute a "isalnum" apos) [] [] cpos) (.bl (Txt.isalnum z)) :=
 .of (aXJ PySem.F.plainAttrs_str PySem.F.slot_str_isalnum PySem.F.type_str_isalnum aUP yU hbase hline) fun B F H σ Q k q =>
  ho B F H σ _ k fun v F1 H1 x1 r1 => by
   cases r1
   exact ⟨rfl, z, rfl, rfl, q _ F1 H1 x1 (.bl _)⟩
end
end L2.EV
namespace L2
open PySem PySem.Spec PyProof.Rows
def Its (z : Str) : It := ⟨fun i _ => i < z.cps.size, fun i H x H' => H' = H /\ ∃ c, z.cps[i]? = some c /\ x = .str ⟨#[c]⟩, fun i _ => z.cps.size <= i, False⟩
theorem aVS {P : Program} {w : World} {K : PySem.W.Frag} {tg : Expr} (it : Addr) (z : Str) (t : Tok) : eAH P w K tg (Its z) [it] it (fun i h => h.IsStrIter it "str_ascii_iterator" z t i) where
 mem := by simp
 obj := fun i h st b hb => by
  have e : b = it := by simpa using hb
  subst e
  obtain ⟨o, e, c, d⟩ := st
  exact ⟨o, e, fun v z => by rw [d] at z; cases z⟩
 keep := fun i h h' st k => let ⟨o, e, r⟩ := st; ⟨o, k it (by simp) o e, r⟩
 item := by
  intro X hP hw hK hc i pins s σ H E I hf st hg
  subst hP hw hK
  replace hc := hc.resolve_right fun z => z.1
  obtain ⟨f0, f1, f2, f3, f4, f5⟩ := hf it (by simp)
  have hi : i < z.cps.size := hg
  refine wpAny_pyNext_ascii_item st (c := z.cps[i]) (by simp [hi]) fun h' st' sb => ?_
  have I1 : Inv X pins σ H { s with heap := h', toks := s.toks + 1 } := I.turned (fun b o hb e => (sb.2 b hb).trans e) f0 f1 f3 f4 f5
  obtain ⟨o, e, c, d⟩ := id st'
  exact ⟨_, rfl, aYE (s := { s with heap := h', toks := s.toks + 1 }) e c d (by decide) ⟨.str ⟨#[z.cps[i]]⟩, H, I1, ⟨_, rfl⟩, ⟨rfl, _, by simp [hi], rfl⟩, st', fun b hb => (hf b hb).1⟩⟩
 done := by
  intro X hP hw hK hc i pins s σ H E I hf st hg
  subst hP hw hK
  replace hc := hc.resolve_right fun z => z.1
  obtain ⟨f0, f1, f2, f3, f4, f5⟩ := hf it (by simp)
  have hi : z.cps.size <= i := hg
  exact wpAny_pyNext_ascii_end (I.ok.hd hc) st (by simp [hi]) fun h' eb => ⟨rfl, I.turned (t' := s.toks) (fun b o hb e => eb b o hb e) f0 f1 f3 f4 f5⟩
 self := fun _ _ _ _ _ st h => wpAny_pyIter_striter_ascii st h
section
variable {X : Cx} {tg : Expr}
def ePI (tl : TE) : TI := fun σ H R => tl σ H fun x H1 => ∃ z, x = .str z /\ z.cps.all (· < 128) = true /\ R (Its z) H1
theorem eIL {l : Expr} {tl : TE} (hl : PE X l tl) : PI X tg l (ePI tl) := by
 intro pins s σ H R I h
 refine thn (hl pins s σ H _ I h) fun v s1 ⟨x, H1, I1, r1, q1⟩ => ?_
 obtain ⟨z, e, ha, q⟩ := q1
 subst e
 obtain ⟨t, rfl⟩ := r1
 refine wpAny_pyIter_ascii ha ?_
 refine ⟨s1.heap.objs.size, [s1.heap.objs.size], _, _, H1, rfl, I1.kept (t' := s1.toks) fun b o e => Heap.get?_push_of_some _ e, aVS _ z t, ⟨_, Heap.get?_push_size _ rfl, rfl, rfl⟩, fun b hb => ?_, q⟩
 have e : b = s1.heap.objs.size := by simpa using hb
 subst e
 exact I1.fpOk (Nat.le_refl _) (I1.hok.fresh (Nat.le_refl _))
theorem aWT {pins : List (Addr × Obj)} {σ : St} {H : Hp} {s : Shared} {R : It -> Hp -> Prop} {E : Value -> Shared -> Prop} {lo hi : Int} {t u v : Tok} {tk : Nat} (I : Inv X pins σ H s) (h1 : -(2 ^ 62) <= lo) (h2 : lo < 2 ^ 62) (h3 : -(2 ^ 62) <= hi) (h4 : hi < 2 ^ 62)
  (q : R (eLM lo (-1) (lo - hi).toNat) H) : wpAny (model X.prog X.w) X.A (pyIter (.ref s.heap.objs.size)) (PIE X pins σ tg R) E { s with heap := s.heap.push { cls := .type "range", data := .fields #[.int lo t, .int hi u, .int (-1) v] }, toks := tk } := by
 refine wpAny_pyIter_range (IsRange.new ..) (PySem.W.small_down h1 h2 h3 h4) ?_
 have I1 : Inv X pins σ H { s with heap := s.heap.push { cls := .type "range", data := .fields #[.int lo t, .int hi u, .int (-1) v] }, toks := tk } := I.kept fun b o e => Heap.get?_push_of_some _ e
 refine ⟨(s.heap.push { cls := .type "range", data := .fields #[.int lo t, .int hi u, .int (-1) v] }).objs.size, [(s.heap.push { cls := .type "range", data := .fields #[.int lo t, .int hi u, .int (-1) v] }).objs.size], _, _, H, rfl,
  I1.kept (t' := tk) fun b o e => Heap.get?_push_of_some _ e, aQE _ lo (-1) (lo - hi).toNat, ?_, fun b hb => ?_, q⟩
 ·have e1 : lo + ((0 : Nat) : Int) * (-1) = lo := by simp
  have e2 : (((lo - hi).toNat : Nat) : Int) - ((0 : Nat) : Int) = Builtin.Range.rangeSize lo hi (-1) := by rw [PySem.W.rangeSize_downNat]; simp
  show IsRangeIter _ _ (lo + ((0 : Nat) : Int) * (-1)) ((((lo - hi).toNat : Nat) : Int) - ((0 : Nat) : Int)) (-1)
  rw [e1, e2]
  exact Heap.get?_push_size _ rfl
 ·have e : b = (s.heap.push { cls := .type "range", data := .fields #[.int lo t, .int hi u, .int (-1) v] }).objs.size := by simpa using hb
  subst e
  exact I1.fpOk (Nat.le_refl _) (I1.hok.fresh (Nat.le_refl _))
def eMS (ta : TA) : TI := fun σ H R => ta σ H fun vs H1 => ∃ i j : Int, vs = [.int i, .int j, .int (-1)] /\ (-(2 ^ 62) <= i /\ i < 2 ^ 62 /\ -(2 ^ 62) <= j /\ j < 2 ^ 62) /\ R (eLM i (-1) (i - j).toNat) H1
theorem aXF {a b c : Expr} {ta : TA} {p pos : Pos} (hg : Gl X "range") (hm : X.mg "range" = none) (ha : PA X [a, b, c] ta) (hs : starEach [a, b, c] X.env = (false, eval a X.env) :: starEach [b, c] X.env := by rfl) (hs2 : (backTo pos (starEach [b, c] X.env)).any (·.1) = false := by rfl) :
  PI X tg (.Call (.Name "range" p) [a, b, c] [] pos) (eMS ta) := by
 intro pins s σ H R I h
 refine Call_ (aKS I hg hm boot_range (PyProof.Rows.callWith_type1 (thn (ha pos pins s σ H _ I h) fun us s1 ⟨vs, H1, I1, r1, q1⟩ => ?_) hs hs2))
 obtain ⟨i, j, e, ⟨q1, q2, q3, q4⟩, q⟩ := q1
 subst e
 cases r1 with
 | cons r rr =>
  cases rr with
  | cons r' rr =>
   cases rr with
   | cons r'' rr =>
    cases rr
    obtain ⟨t, rfl⟩ := r
    obtain ⟨t', rfl⟩ := r'
    obtain ⟨t'', rfl⟩ := r''
    exact call_range_3 (by decide) (aWT I1 q1 q2 q3 q4 q) (Or.inl (PyProof.noPylong_small (by omega)))
end
end L2
namespace L2.EV
open PySem PySem.Spec PyProof.Rows
section
variable {X : Cx} {ρ : Rho} {a b c tg e : Expr} {d : D} {pos p : Pos} {N : List Str} {sc : Scope} {x : Str}
def sgn (z : Str) : List D := z.cps.toList.map fun c => D.str ⟨#[c]⟩
theorem eJY {K : PySem.W.Frag} {F : Hp} {z : Str} : eAC K (Its z) F (sgn z) := fun i F2 H2 s1 s2 =>
 ⟨fun d hd => by
  unfold sgn at hd
  rw [List.getElem?_map] at hd
  cases e : z.cps.toList[i]? with
  | none => rw [e] at hd; cases hd
  | some c =>
   rw [e] at hd
   cases hd
   have hi := (List.getElem?_eq_some_iff.mp e).1
   refine ⟨(show i < z.cps.size by simpa using hi), fun x H' y => ?_⟩
   obtain ⟨rfl, c', h1, rfl⟩ := y
   have h2 : z.cps[i]? = some c := by simpa using e
   rw [h2] at h1; cases h1
   exact ⟨F2, .refl s2, .str _⟩, fun h => by
   have h' : z.cps.size <= i := by simpa [sgn] using h
   exact h'⟩
theorem eKX {z : Str} (h : EvE X ρ e (.str z)) (ha : z.cps.all (· < 128) = true) : EvI X ρ tg e (sgn z) := .of (eIL yU) fun B F H σ R k q => h B F H σ _ k fun v F' H' x r => by
 cases r
 exact ⟨z, rfl, ha, q _ F' H' x eJY⟩
def aGG (i : Int) (n : Nat) : List D := (List.range n).map fun (k : Nat) => D.int (i - (k : Int))
theorem eKB {K : PySem.W.Frag} {F : Hp} {i : Int} {n : Nat} : eAC K (eLM i (-1) n) F (aGG i n) := fun k F2 H2 s1 s2 =>
 ⟨fun d hd => by
  unfold aGG at hd
  rw [List.getElem?_map] at hd
  have hi : k < n := by
   by_cases h : k < n
   ·exact h
   ·rw [List.getElem?_eq_none (by simpa using h)] at hd; cases hd
  rw [List.getElem?_range hi] at hd
  cases hd
  refine ⟨hi, fun x H' y => ?_⟩
  obtain ⟨rfl, rfl⟩ := y
  have e : i + (k : Nat) * (-1) = i - (k : Int) := by omega
  rw [e]
  exact ⟨F2, .refl s2, .int _⟩, fun h => by
   have h' : n <= k := by simpa [aGG] using h
   exact h'⟩
theorem aES (t : At X N sc) {i j : Int} {p : Pos} (bl : Blt X sc "range" (.type "range")) (ha : EvE X ρ a (.int i)) (hb : EvE X ρ b (.int j)) (hc : EvE X ρ c (.int (-1))) (h : -(2 ^ 62) <= i /\ i < 2 ^ 62 /\ -(2 ^ 62) <= j /\ j < 2 ^ 62) (hsa : Pl a := by intro _ _; rfl) (hsb : Pl b := by intro _ _; rfl) (hsc : Pl c := by intro _ _; rfl) :
  EvI X ρ tg (.Call (.Name "range" p) [a, b, c] [] pos) (aGG i (i - j).toNat) :=
 .of (aXF (wK t bl.g) bl.m (zC yU (zC yU (zC yU jW (hsc _ _)) (hsb _ _)) (hsa _ _)) (hsa _ _) (by rw [hsb, hsc]; rfl)) fun B F H σ R k q => ha B F H σ _ k fun v F1 H1 x1 r1 => hb B F1 H1 σ _ (k.ext x1) fun w F2 H2 x2 r2 => hc B F2 H2 σ _ (k.ext (x1.t x2)) fun u F3 H3 x3 r3 => by
  cases r1; cases r2; cases r3
  exact ⟨i, j, rfl, h, q _ F3 H3 (x1.t (x2.t x3)) eKB⟩
end
section
variable {X : Cx} {ρ : Rho} {a b e lo hi : Expr} {pos p p2 : Pos} {N : List Str} {sc : Scope} {x : Str}
theorem eHQ : SlR X (fun x lo hi H Q => ∃ z, x = .str z /\ z.length <= sizeLine /\ Q (.str (Txt.slice z lo hi)) H) := by
 intro pins s σ H x v vl vu lo hi sl Q I rx hs pl pu h
 obtain ⟨z, rfl, hz, q⟩ := h
 obtain ⟨t, rfl⟩ := rx
 have part : ∀ {v : Value} {o : Option Int}, IsPart v o -> ∃ l : Option (Int × Tok), v = partValue l /\ l.map (·.1) = o := fun h => by
  cases h with
  | none => exact ⟨none, rfl, rfl⟩
  | int i t => exact ⟨some (i, t), rfl, rfl⟩
 obtain ⟨l, rfl, rfl⟩ := part pl
 obtain ⟨u, rfl, rfl⟩ := part pu
 exact ⟨"str", _, PySem.F.slot_str_getitem.lookup, typeIs_str _ _ _, wpAny_getItem_str_slice (l := l) (u := u) (st := none) hs rfl
  (post_val_or_str ⟨Nat.le_trans (Txt.slice_le z _ _) hz, fun t' k => ⟨.str (Txt.slice z (l.map (·.1)) (u.map (·.1))), H, I.tok _, ⟨_, rfl⟩, q⟩⟩)⟩
theorem aYS {z : Str} {i j : Int} (h : EvE X ρ e (.str z)) (h1 : EvE X ρ lo (.int i)) (h2 : EvE X ρ hi (.int j)) (hz : z.length <= sizeLine) : EvE X ρ (.Subscript e (.Slice (some lo) (some hi) none p2) pos) (.str (Txt.slice z (some i) (some j))) :=
 .of (aTD eHQ yU (aQT yU) (aQT yU)) fun B F H σ Q k q => h B F H σ _ k fun v F1 H1 x1 r1 => h1 B F1 H1 σ _ (k.ext x1) fun v2 F2 H2 x2 r2 => by
  cases r1; cases r2
  exact ⟨i, rfl, h2 B F2 H2 σ _ (k.ext (x1.t x2)) fun v3 F3 H3 x3 r3 => by
   cases r3
   exact ⟨j, rfl, z, rfl, hz, q _ F3 H3 (x1.t (x2.t x3)) (.str _)⟩⟩
theorem aTC (cs : Array Nat) (i : Nat) : ∀ n, i + n <= cs.size -> ((List.range n).map fun k => i + k).filterMap (cs[·]?) = (cs.toList.drop i).take n
 | 0, _ => by simp
 | n + 1, h => by
  rw [List.range_succ, List.map_append, List.filterMap_append, aTC cs i n (by omega), List.take_succ, List.getElem?_drop]
  congr 1
  have : i + n < cs.size := by omega
  simp [this]
theorem aSJ : ∀ (xs : List V) (us : List Value), us.length = xs.length -> (∀ (j : Nat) x u, xs[j]? = some x -> us[j]? = some u -> RelV x u) -> Vals xs us
 | [], [], _, _ => .nil
 | x :: xs, u :: us, hl, h => .cons (h 0 x u rfl rfl) (aSJ xs us (by simpa using hl) fun j y v h1 h2 => h (j + 1) y v h1 h2)
theorem aZG {z : Str} {i j : Nat} (h : i <= j) (hi : i <= z.length) : Txt.slice z (some (i : Int)) (some (j : Int)) = ⟨((z.cps.toList.drop i).take (j - i)).toArray⟩ := by
 have hz : z.length = z.cps.size := rfl
 have e1 : Builtin.Str.strSliceIndices (some (i : Int)) (some (j : Int)) 1 z.length = (List.range (min j z.length - i)).map fun k => i + k := by
  unfold Builtin.Str.strSliceIndices sliceRange
  have a1 : ¬ ((i : Int) < 0) := by omega
  have a2 : ¬ ((j : Int) < 0) := by omega
  simp only [a1, a2, if_false, show (1 : Int) > 0 by decide, if_true]
  have b1 : max 0 (min (i : Int) (z.length : Int)) = i := by omega
  have b2 : max 0 (min (j : Int) (z.length : Int)) = (min j z.length : Nat) := by omega
  rw [b1, b2]
  have b3 : (if (i : Int) < (min j z.length : Nat) then (((min j z.length : Nat) : Int) - i + 1 - 1) / 1 else 0).toNat = min j z.length - i := by split <;> omega
  rw [b3]
  exact List.map_congr_left fun k _ => by omega
 have e2 : ((List.range (min j z.length - i)).map fun k => i + k).filterMap (z.cps[·]?) = (z.cps.toList.drop i).take (j - i) := by
  rw [aTC z.cps i (min j z.length - i) (by omega)]
  by_cases hj : j <= z.length
  ·rw [Nat.min_eq_left hj]
  ·rw [List.take_of_length_le (by rw [List.length_drop, Array.length_toList]; omega), List.take_of_length_le (by rw [List.length_drop, Array.length_toList]; omega)]
 unfold Txt.slice
 rw [e1, e2]
 split
 ·rename_i h0
  rw [Bool.and_eq_true, beq_iff_eq, beq_iff_eq, List.length_map, List.length_range] at h0
  have h1 := h0.2
  have hi0 : i = 0 \/ z.length = 0 := by omega
  rcases hi0 with rfl | e
  ·rw [List.drop_zero, Nat.sub_zero, List.take_of_length_le (by rw [Array.length_toList]; omega)]
  ·have : z.cps.toList = [] := List.eq_nil_of_length_eq_zero (by rw [Array.length_toList]; omega)
   rw [this]
   obtain ⟨c⟩ := z
   have hc : c = #[] := Array.eq_empty_of_size_eq_zero e
   subst hc
   simp
 ·rfl
theorem aSO : ∀ {ys : List Str} {us : List Value}, Vals (ys.map V.str) us -> StrsAre us ys
 | [], _, h => by cases h; exact .nil
 | y :: ys, _, h => by
  cases h with
  | cons r q =>
   obtain ⟨t, rfl⟩ := r
   exact .cons y t (aSO q)
theorem eFR : MtR X "str.join" (fun x xs H Q => ∃ z l ys, x = .str z /\ xs = [.ref l] /\ SqL X.K H l (ys.map V.str) /\ (ys.map (·.length)).sum + ys.length * z.length <= 16777216 /\ Q (.str (Txt.join z ys)) H) := by
 intro pins s σ H x xs v us Q I rx rs h
 obtain ⟨z, l, ys, rfl, rfl, hl, hz, q⟩ := h
 obtain ⟨t, rfl⟩ := rx
 obtain ⟨u, rfl, ru⟩ := Vals.one rs
 cases ru
 obtain ⟨its, r', pl, _⟩ := I.list hl
 exact join_list pl.isList (by simpa using aSO r') hz fun t' k => ⟨.str _, H, I.tok _, ⟨_, rfl⟩, q⟩
theorem aRL {z : Str} {ys : List Str} {apos cpos : Pos} (ho : EvE X ρ a (.str z)) (ha : EvQ X ρ e true (ys.map D.str)) (hz : (ys.map (·.length)).sum + ys.length * z.length <= 16777216) (hs : Pl e := by intro _ _; rfl)
  (hbase : attributeBase a "join" X.env (eval a X.env) = eval a X.env := by rfl)
  (hfew : ((backTo cpos (starEach [e] X.env)).all (fun x => !x.1) && (backToKw cpos (keywordEach [] X.env)).all (fun x => x.1.isSome) && decide (([e] : List Expr).length + ([] : List Keyword).length + (if ([] : List Keyword).isEmpty then 0 else 1) < 30)) = true := by rfl) (hline : (apos.endLine == cpos.line) = true := by rfl) :
  EvE X ρ (.Call (.Attribute a "join" apos) [e] [] cpos) (.str (Txt.join z ys)) :=
 .of (eBA PySem.F.plainAttrs_str PySem.F.slot_str_join PySem.F.type_str_join eFR yU (zC yU jW (hs _ _)) hbase hfew hline (hs _ _) rfl) fun B F H σ Q k q =>
  ho B F H σ _ k fun v F1 H1 x1 r1 => by
   cases r1
   refine ⟨rfl, ha B F1 H1 σ _ (k.ext x1) fun l vs F2 H2 x2 sl rl => ?_⟩
   have ev := aQF rl
   subst ev
   exact ⟨z, l, ys, rfl, rfl, sl, hz, q _ F2 H2 (x1.t x2) (.str _)⟩
theorem aVC (hc : X.calm = true) : aCY X (.type "list") (fun xs H Q => ∃ z, xs = [.str z] /\ z.length <= sizeLine /\ ∀ l, H l = none -> Q (.ref l) (upd H l (.lst (z.cps.toList.map fun c => V.str ⟨#[c]⟩)))) := by
 intro pins s σ H xs us Q I r h
 obtain ⟨z, rfl, hz, q⟩ := h
 obtain ⟨u, rfl, t, rfl⟩ := aFX r
 refine call_list_str (I.ok.hd hc) z t (hn := hz) fun h' tk acc' c' kp e hacc => ?_
 have rv : Vals (z.cps.toList.map fun c => V.str ⟨#[c]⟩) acc'.toList := by
  obtain ⟨h1, h2⟩ := hacc
  refine aSJ _ _ (by simp [h1]) fun j x u e1 e2 => ?_
  obtain ⟨c, t', hc, rfl⟩ := h2 j u (by simpa using e2)
  rw [List.getElem?_map, show z.cps.toList[j]? = some c by simpa using hc] at e1
  cases e1
  exact ⟨t', rfl⟩
 exact ⟨.ref s.heap.objs.size, _, I.laid (t' := tk) kp (Nat.le_refl _) (show ObjOk X.prog X.w _ h' _ (.lst _) from ⟨by rw [List.length_map, Array.length_toList]; exact hz, acc'.toList, c', rv, by simpa using e⟩), rfl, q _ (I.hok.fresh (Nat.le_refl _))⟩
theorem aOH {K : PySem.W.Frag} {F : Hp} : ∀ cs : List Nat, RepL K F (cs.map fun c => V.str ⟨#[c]⟩) (cs.map fun c => D.str ⟨#[c]⟩)
 | [] => .nil
 | c :: cs => .cons (.str _) (aOH cs)
theorem eBM (t : At X N sc) {z : Str} (bl : Blt X sc x (.type "list")) (ha : EvE X ρ e (.str z)) (hz : z.length <= sizeLine) (hpe : Pl e := by intro _ _; rfl) : EvN X ρ (.Call (.Name x p) [e] [] pos) (sgn z) :=
 .of (aEL (aVC t.calm) (wK t bl.g) bl.m bl.v (zC yU jW (hpe _ _)) bl.n bl.d (hpe _ _) rfl) fun B F H σ Q k' q => ha B F H σ _ k' fun v F' H' x' r => by
  cases r
  exact ⟨z, rfl, hz, fun l hl => q l _ F' _ ⟨x'.sub.trans (yM hl), x'.sh.trans (yM hl), x'.sf, x'.nw⟩ (x'.sh.free hl) yK (x'.sub.free hl) (aOH _)⟩
theorem aYQ {z sep : Str} {i : Int} {j : Nat} {p1 p2 p3 : Pos} (ha : EvE X ρ a (.str z)) (hb : EvE X ρ b (.int i)) (hi : i.natAbs.log2 < 1920) (hz : z.length + sep.length <= 1000) :
  EvE X ρ (.JoinedStr [.FormattedValue a (-1) none p1, .Constant (.str sep) j p2, .FormattedValue b (-1) none p3] pos) (.str (z ++ sep ++ (toString i : Str))) := fun B F H σ Q k q => .mk fun pins s I => by
 have hl := PyProof.Rows.int_text_len_1921 hi
 have e0 : Str.empty ++ z = z := by
  obtain ⟨c⟩ := z
  show (⟨#[] ++ c⟩ : Str) = ⟨c⟩
  rw [Array.empty_append]
 have hs : sizeLine = 16777216 := rfl
 have l1 : (Str.empty ++ z).length <= sizeLine := by rw [e0]; omega
 have l2 : (Str.empty ++ z ++ sep).length <= sizeLine := by rw [e0, strLen_append]; omega
 have l3 : (Str.empty ++ z ++ sep ++ (toString i : Str)).length <= sizeLine := by rw [e0, strLen_append, strLen_append]; exact Nat.le_trans (Nat.add_le_add_left hl _) (by omega)
 refine JoinedStr_many (joinParts_cons (FormattedValue_plain (thn (ha B F H σ (fun v H' => ∃ F', Ext ⟨F, H⟩ F' H' /\ Rep X.K F' v (.str z)) k (fun v F' H' x r => ⟨F', x, r⟩) pins s I) fun u s1 ⟨v, H1, I1, rv, F1, x1, r1⟩ => ?_)))
 cases r1
 obtain ⟨t, rfl⟩ := rv
 refine formatField_str (fun t' tk => ?_) (by omega)
 refine ⟨l1, joinParts_cons (Calls.Constant_str ⟨l2, joinParts_cons (FormattedValue_plain (thn (hb B F1 H1 σ (fun v H' => ∃ F', Ext ⟨F1, H1⟩ F' H' /\ Rep X.K F' v (.int i)) (k.ext x1) (fun v F' H' x r => ⟨F', x, r⟩) pins _ (I1.tok _)) fun u s2 ⟨v2, H2, I2, rv2, F2, x2, r2⟩ => ?_))⟩)⟩
 cases r2
 obtain ⟨t2, rfl⟩ := rv2
 refine formatField_int_small hi ⟨l3, joinParts_nil ?_ l3⟩
 rw [e0]
 exact ⟨.str _, H2, I2.tok _, ⟨_, rfl⟩, q _ F2 H2 (x1.t x2) (.str _)⟩
end
section
variable {X : Cx} {ρ : Rho} {a b e : Expr} {pos p : Pos} {N : List Str} {sc : Scope} {x : Str}
theorem aMS (t : At X N sc) {z : Str} (hm : ∃ tk, X.mg x = some (.str z tk)) (hg : sc.names.lookup x = some .globalImplicit := by rfl) (hdb : (x == ("__debug__" : Str)) = false := by rfl) : EvE X ρ (.Name x p) (.str z) := by
 obtain ⟨tk, hm⟩ := hm
 exact .of (aQV (wK t hg) hm (show RelV (.str z) (.str z tk) from ⟨_, rfl⟩) hdb) fun B F H σ Q k q => q _ F H (.refl k.sub) (.str _)
theorem aMU (t : At X N sc) {z : Int} (hm : ∃ tk, X.mg x = some (.int z tk)) (hg : sc.names.lookup x = some .globalImplicit := by rfl) (hdb : (x == ("__debug__" : Str)) = false := by rfl) : EvE X ρ (.Name x p) (.int z) := by
 obtain ⟨tk, hm⟩ := hm
 exact .of (aQV (wK t hg) hm (show RelV (.int z) (.int z tk) from ⟨_, rfl⟩) hdb) fun B F H σ Q k q => q _ F H (.refl k.sub) (.int _)
theorem aWK {d : D} (h : EvE X ρ e d) (hsw : swapsWith e none pos.line X.env = pure false := by rfl) : EvS X ρ (.Expr e pos) (.nx ρ) := fun B F H σ E k q => .mk fun pins s I =>
 aDV yU hsw pins s σ H E I (h B F H σ _ k fun v F' H' x' r => q F' H' σ (k.ext x') x'.sf)
theorem eHU : EvS X ρ (.Return none pos) (.rt .non) := fun B F H σ E k q => .mk fun pins s I => eFC pins s σ H E I (q .non F H k.toExt .non)
end
theorem eDE {P : Program} (htree : P.given.tree = none) {w : World} {K : PySem.W.Frag} {mg : Str -> Option Value} {base : Heap} {x qual : Str} {st : Stmt} {f : Addr} {fd : FuncData} {N ps : List Str} {k : Nat} {C : List D -> D -> Prop} (F : Fun K x qual st f fd) (S : yL N ps (yB st))
  (len : ∀ ds d, C ds d -> ds.length = ps.length)
  (body : ∀ X, DefX P w K mg base k N (yB st) X -> ∀ ds d, C ds d -> EvSs X (ds.map Sl.val ++ List.replicate (N.length - ds.length) Sl.un) (yF st) (.rt d) \/ (d = .non /\ ∃ ρ', EvSs X (ds.map Sl.val ++ List.replicate (N.length - ds.length) Sl.un) (yF st) (.nx ρ'))) : qU P w K mg base CX0 (k + 1) f fd ps (spC K C) := by
 refine F.ok S (fun vs H Q E h => ?_) (fun cdv A outer s H vs Q E hr h => ?_)
 ·obtain ⟨F', ds, d, sub, r, hC, q⟩ := h
  rw [r.length]; exact len ds d hC
 ·obtain ⟨F', ds, d, sub, r, hC, q⟩ := h
  refine ⟨_, vD, ?_⟩
  have hx : DefX P w K mg base k N (yB st) (aVA CX0 P w K mg base N qual (yB st) f cdv A outer s H E).nox :=
   ⟨⟨rfl, rfl, rfl, S.nd, rfl, hr.units, hr.dp100, htree, ⟨_, _, rfl, S.gen, S.co, rfl, rfl⟩⟩, rfl, rfl, rfl, rfl, rfl, hr, ⟨fun _ => rfl⟩, rfl, rfl⟩
  have hk : Ok K ⟨F', H⟩ F' H (start N vs) (ds.map Sl.val ++ List.replicate (N.length - ds.length) Sl.un) := by
   unfold start
   rw [r.length]
   exact aDC sub r _
  rcases body _ hx ds d hC with hb | ⟨rfl, ρ', hb⟩
  ·exact hb ⟨F', H⟩ F' H _ _ hk fun v F2 H2 x2 r2 => q v F2 H2 x2 r2
  ·exact hb ⟨F', H⟩ F' H _ _ hk fun F2 H2 σ2 k2 s2 => q .non F2 H2 k2.toExt .non
def S (cs : List Nat) : Str := ⟨cs.toArray⟩
theorem jL (cs : List Nat) : (S cs).length = cs.length := by show cs.toArray.size = _; simp
theorem aDZ (cs : List Nat) : (S cs).cps.toList = cs := by show cs.toArray.toList = _; simp
theorem aEA (a b : List Nat) : S a ++ S b = S (a ++ b) := by show (⟨a.toArray ++ b.toArray⟩ : Str) = ⟨_⟩; simp
theorem aCX {a b : List Nat} (h : S a = S b) : a = b := by rw [<- aDZ a, h, aDZ]
theorem ePS (z : Str) : z = S z.cps.toList := by obtain ⟨c⟩ := z; show (⟨c⟩ : Str) = ⟨_⟩; simp
theorem aFN {cs : List Nat} (h : ∀ c ∈ cs, c < 128) : PyData.strOk (S cs) = true := by
 show cs.toArray.all (· < 0x110000) = true
 simp only [List.all_toArray, List.all_eq_true, decide_eq_true_eq]
 intro c hc
 have := h c hc
 omega
theorem eNJ {cs : List Nat} (h : ∀ c ∈ cs, c < 128) : (S cs).cps.all (· < 128) = true := by
 show cs.toArray.all (· < 128) = true
 simp only [List.all_toArray, List.all_eq_true, decide_eq_true_eq]
 exact h
def al (c : Nat) : Bool := PySem.Unicode.isAlnum c
theorem eLK (c : Nat) : Txt.isalnum (S [c]) = al c := by
 show (decide ((#[c] : Array Nat).size > 0) && (#[c] : Array Nat).all PySem.Unicode.isAlnum) = _
 simp [al]
theorem eDX {pre post : List Nat} {c : Nat} : atI (S (pre ++ c :: post)).cps.toList (pre.length : Int) = some c := by
 rw [aDZ]
 exact aBZ (by simp)
theorem eNI (pre w post : List Nat) : Txt.slice (S (pre ++ w ++ post)) (some (pre.length : Int)) (some ((pre.length : Int) + (w.length : Int))) = S w := by
 have e : (pre.length : Int) + (w.length : Int) = ((pre.length + w.length : Nat) : Int) := by omega
 rw [e, aZG (by omega) (by rw [jL]; simp), aDZ]
 show (⟨_⟩ : Str) = ⟨_⟩
 simp [List.drop_append, List.take_append]
theorem eLE (pre post : List Nat) (c : Nat) : Txt.slice (S (pre ++ c :: post)) (some (pre.length : Int)) (some ((pre.length : Int) + 2)) = S (c :: post.take 1) := by
 have e : (pre.length : Int) + 2 = ((pre.length + 2 : Nat) : Int) := by omega
 rw [e, aZG (by omega) (by rw [jL]; simp), aDZ]
 show (⟨_⟩ : Str) = ⟨_⟩
 simp [List.drop_append, List.take_append]
def eND : Stmt -> Stmt
 | .ClassDef _ _ _ (b :: _) _ _ _ _ _ _ _ => b
 | s => s
theorem eGB {P : Program} (htree : P.given.tree = none) {w : World} {K : PySem.W.Frag} {mg : Str -> Option Value} {base : Heap} {x qual : Str} {st : Stmt} {f : Addr} {fd : FuncData} {k : Nat} {C : Addr} {p1 p2 p3 p4 p5 p6 p7 p8 p9 a1 a2 a3 : Pos} {j : Nat} (F : Fun K x qual st f fd) (S : yL ["self", "tokens"] ["self", "tokens"] (yB st))
  (c : Cls K C) (n1 : NoAttr K C "tokens") (n2 : NoAttr K C "done") (n3 : NoAttr K C "steps")
  (hb : yF st = [.Assign [.Attribute (.Name "self" p1) "tokens" p2] (.Name "tokens" p3) a1, .Assign [.Attribute (.Name "self" p4) "done" p5] (.Constant (.int 0) j p6) a2, .Assign [.Attribute (.Name "self" p7) "steps" p8] (.List [] p9) a3])
  (v1 : aDQ (yB st) "self" = true) (v2 : aDQ (yB st) "tokens" = true) : qU P w K mg base CX0 (k + 1) f fd ["self", "tokens"] (aSR C) := by
 refine F.ok S (fun vs H Q E h => ?_) (fun cdv A outer s H vs Q E hr h => ?_)
 ·obtain ⟨x, dx, l, rfl, _⟩ := h; rfl
 ·obtain ⟨x0, dx, l, rfl, hx, q⟩ := h
  have hX : DefX P w K mg base k ["self", "tokens"] (yB st) (aVA CX0 P w K mg base ["self", "tokens"] qual (yB st) f cdv A outer s H E).nox :=
   ⟨⟨rfl, rfl, rfl, S.nd, rfl, hr.units, hr.dp100, htree, ⟨_, _, rfl, S.gen, S.co, rfl, rfl⟩⟩, rfl, rfl, rfl, rfl, rfl, hr, ⟨fun _ => rfl⟩, rfl, rfl⟩
  have t := hX.at'
  rw [hb]
  refine ⟨_, wY (aWW (aVN t (i := 0) rfl v1 rfl) (aVN t (i := 1) rfl v2 rfl) rfl) (wY (aWW (aVN t (i := 0) rfl v1 rfl) eCS rfl) (aDU (aWW (aVN t (i := 0) rfl v1 rfl) (eCR jW) rfl))), ?_⟩
  refine ⟨.ref l, rfl, .ref x0, rfl, x0, C, dx, [], rfl, hx, c, n1, by decide, ?_⟩
  refine ⟨.ref x0, rfl, x0, C, dx, _, rfl, yK, c, n2, (by show 1 < 1000; decide), ?_⟩
  refine ⟨Nat.zero_le _, fun p hp => ⟨.ref x0, rfl, x0, C, dx, aLU "done" (.int 0) (aLU "tokens" (.ref l) []), rfl, ?_, c, n3, (show (2 : Nat) < 1000 by decide), ?_⟩⟩
  ·have hpx : x0 ≠ p := fun e => by subst e; rw [yK] at hp; cases hp
   rw [yI hpx, yK]
  ·have hpx : p ≠ x0 := fun e => by subst e; rw [yK] at hp; cases hp
   refine q p _ (by rwa [yI hpx, yI hpx] at hp) hpx ?_
   funext b
   unfold upd
   by_cases h1 : b = x0
   ·rw [if_pos h1, if_pos h1]; rfl
   ·rw [if_neg h1, if_neg h1]
    by_cases h2 : b = p
    ·simp [h1, h2, hpx]
    ·simp [h1, h2]
theorem DefX.mkR {X : Cx} {N : List Str} {sc : Scope} {x : Str} {P : Program} {w : World} {K : PySem.W.Frag} {mg : Str -> Option Value} {base : Heap} {k j : Nat} {f C : Addr} {fd : FuncData} {ps : List Str} (h : DefX P w K mg base k N sc X)
  (F : qU P w K mg base CX0 j f fd ps (aSR C)) (hj : j + 1 <= k) (M : Mk K C f) (hm : mg x = some (.ref C)) (hb : Binds K fd ps []) (c : Cls K C) (n1 : NoAttr K C "tokens") (n2 : NoAttr K C "done") (n3 : NoAttr K C "steps") : MkR X x C := by
 obtain ⟨h0, rfl, rfl, rfl, rfl, rfl, hr, _⟩ := h
 exact ⟨⟨f, fd, ps, j, M, F, hr.mono hj, hb⟩, hm, c, n1, n2, n3⟩
end L2.EV
set_option maxHeartbeats 4000000
namespace My
open PySem L2 L2.EV
def top (i : Nat) : Stmt := PySem.Challenge.pw_planestacks_k30_terms_shown.main.body.getD i (.Pass ⟨0, 0, 0, 0⟩)
abbrev zG : Stmt := top 4
abbrev N_without_end : List Str := ["parts", "nought", "many"]
theorem aJG : yL N_without_end ["parts", "nought"] (yB zG) := ⟨rfl, rfl, rfl, by decide +kernel, rfl, by decide +kernel, by decide +kernel⟩
abbrev vZ : Stmt := top 5
abbrev N_part_at : List Str := ["parts", "power", "nought"]
theorem aUK : yL N_part_at ["parts", "power", "nought"] (yB vZ) := ⟨rfl, rfl, rfl, by decide +kernel, rfl, by decide +kernel, by decide +kernel⟩
abbrev aBV : Stmt := top 6
abbrev N_row_of : List Str := ["numbers"]
theorem aWI : yL N_row_of ["numbers"] (yB aBV) := ⟨rfl, rfl, rfl, by decide +kernel, rfl, by decide +kernel, by decide +kernel⟩
abbrev qT : Stmt := top 7
abbrev N_row_plus : List Str := ["f", "g", "many"]
theorem aQK : yL N_row_plus ["f", "g"] (yB qT) := ⟨rfl, rfl, rfl, by decide +kernel, rfl, by decide +kernel, by decide +kernel⟩
abbrev qL : Stmt := top 8
abbrev N_other_sign : List Str := ["f"]
theorem aLI : yL N_other_sign ["f"] (yB qL) := ⟨rfl, rfl, rfl, by decide +kernel, rfl, by decide +kernel, by decide +kernel⟩
abbrev qP : Stmt := top 9
abbrev N_row_times : List Str := ["f", "g", "numbers", "j", "one", "k", "other"]
theorem aNZ : yL N_row_times ["f", "g"] (yB qP) := ⟨rfl, rfl, rfl, by decide +kernel, rfl, by decide +kernel, by decide +kernel⟩
abbrev vQ : Stmt := top 11
abbrev N_board_of : List Str := ["rows"]
theorem aQM : yL N_board_of ["rows"] (yB vQ) := ⟨rfl, rfl, rfl, by decide +kernel, rfl, by decide +kernel, by decide +kernel⟩
abbrev zP : Stmt := top 12
abbrev N_board_plus : List Str := ["f", "g", "many"]
theorem aLL : yL N_board_plus ["f", "g"] (yB zP) := ⟨rfl, rfl, rfl, by decide +kernel, rfl, by decide +kernel, by decide +kernel⟩
abbrev qF : Stmt := top 13
abbrev N_board_minus : List Str := ["f", "g"]
theorem aJN : yL N_board_minus ["f", "g"] (yB qF) := ⟨rfl, rfl, rfl, by decide +kernel, rfl, by decide +kernel, by decide +kernel⟩
abbrev zK : Stmt := top 14
abbrev N_board_times : List Str := ["f", "g", "rows", "j", "one", "k", "other"]
theorem aJM : yL N_board_times ["f", "g"] (yB zK) := ⟨rfl, rfl, rfl, by decide +kernel, rfl, by decide +kernel, by decide +kernel⟩
abbrev jD : Stmt := top 20
abbrev N_is_number : List Str := ["token"]
theorem aOD : yL N_is_number ["token"] (yB jD) := ⟨rfl, rfl, rfl, by decide +kernel, rfl, by decide +kernel, by decide +kernel⟩
abbrev qM : Stmt := top 21
abbrev N_end_of_run : List Str := ["text", "start", "end"]
theorem aLK : yL N_end_of_run ["text", "start"] (yB qM) := ⟨rfl, rfl, rfl, by decide +kernel, rfl, by decide +kernel, by decide +kernel⟩
abbrev yQ : Stmt := top 22
abbrev N_refuse_wrong_run : List Str := ["run"]
theorem aDT : yL N_refuse_wrong_run ["run"] (yB yQ) := ⟨rfl, rfl, rfl, by decide +kernel, rfl, by decide +kernel, by decide +kernel⟩
abbrev vP : Stmt := top 23
abbrev N_token_at : List Str := ["text", "start", "run"]
theorem aQJ : yL N_token_at ["text", "start"] (yB vP) := ⟨rfl, rfl, rfl, by decide +kernel, rfl, by decide +kernel, by decide +kernel⟩
abbrev jA : Stmt := top 24
abbrev N_tokens_of : List Str := ["text", "tokens", "at"]
theorem aNX : yL N_tokens_of ["text"] (yB jA) := ⟨rfl, rfl, rfl, by decide +kernel, rfl, by decide +kernel, by decide +kernel⟩
abbrev qB : Stmt := top 25
abbrev N_refuse_deep : List Str := ["tokens", "opening", "closing", "many", "token"]
theorem aJJ : yL N_refuse_deep ["tokens", "opening", "closing"] (yB qB) := ⟨rfl, rfl, rfl, by decide +kernel, rfl, by decide +kernel, by decide +kernel⟩
abbrev qG : Stmt := top 27
abbrev N_reader_of : List Str := ["text", "most", "tokens"]
theorem aOA : yL N_reader_of ["text", "most"] (yB qG) := ⟨rfl, rfl, rfl, by decide +kernel, rfl, by decide +kernel, by decide +kernel⟩
abbrev qE : Stmt := top 28
abbrev N_next_token : List Str := ["reader"]
theorem aLJ : yL N_next_token ["reader"] (yB qE) := ⟨rfl, rfl, rfl, by decide +kernel, rfl, by decide +kernel, by decide +kernel⟩
abbrev qK : Stmt := top 29
abbrev N_take_token : List Str := ["reader", "token"]
theorem aLG : yL N_take_token ["reader"] (yB qK) := ⟨rfl, rfl, rfl, by decide +kernel, rfl, by decide +kernel, by decide +kernel⟩
abbrev qA : Stmt := top 30
abbrev N_take_one_of : List Str := ["reader", "tokens", "token"]
theorem aJH : yL N_take_one_of ["reader", "tokens"] (yB qA) := ⟨rfl, rfl, rfl, by decide +kernel, rfl, by decide +kernel, by decide +kernel⟩
abbrev zI : Stmt := top 31
abbrev N_refuse_more : List Str := ["reader"]
theorem aJI : yL N_refuse_more ["reader"] (yB zI) := ⟨rfl, rfl, rfl, by decide +kernel, rfl, by decide +kernel, by decide +kernel⟩
abbrev jU : Stmt := top 35
abbrev N_read_sum : List Str := ["reader", "sign"]
theorem aQL : yL N_read_sum ["reader"] (yB jU) := ⟨rfl, rfl, rfl, by decide +kernel, rfl, by decide +kernel, by decide +kernel⟩
abbrev zO : Stmt := top 36
abbrev N_read_product : List Str := ["reader"]
theorem aHG : yL N_read_product ["reader"] (yB zO) := ⟨rfl, rfl, rfl, by decide +kernel, rfl, by decide +kernel, by decide +kernel⟩
abbrev qD : Stmt := top 37
abbrev N_read_factor : List Str := ["reader", "minuses"]
theorem aJK : yL N_read_factor ["reader"] (yB qD) := ⟨rfl, rfl, rfl, by decide +kernel, rfl, by decide +kernel, by decide +kernel⟩
abbrev qC : Stmt := top 38
abbrev N_read_power : List Str := ["reader"]
theorem aLH : yL N_read_power ["reader"] (yB qC) := ⟨rfl, rfl, rfl, by decide +kernel, rfl, by decide +kernel, by decide +kernel⟩
abbrev jC : Stmt := top 39
abbrev N_read_atom : List Str := ["reader", "token"]
theorem aOC : yL N_read_atom ["reader"] (yB jC) := ⟨rfl, rfl, rfl, by decide +kernel, rfl, by decide +kernel, by decide +kernel⟩
abbrev wB : Stmt := top 40
abbrev N_atom_of : List Str := ["token", "number"]
theorem aUL : yL N_atom_of ["token"] (yB wB) := ⟨rfl, rfl, rfl, by decide +kernel, rfl, by decide +kernel, by decide +kernel⟩
abbrev yY : Stmt := top 41
abbrev N_power_of_board : List Str := ["f", "many", "power", "k"]
theorem aFB : yL N_power_of_board ["f", "many"] (yB yY) := ⟨rfl, rfl, rfl, by decide +kernel, rfl, by decide +kernel, by decide +kernel⟩
abbrev yX : Stmt := top 42
abbrev N_take_term_step : List Str := ["step", "boards", "last", "first"]
theorem aFA : yL N_take_term_step ["step", "boards"] (yB yX) := ⟨rfl, rfl, rfl, by decide +kernel, rfl, by decide +kernel, by decide +kernel⟩
abbrev jR : Stmt := top 43
abbrev N_read_term : List Str := ["text", "reader", "boards", "step"]
theorem aOB : yL N_read_term ["text"] (yB jR) := ⟨rfl, rfl, rfl, by decide +kernel, rfl, by decide +kernel, by decide +kernel⟩
abbrev zT : Stmt := top 44
abbrev N_letters_shown : List Str := ["x_power", "y_power", "shown", "letter", "power"]
theorem aFZ : yL N_letters_shown ["x_power", "y_power"] (yB zT) := ⟨rfl, rfl, rfl, by decide +kernel, rfl, by decide +kernel, by decide +kernel⟩
abbrev zD : Stmt := top 45
abbrev N_product_shown : List Str := ["size", "x_power", "y_power", "letters"]
theorem aFY : yL N_product_shown ["size", "x_power", "y_power"] (yB zD) := ⟨rfl, rfl, rfl, by decide +kernel, rfl, by decide +kernel, by decide +kernel⟩
abbrev zJ : Stmt := top 46
abbrev N_products_of : List Str := ["board", "products", "y_power", "row", "x_power"]
theorem aJL : yL N_products_of ["board"] (yB zJ) := ⟨rfl, rfl, rfl, by decide +kernel, rfl, by decide +kernel, by decide +kernel⟩
abbrev jB : Stmt := top 47
abbrev N_show_term : List Str := ["board", "text", "number", "x_power", "y_power"]
theorem aNY : yL N_show_term ["board"] (yB jB) := ⟨rfl, rfl, rfl, by decide +kernel, rfl, by decide +kernel, by decide +kernel⟩
abbrev jE : Stmt := top 49
abbrev N__law_cell : List Str := ["_law_script", "_law_k", "_law_state", "_law_cell_here"]
theorem aOG : yL N__law_cell ["_law_script", "_law_k"] (yB jE) := ⟨rfl, rfl, rfl, by decide +kernel, rfl, by decide +kernel, by decide +kernel⟩
abbrev yW : Stmt := top 50
abbrev N__law_numbers : List Str := ["_law_cell_here", "_law_many", "_law_found", "_law_state", "_law_digits", "_law_k"]
theorem aHI : yL N__law_numbers ["_law_cell_here", "_law_many"] (yB yW) := ⟨rfl, rfl, rfl, by decide +kernel, rfl, by decide +kernel, by decide +kernel⟩
abbrev qH : Stmt := top 51
abbrev N__law_trim : List Str := ["_law_parts", "_law_found"]
theorem aOE : yL N__law_trim ["_law_parts"] (yB qH) := ⟨rfl, rfl, rfl, by decide +kernel, rfl, by decide +kernel, by decide +kernel⟩
abbrev yT : Stmt := top 52
abbrev N__law_board_of : List Str := ["_law_parts", "_law_rows", "_law_k"]
theorem aGA : yL N__law_board_of ["_law_parts"] (yB yT) := ⟨rfl, rfl, rfl, by decide +kernel, rfl, by decide +kernel, by decide +kernel⟩
abbrev qI : Stmt := top 53
abbrev N__law_product : List Str := ["_law_one", "_law_other", "_law_found", "_law_i", "_law_k", "_law_j", "_law_m"]
theorem aHH : yL N__law_product ["_law_one", "_law_other"] (yB qI) := ⟨rfl, rfl, rfl, by decide +kernel, rfl, by decide +kernel, by decide +kernel⟩
abbrev jS : Stmt := top 54
abbrev N__law_line : List Str := ["_law_xs"]
theorem aOF : yL N__law_line ["_law_xs"] (yB jS) := ⟨rfl, rfl, rfl, by decide +kernel, rfl, by decide +kernel, by decide +kernel⟩
abbrev qN : Stmt := top 55
abbrev N__law_conic : List Str := ["_law_xs", "_law_size", "_law_found", "_law_spots", "_law_k"]
theorem aLN : yL N__law_conic ["_law_xs"] (yB qN) := ⟨rfl, rfl, rfl, by decide +kernel, rfl, by decide +kernel, by decide +kernel⟩
abbrev jF : Stmt := top 56
abbrev N__law_board : List Str := ["_law_cell_here", "_law_xs", "_law_way"]
theorem aLO : yL N__law_board ["_law_cell_here"] (yB jF) := ⟨rfl, rfl, rfl, by decide +kernel, rfl, by decide +kernel, by decide +kernel⟩
abbrev zM : Stmt := top 57
abbrev N__law_letter : List Str := ["_law_letter_here", "_law_power"]
theorem aJO : yL N__law_letter ["_law_letter_here", "_law_power"] (yB zM) := ⟨rfl, rfl, rfl, by decide +kernel, rfl, by decide +kernel, by decide +kernel⟩
abbrev yZ : Stmt := top 58
abbrev N__law_shown : List Str := ["_law_board_here", "_law_found", "_law_k", "_law_i", "_law_size", "_law_words"]
theorem aLM : yL N__law_shown ["_law_board_here"] (yB yZ) := ⟨rfl, rfl, rfl, by decide +kernel, rfl, by decide +kernel, by decide +kernel⟩
abbrev jV : Stmt := top 59
abbrev N__law_any : List Str := ["_law_xs", "_law_size", "_law_found", "_law_k", "_law_spot", "_law_x"]
theorem aQN : yL N__law_any ["_law_xs"] (yB jV) := ⟨rfl, rfl, rfl, by decide +kernel, rfl, by decide +kernel, by decide +kernel⟩
abbrev aGB : Stmt := top 60
abbrev N_law : List Str := ["_law_script", "_law_cell_here", "_law_xs", "_law_board_here", "_law_text"]
theorem eHT : yL N_law ["_law_script"] (yB aGB) := ⟨rfl, rfl, rfl, by decide +kernel, rfl, by decide +kernel, by decide +kernel⟩
abbrev vC : Stmt := eND (top 26)
theorem aJP : yL ["self", "tokens"] ["self", "tokens"] (yB vC) := ⟨rfl, rfl, rfl, by decide +kernel, rfl, by decide +kernel, by decide +kernel⟩
def aAV (ds : List D) (d : D) : Prop := ∃ f : List Int, ds = [qO f] /\ f.length < 1000 /\ d = qO (f.map fun x => -x)
theorem aJT : ∀ ds d, aAV ds d -> ds.length = 1 := by rintro _ _ ⟨a, rfl, _⟩; rfl
theorem aQG {n : Nat} (h : n < 1000) : n < sizeLine := Nat.lt_trans h (by decide)
section
variable {P : Program} {w : World} {K : PySem.W.Frag} {mg : Str -> Option Value} {base : Heap} {k : Nat} {X : Cx}
theorem aPT (h : DefX P w K mg base k N_other_sign (yB qL) X) (m_tuple : mg "tuple" = none) :
  ∀ ds d, aAV ds d -> EvSs X (ds.map Sl.val ++ List.replicate (N_other_sign.length - ds.length) Sl.un) (yF qL) (.rt d) := by
 rintro ds d ⟨f, rfl, hf, rfl⟩
 have t := h.at'
 haveI := h.fnT
 have bl : Blt X (yB qL) "tuple" (.type "tuple") := yR (by rw [h.mg']; exact m_tuple)
 show EvSs X [.val (qO f)] _ _
 refine yH (zH (aDE t bl (EvQ.eq (EvN.toQ (aFK (rs := (f.map D.int).map fun d => match d with | .int i => .int (-i) | d => d) t ["f", "number"] (csc (by decide +kernel)) (aYX (yA t 0 rfl)) (by rw [List.length_map]; exact aQG hf) fun X' cx => ?_)) ?_)))
 ·have t' := cx.at'
  refine CRun.all (fun d => [.val (qO f), .val d]) _ _ _ (fun d hd => jP t' 1) (fun d hd e he => jP t' 1) fun d hd => ?_
  obtain ⟨i, _, rfl⟩ := List.mem_map.mp hd
  exact aCR (yA t' 1 rfl)
 ·rw [List.map_map, List.map_map]; rfl
theorem aCP {α : Type} {xs : List α} {i : Nat} {x : α} (h : xs[i]? = some x) : xs.take (i + 1) = xs.take i ++ [x] := by
 rw [List.take_add_one, h]; rfl
def aPG (s : Int) (xs : List Int) : Int := xs.foldl (fun s x => (s * 69621 + x) % 2147483647) s
def aZJ (ns : List Int) (j : Int) : Int := if j < ns.length then ns.getD j.toNat 0 else aPG (48271 * (j * j + 7 * j + 11) % 2147483647) (aBY ns none (some 3))
def aCI (ds : List D) (d : D) : Prop := ∃ (ns : List Int) (j : Int), ds = [.scr ns, .int j] /\ 0 <= j /\ j < 1000 /\ d = .int (aZJ ns j)
theorem aMN : ∀ ds d, aCI ds d -> ds.length = 2 := by rintro _ _ ⟨a, b, rfl, _⟩; rfl
def stF (s0 : Int) : Nat -> Int
 | 0 => s0
 | i + 1 => (stF s0 i * (stF s0 i % 65521 + 40487) + 7 * (i : Int) + 5) % 1999999973
def dgF (d0 : Int) : Nat -> Int
 | 0 => d0
 | i + 1 => dgF d0 i / 1000000
def itF (s0 d0 : Int) (i : Nat) : Int := if dgF d0 i > 0 then dgF d0 i % 1000000 else stF s0 (i + 1)
def aLF (c : Int) : Int := (c % 1999999973 + 31) * 765432101 % 1999999973
def aQB (c : Int) : Int := if c < 0 \/ c ≥ 10 ^ 18 then c.natAbs else 0
def aBA (c : Int) (n : Nat) : List Int := (List.range n).map (itF (aLF c) (aQB c))
theorem aHO (c : Int) (n : Nat) : (aBA c n).length = n := by simp [aBA]
def jN (ds : List D) (d : D) : Prop := ∃ (c : Int) (n : Nat), ds = [.int c, .int n] /\ n < 1000 /\ d = qV (aBA c n)
theorem aGF : ∀ ds d, jN ds d -> ds.length = 2 := by rintro _ _ ⟨a, b, rfl, _⟩; rfl
theorem aEI {n i : Nat} {d : D} (h : (wP 0 n)[i]? = some d) : i < n /\ d = .int (i : Int) := by
 unfold wP at h
 rw [List.getElem?_map] at h
 by_cases hi : i < n
 ·rw [List.getElem?_range hi] at h
  cases h
  exact ⟨hi, by show D.int (0 + (i : Int)) = _; rw [Int.zero_add]⟩
 ·rw [List.getElem?_eq_none (by simpa using hi)] at h; cases h
theorem aSA (h : DefX P w K mg base k N__law_cell (yB jE) X) (m_len : mg "len" = none) :
  ∀ ds d, aCI ds d -> EvSs X (ds.map Sl.val ++ List.replicate (N__law_cell.length - ds.length) Sl.un) (yF jE) (.rt d) := by
 rintro ds d ⟨ns, j, rfl, h0, h1, rfl⟩
 have t := h.at'
 haveI := h.fnT
 have bl : Blt X (yB jE) "len" (.builtin "len") := yR (by rw [h.mg']; exact m_len)
 show EvSs X [.val (.scr ns), .val (.int j), .un, .un] _ _
 by_cases hj : j < ns.length
 ·refine wR (jY (EvT.eq (aAA (yA t 1 rfl) (jH t bl (EvE.qs (yA t 0 rfl)))) ?_) (yH (zH (zE (EvE.qs (yA t 0 rfl)) (yA t 1 rfl) ?_))))
  ·rw [List.length_map]; exact decide_eq_true hj
  ·have hn : j.toNat < ns.length := by omega
   rw [aIX h0 rfl hn]
   unfold aZJ
   rw [if_pos hj, List.getD_eq_getElem?_getD, List.getElem?_eq_getElem hn]; rfl
 ·refine yG (jI (EvT.eq (aAA (yA t 1 rfl) (jH t bl (EvE.qs (yA t 0 rfl)))) ?_) zW) ?_
  ·rw [List.length_map]; exact decide_eq_false hj
  refine yG (qR t 2 (yV (wQ yD (zQ (zQ (wQ (yA t 1 rfl) (yA t 1 rfl) (vV (by omega) (by omega))) (wQ yD (yA t 1 rfl) (vV (by decide) (by decide)))) yD) (vV (by decide) (by decide))) yD (by decide))) ?_
  refine yG (ρ' := [.val (.scr ns), .val (.int j), .val (.int (aZJ ns j)), .un]) (aBH t (aTS (EvE.eq (EvN.toE (aAN (EvE.qs (yA t 0 rfl)) vE (vR yD))) (by rw [aAB]))) ?_) (yH (zH (yA t 2 rfl)))
  refine FRun.uptoE (fun i => [.val (.scr ns), .val (.int j), .val (.int (aPG (48271 * (j * j + 7 * j + 11) % 2147483647) ((aBY ns none (some 3)).take i))), .un]) (fun i d hi => ?_) rfl ?_
  ·rw [List.getElem?_map] at hi
   cases e : (aBY ns none (some 3))[i]? with
   | none => rw [e] at hi; cases hi
   | some x =>
    rw [e] at hi; cases hi
    refine ⟨_, jJ t 3, EvSs.weak (yH (qR t 2 (yV (zQ (wQ (yA t 2 rfl) yD (aBJ (by decide) (by decide))) (yA t 3 rfl)) yD (by decide)))) ?_⟩
    have e2 : aPG (48271 * (j * j + 7 * j + 11) % 2147483647) ((aBY ns none (some 3)).take (i + 1)) = (aPG (48271 * (j * j + 7 * j + 11) % 2147483647) ((aBY ns none (some 3)).take i) * 69621 + x) % 2147483647 := by
     rw [aCP e]; unfold aPG; rw [List.foldl_append]; rfl
    rw [e2]
    exact .keep (.keep (.keep (.forget .nil)))
  ·rw [List.length_map, List.take_length]
   unfold aZJ; rw [if_neg hj]
theorem aKD (h : DefX P w K mg base k N__law_numbers (yB yW) X) (m_range : mg "range" = none) (m_abs : mg "abs" = none) (m_int : mg "int" = none) :
  ∀ ds d, jN ds d -> EvSs X (ds.map Sl.val ++ List.replicate (N__law_numbers.length - ds.length) Sl.un) (yF yW) (.rt d) := by
 rintro ds d ⟨c, n, rfl, hn, rfl⟩
 have t := h.at'
 haveI := h.fnT
 have b1 : Blt X (yB yW) "range" (.type "range") := yR (by rw [h.mg']; exact m_range)
 have b2 : Blt X (yB yW) "abs" (.builtin "abs") := yR (by rw [h.mg']; exact m_abs)
 have b3 : Blt X (yB yW) "int" (.type "int") := yR (by rw [h.mg']; exact m_int)
 show EvSs X [.val (.int c), .val (.int n), .un, .un, .un, .un] _ _
 refine yG (aCK t 2 (zX yE)) ?_
 refine yG (qR t 3 (yV (wQ (zQ (yV (yA t 0 rfl) yD (by decide)) yD) yD (aBJ (by decide) (by decide))) yD (by decide))) ?_
 refine yG (qR t 4 yD) ?_
 refine yG (ρ' := [.val (.int c), .val (.int n), .own [], .val (.int (aLF c)), .val (.int (aQB c)), .un]) ?_ ?_
 ·by_cases h1 : c < 0
  ·refine jY (EvW.toT (aKV (EvT.eq (aAA (yA t 0 rfl) yD) (decide_eq_true h1)))) (EvSs.eq (yH (qR t 4 (aTO t b2 (yA t 0 rfl)))) ?_)
   have e : aQB c = (c.natAbs : Int) := by unfold aQB; rw [if_pos (.inl h1)]
   rw [e]; rfl
  ·by_cases h2 : c ≥ 10 ^ 18
   ·refine jY (EvW.toT (aDP (EvT.eq (aAA (yA t 0 rfl) yD) (decide_eq_false h1)) (aFS (EvT.eq (eKU (yA t 0 rfl) (aOZ yD yD ⟨by decide, by decide, by decide⟩)) (decide_eq_true h2))))) (EvSs.eq (yH (qR t 4 (aTO t b2 (yA t 0 rfl)))) ?_)
    have e : aQB c = (c.natAbs : Int) := by unfold aQB; rw [if_pos (.inr h2)]
    rw [e]; rfl
   ·refine jI (EvW.toT (aDP (EvT.eq (aAA (yA t 0 rfl) yD) (decide_eq_false h1)) (aFS (EvT.eq (eKU (yA t 0 rfl) (aOZ yD yD ⟨by decide, by decide, by decide⟩)) (decide_eq_false h2))))) (EvSs.eq zW ?_)
    have e : aQB c = 0 := by unfold aQB; rw [if_neg (by rintro (z | z); exact h1 z; exact h2 z)]
    rw [e]; rfl
 refine yG (aBH t (wD t b1 (yA t 1 rfl) (by omega) (by omega)) (FRun.uptoE (ρ' := [.val (.int c), .val (.int n), .own ((aBA c n).map D.int), .val (.int (stF (aLF c) n)), .val (.int (dgF (aQB c) n)), .un])
  (fun i => [.val (.int c), .val (.int n), .own ((aBA c i).map D.int), .val (.int (stF (aLF c) i)), .val (.int (dgF (aQB c) i)), .un]) (fun i d hi => ?_) rfl ?_)) (vG 2 rfl (yH (zH (yA t 2 rfl))))
 ·obtain ⟨hin, rfl⟩ := aEI hi
  have hi' : i < n := by simpa using hin
  refine ⟨_, jJ t 5, EvSs.weak (yG (qR t 3 (yV (zQ (zQ (wQ (yA t 3 rfl) (zQ (yV (yA t 3 rfl) yD (by decide)) yD) (aBJ (by omega) (by omega))) (wQ yD (yA t 5 rfl) (vV (by decide) (by decide)))) yD) yD (by decide)))
   (yG (wX t 2 rfl (d := .int (itF (aLF c) (aQB c) i)) (zE (EvN.toQ (zX (yC (yA t 3 rfl) (yC (yV (yA t 4 rfl) yD (by decide)) yE)))) (aIK t b3 (eKQ (yA t 4 rfl) yD)) ?_) ?_)
   (yH (qR t 4 (aMV t (yA t 4 rfl) yD (by decide)))))) ?_⟩
  ·by_cases hd : 0 < dgF (aQB c) i
   ·have e : itF (aLF c) (aQB c) i = dgF (aQB c) i % 1000000 := by unfold itF; rw [if_pos hd]
    rw [e, decide_eq_true hd]; rfl
   ·have e : itF (aLF c) (aQB c) i = stF (aLF c) (i + 1) := by unfold itF; rw [if_neg hd]
    rw [e, decide_eq_false hd]; rfl
  ·rw [List.length_map, aHO]; exact aQG (by omega)
  ·have e : aBA c (i + 1) = aBA c i ++ [itF (aLF c) (aQB c) i] := by
    unfold aBA; rw [List.range_succ, List.map_append]; rfl
   rw [e, List.map_append]
   exact .keep (.keep (.keep (.keep (.keep (.forget .nil)))))
 ·have e : (wP 0 (n : Int).toNat).length = n := by simp [wP]
  rw [e]
def wV (xs : List Int) : List Int := (xs.reverse.dropWhile (· == 0)).reverse
theorem aBC (xs : List Int) : wV (xs ++ [0]) = wV xs := by simp [wV]
theorem aEE {a : Int} (xs : List Int) (h : a ≠ 0) : wV (xs ++ [a]) = xs ++ [a] := by simp [wV, h]
theorem aGJ (xs : List Int) : (wV xs).length <= xs.length := by
 unfold wV
 rw [List.length_reverse]
 have := (List.dropWhile_sublist (l := xs.reverse) (p := fun x => x == 0)).length_le
 rw [List.length_reverse] at this
 exact this
theorem eEG (xs : List Int) : wV xs = [] \/ ∃ ys a, wV xs = ys ++ [a] /\ a ≠ 0 := by
 induction h : xs.length generalizing xs with
 | zero => left; rw [List.eq_nil_of_length_eq_zero h]; rfl
 | succ n ih =>
  rcases List.eq_nil_or_concat xs with e | ⟨ys, y, e⟩
  ·subst e; left; rfl
  ·rw [List.concat_eq_append] at e
   subst e
   by_cases hy : y = 0
   ·subst hy; rw [aBC]; exact ih ys (by simpa using h)
   ·right; exact ⟨ys, y, aEE ys hy, hy⟩
theorem aVV {X : Cx} {c : Expr} {body : List Stmt} (R : List Int -> Rho) (h1 : EvT X (R []) c false) (h2 : ∀ ys a, (ys ++ [a]).length < 1000 -> EvT X (R (ys ++ [a])) c (decide (a = 0))) (h3 : ∀ ys a, EvSs X (R (ys ++ [a])) body (.nx (R ys))) :
  ∀ (n : Nat) (ys : List Int), ys.length = n -> ys.length < 1000 -> ∃ m, WRun X c body m (R ys) (.nx (R (wV ys))) := by
 intro n
 induction n with
 | zero => intro ys h _; rw [List.eq_nil_of_length_eq_zero h]; exact ⟨0, .stop h1⟩
 | succ n ih =>
  intro ys h hl
  rcases List.eq_nil_or_concat ys with e | ⟨zs, a, e⟩
  ·subst e; exact ⟨0, .stop h1⟩
  ·rw [List.concat_eq_append] at e
   subst e
   by_cases ha : a = 0
   ·subst ha
    rw [aBC]
    have hz : zs.length = n := by simpa using h
    obtain ⟨m, q⟩ := ih zs hz (by omega)
    exact ⟨m + 1, .step (EvT.eq (h2 zs 0 hl) rfl) (h3 zs 0) q⟩
   ·rw [aEE zs ha]
    exact ⟨0, .stop (EvT.eq (h2 zs a hl) (decide_eq_false ha))⟩
def aCG (ds : List D) (d : D) : Prop := ∃ xs : List Int, ds = [qV xs] /\ xs.length < 1000 /\ d = qO (wV xs)
theorem aML : ∀ ds d, aCG ds d -> ds.length = 1 := by rintro _ _ ⟨a, rfl, _⟩; rfl
def inn (f g : List Int) (i : Nat) (acc : List Int) : Nat -> List Int
 | 0 => acc
 | j + 1 => (inn f g i acc j).set (i + j) ((inn f g i acc j).getD (i + j) 0 + f.getD i 0 * g.getD j 0)
def aQX (f g : List Int) : Nat -> List Int
 | 0 => List.replicate (f.length + g.length) 0
 | i + 1 => inn f g i (aQX f g i) g.length
theorem aFI (f g : List Int) (i : Nat) (acc : List Int) : ∀ j, (inn f g i acc j).length = acc.length
 | 0 => rfl
 | j + 1 => by rw [inn, List.length_set, aFI]
theorem aMB (f g : List Int) : ∀ i, (aQX f g i).length = f.length + g.length
 | 0 => by rw [aQX, List.length_replicate]
 | i + 1 => by rw [aQX, aFI, aMB]
def aAQ (f g : List Int) : List Int := wV (aQX f g f.length)
theorem aKE (f g : List Int) : (aAQ f g).length <= f.length + g.length := by
 have := aGJ (aQX f g f.length)
 rw [aMB] at this
 exact this
theorem aMQ {xs : List Int} {j : Nat} (h : j < xs.length) : xs.getD j 0 = xs[j] := by rw [List.getD_eq_getElem?_getD, List.getElem?_eq_getElem h]; rfl
theorem wU {xs : List Int} {n : Nat} (h : n < xs.length) : atI (xs.map D.int) (n : Int) = some (.int (xs.getD n 0)) := by
 rw [aIX (by omega) (Int.toNat_natCast n) h, aMQ h]
theorem aRZ (h : DefX P w K mg base k N__law_trim (yB qH) X) (m_list : mg "list" = none) (m_tuple : mg "tuple" = none) (m_len : mg "len" = none) :
  ∀ ds d, aCG ds d -> EvSs X (ds.map Sl.val ++ List.replicate (N__law_trim.length - ds.length) Sl.un) (yF qH) (.rt d) := by
 rintro ds d ⟨xs, rfl, hl, rfl⟩
 have t := h.at'
 haveI := h.fnT
 have b1 : Blt X (yB qH) "list" (.type "list") := yR (by rw [h.mg']; exact m_list)
 have b2 : Blt X (yB qH) "tuple" (.type "tuple") := yR (by rw [h.mg']; exact m_tuple)
 have b3 : Blt X (yB qH) "len" (.builtin "len") := yR (by rw [h.mg']; exact m_len)
 show EvSs X [.val (qV xs), .un] _ _
 refine yG (aCK t 1 (eGO t b1 (EvE.ql (yA t 0 rfl)))) ?_
 refine yG (aHJ t (aVV (fun ys => [.val (qV xs), .own (ys.map D.int)]) ?_ (fun ys a hy => ?_) (fun ys a => ?_) _ xs rfl hl)) (yH (zH (aDE t b2 (aAL t 1 rfl))))
 ·exact EvW.toT (aII (aFU t (EvQ.p (aAL t 1 rfl)) (EvE.p (EvN.toE (zX yE))) (vO []) (vO []) (by have := aRM [] []; exact congrArg not this)))
 ·refine EvW.toT (aIH (aFU t (EvQ.p (aAL t 1 rfl)) (EvE.p (EvN.toE (zX yE))) (vO (ys ++ [a])) (vO []) (by have := aRM (ys ++ [a]) []; rw [decide_eq_false (by simp)] at this; exact congrArg not this)) (aIJ (jX (zE (d := .int a) (aAL t 1 rfl) (jM (jH t b3 (aAL t 1 rfl)) yD) ?_) yD)))
  rw [List.length_map, aIX (n := ys.length) (by simp) (by simp) (by simp)]
  simp
 ·refine EvSs.eq (yH (eHV t 1 rfl (by simp))) ?_
  rw [List.map_append]
  have e : (ys.map D.int ++ [a].map D.int).dropLast = ys.map D.int := by simp
  rw [e]; rfl
def RowOk (f : List Int) : Prop := f = [] \/ ∃ ys a, f = ys ++ [a] /\ a ≠ 0
theorem eAM (xs : List Int) : xs.take (wV xs).length = wV xs := by
 induction h : xs.length generalizing xs with
 | zero => rw [List.eq_nil_of_length_eq_zero h]; rfl
 | succ n ih =>
  rcases List.eq_nil_or_concat xs with e | ⟨ys, y, e⟩
  ·subst e; rfl
  ·rw [List.concat_eq_append] at e
   subst e
   by_cases hy : y = 0
   ·subst hy
    rw [aBC]
    have q := ih ys (by simpa using h)
    have l := aGJ ys
    rw [List.take_append_of_le_length l]; exact q
   ·rw [aEE ys hy, List.take_length]
theorem aTW {X : Cx} {c : Expr} {body : List Stmt} (R : Nat -> Rho) (xs : List Int) (h1 : EvT X (R 0) c false) (h2 : ∀ m (h : m < xs.length), EvT X (R (m + 1)) c (decide (xs[m] = 0))) (h3 : ∀ m, EvSs X (R (m + 1)) body (.nx (R m))) :
  ∀ m, m <= xs.length -> ∃ n, WRun X c body n (R m) (.nx (R (wV (xs.take m)).length))
 | 0, _ => ⟨0, .stop h1⟩
 | m + 1, hm => by
  have hlt : m < xs.length := hm
  have e : xs.take (m + 1) = xs.take m ++ [xs[m]] := aCP (List.getElem?_eq_getElem hlt)
  by_cases hz : xs[m] = 0
  ·obtain ⟨n, q⟩ := aTW R xs h1 h2 h3 m (by omega)
   refine ⟨n + 1, .step (EvT.eq (h2 m hlt) (decide_eq_true hz)) (h3 m) ?_⟩
   rw [e, hz, aBC]; exact q
  ·refine ⟨0, ?_⟩
   rw [e, aEE _ hz]
   have el : (xs.take m ++ [xs[m]]).length = m + 1 := by rw [<- e, List.length_take]; omega
   rw [el]
   exact .stop (EvT.eq (h2 m hlt) (decide_eq_false hz))
def aEV (ds : List D) (d : D) : Prop := ∃ xs : List Int, ds = [qV xs] /\ xs.length < 1000 /\ d = qO (wV xs)
theorem aUU : ∀ ds d, aEV ds d -> ds.length = 1 := by rintro _ _ ⟨a, rfl, _⟩; rfl
def aHM (f g : List Int) : List Int := wV ((List.range (max f.length g.length)).map fun i => f.getD i 0 + g.getD i 0)
def aBS (ds : List D) (d : D) : Prop := ∃ f g : List Int, ds = [qO f, qO g] /\ f.length < 1000 /\ g.length < 1000 /\ d = qO (aHM f g)
theorem aOU : ∀ ds d, aBS ds d -> ds.length = 2 := by rintro _ _ ⟨a, b, rfl, _⟩; rfl
def aOO (f g : List Int) : Nat -> List Int
 | 0 => List.replicate (f.length + g.length - 1) 0
 | i + 1 => inn f g i (aOO f g i) g.length
theorem aGO (f g : List Int) : ∀ i, (aOO f g i).length = f.length + g.length - 1
 | 0 => by rw [aOO, List.length_replicate]
 | i + 1 => by rw [aOO, aFI, aGO]
theorem aTJ (f g : List Int) (i : Nat) (acc : List Int) (z : Int) : ∀ j, i + j <= acc.length -> inn f g i (acc ++ [z]) j = inn f g i acc j ++ [z]
 | 0, _ => rfl
 | j + 1, h => by
  have ih := aTJ f g i acc z j (by omega)
  have hl : i + j < (inn f g i acc j).length := by rw [aFI]; omega
  rw [inn, inn, ih, List.set_append_left _ _ hl]
  have e : (inn f g i acc j ++ [z]).getD (i + j) 0 = (inn f g i acc j).getD (i + j) 0 := by
   rw [List.getD_eq_getElem?_getD, List.getD_eq_getElem?_getD, List.getElem?_append_left hl]
  rw [e]
theorem aOP (f g : List Int) (hf : f ≠ []) (hg : g ≠ []) : ∀ i, i <= f.length -> aQX f g i = aOO f g i ++ [0]
 | 0, _ => by
  have h1 := List.length_pos_iff.mpr hf
  rw [aQX, aOO, show f.length + g.length = (f.length + g.length - 1) + 1 by omega, List.replicate_succ']
  rfl
 | i + 1, h => by
  have h1 := List.length_pos_iff.mpr hf
  rw [aQX, aOO, aOP f g hf hg i (by omega), aTJ]
  rw [aGO]; omega
theorem aUH {f g : List Int} (hf : f ≠ []) (hg : g ≠ []) : wV (aOO f g f.length) = aAQ f g := by
 unfold aAQ; rw [aOP f g hf hg _ (Nat.le_refl _), aBC]
theorem aHB : ∀ n, wV (List.replicate n (0 : Int)) = []
 | 0 => rfl
 | n + 1 => by rw [List.replicate_succ', aBC, aHB]
theorem aVX (g : List Int) : aAQ [] g = [] := by
 unfold aAQ; rw [List.length_nil, aQX]; exact aHB _
theorem aTF (f : List Int) : ∀ i, aQX f [] i = List.replicate f.length 0
 | 0 => rfl
 | i + 1 => by rw [aQX, List.length_nil, inn, aTF]
theorem aUI (f : List Int) : aAQ f [] = [] := by unfold aAQ; rw [aTF]; exact aHB _
def aCC (ds : List D) (d : D) : Prop := ∃ f g : List Int, ds = [qO f, qO g] /\ f.length < 100 /\ g.length < 100 /\ (∀ y ∈ g, -(2 ^ 63) < y /\ y < 2 ^ 63) /\ d = qO (aAQ f g)
theorem aMG : ∀ ds d, aCC ds d -> ds.length = 2 := by rintro _ _ ⟨a, b, rfl, _⟩; rfl
theorem aRW (h : DefX P w K mg base k N_row_times (yB qP) X) (m_enumerate : mg "enumerate" = none) (m_len : mg "len" = none) (c1 : Callee X "row_of" aEV) :
  ∀ ds d, aCC ds d -> EvSs X (ds.map Sl.val ++ List.replicate (N_row_times.length - ds.length) Sl.un) (yF qP) (.rt d) := by
 rintro ds d ⟨f, g, rfl, hf, hg, hb, rfl⟩
 have t := h.at'
 haveI := h.fnT
 have b1 : Blt X (yB qP) "enumerate" (.type "enumerate") := yR (by rw [h.mg']; exact m_enumerate) rfl (by decide +kernel)
 have b2 : Blt X (yB qP) "len" (.builtin "len") := yR (by rw [h.mg']; exact m_len)
 show EvSs X [.val (qO f), .val (qO g), .un, .un, .un, .un, .un] _ _
 by_cases h1 : f = []
 ·refine wR (jY (EvW.toT (aKV (wC t (EvE.p (yA t 0 rfl)) (EvE.p (d := qO []) (yP yE)) (zA _) (zA _) (by rw [aDY, h1]; rfl)))) (yH (zH (EvE.eq (d := .tup []) (yP yE) ?_))))
  rw [h1, aVX]; rfl
 by_cases h2 : g = []
 ·refine wR (jY (EvW.toT (aDP (wC t (EvE.p (yA t 0 rfl)) (EvE.p (d := qO []) (yP yE)) (zA _) (zA _) (by rw [aDY, decide_eq_false h1])) (aFS (wC t (EvE.p (yA t 1 rfl)) (EvE.p (d := qO []) (yP yE)) (zA _) (zA _) (by rw [aDY, h2]; rfl))))) (yH (zH (EvE.eq (d := .tup []) (yP yE) ?_))))
  rw [h2, aUI]; rfl
 have lf := List.length_pos_iff.mpr h1
 have lg := List.length_pos_iff.mpr h2
 refine yG (jI (EvW.toT (aDP (wC t (EvE.p (yA t 0 rfl)) (EvE.p (d := qO []) (yP yE)) (zA _) (zA _) (by rw [aDY, decide_eq_false h1])) (aFS (wC t (EvE.p (yA t 1 rfl)) (EvE.p (d := qO []) (yP yE)) (zA _) (zA _) (by rw [aDY, decide_eq_false h2]))))) zW) ?_
 have en : ((f.length : Int) + g.length - 1).toNat = f.length + g.length - 1 := by omega
 refine yG (aCK (xs := (aOO f g 0).map D.int) t 2 (EvN.eq (eDO (n := (f.length : Int) + g.length - 1) (EvN.toE (zX (yC yD yE))) (EvE.eq (jM (zQ (jH t b2 (EvE.qt (yA t 0 rfl))) (jH t b2 (EvE.qt (yA t 1 rfl)))) yD) (by rw [List.length_map, List.length_map])) (by omega) (by omega) (by rw [en]; have := aRC; simp; omega)) (by rw [en, eAV]; rfl))) ?_
 refine yG (ρ' := [.val (qO f), .val (qO g), .own ((aOO f g f.length).map D.int), .un, .un, .un, .un]) (aBH t (aNC t b1 (yA t 0 rfl)) (FRun.uptoE (fun i => [.val (qO f), .val (qO g), .own ((aOO f g i).map D.int), .un, .un, .un, .un]) (fun i d hi => ?_) rfl ?_)) ?_
 ·obtain ⟨e, he, rfl⟩ := aCT hi
  rw [List.getElem?_map] at he
  cases hx : f[i]? with
  | none => rw [hx] at he; cases he
  | some x =>
  rw [hx] at he; cases he
  have hi' : i < f.length := (List.getElem?_eq_some_iff.mp hx).1
  have ex : f.getD i 0 = x := by rw [List.getD_eq_getElem?_getD, hx]; rfl
  refine ⟨_, aCV t 3 4, EvSs.weak (ρ1 := [.val (qO f), .val (qO g), .own ((aOO f g (i + 1)).map D.int), .val (.int i), .val (.int x), .un, .un]) (yH (aBH t (aNC t b1 (yA t 1 rfl))
   (FRun.uptoE (fun j => [.val (qO f), .val (qO g), .own ((inn f g i (aOO f g i) j).map D.int), .val (.int i), .val (.int x), .un, .un]) (fun j d hj => ?_) rfl ?_))) (.keep (.keep (.keep (.forget (.forget (.keep (.keep .nil)))))))⟩
  ·obtain ⟨e, he, rfl⟩ := aCT hj
   rw [List.getElem?_map] at he
   cases hy : g[j]? with
   | none => rw [hy] at he; cases he
   | some y =>
   rw [hy] at he; cases he
   have hj' : j < g.length := (List.getElem?_eq_some_iff.mp hy).1
   have ey : g.getD j 0 = y := by rw [List.getD_eq_getElem?_getD, hy]; rfl
   have hyb := hb y (List.mem_of_getElem? hy)
   have hl : (inn f g i (aOO f g i) j).length = f.length + g.length - 1 := by rw [aFI, aGO]
   have hlt : i + j < (inn f g i (aOO f g i) j).length := by omega
   refine ⟨_, aCV t 5 6, EvSs.weak (yH (aWL (j := i + j) (u := (inn f g i (aOO f g i) j).getD (i + j) 0) t 2 aTI rfl (zQ (yA t 3 rfl) (yA t 5 rfl)) ?_ ?_ (wQ (yA t 4 rfl) (yA t 6 rfl) (aBJ (by omega) (by omega))) trivial)) ?_⟩
   ·rw [List.length_map]; exact aXW (by omega) (by omega) (by omega)
   ·rw [List.getElem?_map, List.getD_eq_getElem?_getD, List.getElem?_eq_getElem hlt]; rfl
   ·rw [inn, List.map_set, ex, ey]
    exact .keep (.keep (.keep (.keep (.keep (.forget (.forget .nil))))))
  ·rw [aCS, List.length_map]; rfl
 ·rw [aCS, List.length_map]
 ·refine vG 2 rfl (yH (zH (EvE.eq (yO t c1 (yC (yA t 2 rfl) yE) ⟨aOO f g f.length, rfl, by rw [aGO]; omega, rfl⟩) ?_)))
  rw [aUH h1 h2]
theorem aOL (f g : List Int) : (aHM f g).length <= max f.length g.length := by
 have := aGJ ((List.range (max f.length g.length)).map fun i => f.getD i 0 + g.getD i 0)
 rw [List.length_map, List.length_range] at this
 exact this
theorem aEQ {g : List Int} {i : Nat} (h : g.length <= i) : g.getD i 0 = 0 := by rw [List.getD_eq_getElem?_getD, List.getElem?_eq_none h]; rfl
theorem aHC (xs : List Int) (i : Nat) : (wV xs).getD i 0 = xs.getD i 0 := by
 have key : ∀ ys : List Int, ∀ i, (ys.dropWhile (· == 0)).reverse.getD i 0 = ys.reverse.getD i 0 := by
  intro ys
  induction ys with
  | nil => intro i; rfl
  | cons y ys ih =>
   intro i
   by_cases hy : y = 0
   ·subst hy
    have : ((0 : Int) :: ys).dropWhile (· == 0) = ys.dropWhile (· == 0) := by simp [List.dropWhile]
    rw [this, ih i, List.reverse_cons]
    rw [List.getD_eq_getElem?_getD, List.getD_eq_getElem?_getD]
    by_cases hi : i < ys.reverse.length
    ·rw [List.getElem?_append_left hi]
    ·rw [List.getElem?_append_right (by omega), List.getElem?_eq_none (by omega)]
     cases z : i - ys.reverse.length with
     | zero => rfl
     | succ n => rfl
   ·have : (y :: ys).dropWhile (· == 0) = y :: ys := by rw [List.dropWhile_cons_of_neg (by simpa using hy)]
    rw [this]
 have := key xs.reverse i
 rw [List.reverse_reverse] at this
 exact this
theorem eCJ {f g : List Int} (hf : RowOk f) (h : ∀ i, f.getD i 0 = g.getD i 0) : f.length <= g.length := by
 rcases hf with e | ⟨ys, a, e, ha⟩
 ·subst e; exact Nat.zero_le _
 ·rcases Nat.lt_or_ge g.length f.length with z | z
  ·have h1 := h ys.length
   subst e
   rw [aEQ (g := g) (i := ys.length) (by simp at z; omega)] at h1
   rw [List.getD_eq_getElem?_getD, List.getElem?_append_right (Nat.le_refl _), Nat.sub_self] at h1
   exact absurd h1 ha
  ·exact z
theorem eEU {f g : List Int} (hf : RowOk f) (hg : RowOk g) (h : ∀ i, f.getD i 0 = g.getD i 0) : f = g := by
 have h1 := eCJ hf h
 have h2 := eCJ hg fun i => (h i).symm
 refine List.ext_getElem (by omega) fun i h3 h4 => ?_
 have := h i
 rw [aMQ h3, aMQ h4] at this
 exact this
theorem eCB (xs : List Int) : RowOk (wV xs) := eEG xs
theorem eBE {φ : Int -> Int} (h0 : φ 0 = 0) (f : List Int) (i : Nat) : (f.map φ).getD i 0 = φ (f.getD i 0) := by
 rw [List.getD_eq_getElem?_getD, List.getElem?_map, List.getD_eq_getElem?_getD]
 cases f[i]? with
 | none => exact h0.symm
 | some x => rfl
def aAR : Nat -> (Nat -> Int) -> Int
 | 0, _ => 0
 | n + 1, h => aAR n h + h n
theorem aEY (h : Nat -> Int) : ∀ n, aAR (n + 1) h = h 0 + aAR n (fun i => h (i + 1))
 | 0 => by simp [aAR]
 | n + 1 => by
  rw [aAR, aEY h n, aAR]; omega
theorem aLC (h g : Nat -> Int) : ∀ n, aAR n (fun i => h i + g i) = aAR n h + aAR n g
 | 0 => rfl
 | n + 1 => by rw [aAR, aLC h g n, aAR, aAR]; omega
theorem zF {h g : Nat -> Int} : ∀ n, (∀ i, i < n -> h i = g i) -> aAR n h = aAR n g
 | 0, _ => rfl
 | n + 1, e => by rw [aAR, aAR, zF n (fun i hi => e i (by omega)), e n (by omega)]
theorem aBG : ∀ n, aAR n (fun _ => 0) = 0
 | 0 => rfl
 | n + 1 => by rw [aAR, aBG n]; rfl
def rs : List Int -> (Nat -> Int) -> Int
 | [], _ => 0
 | a :: f, ψ => a * ψ 0 + rs f (fun i => ψ (i + 1))
theorem aAS : ∀ (f : List Int) (n : Nat) (ψ : Nat -> Int), f.length <= n -> rs f ψ = aAR n (fun i => f.getD i 0 * ψ i)
 | [], n, ψ, _ => by
  exact ((zF (g := fun _ => 0) n fun i _ => by simp).trans (aBG n)).symm
 | a :: f, 0, ψ, h => by simp at h
 | a :: f, n + 1, ψ, h => by
  rw [rs, aEY, aAS f n _ (by simpa using h)]
  rfl
theorem eCH : ∀ (f : List Int) (i : Nat), rs f (fun j => if j = i then 1 else 0) = f.getD i 0
 | [], i => by simp [rs]
 | a :: f, 0 => by
  have e : rs f (fun j => if j + 1 = 0 then 1 else 0) = 0 := by
   have : (fun j : Nat => if j + 1 = 0 then (1 : Int) else 0) = fun _ => 0 := funext fun j => if_neg (by omega)
   rw [this, aAS f f.length _ (Nat.le_refl _)]
   exact (zF (g := fun _ => 0) _ fun i _ => by simp).trans (aBG _)
  rw [rs, e]; simp
 | a :: f, i + 1 => by
  have e : (fun j : Nat => if j + 1 = i + 1 then (1 : Int) else 0) = fun j => if j = i then 1 else 0 := funext fun j => by
   by_cases h : j = i
   ·rw [if_pos h, if_pos (by omega)]
   ·rw [if_neg h, if_neg (by omega)]
  rw [rs, e, eCH f i]; simp
theorem eCI {f g : List Int} (h : ∀ i, f.getD i 0 = g.getD i 0) (ψ : Nat -> Int) : rs f ψ = rs g ψ := by
 rw [aAS f (max f.length g.length) ψ (by omega), aAS g (max f.length g.length) ψ (by omega)]
 exact zF _ fun i _ => by rw [h i]
theorem aQO (ψ : Nat -> Int) (h : ∀ i, ψ i = 0) (f : List Int) : rs f ψ = 0 := by
 rw [aAS f f.length ψ (Nat.le_refl _)]
 exact (zF (g := fun _ => 0) _ fun i _ => by rw [h i]; simp).trans (aBG _)
theorem eCF : ∀ (f : List Int) (m : Nat) (v : Int) (ψ : Nat -> Int), m < f.length -> rs (f.set m v) ψ = rs f ψ + (v - f.getD m 0) * ψ m
 | [], m, v, ψ, h => by simp at h
 | a :: f, 0, v, ψ, _ => by
  show v * ψ 0 + _ = a * ψ 0 + _ + (v - a) * ψ 0
  rw [Int.sub_mul]; omega
 | a :: f, m + 1, v, ψ, h => by
  show a * ψ 0 + rs (f.set m v) _ = a * ψ 0 + rs f _ + (v - f.getD m 0) * ψ (m + 1)
  rw [eCF f m v _ (by simpa using h)]; omega
theorem eET (ψ χ : Nat -> Int) : ∀ (f : List Int), rs f (fun i => ψ i + χ i) = rs f ψ + rs f χ := fun f => by
 rw [aAS f f.length _ (Nat.le_refl _), aAS f f.length _ (Nat.le_refl _), aAS f f.length _ (Nat.le_refl _), <- aLC]
 exact zF _ fun i _ => by rw [Int.mul_add]
abbrev Bd := List (List Int)
def aBR (b : Bd) (i k : Nat) : Int := (b.getD k []).getD i 0
def bs : Bd -> (Nat -> Nat -> Int) -> Int
 | [], _ => 0
 | r :: b, φ => rs r (fun i => φ i 0) + bs b (fun i k => φ i (k + 1))
def eBN (i k : Nat) : Nat -> Nat -> Int := fun a c => if a = i /\ c = k then 1 else 0
theorem aRT : ∀ (b : Bd) (φ : Nat -> Nat -> Int), (∀ i k, φ i k = 0) -> bs b φ = 0
 | [], _, _ => rfl
 | r :: b, φ, h => by rw [bs, aQO _ (fun i => h i 0), aRT b _ fun i k => h i (k + 1)]; rfl
theorem eDT : ∀ (b : Bd) (i k : Nat), bs b (eBN i k) = aBR b i k
 | [], i, k => by simp [bs, aBR]
 | r :: b, i, 0 => by
  rw [bs, aRT b (fun a c => eBN i 0 a (c + 1)) fun a c => if_neg (by omega)]
  have e : (fun a : Nat => eBN i 0 a 0) = fun a => if a = i then 1 else 0 := funext fun a => by
   unfold eBN
   by_cases h : a = i
   ·rw [if_pos ⟨h, rfl⟩, if_pos h]
   ·rw [if_neg (fun z => h z.1), if_neg h]
  rw [e, eCH]; simp [aBR]
 | r :: b, i, k + 1 => by
  have e : rs r (fun a => eBN i (k + 1) a 0) = 0 := aQO _ (fun a => if_neg (by omega)) r
  have e2 : (fun a c : Nat => eBN i (k + 1) a (c + 1)) = eBN i k := funext fun a => funext fun c => by
   unfold eBN
   by_cases h : a = i /\ c = k
   ·rw [if_pos h, if_pos ⟨h.1, by omega⟩]
   ·rw [if_neg h, if_neg (fun z => h ⟨z.1, by omega⟩)]
  rw [bs, e, e2, eDT b i k]; simp [aBR]
theorem eDS : ∀ (b : Bd) (m : Nat) (r : List Int) (φ : Nat -> Nat -> Int), m < b.length -> bs (b.set m r) φ = bs b φ + (rs r (fun i => φ i m) - rs (b.getD m []) (fun i => φ i m))
 | [], m, r, φ, h => by simp at h
 | a :: b, 0, r, φ, _ => by
  show rs r _ + _ = rs a _ + _ + (rs r _ - rs a _)
  omega
 | a :: b, m + 1, r, φ, h => by
  show rs a _ + bs (b.set m r) _ = rs a _ + bs b _ + (rs r _ - rs (b.getD m []) _)
  rw [eDS b m r _ (by simpa using h)]; omega
theorem aKX : ∀ (b : Bd) (n : Nat) (φ : Nat -> Nat -> Int), b.length <= n -> bs b φ = aAR n (fun k => rs (b.getD k []) (fun i => φ i k))
 | [], n, φ, _ => by
  exact ((zF (g := fun _ => 0) n fun i _ => by simp [rs]).trans (aBG n)).symm
 | r :: b, 0, φ, h => by simp at h
 | r :: b, n + 1, φ, h => by
  rw [bs, aEY, aKX b n _ (by simpa using h)]
  rfl
abbrev yJ (b : Bd) : D := .tup (b.map qO)
abbrev aQP (b : Bd) : D := .lst (b.map qO)
def wH (xs : Bd) : Bd := (xs.reverse.dropWhile (· == [])).reverse
theorem aBD (xs : Bd) : wH (xs ++ [[]]) = wH xs := by simp [wH]
theorem aBE {a : List Int} (xs : Bd) (h : a ≠ []) : wH (xs ++ [a]) = xs ++ [a] := by simp [wH, h]
theorem aHD (xs : Bd) : (wH xs).length <= xs.length := by
 unfold wH
 rw [List.length_reverse]
 have := (List.dropWhile_sublist (l := xs.reverse) (p := fun x => x == [])).length_le
 rw [List.length_reverse] at this
 exact this
theorem aVW (xs : Bd) : xs.take (wH xs).length = wH xs := by
 induction h : xs.length generalizing xs with
 | zero => rw [List.eq_nil_of_length_eq_zero h]; rfl
 | succ n ih =>
  rcases List.eq_nil_or_concat xs with e | ⟨ys, y, e⟩
  ·subst e; rfl
  ·rw [List.concat_eq_append] at e
   subst e
   by_cases hy : y = []
   ·subst hy
    rw [aBD]
    have q := ih ys (by simpa using h)
    have l := aHD ys
    rw [List.take_append_of_le_length l]; exact q
   ·rw [aBE ys hy, List.take_length]
theorem eAN (xs : Bd) : wH xs = [] \/ ∃ ys a, wH xs = ys ++ [a] /\ a ≠ [] := by
 induction h : xs.length generalizing xs with
 | zero => left; rw [List.eq_nil_of_length_eq_zero h]; rfl
 | succ n ih =>
  rcases List.eq_nil_or_concat xs with e | ⟨ys, y, e⟩
  ·subst e; left; rfl
  ·rw [List.concat_eq_append] at e
   subst e
   by_cases hy : y = []
   ·subst hy; rw [aBD]; exact ih ys (by simpa using h)
   ·right; exact ⟨ys, y, aBE ys hy, hy⟩
theorem aMP (ys : Bd) (i : Nat) : (ys ++ [[]]).getD i [] = ys.getD i [] := by
 rw [List.getD_eq_getElem?_getD, List.getD_eq_getElem?_getD]
 by_cases h : i < ys.length
 ·rw [List.getElem?_append_left h]
 ·rw [List.getElem?_append_right (by omega), List.getElem?_eq_none (show ys.length <= i by omega)]
  cases (i - ys.length) with
  | zero => rfl
  | succ n => rfl
theorem aEX (xs : Bd) (i : Nat) : (wH xs).getD i [] = xs.getD i [] := by
 induction h : xs.length generalizing xs with
 | zero => rw [List.eq_nil_of_length_eq_zero h]; rfl
 | succ n ih =>
  rcases List.eq_nil_or_concat xs with e | ⟨ys, y, e⟩
  ·subst e; rfl
  ·rw [List.concat_eq_append] at e
   subst e
   by_cases hy : y = []
   ·subst hy; rw [aBD, ih ys (by simpa using h), aMP]
   ·rw [aBE ys hy]
theorem aXS {xs : Bd} {x : List Int} (h : x ∈ wH xs) : x ∈ xs := by
 unfold wH at h
 rw [List.mem_reverse] at h
 have := (List.dropWhile_sublist (l := xs.reverse) (p := fun x => x == [])).subset h
 exact List.mem_reverse.mp this
theorem aPE {X : Cx} {c : Expr} {body : List Stmt} (R : Nat -> Rho) (xs : Bd) (h1 : EvT X (R 0) c false) (h2 : ∀ m (h : m < xs.length), EvT X (R (m + 1)) c (decide (xs[m] = []))) (h3 : ∀ m, EvSs X (R (m + 1)) body (.nx (R m))) :
  ∀ m, m <= xs.length -> ∃ n, WRun X c body n (R m) (.nx (R (wH (xs.take m)).length))
 | 0, _ => ⟨0, .stop h1⟩
 | m + 1, hm => by
  have hlt : m < xs.length := hm
  have e : xs.take (m + 1) = xs.take m ++ [xs[m]] := aCP (List.getElem?_eq_getElem hlt)
  by_cases hz : xs[m] = []
  ·obtain ⟨n, q⟩ := aPE R xs h1 h2 h3 m (by omega)
   refine ⟨n + 1, .step (EvT.eq (h2 m hlt) (decide_eq_true hz)) (h3 m) ?_⟩
   rw [e, hz, aBD]; exact q
  ·refine ⟨0, ?_⟩
   rw [e, aBE _ hz]
   have el : (xs.take m ++ [xs[m]]).length = m + 1 := by rw [<- e, List.length_take]; omega
   rw [el]
   exact .stop (EvT.eq (h2 m hlt) (decide_eq_false hz))
theorem aKZ {α : Type} {g : α -> D} {xs : List α} {i : Int} {n : Nat} (h0 : 0 <= i) (hn : i.toNat = n) (h : n < xs.length) : atI (xs.map g) i = some (g xs[n]) := by
 rw [show i = ((n : Nat) : Int) by omega]
 have e : (xs.map g)[n]? = some (g xs[n]) := by rw [List.getElem?_map, List.getElem?_eq_getElem h]; rfl
 exact aBZ e
theorem aTV {α : Type} (xs : List α) (g : α -> D) {m : Nat} (h : m <= xs.length) : eGU (xs.map g) none (some (m : Int)) = (xs.take m).map g := by
 unfold eGU
 rw [List.length_map]
 have e1 : HT.sIx xs.length 0 none = 0 := by simp [HT.sIx]
 have e2 : HT.sIx xs.length xs.length (some (m : Int)) = m := by
  simp only [HT.sIx]
  split <;> omega
 rw [e1, e2, List.drop_zero, Nat.sub_zero, List.map_take]
def vI (ds : List D) (d : D) : Prop := (∃ xs : List Int, ds = [qV xs, .int 0] /\ xs.length < 1000 /\ d = qO (wV xs)) \/ ∃ xs : Bd, ds = [aQP xs, .tup []] /\ xs.length < 1000 /\ d = yJ (wH xs)
theorem aHT : ∀ ds d, vI ds d -> ds.length = 2 := by rintro _ _ (⟨a, rfl, _⟩ | ⟨a, rfl, _⟩) <;> rfl
def aCZ (ds : List D) (d : D) : Prop := (∃ (f : List Int) (i : Nat), ds = [qO f, .int i, .int 0] /\ d = .int (f.getD i 0)) \/ ∃ (f : Bd) (i : Nat), ds = [yJ f, .int i, .tup []] /\ d = qO (f.getD i [])
theorem aRE : ∀ ds d, aCZ ds d -> ds.length = 3 := by rintro _ _ (⟨a, b, rfl, _⟩ | ⟨a, b, rfl, _⟩) <;> rfl
def aBT (ds : List D) (d : D) : Prop := ∃ xs : Bd, ds = [aQP xs] /\ xs.length < 1000 /\ d = yJ (wH xs)
theorem aOW : ∀ ds d, aBT ds d -> ds.length = 1 := by rintro _ _ ⟨a, rfl, _⟩; rfl
def aHN (f g : Bd) : Bd := wH ((List.range (max f.length g.length)).map fun k => aHM (f.getD k []) (g.getD k []))
def SmB (n : Nat) (f : Bd) : Prop := f.length < n /\ ∀ r ∈ f, r.length < n
def wF (ds : List D) (d : D) : Prop := ∃ f g : Bd, ds = [yJ f, yJ g] /\ SmB 1000 f /\ SmB 1000 g /\ d = yJ (aHN f g)
theorem aJW : ∀ ds d, wF ds d -> ds.length = 2 := by rintro _ _ ⟨a, b, rfl, _⟩; rfl
def aXQ (g : Bd) : Bd := g.map fun r => r.map fun x => -x
def aAH (ds : List D) (d : D) : Prop := ∃ f g : Bd, ds = [yJ f, yJ g] /\ SmB 1000 f /\ SmB 1000 g /\ d = yJ (aHN f (aXQ g))
theorem aIA : ∀ ds d, aAH ds d -> ds.length = 2 := by rintro _ _ ⟨a, b, rfl, _⟩; rfl
def aIF (f g : Bd) (j : Nat) (acc : Bd) : Nat -> Bd
 | 0 => acc
 | k + 1 => (aIF f g j acc k).set (j + k) (aHM ((aIF f g j acc k).getD (j + k) []) (aAQ (f.getD j []) (g.getD k [])))
def aGQ (f g : Bd) : Nat -> Bd
 | 0 => List.replicate (f.length + g.length - 1) []
 | j + 1 => aIF f g j (aGQ f g j) g.length
theorem aGS (f g : Bd) (j : Nat) (acc : Bd) : ∀ k, (aIF f g j acc k).length = acc.length
 | 0 => rfl
 | k + 1 => by rw [aIF, List.length_set, aGS f g j acc k]
theorem aGP (f g : Bd) : ∀ j, (aGQ f g j).length = f.length + g.length - 1
 | 0 => List.length_replicate
 | j + 1 => by rw [aGQ, aGS, aGP f g j]
def aCJ (f g : Bd) : Bd := if f = [] \/ g = [] then [] else wH (aGQ f g f.length)
theorem aGT {xs : Bd} (i : Nat) : xs.getD i [] = [] \/ xs.getD i [] ∈ xs := by
 rw [List.getD_eq_getElem?_getD]
 by_cases h : i < xs.length
 ·right; rw [List.getElem?_eq_getElem h]; exact List.getElem_mem _
 ·left; rw [List.getElem?_eq_none (by omega)]; rfl
theorem SmB.get {n : Nat} {f : Bd} (h : SmB n f) (h0 : 0 < n) (i : Nat) : (f.getD i []).length < n := by
 rcases aGT (xs := f) i with e | e
 ·rw [e]; exact h0
 ·exact h.2 _ e
theorem aMO {f g : Bd} (hf : SmB 100 f) (hg : SmB 100 g) (j : Nat) {acc : Bd} (ha : ∀ r ∈ acc, r.length < 200) : ∀ k, ∀ r ∈ aIF f g j acc k, r.length < 200
 | 0, r, hr => ha r hr
 | k + 1, r, hr => by
  rw [aIF] at hr
  rcases List.mem_or_eq_of_mem_set hr with h | h
  ·exact aMO hf hg j ha k r h
  ·subst h
   have h1 := aOL ((aIF f g j acc k).getD (j + k) []) (aAQ (f.getD j []) (g.getD k []))
   have h2 := aKE (f.getD j []) (g.getD k [])
   have h3 := hf.get (by omega) j
   have h4 := hg.get (by omega) k
   have h5 : ((aIF f g j acc k).getD (j + k) []).length < 200 := by
    rcases aGT (xs := aIF f g j acc k) (j + k) with e | e
    ·rw [e]; decide
    ·exact aMO hf hg j ha k _ e
   omega
theorem aXL {f g : Bd} (hf : SmB 100 f) (hg : SmB 100 g) : ∀ j, ∀ r ∈ aGQ f g j, r.length < 200
 | 0, r, hr => by rw [aGQ] at hr; rw [(List.mem_replicate.mp hr).2]; decide
 | j + 1, r, hr => aMO hf hg j (aXL hf hg j) g.length r hr
def vL (ds : List D) (d : D) : Prop := ∃ f g : Bd, ds = [yJ f, yJ g] /\ SmB 100 f /\ SmB 100 g /\ (∀ r ∈ g, ∀ y ∈ r, -(2 ^ 63) < y /\ y < 2 ^ 63) /\ d = yJ (aCJ f g)
theorem aHZ : ∀ ds d, vL ds d -> ds.length = 2 := by rintro _ _ ⟨a, b, rfl, _⟩; rfl
theorem aNL (h : DefX P w K mg base k N_without_end (yB zG) X) (m_len : mg "len" = none) (m_tuple : mg "tuple" = none) :
  ∀ ds d, vI ds d -> EvSs X (ds.map Sl.val ++ List.replicate (N_without_end.length - ds.length) Sl.un) (yF zG) (.rt d) := by
 have t := h.at'
 haveI := h.fnT
 have b1 : Blt X (yB zG) "len" (.builtin "len") := yR (by rw [h.mg']; exact m_len)
 have b2 : Blt X (yB zG) "tuple" (.type "tuple") := yR (by rw [h.mg']; exact m_tuple)
 rintro ds d (⟨xs, rfl, hl, rfl⟩ | ⟨xs, rfl, hl, rfl⟩)
 ·show EvSs X [.val (qV xs), .val (.int 0), .un] _ _
  refine yG (qR t 2 (EvE.eq (jH t b1 (EvE.ql (yA t 0 rfl))) (by rw [List.length_map]))) ?_
  refine yG (aHJ t (aTW (fun m => [.val (qV xs), .val (.int 0), .val (.int (m : Int))]) xs ?_ (fun m hm => ?_) (fun m => ?_) xs.length (Nat.le_refl _))) (yH (zH (EvE.eq (aDE t b2 (EvN.toQ (aAN (EvE.ql (yA t 0 rfl)) vE (vR (yA t 2 rfl))))) ?_)))
  ·exact EvW.toT (aII (EvT.eq (aDL (yA t 2 rfl) yD) rfl))
  ·refine EvW.toT (aIH (EvT.eq (aDL (yA t 2 rfl) yD) (decide_eq_true (by omega))) (aIJ (jX (zE (EvE.ql (yA t 0 rfl)) (jM (yA t 2 rfl) yD) ?_) (yA t 1 rfl))))
   exact aIX (by omega) (by omega) hm
  ·refine EvSs.eq (yH (aSU t 2 rfl yD)) ?_
   have e : ((m + 1 : Nat) : Int) - 1 = (m : Int) := by omega
   show Out.nx [_, _, .val (.int (((m + 1 : Nat) : Int) - 1))] = _
   rw [e]
  ·rw [List.take_length, aTV xs D.int (aGJ xs), eAM]
 ·show EvSs X [.val (aQP xs), .val (.tup []), .un] _ _
  refine yG (qR t 2 (EvE.eq (jH t b1 (EvE.ql (yA t 0 rfl))) (by rw [List.length_map]))) ?_
  refine yG (aHJ t (aPE (fun m => [.val (aQP xs), .val (.tup []), .val (.int (m : Int))]) xs ?_ (fun m hm => ?_) (fun m => ?_) xs.length (Nat.le_refl _))) (yH (zH (EvE.eq (aDE t b2 (EvN.toQ (aAN (EvE.ql (yA t 0 rfl)) vE (vR (yA t 2 rfl))))) ?_)))
  ·exact EvW.toT (aII (EvT.eq (aDL (yA t 2 rfl) yD) rfl))
  ·refine EvW.toT (aIH (EvT.eq (aDL (yA t 2 rfl) yD) (decide_eq_true (by omega))) (aIJ (wC t (EvE.p (d := qO xs[m]) (zE (EvE.ql (yA t 0 rfl)) (jM (yA t 2 rfl) yD) ?_)) (EvE.p (d := qO []) (yA t 1 rfl)) (zA _) (zA _) (aDY _ _))))
   exact aKZ (by omega) (by omega) hm
  ·refine EvSs.eq (yH (aSU t 2 rfl yD)) ?_
   have e : ((m + 1 : Nat) : Int) - 1 = (m : Int) := by omega
   show Out.nx [_, _, .val (.int (((m + 1 : Nat) : Int) - 1))] = _
   rw [e]
  ·rw [List.take_length, aTV xs qO (aHD xs), aVW]
theorem aZP (h : DefX P w K mg base k N_part_at (yB vZ) X) (m_len : mg "len" = none) :
  ∀ ds d, aCZ ds d -> EvSs X (ds.map Sl.val ++ List.replicate (N_part_at.length - ds.length) Sl.un) (yF vZ) (.rt d) := by
 have t := h.at'
 have b1 : Blt X (yB vZ) "len" (.builtin "len") := yR (by rw [h.mg']; exact m_len)
 rintro ds d (⟨f, i, rfl, rfl⟩ | ⟨f, i, rfl, rfl⟩)
 ·show EvSs X [.val (qO f), .val (.int i), .val (.int 0)] _ _
  by_cases hi : i < f.length
  ·exact yH (zH (aIL (EvT.eq (aAA (yA t 1 rfl) (jH t b1 (EvE.qt (yA t 0 rfl)))) (decide_eq_true (by rw [List.length_map]; omega))) (zE (EvE.qt (yA t 0 rfl)) (yA t 1 rfl) (wU hi))))
  ·refine yH (zH (aFT (EvT.eq (aAA (yA t 1 rfl) (jH t b1 (EvE.qt (yA t 0 rfl)))) (decide_eq_false (by rw [List.length_map]; omega))) (EvE.eq (yA t 2 rfl) ?_)))
   rw [List.getD_eq_getElem?_getD, List.getElem?_eq_none (by omega)]; rfl
 ·show EvSs X [.val (yJ f), .val (.int i), .val (.tup [])] _ _
  by_cases hi : i < f.length
  ·refine yH (zH (aIL (EvT.eq (aAA (yA t 1 rfl) (jH t b1 (EvE.qt (yA t 0 rfl)))) (decide_eq_true (by rw [List.length_map]; omega))) (zE (EvE.qt (yA t 0 rfl)) (yA t 1 rfl) ?_)))
   rw [aKZ (g := qO) (n := i) (by omega) (by omega) hi, List.getD_eq_getElem?_getD, List.getElem?_eq_getElem hi]; rfl
  ·refine yH (zH (aFT (EvT.eq (aAA (yA t 1 rfl) (jH t b1 (EvE.qt (yA t 0 rfl)))) (decide_eq_false (by rw [List.length_map]; omega))) (EvE.eq (yA t 2 rfl) ?_)))
   rw [List.getD_eq_getElem?_getD, List.getElem?_eq_none (by omega)]; rfl
theorem eBT (h : DefX P w K mg base k N_row_of (yB aBV) X) (c1 : Callee X "without_end" vI) :
  ∀ ds d, aEV ds d -> EvSs X (ds.map Sl.val ++ List.replicate (N_row_of.length - ds.length) Sl.un) (yF aBV) (.rt d) := by
 rintro ds d ⟨xs, rfl, hl, rfl⟩
 have t := h.at'
 show EvSs X [.val (qV xs)] _ _
 exact yH (zH (yO t c1 (yC (yA t 0 rfl) (yC yD yE)) (.inl ⟨xs, rfl, hl, rfl⟩)))
theorem aVH (h : DefX P w K mg base k N_board_of (yB vQ) X) (c1 : Callee X "without_end" vI) :
  ∀ ds d, aBT ds d -> EvSs X (ds.map Sl.val ++ List.replicate (N_board_of.length - ds.length) Sl.un) (yF vQ) (.rt d) := by
 rintro ds d ⟨xs, rfl, hl, rfl⟩
 have t := h.at'
 show EvSs X [.val (aQP xs)] _ _
 exact yH (zH (yO t c1 (yC (yA t 0 rfl) (yC (yP yE) yE)) (.inr ⟨xs, rfl, hl, rfl⟩)))
theorem aVG (h : DefX P w K mg base k N_row_plus (yB qT) X) (m_max : mg "max" = none) (m_len : mg "len" = none) (m_range : mg "range" = none) (c1 : Callee X "row_of" aEV) (c2 : Callee X "part_at" aCZ) :
  ∀ ds d, aBS ds d -> EvSs X (ds.map Sl.val ++ List.replicate (N_row_plus.length - ds.length) Sl.un) (yF qT) (.rt d) := by
 rintro ds d ⟨f, g, rfl, hf, hg, rfl⟩
 have t := h.at'
 haveI := h.fnT
 have b1 : Blt X (yB qT) "max" (.builtin "max") := yR (by rw [h.mg']; exact m_max)
 have b2 : Blt X (yB qT) "len" (.builtin "len") := yR (by rw [h.mg']; exact m_len)
 have b3 : Blt X (yB qT) "range" (.type "range") := yR (by rw [h.mg']; exact m_range)
 show EvSs X [.val (qO f), .val (qO g), .un] _ _
 refine yG (qR (d := .int ((max f.length g.length : Nat) : Int)) t 2 (EvE.eq (aYN t b1 (jH t b2 (EvE.qt (yA t 0 rfl))) (jH t b2 (EvE.qt (yA t 1 rfl)))) (by rw [List.length_map, List.length_map]; congr 1; omega))) ?_
 refine yH (zH (yO t c1 (yC (d := qV ((List.range (max f.length g.length)).map fun i => f.getD i 0 + g.getD i 0)) (EvE.eq (EvN.toE (aFK (rs := (List.range (max f.length g.length)).map fun i => D.int (f.getD i 0 + g.getD i 0)) t ["f", "g", "many", "power"] (csc (by decide +kernel)) (wD t b3 (yA t 2 rfl) (by omega) (by omega)) (by simp [wP]; exact aQG (by omega)) fun X' cx => ?_)) (by show D.lst _ = D.lst _; rw [List.map_map]; rfl)) yE) ⟨_, rfl, by rw [List.length_map, List.length_range]; omega, rfl⟩))
 rw [Int.toNat_natCast]
 exact CRun.gen (fun (i : Nat) => D.int (0 + (i : Int))) _ (fun (i : Nat) => [.val (qO f), .val (qO g), .val (.int ((max f.length g.length : Nat) : Int)), .val (.int (i : Int))]) _ _ (fun x hx => by rw [Int.zero_add]; exact jP cx.at' 3) (fun x hx y hy => by rw [Int.zero_add]; exact jP cx.at' 3) fun x hx =>
  zQ (yO cx.at' (cx.callee c2) (yC (yA cx.at' 0 rfl) (yC (yA cx.at' 3 rfl) (yC yD yE))) (.inl ⟨f, x, rfl, rfl⟩)) (yO cx.at' (cx.callee c2) (yC (yA cx.at' 1 rfl) (yC (yA cx.at' 3 rfl) (yC yD yE))) (.inl ⟨g, x, rfl, rfl⟩))
theorem aPV (h : DefX P w K mg base k N_board_plus (yB zP) X) (m_max : mg "max" = none) (m_len : mg "len" = none) (m_range : mg "range" = none) (c1 : Callee X "board_of" aBT) (c2 : Callee X "row_plus" aBS) (c3 : Callee X "part_at" aCZ) :
  ∀ ds d, wF ds d -> EvSs X (ds.map Sl.val ++ List.replicate (N_board_plus.length - ds.length) Sl.un) (yF zP) (.rt d) := by
 rintro ds d ⟨f, g, rfl, hf, hg, rfl⟩
 have t := h.at'
 haveI := h.fnT
 have b1 : Blt X (yB zP) "max" (.builtin "max") := yR (by rw [h.mg']; exact m_max)
 have b2 : Blt X (yB zP) "len" (.builtin "len") := yR (by rw [h.mg']; exact m_len)
 have b3 : Blt X (yB zP) "range" (.type "range") := yR (by rw [h.mg']; exact m_range)
 have lf := hf.1
 have lg := hg.1
 show EvSs X [.val (yJ f), .val (yJ g), .un] _ _
 refine yG (qR (d := .int ((max f.length g.length : Nat) : Int)) t 2 (EvE.eq (aYN t b1 (jH t b2 (EvE.qt (yA t 0 rfl))) (jH t b2 (EvE.qt (yA t 1 rfl)))) (by rw [List.length_map, List.length_map]; congr 1; omega))) ?_
 refine yH (zH (yO t c1 (yC (d := aQP ((List.range (max f.length g.length)).map fun k => aHM (f.getD k []) (g.getD k []))) (EvE.eq (EvN.toE (aFK (rs := (List.range (max f.length g.length)).map fun k => qO (aHM (f.getD k []) (g.getD k []))) t ["f", "g", "many", "power"] (csc (by decide +kernel)) (wD t b3 (yA t 2 rfl) (by omega) (by omega)) (by simp [wP]; exact aQG (by omega)) fun X' cx => ?_)) (by show D.lst _ = D.lst _; rw [List.map_map]; rfl)) yE) ⟨_, rfl, by rw [List.length_map, List.length_range]; omega, rfl⟩))
 rw [Int.toNat_natCast]
 exact CRun.gen (fun (i : Nat) => D.int (0 + (i : Int))) _ (fun (i : Nat) => [.val (yJ f), .val (yJ g), .val (.int ((max f.length g.length : Nat) : Int)), .val (.int (i : Int))]) _ _ (fun x hx => by rw [Int.zero_add]; exact jP cx.at' 3) (fun x hx y hy => by rw [Int.zero_add]; exact jP cx.at' 3) fun x hx =>
  yO cx.at' (cx.callee c2) (yC (yO cx.at' (cx.callee c3) (yC (yA cx.at' 0 rfl) (yC (yA cx.at' 3 rfl) (yC (yP yE) yE))) (.inr ⟨f, x, rfl, rfl⟩)) (yC (yO cx.at' (cx.callee c3) (yC (yA cx.at' 1 rfl) (yC (yA cx.at' 3 rfl) (yC (yP yE) yE))) (.inr ⟨g, x, rfl, rfl⟩)) yE)) ⟨_, _, rfl, hf.get (by omega) x, hg.get (by omega) x, rfl⟩
theorem aNP (h : DefX P w K mg base k N_board_minus (yB qF) X) (m_tuple : mg "tuple" = none) (c1 : Callee X "board_plus" wF) (c2 : Callee X "other_sign" aAV) :
  ∀ ds d, aAH ds d -> EvSs X (ds.map Sl.val ++ List.replicate (N_board_minus.length - ds.length) Sl.un) (yF qF) (.rt d) := by
 rintro ds d ⟨f, g, rfl, hf, hg, rfl⟩
 have t := h.at'
 haveI := h.fnT
 have b1 : Blt X (yB qF) "tuple" (.type "tuple") := yR (by rw [h.mg']; exact m_tuple)
 show EvSs X [.val (yJ f), .val (yJ g)] _ _
 refine yH (zH (yO t c1 (yC (yA t 0 rfl) (yC (d := yJ (aXQ g)) (EvE.eq (aDE t b1 (EvN.toQ (aFK (rs := g.map fun r => qO (r.map fun x => -x)) t ["f", "g", "row"] (csc (by decide +kernel)) (aYX (yA t 1 rfl)) (by rw [List.length_map]; exact aQG hg.1) fun X' cx => ?_))) (by show D.tup _ = D.tup _; unfold aXQ; rw [List.map_map]; rfl)) yE)) ⟨f, aXQ g, rfl, hf, ?_, rfl⟩))
 ·exact CRun.gen qO _ (fun r => [.val (yJ f), .val (yJ g), .val (qO r)]) _ _ (fun x hx => jP cx.at' 2) (fun x hx y hy => jP cx.at' 2) fun x hx =>
   yO cx.at' (cx.callee c2) (yC (yA cx.at' 2 rfl) yE) ⟨x, rfl, hg.2 x hx, rfl⟩
 ·unfold aXQ
  refine ⟨by rw [List.length_map]; exact hg.1, fun r hr => ?_⟩
  obtain ⟨q, hq, rfl⟩ := List.mem_map.mp hr
  rw [List.length_map]; exact hg.2 q hq
theorem eAU (n : Nat) : (List.replicate n [D.tup []]).flatten = (List.replicate n ([] : List Int)).map qO := by
 induction n with
 | zero => rfl
 | succ n ih => rw [List.replicate_succ, List.flatten_cons, ih, List.replicate_succ, List.map_cons]; rfl
theorem aBO (f : Bd) : (toP (yJ f)).eqv (toP (.tup [])) = decide (f = []) := by
 show (PyData.tuple (toPs (f.map qO))).eqv (.tuple (toPs [])) = _
 cases f with
 | nil => simp [toPs, PyData.eqv, PyData.eqvAll]
 | cons r f => simp [toPs, PyData.eqv, PyData.eqvAll]
def Fn (n : Nat) (d : D) : Prop := (toP d).canLay0 = true /\ (toP d).depth <= n /\ (toP d).eqv (toP d) = true
theorem Fn.int (i : Int) : Fn 1 (.int i) := ⟨rfl, by simp [toP, PyData.depth], by simp [toP, PyData.eqv]⟩
theorem Fn.all {n : Nat} : ∀ {xs : List D}, (∀ x ∈ xs, Fn n x) -> PyData.canLayAll0 (toPs xs) = true /\ PyData.depthAll (toPs xs) <= n /\ PyData.eqvAll (toPs xs) (toPs xs) = true
 | [], _ => ⟨rfl, by simp [toPs, PyData.depthAll], by simp [toPs, PyData.eqvAll]⟩
 | x :: xs, h => by
  obtain ⟨a1, a2, a3⟩ := h x (by simp)
  obtain ⟨b1, b2, b3⟩ := Fn.all (xs := xs) fun y hy => h y (by simp [hy])
  refine ⟨?_, ?_, ?_⟩
  ·simp only [toPs, PyData.canLayAll0, a1, b1]; rfl
  ·simp only [toPs, PyData.depthAll]; omega
  ·simp only [toPs, PyData.eqvAll, a3, b3]; rfl
theorem Fn.tup {n : Nat} {xs : List D} (h : ∀ x ∈ xs, Fn n x) : Fn (n + 1) (.tup xs) := by
 obtain ⟨b1, b2, b3⟩ := Fn.all h
 exact ⟨by simp only [toP, PyData.canLay0]; exact b1, by simp only [toP, PyData.depth]; omega, by simp only [toP, PyData.eqv]; exact b3⟩
theorem Fn.lst {n : Nat} {xs : List D} (h : ∀ x ∈ xs, Fn n x) : Fn (n + 1) (.lst xs) := by
 obtain ⟨b1, b2, b3⟩ := Fn.all h
 exact ⟨by simp only [toP, PyData.canLay0]; exact b1, by simp only [toP, PyData.depth]; omega, by simp only [toP, PyData.eqv]; exact b3⟩
theorem Fn.sh {n : Nat} {d : D} (h : Fn n d) (hn : n <= 64) : SeqAt.shaped (toP d) = true := by
 show ((toP d).canLay0 && decide ((toP d).depth <= 64)) = true
 rw [h.1, decide_eq_true (Nat.le_trans h.2.1 hn)]; rfl
theorem eDD (r : List Int) : Fn 2 (qO r) := Fn.tup fun x hx => by
 obtain ⟨i, _, rfl⟩ := List.mem_map.mp hx; exact Fn.int i
theorem aTL (b : Bd) : Fn 3 (yJ b) := Fn.tup fun x hx => by
 obtain ⟨r, _, rfl⟩ := List.mem_map.mp hx; exact eDD r
theorem eGA (b : Bd) : Fn 3 (aQP b) := Fn.lst fun x hx => by
 obtain ⟨r, _, rfl⟩ := List.mem_map.mp hx; exact eDD r
theorem vY (f : Bd) : SeqAt.shaped (toP (yJ f)) = true := (aTL f).sh (by decide)
end
section
variable {X : Cx} {ρ : Rho} {a b : Expr} {d : D} {pos : Pos} {N : List Str} {sc : Scope}
theorem aYT {n : Nat} (t : At X N sc) (f : Fn n d) (ha : EvE X ρ a d) (hb : EvE X ρ b d) (hn : n <= 64 := by decide) : EvT X ρ (.Compare a [.NotEq] [b] pos) false :=
 aFU t ha.p hb.p (f.sh hn) (f.sh hn) (by rw [f.2.2]; rfl)
end
section
variable {P : Program} {w : World} {K : PySem.W.Frag} {mg : Str -> Option Value} {base : Heap} {k : Nat} {X : Cx}
theorem aNO (h : DefX P w K mg base k N_board_times (yB zK) X) (m_enumerate : mg "enumerate" = none) (m_len : mg "len" = none) (c1 : Callee X "board_of" aBT) (c2 : Callee X "row_plus" aBS) (c3 : Callee X "row_times" aCC) :
  ∀ ds d, vL ds d -> EvSs X (ds.map Sl.val ++ List.replicate (N_board_times.length - ds.length) Sl.un) (yF zK) (.rt d) := by
 rintro ds d ⟨f, g, rfl, hf, hg, hb, rfl⟩
 have t := h.at'
 haveI := h.fnT
 have b1 : Blt X (yB zK) "enumerate" (.type "enumerate") := yR (by rw [h.mg']; exact m_enumerate) rfl (by decide +kernel)
 have b2 : Blt X (yB zK) "len" (.builtin "len") := yR (by rw [h.mg']; exact m_len)
 have s0 : SeqAt.shaped (toP (.tup [])) = true := zA []
 show EvSs X [.val (yJ f), .val (yJ g), .un, .un, .un, .un, .un] _ _
 by_cases h1 : f = []
 ·refine wR (jY (EvW.toT (aKV (wC t (EvE.p (yA t 0 rfl)) (EvE.p (d := .tup []) (yP yE)) (vY _) s0 (by rw [aBO, h1]; rfl)))) (yH (zH (EvE.eq (d := .tup []) (yP yE) ?_))))
  unfold aCJ; rw [if_pos (.inl h1)]; rfl
 by_cases h2 : g = []
 ·refine wR (jY (EvW.toT (aDP (wC t (EvE.p (yA t 0 rfl)) (EvE.p (d := .tup []) (yP yE)) (vY _) s0 (by rw [aBO, decide_eq_false h1])) (aFS (wC t (EvE.p (yA t 1 rfl)) (EvE.p (d := .tup []) (yP yE)) (vY _) s0 (by rw [aBO, h2]; rfl))))) (yH (zH (EvE.eq (d := .tup []) (yP yE) ?_))))
  unfold aCJ; rw [if_pos (.inr h2)]; rfl
 have et : aCJ f g = wH (aGQ f g f.length) := by unfold aCJ; rw [if_neg (fun z => z.elim h1 h2)]
 have lf := List.length_pos_iff.mpr h1
 have lg := List.length_pos_iff.mpr h2
 have lf' := hf.1
 have lg' := hg.1
 refine yG (jI (EvW.toT (aDP (wC t (EvE.p (yA t 0 rfl)) (EvE.p (d := .tup []) (yP yE)) (vY _) s0 (by rw [aBO, decide_eq_false h1])) (aFS (wC t (EvE.p (yA t 1 rfl)) (EvE.p (d := .tup []) (yP yE)) (vY _) s0 (by rw [aBO, decide_eq_false h2]))))) zW) ?_
 have en : ((f.length : Int) + g.length - 1).toNat = f.length + g.length - 1 := by omega
 refine yG (aCK (xs := (aGQ f g 0).map qO) t 2 (EvN.eq (eDO (n := (f.length : Int) + g.length - 1) (EvN.toE (zX (yC (yP yE) yE))) (EvE.eq (jM (zQ (jH t b2 (EvE.qt (yA t 0 rfl))) (jH t b2 (EvE.qt (yA t 1 rfl)))) yD) (by rw [List.length_map, List.length_map])) (by omega) (by omega) (by rw [en]; have := aRC; simp; omega)) (by rw [en, eAU]; rfl))) ?_
 refine yG (ρ' := [.val (yJ f), .val (yJ g), .own ((aGQ f g f.length).map qO), .un, .un, .un, .un]) (aBH t (aNC t b1 (yA t 0 rfl)) (FRun.uptoE (fun i => [.val (yJ f), .val (yJ g), .own ((aGQ f g i).map qO), .un, .un, .un, .un]) (fun i d hi => ?_) rfl ?_)) ?_
 ·obtain ⟨e, he, rfl⟩ := aCT hi
  rw [List.getElem?_map] at he
  cases hx : f[i]? with
  | none => rw [hx] at he; cases he
  | some x =>
  rw [hx] at he; cases he
  have hi' : i < f.length := (List.getElem?_eq_some_iff.mp hx).1
  have ex : f.getD i [] = x := by rw [List.getD_eq_getElem?_getD, hx]; rfl
  refine ⟨_, aCV t 3 4, EvSs.weak (ρ1 := [.val (yJ f), .val (yJ g), .own ((aGQ f g (i + 1)).map qO), .val (.int i), .val (qO x), .un, .un]) (yH (aBH t (aNC t b1 (yA t 1 rfl))
   (FRun.uptoE (fun j => [.val (yJ f), .val (yJ g), .own ((aIF f g i (aGQ f g i) j).map qO), .val (.int i), .val (qO x), .un, .un]) (fun j d hj => ?_) rfl ?_))) (.keep (.keep (.keep (.forget (.forget (.keep (.keep .nil)))))))⟩
  ·obtain ⟨e, he, rfl⟩ := aCT hj
   rw [List.getElem?_map] at he
   cases hy : g[j]? with
   | none => rw [hy] at he; cases he
   | some y =>
   rw [hy] at he; cases he
   have hj' : j < g.length := (List.getElem?_eq_some_iff.mp hy).1
   have ey : g.getD j [] = y := by rw [List.getD_eq_getElem?_getD, hy]; rfl
   have hl : (aIF f g i (aGQ f g i) j).length = f.length + g.length - 1 := by rw [aGS, aGP]
   have hlt : i + j < (aIF f g i (aGQ f g i) j).length := by omega
   have e1 : ((i : Int) + (j : Int)) = ((i + j : Nat) : Int) := by omega
   have hix : atI ((aIF f g i (aGQ f g i) j).map qO) ((i : Int) + (j : Int)) = some (qO ((aIF f g i (aGQ f g i) j).getD (i + j) [])) := by
    rw [aKZ (g := qO) (n := i + j) (by omega) (by omega) hlt, List.getD_eq_getElem?_getD, List.getElem?_eq_getElem hlt]; rfl
   have h3 := hf.get (by omega) i
   have h4 := hg.get (by omega) j
   have h5 : ((aIF f g i (aGQ f g i) j).getD (i + j) []).length < 200 := by
    rcases aGT (xs := aIF f g i (aGQ f g i) j) (i + j) with e | e
    ·rw [e]; decide
    ·exact aMO hf hg i (aXL hf hg i) j _ e
   have h6 := aKE (f.getD i []) (g.getD j [])
   rw [ex] at h3 h6
   rw [ey] at h4 h6
   refine ⟨_, aCV t 5 6, EvSs.weak (yH (eAR t (yO t c2 (yC (zE (aAL t 2 rfl) (zQ (yA t 3 rfl) (yA t 5 rfl)) hix) (yC (yO t c3 (yC (yA t 4 rfl) (yC (yA t 6 rfl) yE)) ⟨x, y, rfl, h3, h4, hb y (List.mem_of_getElem? hy), rfl⟩) yE)) ⟨_, _, rfl, by omega, by omega, rfl⟩) (eGQ (j := i + j) t 2 rfl (zQ (yA t 3 rfl) (yA t 5 rfl)) ?_))) ?_⟩
   ·rw [List.length_map]; exact aXW (by omega) (by omega) (by omega)
   ·rw [aIF, List.map_set, ex, ey]
    exact .keep (.keep (.keep (.keep (.keep (.forget (.forget .nil))))))
  ·rw [aCS, List.length_map]; rfl
 ·rw [aCS, List.length_map]
 ·refine vG 2 rfl (yH (zH (EvE.eq (yO t c1 (yC (yA t 2 rfl) yE) ⟨aGQ f g f.length, rfl, by rw [aGP]; omega, rfl⟩) ?_)))
  rw [et]
abbrev nk (i k : Nat) : List Int := [(i : Int), (k : Int)]
theorem aXP {i k a c : Nat} (h : nk i k = nk a c) : i = a /\ k = c := by
 have h1 := (List.cons.inj h).1
 have h2 := (List.cons.inj (List.cons.inj h).2).1
 omega
def ds : KVs -> (Nat -> Nat -> Int) -> Int
 | [], _ => 0
 | p :: r, φ => p.2 * φ (p.1.getD 0 0).toNat (p.1.getD 1 0).toNat + ds r φ
structure KOk (kvs : KVs) : Prop where
 keys : ∀ p ∈ kvs, ∃ i k : Nat, p.1 = nk i k
 nd : (kvs.map (·.1)).Nodup
theorem KOk.nil : KOk [] := ⟨fun _ h => (nomatch h), List.nodup_nil⟩
theorem aED (p : List Int × Int) (r : KVs) (k : List Int) : aCO (p :: r) k = if p.1 = k then some p.2 else aCO r k := by
 unfold aCO
 rw [List.find?_cons]
 by_cases h : p.1 = k
 ·rw [if_pos h, decide_eq_true h]; rfl
 ·rw [if_neg h, decide_eq_false h]
theorem aHA {k : List Int} : ∀ {kvs : KVs}, (∀ p ∈ kvs, p.1 ≠ k) -> aCO kvs k = none
 | [], _ => rfl
 | p :: r, h => by rw [aED, if_neg (h p (by simp)), aHA fun q hq => h q (by simp [hq])]
theorem aGI {k : List Int} {v : Int} : ∀ {kvs : KVs}, (kvs.map (·.1)).Nodup -> (k, v) ∈ kvs -> aCO kvs k = some v
 | [], _, h => nomatch h
 | p :: r, nd, h => by
  rw [List.map_cons, List.nodup_cons] at nd
  rw [aED]
  rcases List.mem_cons.mp h with e | h
  ·rw [<- e, if_pos rfl]
  ·have hm : k ∈ r.map (·.1) := List.mem_map.mpr ⟨_, h, rfl⟩
   rw [if_neg (fun z : p.1 = k => nd.1 (by rw [z]; exact hm)), aGI nd.2 h]
theorem aGZ {k : List Int} {v : Int} : ∀ {kvs : KVs}, aCO kvs k = some v -> (k, v) ∈ kvs
 | [], h => by cases h
 | p :: r, h => by
  rw [aED] at h
  by_cases e : p.1 = k
  ·rw [if_pos e] at h; cases h; rw [<- e]; simp
  ·rw [if_neg e] at h; simp [aGZ h]
theorem aLS {kvs : KVs} {k : List Int} {v : Int} {q : List Int × Int} (h : q ∈ aGC kvs k v) : q = (k, v) \/ q ∈ kvs := by
 unfold aGC at h
 split at h
 ·obtain ⟨p, hp, e⟩ := List.mem_map.mp h
  by_cases z : p.1 = k
  ·rw [if_pos z] at e; left; rw [<- e, z]
  ·rw [if_neg z] at e; right; rw [<- e]; exact hp
 ·rcases List.mem_append.mp h with h | h
  ·exact .inr h
  ·exact .inl (List.mem_singleton.mp h)
theorem aWU {kvs : KVs} {k : List Int} {v : Int} : (aGC kvs k v).map (·.1) = if (aCO kvs k).isSome = true then kvs.map (·.1) else kvs.map (·.1) ++ [k] := by
 unfold aGC
 split
 ·rw [List.map_map]
  refine List.map_congr_left fun p _ => ?_
  show (if p.1 = k then (p.1, v) else p).1 = p.1
  split <;> rfl
 ·rw [List.map_append]; rfl
theorem KOk.put {kvs : KVs} (h : KOk kvs) (i k : Nat) (v : Int) : KOk (aGC kvs (nk i k) v) := by
 refine ⟨fun p hp => ?_, ?_⟩
 ·rcases aLS hp with e | e
  ·exact ⟨i, k, by rw [e]⟩
  ·exact h.keys p e
 ·rw [aWU]
  split
  ·exact h.nd
  ·rename_i hn
   refine List.nodup_append.mpr ⟨h.nd, by simp, fun a ha b hb e => hn ?_⟩
   rw [List.mem_singleton] at hb
   subst hb e
   obtain ⟨p, hp, e⟩ := List.mem_map.mp ha
   have : aCO kvs p.1 = some p.2 := aGI h.nd hp
   rw [<- e, this]; rfl
theorem aPC (φ : Nat -> Nat -> Int) : ∀ (a b : KVs), ds (a ++ b) φ = ds a φ + ds b φ
 | [], b => by simp [ds]
 | p :: a, b => by rw [List.cons_append, ds, ds, aPC φ a b]; omega
theorem aYZ (φ : Nat -> Nat -> Int) (i k : Nat) (v : Int) : ∀ (kvs : KVs), (kvs.map (·.1)).Nodup -> ds (kvs.map fun p => if p.1 = nk i k then (p.1, v) else p) φ = ds kvs φ + (match aCO kvs (nk i k) with | some o => (v - o) * φ i k | none => 0)
 | [], _ => rfl
 | p :: r, nd => by
  rw [List.map_cons, List.nodup_cons] at nd
  rw [List.map_cons, ds, ds, aYZ φ i k v r nd.2, aED]
  by_cases e : p.1 = nk i k
  ·rw [if_pos e, if_pos e, aHA fun q hq z => nd.1 (by rw [e, <- z]; exact List.mem_map.mpr ⟨_, hq, rfl⟩)]
   have e1 : (p.1.getD 0 0).toNat = i := by rw [e]; simp
   have e2 : (p.1.getD 1 0).toNat = k := by rw [e]; simp
   simp only [e1, e2]
   rw [Int.sub_mul]; omega
  ·rw [if_neg e, if_neg e]; omega
theorem eKZ {kvs : KVs} (h : KOk kvs) (i k : Nat) (v : Int) (φ : Nat -> Nat -> Int) : ds (aGC kvs (nk i k) v) φ = ds kvs φ + (v - (aCO kvs (nk i k)).getD 0) * φ i k := by
 unfold aGC
 cases e : aCO kvs (nk i k) with
 | none =>
  rw [if_neg (by simp), aPC]
  show ds kvs φ + (v * φ i k + 0) = _
  simp
 | some o =>
  rw [if_pos (by rfl), aYZ φ i k v kvs h.nd, e]; rfl
def vU (kvs : KVs) : Bd := wH ((List.range 9).map fun k => wV ((List.range 9).map fun i => (aCO kvs (nk i k)).getD 0))
def BoardOk (b : Bd) : Prop := (b = [] \/ ∃ ys a, b = ys ++ [a] /\ a ≠ []) /\ ∀ r ∈ b, RowOk r
theorem aKK (n i : Nat) (h : Nat -> Int) : ((List.range n).map h).getD i 0 = if i < n then h i else 0 := by
 rw [List.getD_eq_getElem?_getD, List.getElem?_map]
 by_cases e : i < n
 ·rw [if_pos e, List.getElem?_range e]; rfl
 ·rw [if_neg e, List.getElem?_eq_none (by simpa using e)]; rfl
theorem aKL (n i : Nat) (h : Nat -> List Int) : ((List.range n).map h).getD i [] = if i < n then h i else [] := by
 rw [List.getD_eq_getElem?_getD, List.getElem?_map]
 by_cases e : i < n
 ·rw [if_pos e, List.getElem?_range e]; rfl
 ·rw [if_neg e, List.getElem?_eq_none (by simpa using e)]; rfl
theorem aCW (kvs : KVs) (i k : Nat) : aBR (vU kvs) i k = if i < 9 /\ k < 9 then (aCO kvs (nk i k)).getD 0 else 0 := by
 unfold aBR vU
 rw [aEX, aKL]
 by_cases hk : k < 9
 ·rw [if_pos hk, aHC, aKK]
  by_cases hi : i < 9
  ·rw [if_pos hi, if_pos ⟨hi, hk⟩]
  ·rw [if_neg hi, if_neg (fun z => hi z.1)]
 ·rw [if_neg hk, if_neg (fun z => hk z.2)]; rfl
theorem aBU {xs : Bd} (h : ∀ r ∈ xs, RowOk r) : BoardOk (wH xs) := ⟨eAN xs, fun r hr => h r (aXS hr)⟩
theorem aFL (kvs : KVs) : BoardOk (vU kvs) := aBU fun r hr => by
 obtain ⟨k, _, rfl⟩ := List.mem_map.mp hr; exact eCB _
theorem RowOk.nil : RowOk [] := .inl rfl
theorem BoardOk.row {b : Bd} (h : BoardOk b) (k : Nat) : RowOk (b.getD k []) := by
 rcases aGT (xs := b) k with e | e
 ·rw [e]; exact .nil
 ·exact h.2 _ e
theorem aUA {a b : Bd} (ha : BoardOk a) (h : ∀ k, a.getD k [] = b.getD k []) : a.length <= b.length := by
 rcases ha.1 with e | ⟨ys, r, e, hr⟩
 ·subst e; exact Nat.zero_le _
 ·rcases Nat.lt_or_ge b.length a.length with z | z
  ·have h1 := h ys.length
   have e2 : b.getD ys.length [] = [] := by
    rw [List.getD_eq_getElem?_getD, List.getElem?_eq_none (by rw [e] at z; simp at z; omega)]; rfl
   rw [e2, e, List.getD_eq_getElem?_getD, List.getElem?_append_right (Nat.le_refl _), Nat.sub_self] at h1
   exact absurd h1 hr
  ·exact z
theorem aPN {a b : Bd} (ha : BoardOk a) (hb : BoardOk b) (h : ∀ i k, aBR a i k = aBR b i k) : a = b := by
 have hr : ∀ k, a.getD k [] = b.getD k [] := fun k => eEU (ha.row k) (hb.row k) fun i => h i k
 have h1 := aUA ha hr
 have h2 := aUA hb fun k => (hr k).symm
 refine List.ext_getElem (by omega) fun k h3 h4 => ?_
 have := hr k
 rw [List.getD_eq_getElem?_getD, List.getD_eq_getElem?_getD, List.getElem?_eq_getElem h3, List.getElem?_eq_getElem h4] at this
 exact this
theorem aOM (f g : List Int) (i : Nat) : (aHM f g).getD i 0 = f.getD i 0 + g.getD i 0 := by
 unfold aHM
 rw [aHC, aKK]
 by_cases h : i < max f.length g.length
 ·rw [if_pos h]
 ·rw [if_neg h, aEQ (show f.length <= i by omega), aEQ (show g.length <= i by omega)]; rfl
theorem aTA (f g : List Int) : RowOk (aHM f g) := eCB _
theorem aBQ (f g : Bd) (i k : Nat) : aBR (aHN f g) i k = aBR f i k + aBR g i k := by
 unfold aBR aHN
 rw [aEX, aKL]
 by_cases h : k < max f.length g.length
 ·rw [if_pos h, aOM]
 ·rw [if_neg h]
  have e1 : f.getD k [] = [] := by rw [List.getD_eq_getElem?_getD, List.getElem?_eq_none (by omega)]; rfl
  have e2 : g.getD k [] = [] := by rw [List.getD_eq_getElem?_getD, List.getElem?_eq_none (by omega)]; rfl
  rw [e1, e2]; rfl
theorem aLX (f g : Bd) : BoardOk (aHN f g) := aBU fun r hr => by
 obtain ⟨k, _, rfl⟩ := List.mem_map.mp hr; exact aTA _ _
theorem aIQ (g : Bd) (i k : Nat) : aBR (aXQ g) i k = - aBR g i k := by
 unfold aBR aXQ
 have e : (g.map fun r => r.map fun x => -x).getD k [] = (g.getD k []).map fun x => -x := by
  rw [List.getD_eq_getElem?_getD, List.getElem?_map, List.getD_eq_getElem?_getD]
  cases g[k]? <;> rfl
 rw [e]; exact eBE (φ := fun x => -x) rfl _ i
theorem eES (f g : List Int) (ψ : Nat -> Int) : rs (aHM f g) ψ = rs f ψ + rs g ψ := by
 have hl := aOL f g
 rw [aAS (aHM f g) (max f.length g.length) ψ hl, aAS f (max f.length g.length) ψ (by omega), aAS g (max f.length g.length) ψ (by omega), <- aLC]
 exact zF _ fun i _ => by rw [aOM, Int.add_mul]
theorem aSN (c : Int) (h : Nat -> Int) : ∀ n, aAR n (fun i => c * h i) = c * aAR n h
 | 0 => by simp [aAR]
 | n + 1 => by rw [aAR, aSN c h n, aAR, Int.mul_add]
theorem eCG (f g : List Int) (i : Nat) (acc : List Int) (ψ : Nat -> Int) : ∀ j, i + j <= acc.length -> rs (inn f g i acc j) ψ = rs acc ψ + aAR j (fun a => f.getD i 0 * (g.getD a 0 * ψ (i + a)))
 | 0, _ => by simp [inn, aAR]
 | j + 1, h => by
  rw [inn, eCF _ _ _ _ (by rw [aFI]; omega), eCG f g i acc ψ j (by omega), aAR]
  have e : (inn f g i acc j).getD (i + j) 0 + f.getD i 0 * g.getD j 0 - (inn f g i acc j).getD (i + j) 0 = f.getD i 0 * g.getD j 0 := by omega
  rw [e, Int.mul_assoc]; omega
theorem eER (n : Nat) (ψ : Nat -> Int) : rs (List.replicate n 0) ψ = 0 := by
 have h : ∀ i, (List.replicate n (0 : Int)).getD i 0 = ([] : List Int).getD i 0 := fun i => by
  rw [List.getD_eq_getElem?_getD, List.getElem?_replicate]
  split <;> simp
 rw [eCI h]; rfl
theorem aWP (f g : List Int) (ψ : Nat -> Int) : ∀ i, i <= f.length -> rs (aQX f g i) ψ = aAR i (fun j => f.getD j 0 * rs g (fun a => ψ (j + a)))
 | 0, _ => by rw [aQX]; exact eER _ _
 | i + 1, h => by
  rw [aQX, eCG _ _ _ _ _ _ (by rw [aMB]; omega), aWP f g ψ i (by omega), aAR, aSN, aAS g g.length _ (Nat.le_refl _)]
theorem eAT (f g : List Int) (ψ : Nat -> Int) : rs (aAQ f g) ψ = rs f (fun i => rs g (fun a => ψ (i + a))) := by
 unfold aAQ
 rw [eCI (aHC _), aWP f g ψ f.length (Nat.le_refl _), aAS f f.length _ (Nat.le_refl _)]
theorem eGW (b : Bd) (φ : Nat -> Nat -> Int) : bs (wH b) φ = bs b φ := by
 rw [aKX (wH b) b.length φ (aHD b), aKX b b.length φ (Nat.le_refl _)]
 exact zF _ fun k _ => by rw [aEX]
theorem aZO (f g : Bd) (j : Nat) (acc : Bd) (φ : Nat -> Nat -> Int) : ∀ k, j + k <= acc.length -> bs (aIF f g j acc k) φ = bs acc φ + aAR k (fun c => rs (aAQ (f.getD j []) (g.getD c [])) (fun i => φ i (j + c)))
 | 0, _ => by simp [aIF, aAR]
 | k + 1, h => by
  rw [aIF, eDS _ _ _ _ (by rw [aGS]; omega), aZO f g j acc φ k (by omega), aAR, eES]; omega
theorem eGX (φ : Nat -> Nat -> Int) (n : Nat) : bs (List.replicate n []) φ = 0 := by
 induction n generalizing φ with
 | zero => rfl
 | succ n ih => rw [List.replicate_succ, bs, ih]; rfl
theorem aZN (f g : Bd) (φ : Nat -> Nat -> Int) : ∀ j, j <= f.length -> bs (aGQ f g j) φ = aAR j (fun a => aAR g.length (fun c => rs (aAQ (f.getD a []) (g.getD c [])) (fun i => φ i (a + c))))
 | 0, _ => by rw [aGQ]; exact eGX _ _
 | j + 1, h => by
  rw [aGQ, aZO _ _ _ _ _ _ (by rw [aGP]; omega), aZN f g φ j (by omega), aAR]
theorem aWO (f : List Int) (h : Nat -> Nat -> Int) : ∀ n, rs f (fun i => aAR n (fun c => h i c)) = aAR n (fun c => rs f (fun i => h i c))
 | 0 => aQO _ (fun _ => rfl) f
 | n + 1 => by
  show rs f (fun i => aAR n (fun c => h i c) + h i n) = _
  rw [eET, aWO f h n, aAR]
theorem eBS (f g : Bd) (φ : Nat -> Nat -> Int) : bs (aCJ f g) φ = bs f (fun i j => bs g (fun a c => φ (i + a) (j + c))) := by
 unfold aCJ
 split
 ·rename_i h
  rcases h with h | h
  ·subst h; rfl
  ·subst h
   exact (aRT f (fun i j => bs [] (fun a c => φ (i + a) (j + c))) fun _ _ => rfl).symm
 ·rw [eGW, aZN f g φ f.length (Nat.le_refl _), aKX f f.length _ (Nat.le_refl _)]
  refine zF _ fun j _ => ?_
  have e : (fun i : Nat => bs g (fun a c => φ (i + a) (j + c))) = fun i => aAR g.length (fun c => rs (g.getD c []) (fun a => φ (i + a) (j + c))) := funext fun i => aKX g g.length _ (Nat.le_refl _)
  rw [e, aWO]
  exact zF _ fun c _ => eAT _ _ _
def Fit (n : Nat) (b : Bd) : Prop := b.length <= n /\ ∀ k, (b.getD k []).length <= n
theorem Fit.out {n : Nat} {b : Bd} (h : Fit n b) {i k : Nat} (q : n <= i \/ n <= k) : aBR b i k = 0 := by
 unfold aBR
 rcases q with q | q
 ·exact aEQ (Nat.le_trans (h.2 k) q)
 ·have e : b.getD k [] = [] := by rw [List.getD_eq_getElem?_getD, List.getElem?_eq_none (Nat.le_trans h.1 q)]; rfl
  rw [e]; rfl
theorem aVY (f g : Bd) : BoardOk (aCJ f g) := by
 unfold aCJ
 split
 ·exact ⟨.inl rfl, fun _ h => (nomatch h)⟩
 ·refine aBU ?_
  have h1 : ∀ j (acc : Bd), (∀ r ∈ acc, RowOk r) -> ∀ k, ∀ r ∈ aIF f g j acc k, RowOk r := by
   intro j acc ha k
   induction k with
   | zero => exact ha
   | succ k ih =>
    intro r hr
    rw [aIF] at hr
    rcases List.mem_or_eq_of_mem_set hr with h | h
    ·exact ih r h
    ·rw [h]; exact aTA _ _
  have h2 : ∀ j, ∀ r ∈ aGQ f g j, RowOk r := by
   intro j
   induction j with
   | zero => intro r hr; rw [aGQ] at hr; rw [(List.mem_replicate.mp hr).2]; exact .nil
   | succ j ih => exact h1 j _ ih _
  exact h2 _
theorem aYJ {n : Nat} {b : Bd} (hb : BoardOk b) (h : ∀ i k, n <= i \/ n <= k -> aBR b i k = 0) : Fit n b := by
 have hr : ∀ k, (b.getD k []).length <= n := fun k => by
  rcases hb.row k with e | ⟨ys, a, e, ha⟩
  ·rw [e]; exact Nat.zero_le _
  ·rcases Nat.lt_or_ge n (b.getD k []).length with z | z
   ·rw [e, List.length_append, List.length_singleton] at z
    have := h ys.length k (.inl (by omega))
    unfold aBR at this
    rw [e, List.getD_eq_getElem?_getD, List.getElem?_append_right (Nat.le_refl _), Nat.sub_self] at this
    exact absurd this ha
   ·exact z
 refine ⟨?_, hr⟩
 rcases hb.1 with e | ⟨ys, r, e, hn⟩
 ·rw [e]; exact Nat.zero_le _
 ·rcases Nat.lt_or_ge n b.length with z | z
  ·have hk : b.getD ys.length [] = r := by rw [e, List.getD_eq_getElem?_getD, List.getElem?_append_right (Nat.le_refl _), Nat.sub_self]; rfl
   have hrow := hb.row ys.length
   rw [hk] at hrow
   rcases hrow with w | ⟨zs, a, w, ha⟩
   ·exact absurd w hn
   ·rw [e, List.length_append, List.length_singleton] at z
    have := h zs.length ys.length (.inr (by omega))
    unfold aBR at this
    rw [hk, w, List.getD_eq_getElem?_getD, List.getElem?_append_right (Nat.le_refl _), Nat.sub_self] at this
    exact absurd this ha
  ·exact z
def VB (M : Nat) (kvs : KVs) : Prop := ∀ p ∈ kvs, p.2.natAbs <= M
def KIn (n : Nat) (kvs : KVs) : Prop := ∀ p ∈ kvs, ∃ i k : Nat, p.1 = nk i k /\ i < n /\ k < n
theorem aLT (kvs : KVs) (k : List Int) (v : Int) : (aGC kvs k v).length <= kvs.length + 1 := by
 unfold aGC
 split
 ·rw [List.length_map]; omega
 ·rw [List.length_append, List.length_singleton]; omega
theorem VB.put {M : Nat} {kvs : KVs} (h : VB M kvs) {k : List Int} {v : Int} (hv : v.natAbs <= M) : VB M (aGC kvs k v) := fun p hp => by
 rcases aLS hp with e | e
 ·rw [e]; exact hv
 ·exact h p e
theorem VB.val {M : Nat} {kvs : KVs} (h : VB M kvs) (k : List Int) : ((aCO kvs k).getD 0).natAbs <= M := by
 cases e : aCO kvs k with
 | none => exact Nat.zero_le _
 | some v => exact h _ (aGZ e)
theorem KIn.put {n : Nat} {kvs : KVs} (h : KIn n kvs) {i k : Nat} (hi : i < n) (hk : k < n) (v : Int) : KIn n (aGC kvs (nk i k) v) := fun p hp => by
 rcases aLS hp with e | e
 ·exact ⟨i, k, by rw [e], hi, hk⟩
 ·exact h p e
def BB (M : Nat) (b : Bd) : Prop := ∀ i k, (aBR b i k).natAbs <= M
theorem BB.lim {M : Nat} {b : Bd} (h : BB M b) (hM : M < 2 ^ 63) : ∀ r ∈ b, ∀ y ∈ r, -(2 ^ 63) < y /\ y < 2 ^ 63 := fun r hr y hy => by
 obtain ⟨k, hk, rfl⟩ := List.getElem_of_mem hr
 obtain ⟨i, hi, rfl⟩ := List.getElem_of_mem hy
 have := h i k
 unfold aBR at this
 rw [List.getD_eq_getElem?_getD (l := b), List.getElem?_eq_getElem hk] at this
 have e : (b[k]).getD i 0 = b[k][i] := aMQ hi
 have e' : ((some b[k]).getD []).getD i 0 = b[k][i] := e
 rw [e'] at this
 omega
theorem aKY {M : Nat} {kvs : KVs} (h : VB M kvs) : BB M (vU kvs) := fun i k => by
 rw [aCW]
 split
 ·exact h.val _
 ·exact Nat.zero_le _
theorem aIS {n : Nat} {kvs : KVs} (h : KIn n kvs) : Fit n (vU kvs) := aYJ (aFL kvs) fun i k q => by
 rw [aCW]
 split
 ·rw [aHA fun p hp e => ?_]
  ·rfl
  ·obtain ⟨a, c, e', h1, h2⟩ := h p hp
   have := aXP (e'.symm.trans e)
   omega
 ·rfl
theorem Fit.sm {n m : Nat} {b : Bd} (h : Fit n b) (hm : n < m) : SmB m b := ⟨Nat.lt_of_le_of_lt h.1 hm, fun r hr => by
 obtain ⟨k, hk, rfl⟩ := List.getElem_of_mem hr
 have := h.2 k
 rw [List.getD_eq_getElem?_getD, List.getElem?_eq_getElem hk] at this
 exact Nat.lt_of_le_of_lt this hm⟩
abbrev aUB (p q : List Int) : List Int := [p.getD 0 0 + q.getD 0 0, p.getD 1 0 + q.getD 1 0]
def aGM (p : List Int × Int) (acc B : KVs) : KVs := B.foldl (fun acc q => aGC acc (aUB p.1 q.1) ((aCO acc (aUB p.1 q.1)).getD 0 + p.2 * q.2)) acc
def aQQ (A B : KVs) : KVs := A.foldl (fun acc p => aGM p acc B) []
theorem aZW (a c i k : Nat) : aUB (nk a c) (nk i k) = nk (a + i) (c + k) := by simp [aUB, nk]
theorem aQR (a c : Nat) (v : Int) (φ : Nat -> Nat -> Int) : ∀ (B acc : KVs), KOk acc -> (∀ p ∈ B, ∃ i k : Nat, p.1 = nk i k) -> KOk (aGM (nk a c, v) acc B) /\ ds (aGM (nk a c, v) acc B) φ = ds acc φ + v * ds B (fun i k => φ (a + i) (c + k)) /\ (aGM (nk a c, v) acc B).length <= acc.length + B.length
 | [], acc, h, _ => ⟨h, by simp [aGM, ds], Nat.le_refl _⟩
 | (k, x) :: B, acc, h, hB => by
  obtain ⟨i, j, e⟩ := hB (k, x) (by simp)
  have e' : k = nk i j := e
  subst e'
  have ea : aUB (nk a c) (nk i j) = nk (a + i) (c + j) := aZW a c i j
  obtain ⟨g1, g2, g3⟩ := aQR a c v φ B (aGC acc (nk (a + i) (c + j)) ((aCO acc (nk (a + i) (c + j))).getD 0 + v * x)) (h.put _ _ _) fun p hp => hB p (by simp [hp])
  have e0 : aGM (nk a c, v) acc ((nk i j, x) :: B) = aGM (nk a c, v) (aGC acc (nk (a + i) (c + j)) ((aCO acc (nk (a + i) (c + j))).getD 0 + v * x)) B := by
   show aGM (nk a c, v) (aGC acc (aUB (nk a c) (nk i j)) ((aCO acc (aUB (nk a c) (nk i j))).getD 0 + v * x)) B = _
   rw [ea]
  rw [e0]
  refine ⟨g1, ?_, ?_⟩
  ·rw [g2, eKZ h, ds]
   have e1 : (aCO acc (nk (a + i) (c + j))).getD 0 + v * x - (aCO acc (nk (a + i) (c + j))).getD 0 = v * x := by omega
   have e2 : ((nk i j).getD 0 0).toNat = i := by simp
   have e3 : ((nk i j).getD 1 0).toNat = j := by simp
   simp only [e2, e3]
   rw [e1, Int.mul_add, <- Int.mul_assoc]; omega
  ·have := aLT acc (nk (a + i) (c + j)) ((aCO acc (nk (a + i) (c + j))).getD 0 + v * x)
   rw [List.length_cons]; omega
theorem aWZ (B : KVs) (hB : ∀ p ∈ B, ∃ i k : Nat, p.1 = nk i k) (φ : Nat -> Nat -> Int) : ∀ (A acc : KVs), KOk acc -> (∀ p ∈ A, ∃ i k : Nat, p.1 = nk i k) -> KOk (A.foldl (fun acc p => aGM p acc B) acc) /\ ds (A.foldl (fun acc p => aGM p acc B) acc) φ = ds acc φ + ds A (fun i k => ds B (fun a c => φ (i + a) (k + c))) /\ (A.foldl (fun acc p => aGM p acc B) acc).length <= acc.length + A.length * B.length
 | [], acc, h, _ => ⟨h, by simp [ds], by simp⟩
 | (k, v) :: A, acc, h, hA => by
  obtain ⟨a, c, e⟩ := hA (k, v) (by simp)
  have e' : k = nk a c := e
  subst e'
  obtain ⟨f1, f2, f3⟩ := aQR a c v φ B acc h hB
  obtain ⟨g1, g2, g3⟩ := aWZ B hB φ A (aGM (nk a c, v) acc B) f1 fun p hp => hA p (by simp [hp])
  rw [List.foldl_cons]
  refine ⟨g1, ?_, ?_⟩
  ·rw [g2, f2, ds]
   have e2 : ((nk a c).getD 0 0).toNat = a := by simp
   have e3 : ((nk a c).getD 1 0).toNat = c := by simp
   simp only [e2, e3]; omega
  ·rw [List.length_cons, Nat.succ_mul]; omega
theorem aUG {X : Cx} {c : Expr} {body : List Stmt} (R : Bd -> Rho) (h1 : EvT X (R []) c false) (h2 : ∀ ys a, EvT X (R (ys ++ [a])) c (decide (a = []))) (h3 : ∀ ys a, EvSs X (R (ys ++ [a])) body (.nx (R ys))) :
  ∀ (n : Nat) (ys : Bd), ys.length = n -> ∃ m, WRun X c body m (R ys) (.nx (R (wH ys))) := by
 intro n
 induction n with
 | zero => intro ys e; rw [List.eq_nil_of_length_eq_zero e]; exact ⟨0, .stop h1⟩
 | succ n ih =>
  intro ys e
  rcases List.eq_nil_or_concat ys with z | ⟨zs, a, z⟩
  ·rw [z] at e; cases e
  ·rw [List.concat_eq_append] at z
   subst z
   by_cases ha : a = []
   ·obtain ⟨m, q⟩ := ih zs (by simpa using e)
    refine ⟨m + 1, .step (EvT.eq (h2 zs a) (decide_eq_true ha)) (h3 zs a) ?_⟩
    rw [ha, aBD]; exact q
   ·refine ⟨0, ?_⟩
    rw [aBE zs ha]
    exact .stop (EvT.eq (h2 zs a) (decide_eq_false ha))
def eHZ (kvs : KVs) (k : Nat) : List Int := wV ((List.range 9).map fun i => (aCO kvs (nk i k)).getD 0)
def qJ (ds : List D) (d : D) : Prop := ∃ kvs : KVs, ds = [.dic kvs] /\ d = yJ (vU kvs)
theorem aFG : ∀ ds d, qJ ds d -> ds.length = 1 := by rintro _ _ ⟨a, rfl, _⟩; rfl
def vX (ds : List D) (kvs : KVs) : Prop := ∃ A B : KVs, ds = [.dic A, .dic B] /\ KOk A /\ KOk B /\ A.length <= 1000 /\ B.length <= 1000 /\ VB (2 ^ 63) B /\ kvs = aQQ A B
theorem aGE : ∀ ds d, vX ds d -> ds.length = 2 := by rintro _ _ ⟨a, b, rfl, _⟩; rfl
def aHR (xs : List Int) : KVs := [(nk 0 0, xs.getD 0 0 % 11 - 5), (nk 1 0, xs.getD 1 0 % 7 - 3), (nk 0 1, xs.getD 2 0 % 5 - 2)]
def aCH (ds : List D) (kvs : KVs) : Prop := ∃ xs : List Int, ds = [qV xs] /\ 3 <= xs.length /\ kvs = aHR xs
theorem aMM : ∀ ds d, aCH ds d -> ds.length = 1 := by rintro _ _ ⟨a, rfl, _⟩; rfl
def aWG (k : Nat) : List Int := ([nk 0 0, nk 1 0, nk 0 1, nk 2 0, nk 1 1, nk 0 2] : List (List Int)).getD k []
def vH (xs : List Int) : Int := 1 + xs.getD 0 0 % 4
def aDM (xs : List Int) : Nat -> KVs
 | 0 => []
 | k + 1 => if xs.getD (1 + k) 0 / 16 % 3 > 0 then aGC (aDM xs k) (aWG k) (xs.getD (1 + k) 0 % (2 * vH xs + 1) - vH xs) else aDM xs k
def aAY (ds : List D) (kvs : KVs) : Prop := ∃ xs : List Int, ds = [qV xs] /\ 7 <= xs.length /\ kvs = aDM xs 6
theorem aJY : ∀ ds d, aAY ds d -> ds.length = 1 := by rintro _ _ ⟨a, rfl, _⟩; rfl
theorem aBX (xs : List Int) : KOk (aHR xs) /\ KIn 2 (aHR xs) /\ VB 5 (aHR xs) := by
 refine ⟨⟨fun p hp => ?_, by show [nk 0 0, nk 1 0, nk 0 1].Nodup; decide⟩, fun p hp => ?_, fun p hp => ?_⟩ <;>
 ·unfold aHR at hp
  rcases List.mem_cons.mp hp with e | hp
  ·subst e
   first
    | exact ⟨0, 0, rfl⟩
    | exact ⟨0, 0, rfl, by omega, by omega⟩
    | (show (xs.getD 0 0 % 11 - 5).natAbs <= 5; omega)
  ·rcases List.mem_cons.mp hp with e | hp
   ·subst e
    first
     | exact ⟨1, 0, rfl⟩
     | exact ⟨1, 0, rfl, by omega, by omega⟩
     | (show (xs.getD 1 0 % 7 - 3).natAbs <= 5; omega)
   ·have e := List.mem_singleton.mp hp
    subst e
    first
     | exact ⟨0, 1, rfl⟩
     | exact ⟨0, 1, rfl, by omega, by omega⟩
     | (show (xs.getD 2 0 % 5 - 2).natAbs <= 5; omega)
theorem eEK {k : Nat} (h : k < 6) : ∃ a c : Nat, aWG k = nk a c /\ a < 3 /\ c < 3 := by
 match k, h with
 | 0, _ => exact ⟨0, 0, rfl, by omega, by omega⟩
 | 1, _ => exact ⟨1, 0, rfl, by omega, by omega⟩
 | 2, _ => exact ⟨0, 1, rfl, by omega, by omega⟩
 | 3, _ => exact ⟨2, 0, rfl, by omega, by omega⟩
 | 4, _ => exact ⟨1, 1, rfl, by omega, by omega⟩
 | 5, _ => exact ⟨0, 2, rfl, by omega, by omega⟩
theorem aZH (xs : List Int) : ∀ k, k <= 6 -> KIn 5 (aDM xs k) /\ VB 1000000 (aDM xs k) /\ (aDM xs k).length <= k
 | 0, _ => ⟨fun _ h => (nomatch h), fun _ h => (nomatch h), Nat.le_refl _⟩
 | k + 1, h => by
  obtain ⟨h1, h2, h3⟩ := aZH xs k (by omega)
  obtain ⟨a, c, e, ha, hc⟩ := eEK (k := k) (by omega)
  rw [aDM]
  split
  ·rw [e]
   have hs : 1 <= vH xs /\ vH xs <= 4 := by unfold vH; omega
   refine ⟨h1.put (by omega) (by omega) _, h2.put ?_, ?_⟩
   ·have := Int.emod_lt_of_pos (xs.getD (1 + k) 0) (show 0 < 2 * vH xs + 1 by omega)
    have := Int.emod_nonneg (xs.getD (1 + k) 0) (show 2 * vH xs + 1 ≠ 0 by omega)
    omega
   ·have := aLT (aDM xs k) (nk a c) (xs.getD (1 + k) 0 % (2 * vH xs + 1) - vH xs)
    omega
  ·exact ⟨h1, h2, by omega⟩
structure LB (b : Bd) : Prop where
 ok : BoardOk b
 fit : Fit 5 b
 bb : BB 1000000 b
theorem eMQ {kvs : KVs} (h1 : KIn 5 kvs) (h2 : VB 1000000 kvs) : LB (vU kvs) := ⟨aFL _, aIS h1, aKY h2⟩
theorem aIW (h : DefX P w K mg base k N__law_board_of (yB yT) X) (m_range : mg "range" = none) (m_tuple : mg "tuple" = none) (m_len : mg "len" = none) (c1 : Callee X "_law_trim" aCG) :
  ∀ ds d, qJ ds d -> EvSs X (ds.map Sl.val ++ List.replicate (N__law_board_of.length - ds.length) Sl.un) (yF yT) (.rt d) := by
 rintro ds d ⟨kvs, rfl, rfl⟩
 have t := h.at'
 haveI := h.fnT
 have b1 : Blt X (yB yT) "range" (.type "range") := yR (by rw [h.mg']; exact m_range)
 have b2 : Blt X (yB yT) "tuple" (.type "tuple") := yR (by rw [h.mg']; exact m_tuple)
 have b3 : Blt X (yB yT) "len" (.builtin "len") := yR (by rw [h.mg']; exact m_len)
 show EvSs X [.val (.dic kvs), .un, .un] _ _
 refine yG (aCK t 1 (zX yE)) ?_
 refine yG (ρ' := [.val (.dic kvs), .own (((List.range 9).map (eHZ kvs)).map qO), .un]) (aBH t (wD t b1 yD (by decide) (by decide)) (FRun.uptoE (fun i => [.val (.dic kvs), .own (((List.range i).map (eHZ kvs)).map qO), .un]) (fun i d hi => ?_) rfl ?_)) ?_
 ·obtain ⟨hin, rfl⟩ := aEI hi
  refine ⟨_, jJ t 2, EvSs.weak (yH (wX t 1 rfl (d := qO (eHZ kvs i)) (yO t c1 (yC (d := qV ((List.range 9).map fun j => (aCO kvs (nk j i)).getD 0)) (EvE.eq (EvN.toE (aFK (rs := (List.range 9).map fun j => D.int ((aCO kvs (nk j i)).getD 0)) t (N__law_board_of ++ [("_law_i" : Str)]) (csc (by decide +kernel)) (wD t b1 yD (by decide) (by decide)) (by decide) fun X' cx => ?_)) (by show D.lst _ = D.lst _; rw [List.map_map]; rfl)) yE) ⟨_, rfl, by simp, rfl⟩) ?_)) ?_⟩
  ·exact CRun.gen (fun (j : Nat) => D.int (0 + (j : Int))) _ (fun (j : Nat) => [.val (.dic kvs), .own (((List.range i).map (eHZ kvs)).map qO), .val (.int (i : Int)), .val (.int (j : Int))]) _ _ (fun x hx => by rw [Int.zero_add]; exact jP cx.at' 3) (fun x hx y hy => by rw [Int.zero_add]; exact jP cx.at' 3) fun x hx =>
    aYR (k := nk x i) (n0 := 0) cx.at' (EvE.dr (yA cx.at' 0 rfl)) (yC (yP (yC (yA cx.at' 3 rfl) (yC (yA cx.at' 2 rfl) yE))) (yC yD yE))
  ·rw [List.length_map, List.length_map, List.length_range]; exact aQG (by simp at hin; omega)
  ·rw [List.range_succ, List.map_append, List.map_append]
   exact .keep (.keep (.forget .nil))
 ·rfl
 refine yG (aHJ t (aUG (fun ys => [.val (.dic kvs), .own (ys.map qO), .un]) ?_ (fun ys a => ?_) (fun ys a => ?_) _ ((List.range 9).map (eHZ kvs)) rfl)) (yH (zH (aDE t b2 (aAL t 1 rfl))))
 ·exact EvW.toT (aII (aFU t (EvQ.p (aAL t 1 rfl)) (EvE.p (EvN.toE (zX yE))) (vO []) (vO []) (by have := aRM [] []; exact congrArg not this)))
 ·refine EvW.toT (aIH (aFU t (EvQ.p (aAL t 1 rfl)) (EvE.p (EvN.toE (zX yE))) ((eGA (ys ++ [a])).sh (by decide)) (vO []) ?_) (aIJ (wC t (EvE.p (d := qO a) (zE (aAL t 1 rfl) (jM (jH t b3 (aAL t 1 rfl)) yD) ?_)) (EvE.p (d := qO []) (yP yE)) (zA _) (zA _) (aDY _ _))))
  ·show (!(PyData.list (toPs ((ys ++ [a]).map qO))).eqv (.list (toPs []))) = true
   rw [aSL]
   cases ys with
   | nil => simp [toPs, PyData.eqv, PyData.eqvAll]
   | cons r ys => simp [toPs, PyData.eqv, PyData.eqvAll]
  ·rw [List.length_map, aKZ (g := qO) (n := ys.length) (by simp) (by simp) (by simp)]
   simp
 ·refine EvSs.eq (yH (eHV t 1 rfl (by simp))) ?_
  rw [List.map_append]
  have e : (ys.map qO ++ [a].map qO).dropLast = ys.map qO := by simp
  rw [e]; rfl
theorem aIT (h : DefX P w K mg base k N__law_product (yB qI) X) :
  ∀ ds d, vX ds d -> aJA X (ds.map Sl.val ++ List.replicate (N__law_product.length - ds.length) Sl.un) (yF qI) d := by
 rintro ds d ⟨A, B, rfl, hA, hB, lA, lB, vB, rfl⟩
 have t := h.at'
 haveI := h.fnT
 show aJA X [.val (.dic A), .val (.dic B), .un, .un, .un, .un, .un] _ _
 refine aDG (aWJ t 2 aYY) ?_
 refine aDG (ρ' := [.val (.dic A), .val (.dic B), .dct (aQQ A B), .un, .un, .un, .un]) (aBH t (eDP (yA t 0 rfl)) (FRun.uptoE (fun i => [.val (.dic A), .val (.dic B), .dct ((A.take i).foldl (fun acc p => aGM p acc B) []), .un, .un, .un, .un]) (fun i d hi => ?_) rfl ?_)) (aYW t 2 rfl)
 ·rw [List.getElem?_map] at hi
  cases hp : A[i]? with
  | none => rw [hp] at hi; cases hi
  | some p =>
  rw [hp] at hi; cases hi
  obtain ⟨key, v⟩ := p
  have hm : (key, v) ∈ A := List.mem_of_getElem? hp
  obtain ⟨a, c, e⟩ := hA.keys _ hm
  have e' : key = nk a c := e
  subst e'
  have hv := aGI hA.nd hm
  have hilt : i < A.length := (List.getElem?_eq_some_iff.mp hp).1
  obtain ⟨f1, _, f3⟩ := aWZ B hB.keys (fun _ _ => 0) (A.take i) [] .nil (fun p hp => hA.keys p (List.mem_of_mem_take hp))
  have f3' : ((A.take i).foldl (fun acc p => aGM p acc B) []).length <= 1000 * 1000 := by
   have h1 : (A.take i).length <= 1000 := by rw [List.length_take]; omega
   have h2 := Nat.mul_le_mul h1 lB
   have h3 : ([] : KVs).length = 0 := rfl
   omega
  have et : A.take (i + 1) = A.take i ++ [(nk a c, v)] := aCP hp
  refine ⟨_, aCV t 3 4, EvSs.weak (ρ1 := [.val (.dic A), .val (.dic B), .dct ((A.take (i + 1)).foldl (fun acc p => aGM p acc B) []), .val (.int a), .val (.int c), .un, .un]) (yH (aBH t (eDP (yA t 1 rfl))
   (FRun.uptoE (fun j => [.val (.dic A), .val (.dic B), .dct (aGM (nk a c, v) ((A.take i).foldl (fun acc p => aGM p acc B) []) (B.take j)), .val (.int a), .val (.int c), .un, .un]) (fun j d hj => ?_) rfl ?_))) (.keep (.keep (.keep (.forget (.forget (.keep (.keep .nil)))))))⟩
  ·rw [List.getElem?_map] at hj
   cases hq : B[j]? with
   | none => rw [hq] at hj; cases hj
   | some q =>
   rw [hq] at hj; cases hj
   obtain ⟨key2, v2⟩ := q
   have hm2 : (key2, v2) ∈ B := List.mem_of_getElem? hq
   obtain ⟨a2, c2, e⟩ := hB.keys _ hm2
   have e' : key2 = nk a2 c2 := e
   subst e'
   have hv2 := aGI hB.nd hm2
   have hb2 := vB _ hm2
   have hb3 : v2.natAbs <= 2 ^ 63 := hb2
   have et2 : B.take (j + 1) = B.take j ++ [(nk a2 c2, v2)] := aCP hq
   obtain ⟨_, _, g3⟩ := aQR a c v (fun _ _ => 0) (B.take j) _ f1 (fun p hp => hB.keys p (List.mem_of_mem_take hp))
   have g4 : (B.take j).length <= 1000 := by rw [List.length_take]; omega
   refine ⟨_, aCV t 5 6, EvSs.weak (yH (eAR t (zQ (aYR (k := aUB (nk a c) (nk a2 c2)) (n0 := 0) t (eKR t 2 rfl) (yC (yP (yC (zQ (yA t 3 rfl) (yA t 5 rfl)) (yC (zQ (yA t 4 rfl) (yA t 6 rfl)) yE))) (yC yD yE)))
    (wQ (eDL (k := nk a c) t (EvE.dr (yA t 0 rfl)) (yP (yC (yA t 3 rfl) (yC (yA t 4 rfl) yE))) hv) (eDL (k := nk a2 c2) t (EvE.dr (yA t 1 rfl)) (yP (yC (yA t 5 rfl) (yC (yA t 6 rfl) yE))) hv2) (aBJ (by omega) (by omega))))
    (aRN (k := aUB (nk a c) (nk a2 c2)) t 2 rfl (yP (yC (zQ (yA t 3 rfl) (yA t 5 rfl)) (yC (zQ (yA t 4 rfl) (yA t 6 rfl)) yE))) (by rw [aRC]; omega)))) ?_⟩
   rw [et2, show aGM (nk a c, v) ((A.take i).foldl (fun acc p => aGM p acc B) []) (B.take j ++ [(nk a2 c2, v2)]) = _ from List.foldl_append]
   exact .keep (.keep (.keep (.keep (.keep (.forget (.forget .nil))))))
  ·rw [List.length_map, List.take_length, et, List.foldl_append]; rfl
 ·rw [List.length_map, List.take_length]; rfl
theorem aXB {n m l a c : Nat} (v : Int) (ha : a < n) (hc : c < n) (hl : n + m <= l + 1) : ∀ (B acc : KVs), KIn m B -> KIn l acc -> KIn l (aGM (nk a c, v) acc B)
 | [], acc, _, h => h
 | (k, x) :: B, acc, hB, h => by
  obtain ⟨i, j, e, hi, hj⟩ := hB (k, x) (by simp)
  have e' : k = nk i j := e
  subst e'
  show KIn l (aGM (nk a c, v) (aGC acc (aUB (nk a c) (nk i j)) ((aCO acc (aUB (nk a c) (nk i j))).getD 0 + v * x)) B)
  rw [aZW]
  exact aXB v ha hc hl B _ (fun p hp => hB p (by simp [hp])) (h.put (by omega) (by omega) _)
theorem aXA {a c : Nat} (v : Int) (hv : v.natAbs <= 5) : ∀ (B acc : KVs) (M : Nat), VB 5 B -> VB M acc -> VB (M + 25 * B.length) (aGM (nk a c, v) acc B)
 | [], acc, M, _, h => h
 | (k, x) :: B, acc, M, hB, h => by
  have hx : x.natAbs <= 5 := hB (k, x) (by simp)
  have h1 : (v * x).natAbs <= 25 := by rw [Int.natAbs_mul]; exact Nat.mul_le_mul hv hx
  have h2 : VB (M + 25) (aGC acc (aUB (nk a c) k) ((aCO acc (aUB (nk a c) k)).getD 0 + v * x)) := VB.put (fun p hp => Nat.le_trans (h p hp) (by omega)) (by
   have := h.val (aUB (nk a c) k)
   omega)
  have h3 := aXA (a := a) (c := c) v hv B _ (M + 25) (fun p hp => hB p (by simp [hp])) h2
  intro p hp
  have := h3 p hp
  have e : ((k, x) :: B).length = B.length + 1 := rfl
  omega
theorem aWY {n m l : Nat} (hl : n + m <= l + 1) {B : KVs} (hB : KIn m B) : ∀ (A acc : KVs), KIn n A -> KIn l acc -> KIn l (A.foldl (fun acc p => aGM p acc B) acc)
 | [], acc, _, h => h
 | (k, v) :: A, acc, hA, h => by
  obtain ⟨i, j, e, hi, hj⟩ := hA (k, v) (by simp)
  have e' : k = nk i j := e
  subst e'
  rw [List.foldl_cons]
  exact aWY hl hB A _ (fun p hp => hA p (by simp [hp])) (aXB v hi hj hl B acc hB h)
theorem aWX {B : KVs} (hB : VB 5 B) : ∀ (A acc : KVs) (M : Nat), (∀ p ∈ A, ∃ i k : Nat, p.1 = nk i k) -> VB 5 A -> VB M acc -> VB (M + 25 * (A.length * B.length)) (A.foldl (fun acc p => aGM p acc B) acc)
 | [], acc, M, _, _, h => by
  have e : ([] : KVs).length * B.length = 0 := by simp
  rw [e]; exact h
 | (k, v) :: A, acc, M, hk, hA, h => by
  obtain ⟨i, j, e⟩ := hk (k, v) (by simp)
  have e' : k = nk i j := e
  subst e'
  rw [List.foldl_cons]
  have h1 := aXA (a := i) (c := j) v (hA (nk i j, v) (by simp)) B acc M hB h
  have h2 := aWX hB A _ _ (fun p hp => hk p (by simp [hp])) (fun p hp => hA p (by simp [hp])) h1
  intro p hp
  have := h2 p hp
  have e : ((nk i j, v) :: A).length * B.length = A.length * B.length + B.length := by rw [List.length_cons, Nat.succ_mul]
  omega
theorem aHL {A B : KVs} (kA : KOk A) (iA : KIn 2 A) (iB : KIn 2 B) (vA : VB 5 A) (vB : VB 5 B) (lA : A.length <= 3) (lB : B.length <= 3) : KIn 5 (aQQ A B) /\ VB 1000000 (aQQ A B) := by
 have h1 := aWY (n := 2) (m := 2) (l := 5) (by omega) iB A [] iA (fun _ h => (nomatch h))
 have h2 := aWX vB A [] 0 kA.keys vA (fun _ h => (nomatch h))
 refine ⟨h1, fun p hp => ?_⟩
 have h3 := h2 p hp
 have h4 := Nat.mul_le_mul lA lB
 omega
def eEC (xs : List Int) : KVs := [(nk 0 0, xs.getD 1 0 % 11 - 5), (nk 1 0, xs.getD 2 0 % 7 - 3), (nk 2 0, xs.getD 3 0 % 5 - 2)]
def aUD (xs : List Int) : KVs := [(nk 0 0, xs.getD 1 0 % 5 - 2), (nk 1 0, 1)]
def eEB (xs : List Int) : KVs := [(nk 0 0, 0 - xs.getD 1 0 % 10), (nk 2 0, 1 + xs.getD 2 0 % 2), (nk 0 2, 1 + xs.getD 3 0 % 2)]
def lbK (xs : List Int) : KVs :=
 if xs.getD 0 0 % 8 < 2 then aDM (aBY xs (some 1) none) 6
 else if xs.getD 0 0 % 8 = 2 then eEC xs
 else if xs.getD 0 0 % 8 = 3 then aQQ (aHR (aBY xs (some 1) none)) (aHR (aBY xs (some 4) none))
 else if xs.getD 0 0 % 8 = 4 then aQQ (aHR (aBY xs (some 1) none)) (aHR [xs.getD 1 0, xs.getD 2 0, xs.getD 3 0])
 else if xs.getD 0 0 % 8 = 5 then aQQ (aUD xs) (aHR (aBY xs (some 4) none))
 else if xs.getD 0 0 % 8 = 6 then eEB xs
 else aHR (aBY xs (some 1) none)
def lbF (c : Int) : Bd := vU (lbK (aBA c 12))
theorem KIn.mono {n m : Nat} {kvs : KVs} (h : KIn n kvs) (q : n <= m) : KIn m kvs := fun p hp => let ⟨i, k, e, a, b⟩ := h p hp; ⟨i, k, e, by omega, by omega⟩
theorem VB.mono {n m : Nat} {kvs : KVs} (h : VB n kvs) (q : n <= m) : VB m kvs := fun p hp => Nat.le_trans (h p hp) q
theorem aSI (xs : List Int) : KOk (aUD xs) /\ KIn 2 (aUD xs) /\ VB 5 (aUD xs) := by
 refine ⟨⟨fun p hp => ?_, by show [nk 0 0, nk 1 0].Nodup; decide⟩, fun p hp => ?_, fun p hp => ?_⟩ <;>
 ·unfold aUD at hp
  rcases List.mem_cons.mp hp with e | hp
  ·subst e
   first
    | exact ⟨0, 0, rfl⟩
    | exact ⟨0, 0, rfl, by omega, by omega⟩
    | (show (xs.getD 1 0 % 5 - 2).natAbs <= 5; omega)
  ·have e := List.mem_singleton.mp hp
   subst e
   first
    | exact ⟨1, 0, rfl⟩
    | exact ⟨1, 0, rfl, by omega, by omega⟩
    | decide
theorem eDB (xs : List Int) : KIn 5 (lbK xs) /\ VB 1000000 (lbK xs) := by
 unfold lbK
 split
 ·have := aZH (aBY xs (some 1) none) 6 (Nat.le_refl _); exact ⟨this.1, this.2.1⟩
 split
 ·refine ⟨fun p hp => ?_, fun p hp => ?_⟩ <;>
  ·unfold eEC at hp
   rcases List.mem_cons.mp hp with e | hp
   ·subst e
    first
     | exact ⟨0, 0, rfl, by omega, by omega⟩
     | (show (xs.getD 1 0 % 11 - 5).natAbs <= 1000000; omega)
   ·rcases List.mem_cons.mp hp with e | hp
    ·subst e
     first
      | exact ⟨1, 0, rfl, by omega, by omega⟩
      | (show (xs.getD 2 0 % 7 - 3).natAbs <= 1000000; omega)
    ·have e := List.mem_singleton.mp hp
     subst e
     first
      | exact ⟨2, 0, rfl, by omega, by omega⟩
      | (show (xs.getD 3 0 % 5 - 2).natAbs <= 1000000; omega)
 split
 ·obtain ⟨a1, a2, a3⟩ := aBX (aBY xs (some 1) none)
  obtain ⟨b1, b2, b3⟩ := aBX (aBY xs (some 4) none)
  exact aHL a1 a2 b2 a3 b3 (Nat.le_refl _) (Nat.le_refl _)
 split
 ·obtain ⟨a1, a2, a3⟩ := aBX (aBY xs (some 1) none)
  obtain ⟨b1, b2, b3⟩ := aBX [xs.getD 1 0, xs.getD 2 0, xs.getD 3 0]
  exact aHL a1 a2 b2 a3 b3 (Nat.le_refl _) (Nat.le_refl _)
 split
 ·obtain ⟨a1, a2, a3⟩ := aSI xs
  obtain ⟨b1, b2, b3⟩ := aBX (aBY xs (some 4) none)
  exact aHL a1 a2 b2 a3 b3 (by show 2 <= 3; omega) (Nat.le_refl _)
 split
 ·refine ⟨fun p hp => ?_, fun p hp => ?_⟩ <;>
  ·unfold eEB at hp
   rcases List.mem_cons.mp hp with e | hp
   ·subst e
    first
     | exact ⟨0, 0, rfl, by omega, by omega⟩
     | (show (0 - xs.getD 1 0 % 10).natAbs <= 1000000; omega)
   ·rcases List.mem_cons.mp hp with e | hp
    ·subst e
     first
      | exact ⟨2, 0, rfl, by omega, by omega⟩
      | (show (1 + xs.getD 2 0 % 2).natAbs <= 1000000; omega)
    ·have e := List.mem_singleton.mp hp
     subst e
     first
      | exact ⟨0, 2, rfl, by omega, by omega⟩
      | (show (1 + xs.getD 3 0 % 2).natAbs <= 1000000; omega)
 ·obtain ⟨a1, a2, a3⟩ := aBX (aBY xs (some 1) none)
  exact ⟨a2.mono (by omega), a3.mono (by omega)⟩
theorem eJP (c : Int) : LB (lbF c) := eMQ (eDB _).1 (eDB _).2
def aAZ (ds : List D) (d : D) : Prop := ∃ c : Int, ds = [.int c] /\ d = yJ (lbF c)
theorem aJZ : ∀ ds d, aAZ ds d -> ds.length = 1 := by rintro _ _ ⟨a, rfl, _⟩; rfl
theorem aTX {xs : List Int} {n m : Nat} (h : xs.length = n) (hm : m <= n) : (aBY xs (some (m : Int)) none).length = n - m := by
 unfold aBY
 have e1 : HT.sIx xs.length 0 (some (m : Int)) = m := by simp only [HT.sIx]; split <;> omega
 have e2 : HT.sIx xs.length xs.length none = xs.length := by simp [HT.sIx]
 rw [List.length_take, List.length_drop, e1, e2, h]; omega
theorem aPS (h : DefX P w K mg base k N__law_line (yB jS) X) :
  ∀ ds d, aCH ds d -> aJA X (ds.map Sl.val ++ List.replicate (N__law_line.length - ds.length) Sl.un) (yF jS) d := by
 rintro ds d ⟨xs, rfl, hl, rfl⟩
 have t := h.at'
 haveI := h.fnT
 show aJA X [.val (qV xs)] _ _
 refine eBL (EvDn.eq (aNE t (EvKs.cons (k := nk 0 0) (yP (yC yD (yC yD yE))) (jM (yV (i := xs.getD 0 0) (zE (EvE.ql (yA t 0 rfl)) yD (wU (n := 0) (by omega))) yD (by decide)) yD)
  (EvKs.cons (k := nk 1 0) (yP (yC yD (yC yD yE))) (jM (yV (i := xs.getD 1 0) (zE (EvE.ql (yA t 0 rfl)) yD (wU (n := 1) (by omega))) yD (by decide)) yD)
  (EvKs.cons (k := nk 0 1) (yP (yC yD (yC yD yE))) (jM (yV (i := xs.getD 2 0) (zE (EvE.ql (yA t 0 rfl)) yD (wU (n := 2) (by omega))) yD (by decide)) yD) .nil)))) rfl)
set_option maxHeartbeats 400000
def aEG : List D := [.tup [.int 0, .int 0], .tup [.int 1, .int 0], .tup [.int 0, .int 1], .tup [.int 2, .int 0], .tup [.int 1, .int 1], .tup [.int 0, .int 2]]
theorem aWF {i : Nat} (h : i < 6) : atI aEG (i : Int) = some (.tup ((aWG i).map D.int)) := by
 match i, h with
 | 0, _ => rfl
 | 1, _ => rfl
 | 2, _ => rfl
 | 3, _ => rfl
 | 4, _ => rfl
 | 5, _ => rfl
theorem aNK (h : DefX P w K mg base k N__law_conic (yB qN) X) (m_range : mg "range" = none) :
  ∀ ds d, aAY ds d -> aJA X (ds.map Sl.val ++ List.replicate (N__law_conic.length - ds.length) Sl.un) (yF qN) d := by
 rintro ds d ⟨xs, rfl, hl, rfl⟩
 have t := h.at'
 haveI := h.fnT
 have b1 : Blt X (yB qN) "range" (.type "range") := yR (by rw [h.mg']; exact m_range)
 show aJA X [.val (qV xs), .un, .un, .un, .un] _ _
 have two : ∀ {ρ : Rho} {i j : Int} {pos p1 p2 : Pos} {x1 n1 n2 : Nat}, EvE X ρ (.Tuple [.Constant (.int i) n1 p1, .Constant (.int j) n2 p2] x1 pos) (.tup [.int i, .int j]) := yP (yC yD (yC yD yE))
 refine aDG (qR (d := .int (vH xs)) t 1 (zQ yD (yV (i := xs.getD 0 0) (zE (EvE.ql (yA t 0 rfl)) yD (wU (n := 0) (by omega))) yD (by decide)))) ?_
 refine aDG (aWJ t 2 aYY) ?_
 refine aDG (ρ' := [.val (qV xs), .val (.int (vH xs)), .dct [], .own aEG, .un]) ?_ ?_
 ·refine aCK (xs := aEG) t 3 ?_ (hs := ?_)
  ·refine zX (ds := aEG) ?_ (hl := by rw [aRC]; decide)
   refine yC two ?_
   refine yC two ?_
   refine yC two ?_
   refine yC two ?_
   refine yC two ?_
   refine yC two ?_
   exact yE
  ·rfl
 refine aDG (ρ' := [.val (qV xs), .val (.int (vH xs)), .dct (aDM xs 6), .own aEG, .un]) (aBH t (wD t b1 yD (by decide) (by decide)) (FRun.uptoE (fun i => [.val (qV xs), .val (.int (vH xs)), .dct (aDM xs i), .own aEG, .un]) (fun i d hi => ?_) rfl ?_)) (aYW t 2 rfl)
 rotate_left
 ·have e : (wP 0 (6 : Int).toNat).length = 6 := by simp [wP]
  exact congrArg (fun n => [Sl.val (qV xs), Sl.val (.int (vH xs)), Sl.dct (aDM xs n), Sl.own aEG, Sl.un]) e
 obtain ⟨hin, rfl⟩ := aEI hi
 have hi' : i < 6 := by simpa using hin
 obtain ⟨_, _, l3⟩ := aZH xs i (by omega)
 have hs : 1 <= vH xs /\ vH xs <= 4 := by unfold vH; omega
 have e1 : (1 : Int) + (i : Int) = ((1 + i : Nat) : Int) := by omega
 have hx : atI (xs.map D.int) (1 + (i : Int)) = some (.int (xs.getD (1 + i) 0)) := by rw [e1]; exact wU (by omega)
 have hk : atI aEG (i : Int) = some (.tup ((aWG i).map D.int)) := by
  exact aWF hi'
 refine ⟨_, jJ t 4, EvSs.weak (ρ1 := [.val (qV xs), .val (.int (vH xs)), .dct (aDM xs (i + 1)), .own aEG, .val (.int i)]) (yH ?_) (.keep (.keep (.keep (.keep (.forget .nil)))))⟩
 by_cases hc : xs.getD (1 + i) 0 / 16 % 3 > 0
 ·refine jY (EvT.eq (aDL (yV (aMV (i := xs.getD (1 + i) 0) t (zE (EvE.ql (yA t 0 rfl)) (zQ yD (yA t 4 rfl)) hx) yD (by decide)) yD (by decide)) yD) (decide_eq_true hc)) (EvSs.eq (yH (eAR t (jM (yV (i := xs.getD (1 + i) 0) (zE (EvE.ql (yA t 0 rfl)) (zQ yD (yA t 4 rfl)) hx) (zQ (wQ (i := 2) (j := vH xs) yD (yA t 1 rfl) (vV (by decide) (by decide))) yD) (by omega)) (yA t 1 rfl)) (aRN (k := aWG i) t 2 rfl (zE (aAL t 3 rfl) (yA t 4 rfl) hk) (by rw [aRC]; omega)))) ?_)
  rw [show aDM xs (i + 1) = _ from if_pos hc]; rfl
 ·refine jI (EvT.eq (aDL (yV (aMV (i := xs.getD (1 + i) 0) t (zE (EvE.ql (yA t 0 rfl)) (zQ yD (yA t 4 rfl)) hx) yD (by decide)) yD (by decide)) yD) (decide_eq_false hc)) (EvSs.eq zW ?_)
  rw [show aDM xs (i + 1) = aDM xs i from if_neg hc]; rfl
set_option maxHeartbeats 8000000
theorem aPX (h : DefX P w K mg base k N__law_board (yB jF) X) (cN : Callee X "_law_numbers" jN) (cB : Callee X "_law_board_of" qJ) (cL : aJB X "_law_line" aCH) (cC : aJB X "_law_conic" aAY) (cP : aJB X "_law_product" vX) :
  ∀ ds d, aAZ ds d -> EvSs X (ds.map Sl.val ++ List.replicate (N__law_board.length - ds.length) Sl.un) (yF jF) (.rt d) := by
 rintro ds d ⟨c, rfl, rfl⟩
 have t := h.at'
 haveI := h.fnT
 show EvSs X [.val (.int c), .un, .un] _ _
 refine yG (qR (d := qV (aBA c 12)) t 1 (yO t cN (yC (yA t 0 rfl) (yC yD yE)) ⟨c, 12, rfl, by decide, rfl⟩)) ?_
 have hl : (aBA c 12).length = 12 := aHO c 12
 have e0 : lbF c = vU (lbK (aBA c 12)) := rfl
 rw [e0]
 generalize aBA c 12 = xs at hl
 have l1 : (aBY xs (some 1) none).length = 11 := aTX (m := 1) hl (by omega)
 have l4 : (aBY xs (some 4) none).length = 8 := aTX (m := 4) hl (by omega)
 have hv : ∀ n : Nat, n < 12 -> atI (xs.map D.int) (n : Int) = some (.int (xs.getD n 0)) := fun n hn => wU (by omega)
 refine yG (qR (d := .int (xs.getD 0 0 % 8)) t 2 (yV (i := xs.getD 0 0) (zE (EvE.ql (yA t 1 rfl)) yD (hv 0 (by omega))) yD (by decide))) ?_
 show EvSs X [.val (.int c), .val (qV xs), .val (.int (xs.getD 0 0 % 8))] _ _
 have fin : ∀ {kvs : KVs}, lbK xs = kvs -> qJ [.dic kvs] (yJ (vU (lbK xs))) := fun {kvs} e => ⟨kvs, rfl, by rw [e]⟩
 have s1 : ∀ {pos p2 p : Pos} {x1 : Nat}, EvE X [.val (.int c), .val (qV xs), .val (.int (xs.getD 0 0 % 8))] (.Subscript (.Name "_law_xs" p) (.Slice (some (.Constant (.int 1) x1 p)) none none p2) pos) (qV (aBY xs (some 1) none)) -> True := fun _ => trivial
 clear s1
 by_cases h0 : xs.getD 0 0 % 8 < 2
 ·refine wR (jY (EvT.eq (aAA (yA t 2 rfl) yD) (decide_eq_true h0)) (yH (zH (yO t cB (yC (EvDn.toE (aBB t cC (yC (d := qV (aBY xs (some 1) none)) (EvE.eq (EvN.toE (aAN (EvE.ql (yA t 1 rfl)) (vR yD) vE)) (by rw [aAB])) yE) ⟨_, rfl, by omega, rfl⟩)) yE) (fin ?_)))))
  unfold lbK; rw [if_pos h0]
 refine yG (jI (EvT.eq (aAA (yA t 2 rfl) yD) (decide_eq_false h0)) zW) ?_
 by_cases h2 : xs.getD 0 0 % 8 = 2
 ·refine wR (jY (EvT.eq (jX (yA t 2 rfl) yD) (decide_eq_true h2)) (yH (zH (yO t cB (yC (d := .dic (eEC xs)) ?_ yE) (fin ?_)))))
  ·refine EvDn.toE (EvDn.eq (aNE t (EvKs.cons (k := nk 0 0) (yP (yC yD (yC yD yE))) (jM (yV (i := xs.getD 1 0) (zE (EvE.ql (yA t 1 rfl)) yD (hv 1 (by omega))) yD (by decide)) yD)
    (EvKs.cons (k := nk 1 0) (yP (yC yD (yC yD yE))) (jM (yV (i := xs.getD 2 0) (zE (EvE.ql (yA t 1 rfl)) yD (hv 2 (by omega))) yD (by decide)) yD)
    (EvKs.cons (k := nk 2 0) (yP (yC yD (yC yD yE))) (jM (yV (i := xs.getD 3 0) (zE (EvE.ql (yA t 1 rfl)) yD (hv 3 (by omega))) yD (by decide)) yD) .nil)))) rfl)
  ·unfold lbK; rw [if_neg h0, if_pos h2]
 refine yG (jI (EvT.eq (jX (yA t 2 rfl) yD) (decide_eq_false h2)) zW) ?_
 obtain ⟨a1, a2, a3⟩ := aBX (aBY xs (some 1) none)
 obtain ⟨d1, d2, d3⟩ := aBX (aBY xs (some 4) none)
 by_cases h3 : xs.getD 0 0 % 8 = 3
 ·refine wR (jY (EvT.eq (jX (yA t 2 rfl) yD) (decide_eq_true h3)) (yH (zH (yO t cB (yC (EvDn.toE (aBB t cP (yC (EvDn.toE (aBB t cL (yC (d := qV (aBY xs (some 1) none)) (EvE.eq (EvN.toE (aAN (EvE.ql (yA t 1 rfl)) (vR yD) vE)) (by rw [aAB])) yE) ⟨_, rfl, by omega, rfl⟩)) (yC (EvDn.toE (aBB t cL (yC (d := qV (aBY xs (some 4) none)) (EvE.eq (EvN.toE (aAN (EvE.ql (yA t 1 rfl)) (vR yD) vE)) (by rw [aAB])) yE) ⟨_, rfl, by omega, rfl⟩)) yE)) ⟨_, _, rfl, a1, d1, (show (3 : Nat) <= 1000 by decide), (show (3 : Nat) <= 1000 by decide), d3.mono (by decide), rfl⟩)) yE) (fin ?_)))))
  unfold lbK; rw [if_neg h0, if_neg h2, if_pos h3]
 refine yG (jI (EvT.eq (jX (yA t 2 rfl) yD) (decide_eq_false h3)) zW) ?_
 by_cases h4 : xs.getD 0 0 % 8 = 4
 ·obtain ⟨g1, g2, g3⟩ := aBX [xs.getD 1 0, xs.getD 2 0, xs.getD 3 0]
  refine wR (jY (EvT.eq (jX (yA t 2 rfl) yD) (decide_eq_true h4)) (yH (zH (yO t cB (yC (EvDn.toE (aBB t cP (yC (EvDn.toE (aBB t cL (yC (d := qV (aBY xs (some 1) none)) (EvE.eq (EvN.toE (aAN (EvE.ql (yA t 1 rfl)) (vR yD) vE)) (by rw [aAB])) yE) ⟨_, rfl, by omega, rfl⟩)) (yC (EvDn.toE (aBB t cL (yC (d := qV [xs.getD 1 0, xs.getD 2 0, xs.getD 3 0]) (EvN.toE (zX (yC (zE (EvE.ql (yA t 1 rfl)) yD (hv 1 (by omega))) (yC (zE (EvE.ql (yA t 1 rfl)) yD (hv 2 (by omega))) (yC (zE (EvE.ql (yA t 1 rfl)) yD (hv 3 (by omega))) yE))))) yE) ⟨_, rfl, Nat.le_refl _, rfl⟩)) yE)) ⟨_, _, rfl, a1, g1, (show (3 : Nat) <= 1000 by decide), (show (3 : Nat) <= 1000 by decide), g3.mono (by decide), rfl⟩)) yE) (fin ?_)))))
  unfold lbK; rw [if_neg h0, if_neg h2, if_neg h3, if_pos h4]
 refine yG (jI (EvT.eq (jX (yA t 2 rfl) yD) (decide_eq_false h4)) zW) ?_
 by_cases h5 : xs.getD 0 0 % 8 = 5
 ·obtain ⟨g1, g2, g3⟩ := aSI xs
  refine wR (jY (EvT.eq (jX (yA t 2 rfl) yD) (decide_eq_true h5)) (yH (zH (yO t cB (yC (EvDn.toE (aBB t cP (yC (d := .dic (aUD xs)) ?_ (yC (EvDn.toE (aBB t cL (yC (d := qV (aBY xs (some 4) none)) (EvE.eq (EvN.toE (aAN (EvE.ql (yA t 1 rfl)) (vR yD) vE)) (by rw [aAB])) yE) ⟨_, rfl, by omega, rfl⟩)) yE)) ⟨_, _, rfl, g1, d1, (show (2 : Nat) <= 1000 by decide), (show (3 : Nat) <= 1000 by decide), d3.mono (by decide), rfl⟩)) yE) (fin ?_)))))
  ·refine EvDn.toE (EvDn.eq (aNE t (EvKs.cons (k := nk 0 0) (yP (yC yD (yC yD yE))) (jM (yV (i := xs.getD 1 0) (zE (EvE.ql (yA t 1 rfl)) yD (hv 1 (by omega))) yD (by decide)) yD)
    (EvKs.cons (k := nk 1 0) (yP (yC yD (yC yD yE))) yD .nil))) rfl)
  ·unfold lbK; rw [if_neg h0, if_neg h2, if_neg h3, if_neg h4, if_pos h5]
 refine yG (jI (EvT.eq (jX (yA t 2 rfl) yD) (decide_eq_false h5)) zW) ?_
 by_cases h6 : xs.getD 0 0 % 8 = 6
 ·refine wR (jY (EvT.eq (jX (yA t 2 rfl) yD) (decide_eq_true h6)) (yH (zH (yO t cB (yC (d := .dic (eEB xs)) ?_ yE) (fin ?_)))))
  ·refine EvDn.toE (EvDn.eq (aNE t (EvKs.cons (k := nk 0 0) (yP (yC yD (yC yD yE))) (jM yD (yV (i := xs.getD 1 0) (zE (EvE.ql (yA t 1 rfl)) yD (hv 1 (by omega))) yD (by decide)))
    (EvKs.cons (k := nk 2 0) (yP (yC yD (yC yD yE))) (zQ yD (yV (i := xs.getD 2 0) (zE (EvE.ql (yA t 1 rfl)) yD (hv 2 (by omega))) yD (by decide)))
    (EvKs.cons (k := nk 0 2) (yP (yC yD (yC yD yE))) (zQ yD (yV (i := xs.getD 3 0) (zE (EvE.ql (yA t 1 rfl)) yD (hv 3 (by omega))) yD (by decide))) .nil)))) rfl)
  ·unfold lbK; rw [if_neg h0, if_neg h2, if_neg h3, if_neg h4, if_neg h5, if_pos h6]
 refine yG (jI (EvT.eq (jX (yA t 2 rfl) yD) (decide_eq_false h6)) zW) ?_
 refine yH (zH (yO t cB (yC (EvDn.toE (aBB t cL (yC (d := qV (aBY xs (some 1) none)) (EvE.eq (EvN.toE (aAN (EvE.ql (yA t 1 rfl)) (vR yD) vE)) (by rw [aAB])) yE) ⟨_, rfl, by omega, rfl⟩)) yE) (fin ?_)))
 unfold lbK; rw [if_neg h0, if_neg h2, if_neg h3, if_neg h4, if_neg h5, if_neg h6]
end
end My
set_option maxHeartbeats 4000000
namespace My
open PySem L2 L2.EV PyProof.Rows
def FIG : Str := "0123456789"
def eHE (w : List Nat) : Prop := w ≠ [] /\ (∀ c ∈ w, 48 <= c /\ c <= 57) /\ w.length <= 12 /\ (w.head? = some 48 -> w = [48])
def RunW (w : List Nat) : Prop := eHE w \/ w = [120] \/ w = [121]
theorem eDH : ∀ c : Nat, 48 <= c -> c <= 57 -> (!(Builtin.Str.occurrences FIG (S [c]) 0 FIG.length 1).isEmpty) = true := fun c h1 h2 => by
 have : ∀ c : Nat, c < 58 -> 48 <= c -> (!(Builtin.Str.occurrences FIG (S [c]) 0 FIG.length 1).isEmpty) = true := by decide +kernel
 exact this c (by omega) h1
theorem eMZ : (!(Builtin.Str.occurrences FIG (S [120]) 0 FIG.length 1).isEmpty) = false := by decide +kernel
theorem eMY : (!(Builtin.Str.occurrences FIG (S [121]) 0 FIG.length 1).isEmpty) = false := by decide +kernel
theorem eLC : ∀ c : Nat, 48 <= c -> c <= 57 -> al c = true := fun c h1 h2 => by
 have : ∀ c : Nat, c < 58 -> 48 <= c -> al c = true := by decide +kernel
 exact this c (by omega) h1
theorem ePO : al 120 = true := by decide +kernel
theorem ePN : al 121 = true := by decide +kernel
theorem RunW.lt {w : List Nat} (h : RunW w) : ∀ c ∈ w, c < 128 := by
 rcases h with h | rfl | rfl
 ·intro c hc; have := h.2.1 c hc; omega
 ·intro c hc; simp at hc; omega
 ·intro c hc; simp at hc; omega
theorem RunW.al {w : List Nat} (h : RunW w) : ∀ c ∈ w, al c = true := by
 rcases h with h | rfl | rfl
 ·intro c hc; have := h.2.1 c hc; exact eLC c this.1 this.2
 ·intro c hc; simp at hc; subst hc; exact ePO
 ·intro c hc; simp at hc; subst hc; exact ePN
theorem RunW.ne {w : List Nat} (h : RunW w) : w ≠ [] := by
 rcases h with h | rfl | rfl
 ·exact h.1
 ·simp
 ·simp
theorem RunW.len {w : List Nat} (h : RunW w) : w.length <= 12 := by
 rcases h with h | rfl | rfl
 ·exact h.2.2.1
 ·simp
 ·simp
theorem sl1 {n : Nat} (h : n <= 2000) : n <= sizeLine := Nat.le_trans h (Nat.le_of_ble_eq_true rfl)
theorem sl2 {cs : List Nat} (h : cs.length <= 2000) : (S cs).length <= sizeLine := by rw [jL]; exact sl1 h
def aCF (ds : List D) (d : D) : Prop := ∃ w : List Nat, ds = [.str (S w)] /\ RunW w /\ ((eHE w /\ d = .bl true) \/ ((w = [120] \/ w = [121]) /\ d = .bl false))
theorem aMK : ∀ ds d, aCF ds d -> ds.length = 1 := by rintro _ _ ⟨a, rfl, _⟩; rfl
def aAW (ds : List D) (d : D) : Prop := ∃ pre w post : List Nat, ds = [.str (S (pre ++ w ++ post)), .int pre.length] /\ (∀ c ∈ w, al c = true) /\ (∀ c, post.head? = some c -> al c = false) /\ (pre ++ w ++ post).length <= 2000 /\ d = .int ((pre.length : Int) + (w.length : Int))
theorem aJV : ∀ ds d, aAW ds d -> ds.length = 2 := by rintro _ _ ⟨a, b, c, rfl, _⟩; rfl
def qX (ds : List D) (d : D) : Prop := ∃ w : List Nat, ds = [.str (S w)] /\ RunW w /\ d = .non
theorem aDK : ∀ ds d, qX ds d -> ds.length = 1 := by rintro _ _ ⟨a, rfl, _⟩; rfl
def eDW : PyData := .tuple [.str "x", .str "y", .str "not", .str "and", .str "or", .str "some", .str "all"]
section
variable {P : Program} {w : World} {K : PySem.W.Frag} {mg : Str -> Option Value} {base : Heap} {k : Nat} {X : Cx}
theorem aKI [FnT X] {ρ : Rho} {e : Expr} {x : Str} {pos pos' : Pos} {N : List Str} {sc : Scope} (t : At X N sc) (i : Nat) {n m v : Int} (hr : ρ[i]? = some (.val (.int n))) (h : EvE X ρ e (.int m)) (hv : v = n + m) (hi : N[i]? = some x := by rfl) (hx : aPZ sc x = true := by rfl) :
  EvS X ρ (.AugAssign (.Name x pos') .Add e pos) (.nx (ρ.set i (.val (.int v)))) := by subst hv; exact eAQ t i hr h hi hx
theorem aRY (h : DefX P w K mg base k N_is_number (yB jD) X) (gF : ∃ tk, mg "FIGURES" = some (.str FIG tk)) :
  ∀ ds d, aCF ds d -> EvSs X (ds.map Sl.val ++ List.replicate (N_is_number.length - ds.length) Sl.un) (yF jD) (.rt d) := by
 rintro ds r ⟨w', rfl, hw, hd⟩
 have t := h.at'
 have gF' : ∃ tk, X.mg "FIGURES" = some (.str FIG tk) := by rw [h.mg']; exact gF
 obtain ⟨c, cs, rfl⟩ : ∃ c cs, w' = c :: cs := by
  cases w' with
  | nil => exact absurd rfl hw.ne
  | cons c cs => exact ⟨c, cs, rfl⟩
 have hl := hw.len
 show EvSs X [.val (.str (S (c :: cs)))] _ _
 have hq : (!(S (c :: cs) == ("" : Str))) = true := by
  have hn : S (c :: cs) ≠ S [] := fun e => by have := aCX e; cases this
  have e0 : ("" : Str) = S [] := by decide +kernel
  rw [e0]
  simpa using hn
 have hin : ∀ (u : Bool), (!(Builtin.Str.occurrences FIG (S [c]) 0 FIG.length 1).isEmpty) = u -> EvSs X [.val (.str (S (c :: cs)))] (yF jD) (.rt (.bl u)) := fun u hu =>
  yH (zH (EvE.eq (eGL (v := u) (aYM (r := true) t (yA t 0 rfl).p ev_str.p (vN (aFN hw.lt)) (vN (by decide +kernel)) hq) fun _ => eDI (aBN (c := c) (yA t 0 rfl) yD (sl2 (by omega)) (by rw [aDZ]; exact aBZ (j := 0) rfl)) (aMS t gF') hu) (by rw [Bool.true_and])))
 rcases hd with ⟨hn, rfl⟩ | ⟨e, rfl⟩
 ·have := hn.2.1 c (by simp)
  exact hin true (eDH c this.1 this.2)
 ·refine hin false ?_
  rcases e with e | e
  ·cases e; exact eMZ
  ·cases e; exact eMY
theorem aPU (h : DefX P w K mg base k N_end_of_run (yB qM) X) (m_len : mg "len" = none) :
  ∀ ds d, aAW ds d -> EvSs X (ds.map Sl.val ++ List.replicate (N_end_of_run.length - ds.length) Sl.un) (yF qM) (.rt d) := by
 rintro ds r ⟨pre, u, post, rfl, hu, hp, hz, rfl⟩
 have t := h.at'
 haveI := h.fnT
 have b1 : Blt X (yB qM) "len" (.builtin "len") := yR (by rw [h.mg']; exact m_len)
 show EvSs X [.val (.str (S (pre ++ u ++ post))), .val (.int pre.length), .un] _ _
 refine yG (qR t 2 (yA t 1 rfl)) ?_
 refine aPB t (fun i : Nat => [.val (.str (S (pre ++ u ++ post))), .val (.int pre.length), .val (.int ((pre.length : Int) + (i : Int)))]) (fun i => i <= u.length) (fun i => i = u.length) (fun i => u.length - i) 0 (Nat.zero_le _) (fun i hi => ?_) (fun i hi => ?_)
 ·by_cases e : i < u.length
  ·obtain ⟨u1, c, u2, rfl, rfl⟩ : ∃ u1 c u2, u = u1 ++ c :: u2 /\ i = u1.length := ⟨u.take i, u[i], u.drop (i + 1), by simp, by simp; omega⟩
   refine .inr ⟨?_, .inr ⟨u1.length + 1, ?_, by simp, by simp; omega⟩⟩
   ·refine EvT.eq (aNA (aAA (yA t 2 rfl) (aAM t b1 (yA t 0 rfl) (sl2 hz))) fun _ => aMZ (aDF (aBN (c := c) (yA t 0 rfl) (yA t 2 rfl) (sl2 hz) ?_))) ?_
    ·have := eDX (pre := pre ++ u1) (post := u2 ++ post) (c := c)
     simpa using this
    ·rw [jL, show (⟨#[c]⟩ : Str) = S [c] from rfl, eLK, hu c (by simp), Bool.and_true, decide_eq_true_eq]
     simp; omega
   ·exact yH (aKI t 2 rfl yD (by simp; omega))
  ·have hi' : i = u.length := by omega
   subst hi'
   refine .inl ⟨?_, rfl⟩
   cases post with
   | nil => exact EvT.eq (aNA (v := true) (aAA (yA t 2 rfl) (aAM t b1 (yA t 0 rfl) (sl2 hz))) fun z => by rw [jL, decide_eq_true_eq] at z; simp at z) (by rw [jL, Bool.and_true, decide_eq_false_iff_not]; simp)
   | cons c post =>
    refine EvT.eq (aNA (aAA (yA t 2 rfl) (aAM t b1 (yA t 0 rfl) (sl2 hz))) fun _ => aMZ (aDF (aBN (c := c) (yA t 0 rfl) (yA t 2 rfl) (sl2 hz) ?_))) ?_
    ·have := eDX (pre := pre ++ u) (post := post) (c := c)
     simpa using this
    ·rw [show (⟨#[c]⟩ : Str) = S [c] from rfl, eLK, hp c rfl, Bool.and_false]
 ·subst hi
  exact yH (zH (yA t 2 rfl))
theorem eEA {w : List Nat} (h : eHE w) : ([PyData.str "x", .str "y", .str "not", .str "and", .str "or", .str "some", .str "all"].any fun y => PyData.eqv y (.str (S w))) = false := by
 obtain ⟨c, cs, rfl⟩ : ∃ c cs, w = c :: cs := by
  cases w with
  | nil => exact absurd rfl h.1
  | cons c cs => exact ⟨c, cs, rfl⟩
 have hc := h.2.1 c (by simp)
 have ne : ∀ (d : Nat) (ds : List Nat), 57 < d -> (S (d :: ds) == S (c :: cs)) = false := fun d ds hd => by
  rw [beq_eq_false_iff_ne]
  intro e
  have := aCX e
  cases this
  omega
 show ((("x" : Str) == S (c :: cs)) || ((("y" : Str) == S (c :: cs)) || ((("not" : Str) == S (c :: cs)) || ((("and" : Str) == S (c :: cs)) || ((("or" : Str) == S (c :: cs)) || ((("some" : Str) == S (c :: cs)) || ((("all" : Str) == S (c :: cs)) || false))))))) = false
 rw [show ("x" : Str) = S [120] by decide +kernel, show ("y" : Str) = S [121] by decide +kernel, show ("not" : Str) = S [110, 111, 116] by decide +kernel, show ("and" : Str) = S [97, 110, 100] by decide +kernel, show ("or" : Str) = S [111, 114] by decide +kernel, show ("some" : Str) = S [115, 111, 109, 101] by decide +kernel, show ("all" : Str) = S [97, 108, 108] by decide +kernel]
 rw [ne _ _ (by omega), ne _ _ (by omega), ne _ _ (by omega), ne _ _ (by omega), ne _ _ (by omega), ne _ _ (by omega), ne _ _ (by omega)]
 rfl
theorem aEU (h : DefX P w K mg base k N_refuse_wrong_run (yB yQ) X) (m_all : mg "all" = none) (m_len : mg "len" = none) (gW : Glb mg K "WORDS" eDW) (gF : ∃ tk, mg "FIGURES" = some (.str FIG tk)) :
  ∀ ds d, qX ds d -> EvSs X (ds.map Sl.val ++ List.replicate (N_refuse_wrong_run.length - ds.length) Sl.un) (yF yQ) (.rt d) \/ (d = .non /\ ∃ ρ', EvSs X (ds.map Sl.val ++ List.replicate (N_refuse_wrong_run.length - ds.length) Sl.un) (yF yQ) (.nx ρ')) := by
 rintro ds r ⟨u, rfl, hu, rfl⟩
 have t := h.at'
 obtain ⟨l, gm, gk⟩ := gW
 have gm' : X.mg "WORDS" = some (.ref l) := by rw [h.mg']; exact gm
 have gk' : GP X.K (.ref l) eDW := by rw [h.k']; exact gk
 have gF' : ∃ tk, X.mg "FIGURES" = some (.str FIG tk) := by rw [h.mg']; exact gF
 have b1 : Blt X (yB yQ) "all" (.builtin "all") := yR (by rw [h.mg']; exact m_all)
 have b2 : Blt X (yB yQ) "len" (.builtin "len") := yR (by rw [h.mg']; exact m_len)
 have hz : (S u).length <= sizeLine := sl2 (Nat.le_trans hu.len (by decide))
 have cw : PyData.canLayAll0 [PyData.str "x", .str "y", .str "not", .str "and", .str "or", .str "some", .str "all"] = true := by decide +kernel
 have ok := aFN hu.lt
 have lt := hu.lt
 rcases hu with hn | hx
 ·refine .inr ⟨rfl, [.val (.str (S u))], ?_⟩
  show EvSs X [.val (.str (S u))] _ _
  refine yG (jI (aYV t (yA t 0 rfl).p (aMT t gm' gk') (aAT ok) (vT _) cw (eEA hn)) zW) (yH (jI ?_ zW))
  obtain ⟨c, cs, rfl⟩ : ∃ c cs, u = c :: cs := by
   cases u with
   | nil => exact absurd rfl hn.1
   | cons c cs => exact ⟨c, cs, rfl⟩
  refine EvT.eq (eDM (u := false) (v := false) (w := false) (EvT.eq (aYU (aMZ (eKS (bs := (S (c :: cs)).cps.toList.map fun _ => true) t b1 (EvN.toQ (EvN.eq (aFK (rs := (S (c :: cs)).cps.toList.map fun _ => D.bl true) t ["run", "sign"] (csc (by decide +kernel)) (eKX (yA t 0 rfl) (eNJ lt)) (by unfold sgn; rw [List.length_map, aDZ]; exact aQG (by have := hn.2.2.1; omega)) fun X' cx => ?_) ?_))))) ?_) (fun _ => EvT.eq (aDL (aAM t b2 (yA t 0 rfl) hz) yD) ?_) fun _ _ => ?_) rfl
  ·exact CRun.gen (fun c => D.str ⟨#[c]⟩) _ (fun x => [.val (.str (S (c :: cs))), .val (.str ⟨#[x]⟩)]) _ _ (fun x hx => jP cx.at' 1) (fun x hx y hy => jP cx.at' 1) fun x hx => eDI (yA cx.at' 1 rfl) (aMS cx.at' (by rw [cx.mg']; exact gF')) (by
    rw [aDZ] at hx
    exact eDH x (hn.2.1 x hx).1 (hn.2.1 x hx).2)
  ·rw [List.map_map]; rfl
  ·simp
  ·rw [jL, decide_eq_false_iff_not]; have := hn.2.2.1; omega
  ·refine EvT.eq (aNA (vF t (aBN (c := c) (yA t 0 rfl) yD hz (by rw [aDZ]; exact aBZ (j := 0) rfl)) ev_str (aFN (cs := [c]) fun x hx => lt x (by simp at hx; simp [hx]))) fun z => aFU t (yA t 0 rfl).p ev_str.p (vN ok) (vN (by decide +kernel)) (r := false) ?_) (by simp)
   have z0 : c = 48 := by
    rw [decide_eq_true_eq, show ("0" : Str) = S [48] by decide +kernel] at z
    have := aCX (a := [c]) z
    cases this; rfl
   subst z0
   have := hn.2.2.2 rfl
   rw [this]
   decide +kernel
 ·refine .inl ?_
  show EvSs X [.val (.str (S u))] _ _
  exact wR (jY (aYV t (yA t 0 rfl).p (aMT t gm' gk') (aAT ok) (vT _) cw (by rcases hx with rfl | rfl <;> decide +kernel)) (yH eHU))
def aDH (ds : List D) (d : D) : Prop := ∃ pre post : List Nat, (∃ u, ds = [.str (S (pre ++ u ++ post)), .int pre.length] /\ RunW u /\ (∀ c, post.head? = some c -> al c = false) /\ (pre ++ u ++ post).length <= 2000 /\ d = .str (S u)) \/
 ∃ c, ds = [.str (S (pre ++ c :: post)), .int pre.length] /\ al c = false /\ (∀ x ∈ c :: post, x < 128) /\ c ≠ 60 /\ c ≠ 62 /\ c ≠ 33 /\ (pre ++ c :: post).length <= 2000 /\ d = .str (S [c])
theorem aOT : ∀ ds d, aDH ds d -> ds.length = 2 := by rintro _ _ ⟨a, b, ⟨c, rfl, _⟩ | ⟨c, rfl, _⟩⟩ <;> rfl
def eOF : PyData := .tuple [.str "<=", .str ">=", .str "!="]
theorem eLA {c : Nat} {cs : List Nat} (h1 : c ≠ 60) (h2 : c ≠ 62) (h3 : c ≠ 33) : ([PyData.str "<=", .str ">=", .str "!="].any fun y => PyData.eqv y (.str (S (c :: cs)))) = false := by
 have ne : ∀ (d : Nat) (ds : List Nat), d ≠ c -> (S (d :: ds) == S (c :: cs)) = false := fun d ds hd => by
  rw [beq_eq_false_iff_ne]
  intro e
  have := aCX e
  cases this
  exact hd rfl
 show ((("<=" : Str) == S (c :: cs)) || (((">=" : Str) == S (c :: cs)) || ((("!=" : Str) == S (c :: cs)) || false))) = false
 rw [show ("<=" : Str) = S [60, 61] by decide +kernel, show (">=" : Str) = S [62, 61] by decide +kernel, show ("!=" : Str) = S [33, 61] by decide +kernel]
 rw [ne _ _ (Ne.symm h1), ne _ _ (Ne.symm h2), ne _ _ (Ne.symm h3)]
 rfl
theorem aVF (h : DefX P w K mg base k N_token_at (yB vP) X) (c1 : Callee X "refuse_wrong_run" qX) (c2 : Callee X "end_of_run" aAW) (gD : Glb mg K "DOUBLE_SIGNS" eOF) :
  ∀ ds d, aDH ds d -> EvSs X (ds.map Sl.val ++ List.replicate (N_token_at.length - ds.length) Sl.un) (yF vP) (.rt d) := by
 rintro ds r ⟨pre, post, ⟨u, rfl, hu, hp, hz, rfl⟩ | ⟨c, rfl, hc, ha, h1, h2, h3, hz, rfl⟩⟩
 ·have t := h.at'
  haveI := h.fnT
  show EvSs X [.val (.str (S (pre ++ u ++ post))), .val (.int pre.length), .un] _ _
  obtain ⟨c, cs, rfl⟩ : ∃ c cs, u = c :: cs := by
   cases u with
   | nil => exact absurd rfl hu.ne
   | cons c cs => exact ⟨c, cs, rfl⟩
  refine wR (jY (EvT.eq (aMZ (aDF (aBN (c := c) (yA t 0 rfl) (yA t 1 rfl) (sl2 hz) ?_))) (by rw [show (⟨#[c]⟩ : Str) = S [c] from rfl, eLK]; exact hu.al c (by simp))) ?_)
  ·have := eDX (pre := pre) (post := cs ++ post) (c := c)
   simpa using this
  ·refine yG (qR t 2 (EvE.eq (aYS (yA t 0 rfl) (yA t 1 rfl) (yO t c2 (yC (yA t 0 rfl) (yC (yA t 1 rfl) yE)) ⟨pre, c :: cs, post, rfl, hu.al, hp, hz, rfl⟩) (sl2 hz)) (by rw [eNI]))) ?_
   refine yG (aWK (yO t c1 (yC (yA t 2 rfl) yE) ⟨_, rfl, hu, rfl⟩)) (yH (zH (yA t 2 rfl)))
 ·have t := h.at'
  haveI := h.fnT
  obtain ⟨l, gm, gk⟩ := gD
  have gm' : X.mg "DOUBLE_SIGNS" = some (.ref l) := by rw [h.mg']; exact gm
  have gk' : GP X.K (.ref l) eOF := by rw [h.k']; exact gk
  show EvSs X [.val (.str (S (pre ++ c :: post))), .val (.int pre.length), .un] _ _
  refine yG (jI (EvT.eq (aMZ (aDF (aBN (c := c) (yA t 0 rfl) (yA t 1 rfl) (sl2 hz) eDX))) (by rw [show (⟨#[c]⟩ : Str) = S [c] from rfl, eLK]; exact hc)) zW) (yH (zH (aFT (aYV t (EvE.eq (aYS (yA t 0 rfl) (yA t 1 rfl) (zQ (yA t 1 rfl) yD) (sl2 hz)) (by rw [eLE])).p (aMT t gm' gk') (aAT (aFN ?_)) (vT _) (by decide +kernel) (eLA h1 h2 h3)) (aBN (yA t 0 rfl) (yA t 1 rfl) (sl2 hz) eDX))))
  intro x hx
  refine ha x ?_
  rcases List.mem_cons.mp hx with rfl | hx
  ·simp
  ·exact List.mem_cons_of_mem _ (List.mem_of_mem_take hx)
inductive Lex : List Nat -> List (List Nat) -> Prop where
 | nil : Lex [] []
 | sp {cs : List Nat} {ts : List (List Nat)} : Lex cs ts -> Lex (32 :: cs) ts
 | run {u cs : List Nat} {ts : List (List Nat)} : RunW u -> (∀ c, cs.head? = some c -> al c = false) -> Lex cs ts -> Lex (u ++ cs) (u :: ts)
 | sign {c : Nat} {cs : List Nat} {ts : List (List Nat)} : al c = false -> c ≠ 32 -> c ≠ 60 -> c ≠ 62 -> c ≠ 33 -> Lex cs ts -> Lex (c :: cs) ([c] :: ts)
theorem Lex.len {cs : List Nat} {ts : List (List Nat)} (h : Lex cs ts) : ts.length <= cs.length := by
 induction h with
 | nil => simp
 | sp _ ih => simp; omega
 | run hu _ _ ih =>
  have := List.length_pos_iff.mpr hu.ne
  simp; omega
 | sign _ _ _ _ _ _ ih => simp; omega
def qY (ts : List (List Nat)) : List D := ts.map fun u => D.str (S u)
def aCA (ds : List D) (d : D) : Prop := ∃ (cs : List Nat) (ts : List (List Nat)), ds = [.str (S cs)] /\ Lex cs ts /\ (∀ c ∈ cs, c < 128) /\ cs.length <= 2000 /\ d = .lst (qY ts)
theorem aME : ∀ ds d, aCA ds d -> ds.length = 1 := by rintro _ _ ⟨a, b, rfl, _⟩; rfl
theorem eHB : al 32 = false := by decide +kernel
theorem aRU (h : DefX P w K mg base k N_tokens_of (yB jA) X) (m_len : mg "len" = none) (c1 : Callee X "token_at" aDH) :
  ∀ ds d, aCA ds d -> EvSs X (ds.map Sl.val ++ List.replicate (N_tokens_of.length - ds.length) Sl.un) (yF jA) (.rt d) := by
 rintro ds r ⟨cs, ts, rfl, hl, ha, hz, rfl⟩
 have t := h.at'
 haveI := h.fnT
 have b1 : Blt X (yB jA) "len" (.builtin "len") := yR (by rw [h.mg']; exact m_len)
 show EvSs X [.val (.str (S cs)), .un, .un] _ _
 refine yG (eEO t 1 2 (zX yE) yD (by decide)) ?_
 refine aPB t (fun s : List Nat × List Nat × List (List Nat) => [.val (.str (S cs)), .own (qY s.2.2), .val (.int s.1.length)]) (fun s => s.1 ++ s.2.1 = cs /\ ∃ us, Lex s.2.1 us /\ s.2.2 ++ us = ts) (fun s => s.2.2 = ts) (fun s => s.2.1.length) ([], cs, []) ⟨rfl, ts, hl, rfl⟩ ?_ ?_
 ·rintro ⟨pre, qZ, done⟩ ⟨e1, us, lx, e2⟩
  dsimp only at e1 e2 lx ⊢
  have hlen : done.length <= 2000 := by
   have h1 := hl.len
   have h2 := congrArg List.length e2
   rw [List.length_append] at h2; omega
  cases lx with
  | nil =>
   refine .inl ⟨EvT.eq (aAA (yA t 2 rfl) (aAM t b1 (yA t 0 rfl) (sl2 hz))) ?_, by rw [<- e2]; simp⟩
   rw [jL, <- e1, decide_eq_false_iff_not]; simp
  | @sp cs' us lx =>
   subst e1
   refine .inr ⟨EvT.eq (aAA (yA t 2 rfl) (aAM t b1 (yA t 0 rfl) (sl2 hz))) (by rw [jL, decide_eq_true_eq]; simp; omega), .inr ⟨(pre ++ [32], cs', done), ?_, ⟨by simp, us, lx, e2⟩, by simp⟩⟩
   refine yH (jY (EvT.eq (vF t (aBN (c := 32) (yA t 0 rfl) (yA t 2 rfl) (sl2 hz) eDX) ev_str (by decide +kernel)) (by decide +kernel)) (yH (aKI t 2 rfl yD (by simp))))
  | @run u cs' us hu hp lx =>
   subst e1
   obtain ⟨c, u', rfl⟩ : ∃ c u', u = c :: u' := by
    cases u with
    | nil => exact absurd rfl hu.ne
    | cons c cs => exact ⟨c, cs, rfl⟩
   have hc := hu.al c (by simp)
   have hc2 : S [c] ≠ S [32] := fun e => by have := aCX e; cases this; rw [eHB] at hc; cases hc
   have hat : atI (S (pre ++ ((c :: u') ++ cs'))).cps.toList (pre.length : Int) = some c := eDX (pre := pre) (post := u' ++ cs') (c := c)
   refine .inr ⟨EvT.eq (aAA (yA t 2 rfl) (aAM t b1 (yA t 0 rfl) (sl2 hz))) (by rw [jL, decide_eq_true_eq]; simp; omega), .inr ⟨(pre ++ (c :: u'), cs', done ++ [c :: u']), ?_, ⟨by simp, us, lx, by rw [<- e2]; simp⟩, by simp; omega⟩⟩
   refine yH (jI (EvT.eq (vF t (aBN (c := c) (yA t 0 rfl) (yA t 2 rfl) (sl2 hz) hat) ev_str (aFN (cs := [c]) fun x hx => hu.lt x (by simp at hx; simp [hx]))) (by rw [decide_eq_false_iff_not, show (" " : Str) = S [32] by decide +kernel]; exact hc2)) ?_)
   refine yG (wX t 1 rfl (yO t c1 (yC (yA t 0 rfl) (yC (yA t 2 rfl) yE)) ⟨pre, cs', .inl ⟨c :: u', by rw [List.append_assoc], hu, hp, by rw [List.append_assoc]; exact hz, rfl⟩⟩) (by unfold qY; rw [List.length_map]; exact Nat.lt_of_le_of_lt hlen (by decide))) (yH (EvS.eq (aKI t 2 (v := ((pre ++ c :: u').length : Nat)) rfl (aAM t b1 (zE (aAL t 1 rfl) (aCR yD) (aZR (.inl rfl))) (sl2 (by have := hu.len; omega))) (by rw [jL]; simp)) ?_))
   unfold qY
   simp
  | @sign c cs' us hc h0 h1 h2 h3 lx =>
   subst e1
   have hc2 : S [c] ≠ S [32] := fun e => by have := aCX e; cases this; exact h0 rfl
   have hlt : ∀ x ∈ c :: cs', x < 128 := fun x hx => ha x (List.mem_append_right _ hx)
   refine .inr ⟨EvT.eq (aAA (yA t 2 rfl) (aAM t b1 (yA t 0 rfl) (sl2 hz))) (by rw [jL, decide_eq_true_eq]; simp; omega), .inr ⟨(pre ++ [c], cs', done ++ [[c]]), ?_, ⟨by simp, us, lx, by rw [<- e2]; simp⟩, by simp⟩⟩
   refine yH (jI (EvT.eq (vF t (aBN (c := c) (yA t 0 rfl) (yA t 2 rfl) (sl2 hz) eDX) ev_str (aFN (cs := [c]) fun x hx => hlt x (by simp at hx; simp [hx]))) (by rw [decide_eq_false_iff_not, show (" " : Str) = S [32] by decide +kernel]; exact hc2)) ?_)
   refine yG (wX t 1 rfl (yO t c1 (yC (yA t 0 rfl) (yC (yA t 2 rfl) yE)) ⟨pre, cs', .inr ⟨c, rfl, hc, hlt, h1, h2, h3, hz, rfl⟩⟩) (by unfold qY; rw [List.length_map]; exact Nat.lt_of_le_of_lt hlen (by decide))) (yH (EvS.eq (aKI t 2 (v := ((pre ++ [c]).length : Nat)) rfl (aAM t b1 (zE (aAL t 1 rfl) (aCR yD) (aZR (.inl rfl))) (sl2 (by simp))) (by rw [jL]; simp)) ?_))
   unfold qY
   simp
 ·rintro ⟨pre, qZ, done⟩ e
  dsimp only at e ⊢
  subst e
  exact vG 1 rfl (yH (zH (yA t 1 rfl)))
def aQC (o c : List Nat) : List (List Nat) -> Int
 | [] => 0
 | u :: ts => aQC o c ts + (b2i (decide (S u = S o)) - b2i (decide (S u = S c)))
theorem aPD (o c u : List Nat) : ∀ ts, aQC o c (ts ++ [u]) = aQC o c ts + (b2i (decide (S u = S o)) - b2i (decide (S u = S c)))
 | [] => by simp [aQC]
 | v :: ts => by show aQC o c (ts ++ [u]) + _ = aQC o c ts + _ + _; rw [aPD o c u ts]; omega
def aAE (ds : List D) (d : D) : Prop := ∃ (ts : List (List Nat)) (o c : List Nat), ds = [.lst (qY ts), .str (S o), .str (S c)] /\ (∀ u ∈ ts, ∀ x ∈ u, x < 128) /\ (∀ x ∈ o, x < 128) /\ (∀ x ∈ c, x < 128) /\ (∀ i, i <= ts.length -> aQC o c (ts.take i) <= 20) /\ d = .non
theorem aHW : ∀ ds d, aAE ds d -> ds.length = 3 := by rintro _ _ ⟨a, b, c, rfl, _⟩; rfl
theorem aNM (h : DefX P w K mg base k N_refuse_deep (yB qB) X) (gM : ∃ tk, mg "MOST_OPEN" = some (.int 20 tk)) :
  ∀ ds d, aAE ds d -> EvSs X (ds.map Sl.val ++ List.replicate (N_refuse_deep.length - ds.length) Sl.un) (yF qB) (.rt d) \/ (d = .non /\ ∃ ρ', EvSs X (ds.map Sl.val ++ List.replicate (N_refuse_deep.length - ds.length) Sl.un) (yF qB) (.nx ρ')) := by
 rintro ds r ⟨ts, o, c, rfl, ha, ho, hc, hd, rfl⟩
 have t := h.at'
 haveI := h.fnT
 have gM' : ∃ tk, X.mg "MOST_OPEN" = some (.int 20 tk) := by rw [h.mg']; exact gM
 refine .inr ⟨rfl, [.val (.lst (qY ts)), .val (.str (S o)), .val (.str (S c)), .val (.int (aQC o c ts)), .un], ?_⟩
 show EvSs X [.val (.lst (qY ts)), .val (.str (S o)), .val (.str (S c)), .un, .un] _ _
 refine yG (qR t 3 yD) (yH (aBH t (aTS (yA t 0 rfl)) (FRun.uptoE (fun i => [.val (.lst (qY ts)), .val (.str (S o)), .val (.str (S c)), .val (.int (aQC o c (ts.take i))), .un]) (fun j d e => ?_) rfl ?_)))
 ·unfold qY at e
  rw [List.getElem?_map] at e
  cases e2 : ts[j]? with
  | none => rw [e2] at e; cases e
  | some u =>
   rw [e2] at e
   cases e
   have hj := (List.getElem?_eq_some_iff.mp e2).1
   have hu : ∀ x ∈ u, x < 128 := ha u (List.mem_of_getElem? e2)
   have et : aQC o c (ts.take (j + 1)) = aQC o c (ts.take j) + (b2i (decide (S u = S o)) - b2i (decide (S u = S c))) := by
    rw [List.take_succ, e2]; exact aPD o c u _
   refine ⟨_, jJ t 4, EvSs.weak (yG (aKI t 3 (v := aQC o c (ts.take (j + 1))) rfl (eGG (eDJ t (yA t 4 rfl) (yA t 1 rfl) (aFN hu) (aFN ho)) (eDJ t (yA t 4 rfl) (yA t 2 rfl) (aFN hu) (aFN hc))) et) (yH (jI (EvT.eq (aDL (yA t 3 rfl) (aMU t gM')) ?_) zW))) (.keep (.keep (.keep (.keep (.forget .nil)))))⟩
   have := hd (j + 1) (by omega)
   rw [decide_eq_false_iff_not]; omega
 ·show _ = _
  unfold qY
  rw [List.length_map, List.take_length]
def HD (ts : List Str) : Str := ts.headD ""
def zS (toks : List Str) (ds : List D) (s : Int × List D) (d : D) (s' : Int × List D) : Prop := ∃ n : Nat, ds = [] /\ s.1 = n /\ d = .str (HD (toks.drop n)) /\ s' = s
theorem aJU : ∀ ts ds s d s', zS ts ds s d s' -> ds.length + 1 = 1 := by rintro _ _ _ _ _ ⟨a, rfl, _⟩; rfl
def zR (toks : List Str) (ds : List D) (s : Int × List D) (d : D) (s' : Int × List D) : Prop := ∃ n : Nat, ds = [] /\ s.1 = n /\ d = .str (HD (toks.drop n)) /\ s' = ((n : Int) + 1, s.2)
theorem aJR : ∀ ts ds s d s', zR ts ds s d s' -> ds.length + 1 = 1 := by rintro _ _ _ _ _ ⟨a, rfl, _⟩; rfl
def aAC (toks : List Str) (ds : List D) (s : Int × List D) (d : D) (s' : Int × List D) : Prop := ∃ (n c : Nat) (qZ : List Str), ds = [.lst (sgn FIG)] /\ s.1 = n /\ toks.drop n = S [c] :: qZ /\ 48 <= c /\ c <= 57 /\ d = .str (S [c]) /\ s' = ((n : Int) + 1, s.2)
theorem aHU : ∀ ts ds s d s', aAC ts ds s d s' -> ds.length + 1 = 2 := by rintro _ _ _ _ _ ⟨a, b, c, rfl, _⟩; rfl
def aAD (toks : List Str) (ds : List D) (s : Int × List D) (d : D) (s' : Int × List D) : Prop := ∃ n : Nat, ds = [] /\ s.1 = n /\ toks.length <= n /\ d = .non /\ s' = s
theorem aHV : ∀ ts ds s d s', aAD ts ds s d s' -> ds.length + 1 = 1 := by rintro _ _ _ _ _ ⟨a, rfl, _⟩; rfl
def aCE (toks : List Str) (ds : List D) (s : Int × List D) (d : D) (s' : Int × List D) : Prop := ∃ (n : Nat) (u : List Nat) (qZ : List Str), ds = [] /\ s.1 = n /\ RunW u /\ toks.drop n = S u :: qZ /\ s.2.length < 10000 /\ d = .non /\ s' = ((n : Int) + 1, s.2 ++ [.str (S u)])
theorem aMJ : ∀ ts ds s d s', aCE ts ds s d s' -> ds.length + 1 = 1 := by rintro _ _ _ _ _ ⟨a, b, c, rfl, _⟩; rfl
theorem dh {ts : List Str} {n : Nat} {u : Str} {qZ : List Str} (h : ts.drop n = u :: qZ) : HD (ts.drop n) = u /\ ts.drop (n + 1) = qZ := ⟨by rw [h]; rfl, (aBP h).2.1⟩
theorem sz {n : Nat} (h : n < 10000) : n < sizeLine := Nat.lt_trans h (by decide)
theorem aNJ (h : DefX P w K mg base k N_next_token (yB qE) X) (m_len : mg "len" = none) :
  ∀ (r : aJF), aIY X.K r -> ∀ ds s d s', zS r.toks ds s d s' -> EvZ (RdS r) X (.val (.adr r.p) :: ds.map Sl.val ++ List.replicate (N_next_token.length - (ds.length + 1)) Sl.un) (yF qE) (.rt d) s s' \/ (d = .non /\ ∃ ρ', EvZ (RdS r) X (.val (.adr r.p) :: ds.map Sl.val ++ List.replicate (N_next_token.length - (ds.length + 1)) Sl.un) (yF qE) (.nx ρ') s s') := by
 rintro r ok ds ⟨i, xs⟩ d s' ⟨n, rfl, hn, rfl, rfl⟩
 have t := h.at'
 have b1 : Blt X (yB qE) "len" (.builtin "len") := yR (by rw [h.mg']; exact m_len)
 have hn' : i = (n : Int) := hn
 subst hn'
 refine .inl ?_
 show EvZ (RdS r) X [.val (.adr r.p)] _ _ _ _
 refine vM (aSG ?_)
 have hl : ((r.toks.map D.str).length : Int) = (r.toks.length : Nat) := by rw [List.length_map]
 by_cases e : n < r.toks.length
 ·refine eKM (EvTZ.eq (eEE (aLR t ok 0 rfl) (aYL t b1 (aLQ t ok 0 rfl))) ?_) (EvEZ.eq (eKL (d := .str r.toks[n]) (aLQ t ok 0 rfl) (aLR t ok 0 rfl) (aBZ (by rw [List.getElem?_map, List.getElem?_eq_getElem e]; rfl))) ?_)
  ·rw [hl, decide_eq_true_eq]; show (n : Int) < _; omega
  ·rw [List.drop_eq_getElem_cons e]; rfl
 ·refine eKN (EvTZ.eq (eEE (aLR t ok 0 rfl) (aYL t b1 (aLQ t ok 0 rfl))) ?_) (EvEZ.eq (EvE.z ev_str) ?_)
  ·rw [hl, decide_eq_false_iff_not]; show ¬ ((n : Int) < _); omega
  ·rw [List.drop_eq_nil_of_le (by omega)]; rfl
theorem aNH (h : DefX P w K mg base k N_take_token (yB qK) X) (c1 : zV X "next_token" zS) :
  ∀ (r : aJF), aIY X.K r -> ∀ ds s d s', zR r.toks ds s d s' -> EvZ (RdS r) X (.val (.adr r.p) :: ds.map Sl.val ++ List.replicate (N_take_token.length - (ds.length + 1)) Sl.un) (yF qK) (.rt d) s s' \/ (d = .non /\ ∃ ρ', EvZ (RdS r) X (.val (.adr r.p) :: ds.map Sl.val ++ List.replicate (N_take_token.length - (ds.length + 1)) Sl.un) (yF qK) (.nx ρ') s s') := by
 rintro r ok ds ⟨i, xs⟩ d s' ⟨n, rfl, hn, rfl, rfl⟩
 have t := h.at'
 haveI := h.fnT
 have hn' : i = (n : Int) := hn
 subst hn'
 refine .inl ?_
 show EvZ (RdS r) X [.val (.adr r.p), .un] _ _ _ _
 exact zY (aSF t 1 (jT t ok c1 (jK (EvE.z (yA t 0 rfl)) (EvA.z yE)) ⟨n, rfl, rfl, rfl, rfl⟩)) (zY (eEV t ok 0 rfl yD) (vM (aSG (EvE.z (yA t 1 rfl)))))
theorem aKB (h : DefX P w K mg base k N_refuse_more (yB zI) X) (m_len : mg "len" = none) :
  ∀ (r : aJF), aIY X.K r -> ∀ ds s d s', aAD r.toks ds s d s' -> EvZ (RdS r) X (.val (.adr r.p) :: ds.map Sl.val ++ List.replicate (N_refuse_more.length - (ds.length + 1)) Sl.un) (yF zI) (.rt d) s s' \/ (d = .non /\ ∃ ρ', EvZ (RdS r) X (.val (.adr r.p) :: ds.map Sl.val ++ List.replicate (N_refuse_more.length - (ds.length + 1)) Sl.un) (yF zI) (.nx ρ') s s') := by
 rintro r ok ds ⟨i, xs⟩ d s' ⟨n, rfl, hn, hl, rfl, rfl⟩
 have t := h.at'
 have b1 : Blt X (yB zI) "len" (.builtin "len") := yR (by rw [h.mg']; exact m_len)
 have hn' : i = (n : Int) := hn
 subst hn'
 refine .inr ⟨rfl, [.val (.adr r.p)], ?_⟩
 show EvZ (RdS r) X [.val (.adr r.p)] _ _ _ _
 refine vM (aNU (EvTZ.eq (eEE (aLR t ok 0 rfl) (aYL t b1 (aLQ t ok 0 rfl))) ?_) aSH)
 rw [List.length_map, decide_eq_false_iff_not]; show ¬ ((n : Int) < _); omega
theorem aPL (h : DefX P w K mg base k N_read_atom (yB jC) X) (c1 : zV X "take_token" zR) (c4 : Callee X "is_number" aCF) :
  ∀ (r : aJF), aIY X.K r -> ∀ ds s d s', aCE r.toks ds s d s' -> EvZ (RdS r) X (.val (.adr r.p) :: ds.map Sl.val ++ List.replicate (N_read_atom.length - (ds.length + 1)) Sl.un) (yF jC) (.rt d) s s' \/ (d = .non /\ ∃ ρ', EvZ (RdS r) X (.val (.adr r.p) :: ds.map Sl.val ++ List.replicate (N_read_atom.length - (ds.length + 1)) Sl.un) (yF jC) (.nx ρ') s s') := by
 rintro r ok ds ⟨i, xs⟩ d s' ⟨n, u, qZ, rfl, hn, hu, hd, hz, rfl, rfl⟩
 have t := h.at'
 haveI := h.fnT
 have hn' : i = (n : Int) := hn
 subst hn'
 have hne : S u ≠ ("(" : Str) := fun e => by
  rw [show ("(" : Str) = S [40] by decide +kernel] at e
  have e := aCX e
  rcases hu with hh | hh | hh
  ·have := hh.2.1 40 (by rw [e]; simp); omega
  ·rw [hh] at e; cases e
  ·rw [hh] at e; cases e
 refine .inr ⟨rfl, [.val (.adr r.p), .val (.str (S u))], ?_⟩
 show EvZ (RdS r) X [.val (.adr r.p), .un] _ _ _ _
 refine zY (aSF t 1 (jT (d := .str (S u)) t ok c1 (jK (EvE.z (yA t 0 rfl)) (EvA.z yE)) ⟨n, rfl, rfl, by rw [(dh hd).1], rfl⟩)) (vM (aNU (EvT.z (EvT.eq (vF t (yA t 1 rfl) ev_str (aFN hu.lt)) (decide_eq_false hne))) (vM (aVP (EvT.z ?_) (vM (aHK t ok 0 rfl (EvE.z (yA t 1 rfl)) (sz hz)))))))
 rcases id hu with hh | hh
 ·exact EvT.eq (aIN (u := true) (v := true) (aMZ (yO t c4 (yC (yA t 1 rfl) yE) ⟨u, rfl, hu, .inl ⟨hh, rfl⟩⟩)) (fun z => nomatch z)) rfl
 ·exact EvT.eq (aIN (u := false) (aMZ (yO t c4 (yC (yA t 1 rfl) yE) ⟨u, rfl, hu, .inr ⟨hh, rfl⟩⟩)) (fun _ => eKT t (yA t 1 rfl) (aFN hu.lt))) (by rcases hh with rfl | rfl <;> decide +kernel)
end
section
variable {SS : LS} {X : Cx} {ρ : Rho} {a b e : Expr} {s s1 s' : SS.ds} {pos : Pos} {N : List Str} {sc : Scope} {x : Str}
theorem eGF {z w : Str} (ha : EvEZ SS X ρ a (.str z) s s1) (hb : EvEZ SS X ρ b (.str w) s1 s') (hz : z.length + w.length <= sizeLine) : EvEZ SS X ρ (.BinOp a .Add b pos) (.str (z ++ w)) s s' := fun B F H σ Q c l k q => .mk fun pins st I =>
 aQU aKP yU yU pins st σ H Q I (eHM ha hb l k fun x y F' H' c' x' r' rx ry => by
  cases rx; cases ry
  exact ⟨z, w, rfl, rfl, hz, q _ F' H' c' x' r' (.str _)⟩)
theorem eGM (t : At X N sc) {d : D} {xs : List D} {r : Bool} (ha : EvE X ρ a d) (hb : EvE X ρ b (.lst xs)) (sp : (toP d).canLay0 = true) (sd : (toP d).depth <= 62) (sq : PyData.canLayAll0 (toPs xs) = true) (he : (!(toPs xs).any fun y => PyData.eqv y (toP d)) = r)
  (hm : behindInMarks .NotIn b = false := by rfl) : EvT X ρ (.Compare a [.NotIn] [b] pos) r :=
 .of (aBW (eIA t sp sd sq) yU yU hm) fun B F H σ Q k q => eEF (EvE.p ha) (EvE.p hb) k fun x y F' H' x' rx ry => ⟨rx, ry, r, by rw [he], q F' H' x'⟩
end
theorem eGE : ∀ c : Nat, 48 <= c -> c <= 57 -> (!(toPs (sgn FIG)).any fun y => PyData.eqv y (toP (.str (S [c])))) = false := fun c h1 h2 => by
 have : ∀ c : Nat, c < 58 -> 48 <= c -> (!(toPs (sgn FIG)).any fun y => PyData.eqv y (toP (.str (S [c])))) = false := by decide +kernel
 exact this c (by omega) h1
structure Fac where
 mins : Nat
 atom : List Nat
 pow : Option Nat
def aEB (f : Fac) : Prop := f.mins <= 20 /\ RunW f.atom /\ ∀ d, f.pow = some d -> d <= 9
def eFE : Option Nat -> List (List Nat)
 | none => []
 | some d => [[94], [48 + d]]
def eIJ : Option Nat -> List (List Nat)
 | none => []
 | some d => [[94, 48 + d]]
def tkW (f : Fac) : List (List Nat) := f.atom :: eFE f.pow
def stW (f : Fac) : List (List Nat) := f.atom :: eIJ f.pow
def tkF (f : Fac) : List (List Nat) := List.replicate f.mins [45] ++ tkW f
def mnS (n : Nat) : List (List Nat) := if n % 2 = 1 then [[109, 105, 110, 117, 115]] else []
def sfF (f : Fac) : List (List Nat) := stW f ++ mnS f.mins
def aCN : List Fac -> List (List Nat)
 | [] => []
 | f :: fs => [42] :: (tkF f ++ aCN fs)
def aFP : List Fac -> List (List Nat)
 | [] => []
 | f :: fs => sfF f ++ ([42] :: aFP fs)
abbrev Prd := Fac × List Fac
def aPY (p : Prd) : Prop := aEB p.1 /\ ∀ f ∈ p.2, aEB f
def tkP (p : Prd) : List (List Nat) := tkF p.1 ++ aCN p.2
def stP (p : Prd) : List (List Nat) := sfF p.1 ++ aFP p.2
def sgW (b : Bool) : List Nat := if b then [43] else [45]
def aEC : List (Bool × Prd) -> List (List Nat)
 | [] => []
 | q :: qs => sgW q.1 :: (tkP q.2 ++ aEC qs)
def aJD : List (Bool × Prd) -> List (List Nat)
 | [] => []
 | q :: qs => stP q.2 ++ (sgW q.1 :: aJD qs)
abbrev Trm := Prd × List (Bool × Prd)
def eBW (t : Trm) : Prop := aPY t.1 /\ ∀ q ∈ t.2, aPY q.2
def tkT (t : Trm) : List (List Nat) := tkP t.1 ++ aEC t.2
def stT (t : Trm) : List (List Nat) := stP t.1 ++ aJD t.2
def sm (ts : List (List Nat)) : List Str := ts.map S
theorem aHE (a b : List (List Nat)) : sm (a ++ b) = sm a ++ sm b := List.map_append
theorem aDS (a b : List (List Nat)) : qY (a ++ b) = qY a ++ qY b := List.map_append
def No (us : List (List Nat)) (post : List Str) : Prop := ∀ u ∈ us, HD post ≠ S u
def CR {α : Type} (Ok : α -> Prop) (tk st : α -> List (List Nat)) (no : List (List Nat)) (toks : List Str) (ds : List D) (s : Int × List D) (d : D) (s' : Int × List D) : Prop :=
 (∀ x ∈ toks, PyData.strOk x = true) /\ ∃ (n : Nat) (x : α) (post : List Str), ds = [] /\ s.1 = n /\ Ok x /\ toks.drop n = sm (tk x) ++ post /\ No no post /\ s.2.length + (st x).length < 10000 /\ d = .non /\ s' = (((n + (tk x).length : Nat) : Int), s.2 ++ qY (st x))
theorem CR.len {α : Type} {Ok : α -> Prop} {tk st : α -> List (List Nat)} {no : List (List Nat)} : ∀ ts ds s d s', CR Ok tk st no ts ds s d s' -> ds.length + 1 = 1 := by rintro _ _ _ _ _ ⟨_, a, b, c, rfl, _⟩; rfl
def aAU := CR aEB tkW stW [[94]]
def aAF := CR aEB tkF sfF [[94]]
def vW := CR aPY tkP stP [[94], [42]]
def aDI := CR eBW tkT stT [[94], [42], [43], [45]]
theorem aJS : ∀ ts ds s d s', aAU ts ds s d s' -> ds.length + 1 = 1 := CR.len
theorem aHX : ∀ ts ds s d s', aAF ts ds s d s' -> ds.length + 1 = 1 := CR.len
theorem aGD : ∀ ts ds s d s', vW ts ds s d s' -> ds.length + 1 = 1 := CR.len
theorem aOV : ∀ ts ds s d s', aDI ts ds s d s' -> ds.length + 1 = 1 := CR.len
theorem aET {ts : List Str} {n : Nat} {a b : List Str} (h : ts.drop n = a ++ b) : ts.drop (n + a.length) = b := by
 rw [<- List.drop_drop, h]; simp
theorem aKF (a : List (List Nat)) : (sm a).length = a.length := List.length_map _
theorem wJ (a : List (List Nat)) : (qY a).length = a.length := List.length_map _
theorem aYC {ts : List Str} {n : Nat} {u : List Nat} {us : List (List Nat)} {post : List Str} (h : ts.drop n = sm (u :: us) ++ post) : HD (ts.drop n) = S u /\ ts.drop (n + 1) = sm us ++ post := dh h
theorem zto {SS : LS} {X : Cx} {ρ : Rho} {st : Stmt} {o : Out} {s a b : SS.ds} (h : aSD SS X ρ st o s a) (e : a = b) : aSD SS X ρ st o s b := e ▸ h
theorem WRunZ.ix {SS : LS} {X : Cx} {cd : Expr} {body : List Stmt} (R : Nat -> Rho) (T : Nat -> SS.ds) (n : Nat) (h : ∀ i, i < n -> EvTZ SS X (R i) cd true (T i) (T i) /\ EvZ SS X (R i) body (.nx (R (i + 1))) (T i) (T (i + 1))) (hn : EvTZ SS X (R n) cd false (T n) (T n)) : ∀ (k i : Nat), i + k = n -> WRunZ SS X cd body k (R i) (T i) (R n) (T n)
 | 0, i, e => by
  have e' : i = n := by omega
  subst e'
  exact .stop hn
 | k + 1, i, e => .step (h i (by omega)).1 (h i (by omega)).2 (WRunZ.ix R T n h hn k (i + 1) (by omega))
theorem aGY {SS : LS} {X : Cx} {N : List Str} {sc : Scope} {cd : Expr} {body : List Stmt} {pos : Pos} {ρ ρ' : Rho} {s s' : SS.ds} (t : At X N sc) (R : Nat -> Rho) (T : Nat -> SS.ds) (n : Nat) (h : ∀ i, i < n -> EvTZ SS X (R i) cd true (T i) (T i) /\ EvZ SS X (R i) body (.nx (R (i + 1))) (T i) (T (i + 1))) (hn : EvTZ SS X (R n) cd false (T n) (T n)) (e1 : R 0 = ρ) (e2 : T 0 = s) (e3 : R n = ρ') (e4 : T n = s') :
  aSD SS X ρ (.While cd body [] pos) (.nx ρ') s s' := by
 subst e1; subst e2; subst e3; subst e4
 exact eAI t ⟨n, WRunZ.ix R T n h hn n 0 (by omega)⟩
theorem eKE {ts : List Str} (h : ∀ x ∈ ts, PyData.strOk x = true) (n : Nat) : PyData.strOk (HD (ts.drop n)) = true := by
 cases e : ts.drop n with
 | nil => decide +kernel
 | cons a b => exact h a (List.mem_of_mem_drop (i := n) (by rw [e]; simp))
section
variable {X : Cx} {ρ : Rho} {r : aJF} {p py pos p2 pos' : Pos} {j : Nat} {N : List Str} {sc : Scope} {n : Nat} {xs : List D}
theorem aUO (t : At X N sc) (ok : aIY X.K r) (c2 : zV X "next_token" zS) (ho : ∀ x ∈ r.toks, PyData.strOk x = true) {z : Str} {b : Bool} (hr : ρ[0]? = some (.val (.adr r.p))) (hz : PyData.strOk z = true) (hb : decide (HD (r.toks.drop n) = z) = b) (hN : N[0]? = some ("reader" : Str) := by rfl) (hv : aDQ sc ("reader" : Str) = true := by rfl) (hx : qS ("reader" : Str) = true := by rfl) (hg : sc.names.lookup ("next_token" : Str) = some .globalImplicit := by rfl) :
  EvTZ (RdS r) X ρ (.Compare (.Call (.Name "next_token" p) [.Name "reader" py] [] pos) [.Eq] [.Constant (.str z) j p2] pos') b ((n : Int), xs) ((n : Int), xs) :=
 EvTZ.eq (eLS (S := RdS r) t (jT (s := ((n : Int), xs)) (s1 := ((n : Int), xs)) (s' := ((n : Int), xs)) t ok c2 (jK (EvE.z (yA t 0 hr hN hv hx)) (EvA.z yE)) ⟨n, rfl, rfl, rfl, rfl⟩ hg) (EvE.z ev_str) (vN (eKE ho n)) (vN hz) rfl) (by rw [<- hb]; exact aAO _ _)
theorem aSM (t : At X N sc) (ok : aIY X.K r) (c3 : zV X "take_token" zR) (hr : ρ[0]? = some (.val (.adr r.p))) (hN : N[0]? = some ("reader" : Str) := by rfl) (hv : aDQ sc ("reader" : Str) = true := by rfl) (hx : qS ("reader" : Str) = true := by rfl) (hg : sc.names.lookup ("take_token" : Str) = some .globalImplicit := by rfl) :
  EvEZ (RdS r) X ρ (.Call (.Name "take_token" p) [.Name "reader" py] [] pos) (.str (HD (r.toks.drop n))) ((n : Int), xs) (((n + 1 : Nat) : Int), xs) :=
 jT t ok c3 (jK (EvE.z (yA t 0 hr hN hv hx)) (EvA.z yE)) ⟨n, rfl, rfl, rfl, by rw [Int.natCast_add]; rfl⟩ hg
end
section
variable {P : Program} {w : World} {K : PySem.W.Frag} {mg : Str -> Option Value} {base : Heap} {k : Nat} {X : Cx}
theorem aKA (h : DefX P w K mg base k N_take_one_of (yB qA) X) (c1 : zV X "take_token" zR) :
  ∀ (r : aJF), aIY X.K r -> ∀ ds s d s', aAC r.toks ds s d s' -> EvZ (RdS r) X (.val (.adr r.p) :: ds.map Sl.val ++ List.replicate (N_take_one_of.length - (ds.length + 1)) Sl.un) (yF qA) (.rt d) s s' \/ (d = .non /\ ∃ ρ', EvZ (RdS r) X (.val (.adr r.p) :: ds.map Sl.val ++ List.replicate (N_take_one_of.length - (ds.length + 1)) Sl.un) (yF qA) (.nx ρ') s s') := by
 rintro r ok ds ⟨i, xs⟩ d s' ⟨n, c, qZ, rfl, hn, hd, h1, h2, rfl, rfl⟩
 have t := h.at'
 haveI := h.fnT
 have hn' : i = (n : Int) := hn
 subst hn'
 have hc : ∀ x ∈ [c], x < 128 := fun x hx => by simp at hx; omega
 refine .inl ?_
 show EvZ (RdS r) X [.val (.adr r.p), .val (.lst (sgn FIG)), .un] _ _ _ _
 exact zY (aSF t 2 (jT (d := .str (S [c])) t ok c1 (jK (EvE.z (yA t 0 rfl)) (EvA.z yE)) ⟨n, rfl, rfl, by rw [(dh hd).1], rfl⟩)) (zY (aNU (EvT.z (eGM t (yA t 2 rfl) (yA t 1 rfl) (aAT (aFN hc)) (vT _) (by decide +kernel) (eGE c h1 h2))) aSH) (vM (aSG (EvE.z (yA t 2 rfl)))))
theorem aNI (h : DefX P w K mg base k N_read_power (yB qC) X) (m_list : mg "list" = none) (c1 : zV X "read_atom" aCE) (c2 : zV X "next_token" zS) (c3 : zV X "take_token" zR) (c4 : zV X "take_one_of" aAC) (gF : ∃ tk, mg "FIGURES" = some (.str FIG tk)) :
  ∀ (r : aJF), aIY X.K r -> ∀ ds s d s', aAU r.toks ds s d s' -> EvZ (RdS r) X (.val (.adr r.p) :: ds.map Sl.val ++ List.replicate (N_read_power.length - (ds.length + 1)) Sl.un) (yF qC) (.rt d) s s' \/ (d = .non /\ ∃ ρ', EvZ (RdS r) X (.val (.adr r.p) :: ds.map Sl.val ++ List.replicate (N_read_power.length - (ds.length + 1)) Sl.un) (yF qC) (.nx ρ') s s') := by
 rintro r ok ds ⟨i, xs⟩ d s' ⟨ho, n, f, post, rfl, hn, hf, hd, hno, hz, rfl, rfl⟩
 have t := h.at'
 haveI := h.fnT
 have b1 : Blt X (yB qC) "list" (.type "list") := yR (by rw [h.mg']; exact m_list)
 have gF' : ∃ tk, X.mg "FIGURES" = some (.str FIG tk) := by rw [h.mg']; exact gF
 have hn' : i = (n : Int) := hn
 subst hn'
 obtain ⟨m, u, pw⟩ := f
 refine .inr ⟨rfl, [.val (.adr r.p)], ?_⟩
 show EvZ (RdS r) X [.val (.adr r.p)] _ _ ((n : Int), xs) (((n + (u :: eFE pw).length : Nat) : Int), xs ++ qY (u :: eIJ pw))
 have hz' : xs.length + (u :: eIJ pw).length < 10000 := hz
 rw [List.length_cons] at hz'
 have h1 := aYC (u := u) (us := eFE pw) hd
 have hxs : (xs ++ [D.str (S u)]).length < 10000 := by simp; omega
 refine zY (s1 := (((n + 1 : Nat) : Int), xs ++ [D.str (S u)])) (aAK (jT t ok c1 (jK (EvE.z (yA t 0 rfl)) (EvA.z yE)) ⟨n, u, sm (eFE pw) ++ post, rfl, rfl, hf.2.1, hd, (by show xs.length < 10000; omega), rfl, by rw [Int.natCast_add]; rfl⟩)) ?_
 cases pw with
 | none =>
  have e : HD (r.toks.drop (n + 1)) ≠ ("^" : Str) := by rw [h1.2, show ("^" : Str) = S [94] by decide +kernel]; exact hno [94] (by simp)
  exact vM (aNU (aUO t ok c2 ho rfl (by decide +kernel) (decide_eq_false e)) aSH)
 | some dd =>
  have h2 := aYC (u := [94]) (us := [[48 + dd]]) h1.2
  have h3 := aYC (u := [48 + dd]) (us := []) h2.2
  have hdd := hf.2.2 dd rfl
  have e : HD (r.toks.drop (n + 1)) = ("^" : Str) := by rw [h2.1]; decide +kernel
  refine vM (aVP (aUO t ok c2 ho rfl (by decide +kernel) (decide_eq_true e)) (zY (aAK (aSM t ok c3 rfl)) (vM ?_)))
  refine zto (aHK t ok 0 rfl (EvEZ.eq (eGF (s := (((n + 1 + 1 : Nat) : Int), xs ++ [D.str (S u)])) (EvE.z ev_str) (jT t ok c4 (jK (EvE.z (yA t 0 rfl)) (jK (EvE.z (EvN.toE (eBM t b1 (aMS t gF') (by decide)))) (EvA.z yE))) ⟨n + 1 + 1, 48 + dd, post, rfl, rfl, h2.2, by omega, by omega, rfl, rfl⟩) (by rw [jL, show ("^" : Str).length = 1 by decide +kernel]; exact Nat.le_trans (show 1 + 1 <= 10 by decide) (by decide))) (show D.str (("^" : Str) ++ S [48 + dd]) = .str (S [94, 48 + dd]) by rw [show ("^" : Str) = S [94] by decide +kernel, aEA]; rfl)) (sz hxs)) ?_
  refine Prod.ext ?_ ?_
  ·show ((n + 1 + 1 : Nat) : Int) + 1 = _
   simp [eFE]; omega
  ·show xs ++ [D.str (S u)] ++ [D.str (S [94, 48 + dd])] = _
   simp [qY, eIJ]
theorem eHY {f : Fac} {post : List Str} (hf : aEB f) : HD (sm (tkW f) ++ post) ≠ ("-" : Str) := fun e => by
 rw [show ("-" : Str) = S [45] by decide +kernel] at e
 have e := aCX (a := f.atom) e
 rcases hf.2.1 with hh | hh | hh
 ·have := hh.2.1 45 (by rw [e]; simp); omega
 ·rw [hh] at e; cases e
 ·rw [hh] at e; cases e
theorem aXR {ts : List Str} {n m : Nat} {w : List (List Nat)} {post : List Str} (h : ts.drop n = sm (List.replicate m [45] ++ w) ++ post) (i : Nat) (hi : i <= m) : ts.drop (n + i) = sm (List.replicate (m - i) [45] ++ w) ++ post := by
 rw [show List.replicate m [45] = List.replicate i [45] ++ List.replicate (m - i) [45] by rw [List.replicate_append_replicate]; congr 1; omega, List.append_assoc, aHE, List.append_assoc] at h
 have := aET h
 rw [aKF, List.length_replicate] at this
 exact this
theorem aKC (h : DefX P w K mg base k N_read_factor (yB qD) X) (c1 : zV X "read_power" aAU) (c2 : zV X "next_token" zS) (c3 : zV X "take_token" zR) (gM : ∃ tk, mg "MOST_MINUSES" = some (.int 20 tk)) :
  ∀ (r : aJF), aIY X.K r -> ∀ ds s d s', aAF r.toks ds s d s' -> EvZ (RdS r) X (.val (.adr r.p) :: ds.map Sl.val ++ List.replicate (N_read_factor.length - (ds.length + 1)) Sl.un) (yF qD) (.rt d) s s' \/ (d = .non /\ ∃ ρ', EvZ (RdS r) X (.val (.adr r.p) :: ds.map Sl.val ++ List.replicate (N_read_factor.length - (ds.length + 1)) Sl.un) (yF qD) (.nx ρ') s s') := by
 rintro r ok ds ⟨i, xs⟩ d s' ⟨ho, n, f, post, rfl, hn, hf, hd, hno, hz, rfl, rfl⟩
 have t := h.at'
 haveI := h.fnT
 have gM' : ∃ tk, X.mg "MOST_MINUSES" = some (.int 20 tk) := by rw [h.mg']; exact gM
 have hn' : i = (n : Int) := hn
 subst hn'
 have hm := hf.1
 have hz' : xs.length + (stW f ++ mnS f.mins).length < 10000 := hz
 rw [List.length_append] at hz'
 have hdm : ∀ i, i <= f.mins -> r.toks.drop (n + i) = sm (List.replicate (f.mins - i) [45] ++ tkW f) ++ post := aXR hd
 refine .inr ⟨rfl, [.val (.adr r.p), .val (.int f.mins)], ?_⟩
 show EvZ (RdS r) X [.val (.adr r.p), .un] _ _ ((n : Int), xs) (((n + (tkF f).length : Nat) : Int), xs ++ qY (sfF f))
 refine zY (EvS.z (qR t 1 yD)) (zY (ρ1 := [.val (.adr r.p), .val (.int f.mins)]) (s1 := (((n + f.mins : Nat) : Int), xs)) (aGY t (fun i => [.val (.adr r.p), .val (.int i)]) (fun i => (((n + i : Nat) : Int), xs)) f.mins (fun i hi => ?_) ?_ rfl rfl rfl rfl) ?_)
 ·have e : HD (r.toks.drop (n + i)) = ("-" : Str) := by
   rw [hdm i (by omega), show f.mins - i = (f.mins - i - 1) + 1 by omega, List.replicate_succ]
   exact (show ("-" : Str) = S [45] by decide +kernel).symm
  exact ⟨aUO t ok c2 ho rfl (by decide +kernel) (decide_eq_true e), zY (aAK (aSM t ok c3 rfl)) (vM (EvS.z (aKI t 1 rfl yD (by rw [Int.natCast_add]; rfl))))⟩
 ·have e : HD (r.toks.drop (n + f.mins)) ≠ ("-" : Str) := by
   rw [hdm f.mins (Nat.le_refl _), Nat.sub_self]
   exact eHY hf
  exact aUO t ok c2 ho rfl (by decide +kernel) (decide_eq_false e)
 ·have hdw : r.toks.drop (n + f.mins) = sm (tkW f) ++ post := by
   have := hdm f.mins (Nat.le_refl _)
   rw [Nat.sub_self] at this
   exact this
  have el : (tkF f).length = f.mins + (tkW f).length := by simp [tkF]
  refine zY (EvS.z (jI (EvT.eq (aDL (yA t 1 rfl) (aMU t gM')) (by rw [decide_eq_false_iff_not]; omega)) zW)) (zY (s1 := (((n + (tkF f).length : Nat) : Int), xs ++ qY (stW f))) (aAK (jT t ok c1 (jK (EvE.z (yA t 0 rfl)) (EvA.z yE)) ⟨ho, n + f.mins, f, post, rfl, rfl, hf, hdw, hno, by show xs.length + _ < _; omega, rfl, by rw [el, Nat.add_assoc]⟩)) (vM ?_))
  by_cases e : f.mins % 2 = 1
  ·refine aVP (EvT.z (EvT.eq (eDN (aYO (k := 1) (yA t 1 rfl) yD)) (by rw [show (f.mins : Int) % 2 ^ 1 = 1 by omega]; rfl))) (vM (zto (aHK t ok 0 rfl (EvE.z ev_str) (sz (by show (xs ++ qY (stW f)).length < _; rw [List.length_append, wJ]; omega))) ?_))
   refine Prod.ext rfl ?_
   show xs ++ qY (stW f) ++ [D.str "minus"] = xs ++ qY (stW f ++ mnS f.mins)
   rw [aDS, List.append_assoc, show mnS f.mins = [[109, 105, 110, 117, 115]] by unfold mnS; rw [if_pos e]]
   rw [show ("minus" : Str) = S [109, 105, 110, 117, 115] by decide +kernel]
   rfl
  ·refine zto (aNU (EvT.z (EvT.eq (eDN (aYO (k := 1) (yA t 1 rfl) yD)) (by rw [show (f.mins : Int) % 2 ^ 1 = 0 by omega]; rfl))) aSH) ?_
   show _ = (_, xs ++ qY (stW f ++ mnS f.mins))
   rw [show mnS f.mins = [] by unfold mnS; rw [if_neg e], List.append_nil]
theorem aLB : ∀ a b : List Fac, aCN (a ++ b) = aCN a ++ aCN b
 | [], b => rfl
 | f :: a, b => by show [42] :: (tkF f ++ aCN (a ++ b)) = _; rw [aLB a b]; simp [aCN]
theorem aGL : ∀ a b : List Fac, aFP (a ++ b) = aFP a ++ aFP b
 | [], b => rfl
 | f :: a, b => by show sfF f ++ ([42] :: aFP (a ++ b)) = _; rw [aGL a b]; simp [aFP]
theorem aLA : ∀ a b : List (Bool × Prd), aEC (a ++ b) = aEC a ++ aEC b
 | [], b => rfl
 | f :: a, b => by show sgW f.1 :: (tkP f.2 ++ aEC (a ++ b)) = _; rw [aLA a b]; simp [aEC]
theorem aGK : ∀ a b : List (Bool × Prd), aJD (a ++ b) = aJD a ++ aJD b
 | [], b => rfl
 | f :: a, b => by show stP f.2 ++ (sgW f.1 :: aJD (a ++ b)) = _; rw [aGK a b]; simp [aJD]
theorem tk1 {α : Type} (xs : List α) {i : Nat} (h : i < xs.length) : xs.take (i + 1) = xs.take i ++ [xs[i]] := by rw [List.take_succ, List.getElem?_eq_getElem h]; rfl
theorem eEI : S [42] ≠ S [94] := fun e => by have := aCX e; cases this
theorem aXE : ∀ b, S (sgW b) ≠ S [94] /\ S (sgW b) ≠ S [42] := fun b => by cases b <;> exact ⟨fun e => (by have := aCX e; cases this), fun e => (by have := aCX e; cases this)⟩
theorem eJI {fs : List Fac} {post : List Str} (h : No [[94], [42]] post) : No [[94]] (sm (aCN fs) ++ post) := fun u hu => by
 simp at hu
 subst hu
 cases fs with
 | nil => exact h [94] (by simp)
 | cons f fs => exact eEI
theorem eJH {qs : List (Bool × Prd)} {post : List Str} (h : No [[94], [42], [43], [45]] post) : No [[94], [42]] (sm (aEC qs) ++ post) := fun u hu => by
 cases qs with
 | nil =>
  have hu' : u = [94] \/ u = [42] := by simpa using hu
  rcases hu' with rfl | rfl
  ·exact h [94] (by simp)
  ·exact h [42] (by simp)
 | cons q qs =>
  have hu' : u = [94] \/ u = [42] := by simpa using hu
  rcases hu' with rfl | rfl
  ·exact (aXE q.1).1
  ·exact (aXE q.1).2
theorem aIR (h : DefX P w K mg base k N_read_product (yB zO) X) (c1 : zV X "read_factor" aAF) (c2 : zV X "next_token" zS) (c3 : zV X "take_token" zR) :
  ∀ (r : aJF), aIY X.K r -> ∀ ds s d s', vW r.toks ds s d s' -> EvZ (RdS r) X (.val (.adr r.p) :: ds.map Sl.val ++ List.replicate (N_read_product.length - (ds.length + 1)) Sl.un) (yF zO) (.rt d) s s' \/ (d = .non /\ ∃ ρ', EvZ (RdS r) X (.val (.adr r.p) :: ds.map Sl.val ++ List.replicate (N_read_product.length - (ds.length + 1)) Sl.un) (yF zO) (.nx ρ') s s') := by
 rintro r ok ds ⟨i, xs⟩ d s' ⟨ho, n, ⟨f, fs⟩, post, rfl, hn, hf, hd, hno, hz, rfl, rfl⟩
 have t := h.at'
 haveI := h.fnT
 have hn' : i = (n : Int) := hn
 subst hn'
 have hz' : xs.length + (sfF f ++ aFP fs).length < 10000 := hz
 rw [List.length_append] at hz'
 have hd' : r.toks.drop n = sm (tkF f) ++ (sm (aCN fs) ++ post) := by rw [<- List.append_assoc, <- aHE]; exact hd
 have hd2 : r.toks.drop (n + (tkF f).length) = sm (aCN fs) ++ post := by have := aET hd'; rw [aKF] at this; exact this
 refine .inr ⟨rfl, [.val (.adr r.p)], ?_⟩
 show EvZ (RdS r) X [.val (.adr r.p)] _ _ ((n : Int), xs) (((n + (tkF f ++ aCN fs).length : Nat) : Int), xs ++ qY (sfF f ++ aFP fs))
 have dr : ∀ i, i <= fs.length -> r.toks.drop (n + (tkF f).length + (aCN (fs.take i)).length) = sm (aCN (fs.drop i)) ++ post := fun i hi => by
  have e : aCN fs = aCN (fs.take i) ++ aCN (fs.drop i) := by rw [<- aLB, List.take_append_drop]
  rw [e, aHE, List.append_assoc] at hd2
  have := aET hd2
  rw [aKF] at this
  exact this
 have zl : ∀ i, i <= fs.length -> (aFP (fs.take i)).length <= (aFP fs).length := fun i hi => by
  have e : aFP fs = aFP (fs.take i) ++ aFP (fs.drop i) := by rw [<- aGL, List.take_append_drop]
  rw [e, List.length_append]; omega
 refine zY (s1 := (((n + (tkF f).length : Nat) : Int), xs ++ qY (sfF f))) (aAK (jT t ok c1 (jK (EvE.z (yA t 0 rfl)) (EvA.z yE)) ⟨ho, n, f, sm (aCN fs) ++ post, rfl, rfl, hf.1, hd', eJI hno, by show xs.length + _ < _; omega, rfl, rfl⟩)) (vM (aGY t (fun _ => [.val (.adr r.p)]) (fun i => (((n + (tkF f).length + (aCN (fs.take i)).length : Nat) : Int), xs ++ qY (sfF f ++ aFP (fs.take i)))) fs.length (fun i hi => ?_) ?_ rfl ?_ rfl ?_))
 ·have d0 := dr i (by omega)
  rw [show fs.drop i = fs[i] :: fs.drop (i + 1) by rw [List.drop_eq_getElem_cons hi]] at d0
  have h1 := aYC (u := [42]) (us := tkF fs[i] ++ aCN (fs.drop (i + 1))) d0
  have e : HD (r.toks.drop (n + (tkF f).length + (aCN (fs.take i)).length)) = ("*" : Str) := by rw [h1.1]; decide +kernel
  have h2 := h1.2
  rw [aHE, List.append_assoc] at h2
  have zi := zl (i + 1) (by omega)
  rw [tk1 fs hi, aGL, List.length_append] at zi
  have zi' : (aFP [fs[i]]).length = (sfF fs[i]).length + 1 := by simp [aFP]
  refine ⟨aUO t ok c2 ho rfl (by decide +kernel) (decide_eq_true e), zY (aAK (aSM t ok c3 rfl)) (zY (aAK (jT t ok c1 (jK (EvE.z (yA t 0 rfl)) (EvA.z yE)) ⟨ho, n + (tkF f).length + (aCN (fs.take i)).length + 1, fs[i], sm (aCN (fs.drop (i + 1))) ++ post, rfl, rfl, hf.2 _ (List.getElem_mem hi), h2, eJI hno, ?_, rfl, rfl⟩)) (vM (zto (aHK t ok 0 rfl (EvE.z ev_str) (sz ?_)) ?_)))⟩
  ·show (xs ++ qY _).length + _ < _
   rw [List.length_append, wJ, List.length_append]; omega
  ·show (xs ++ qY _ ++ qY _).length < _
   rw [List.length_append, List.length_append, wJ, wJ, List.length_append]; omega
  ·refine Prod.ext ?_ ?_
   ·show (((_ : Nat)) : Int) = _
    rw [tk1 fs hi, aLB]
    simp [aCN]; omega
   ·show xs ++ qY _ ++ qY _ ++ [D.str "*"] = xs ++ qY _
    rw [tk1 fs hi, aGL, show ("*" : Str) = S [42] by decide +kernel]
    simp [qY, aFP]
 ·have d0 := dr fs.length (Nat.le_refl _)
  rw [List.drop_length] at d0
  have e : HD (r.toks.drop (n + (tkF f).length + (aCN (fs.take fs.length)).length)) ≠ ("*" : Str) := by
   rw [d0, show ("*" : Str) = S [42] by decide +kernel]
   exact hno [42] (by simp)
  exact aUO t ok c2 ho rfl (by decide +kernel) (decide_eq_false e)
 ·show _ = _
  simp [aCN, aFP]
  rfl
 ·show _ = _
  rw [List.take_length, List.length_append, Nat.add_assoc]
theorem eMF (w : Str) : ((toPs [D.str "+", .str "-"]).any fun y => PyData.eqv y (toP (.str w))) = (decide (w = "+") || decide (w = "-")) := eNY "+" "-" w
end
section
variable {X : Cx} {ρ : Rho} {r : aJF} {p py pos p2 p3 p4 pos' : Pos} {j j2 kk : Nat} {N : List Str} {sc : Scope} {n : Nat} {xs : List D}
theorem eJF (t : At X N sc) (ok : aIY X.K r) (c2 : zV X "next_token" zS) (ho : ∀ x ∈ r.toks, PyData.strOk x = true) {b : Bool} (hr : ρ[0]? = some (.val (.adr r.p))) (hb : (decide (HD (r.toks.drop n) = "+") || decide (HD (r.toks.drop n) = "-")) = b) (hN : N[0]? = some ("reader" : Str) := by rfl) (hv : aDQ sc ("reader" : Str) = true := by rfl) (hx : qS ("reader" : Str) = true := by rfl) (hg : sc.names.lookup ("next_token" : Str) = some .globalImplicit := by rfl) :
  EvTZ (RdS r) X ρ (.Compare (.Call (.Name "next_token" p) [.Name "reader" py] [] pos) [.In] [.Tuple [.Constant (.str "+") j p2, .Constant (.str "-") j2 p3] kk p4] pos') b ((n : Int), xs) ((n : Int), xs) :=
 eLR (S := RdS r) (xs := [.str "+", .str "-"]) t (jT (s := ((n : Int), xs)) (s1 := ((n : Int), xs)) (s' := ((n : Int), xs)) t ok c2 (jK (EvE.z (yA t 0 hr hN hv hx)) (EvA.z yE)) ⟨n, rfl, rfl, rfl, rfl⟩ hg) (EvE.z (yP (yC ev_str (yC ev_str yE)))) (aAT (eKE ho n)) (vT _) (by decide +kernel) (by rw [eMF]; exact hb)
end
section
variable {P : Program} {w : World} {K : PySem.W.Frag} {mg : Str -> Option Value} {base : Heap} {k : Nat} {X : Cx}
theorem aRS (h : DefX P w K mg base k N_read_sum (yB jU) X) (c1 : zV X "read_product" vW) (c2 : zV X "next_token" zS) (c3 : zV X "take_token" zR) :
  ∀ (r : aJF), aIY X.K r -> ∀ ds s d s', aDI r.toks ds s d s' -> EvZ (RdS r) X (.val (.adr r.p) :: ds.map Sl.val ++ List.replicate (N_read_sum.length - (ds.length + 1)) Sl.un) (yF jU) (.rt d) s s' \/ (d = .non /\ ∃ ρ', EvZ (RdS r) X (.val (.adr r.p) :: ds.map Sl.val ++ List.replicate (N_read_sum.length - (ds.length + 1)) Sl.un) (yF jU) (.nx ρ') s s') := by
 rintro r ok ds ⟨i, xs⟩ d s' ⟨ho, n, ⟨f, fs⟩, post, rfl, hn, hf, hd, hno, hz, rfl, rfl⟩
 have t := h.at'
 haveI := h.fnT
 have hn' : i = (n : Int) := hn
 subst hn'
 have hz' : xs.length + (stP f ++ aJD fs).length < 10000 := hz
 rw [List.length_append] at hz'
 have hd' : r.toks.drop n = sm (tkP f) ++ (sm (aEC fs) ++ post) := by rw [<- List.append_assoc, <- aHE]; exact hd
 have hd2 : r.toks.drop (n + (tkP f).length) = sm (aEC fs) ++ post := by have := aET hd'; rw [aKF] at this; exact this
 refine .inr ⟨rfl, [.val (.adr r.p), .un], ?_⟩
 show EvZ (RdS r) X [.val (.adr r.p), .un] _ _ ((n : Int), xs) (((n + (tkP f ++ aEC fs).length : Nat) : Int), xs ++ qY (stP f ++ aJD fs))
 have dr : ∀ i, i <= fs.length -> r.toks.drop (n + (tkP f).length + (aEC (fs.take i)).length) = sm (aEC (fs.drop i)) ++ post := fun i hi => by
  have e : aEC fs = aEC (fs.take i) ++ aEC (fs.drop i) := by rw [<- aLA, List.take_append_drop]
  rw [e, aHE, List.append_assoc] at hd2
  have := aET hd2
  rw [aKF] at this
  exact this
 have zl : ∀ i, i <= fs.length -> (aJD (fs.take i)).length <= (aJD fs).length := fun i hi => by
  have e : aJD fs = aJD (fs.take i) ++ aJD (fs.drop i) := by rw [<- aGK, List.take_append_drop]
  rw [e, List.length_append]; omega
 refine zY (s1 := (((n + (tkP f).length : Nat) : Int), xs ++ qY (stP f))) (aAK (jT t ok c1 (jK (EvE.z (yA t 0 rfl)) (EvA.z yE)) ⟨ho, n, f, sm (aEC fs) ++ post, rfl, rfl, hf.1, hd', eJH hno, by show xs.length + _ < _; omega, rfl, rfl⟩)) (vM (aGY t (fun _ => [.val (.adr r.p), .un]) (fun i => (((n + (tkP f).length + (aEC (fs.take i)).length : Nat) : Int), xs ++ qY (stP f ++ aJD (fs.take i)))) fs.length (fun i hi => ?_) ?_ rfl ?_ rfl ?_))
 ·have d0 := dr i (by omega)
  rw [show fs.drop i = fs[i] :: fs.drop (i + 1) by rw [List.drop_eq_getElem_cons hi]] at d0
  have h1 := aYC (u := sgW fs[i].1) (us := tkP fs[i].2 ++ aEC (fs.drop (i + 1))) d0
  have e : (decide (HD (r.toks.drop (n + (tkP f).length + (aEC (fs.take i)).length)) = "+") || decide (HD (r.toks.drop (n + (tkP f).length + (aEC (fs.take i)).length)) = "-")) = true := by
   rw [h1.1]
   cases fs[i].1 <;> decide +kernel
  have h2 := h1.2
  rw [aHE, List.append_assoc] at h2
  have zi := zl (i + 1) (by omega)
  rw [tk1 fs hi, aGK, List.length_append] at zi
  have zi' : (aJD [fs[i]]).length = (stP fs[i].2).length + 1 := by simp [aJD]
  refine ⟨eJF t ok c2 ho rfl e, EvZ.weak (zY (aSF t 1 (EvEZ.eq (aSM t ok c3 rfl) (by rw [h1.1]))) (zY (aAK (jT t ok c1 (jK (EvE.z (yA t 0 rfl)) (EvA.z yE)) ⟨ho, n + (tkP f).length + (aEC (fs.take i)).length + 1, fs[i].2, sm (aEC (fs.drop (i + 1))) ++ post, rfl, rfl, hf.2 _ (List.getElem_mem hi), h2, eJH hno, ?_, rfl, rfl⟩)) (vM (zto (aHK t ok 0 rfl (EvE.z (yA t 1 rfl)) (sz ?_)) ?_)))) (.keep (.forget .nil))⟩
  ·show (xs ++ qY _).length + _ < _
   rw [List.length_append, wJ, List.length_append]; omega
  ·show (xs ++ qY _ ++ qY _).length < _
   rw [List.length_append, List.length_append, wJ, wJ, List.length_append]; omega
  ·refine Prod.ext ?_ ?_
   ·show (((_ : Nat)) : Int) = _
    rw [tk1 fs hi, aLA]
    simp [aEC]; omega
   ·show xs ++ qY _ ++ qY _ ++ [D.str _] = xs ++ qY _
    rw [tk1 fs hi, aGK]
    simp [qY, aJD]
 ·have d0 := dr fs.length (Nat.le_refl _)
  rw [List.drop_length] at d0
  refine eJF t ok c2 ho rfl ?_
  rw [d0, Bool.or_eq_false_iff, decide_eq_false_iff_not, decide_eq_false_iff_not, show ("+" : Str) = S [43] by decide +kernel, show ("-" : Str) = S [45] by decide +kernel]
  exact ⟨hno [43] (by simp), hno [45] (by simp)⟩
 ·show _ = _
  simp [aEC, aJD]
  rfl
 ·show _ = _
  rw [List.take_length, List.length_append, Nat.add_assoc]
end
section
variable {X : Cx} {ρ : Rho} {q : Addr} {xs xs1 : List D} {e : Expr} {es : List Expr} {d : D} {ds : List D} {p pos : Pos} {N : List Str} {sc : Scope} {x : Str}
theorem aTR (t : At X N sc) {C : List D -> D -> Prop} (h : EV.Callee X x C) (ha : eLQ X q ρ (e :: es) ds xs xs1) (hC : C ds d) (hg : sc.names.lookup x = some .globalImplicit := by rfl) (hdb : (x == ("__debug__" : Str)) = false := by rfl) :
  eHH X q ρ (.Call (.Name x p) (e :: es) [] pos) d xs xs1 := fun B F0 H σ Q us l k w => .mk fun pins s I => by
 obtain ⟨f, fd, ps, kk, F, hr', hm, hk, hb⟩ := h
 have pz : aCL CX0 X E0 := aQW
 refine aFC F hr' (wK t hg) hm hk hb .nil pz aVO hdb (ha.1.1 _ _) (PlA.any ha.1.2) pins s σ H Q I (ha.2 B F0 H σ _ us l k fun vs F1 H1 u1 x1 r1 rv => ?_)
 have k1 := k.extM l x1
 refine ⟨F1, ds, d, k1.sub, by rw [List.append_nil]; exact rv, hC, fun v F2 H2 x2 rv2 => w v F2 H2 u1 (x1.tM (l.ff k) (x2.toM (k1.sh _ _ yK))) (r1.mono x2.sf) rv2⟩
end
def eAD (ts : List (List Nat)) : Prop := ∀ i, i <= ts.length -> aQC [40] [41] (ts.take i) <= 20 /\ aQC [91] [93] (ts.take i) <= 20
def aCD (ds : List D) (toks : List Str) : Prop := ∃ (cs : List Nat) (ts : List (List Nat)) (m : Nat), ds = [.str (S cs), .int m] /\ Lex cs ts /\ (∀ c ∈ cs, c < 128) /\ cs.length <= m /\ m <= 2000 /\ (∀ u ∈ ts, ∀ x ∈ u, x < 128) /\ eAD ts /\ toks = sm ts
theorem aMH : ∀ ds ts, aCD ds ts -> ds.length = 2 := by rintro _ _ ⟨a, b, c, rfl, _⟩; rfl
section
variable {P : Program} {w : World} {K : PySem.W.Frag} {mg : Str -> Option Value} {base : Heap} {k : Nat} {X : Cx}
theorem aPM (h : DefX P w K mg base k N_reader_of (yB qG) X) (m_isinstance : mg "isinstance" = none) (m_str : mg "str" = none) (m_len : mg "len" = none) (c1 : EV.Callee X "tokens_of" aCA) (c2 : EV.Callee X "refuse_deep" aAE) {C : Addr} (M : MkR X "Reader" C) :
  ∀ ds ts, aCD ds ts -> aVL X (ds.map Sl.val ++ List.replicate (N_reader_of.length - ds.length) Sl.un) (yF qG) ts := by
 rintro ds r ⟨cs, ts, m, rfl, hl, ha, hm, hz, ht, hd, rfl⟩
 have t := h.at'
 haveI := h.fnT
 have b1 : Blt X (yB qG) "isinstance" (.builtin "isinstance") := yR (by rw [h.mg']; exact m_isinstance)
 have b2 : Blt X (yB qG) "str" (.type "str") := yR (by rw [h.mg']; exact m_str)
 have b3 : Blt X (yB qG) "len" (.builtin "len") := yR (by rw [h.mg']; exact m_len)
 show aVL X [.val (.str (S cs)), .val (.int m), .un] _ _
 refine aGV (jI (EvT.eq (aIN (u := false) (EvT.eq (aYU (aMZ (aTN t b1 b2 (yA t 0 rfl) rfl))) rfl) (fun _ => aDL (aAM t b3 (yA t 0 rfl) (sl2 (by omega))) (yA t 1 rfl))) ?_) zW) ?_
 ·rw [jL, Bool.false_or, decide_eq_false_iff_not]; omega
 refine aGV (qR t 2 (yO t c1 (yC (yA t 0 rfl) yE) ⟨cs, ts, rfl, hl, ha, by omega, rfl⟩)) ?_
 refine aGV (aWK (yO t c2 (yC (yA t 2 rfl) (yC ev_str (yC ev_str yE))) ⟨ts, [40], [41], rfl, ht, by simp, by simp, fun i hi => (hd i hi).1, rfl⟩)) ?_
 refine aGV (aWK (yO t c2 (yC (yA t 2 rfl) (yC ev_str (yC ev_str yE))) ⟨ts, [91], [93], rfl, ht, by simp, by simp, fun i hi => (hd i hi).2, rfl⟩)) ?_
 refine eBK t M (EvE.eq (yA t 2 rfl) ?_)
 unfold qY sm
 rw [List.map_map]; rfl
def eFP (u : List Nat) : Int := ((PySem.NumText.digitsVal u : Nat) : Int)
def atB (u : List Nat) : Bd := if u = [120] then [[0, 1]] else if u = [121] then [[], [1]] else if eFP u = 0 then [] else [[eFP u]]
def aEW (ds : List D) (d : D) : Prop := ∃ u, ds = [.str (S u)] /\ RunW u /\ d = yJ (atB u)
theorem aRF : ∀ ds d, aEW ds d -> ds.length = 1 := by rintro _ _ ⟨a, rfl, _⟩; rfl
theorem eJG {u : List Nat} (h : eHE u) : u ≠ [120] /\ u ≠ [121] := ⟨fun e => by have := h.2.1 120 (by rw [e]; simp); omega, fun e => by have := h.2.1 121 (by rw [e]; simp); omega⟩
theorem eBB {u : List Nat} (h : eHE u) : PySem.intText? (S u) = some (eFP u) := by
 have := PySem.intText_digits (x := S u) (by rw [aDZ]; exact h.2.1) (by rw [aDZ]; exact h.1) (by rw [jL]; have := h.2.2.1; omega)
 rw [aDZ] at this
 exact this
theorem aZQ (h : DefX P w K mg base k N_atom_of (yB wB) X) (m_int : mg "int" = none) :
  ∀ ds d, aEW ds d -> EvSs X (ds.map Sl.val ++ List.replicate (N_atom_of.length - ds.length) Sl.un) (yF wB) (.rt d) := by
 rintro ds r ⟨u, rfl, hu, rfl⟩
 have t := h.at'
 haveI := h.fnT
 have b1 : Blt X (yB wB) "int" (.type "int") := yR (by rw [h.mg']; exact m_int)
 have ok := aFN hu.lt
 have e1 : decide (S u = ("x" : Str)) = decide (u = [120]) := decide_eq_decide.mpr ⟨fun e => aCX (by rw [e]; decide +kernel), fun e => by rw [e]; decide +kernel⟩
 have e2 : decide (S u = ("y" : Str)) = decide (u = [121]) := decide_eq_decide.mpr ⟨fun e => aCX (by rw [e]; decide +kernel), fun e => by rw [e]; decide +kernel⟩
 show EvSs X [.val (.str (S u)), .un] _ _
 refine eKV (EvT.eq (vF t (yA t 0 rfl) ev_str ok) e1) (fun v => yH (zH (EvE.eq (yP (yC (yP (yC yD (yC yD yE))) yE)) ?_))) fun v => ?_
 ·rw [decide_eq_true_eq] at v; subst v; rfl
 rw [decide_eq_false_iff_not] at v
 refine eKV (EvT.eq (vF t (yA t 0 rfl) ev_str ok) e2) (fun v' => yH (zH (EvE.eq (yP (yC (yP yE) (yC (yP (yC yD yE)) yE))) ?_))) fun v' => ?_
 ·rw [decide_eq_true_eq] at v'; subst v'; rfl
 rw [decide_eq_false_iff_not] at v'
 have hn : eHE u := by
  rcases hu with hh | hh | hh
  ·exact hh
  ·exact absurd hh v
  ·exact absurd hh v'
 refine yG (qR t 1 (aYP t b1 (yA t 0 rfl) (eBB hn) (by rw [jL]; have := hn.2.2.1; omega))) (yH (zH ?_))
 unfold atB
 rw [if_neg v, if_neg v']
 by_cases e : eFP u = 0
 ·rw [if_pos e]
  exact aFT (EvT.eq (aFV (yA t 1 rfl) yD) (by rw [e]; rfl)) (yP yE)
 ·rw [if_neg e]
  exact aIL (EvT.eq (aFV (yA t 1 rfl) yD) (by rw [decide_eq_false e]; rfl)) (yP (yC (yP (yC (yA t 1 rfl) yE)) yE))
def eCO (b : Bd) : Nat -> Bd
 | 0 => [[1]]
 | i + 1 => aCJ (eCO b i) b
def eHD (b : Bd) (m : Nat) : Prop := (∀ i, i < m -> SmB 100 (eCO b i)) /\ SmB 100 b /\ (∀ r ∈ b, ∀ y ∈ r, -(2 ^ 63) < y /\ y < 2 ^ 63)
def jQ (ds : List D) (d : D) : Prop := ∃ (b : Bd) (m : Nat), ds = [yJ b, .int m] /\ m <= 9 /\ eHD b m /\ d = yJ (eCO b m)
theorem aEP : ∀ ds d, jQ ds d -> ds.length = 2 := by rintro _ _ ⟨a, b, rfl, _⟩; rfl
theorem aGH (h : DefX P w K mg base k N_power_of_board (yB yY) X) (m_range : mg "range" = none) (c1 : EV.Callee X "board_times" vL) :
  ∀ ds d, jQ ds d -> EvSs X (ds.map Sl.val ++ List.replicate (N_power_of_board.length - ds.length) Sl.un) (yF yY) (.rt d) := by
 rintro ds r ⟨b, m, rfl, hm, hb, rfl⟩
 have t := h.at'
 haveI := h.fnT
 have b1 : Blt X (yB yY) "range" (.type "range") := yR (by rw [h.mg']; exact m_range)
 show EvSs X [.val (yJ b), .val (.int m), .un, .un] _ _
 refine yG (qR t 2 (yP (yC (yP (yC yD yE)) yE))) (yG (aBH t (wD t b1 (yA t 1 rfl) (by omega) (by omega)) (FRun.uptoE (ρ' := [.val (yJ b), .val (.int m), .val (yJ (eCO b m)), .un]) (fun i => [.val (yJ b), .val (.int m), .val (yJ (eCO b i)), .un]) (fun j d e => ?_) rfl ?_)) (yH (zH (yA t 2 rfl))))
 ·have hj : j < m := by
   have := (List.getElem?_eq_some_iff.mp e).1
   simpa [wP] using this
  exact ⟨_, jJ t 3, EvSs.weak (yH (qR t 2 (yO t c1 (yC (yA t 2 rfl) (yC (yA t 0 rfl) yE)) ⟨eCO b j, b, rfl, hb.1 j hj, hb.2.1, hb.2.2, rfl⟩))) (.keep (.keep (.keep (.forget .nil))))⟩
 ·simp [wP]
inductive StepR : List Nat -> List Bd -> List Bd -> Prop where
 | atom {u : List Nat} {st : List Bd} : RunW u -> StepR u st (st ++ [atB u])
 | add {st : List Bd} {a b : Bd} : SmB 1000 a -> SmB 1000 b -> StepR [43] (st ++ [a] ++ [b]) (st ++ [aHN a b])
 | sub {st : List Bd} {a b : Bd} : SmB 1000 a -> SmB 1000 b -> StepR [45] (st ++ [a] ++ [b]) (st ++ [aHN a (aXQ b)])
 | mul {st : List Bd} {a b : Bd} : SmB 100 a -> SmB 100 b -> (∀ r ∈ b, ∀ y ∈ r, -(2 ^ 63) < y /\ y < 2 ^ 63) -> StepR [42] (st ++ [a] ++ [b]) (st ++ [aCJ a b])
 | neg {st : List Bd} {b : Bd} : SmB 1000 b -> StepR [109, 105, 110, 117, 115] (st ++ [b]) (st ++ [aHN [] (aXQ b)])
 | pow {st : List Bd} {b : Bd} {d : Nat} : eHD b d -> d <= 9 -> StepR [94, 48 + d] (st ++ [b]) (st ++ [eCO b d])
def wM (d0 : D) (xs xs' : List D) : Prop := ∃ (u : List Nat) (st st' : List Bd), d0 = .str (S u) /\ StepR u st st' /\ st.length < 10000 /\ xs = st.map yJ /\ xs' = st'.map yJ
theorem sm0 : SmB 1000 [] := ⟨by decide, fun r h => nomatch h⟩
theorem pmt (w : Str) : ((toPs [D.str "+", .str "-", .str "*"]).any fun y => PyData.eqv y (toP (.str w))) = (decide (w = "+") || (decide (w = "-") || decide (w = "*"))) := by
 show ((("+" : Str) == w) || ((("-" : Str) == w) || ((("*" : Str) == w) || false))) = _
 rw [aAO, aAO, aAO, Bool.or_false, decide_eq_decide.mpr (show ("+" : Str) = w ↔ w = "+" from eq_comm), decide_eq_decide.mpr (show ("-" : Str) = w ↔ w = "-" from eq_comm), decide_eq_decide.mpr (show ("*" : Str) = w ↔ w = "*" from eq_comm)]
theorem eHW {u : List Nat} (h : RunW u) : ∃ c cs, u = c :: cs /\ ((48 <= c /\ c <= 57) \/ (c = 120 /\ cs = []) \/ (c = 121 /\ cs = [])) := by
 rcases h with h | rfl | rfl
 ·cases u with
  | nil => exact absurd rfl h.1
  | cons c cs => exact ⟨c, cs, rfl, .inl (h.2.1 c (by simp))⟩
 ·exact ⟨_, _, rfl, .inr (.inl ⟨rfl, rfl⟩)⟩
 ·exact ⟨_, _, rfl, .inr (.inr ⟨rfl, rfl⟩)⟩
theorem eAO {u v : List Nat} {z : Str} (hz : z = S v) (h : u ≠ v) : decide (S u = z) = false := decide_eq_false fun e => h (aCX (e.trans hz))
theorem zp : ("+" : Str) = S [43] := by decide +kernel
theorem zm : ("-" : Str) = S [45] := by decide +kernel
theorem zt : ("*" : Str) = S [42] := by decide +kernel
theorem zn : ("minus" : Str) = S [109, 105, 110, 117, 115] := by decide +kernel
theorem zc : ("^" : Str) = S [94] := by decide +kernel
theorem mto {X : Cx} {q : Addr} {ρ : Rho} {st : Stmt} {o : Out} {s a b : List D} (h : eDY X q ρ st o s a) (e : a = b) : eDY X q ρ st o s b := e ▸ h
theorem aFM (h : DefX P w K mg base k N_take_term_step (yB yX) X) (m_int : mg "int" = none) (c1 : EV.Callee X "board_times" vL) (c2 : EV.Callee X "board_minus" aAH) (c3 : EV.Callee X "board_plus" wF) (c4 : EV.Callee X "power_of_board" jQ) (c5 : EV.Callee X "atom_of" aEW) :
  ∀ q d0 xs xs', wM d0 xs xs' -> ∃ ρ', EvM X q (.val d0 :: .val (.adr q) :: List.replicate (N_take_term_step.length - 2) Sl.un) (yF yX) (.nx ρ') xs xs' := by
 rintro q d0 xs xs' ⟨u, st, st', rfl, hs, hl, rfl, rfl⟩
 have t := h.at'
 haveI := h.fnT
 have b1 : Blt X (yB yX) "int" (.type "int") := yR (by rw [h.mg']; exact m_int)
 have cw : PyData.canLayAll0 (toPs [D.str "+", .str "-", .str "*"]) = true := by decide +kernel
 show ∃ ρ', EvM X q [.val (.str (S u)), .val (.adr q), .un, .un] _ (.nx ρ') _ _
 cases hs with
 | atom hu =>
  obtain ⟨c, cs, rfl, hc⟩ := eHW hu
  have f1 : c ≠ 43 /\ c ≠ 45 /\ c ≠ 42 /\ c ≠ 109 /\ c ≠ 94 := by omega
  have ok := aFN hu.lt
  have i1 : (decide (S (c :: cs) = ("+" : Str)) || (decide (S (c :: cs) = ("-" : Str)) || decide (S (c :: cs) = ("*" : Str)))) = false := by
   rw [eAO zp (by intro e; cases e; exact f1.1 rfl), eAO zm (by intro e; cases e; exact f1.2.1 rfl), eAO zt (by intro e; cases e; exact f1.2.2.1 rfl)]; rfl
  refine ⟨[.val (.str (S (c :: cs))), .val (.adr q), .un, .un], aBK (aOR (EvT.l (aIO (r := false) t (yA t 0 rfl) (yP (yC ev_str (yC ev_str (yC ev_str yE)))) (aAT ok) (vT _) cw (by rw [pmt]; exact i1))) (aBK (aOR (EvT.l (EvT.eq (vF t (yA t 0 rfl) ev_str ok) (eAO zn (by intro e; cases e; exact f1.2.2.2.1 rfl)))) (aBK (aOR (EvT.l (EvT.eq (vF t (aBN (c := c) (yA t 0 rfl) yD (sl2 (by have := hu.len; omega)) (by rw [aDZ]; exact aBZ (j := 0) rfl)) ev_str (aFN (cs := [c]) fun x hx => hu.lt x (by simp at hx; simp [hx]))) (eAO (u := [c]) zc (by intro e; cases e; exact f1.2.2.2.2 rfl)))) (aBK (mto (aBL t 1 rfl (EvE.em (yO t c5 (yC (yA t 0 rfl) yE) ⟨_, rfl, hu, rfl⟩)) (by rw [List.length_map]; exact sz hl)) (by rw [List.map_append]; rfl))))))))⟩
 | @add s0 a b ha hb =>
  refine ⟨[.val (.str (S [43])), .val (.adr q), .val (yJ b), .val (yJ a)], aBK (aUT (EvT.l (aIO (r := true) t (yA t 0 rfl) (yP (yC ev_str (yC ev_str (yC ev_str yE)))) (aAT (by decide +kernel)) (vT _) cw (by decide +kernel))) (aKR (aKQ t 2 (aCU t 1 rfl (xs' := (s0 ++ [a]).map yJ) (by simp))) (aKR (aKQ t 3 (aCU t 1 rfl (xs' := s0.map yJ) (by simp))) (aBK (aOR (EvT.l (EvT.eq (vF t (yA t 0 rfl) ev_str (by decide +kernel)) (by decide +kernel))) (aBK (mto (aBL t 1 rfl (EvE.em (aIL (EvT.eq (vF t (yA t 0 rfl) ev_str (by decide +kernel)) (by decide +kernel)) (yO t c3 (yC (yA t 3 rfl) (yC (yA t 2 rfl) yE)) ⟨a, b, rfl, ha, hb, rfl⟩))) (by rw [List.length_map]; exact sz (by simp at hl; omega))) (by rw [List.map_append]; rfl))))))))⟩
 | @sub s0 a b ha hb =>
  refine ⟨[.val (.str (S [45])), .val (.adr q), .val (yJ b), .val (yJ a)], aBK (aUT (EvT.l (aIO (r := true) t (yA t 0 rfl) (yP (yC ev_str (yC ev_str (yC ev_str yE)))) (aAT (by decide +kernel)) (vT _) cw (by decide +kernel))) (aKR (aKQ t 2 (aCU t 1 rfl (xs' := (s0 ++ [a]).map yJ) (by simp))) (aKR (aKQ t 3 (aCU t 1 rfl (xs' := s0.map yJ) (by simp))) (aBK (aOR (EvT.l (EvT.eq (vF t (yA t 0 rfl) ev_str (by decide +kernel)) (by decide +kernel))) (aBK (mto (aBL t 1 rfl (EvE.em (aFT (EvT.eq (vF t (yA t 0 rfl) ev_str (by decide +kernel)) (by decide +kernel)) (yO t c2 (yC (yA t 3 rfl) (yC (yA t 2 rfl) yE)) ⟨a, b, rfl, ha, hb, rfl⟩))) (by rw [List.length_map]; exact sz (by simp at hl; omega))) (by rw [List.map_append]; rfl))))))))⟩
 | @mul s0 a b ha hb hv =>
  refine ⟨[.val (.str (S [42])), .val (.adr q), .val (yJ b), .val (yJ a)], aBK (aUT (EvT.l (aIO (r := true) t (yA t 0 rfl) (yP (yC ev_str (yC ev_str (yC ev_str yE)))) (aAT (by decide +kernel)) (vT _) cw (by decide +kernel))) (aKR (aKQ t 2 (aCU t 1 rfl (xs' := (s0 ++ [a]).map yJ) (by simp))) (aKR (aKQ t 3 (aCU t 1 rfl (xs' := s0.map yJ) (by simp))) (aBK (aUT (EvT.l (EvT.eq (vF t (yA t 0 rfl) ev_str (by decide +kernel)) (by decide +kernel))) (aBK (mto (aBL t 1 rfl (EvE.em (yO t c1 (yC (yA t 3 rfl) (yC (yA t 2 rfl) yE)) ⟨a, b, rfl, ha, hb, hv, rfl⟩)) (by rw [List.length_map]; exact sz (by simp at hl; omega))) (by rw [List.map_append]; rfl))))))))⟩
 | @neg s0 b hb =>
  refine ⟨[.val (.str (S [109, 105, 110, 117, 115])), .val (.adr q), .un, .un], aBK (aOR (EvT.l (aIO (r := false) t (yA t 0 rfl) (yP (yC ev_str (yC ev_str (yC ev_str yE)))) (aAT (by decide +kernel)) (vT _) cw (by decide +kernel))) (aBK (aUT (EvT.l (EvT.eq (vF t (yA t 0 rfl) ev_str (by decide +kernel)) (by decide +kernel))) (aBK (mto (aBL t 1 rfl (aTR t c2 (aSB (EvE.em (yP yE)) (aSB (aCU t 1 rfl (xs' := s0.map yJ) (by simp)) (EvA.am yE))) ⟨[], b, rfl, sm0, hb, rfl⟩) (by rw [List.length_map]; exact sz (by simp at hl; omega))) (by rw [List.map_append]; rfl))))))⟩
 | @pow s0 b d hb hd =>
  have ok : PyData.strOk (S [94, 48 + d]) = true := aFN fun x hx => by simp at hx; omega
  have i1 : (decide (S [94, 48 + d] = ("+" : Str)) || (decide (S [94, 48 + d] = ("-" : Str)) || decide (S [94, 48 + d] = ("*" : Str)))) = false := by
   rw [eAO zp (by intro e; cases e), eAO zm (by intro e; cases e), eAO zt (by intro e; cases e)]; rfl
  have hnum : PySem.intText? (S [48 + d]) = some ((d : Nat) : Int) := by
   have : ∀ d : Nat, d < 10 -> PySem.intText? (S [48 + d]) = some ((d : Nat) : Int) := by decide +kernel
   exact this d (by omega)
  refine ⟨[.val (.str (S [94, 48 + d])), .val (.adr q), .un, .un], aBK (aOR (EvT.l (aIO (r := false) t (yA t 0 rfl) (yP (yC ev_str (yC ev_str (yC ev_str yE)))) (aAT ok) (vT _) cw (by rw [pmt]; exact i1))) (aBK (aOR (EvT.l (EvT.eq (vF t (yA t 0 rfl) ev_str ok) (eAO zn (by intro e; cases e)))) (aBK (aUT (EvT.l (EvT.eq (vF t (aBN (c := 94) (yA t 0 rfl) yD (sl2 (by simp)) (by rw [aDZ]; exact aBZ (j := 0) rfl)) ev_str (by decide +kernel)) (by decide +kernel))) (aBK (mto (aBL t 1 rfl (aTR t c4 (aSB (aCU t 1 rfl (xs' := s0.map yJ) (by simp)) (EvA.am (yC (aYP t b1 (aBN (c := 48 + d) (yA t 0 rfl) yD (sl2 (by simp)) (by rw [aDZ]; exact aBZ (j := 1) rfl)) hnum (by show (S [48 + d]).length <= 640; rw [jL]; simp)) yE))) ⟨b, d, rfl, hd, hb, rfl⟩) (by rw [List.length_map]; exact sz (by simp at hl; omega))) (by rw [List.map_append]; rfl))))))))⟩
inductive Runs : List (List Nat) -> List Bd -> List Bd -> Prop where
 | nil {a : List Bd} : Runs [] a a
 | cons {u : List Nat} {us : List (List Nat)} {a b c : List Bd} : StepR u a b -> Runs us b c -> Runs (u :: us) a c
theorem Runs.app {us vs : List (List Nat)} {a b c : List Bd} (h : Runs us a b) (g : Runs vs b c) : Runs (us ++ vs) a c := by
 induction h with
 | nil => exact g
 | cons s _ ih => exact .cons s (ih g)
theorem StepR.len {u : List Nat} {a b : List Bd} (h : StepR u a b) : b.length <= a.length + 1 := by
 cases h <;> simp <;> omega
theorem Runs.ix {us : List (List Nat)} {a c : List Bd} (h : Runs us a c) : ∃ f : Nat -> List Bd, f 0 = a /\ f us.length = c /\ ∀ i (hi : i < us.length), StepR us[i] (f i) (f (i + 1)) /\ (f i).length <= a.length + i := by
 induction h with
 | @nil a => exact ⟨fun _ => a, rfl, rfl, fun i hi => nomatch hi⟩
 | @cons u us a b c s r ih =>
  obtain ⟨f, f0, f1, f2⟩ := ih
  refine ⟨fun i => match i with | 0 => a | j + 1 => f j, rfl, f1, fun i hi => ?_⟩
  cases i with
  | zero => exact ⟨by show StepR u a (f 0); rw [f0]; exact s, by simp⟩
  | succ j =>
   have := f2 j (by simpa using hi)
   exact ⟨this.1, by have l := s.len; have := this.2; show (f j).length <= _; omega⟩
def aAP (ds : List D) (d : D) : Prop := ∃ (cs : List Nat) (T : Trm) (b : Bd), ds = [.str (S cs)] /\ Lex cs (tkT T) /\ (∀ c ∈ cs, c < 128) /\ cs.length <= 1000 /\ (∀ u ∈ tkT T, ∀ x ∈ u, x < 128) /\ eAD (tkT T) /\ eBW T /\ (stT T).length < 10000 /\ Runs (stT T) [] [b] /\ d = yJ b
theorem aMI : ∀ ds d, aAP ds d -> ds.length = 1 := by rintro _ _ ⟨a, b, c, rfl, _⟩; rfl
theorem aRX (h : DefX P w K mg base k N_read_term (yB jR) X) (c1 : aNS X "reader_of" aCD) (c2 : zV X "read_sum" aDI) (c3 : zV X "refuse_more" aAD) (c4 : aNT X "take_term_step" wM) (gM : ∃ tk, mg "MOST_SIGNS" = some (.int 1000 tk)) :
  ∀ ds d, aAP ds d -> EvSs X (ds.map Sl.val ++ List.replicate (N_read_term.length - ds.length) Sl.un) (yF jR) (.rt d) := by
 rintro ds r ⟨cs, T, b, rfl, hl, ha, hz, ht, hd, hT, hs, hr, rfl⟩
 have t := h.at'
 haveI := h.fnT
 have gM' : ∃ tk, X.mg "MOST_SIGNS" = some (.int 1000 tk) := by rw [h.mg']; exact gM
 obtain ⟨f, f0, f1, f2⟩ := hr.ix
 show EvSs X [.val (.str (S cs)), .un, .un, .un] _ _
 refine eGN (toks := sm (tkT T)) t 1 c1 (yC (yA t 0 rfl) (yC (aMU t gM') yE)) ⟨cs, tkT T, 1000, rfl, hl, ha, hz, by decide, ht, hd, rfl⟩ fun r ok et => ⟨(((tkT T).length : Nat), qY (stT T)), ?_⟩
 have ho : ∀ x ∈ r.toks, PyData.strOk x = true := by
  rw [et]
  intro x hx
  obtain ⟨u, hu, rfl⟩ := List.mem_map.mp hx
  exact aFN (ht u hu)
 show EvZ (RdS r) X [.val (.str (S cs)), .val (.adr r.p), .un, .un] _ _ ((0 : Int), ([] : List D)) (((tkT T).length : Nat), qY (stT T))
 refine zY (s1 := ((((tkT T).length : Nat) : Int), qY (stT T))) (aAK (jT (s1 := ((0 : Int), ([] : List D))) t ok c2 (jK (EvE.z (yA t 1 rfl)) (EvA.z yE)) ⟨ho, 0, T, [], rfl, rfl, hT, by rw [et]; simp, fun u hu => ?_, by show 0 + _ < _; omega, rfl, ?_⟩)) ?_
 ·have hu' : u = [94] \/ u = [42] \/ u = [43] \/ u = [45] := by simpa using hu
  show (("" : Str)) ≠ S u
  rcases hu' with rfl | rfl | rfl | rfl <;> decide +kernel
 ·simp
 refine zY (s1 := ((((tkT T).length : Nat) : Int), qY (stT T))) (aAK (jT (s1 := ((((tkT T).length : Nat) : Int), qY (stT T))) t ok c3 (jK (EvE.z (yA t 1 rfl)) (EvA.z yE)) ⟨(tkT T).length, rfl, rfl, by rw [et, aKF]; exact Nat.le_refl _, rfl, rfl⟩)) ?_
 refine zY (EvS.z (aCK t 2 (zX yE))) (zY (ρ1 := [.val (.str (S cs)), .val (.adr r.p), .own ([b].map yJ), .un]) (eAJ t ok 1 rfl (FRun.uptoE (fun i => [.val (.str (S cs)), .val (.adr r.p), .own ((f i).map yJ), .un]) (fun j d e => ?_) (by rw [f0]; rfl) ?_)) (vM (aSG (EvE.z (zE (aAL t 2 rfl) yD rfl)))))
 ·have e' : (qY (stT T))[j]? = some d := e
  unfold qY at e'
  rw [List.getElem?_map] at e'
  cases e2 : (stT T)[j]? with
  | none => rw [e2] at e'; cases e'
  | some u =>
   rw [e2] at e'
   cases e'
   obtain ⟨hj, eu⟩ := List.getElem?_eq_some_iff.mp e2
   have f3 := f2 j hj
   rw [eu] at f3
   refine ⟨_, jJ t 3, EvSs.weak (yH (eAP t c4 2 rfl (yA t 3 rfl) ⟨u, f j, f (j + 1), rfl, f3.1, by have := f3.2; simp at this; omega, rfl, rfl⟩)) (.keep (.keep (.keep (.forget .nil))))⟩
 ·show _ = _
  have : (((((tkT T).length : Nat) : Int), qY (stT T)) : Int × List D).2.length = (stT T).length := wJ _
  rw [this, f1]
def jO (c n : Nat) : List (List Nat) := if n = 0 then [] else if n = 1 then [[c]] else [[c, 94, 48 + n]]
def aEM (n : Nat) : List Nat := (Nat.toDigits 10 n).map Char.toNat
def aDR (n i k : Nat) : List (List Nat) := (if n ≠ 1 \/ (i = 0 /\ k = 0) then [aEM n] else []) ++ (jO 120 i ++ jO 121 k)
def aYF : List (List Nat) -> List Nat
 | [] => []
 | u :: us => u ++ us.flatMap fun v => 42 :: v
theorem wZ (c n : Nat) : (jO c n).length <= 1 := by unfold jO; split <;> (try split) <;> simp
theorem eCW (n : Nat) : (toString ((n : Nat) : Int) : Str) = S (aEM n) := by
 rw [ePS (toString ((n : Nat) : Int) : Str)]
 congr 1
 exact PySem.W.KIN.signs_num n
theorem aID : ∀ us : List (List Nat), Txt.join ("*" : Str) (us.map S) = S (aYF us)
 | [] => rfl
 | u :: us => by
  show Builtin.Str.glued ("*" : Str) (S u :: us.map S) = _
  have : ∀ (us : List (List Nat)) (acc : List Nat), ((us.map S).foldl (fun a p => a ++ (("*" : Str)).cps ++ p.cps) acc.toArray) = (acc ++ us.flatMap fun v => 42 :: v).toArray := by
   intro us
   induction us with
   | nil => intro acc; simp
   | cons v us ih =>
    intro acc
    rw [List.map_cons, List.foldl_cons, show (("*" : Str)).cps = [42].toArray by rw [zt]; rfl, show acc.toArray ++ [42].toArray ++ (S v).cps = (acc ++ 42 :: v).toArray by show acc.toArray ++ [42].toArray ++ v.toArray = _; simp, show [42].toArray = (("*" : Str)).cps by rw [zt]; rfl, ih]
    simp
  show (⟨((us.map S).foldl (fun a p => a ++ (("*" : Str)).cps ++ p.cps) (S u).cps)⟩ : Str) = _
  rw [show (S u).cps = u.toArray from rfl, this]
  rfl
theorem eKH : ∀ n : Nat, 2 <= n -> n <= 8 -> ((("x" : Str) ++ ("^" : Str) ++ (toString (n : Int) : Str))) = S [120, 94, 48 + n] := fun n h1 h2 => by
 have : ∀ n : Nat, n < 9 -> 2 <= n -> ((("x" : Str) ++ ("^" : Str) ++ (toString (n : Int) : Str))) = S [120, 94, 48 + n] := by decide +kernel
 exact this n (by omega) h1
theorem eKG : ∀ n : Nat, 2 <= n -> n <= 8 -> ((("y" : Str) ++ ("^" : Str) ++ (toString (n : Int) : Str))) = S [121, 94, 48 + n] := fun n h1 h2 => by
 have : ∀ n : Nat, n < 9 -> 2 <= n -> ((("y" : Str) ++ ("^" : Str) ++ (toString (n : Int) : Str))) = S [121, 94, 48 + n] := by decide +kernel
 exact this n (by omega) h1
theorem eMP {n : Nat} (h : n <= 8) : ((n : Nat) : Int).natAbs.log2 < 1920 := by
 have : ∀ n : Nat, n < 9 -> ((n : Nat) : Int).natAbs.log2 < 1920 := by decide
 exact this n (by omega)
def vK (ds : List D) (d : D) : Prop := ∃ i k : Nat, ds = [.int i, .int k] /\ i <= 8 /\ k <= 8 /\ d = .lst (qY (jO 120 i ++ jO 121 k))
theorem aFF : ∀ ds d, vK ds d -> ds.length = 2 := by rintro _ _ ⟨a, b, rfl, _⟩; rfl
theorem aIV (h : DefX P w K mg base k N_letters_shown (yB zT) X)  :
  ∀ ds d, vK ds d -> EvSs X (ds.map Sl.val ++ List.replicate (N_letters_shown.length - ds.length) Sl.un) (yF zT) (.rt d) := by
 rintro ds r ⟨i, k, rfl, hi, hk, rfl⟩
 have t := h.at'
 haveI := h.fnT
 show EvSs X [.val (.int i), .val (.int k), .un, .un, .un] _ _
 have R : Nat -> Rho := fun j => [.val (.int i), .val (.int k), .own (qY (if j = 0 then [] else if j = 1 then jO 120 i else jO 120 i ++ jO 121 k)), .un, .un]
 refine yG (aCK t 2 (zX yE)) (yG (aBH t (aYX (ds := [.tup [.str "x", .int i], .tup [.str "y", .int k]]) (yP (yC (yP (yC ev_str (yC (yA t 0 rfl) yE))) (yC (yP (yC ev_str (yC (yA t 1 rfl) yE))) yE)))) (FRun.uptoE (ρ' := [.val (.int i), .val (.int k), .own (qY (jO 120 i ++ jO 121 k)), .un, .un]) (fun j => [.val (.int i), .val (.int k), .own (qY (if j = 0 then [] else if j = 1 then jO 120 i else jO 120 i ++ jO 121 k)), .un, .un]) (fun j d e => ?_) rfl rfl)) (vG 2 rfl (yH (zH (yA t 2 rfl)))))
 rcases j with _ | _ | j
 ·have e' : d = .tup [.str "x", .int i] := by cases e; rfl
  subst e'
  refine ⟨_, aCV t 3 4, EvSs.weak (ρ1 := [.val (.int i), .val (.int k), .own (qY (jO 120 i)), .val (.str "x"), .val (.int i)]) (yH ?_) (.keep (.keep (.keep (.forget (.forget .nil)))))⟩
  by_cases h1 : i = 1
  ·subst h1
   exact jY (EvT.eq (jX (yA t 4 rfl) yD) rfl) (yH (EvS.eq (wX t 2 rfl (yA t 3 rfl) (show (0 : Nat) < sizeLine by decide)) (by show Out.nx [_, _, .own ([] ++ [D.str "x"]), _, _] = _; rw [show ("x" : Str) = S [120] by decide +kernel]; rfl)))
  ·refine jI (EvT.eq (jX (yA t 4 rfl) yD) (by rw [decide_eq_false_iff_not]; omega)) (yH ?_)
   by_cases h0 : i = 0
   ·subst h0
    exact jI (EvT.eq (aDL (yA t 4 rfl) yD) rfl) zW
   ·exact jY (EvT.eq (aDL (yA t 4 rfl) yD) (by rw [decide_eq_true_eq]; omega)) (yH (EvS.eq (wX t 2 rfl (EvE.eq (aYQ (yA t 3 rfl) (yA t 4 rfl) (eMP hi) (by decide)) (by rw [eKH i (by omega) hi])) (show (0 : Nat) < sizeLine by decide)) (by unfold jO; rw [if_neg h0, if_neg h1]; rfl)))
 ·have e' : d = .tup [.str "y", .int k] := by cases e; rfl
  subst e'
  have hl : (qY (jO 120 i)).length < sizeLine := by rw [wJ]; exact Nat.lt_of_le_of_lt (wZ _ _) (by decide)
  refine ⟨_, aCV t 3 4, EvSs.weak (ρ1 := [.val (.int i), .val (.int k), .own (qY (jO 120 i ++ jO 121 k)), .val (.str "y"), .val (.int k)]) (yH ?_) (.keep (.keep (.keep (.forget (.forget .nil)))))⟩
  by_cases h1 : k = 1
  ·subst h1
   exact jY (EvT.eq (jX (yA t 4 rfl) yD) rfl) (yH (EvS.eq (wX t 2 rfl (yA t 3 rfl) hl) (by rw [aDS, show ("y" : Str) = S [121] by decide +kernel]; rfl)))
  ·refine jI (EvT.eq (jX (yA t 4 rfl) yD) (by rw [decide_eq_false_iff_not]; omega)) (yH ?_)
   by_cases h0 : k = 0
   ·subst h0
    exact EvS.eq (jI (EvT.eq (aDL (yA t 4 rfl) yD) rfl) zW) (by rw [show jO 121 0 = [] from rfl, List.append_nil]; rfl)
   ·exact jY (EvT.eq (aDL (yA t 4 rfl) yD) (by rw [decide_eq_true_eq]; omega)) (yH (EvS.eq (wX t 2 rfl (EvE.eq (aYQ (yA t 3 rfl) (yA t 4 rfl) (eMP hk) (by decide)) (by rw [eKG k (by omega) hk])) hl) (by rw [aDS, show jO 121 k = [[121, 94, 48 + k]] by unfold jO; rw [if_neg h0, if_neg h1]]; rfl)))
 ·cases e
theorem aMD (us : List (List Nat)) : (us.map S).map D.str = qY us := by unfold qY; rw [List.map_map]; rfl
theorem tok_nil {us : List (List Nat)} : ((toP (.lst (qY us))).eqv (toP (.lst []))) = us.isEmpty := by
 cases us <;> rfl
theorem aMC {n : Nat} (h : n < 10 ^ 12) : (aEM n).length <= 12 := by
 unfold aEM
 rw [List.length_map]
 exact (Nat.length_toDigits_le_iff (by decide) (by decide)).mpr h
theorem eDC {w : Str} (h : PyData.strOk w = true) : Fn 1 (.str w) := ⟨aAT h, by simp [toP, PyData.depth], by simp [toP, PyData.eqv]⟩
theorem aTK {us : List (List Nat)} (h : ∀ u ∈ us, ∀ x ∈ u, x < 128) : Fn 2 (.lst (qY us)) := Fn.lst fun x hx => by
 obtain ⟨u, hu, rfl⟩ := List.mem_map.mp hx
 exact eDC (aFN (h u hu))
theorem aFD {c n : Nat} (hc : c < 128) (hn : n <= 8) : ∀ u ∈ jO c n, ∀ x ∈ u, x < 128 := by
 unfold jO
 split
 ·intro u hu; cases hu
 ·split
  ·intro u hu x hx; simp at hu; subst hu; simp at hx; omega
  ·intro u hu x hx; simp at hu; subst hu; simp at hx; omega
theorem aGR {c n : Nat} : (jO c n).isEmpty = decide (n = 0) := by
 unfold jO
 split
 ·rename_i h; simp [h]
 ·rename_i h; split <;> simp [h]
theorem aRD {c n : Nat} : ∀ u ∈ jO c n, u.length <= 3 := by
 unfold jO
 split
 ·intro u hu; cases hu
 ·split <;> (intro u hu; simp at hu; subst hu; simp)
theorem eDG {n : Nat} : ∀ c ∈ aEM n, 48 <= c /\ c <= 57 := fun c hc => by
 unfold aEM at hc
 obtain ⟨d, hd, rfl⟩ := List.mem_map.mp hc
 have := Nat.isDigit_of_mem_toDigits (by decide) (by decide) hd
 simp only [Char.isDigit, Bool.and_eq_true, decide_eq_true_eq] at this
 exact ⟨this.1, this.2⟩
theorem eHI {n i k : Nat} (hi : i <= 8) (hk : k <= 8) : ∀ u ∈ aDR n i k, ∀ x ∈ u, x < 128 := fun u hu x hx => by
 unfold aDR at hu
 rcases List.mem_append.mp hu with hu | hu
 ·split at hu
  ·simp at hu; subst hu; have := eDG x hx; omega
  ·cases hu
 ·rcases List.mem_append.mp hu with hu | hu
  ·exact aFD (by decide) hi u hu x hx
  ·exact aFD (by decide) hk u hu x hx
theorem aVQ {n i k : Nat} (hn : n < 10 ^ 12) : (aDR n i k).length <= 3 /\ ∀ u ∈ aDR n i k, u.length <= 12 := by
 have h1 := wZ 120 i
 have h2 := wZ 121 k
 refine ⟨?_, fun u hu => ?_⟩
 ·unfold aDR
  rw [List.length_append, List.length_append]
  split <;> simp <;> omega
 ·unfold aDR at hu
  rcases List.mem_append.mp hu with hu | hu
  ·split at hu
   ·simp at hu; subst hu; exact aMC hn
   ·cases hu
  ·rcases List.mem_append.mp hu with hu | hu
   ·have := aRD u hu; omega
   ·have := aRD u hu; omega
def vJ (ds : List D) (d : D) : Prop := ∃ n i k : Nat, ds = [.int n, .int i, .int k] /\ n < 10 ^ 12 /\ i <= 8 /\ k <= 8 /\ d = .str (S (aYF (aDR n i k)))
theorem aFE : ∀ ds d, vJ ds d -> ds.length = 3 := by rintro _ _ ⟨a, b, c, rfl, _⟩; rfl
theorem eJM {n : Nat} (h : n < 10 ^ 12) : ((n : Nat) : Int).natAbs.log2 < 1920 := by
 rw [Int.natAbs_natCast]
 by_cases h0 : n = 0
 ·subst h0; decide
 ·exact (Nat.log2_lt h0).mpr (Nat.lt_trans h (by decide))
theorem aRH : ∀ us : List (List Nat), us.length <= 3 -> (∀ u ∈ us, u.length <= 12) -> ((us.map S).map (·.length)).sum + (us.map S).length * (("*" : Str)).length <= 16777216 := fun us h1 h2 => by
 have e : (("*" : Str)).length = 1 := by decide +kernel
 rw [e, List.length_map]
 have : ∀ us : List (List Nat), (∀ u ∈ us, u.length <= 12) -> ((us.map S).map (·.length)).sum <= 12 * us.length := by
  intro us
  induction us with
  | nil => intro _; simp
  | cons u us ih =>
   intro h
   have a := ih fun v hv => h v (by simp [hv])
   have b := h u (by simp)
   rw [List.map_cons, List.map_cons, List.sum_cons, jL, List.length_cons]
   omega
 have := this us h2
 omega
theorem aIU (h : DefX P w K mg base k N_product_shown (yB zD) X) (m_str : mg "str" = none) (c1 : EV.Callee X "letters_shown" vK) :
  ∀ ds d, vJ ds d -> EvSs X (ds.map Sl.val ++ List.replicate (N_product_shown.length - ds.length) Sl.un) (yF zD) (.rt d) := by
 rintro ds r ⟨n, i, k, rfl, hn, hi, hk, rfl⟩
 have t := h.at'
 haveI := h.fnT
 have b1 : Blt X (yB zD) "str" (.type "str") := yR (by rw [h.mg']; exact m_str)
 have hlt : ∀ u ∈ jO 120 i ++ jO 121 k, ∀ x ∈ u, x < 128 := fun u hu => by
  rcases List.mem_append.mp hu with hu | hu
  ·exact aFD (by decide) hi u hu
  ·exact aFD (by decide) hk u hu
 have hw := @aVQ n i k hn
 have hll : (jO 120 i ++ jO 121 k).length <= 2 := by
  have h1 := wZ 120 i
  have h2 := wZ 121 k
  rw [List.length_append]; omega
 have hte : (jO 120 i ++ jO 121 k).isEmpty = (decide (i = 0) && decide (k = 0)) := by rw [<- aGR (c := 120), <- aGR (c := 121)]; cases jO 120 i <;> cases jO 121 k <;> rfl
 have sh0 : SeqAt.shaped (toP (.lst [])) = true := (Fn.lst (n := 1) (xs := []) fun x hx => nomatch hx).sh (by decide)
 show EvSs X [.val (.int n), .val (.int i), .val (.int k), .un] _ _
 refine yG (qR t 3 (yO t c1 (yC (yA t 1 rfl) (yC (yA t 2 rfl) yE)) ⟨i, k, rfl, hi, hk, rfl⟩)) ?_
 by_cases hc : n ≠ 1 \/ (i = 0 /\ k = 0)
 ·have ew : aDR n i k = [aEM n] ++ (jO 120 i ++ jO 121 k) := by unfold aDR; rw [if_pos hc]
  refine yG (jY (EvT.eq (aIN (aFV (yA t 0 rfl) yD) fun _ => wC t (EvE.p (yA t 3 rfl)) (EvE.p (d := .lst []) (EvN.toE (zX yE))) ((aTK hlt).sh (by decide)) sh0 (tok_nil.trans hte)) ?_) (yH (aCK t 3 (aTQ (EvN.toE (zX (yC (aRK t b1 (yA t 0 rfl) (eJM hn)) yE))) (yA t 3 rfl) (Nat.le_trans (Nat.add_le_add_left (by rw [wJ]; exact hll) _) (show 1 + 2 <= sizeLine by decide)))))) (vG 3 rfl (yH (zH (EvE.eq (aRL (ys := (aDR n i k).map S) ev_str (EvE.ql (EvE.eq (yA t 3 rfl) ?_)) (aRH _ hw.1 hw.2)) (by rw [aID])))))
  ·rcases hc with hc | ⟨hc, hd⟩
   ·rw [decide_eq_false (show ¬ ((n : Int) = 1) by omega)]; rfl
   ·rw [decide_eq_true hc, decide_eq_true hd]; simp
  ·show D.lst ([D.str (toString ((n : Nat) : Int))] ++ qY (jO 120 i ++ jO 121 k)) = _
   rw [aMD, ew, aDS [aEM n], eCW]; rfl
 ·have ew : aDR n i k = jO 120 i ++ jO 121 k := by unfold aDR; rw [if_neg hc]; rfl
  have h1 : n = 1 := Classical.byContradiction fun z => hc (.inl z)
  refine yG (jI (EvT.eq (aIN (aFV (yA t 0 rfl) yD) fun _ => wC t (EvE.p (yA t 3 rfl)) (EvE.p (d := .lst []) (EvN.toE (zX yE))) ((aTK hlt).sh (by decide)) sh0 (tok_nil.trans hte)) ?_) zW) (yH (zH (EvE.eq (aRL (ys := (aDR n i k).map S) ev_str (EvE.ql (EvE.eq (yA t 3 rfl) ?_)) (aRH _ hw.1 hw.2)) (by rw [aID]))))
  ·subst h1
   rw [show decide (((1 : Nat) : Int) = 1) = true from rfl]
   by_cases a : i = 0
   ·have : k ≠ 0 := fun z => hc (.inr ⟨a, z⟩)
    simp [a, this]
   ·simp [a]
  ·rw [aMD, ew]
abbrev Pr := Int × Nat × Nat
def aBI (p : Pr) : List Nat := aYF (aDR p.1.natAbs p.2.1 p.2.2)
def aFH (p : Pr) : List Nat := if p.1 < 0 then [45] else []
def aQA (p : Pr) : List Nat := if p.1 < 0 then [32, 45, 32] else [32, 43, 32]
def aDN : List Pr -> List Nat
 | [] => []
 | p :: ps => aFH p ++ aBI p ++ ps.flatMap fun q => aQA q ++ aBI q
def aZX (acc : List Nat) (p : Pr) : List Nat := if acc = [] then aFH p ++ aBI p else acc ++ (aQA p ++ aBI p)
theorem aQY (n : Nat) : aEM n ≠ [] := fun e => by
 unfold aEM at e
 exact Nat.toDigits_ne_nil (List.map_eq_nil_iff.mp e)
theorem eAY (p : Pr) : aBI p ≠ [] := by
 obtain ⟨n, i, k⟩ := p
 show aYF (aDR n.natAbs i k) ≠ []
 unfold aDR
 split
 ·show aEM _ ++ _ ≠ []
  exact fun e => aQY _ (List.append_eq_nil_iff.mp e).1
 ·rename_i h
  unfold jO
  by_cases h1 : i = 0
  ·by_cases h2 : k = 0
   ·exact absurd (.inr ⟨h1, h2⟩) h
   ·rw [if_pos h1, if_neg h2]; split <;> exact fun e => (by cases e)
  ·rw [if_neg h1]; split <;> exact fun e => (by cases e)
theorem shw_nil {ps : List Pr} : aDN ps = [] ↔ ps = [] := by
 cases ps with
 | nil => simp [aDN]
 | cons p ps =>
  simp only [aDN, List.append_eq_nil_iff]
  exact ⟨fun e => absurd e.1.2 (eAY p), fun e => (by cases e)⟩
theorem aSS (ps : List Pr) (p : Pr) : aDN (ps ++ [p]) = aZX (aDN ps) p := by
 cases ps with
 | nil => simp [aDN, aZX]
 | cons q ps =>
  unfold aZX
  rw [if_neg (fun e => by have := shw_nil.mp e; cases this)]
  simp [aDN, List.flatMap_append]
def aSC (p : Pr) : Prop := p.1.natAbs < 10 ^ 12 /\ p.2.1 <= 8 /\ p.2.2 <= 8
theorem eFY {us : List (List Nat)} (h : ∀ u ∈ us, ∀ x ∈ u, x < 128) : ∀ x ∈ aYF us, x < 128 := by
 cases us with
 | nil => intro x hx; cases hx
 | cons u us =>
  intro x hx
  rcases List.mem_append.mp hx with hx | hx
  ·exact h u (by simp) x hx
  ·obtain ⟨v, hv, hx⟩ := List.mem_flatMap.mp hx
   rcases List.mem_cons.mp hx with rfl | hx
   ·decide
   ·exact h v (by simp [hv]) x hx
theorem aEK {p : Pr} (h : aSC p) : (aBI p).length <= 20 := by
 obtain ⟨n, i, k⟩ := p
 obtain ⟨hn, hi, hk⟩ := h
 have a := aMC (n := n.natAbs) hn
 have lx : ∀ c n u, jO c n = [u] -> u.length <= 3 := fun c n u e => aRD u (by rw [e]; simp)
 show (aYF (aDR n.natAbs i k)).length <= 20
 unfold aDR
 have l1 := wZ 120 i
 have l2 := wZ 121 k
 have e1 := lx 120 i
 have e2 := lx 121 k
 revert e1 e2 l1 l2
 generalize jO 120 i = A
 generalize jO 121 k = B
 intro l1 l2 e1 e2
 rcases A with _ | ⟨u, _ | ⟨u', A⟩⟩ <;> rcases B with _ | ⟨v, _ | ⟨v', B⟩⟩ <;> simp at l1 l2 e1 e2 <;> split <;> simp [aYF] <;> omega
theorem aSZ {p : Pr} (h : aSC p) : ∀ x ∈ aBI p, x < 128 := eFY (eHI h.2.1 h.2.2)
theorem eFV (p : Pr) : ∀ x ∈ aFH p, x < 128 := by unfold aFH; split <;> intro x hx <;> simp at hx; omega
theorem eHS (p : Pr) : ∀ x ∈ aQA p, x < 128 := by unfold aQA; split <;> intro x hx <;> simp at hx <;> omega
theorem aHF (p : Pr) : (aQA p).length = 3 /\ (aFH p).length <= 1 := by unfold aQA aFH; split <;> simp
theorem aKG {ps : List Pr} (h : ∀ p ∈ ps, aSC p) : ∀ x ∈ aDN ps, x < 128 := by
 cases ps with
 | nil => intro x hx; cases hx
 | cons p ps =>
  intro x hx
  rcases List.mem_append.mp hx with hx | hx
  ·rcases List.mem_append.mp hx with hx | hx
   ·exact eFV p x hx
   ·exact aSZ (h p (by simp)) x hx
  ·obtain ⟨v, hv, hx⟩ := List.mem_flatMap.mp hx
   rcases List.mem_append.mp hx with hx | hx
   ·exact eHS v x hx
   ·exact aSZ (h v (by simp [hv])) x hx
theorem aQH {ps : List Pr} (h : ∀ p ∈ ps, aSC p) : (aDN ps).length <= 23 * ps.length := by
 have key : ∀ vs : List Pr, (∀ p ∈ vs, aSC p) -> (vs.flatMap fun q => aQA q ++ aBI q).length <= 23 * vs.length := by
  intro vs
  induction vs with
  | nil => intro _; simp
  | cons v vs ih =>
   intro hv
   have a := ih fun u hu => hv u (by simp [hu])
   have b := aEK (hv v (by simp))
   have c := (aHF v).1
   rw [List.flatMap_cons, List.length_append, List.length_append, List.length_cons, Nat.mul_add]
   omega
 cases ps with
 | nil => simp [aDN]
 | cons p ps =>
  have a := key ps fun u hu => h u (by simp [hu])
  have b := aEK (h p (by simp))
  have c := (aHF p).2
  show (aFH p ++ aBI p ++ _).length <= _
  rw [List.length_append, List.length_append, List.length_cons, Nat.mul_add]
  omega
def aJQ (r : List Int) (k : Nat) (t : Nat) : List Pr := (List.range t).flatMap fun s => if r.getD (r.length - 1 - s) 0 ≠ 0 then [(r.getD (r.length - 1 - s) 0, r.length - 1 - s, k)] else []
def prB (b : Bd) (t : Nat) : List Pr := (List.range t).flatMap fun s => aJQ (b.getD (b.length - 1 - s) []) (b.length - 1 - s) (b.getD (b.length - 1 - s) []).length
def prF (b : Bd) : List Pr := prB b b.length
theorem aCQ (r : List Int) (k t : Nat) : aJQ r k (t + 1) = aJQ r k t ++ (if r.getD (r.length - 1 - t) 0 ≠ 0 then [(r.getD (r.length - 1 - t) 0, r.length - 1 - t, k)] else []) := by
 unfold aJQ; rw [List.range_succ, List.flatMap_append]; simp
theorem aDA (b : Bd) (t : Nat) : prB b (t + 1) = prB b t ++ aJQ (b.getD (b.length - 1 - t) []) (b.length - 1 - t) (b.getD (b.length - 1 - t) []).length := by
 unfold prB; rw [List.range_succ, List.flatMap_append]; simp
theorem aSV {r : List Int} {k t : Nat} {p : Pr} (h : p ∈ aJQ r k t) : ∃ i, p = (r.getD i 0, i, k) /\ r.getD i 0 ≠ 0 /\ i <= r.length - 1 := by
 unfold aJQ at h
 obtain ⟨s, hs, h⟩ := List.mem_flatMap.mp h
 split at h
 ·rename_i h0
  simp at h
  exact ⟨_, h, h0, by omega⟩
 ·cases h
theorem aQS {b : Bd} {t : Nat} {p : Pr} (h : p ∈ prB b t) : p.1 = aBR b p.2.1 p.2.2 /\ p.1 ≠ 0 := by
 unfold prB at h
 obtain ⟨s, hs, h⟩ := List.mem_flatMap.mp h
 obtain ⟨i, rfl, h0, _⟩ := aSV h
 exact ⟨rfl, h0⟩
structure SB (b : Bd) : Prop where
 fit : Fit 9 b
 bb : ∀ i k, (aBR b i k).natAbs < 10 ^ 12
theorem SB.pr {b : Bd} (h : SB b) {p : Pr} (e : p.1 = aBR b p.2.1 p.2.2) (h0 : p.1 ≠ 0) : aSC p := by
 refine ⟨by rw [e]; exact h.bb _ _, ?_, ?_⟩
 ·by_cases q : p.2.1 <= 8
  ·exact q
  ·exact absurd (e.trans (h.fit.out (.inl (by omega)))) h0
 ·by_cases q : p.2.2 <= 8
  ·exact q
  ·exact absurd (e.trans (h.fit.out (.inr (by omega)))) h0
theorem SB.prB {b : Bd} (h : SB b) (t : Nat) : ∀ p ∈ prB b t, aSC p := fun p hp => h.pr (aQS hp).1 (aQS hp).2
theorem SB.row {b : Bd} (h : SB b) (k t : Nat) : ∀ p ∈ aJQ (b.getD k []) k t, aSC p := fun p hp => by
 obtain ⟨i, rfl, h0, _⟩ := aSV hp
 exact h.pr rfl h0
theorem aEH (r : List Int) (k : Nat) : ∀ t, (aJQ r k t).length <= t
 | 0 => by simp [aJQ]
 | t + 1 => by
  rw [aCQ, List.length_append]
  have := aEH r k t
  split <;> simp <;> omega
theorem SB.prB_len {b : Bd} (h : SB b) : ∀ t, (My.prB b t).length <= 9 * t
 | 0 => by simp [My.prB]
 | t + 1 => by
  rw [aDA, List.length_append]
  have := SB.prB_len h t
  have a := aEH (b.getD (b.length - 1 - t) []) (b.length - 1 - t) (b.getD (b.length - 1 - t) []).length
  have c := h.fit.2 (b.length - 1 - t)
  omega
def prD (p : Pr) : D := .tup [.int p.1, .int p.2.1, .int p.2.2]
theorem aGX {m : Int} {n j : Nat} {d : D} (h : (aGG m n)[j]? = some d) : j < n /\ d = .int (m - (j : Int)) := by
 unfold aGG at h
 rw [List.getElem?_map] at h
 by_cases hj : j < n
 ·rw [List.getElem?_range hj] at h; cases h; exact ⟨hj, rfl⟩
 ·rw [List.getElem?_eq_none (by simpa using hj)] at h; cases h
theorem aGW {m : Int} {n : Nat} : (aGG m n).length = n := by unfold aGG; simp
def aAG (ds : List D) (d : D) : Prop := ∃ b : Bd, ds = [yJ b] /\ SB b /\ d = .lst ((prF b).map prD)
theorem aHY : ∀ ds d, aAG ds d -> ds.length = 1 := by rintro _ _ ⟨a, rfl, _⟩; rfl
theorem aNN (h : DefX P w K mg base k N_products_of (yB zJ) X) (m_range : mg "range" = none) (m_len : mg "len" = none) :
  ∀ ds d, aAG ds d -> EvSs X (ds.map Sl.val ++ List.replicate (N_products_of.length - ds.length) Sl.un) (yF zJ) (.rt d) := by
 rintro ds r ⟨b, rfl, hb, rfl⟩
 have t := h.at'
 haveI := h.fnT
 have b1 : Blt X (yB zJ) "range" (.type "range") := yR (by rw [h.mg']; exact m_range)
 have b2 : Blt X (yB zJ) "len" (.builtin "len") := yR (by rw [h.mg']; exact m_len)
 have hl := hb.fit.1
 show EvSs X [.val (yJ b), .un, .un, .un, .un] _ _
 refine yG (aCK t 1 (zX yE)) (yG (aBH t (EvI.eq (d' := aGG ((b.length : Int) - 1) b.length) (aES t b1 (jM (jH t b2 (EvE.qt (yA t 0 rfl))) yD) (aCR yD) (aCR yD) (by rw [List.length_map]; omega)) (by rw [List.length_map]; congr 1; omega)) (FRun.uptoE (ρ' := [.val (yJ b), .own ((prF b).map prD), .un, .un, .un]) (fun j => [.val (yJ b), .own ((prB b j).map prD), .un, .un, .un]) (fun j d e => ?_) rfl (by rw [aGW]; rfl))) (vG 1 rfl (yH (zH (yA t 1 rfl)))))
 obtain ⟨hj, rfl⟩ := aGX e
 have e1 : (b.length : Int) - 1 - (j : Int) = ((b.length - 1 - j : Nat) : Int) := by omega
 rw [e1]
 have hk : b.length - 1 - j < b.length := by omega
 rw [aDA]
 have h81 := hb.prB_len j
 have hf := hb.fit.2 (b.length - 1 - j)
 generalize b.length - 1 - j = kk at hk hf
 have eg : b.getD kk [] = b[kk] := by rw [List.getD_eq_getElem?_getD, List.getElem?_eq_getElem hk]; rfl
 have hax : atI (b.map qO) (kk : Int) = some (qO (b.getD kk [])) := by rw [eg]; exact aKZ (by omega) (by omega) hk
 generalize hr : b.getD kk [] = r at hax hf
 refine ⟨_, jJ t 2, EvSs.weak (yG (qR t 3 (zE (EvE.qt (yA t 0 rfl)) (yA t 2 rfl) hax)) (yH (aBH t (EvI.eq (d' := aGG ((r.length : Int) - 1) r.length) (aES t b1 (jM (jH t b2 (EvE.qt (yA t 3 rfl))) yD) (aCR yD) (aCR yD) (by rw [List.length_map]; omega)) (by rw [List.length_map]; congr 1; omega)) (FRun.uptoE (ρ' := [.val (yJ b), .own ((prB b j ++ aJQ r kk r.length).map prD), .val (.int kk), .val (qO r), .un]) (fun s => [.val (yJ b), .own ((prB b j ++ aJQ r kk s).map prD), .val (.int kk), .val (qO r), .un]) (fun s d e => ?_) (by show _ = _; rw [show aJQ r kk 0 = [] from rfl, List.append_nil]; rfl) (by rw [aGW]))))) (.keep (.keep (.forget (.forget (.keep .nil)))))⟩
 obtain ⟨hs, rfl⟩ := aGX e
 have e2 : (r.length : Int) - 1 - (s : Int) = ((r.length - 1 - s : Nat) : Int) := by omega
 rw [e2, aCQ]
 have hi : r.length - 1 - s < r.length := by omega
 have h9 := aEH r kk s
 generalize r.length - 1 - s = ii at hi
 have hix : atI (r.map D.int) (ii : Int) = some (.int (r.getD ii 0)) := wU hi
 refine ⟨_, jJ t 4, EvSs.weak (ρ1 := [.val (yJ b), .own ((prB b j ++ (aJQ r kk s ++ (if r.getD ii 0 ≠ 0 then [(r.getD ii 0, ii, kk)] else []))).map prD), .val (.int kk), .val (qO r), .val (.int ii)]) (yH ?_) (.keep (.keep (.keep (.keep (.forget .nil)))))⟩
 by_cases h0 : r.getD ii 0 = 0
 ·rw [if_neg (by rw [h0]; decide), List.append_nil]
  exact jI (EvT.eq (aFV (zE (EvE.qt (yA t 3 rfl)) (yA t 4 rfl) hix) yD) (by rw [h0]; rfl)) zW
 ·rw [if_pos h0]
  refine jY (EvT.eq (aFV (zE (EvE.qt (yA t 3 rfl)) (yA t 4 rfl) hix) yD) (by rw [decide_eq_false h0]; rfl)) (yH (EvS.eq (wX t 1 rfl (yP (yC (zE (EvE.qt (yA t 3 rfl)) (yA t 4 rfl) hix) (yC (yA t 4 rfl) (yC (yA t 2 rfl) yE)))) ?_) ?_))
  ·rw [List.length_map, List.length_append]
   exact sz (by omega)
  ·show Out.nx _ = _
   simp [prD]
theorem z0 : ("" : Str) = S [] := by decide +kernel
theorem zL : ("-" : Str) = S [45] := by decide +kernel
theorem zSm : (" - " : Str) = S [32, 45, 32] := by decide +kernel
theorem zSp : (" + " : Str) = S [32, 43, 32] := by decide +kernel
theorem zN : ("0" : Str) = S [48] := by decide +kernel
def shC (b : Bd) : List Nat := if aDN (prF b) = [] then [48] else aDN (prF b)
theorem eAA (u : List Nat) : decide (S u = ("" : Str)) = decide (u = []) := decide_eq_decide.mpr ⟨fun e => aCX (e.trans z0), fun e => by rw [e, z0]⟩
def aCB (ds : List D) (d : D) : Prop := ∃ b : Bd, ds = [yJ b] /\ SB b /\ d = .str (S (shC b))
theorem aMF : ∀ ds d, aCB ds d -> ds.length = 1 := by rintro _ _ ⟨a, rfl, _⟩; rfl
theorem aFQ {b : Bd} (h : SB b) (j : Nat) : (aDN ((prF b).take j)).length <= 1863 := by
 have a := aQH (ps := (prF b).take j) fun p hp => h.prB _ p (List.mem_of_mem_take hp)
 have c := h.prB_len b.length
 have d := h.fit.1
 have e : ((prF b).take j).length <= (prF b).length := List.length_take_le' _ _
 have f : (prF b).length <= 81 := by show (prB b b.length).length <= 81; omega
 omega
theorem aRV (h : DefX P w K mg base k N_show_term (yB jB) X) (m_abs : mg "abs" = none) (c1 : EV.Callee X "products_of" aAG) (c2 : EV.Callee X "product_shown" vJ) :
  ∀ ds d, aCB ds d -> EvSs X (ds.map Sl.val ++ List.replicate (N_show_term.length - ds.length) Sl.un) (yF jB) (.rt d) := by
 rintro ds r ⟨b, rfl, hb, rfl⟩
 have t := h.at'
 haveI := h.fnT
 have b1 : Blt X (yB jB) "abs" (.builtin "abs") := yR (by rw [h.mg']; exact m_abs)
 show EvSs X [.val (yJ b), .un, .un, .un, .un] _ _
 have hok : ∀ j, ∀ c ∈ aDN ((prF b).take j), c < 128 := fun j => aKG fun p hp => hb.prB _ p (List.mem_of_mem_take hp)
 refine yG (qR t 1 ev_str) (yG (aBH t (aTS (yO t c1 (yC (yA t 0 rfl) yE) ⟨b, rfl, hb, rfl⟩)) (FRun.uptoE (ρ' := [.val (yJ b), .val (.str (S (aDN (prF b)))), .un, .un, .un]) (fun j => [.val (yJ b), .val (.str (S (aDN ((prF b).take j)))), .un, .un, .un]) (fun j d e => ?_) (by rw [List.take_zero, show aDN [] = [] from rfl, <- z0]; rfl) (by rw [List.length_map, List.take_length]))) (yH (zH ?_)))
 ·rw [List.getElem?_map] at e
  cases e2 : (prF b)[j]? with
  | none => rw [e2] at e; cases e
  | some p =>
   rw [e2] at e
   cases e
   have hp := hb.prB _ p (List.mem_of_getElem? e2)
   have et : aDN ((prF b).take (j + 1)) = aZX (aDN ((prF b).take j)) p := by
    rw [List.take_succ, e2]; exact aSS _ p
   have hl := aFQ hb j
   have hl2 := aFQ hb (j + 1)
   have hkk := hok j
   rw [et] at hl2
   rw [et]
   generalize aDN ((prF b).take j) = u at hl hkk hl2
   obtain ⟨n, x, y⟩ := p
   obtain ⟨hn, hx, hy⟩ := hp
   refine ⟨_, eKY t (aND (jJ t 2) (aND (jJ t 3) (aND (jJ t 4) eGP))), EvSs.weak (ρ1 := [.val (yJ b), .val (.str (S (aZX u (n, x, y)))), .val (.int n), .val (.int x), .val (.int y)]) (yG (ρ' := [.val (yJ b), .val (.str (S (if u = [] then aFH (n, x, y) else u ++ aQA (n, x, y)))), .val (.int n), .val (.int x), .val (.int y)]) ?_ (yH (EvS.eq (eCC t 1 rfl (yO t c2 (yC (aTO t b1 (yA t 2 rfl)) (yC (yA t 3 rfl) (yC (yA t 4 rfl) yE))) ⟨n.natAbs, x, y, rfl, hn, hx, hy, rfl⟩) ?_) ?_))) (.keep (.keep (.forget (.forget (.forget .nil)))))⟩
   ·by_cases hu : u = []
    ·rw [if_pos hu]
     refine jY (EvT.eq (vF t (yA t 1 rfl) ev_str (aFN hkk)) (by rw [eAA, decide_eq_true hu])) (yH (qR t 1 ?_))
     unfold aFH
     by_cases h0 : n < 0
     ·rw [if_pos h0]; exact aIL (EvT.eq (aAA (yA t 2 rfl) yD) (decide_eq_true h0)) (EvE.eq ev_str (by rw [zL]))
     ·rw [if_neg h0]; exact aFT (EvT.eq (aAA (yA t 2 rfl) yD) (decide_eq_false h0)) (EvE.eq ev_str (by rw [z0]))
    ·rw [if_neg hu]
     have hs : ∀ {e : Expr}, EvE X [.val (yJ b), .val (.str (S u)), .val (.int n), .val (.int x), .val (.int y)] e (.str (S (aQA (n, x, y)))) -> True := fun _ => trivial
     refine jI (EvT.eq (vF t (yA t 1 rfl) ev_str (aFN hkk)) (by rw [eAA, decide_eq_false hu])) (yH (EvS.eq (eCC t 1 (z := S u) (w := S (aQA (n, x, y))) rfl ?_ ?_) (by rw [aEA]; rfl)))
     ·unfold aQA
      by_cases h0 : n < 0
      ·rw [if_pos h0]; exact aIL (EvT.eq (aAA (yA t 2 rfl) yD) (decide_eq_true h0)) (EvE.eq ev_str (by rw [zSm]))
      ·rw [if_neg h0]; exact aFT (EvT.eq (aAA (yA t 2 rfl) yD) (decide_eq_false h0)) (EvE.eq ev_str (by rw [zSp]))
     ·rw [jL, jL, (aHF _).1]; exact sl1 (by omega)
   ·have a := aEK (p := (n, x, y)) ⟨hn, hx, hy⟩
    have c := aHF (n, x, y)
    have d : (S (aYF (aDR n.natAbs x y))).length <= 20 := by rw [jL]; exact a
    refine sl1 ?_
    rw [jL]
    split
    ·omega
    ·rw [List.length_append]; omega
   ·rw [aEA]
    unfold aZX
    split
    ·rfl
    ·rw [List.append_assoc]; rfl
 ·have hall := aKG (hb.prB b.length)
  have hall' : ∀ c ∈ aDN (prF b), c < 128 := hall
  unfold shC
  generalize aDN (prF b) = u at hall'
  by_cases hu : u = []
  ·rw [if_pos hu]
   exact aFT (aFU t (EvE.p (yA t 1 rfl)) (EvE.p ev_str) (vN (aFN hall')) (vN (by decide +kernel)) (by subst hu; decide +kernel)) (EvE.eq ev_str (by rw [zN]))
  ·rw [if_neg hu]
   exact aIL (aFU t (EvE.p (yA t 1 rfl)) (EvE.p ev_str) (vN (aFN hall')) (vN (by decide +kernel)) (by show (!(S u == ("" : Str))) = true; rw [aAO, eAA, decide_eq_false hu]; rfl)) (yA t 1 rfl)
theorem eNF : ∀ n : Nat, 2 <= n -> n <= 8 -> ((S [120] ++ ("^" : Str)) ++ (toString (n : Int) : Str)) = S [120, 94, 48 + n] := fun n h1 h2 => by
 have := eKH n h1 h2
 rwa [show ("x" : Str) = S [120] by decide +kernel] at this
theorem eNE : ∀ n : Nat, 2 <= n -> n <= 8 -> ((S [121] ++ ("^" : Str)) ++ (toString (n : Int) : Str)) = S [121, 94, 48 + n] := fun n h1 h2 => by
 have := eKG n h1 h2
 rwa [show ("y" : Str) = S [121] by decide +kernel] at this
def aAI (ds : List D) (d : D) : Prop := ∃ c n : Nat, ds = [.str (S [c]), .int n] /\ (c = 120 \/ c = 121) /\ n <= 8 /\ d = .lst (qY (jO c n))
theorem aIB : ∀ ds d, aAI ds d -> ds.length = 2 := by rintro _ _ ⟨a, b, rfl, _⟩; rfl
theorem eNU {n : Nat} (h : n <= 8) (c : Nat) (hc : c = 120 \/ c = 121) : ((S [c] ++ ("^" : Str)) ++ (toString (n : Int) : Str)).length <= 10 /\ (2 <= n -> ((S [c] ++ ("^" : Str)) ++ (toString (n : Int) : Str)) = S [c, 94, 48 + n]) := by
 have : ∀ n : Nat, n < 9 -> ((S [120] ++ ("^" : Str)) ++ (toString (n : Int) : Str)).length <= 10 /\ ((S [121] ++ ("^" : Str)) ++ (toString (n : Int) : Str)).length <= 10 := by decide +kernel
 have := this n (by omega)
 rcases hc with rfl | rfl
 ·exact ⟨this.1, fun h2 => eNF n h2 h⟩
 ·exact ⟨this.2, fun h2 => eNE n h2 h⟩
def aAX (ds : List D) (d : D) : Prop := ∃ b : Bd, ds = [yJ b] /\ SB b /\ d = .str (S (shC b))
theorem aJX : ∀ ds d, aAX ds d -> ds.length = 1 := by rintro _ _ ⟨a, rfl, _⟩; rfl
theorem neS (u : List Nat) : (!(toP (.str (S u))).eqv (toP (.str ""))) = !decide (u = []) := by
 show (!(S u == ("" : Str))) = _
 rw [aAO, eAA]
theorem eqS (u : List Nat) : ((toP (.str (S u))).eqv (toP (.str ""))) = decide (u = []) := by
 show (S u == ("" : Str)) = _
 rw [aAO, eAA]
theorem sh0 : SeqAt.shaped (toP (.str "")) = true := vN (by decide +kernel)
theorem eNP : SeqAt.shaped (toP (.lst [])) = true := (Fn.lst (n := 1) (xs := []) fun x hx => nomatch hx).sh (by decide)
def aVM (b : Bd) (j s : Nat) : List Nat := aDN (prB b j ++ aJQ (b.getD (b.length - 1 - j) []) (b.length - 1 - j) s)
theorem eEM {b : Bd} (h : SB b) {j s : Nat} (hj : j < b.length) (hs : s <= (b.getD (b.length - 1 - j) []).length) : (∀ c ∈ aVM b j s, c < 128) /\ (aVM b j s).length <= 1863 := by
 have hp : ∀ p ∈ prB b j ++ aJQ (b.getD (b.length - 1 - j) []) (b.length - 1 - j) s, aSC p := fun p hp => by
  rcases List.mem_append.mp hp with hp | hp
  ·exact h.prB _ p hp
  ·exact h.row _ _ p hp
 refine ⟨aKG hp, Nat.le_trans (aQH hp) ?_⟩
 have a := h.prB_len j
 have c := aEH (b.getD (b.length - 1 - j) []) (b.length - 1 - j) s
 have d := h.fit.1
 have e := h.fit.2 (b.length - 1 - j)
 rw [List.length_append]
 omega
theorem aXC {b : Bd} (j s : Nat) : aVM b j (s + 1) = if (b.getD (b.length - 1 - j) []).getD ((b.getD (b.length - 1 - j) []).length - 1 - s) 0 ≠ 0 then aZX (aVM b j s) ((b.getD (b.length - 1 - j) []).getD ((b.getD (b.length - 1 - j) []).length - 1 - s) 0, (b.getD (b.length - 1 - j) []).length - 1 - s, b.length - 1 - j) else aVM b j s := by
 unfold aVM
 rw [aCQ]
 split
 ·rw [<- List.append_assoc, aSS]
 ·rw [List.append_nil]
theorem aNQ (h : DefX P w K mg base k N__law_letter (yB zM) X) (m_int : mg "int" = none) (m_str : mg "str" = none) :
  ∀ ds d, aAI ds d -> EvSs X (ds.map Sl.val ++ List.replicate (N__law_letter.length - ds.length) Sl.un) (yF zM) (.rt d) := by
 rintro ds r ⟨c, n, rfl, hc, hn, rfl⟩
 have t := h.at'
 haveI := h.fnT
 have b1 : Blt X (yB zM) "int" (.type "int") := yR (by rw [h.mg']; exact m_int)
 have b2 : Blt X (yB zM) "str" (.type "str") := yR (by rw [h.mg']; exact m_str)
 show EvSs X [.val (.str (S [c])), .val (.int n)] _ _
 by_cases h0 : n = 0
 ·subst h0
  exact wR (jY (EvT.eq (jX (yA t 1 rfl) yD) rfl) (yH (zH (EvN.toE (zX yE)))))
 refine yG (jI (EvT.eq (jX (yA t 1 rfl) yD) (by rw [decide_eq_false_iff_not]; omega)) zW) (yH (zH (EvN.toE (EvN.eq (zX (yC (d := .str (if n = 1 then S [c] else S [c, 94, 48 + n])) (zE (EvN.toQ (zX (yC (yA t 0 rfl) (yC (aFJ (aFJ (yA t 0 rfl) ev_str (by rw [jL]; exact sl1 (show 1 + (("^" : Str)).length <= 2000 by decide +kernel))) (aRK t b2 (yA t 1 rfl) (eMP hn)) ?_) yE)))) (aIK t b1 (eKQ (yA t 1 rfl) yD)) ?_) yE)) ?_))))
 ·have := (eNU hn c hc).1
  exact sl1 (Nat.le_trans (Nat.le_of_eq (by show _ = (S [c] ++ ("^" : Str) ++ (toString (n : Int) : Str)).length; show (S [c] ++ ("^" : Str)).cps.size + (toString (n : Int) : Str).cps.size = ((S [c] ++ ("^" : Str)).cps ++ (toString (n : Int) : Str).cps).size; rw [Array.size_append])) (Nat.le_trans this (by decide)))
 ·by_cases h1 : n = 1
  ·rw [if_pos h1, decide_eq_false (show ¬ (1 : Int) < (n : Int) by omega)]; rfl
  ·rw [if_neg h1, decide_eq_true (show (1 : Int) < (n : Int) by omega), <- (eNU hn c hc).2 (by omega)]; rfl
 ·unfold jO
  rw [if_neg h0]
  split <;> rfl
theorem aPW (h : DefX P w K mg base k N__law_shown (yB yZ) X) (m_range : mg "range" = none) (m_int : mg "int" = none) (m_len : mg "len" = none) (m_abs : mg "abs" = none) (m_str : mg "str" = none) (c1 : EV.Callee X "_law_letter" aAI) :
  ∀ ds d, aAX ds d -> EvSs X (ds.map Sl.val ++ List.replicate (N__law_shown.length - ds.length) Sl.un) (yF yZ) (.rt d) := by
 rintro ds r ⟨b, rfl, hb, rfl⟩
 have t := h.at'
 haveI := h.fnT
 have b1 : Blt X (yB yZ) "range" (.type "range") := yR (by rw [h.mg']; exact m_range)
 have b2 : Blt X (yB yZ) "int" (.type "int") := yR (by rw [h.mg']; exact m_int)
 have b3 : Blt X (yB yZ) "len" (.builtin "len") := yR (by rw [h.mg']; exact m_len)
 have b4 : Blt X (yB yZ) "abs" (.builtin "abs") := yR (by rw [h.mg']; exact m_abs)
 have b5 : Blt X (yB yZ) "str" (.type "str") := yR (by rw [h.mg']; exact m_str)
 have hl := hb.fit.1
 show EvSs X [.val (yJ b), .un, .un, .un, .un, .un] _ _
 refine yG (qR t 1 ev_str) (yG (aBH t (EvI.eq (d' := aGG ((b.length : Int) - 1) b.length) (aES t b1 (jM (jH t b3 (EvE.qt (yA t 0 rfl))) yD) (aCR yD) (aCR yD) (by rw [List.length_map]; omega)) (by rw [List.length_map]; congr 1; omega)) (FRun.uptoE (ρ' := [.val (yJ b), .val (.str (S (aDN (prF b)))), .un, .un, .un, .un]) (fun j => [.val (yJ b), .val (.str (S (aDN (prB b j)))), .un, .un, .un, .un]) (fun j d e => ?_) (by show _ = _; rw [show aDN (prB b 0) = [] from rfl, <- z0]; rfl) (by rw [aGW]; rfl))) (yH (zH ?_)))
 ·obtain ⟨hj, rfl⟩ := aGX e
  have e1 : (b.length : Int) - 1 - (j : Int) = ((b.length - 1 - j : Nat) : Int) := by omega
  rw [e1]
  have hk : b.length - 1 - j < b.length := by omega
  have eR : aDN (prB b (j + 1)) = aVM b j (b.getD (b.length - 1 - j) []).length := by rw [aDA]; rfl
  have eR0 : aDN (prB b j) = aVM b j 0 := by unfold aVM; rw [show aJQ (b.getD (b.length - 1 - j) []) (b.length - 1 - j) 0 = [] from rfl, List.append_nil]
  rw [eR, eR0]
  have hf := hb.fit.2 (b.length - 1 - j)
  have hsn := fun s => aXC (b := b) j s
  have hro := fun s (hs : s <= (b.getD (b.length - 1 - j) []).length) => eEM hb hj hs
  have hpk := fun i => hb.bb i (b.length - 1 - j)
  generalize b.length - 1 - j = kk at hk hf hsn hro hpk
  have eg : b.getD kk [] = b[kk] := by rw [List.getD_eq_getElem?_getD, List.getElem?_eq_getElem hk]; rfl
  have hax : atI (b.map qO) (kk : Int) = some (qO (b.getD kk [])) := by rw [eg]; exact aKZ (by omega) (by omega) hk
  unfold aBR at hpk
  generalize hr : b.getD kk [] = r at hax hf hsn hro hpk
  have hk8 : kk <= 8 := by omega
  refine ⟨_, jJ t 2, EvSs.weak (yH (aBH t (EvI.eq (d' := aGG ((r.length : Int) - 1) r.length) (aES t b1 (jM (jH t b3 (EvE.qt (zE (EvE.qt (yA t 0 rfl)) (yA t 2 rfl) hax))) yD) (aCR yD) (aCR yD) (by rw [List.length_map]; omega)) (by rw [List.length_map]; congr 1; omega)) (FRun.uptoE (ρ' := [.val (yJ b), .val (.str (S (aVM b j r.length))), .val (.int kk), .un, .un, .un]) (fun s => [.val (yJ b), .val (.str (S (aVM b j s))), .val (.int kk), .un, .un, .un]) (fun s d e => ?_) rfl (by rw [aGW])))) (.keep (.keep (.forget (.keep (.keep (.keep .nil))))))⟩
  obtain ⟨hs, rfl⟩ := aGX e
  have e2 : (r.length : Int) - 1 - (s : Int) = ((r.length - 1 - s : Nat) : Int) := by omega
  rw [e2, hsn]
  have hi : r.length - 1 - s < r.length := by omega
  obtain ⟨hlt, hlen⟩ := hro s (by omega)
  have hi8 : r.length - 1 - s <= 8 := by omega
  generalize r.length - 1 - s = ii at hi hi8
  have hix : atI (r.map D.int) (ii : Int) = some (.int (r.getD ii 0)) := wU hi
  have hn := hpk ii
  generalize r.getD ii 0 = n at hix hn
  generalize aVM b j s = u at hlt hlen
  have ev_at : ∀ {ρ : Rho} {p1 p2 p3 q1 q2 : Pos}, ρ[0]? = some (.val (yJ b)) -> ρ[2]? = some (.val (.int kk)) -> ρ[3]? = some (.val (.int ii)) -> EvE X ρ (.Subscript (.Subscript (.Name "_law_board_here" p1) (.Name "_law_k" p2) q1) (.Name "_law_i" p3) q2) (.int n) := fun r0 r2 r3 => zE (EvE.qt (zE (EvE.qt (yA t 0 r0)) (yA t 2 r2) hax)) (yA t 3 r3) hix
  have hll : (jO 120 ii ++ jO 121 kk).length <= 2 := by
   have h1 := wZ 120 ii
   have h2 := wZ 121 kk
   rw [List.length_append]; omega
  have hw := @aVQ n.natAbs ii kk hn
  have hwt : ∀ u ∈ jO 120 ii ++ jO 121 kk, ∀ x ∈ u, x < 128 := fun u hu => by
   rcases List.mem_append.mp hu with hu | hu
   ·exact aFD (by decide) hi8 u hu
   ·exact aFD (by decide) hk8 u hu
  have hte : (jO 120 ii ++ jO 121 kk).isEmpty = (decide (ii = 0) && decide (kk = 0)) := by rw [<- aGR (c := 120), <- aGR (c := 121)]; cases jO 120 ii <;> cases jO 121 kk <;> rfl
  refine ⟨_, jJ t 3, EvSs.weak (ρ1 := [.val (yJ b), .val (.str (S (if n ≠ 0 then aZX u (n, ii, kk) else u))), .val (.int kk), .val (.int ii), .val (.int n.natAbs), .val (.lst (qY (aDR n.natAbs ii kk)))]) (yG (qR t 4 (aTO t b4 (ev_at rfl rfl rfl))) (yG (ρ' := [.val (yJ b), .val (.str (S u)), .val (.int kk), .val (.int ii), .val (.int n.natAbs), .own (qY (jO 120 ii ++ jO 121 kk))]) (EvS.eq (aCK t 5 (aTQ (yO t c1 (yC ev_str (yC (yA t 3 rfl) yE)) ⟨120, ii, by rw [show ("x" : Str) = S [120] by decide +kernel], .inl rfl, hi8, rfl⟩) (yO t c1 (yC ev_str (yC (yA t 2 rfl) yE)) ⟨121, kk, by rw [show ("y" : Str) = S [121] by decide +kernel], .inr rfl, hk8, rfl⟩) (by rw [<- List.length_append, <- aDS, wJ]; exact sl1 (by omega)))) (by rw [aDS]; rfl)) (vG 5 rfl ?_))) (.keep (.keep (.keep (.forget (.forget (.forget .nil))))))⟩
  have a20 := aEK (p := (n, ii, kk)) (⟨hn, hi8, hk8⟩ : aSC (n, ii, kk))
  have c3 := aHF (n, ii, kk)
  have ejn : ∀ {ρ : Rho} {a p1 p2 : Pos} {q : Nat} {pp : Pos}, ρ[5]? = some (.val (.lst (qY (aDR n.natAbs ii kk)))) -> (a.endLine == p2.line) = true -> EvE X ρ (.Call (.Attribute (.Constant (.str "*") q p1) "join" a) [.Name "_law_words" pp] [] p2) (.str (S (aBI (n, ii, kk)))) := fun r5 hli => EvE.eq (aRL (ys := (aDR n.natAbs ii kk).map S) ev_str (EvE.ql (EvE.eq (yA t 5 r5) (by rw [aMD]))) (aRH _ hw.1 hw.2) (hline := hli)) (by rw [aID]; rfl)
  have hd20 : (S (aBI (n, ii, kk))).length <= 20 := by rw [jL]; exact a20
  refine yG (ρ' := [.val (yJ b), .val (.str (S u)), .val (.int kk), .val (.int ii), .val (.int n.natAbs), .val (.lst (qY (aDR n.natAbs ii kk)))]) ?_ (yG (ρ' := [.val (yJ b), .val (.str (S (if n < 0 then aZX u (n, ii, kk) else u))), .val (.int kk), .val (.int ii), .val (.int n.natAbs), .val (.lst (qY (aDR n.natAbs ii kk)))]) ?_ (yH ?_))
  ·by_cases hc : n.natAbs ≠ 1 \/ (ii = 0 /\ kk = 0)
   ·have ew : aDR n.natAbs ii kk = [aEM n.natAbs] ++ (jO 120 ii ++ jO 121 kk) := by unfold aDR; rw [if_pos hc]
    refine jY (EvT.eq (aIN (aFV (yA t 4 rfl) yD) fun _ => wC t (EvE.p (yA t 5 rfl)) (EvE.p (d := .lst []) (EvN.toE (zX yE))) ((aTK hwt).sh (by decide)) eNP (tok_nil.trans hte)) ?_) (yG (ρ' := [.val (yJ b), .val (.str (S u)), .val (.int kk), .val (.int ii), .val (.int n.natAbs), .own (qY (aDR n.natAbs ii kk))]) (EvS.eq (aCK t 5 (aTQ (EvN.toE (zX (yC (aRK t b5 (yA t 4 rfl) (eJM hn)) yE))) (yA t 5 rfl) (Nat.le_trans (Nat.add_le_add_left (by rw [wJ]; exact hll) _) (show 1 + 2 <= sizeLine by decide)))) ?_) (vG 5 rfl zW))
    ·rcases hc with hc | ⟨hc, hd⟩
     ·rw [decide_eq_false (show ¬ ((n.natAbs : Int) = 1) by omega)]; rfl
     ·rw [decide_eq_true hc, decide_eq_true hd]; simp
    ·rw [ew, aDS [aEM n.natAbs], eCW]; rfl
   ·have ew : aDR n.natAbs ii kk = jO 120 ii ++ jO 121 kk := by unfold aDR; rw [if_neg hc]; rfl
    have h1 : n.natAbs = 1 := Classical.byContradiction fun z => hc (.inl z)
    rw [ew]
    refine jI (EvT.eq (aIN (aFV (yA t 4 rfl) yD) fun _ => wC t (EvE.p (yA t 5 rfl)) (EvE.p (d := .lst []) (EvN.toE (zX yE))) ((aTK hwt).sh (by decide)) eNP (tok_nil.trans hte)) ?_) zW
    rw [h1, show decide (((1 : Nat) : Int) = 1) = true from rfl]
    by_cases a : ii = 0
    ·have : kk ≠ 0 := fun z => hc (.inr ⟨a, z⟩)
     simp [a, this]
    ·simp [a]
  ·by_cases h0 : n < 0
   ·rw [if_pos h0]
    refine jY (EvT.eq (aAA (ev_at rfl rfl rfl) yD) (decide_eq_true h0)) (yH (EvS.eq (qR t 1 (aFJ (w := S (aBI (n, ii, kk))) (aFJ (z := S u) (w := if u = [] then S [45] else S [32, 45, 32]) (yA t 1 rfl) (zE (EvN.toQ (zX (yC ev_str (yC ev_str yE)))) (aIK t b2 (aYM t (EvE.p (yA t 1 rfl)) (EvE.p ev_str) (vN (aFN hlt)) sh0 (neS u))) ?_) ?_) (ejn rfl rfl) ?_)) ?_))
    ·by_cases hu : u = []
     ·rw [if_pos hu, decide_eq_true hu, <- zL]; rfl
     ·rw [if_neg hu, decide_eq_false hu, <- zSm]; rfl
    ·rw [jL]; split <;> (rw [jL]; exact sl1 (by simp; omega))
    ·refine sl1 ?_
     split
     ·rw [aEA, jL, List.length_append]; simp; omega
     ·rw [aEA, jL, List.length_append]; simp; omega
    ·unfold aZX aFH aQA
     rw [if_pos h0, if_pos h0]
     split
     ·rename_i hu; rw [hu, aEA, aEA]; rfl
     ·rw [aEA, aEA, List.append_assoc]; rfl
   ·rw [if_neg h0]
    exact jI (EvT.eq (aAA (ev_at rfl rfl rfl) yD) (decide_eq_false h0)) zW
  ·by_cases h0 : 0 < n
   ·rw [if_neg (show ¬ n < 0 by omega), if_pos (show n ≠ 0 by omega)]
    refine jY (EvT.eq (aDL (ev_at rfl rfl rfl) yD) (decide_eq_true h0)) (yH (EvS.eq (qR t 1 (aFJ (w := S (aBI (n, ii, kk))) (aFJ (z := S u) (w := if u = [] then S [] else S [32, 43, 32]) (yA t 1 rfl) (zE (EvN.toQ (zX (yC ev_str (yC ev_str yE)))) (aIK t b2 (aYM t (EvE.p (yA t 1 rfl)) (EvE.p ev_str) (vN (aFN hlt)) sh0 (neS u))) ?_) ?_) (ejn rfl rfl) ?_)) ?_))
    ·by_cases hu : u = []
     ·rw [if_pos hu, decide_eq_true hu, <- z0]; rfl
     ·rw [if_neg hu, decide_eq_false hu, <- zSp]; rfl
    ·rw [jL]; split <;> (rw [jL]; exact sl1 (by simp; omega))
    ·refine sl1 ?_
     split
     ·rw [aEA, jL, List.length_append]; simp; omega
     ·rw [aEA, jL, List.length_append]; simp; omega
    ·unfold aZX aFH aQA
     rw [if_neg (show ¬ n < 0 by omega), if_neg (show ¬ n < 0 by omega)]
     split
     ·rename_i hu; rw [hu, aEA, aEA]; rfl
     ·rw [aEA, aEA, List.append_assoc]; rfl
   ·refine EvS.eq (jI (EvT.eq (aDL (ev_at rfl rfl rfl) yD) (decide_eq_false h0)) zW) ?_
    by_cases h1 : n < 0
    ·rw [if_pos h1, if_pos (show n ≠ 0 by omega)]
    ·rw [if_neg h1, if_neg (show ¬ n ≠ 0 by omega)]
 ·have hall' : ∀ c ∈ aDN (prF b), c < 128 := aKG (hb.prB b.length)
  unfold shC
  generalize aDN (prF b) = u at hall'
  refine zE (EvN.toQ (zX (yC (yA t 1 rfl) (yC ev_str yE)))) (aIK t b2 (eDK t (EvE.p (yA t 1 rfl)) (EvE.p ev_str) (vN (aFN hall')) sh0 (eqS u))) ?_
  by_cases hu : u = []
  ·rw [if_pos hu, decide_eq_true hu, <- zN]; rfl
  ·rw [if_neg hu, decide_eq_false hu]; rfl
theorem aEZ (a : Nat) (v : Int) : ∀ n, aAR n (fun j => if j = a then v else 0) = if a < n then v else 0
 | 0 => by simp [aAR]
 | n + 1 => by
  rw [aAR, aEZ a v n]
  by_cases h : n = a
  ·subst h; simp
  ·rw [if_neg h]
   by_cases h2 : a < n
   ·rw [if_pos h2, if_pos (by omega)]; omega
   ·rw [if_neg h2, if_neg (by omega)]; omega
structure Mono (c : Int) (i k : Nat) (B : Bd) : Prop where
 ok : BoardOk B
 cf : ∀ a e, aBR B a e = if a = i /\ e = k then c else 0
theorem Mono.bs {c : Int} {i k : Nat} {B : Bd} (h : Mono c i k B) (φ : Nat -> Nat -> Int) : bs B φ = c * φ i k := by
 have hr : ∀ e, rs (B.getD e []) (fun a => φ a e) = if e = k then c * φ i k else 0 := fun e => by
  rw [aAS (B.getD e []) ((B.getD e []).length + i + 1) _ (by omega)]
  have : ∀ a, (B.getD e []).getD a 0 = if a = i /\ e = k then c else 0 := fun a => h.cf a e
  by_cases he : e = k
  ·rw [if_pos he, zF (g := fun a => if a = i then c * φ i k else 0) _ fun a _ => ?_, aEZ, if_pos (by omega)]
   rw [this a]
   by_cases ha : a = i
   ·rw [if_pos ⟨ha, he⟩, if_pos ha, ha, he]
   ·rw [if_neg (fun z => ha z.1), if_neg ha, Int.zero_mul]
  ·rw [if_neg he, zF (g := fun _ => 0) _ fun a _ => ?_, aBG]
   rw [this a, if_neg (fun z => he z.2), Int.zero_mul]
 rw [aKX B (B.length + k + 1) φ (by omega), zF (g := fun e => if e = k then c * φ i k else 0) _ fun e _ => hr e, aEZ, if_pos (by omega)]
theorem Mono.mul {c c' : Int} {i i' k k' : Nat} {A B : Bd} (h : Mono c i k A) (g : Mono c' i' k' B) : Mono (c * c') (i + i') (k + k') (aCJ A B) := ⟨aVY _ _, fun a e => by
 rw [<- eDT, eBS, h.bs, g.bs]
 unfold eBN
 by_cases q : a = i + i' /\ e = k + k'
 ·rw [if_pos q, if_pos ⟨q.1.symm, q.2.symm⟩, Int.mul_one]
 ·rw [if_neg q, if_neg (fun z => q ⟨z.1.symm, z.2.symm⟩), Int.mul_zero, Int.mul_zero]⟩
theorem Mono.neg {c : Int} {i k : Nat} {B : Bd} (h : Mono c i k B) : Mono (-c) i k (aHN [] (aXQ B)) := ⟨aLX _ _, fun a e => by
 rw [aBQ, aIQ, h.cf]
 show (0 : Int) + _ = _
 split <;> omega⟩
theorem Mono.fit {c : Int} {i k n : Nat} {B : Bd} (h : Mono c i k B) (hi : i < n) (hk : k < n) : Fit n B := aYJ h.ok fun a e q => by rw [h.cf, if_neg (by omega)]
theorem Mono.lim {c : Int} {i k : Nat} {B : Bd} (h : Mono c i k B) (hc : c.natAbs < 2 ^ 63) : ∀ r ∈ B, ∀ y ∈ r, -(2 ^ 63) < y /\ y < 2 ^ 63 := BB.lim (M := c.natAbs) (fun a e => by rw [h.cf]; split <;> simp) hc
theorem Mono.cast {c c' : Int} {i i' k k' : Nat} {B : Bd} (h : Mono c i k B) (e1 : c = c') (e2 : i = i') (e3 : k = k') : Mono c' i' k' B := by subst e1; subst e2; subst e3; exact h
theorem aLP {r : List Int} {a : Int} (h : a ≠ 0) : RowOk (r ++ [a]) := .inr ⟨r, a, rfl, h⟩
theorem eBC : Mono 1 0 0 [[1]] := ⟨⟨.inr ⟨[], [1], rfl, by decide⟩, fun r hr => by rw [List.mem_singleton.mp hr]; exact aLP (r := []) (by decide)⟩, fun a e => by
 unfold aBR
 rcases e with _ | e
 ·rcases a with _ | a <;> simp
 ·simp⟩
theorem eJL : Mono 1 1 0 [[0, 1]] := ⟨⟨.inr ⟨[], [0, 1], rfl, by decide⟩, fun r hr => by rw [List.mem_singleton.mp hr]; exact aLP (r := [0]) (by decide)⟩, fun a e => by
 unfold aBR
 rcases e with _ | e
 ·rcases a with _ | _ | a <;> simp
 ·simp⟩
theorem eJK : Mono 1 0 1 [[], [1]] := ⟨⟨.inr ⟨[[]], [1], rfl, by decide⟩, fun r hr => by
 rcases List.mem_cons.mp hr with rfl | hr
 ·exact .inl rfl
 ·rw [List.mem_singleton.mp hr]; exact aLP (r := []) (by decide)⟩, fun a e => by
 unfold aBR
 rcases e with _ | _ | e
 ·simp
 ·rcases a with _ | a <;> simp
 ·simp⟩
theorem aOQ (n : Nat) : eFP (aEM n) = n := by
 unfold eFP aEM
 rw [PySem.W.KIN.val_back]
theorem eFQ : ∀ n, (aEM n).head? = some 48 -> aEM n = [48] := fun n => by
 induction n using Nat.strongRecOn with
 | _ m ih =>
  intro h0
  by_cases h : m < 10
  ·have e : aEM m = [(Nat.digitChar m).toNat] := by unfold aEM; rw [Nat.toDigits_of_lt_base h]; rfl
   rw [e] at h0 ⊢
   rw [Option.some.inj h0]
  ·have hm : m % 10 < 10 := Nat.mod_lt m (by decide)
   have t : Nat.toDigits 10 (m / 10) ++ Nat.toDigits 10 (m % 10) = Nat.toDigits 10 (10 * (m / 10) + m % 10) := Nat.toDigits_append_toDigits (by decide) (by omega) hm
   rw [Nat.div_add_mod] at t
   have e : aEM m = aEM (m / 10) ++ aEM (m % 10) := by unfold aEM; rw [<- t, List.map_append]
   rw [e] at h0
   have h1 : (aEM (m / 10)).head? = some 48 := by
    cases q : aEM (m / 10) with
    | nil => exact absurd q (aQY _)
    | cons a b => rw [q] at h0; exact h0
   have h2 := ih (m / 10) (by omega) h1
   have h3 := aOQ (m / 10)
   rw [h2] at h3
   have : eFP [48] = 0 := rfl
   omega
theorem aXO {n : Nat} (h : n < 10 ^ 12) : eHE (aEM n) := ⟨aQY n, eDG, aMC h, eFQ n⟩
theorem eBD {n : Nat} (h : n < 10 ^ 12) : Mono n 0 0 (atB (aEM n)) := by
 have v := eJG (aXO h)
 unfold atB
 rw [if_neg v.1, if_neg v.2, aOQ]
 by_cases h0 : (n : Int) = 0
 ·rw [if_pos h0]
  exact ⟨⟨.inl rfl, fun r hr => nomatch hr⟩, fun a e => by rw [h0]; simp [aBR]⟩
 ·rw [if_neg h0]
  exact ⟨⟨.inr ⟨[], [(n : Int)], rfl, by simp⟩, fun r hr => by rw [List.mem_singleton.mp hr]; exact aLP (r := []) h0⟩, fun a e => by
   unfold aBR
   rcases e with _ | e
   ·rcases a with _ | a <;> simp
   ·simp⟩
theorem Mono.pow {i k : Nat} {B : Bd} (h : Mono 1 i k B) : ∀ d, Mono 1 (d * i) (d * k) (eCO B d)
 | 0 => by rw [Nat.zero_mul, Nat.zero_mul]; exact eBC
 | d + 1 => ((h.pow d).mul h).cast (by omega) (by rw [Nat.succ_mul]) (by rw [Nat.succ_mul])
theorem Mono.powOk {i k d : Nat} {B : Bd} (h : Mono 1 i k B) (hi : i <= 1) (hk : k <= 1) (hd : d <= 9) : eHD B d := ⟨fun j hj => ((h.pow j).fit (n := 10) (by have := Nat.mul_le_mul_left j hi; omega) (by have := Nat.mul_le_mul_left j hk; omega)).sm (by decide), (h.fit (n := 2) (by omega) (by omega)).sm (by decide), h.lim (by decide)⟩
def FM (f : Fac) (c : Int) (i k : Nat) : Prop := aEB f /\ f.mins = 0 /\ c.natAbs < 2 ^ 63 /\ ∃ B, Mono c i k B /\ ∀ st, Runs (stW f) st (st ++ [B])
inductive FMs : List Fac -> Int -> Nat -> Nat -> Prop where
 | nil : FMs [] 1 0 0
 | cons {f : Fac} {fs : List Fac} {c c' : Int} {i i' k k' : Nat} : FM f c i k -> FMs fs c' i' k' -> FMs (f :: fs) (c * c') (i + i') (k + k')
theorem FMs.cast {fs : List Fac} {c c' : Int} {i i' k k' : Nat} (h : FMs fs c i k) (e1 : c = c') (e2 : i = i') (e3 : k = k') : FMs fs c' i' k' := by subst e1; subst e2; subst e3; exact h
def aEO (c n : Nat) : List Fac := if n = 0 then [] else if n = 1 then [⟨0, [c], none⟩] else [⟨0, [c], some n⟩]
def aIG (n i k : Nat) : List Fac := (if n ≠ 1 \/ (i = 0 /\ k = 0) then [⟨0, aEM n, none⟩] else []) ++ (aEO 120 i ++ aEO 121 k)
def txF (f : Fac) : List Nat := f.atom ++ (match f.pow with | none => [] | some d => [94, 48 + d])
theorem aOS (c n : Nat) : (aEO c n).map txF = jO c n := by
 unfold aEO jO
 split
 ·rfl
 ·split <;> rfl
theorem aYK (n i k : Nat) : (aIG n i k).map txF = aDR n i k := by
 unfold aIG aDR
 rw [List.map_append, List.map_append, aOS, aOS]
 split
 ·simp [txF]
 ·rfl
theorem eKJ {n : Nat} (h : n < 10 ^ 12) : FM ⟨0, aEM n, none⟩ n 0 0 := ⟨⟨Nat.zero_le _, .inl (aXO h), fun d e => by cases e⟩, rfl, by rw [Int.natAbs_natCast]; exact Nat.lt_trans h (by decide), _, eBD h, fun st => .cons (.atom (.inl (aXO h))) .nil⟩
theorem eKK {c : Nat} {i k : Nat} {B : Bd} (hc : RunW [c]) (e : atB [c] = B) (m : Mono 1 i k B) : FM ⟨0, [c], none⟩ 1 i k := ⟨⟨Nat.zero_le _, hc, fun d e => by cases e⟩, rfl, by decide, B, m, fun st => by have := StepR.atom (st := st) hc; rw [e] at this; exact .cons this .nil⟩
theorem eKI {c d : Nat} {i k : Nat} {B : Bd} (hc : RunW [c]) (e : atB [c] = B) (m : Mono 1 i k B) (hi : i <= 1) (hk : k <= 1) (hd : d <= 8) : FM ⟨0, [c], some d⟩ 1 (d * i) (d * k) := ⟨⟨Nat.zero_le _, hc, fun d' e => by cases e; omega⟩, rfl, by decide, _, m.pow d, fun st => by
 have := StepR.atom (st := st) hc
 rw [e] at this
 exact .cons this (.cons (.pow (m.powOk hi hk (by omega)) (by omega)) .nil)⟩
theorem aYI {c n : Nat} {i k : Nat} {B : Bd} (hc : RunW [c]) (e : atB [c] = B) (m : Mono 1 i k B) (hi : i <= 1) (hk : k <= 1) (hn : n <= 8) : FMs (aEO c n) 1 (n * i) (n * k) := by
 unfold aEO
 split
 ·rename_i h; subst h; exact FMs.nil.cast rfl (by omega) (by omega)
 ·split
  ·rename_i h; subst h; exact (FMs.cons (eKK hc e m) .nil).cast rfl (by omega) (by omega)
  ·exact (FMs.cons (eKI hc e m hi hk hn) .nil).cast rfl (by omega) (by omega)
theorem FMs.app {fs gs : List Fac} {c c' : Int} {i i' k k' : Nat} (h : FMs fs c i k) (g : FMs gs c' i' k') : FMs (fs ++ gs) (c * c') (i + i') (k + k') := by
 induction h with
 | nil => exact g.cast (by omega) (by omega) (by omega)
 | cons f _ ih => exact (FMs.cons f ih).cast (Int.mul_assoc _ _ _).symm (by omega) (by omega)
theorem aGU {n i k : Nat} (hn : n < 10 ^ 12) (hi : i <= 8) (hk : k <= 8) : FMs (aIG n i k) n i k := by
 have hx := aYI (c := 120) (n := i) (.inr (.inl rfl)) (show atB [120] = [[0, 1]] from rfl) eJL (by decide) (by decide) hi
 have hy := aYI (c := 121) (n := k) (.inr (.inr rfl)) (show atB [121] = [[], [1]] from rfl) eJK (by decide) (by decide) hk
 have hxy := hx.app hy
 unfold aIG
 split
 ·exact ((FMs.cons (eKJ hn) .nil).app hxy).cast (by omega) (by omega) (by omega)
 ·rename_i h
  have h1 : n = 1 := Classical.byContradiction fun z => h (.inl z)
  subst h1
  exact hxy.cast rfl (by omega) (by omega)
theorem aMR (n i k : Nat) : ∃ f fs, aIG n i k = f :: fs := by
 unfold aIG
 split
 ·exact ⟨_, _, rfl⟩
 ·rename_i h
  unfold aEO
  by_cases h1 : i = 0
  ·by_cases h2 : k = 0
   ·exact absurd (.inr ⟨h1, h2⟩) h
   ·rw [if_pos h1, if_neg h2]; split <;> exact ⟨_, _, rfl⟩
  ·rw [if_neg h1]; split <;> exact ⟨_, _, rfl⟩
theorem eCE {fs : List Fac} {c : Int} {i k : Nat} (h : FMs fs c i k) : ∀ {A : Bd} {c0 : Int} {i0 k0 : Nat}, Mono c0 i0 k0 A -> i0 + i <= 8 -> k0 + k <= 8 -> ∃ B, Mono (c0 * c) (i0 + i) (k0 + k) B /\ ∀ st, Runs (aFP fs) (st ++ [A]) (st ++ [B]) := by
 induction h with
 | nil => intro A c0 i0 k0 m _ _; exact ⟨A, m.cast (by omega) (by omega) (by omega), fun st => .nil⟩
 | @cons f fs c c' i i' k k' hf _ ih =>
  intro A c0 i0 k0 m hi hk
  obtain ⟨ok, hm, hc, B, mB, rB⟩ := hf
  have mm := m.mul mB
  obtain ⟨B', mB', rB'⟩ := ih mm (by omega) (by omega)
  refine ⟨B', mB'.cast (Int.mul_assoc _ _ _) (by omega) (by omega), fun st => ?_⟩
  have s1 : sfF f = stW f := by unfold sfF; rw [hm]; exact List.append_nil _
  show Runs (sfF f ++ ([42] :: aFP fs)) _ _
  rw [s1]
  exact (rB (st ++ [A])).app (.cons (.mul ((m.fit (n := 9) (by omega) (by omega)).sm (by decide)) ((mB.fit (n := 9) (by omega) (by omega)).sm (by decide)) (mB.lim hc)) (rB' st))
def aKN (m : Nat) : List Fac -> Prd
 | [] => (⟨0, [48], none⟩, [])
 | f :: fs => ({ f with mins := m }, fs)
theorem aWN {fs : List Fac} {c : Int} {i k : Nat} (h : FMs fs c i k) (hne : fs ≠ []) (hi : i <= 8) (hk : k <= 8) (m : Nat) (hm : m <= 1) : ∃ B, Mono (if m = 1 then -c else c) i k B /\ aPY (aKN m fs) /\ (∀ f ∈ (aKN m fs).2, f.mins = 0) /\ ∀ st, Runs (stP (aKN m fs)) st (st ++ [B]) := by
 cases h with
 | nil => exact absurd rfl hne
 | @cons f fs c c' i i' k k' hf hfs =>
  obtain ⟨ok, hm0, hc, B, mB, rB⟩ := hf
  have all : ∀ g ∈ fs, aEB g /\ g.mins = 0 := by
   clear hi hk hne
   induction hfs with
   | nil => intro g hg; cases hg
   | cons hf _ ih =>
    intro g hg
    rcases List.mem_cons.mp hg with rfl | hg
    ·exact ⟨hf.1, hf.2.1⟩
    ·exact ih g hg
  have okm : aPY (aKN m (f :: fs)) := ⟨⟨by show m <= 20; omega, ok.2.1, ok.2.2⟩, fun g hg => (all g hg).1⟩
  by_cases h1 : m = 1
  ·subst h1
   obtain ⟨B', mB', rB'⟩ := eCE hfs mB.neg (by omega) (by omega)
   refine ⟨B', mB'.cast (by rw [if_pos rfl, Int.neg_mul]) rfl rfl, okm, fun g hg => (all g hg).2, fun st => ?_⟩
   show Runs ((stW f ++ [[109, 105, 110, 117, 115]]) ++ aFP fs) _ _
   exact ((rB st).app (.cons (.neg ((mB.fit (n := 9) (by omega) (by omega)).sm (by decide))) .nil)).app (rB' st)
  ·have h0 : m = 0 := by omega
   subst h0
   obtain ⟨B', mB', rB'⟩ := eCE hfs mB (by omega) (by omega)
   refine ⟨B', mB'.cast (by rw [if_neg h1]) rfl rfl, okm, fun g hg => (all g hg).2, fun st => ?_⟩
   show Runs ((stW f ++ []) ++ aFP fs) _ _
   rw [List.append_nil]
   exact (rB st).app (rB' st)
def aJE (p : Pr) : Bool := decide (¬ p.1 < 0)
def eAE : List Pr -> Trm
 | [] => ((⟨0, [48], none⟩, []), [])
 | p :: ps => (aKN (if p.1 < 0 then 1 else 0) (aIG p.1.natAbs p.2.1 p.2.2), ps.map fun q => (aJE q, aKN 0 (aIG q.1.natAbs q.2.1 q.2.2)))
def vS (ps : List Pr) (a e : Nat) : Int := (ps.map fun p => if a = p.2.1 /\ e = p.2.2 then p.1 else 0).sum
theorem eBZ (ps qs : List Pr) (a e : Nat) : vS (ps ++ qs) a e = vS ps a e + vS qs a e := by unfold vS; rw [List.map_append, List.sum_append]
theorem aWM : ∀ (ps : List Pr), (∀ p ∈ ps, aSC p) -> ∀ {A : Bd}, BoardOk A -> (∀ a e, 9 <= a \/ 9 <= e -> aBR A a e = 0) -> ∃ B, BoardOk B /\ (∀ a e, aBR B a e = aBR A a e + vS ps a e) /\ (∀ q ∈ ps.map fun q => (aJE q, aKN 0 (aIG q.1.natAbs q.2.1 q.2.2)), aPY q.2) /\ ∀ st, Runs (aJD (ps.map fun q => (aJE q, aKN 0 (aIG q.1.natAbs q.2.1 q.2.2)))) (st ++ [A]) (st ++ [B])
 | [], _, A, hA, _ => ⟨A, hA, fun a e => by simp [vS], (fun q hq => nomatch hq), fun st => .nil⟩
 | p :: ps, hp, A, hA, hz => by
  obtain ⟨h1, h2, h3⟩ := hp p (by simp)
  obtain ⟨f, fs, ef⟩ := aMR p.1.natAbs p.2.1 p.2.2
  obtain ⟨B, mB, okB, _, rB⟩ := aWN (aGU h1 h2 h3) (by rw [ef]; exact fun z => nomatch z) h2 h3 0 (by decide)
  rw [if_neg (by decide)] at mB
  have sA : SmB 1000 A := (aYJ hA hz).sm (by decide)
  have sB : SmB 1000 B := (mB.fit (n := 9) (by omega) (by omega)).sm (by decide)
  have zB : ∀ a e, 9 <= a \/ 9 <= e -> aBR B a e = 0 := fun a e q => by rw [mB.cf, if_neg (by omega)]
  by_cases h0 : p.1 < 0
  ·obtain ⟨C, hC, cC, oC, rC⟩ := aWM ps (fun q hq => hp q (by simp [hq])) (A := aHN A (aXQ B)) (aLX _ _) (fun a e q => by rw [aBQ, aIQ, hz a e q, zB a e q]; rfl)
   refine ⟨C, hC, fun a e => ?_, fun q hq => ?_, fun st => ?_⟩
   ·rw [cC, aBQ, aIQ, mB.cf]
    show _ = _ + ((if a = p.2.1 /\ e = p.2.2 then p.1 else 0) + vS ps a e)
    split <;> omega
   ·rcases List.mem_cons.mp hq with rfl | hq
    ·exact okB
    ·exact oC q hq
   ·show Runs (stP (aKN 0 (aIG p.1.natAbs p.2.1 p.2.2)) ++ (sgW (aJE p) :: _)) _ _
    rw [show sgW (aJE p) = [45] by unfold aJE sgW; simp [h0]]
    exact (rB (st ++ [A])).app (.cons (.sub sA sB) (rC st))
  ·obtain ⟨C, hC, cC, oC, rC⟩ := aWM ps (fun q hq => hp q (by simp [hq])) (A := aHN A B) (aLX _ _) (fun a e q => by rw [aBQ, hz a e q, zB a e q]; rfl)
   refine ⟨C, hC, fun a e => ?_, fun q hq => ?_, fun st => ?_⟩
   ·rw [cC, aBQ, mB.cf]
    show _ = _ + ((if a = p.2.1 /\ e = p.2.2 then p.1 else 0) + vS ps a e)
    split <;> omega
   ·rcases List.mem_cons.mp hq with rfl | hq
    ·exact okB
    ·exact oC q hq
   ·show Runs (stP (aKN 0 (aIG p.1.natAbs p.2.1 p.2.2)) ++ (sgW (aJE p) :: _)) _ _
    rw [show sgW (aJE p) = [43] by unfold aJE sgW; simp; omega]
    exact (rB (st ++ [A])).app (.cons (.add sA sB) (rC st))
theorem eEQ {p : Pr} {ps : List Pr} (hp : ∀ q ∈ p :: ps, aSC q) : ∃ B, BoardOk B /\ (∀ a e, aBR B a e = vS (p :: ps) a e) /\ eBW (eAE (p :: ps)) /\ Runs (stT (eAE (p :: ps))) [] [B] := by
 obtain ⟨h1, h2, h3⟩ := hp p (by simp)
 obtain ⟨f, fs, ef⟩ := aMR p.1.natAbs p.2.1 p.2.2
 obtain ⟨B, mB, okB, _, rB⟩ := aWN (aGU h1 h2 h3) (by rw [ef]; exact fun z => nomatch z) h2 h3 (if p.1 < 0 then 1 else 0) (by split <;> decide)
 obtain ⟨C, hC, cC, oC, rC⟩ := aWM ps (fun q hq => hp q (by simp [hq])) mB.ok (fun a e q => by rw [mB.cf, if_neg (by omega)])
 refine ⟨C, hC, fun a e => ?_, ⟨okB, oC⟩, (rB []).app (rC [])⟩
 rw [cC, mB.cf]
 show _ = (if a = p.2.1 /\ e = p.2.2 then p.1 else 0) + vS ps a e
 by_cases q : a = p.2.1 /\ e = p.2.2
 ·rw [if_pos q, if_pos q]
  by_cases h0 : p.1 < 0
  ·simp [h0]; omega
  ·simp [h0]; omega
 ·rw [if_neg q, if_neg q]
theorem eBX (r : List Int) (k a e : Nat) : ∀ t, t <= r.length -> vS (aJQ r k t) a e = if e = k /\ r.length - t <= a then r.getD a 0 else 0
 | 0, _ => by
  rw [show aJQ r k 0 = [] from rfl]
  show (0 : Int) = _
  split
  ·rename_i h
   rw [List.getD_eq_getElem?_getD, List.getElem?_eq_none (by omega)]; rfl
  ·rfl
 | t + 1, ht => by
  rw [aCQ, eBZ, eBX r k a e t (by omega)]
  have e1 : vS (if r.getD (r.length - 1 - t) 0 ≠ 0 then [(r.getD (r.length - 1 - t) 0, r.length - 1 - t, k)] else []) a e = if a = r.length - 1 - t /\ e = k then r.getD (r.length - 1 - t) 0 else 0 := by
   split
   ·simp [vS]
   ·rename_i h
    rw [Classical.not_not.mp h]
    simp [vS]
  rw [e1]
  by_cases h1 : e = k
  ·by_cases h2 : a = r.length - 1 - t
   ·rw [if_neg (by omega), if_pos ⟨h2, h1⟩, if_pos ⟨h1, by omega⟩, h2]; omega
   ·rw [if_neg (c := a = r.length - 1 - t /\ e = k) (fun z => h2 z.1)]
    by_cases h3 : r.length - t <= a
    ·rw [if_pos ⟨h1, h3⟩, if_pos ⟨h1, by omega⟩]; omega
    ·rw [if_neg (fun z => h3 z.2), if_neg (by omega)]; rfl
  ·rw [if_neg (fun z => h1 z.1), if_neg (fun z => h1 z.2), if_neg (fun z => h1 z.1)]; rfl
theorem eBY (b : Bd) (a e : Nat) : ∀ t, t <= b.length -> vS (prB b t) a e = if b.length - t <= e then aBR b a e else 0
 | 0, _ => by
  rw [show prB b 0 = [] from rfl]
  show (0 : Int) = _
  split
  ·rename_i h
   unfold aBR
   rw [List.getD_eq_getElem?_getD (l := b), List.getElem?_eq_none (by omega)]; simp
  ·rfl
 | t + 1, ht => by
  rw [aDA, eBZ, eBY b a e t (by omega), eBX _ _ _ _ _ (Nat.le_refl _)]
  by_cases h1 : e = b.length - 1 - t
  ·rw [if_neg (by omega), if_pos ⟨h1, by omega⟩, if_pos (by omega), h1]
   show (0 : Int) + aBR b a _ = _
   omega
  ·rw [if_neg (c := e = b.length - 1 - t /\ _) (fun z => h1 z.1)]
   by_cases h3 : b.length - t <= e
   ·rw [if_pos h3, if_pos (by omega)]; omega
   ·rw [if_neg h3, if_neg (by omega)]; rfl
theorem eHK (b : Bd) (a e : Nat) : vS (prF b) a e = aBR b a e := by
 unfold prF
 rw [eBY b a e b.length (Nat.le_refl _), if_pos (by omega)]
def Hn (cs : List Nat) : Prop := ∀ c, cs.head? = some c -> al c = false
theorem eOB : al 42 = false := by decide +kernel
theorem ePP : al 43 = false := by decide +kernel
theorem eOA : al 45 = false := by decide +kernel
theorem eNZ : al 94 = false := by decide +kernel
theorem Hn.of {c : Nat} {cs : List Nat} (h : al c = false) : Hn (c :: cs) := fun d e => by cases e; exact h
theorem eJO {f : Fac} {cs : List Nat} {ts : List (List Nat)} (hf : aEB f) (hc : Hn cs) (h : Lex cs ts) : Lex (txF f ++ cs) (tkW f ++ ts) := by
 obtain ⟨m, u, po⟩ := f
 obtain ⟨_, hu, hp⟩ := hf
 cases po with
 | none =>
  show Lex ((u ++ []) ++ cs) _
  rw [List.append_nil]
  exact .run hu hc h
 | some d =>
  have hd := hp d rfl
  show Lex ((u ++ [94, 48 + d]) ++ cs) (u :: ([94] :: ([48 + d] :: ts)))
  rw [List.append_assoc]
  refine .run hu (Hn.of eNZ) (.sign eNZ (by decide) (by decide) (by decide) (by decide) ?_)
  exact .run (u := [48 + d]) (.inl ⟨by simp, fun c hc => by simp at hc; omega, by simp, fun e => by simp at e; simp [e]⟩) hc h
theorem eDA {cs : List Nat} {ts : List (List Nat)} (hc : Hn cs) (h : Lex cs ts) : ∀ fs : List Fac, (∀ f ∈ fs, aEB f) -> (∀ f ∈ fs, f.mins = 0) -> Lex ((fs.map txF).flatMap (fun v => 42 :: v) ++ cs) (aCN fs ++ ts) /\ Hn ((fs.map txF).flatMap (fun v => 42 :: v) ++ cs)
 | [], _, _ => ⟨h, hc⟩
 | f :: fs, h1, h2 => by
  obtain ⟨a, b⟩ := eDA hc h fs (fun g hg => h1 g (by simp [hg])) fun g hg => h2 g (by simp [hg])
  refine ⟨?_, Hn.of eOB⟩
  have e : aCN (f :: fs) ++ ts = [42] :: (tkW f ++ (aCN fs ++ ts)) := by
   show [42] :: (tkF f ++ aCN fs) ++ ts = _
   unfold tkF
   rw [h2 f (by simp)]
   simp
  rw [e]
  show Lex (42 :: (txF f ++ (fs.map txF).flatMap (fun v => 42 :: v)) ++ cs) _
  rw [List.cons_append, List.append_assoc]
  exact .sign eOB (by decide) (by decide) (by decide) (by decide) (eJO (h1 f (by simp)) b a)
theorem aXV {cs : List Nat} {ts : List (List Nat)} (hc : Hn cs) (h : Lex cs ts) {f : Fac} {fs : List Fac} (h1 : aEB f) (h2 : ∀ g ∈ fs, aEB g) (h3 : ∀ g ∈ fs, g.mins = 0) : Lex (aYF ((f :: fs).map txF) ++ cs) (tkW f ++ (aCN fs ++ ts)) := by
 obtain ⟨a, b⟩ := eDA hc h fs h2 h3
 show Lex ((txF f ++ (fs.map txF).flatMap fun v => 42 :: v) ++ cs) _
 rw [List.append_assoc]
 exact eJO h1 b a
theorem eDF {fs : List Fac} {c : Int} {i k : Nat} (h : FMs fs c i k) : ∀ g ∈ fs, aEB g /\ g.mins = 0 := by
 induction h with
 | nil => intro g hg; cases hg
 | cons hf _ ih =>
  intro g hg
  rcases List.mem_cons.mp hg with rfl | hg
  ·exact ⟨hf.1, hf.2.1⟩
  ·exact ih g hg
theorem eCZ : ∀ ps : List Pr, (∀ p ∈ ps, aSC p) -> Lex (ps.flatMap fun q => aQA q ++ aBI q) (aEC (ps.map fun q => (aJE q, aKN 0 (aIG q.1.natAbs q.2.1 q.2.2)))) /\ Hn (ps.flatMap fun q => aQA q ++ aBI q)
 | [], _ => ⟨.nil, fun c e => by cases e⟩
 | p :: ps, hp => by
  obtain ⟨a, b⟩ := eCZ ps fun q hq => hp q (by simp [hq])
  obtain ⟨h1, h2, h3⟩ := hp p (by simp)
  have ok := eDF (aGU h1 h2 h3)
  obtain ⟨f, fs, ef⟩ := aMR p.1.natAbs p.2.1 p.2.2
  have eg : aBI p = aYF ((f :: fs).map txF) := by unfold aBI; rw [<- aYK, ef]
  rw [ef] at ok
  have l := aXV (f := f) (fs := fs) b a (ok f (by simp)).1 (fun g hg => (ok g (by simp [hg])).1) (fun g hg => (ok g (by simp [hg])).2)
  have hm := (ok f (by simp)).2
  have et : aEC ((p :: ps).map fun q => (aJE q, aKN 0 (aIG q.1.natAbs q.2.1 q.2.2))) = sgW (aJE p) :: (tkW f ++ (aCN fs ++ aEC (ps.map fun q => (aJE q, aKN 0 (aIG q.1.natAbs q.2.1 q.2.2))))) := by
   show sgW (aJE p) :: (tkP (aKN 0 (aIG p.1.natAbs p.2.1 p.2.2)) ++ _) = _
   rw [ef]
   show sgW (aJE p) :: ((([] ++ tkW f) ++ aCN fs) ++ _) = _
   simp
  rw [et, List.flatMap_cons, eg, List.append_assoc]
  unfold aQA
  by_cases h0 : p.1 < 0
  ·rw [if_pos h0, show sgW (aJE p) = [45] by unfold aJE sgW; simp [h0]]
   exact ⟨.sp (.sign eOA (by decide) (by decide) (by decide) (by decide) (.sp l)), Hn.of eHB⟩
  ·rw [if_neg h0, show sgW (aJE p) = [43] by unfold aJE sgW; simp; omega]
   exact ⟨.sp (.sign ePP (by decide) (by decide) (by decide) (by decide) (.sp l)), Hn.of eHB⟩
theorem eFS {p : Pr} {ps : List Pr} (hp : ∀ q ∈ p :: ps, aSC q) : Lex (aDN (p :: ps)) (tkT (eAE (p :: ps))) := by
 obtain ⟨a, b⟩ := eCZ ps fun q hq => hp q (by simp [hq])
 obtain ⟨h1, h2, h3⟩ := hp p (by simp)
 have ok := eDF (aGU h1 h2 h3)
 obtain ⟨f, fs, ef⟩ := aMR p.1.natAbs p.2.1 p.2.2
 have eg : aBI p = aYF ((f :: fs).map txF) := by unfold aBI; rw [<- aYK, ef]
 rw [ef] at ok
 have l := aXV (f := f) (fs := fs) b a (ok f (by simp)).1 (fun g hg => (ok g (by simp [hg])).1) (fun g hg => (ok g (by simp [hg])).2)
 show Lex (aFH p ++ aBI p ++ _) (tkP (aKN (if p.1 < 0 then 1 else 0) (aIG p.1.natAbs p.2.1 p.2.2)) ++ _)
 rw [ef, eg, List.append_assoc]
 unfold aFH
 by_cases h0 : p.1 < 0
 ·rw [if_pos h0, if_pos h0]
  show Lex (45 :: _) ((([[45]] ++ tkW f) ++ aCN fs) ++ _)
  rw [List.append_assoc, List.append_assoc]
  exact .sign eOA (by decide) (by decide) (by decide) (by decide) l
 ·rw [if_neg h0, if_neg h0]
  show Lex _ ((([] ++ tkW f) ++ aCN fs) ++ _)
  rw [List.append_assoc]
  exact l
def okT (u : List Nat) : Prop := (∀ x ∈ u, x < 128) /\ u ≠ [40] /\ u ≠ [41] /\ u ≠ [91] /\ u ≠ [93]
theorem eFN {u : List Nat} (h : RunW u) : okT u := by
 have key : ∀ c, c < 48 \/ (57 < c /\ c ≠ 120 /\ c ≠ 121) -> u ≠ [c] := fun c hc e => by
  subst e
  rcases h with h | h | h
  ·have := h.2.1 c (List.mem_singleton.mpr rfl); omega
  ·cases h; omega
  ·cases h; omega
 exact ⟨h.lt, key 40 (by decide), key 41 (by decide), key 91 (by decide), key 93 (by decide)⟩
theorem eMN {f : Fac} (h : aEB f) : ∀ u ∈ tkW f, okT u := fun u hu => by
 rcases List.mem_cons.mp hu with rfl | hu
 ·exact eFN h.2.1
 ·obtain ⟨m, a, po⟩ := f
  cases po with
  | none => cases hu
  | some d =>
   have := h.2.2 d rfl
   simp [eFE] at hu
   rcases hu with rfl | rfl
   ·exact ⟨by decide, by decide, by decide, by decide, by decide⟩
   ·exact ⟨fun x hx => by simp at hx; omega, by simp; omega, by simp; omega, by simp; omega, by simp; omega⟩
theorem eJE {f : Fac} (h : aEB f) : ∀ u ∈ tkF f, okT u := fun u hu => by
 rcases List.mem_append.mp hu with hu | hu
 ·rw [(List.mem_replicate.mp hu).2]; exact ⟨by decide, by decide, by decide, by decide, by decide⟩
 ·exact eMN h u hu
theorem eCV : ∀ {fs : List Fac}, (∀ f ∈ fs, aEB f) -> ∀ u ∈ aCN fs, okT u
 | [], _, u, hu => nomatch hu
 | f :: fs, h, u, hu => by
  rcases List.mem_cons.mp hu with rfl | hu
  ·exact ⟨by decide, by decide, by decide, by decide, by decide⟩
  ·rcases List.mem_append.mp hu with hu | hu
   ·exact eJE (h f (by simp)) u hu
   ·exact eCV (fun g hg => h g (by simp [hg])) u hu
theorem eJD {p : Prd} (h : aPY p) : ∀ u ∈ tkP p, okT u := fun u hu => by
 rcases List.mem_append.mp hu with hu | hu
 ·exact eJE h.1 u hu
 ·exact eCV h.2 u hu
theorem eCU : ∀ {qs : List (Bool × Prd)}, (∀ q ∈ qs, aPY q.2) -> ∀ u ∈ aEC qs, okT u
 | [], _, u, hu => nomatch hu
 | q :: qs, h, u, hu => by
  rcases List.mem_cons.mp hu with rfl | hu
  ·unfold sgW; split <;> exact ⟨by decide, by decide, by decide, by decide, by decide⟩
  ·rcases List.mem_append.mp hu with hu | hu
   ·exact eJD (h q (by simp)) u hu
   ·exact eCU (fun g hg => h g (by simp [hg])) u hu
theorem eMO {t : Trm} (h : eBW t) : ∀ u ∈ tkT t, okT u := fun u hu => by
 rcases List.mem_append.mp hu with hu | hu
 ·exact eJD h.1 u hu
 ·exact eCU h.2 u hu
theorem aIP {o c : List Nat} : ∀ {ts : List (List Nat)}, (∀ u ∈ ts, u ≠ o /\ u ≠ c) -> aQC o c ts = 0
 | [], _ => rfl
 | u :: ts, h => by
  have := h u (by simp)
  rw [aQC, aIP fun v hv => h v (by simp [hv]), decide_eq_false (fun z => this.1 (aCX z)), decide_eq_false (fun z => this.2 (aCX z))]
  rfl
theorem aZC {ts : List (List Nat)} (h : ∀ u ∈ ts, okT u) : eAD ts := fun i _ => by
 rw [aIP fun u hu => ⟨(h u (List.mem_of_mem_take hu)).2.1, (h u (List.mem_of_mem_take hu)).2.2.1⟩, aIP fun u hu => ⟨(h u (List.mem_of_mem_take hu)).2.2.2.1, (h u (List.mem_of_mem_take hu)).2.2.2.2⟩]
 decide
theorem aWD (f : Fac) : (sfF f).length <= 3 := by
 obtain ⟨m, a, po⟩ := f
 unfold sfF stW mnS
 cases po <;> (dsimp [eIJ]; split <;> simp)
theorem aSQ : ∀ fs : List Fac, (aFP fs).length <= 4 * fs.length
 | [] => Nat.le_refl _
 | f :: fs => by
  have := aSQ fs
  have := aWD f
  show (sfF f ++ ([42] :: aFP fs)).length <= _
  rw [List.length_append, List.length_cons, List.length_cons]
  omega
theorem aTM (n i k : Nat) : (aIG n i k).length <= 3 := by
 have h : ∀ c n, (aEO c n).length <= 1 := fun c n => by unfold aEO; split <;> (try split) <;> simp
 have := h 120 i
 have := h 121 k
 unfold aIG
 rw [List.length_append, List.length_append]
 split <;> simp <;> omega
theorem aWC (m : Nat) {fs : List Fac} (h : fs.length <= 3) : (stP (aKN m fs)).length <= 11 := by
 unfold stP
 cases fs with
 | nil => exact Nat.le_of_ble_eq_true rfl
 | cons f fs =>
  have := aSQ fs
  have := aWD { f with mins := m }
  rw [List.length_append]
  simp at h
  show (sfF { f with mins := m }).length + (aFP fs).length <= 11
  omega
theorem aSP : ∀ ps : List Pr, (aJD (ps.map fun q => (aJE q, aKN 0 (aIG q.1.natAbs q.2.1 q.2.2)))).length <= 12 * ps.length
 | [] => Nat.le_refl _
 | p :: ps => by
  have := aSP ps
  have := aWC 0 (aTM p.1.natAbs p.2.1 p.2.2)
  show (stP (aKN 0 (aIG p.1.natAbs p.2.1 p.2.2)) ++ (sgW (aJE p) :: _)).length <= _
  rw [List.length_append, List.length_cons, List.length_cons]
  omega
theorem eEJ (p : Pr) (ps : List Pr) : (stT (eAE (p :: ps))).length <= 12 * (ps.length + 1) := by
 have := aSP ps
 have := aWC (if p.1 < 0 then 1 else 0) (aTM p.1.natAbs p.2.1 p.2.2)
 show (stP (aKN _ (aIG p.1.natAbs p.2.1 p.2.2)) ++ aJD (ps.map fun q => (aJE q, aKN 0 (aIG q.1.natAbs q.2.1 q.2.2)))).length <= _
 rw [List.length_append]
 omega
theorem aUM {b : Bd} (h : SB b) (hb : BoardOk b) (hn : (prF b).length <= 43) : aAP [.str (S (shC b))] (yJ b) := by
 have hp := h.prB b.length
 have hp' : ∀ p ∈ prF b, aSC p := hp
 have hv := eHK b
 have hlen := aQH hp'
 have hlt := aKG hp'
 unfold shC
 cases e : prF b with
 | nil =>
  rw [e] at hv
  have hz : b = [] := aPN hb ⟨.inl rfl, fun r hr => nomatch hr⟩ fun i k => by rw [<- hv]; rfl
  rw [if_pos (by rfl)]
  refine ⟨[48], eAE [], [], rfl, ?_, by decide, by decide, by decide, ?_, ?_, by decide, ?_, by rw [hz]⟩
  ·exact .run (u := [48]) (cs := []) (.inl ⟨by simp, fun c hc => by simp at hc; omega, by simp, fun _ => rfl⟩) (fun c e => by cases e) .nil
  ·exact aZC fun u hu => by simp [eAE, tkT, tkP, tkF, tkW, aCN, aEC, eFE] at hu; subst hu; exact ⟨by decide, by decide, by decide, by decide, by decide⟩
  ·exact ⟨⟨⟨Nat.zero_le _, .inl ⟨by simp [eAE], fun c hc => by simp [eAE] at hc; omega, by simp [eAE], fun _ => rfl⟩, fun d e => by cases e⟩, fun f hf => nomatch hf⟩, fun q hq => nomatch hq⟩
  ·exact .cons (StepR.atom (u := [48]) (st := []) (.inl ⟨by simp, fun c hc => by simp at hc; omega, by simp, fun _ => rfl⟩)) .nil
 | cons p ps =>
  rw [e] at hv hlen hlt hp' hn
  rw [if_neg (fun z => by have := shw_nil.mp z; cases this)]
  obtain ⟨B, okB, cB, tB, rB⟩ := eEQ hp'
  have eB : b = B := aPN hb okB fun i k => by rw [cB, hv]
  have l := eFS hp'
  have ot := eMO tB
  refine ⟨aDN (p :: ps), eAE (p :: ps), B, rfl, l, hlt, by simp at hlen hn; omega, fun u hu => (ot u hu).1, aZC ot, tB, ?_, rB, by rw [eB]⟩
  have := eEJ p ps
  simp at hn
  omega
theorem eCX {α : Type} [DecidableEq α] : ∀ {l m : List α}, l.Nodup -> (∀ x ∈ l, x ∈ m) -> l.length <= m.length
 | [], m, _, _ => Nat.zero_le _
 | x :: l, m, nd, h => by
  have hx := h x (by simp)
  have nd' := List.nodup_cons.mp nd
  have := eCX (m := m.erase x) nd'.2 fun y hy => (List.mem_erase_of_ne (fun (e : y = x) => nd'.1 (e ▸ hy))).mpr (h y (by simp [hy]))
  rw [List.length_erase_of_mem hx] at this
  have : 0 < m.length := List.length_pos_of_mem hx
  simp
  omega
theorem aWQ (r : List Int) (k : Nat) : ∀ t, t <= r.length -> ((aJQ r k t).map fun p => nk p.2.1 p.2.2).Nodup /\ ∀ p ∈ aJQ r k t, p.2.2 = k /\ r.length - t <= p.2.1
 | 0, _ => ⟨List.nodup_nil, fun p hp => nomatch hp⟩
 | t + 1, ht => by
  obtain ⟨a, b⟩ := aWQ r k t (by omega)
  rw [aCQ]
  split
  ·refine ⟨?_, fun p hp => ?_⟩
   ·rw [List.map_append, List.nodup_append]
    refine ⟨a, by simp, fun x hx y hy e => ?_⟩
    obtain ⟨p, hp, rfl⟩ := List.mem_map.mp hx
    simp at hy
    have := aXP (e.trans hy)
    have := b p hp
    omega
   ·rcases List.mem_append.mp hp with hp | hp
    ·have := b p hp; omega
    ·simp at hp; subst hp; exact ⟨rfl, by show r.length - (t + 1) <= r.length - 1 - t; omega⟩
  ·rw [List.append_nil]
   exact ⟨a, fun p hp => by have := b p hp; omega⟩
theorem eCN (b : Bd) : ∀ t, t <= b.length -> ((prB b t).map fun p => nk p.2.1 p.2.2).Nodup /\ ∀ p ∈ prB b t, b.length - t <= p.2.2
 | 0, _ => ⟨List.nodup_nil, fun p hp => nomatch hp⟩
 | t + 1, ht => by
  obtain ⟨a, c⟩ := eCN b t (by omega)
  obtain ⟨d, e⟩ := aWQ (b.getD (b.length - 1 - t) []) (b.length - 1 - t) _ (Nat.le_refl _)
  rw [aDA]
  refine ⟨?_, fun p hp => ?_⟩
  ·rw [List.map_append, List.nodup_append]
   refine ⟨a, d, fun x hx y hy q => ?_⟩
   obtain ⟨p, hp, rfl⟩ := List.mem_map.mp hx
   obtain ⟨p', hp', rfl⟩ := List.mem_map.mp hy
   have := aXP q
   have := c p hp
   have := e p' hp'
   omega
  ·rcases List.mem_append.mp hp with hp | hp
   ·have := c p hp; omega
   ·have := e p hp; omega
theorem eII {kvs : KVs} : (prF (vU kvs)).length <= kvs.length := by
 have := eCX (m := kvs.map (·.1)) (eCN (vU kvs) _ (Nat.le_refl _)).1 fun x hx => by
  obtain ⟨p, hp, rfl⟩ := List.mem_map.mp hx
  obtain ⟨h1, h2⟩ := aQS hp
  rw [aCW] at h1
  split at h1
  ·cases e : aCO kvs (nk p.2.1 p.2.2) with
   | none => rw [e] at h1; exact absurd h1 h2
   | some v => exact List.mem_map.mpr ⟨_, aGZ e, rfl⟩
  ·exact absurd h1 h2
 rw [List.length_map, List.length_map] at this
 exact this
theorem Fit.mono {n m : Nat} {b : Bd} (h : Fit n b) (q : n <= m) : Fit m b := ⟨by have := h.1; omega, fun k => by have := h.2 k; omega⟩
theorem LB.sb {b : Bd} (h : LB b) : SB b := ⟨h.fit.mono (by decide), fun i k => Nat.lt_of_le_of_lt (h.bb i k) (by decide)⟩
theorem LB.few {b : Bd} (h : LB b) : (prF b).length <= 43 := by
 have key : ∀ t, t <= b.length -> (prB b t).length <= 5 * t := by
  intro t
  induction t with
  | zero => intro _; simp [prB]
  | succ t ih =>
   intro ht
   have := ih (by omega)
   have a := aEH (b.getD (b.length - 1 - t) []) (b.length - 1 - t) (b.getD (b.length - 1 - t) []).length
   have c := h.fit.2 (b.length - 1 - t)
   rw [aDA, List.length_append]
   omega
 have := key b.length (Nat.le_refl _)
 have := h.fit.1
 show (prB b b.length).length <= 43
 omega
def aZU (xs : List Int) : Int := ([1, 12, 1000000, 999999999999] : List Int).getD (xs.getD 0 0 % 4).toNat 0
def eBU (xs : List Int) : Int := ([1, 9, 3] : List Int).getD (xs.getD 2 0 % 3).toNat 0
def a3K (xs : List Int) (k : Nat) : Nat × Nat := ((xs.getD (2 + 3 * k) 0 % 9).toNat, (xs.getD (2 + 3 * k) 0 / 9 % eBU xs).toNat)
def a3V (xs : List Int) (k : Nat) : Int := (xs.getD (3 + 3 * k) 0 * 1000000 + xs.getD (4 + 3 * k) 0) % (2 * aZU xs + 1) - aZU xs
def eBV (xs : List Int) : Nat -> KVs
 | 0 => []
 | k + 1 => aGC (eBV xs k) (nk (a3K xs k).1 (a3K xs k).2) (a3V xs k)
def a3F (xs : List Int) : Bd := vU (eBV xs (xs.getD 1 0 % 8).toNat)
theorem aZT (xs : List Int) : 0 < aZU xs /\ aZU xs <= 999999999999 := by
 unfold aZU
 have h : (xs.getD 0 0 % 4).toNat < 4 := by omega
 generalize (xs.getD 0 0 % 4).toNat = n at h
 match n, h with
 | 0, _ => decide
 | 1, _ => decide
 | 2, _ => decide
 | 3, _ => decide
 | n + 4, h => omega
theorem aZV (xs : List Int) : 0 < eBU xs /\ eBU xs <= 9 := by
 unfold eBU
 have h : (xs.getD 2 0 % 3).toNat < 3 := by omega
 generalize (xs.getD 2 0 % 3).toNat = n at h
 match n, h with
 | 0, _ => decide
 | 1, _ => decide
 | 2, _ => decide
 | n + 3, h => omega
theorem eDV (xs : List Int) (k : Nat) : (a3K xs k).1 < 9 /\ (a3K xs k).2 < 9 := by
 obtain ⟨m1, m2⟩ := aZV xs
 have := Int.emod_lt_of_pos (xs.getD (2 + 3 * k) 0 / 9) m1
 have := Int.emod_nonneg (xs.getD (2 + 3 * k) 0 / 9) (show eBU xs ≠ 0 by omega)
 unfold a3K
 dsimp only
 omega
theorem eHC (xs : List Int) : ∀ k, KIn 9 (eBV xs k) /\ VB 999999999999 (eBV xs k) /\ (eBV xs k).length <= k
 | 0 => ⟨fun _ h => (nomatch h), fun _ h => (nomatch h), Nat.le_refl _⟩
 | k + 1 => by
  obtain ⟨h1, h2, h3⟩ := eHC xs k
  obtain ⟨s1, s2⟩ := aZT xs
  rw [eBV]
  refine ⟨h1.put (eDV xs k).1 (eDV xs k).2 _, h2.put ?_, ?_⟩
  ·unfold a3V
   have := Int.emod_lt_of_pos (xs.getD (3 + 3 * k) 0 * 1000000 + xs.getD (4 + 3 * k) 0) (show 0 < 2 * aZU xs + 1 by omega)
   have := Int.emod_nonneg (xs.getD (3 + 3 * k) 0 * 1000000 + xs.getD (4 + 3 * k) 0) (show 2 * aZU xs + 1 ≠ 0 by omega)
   omega
  ·have := aLT (eBV xs k) (nk (a3K xs k).1 (a3K xs k).2) (a3V xs k)
   omega
theorem aZY (xs : List Int) : SB (a3F xs) /\ BoardOk (a3F xs) /\ (prF (a3F xs)).length <= 43 := by
 obtain ⟨h1, h2, h3⟩ := eHC xs (xs.getD 1 0 % 8).toNat
 exact ⟨⟨aIS h1, fun i k => Nat.lt_of_le_of_lt (aKY h2 i k) (by decide)⟩, aFL _, Nat.le_trans eII (by omega)⟩
def aDJ (ds : List D) (d : D) : Prop := ∃ xs : List Int, ds = [qV xs] /\ 26 <= xs.length /\ d = yJ (a3F xs)
theorem aOX : ∀ ds d, aDJ ds d -> ds.length = 1 := by rintro _ _ ⟨a, rfl, _⟩; rfl
def aSE (ds : List D) (d : D) : Prop := ∃ ns : List Int, ds = [.scr ns] /\ ns.length <= 63 /\ d = .bl true
theorem eFU : ∀ ds d, aSE ds d -> ds.length = 1 := by rintro _ _ ⟨_, rfl, _⟩; rfl
theorem eBG (ns : List Int) (h : ns.length <= 63) : aSE [.scr ns] (.bl true) := ⟨ns, rfl, h, rfl⟩
theorem eGS {xs : List Int} {n a b : Nat} (h : xs.length = n) (ha : a <= b) (hb : b <= n) : (aBY xs (some (a : Int)) (some (b : Int))).length = b - a := by
 unfold aBY
 have e1 : HT.sIx xs.length 0 (some (a : Int)) = a := by simp only [HT.sIx]; split <;> omega
 have e2 : HT.sIx xs.length xs.length (some (b : Int)) = b := by simp only [HT.sIx]; split <;> omega
 rw [List.length_take, List.length_drop, e1, e2, h]; omega
theorem eGT (xs : List Int) (h : xs.length = 40) : (aBY xs (some 12) (some 38)).length = 26 := eGS (a := 12) (b := 38) h (by omega) (by omega)
theorem aVI (h : DefX P w K mg base k N__law_any (yB jV) X) (m_range : mg "range" = none) (c1 : EV.Callee X "_law_board_of" qJ) :
  ∀ ds d, aDJ ds d -> EvSs X (ds.map Sl.val ++ List.replicate (N__law_any.length - ds.length) Sl.un) (yF jV) (.rt d) := by
 rintro ds d ⟨xs, rfl, hl, rfl⟩
 have t := h.at'
 haveI := h.fnT
 have b1 : Blt X (yB jV) "range" (.type "range") := yR (by rw [h.mg']; exact m_range)
 obtain ⟨s1, s2⟩ := aZT xs
 obtain ⟨q1, q2⟩ := aZV xs
 show EvSs X [.val (qV xs), .un, .un, .un, .un, .un] _ _
 refine yG (qR (d := .int (aZU xs)) t 1 (zE (EvN.toQ (zX (yC yD (yC yD (yC (aOZ yD yD ⟨by decide, by decide, by decide⟩) (yC (jM (aOZ yD yD ⟨by decide, by decide, by decide⟩) yD) yE)))))) (yV (i := xs.getD 0 0) (zE (EvE.ql (yA t 0 rfl)) yD (wU (n := 0) (by omega))) yD (by decide)) ?_)) ?_
 ·exact aZS (xs := [1, 12, 1000000, 999999999999]) (by omega) (by show _ < 4; omega)
 refine yG (aWJ t 2 aYY) ?_
 refine yG (ρ' := [.val (qV xs), .val (.int (aZU xs)), .dct (eBV xs (xs.getD 1 0 % 8).toNat), .un, .un, .un]) (aBH t (wD t b1 (yV (i := xs.getD 1 0) (zE (EvE.ql (yA t 0 rfl)) yD (wU (n := 1) (by omega))) yD (by decide)) (by omega) (by omega)) (FRun.uptoE (fun i => [.val (qV xs), .val (.int (aZU xs)), .dct (eBV xs i), .un, .un, .un]) (fun i d hi => ?_) rfl ?_)) (aUW 2 rfl (yH (zH (yO t c1 (yC (yA t 2 rfl) yE) ⟨_, rfl, rfl⟩))))
 ·obtain ⟨hin, rfl⟩ := aEI hi
  have hi' : i < 8 := by omega
  have hi7 : i < 7 := by omega
  obtain ⟨_, _, l3⟩ := eHC xs i
  have e1 : (2 : Int) + 3 * (i : Int) = ((2 + 3 * i : Nat) : Int) := by omega
  have e2 : (3 : Int) + 3 * (i : Int) = ((3 + 3 * i : Nat) : Int) := by omega
  have e3 : (4 : Int) + 3 * (i : Int) = ((4 + 3 * i : Nat) : Int) := by omega
  have hx : atI (xs.map D.int) (2 + 3 * (i : Int)) = some (.int (xs.getD (2 + 3 * i) 0)) := by rw [e1]; exact wU (by omega)
  have hy : atI (xs.map D.int) (3 + 3 * (i : Int)) = some (.int (xs.getD (3 + 3 * i) 0)) := by rw [e2]; exact wU (by omega)
  have hw : atI (xs.map D.int) (4 + 3 * (i : Int)) = some (.int (xs.getD (4 + 3 * i) 0)) := by rw [e3]; exact wU (by omega)
  have hm1 := Int.emod_nonneg (xs.getD (2 + 3 * i) 0 / 9) (show eBU xs ≠ 0 by omega)
  refine ⟨_, jJ t 3, EvSs.weak (yG (qR (d := .tup ((nk (a3K xs i).1 (a3K xs i).2).map D.int)) t 4 (EvE.eq (yP (yC (yV (i := xs.getD (2 + 3 * i) 0) (zE (EvE.ql (yA t 0 rfl)) (zQ yD (wQ yD (yA t 3 rfl) (vV (by decide) (by decide)))) hx) yD (by decide)) (yC (yV (j := eBU xs) (aMV (i := xs.getD (2 + 3 * i) 0) t (zE (EvE.ql (yA t 0 rfl)) (zQ yD (wQ yD (yA t 3 rfl) (vV (by decide) (by decide)))) hx) yD (by decide)) (zE (EvN.toQ (zX (yC yD (yC yD (yC yD yE))))) (yV (i := xs.getD 2 0) (zE (EvE.ql (yA t 0 rfl)) yD (wU (n := 2) (by omega))) yD (by decide)) (aZS (xs := [1, 9, 3]) (by omega) (by show _ < 3; omega))) q1) yE))) ?_))
   (yG (qR (d := .int (xs.getD (3 + 3 * i) 0 * 1000000 + xs.getD (4 + 3 * i) 0)) t 5 (zQ (wQ (zE (EvE.ql (yA t 0 rfl)) (zQ yD (wQ yD (yA t 3 rfl) (vV (by decide) (by decide)))) hy) (aOZ yD yD ⟨by decide, by decide, by decide⟩) (aBJ (by decide) (by decide))) (zE (EvE.ql (yA t 0 rfl)) (zQ yD (wQ yD (yA t 3 rfl) (vV (by decide) (by decide)))) hw)))
   (yH (eAR t (jM (yV (i := xs.getD (3 + 3 * i) 0 * 1000000 + xs.getD (4 + 3 * i) 0) (yA t 5 rfl) (zQ (wQ (i := 2) (j := aZU xs) yD (yA t 1 rfl) (vV (by decide) (by decide))) yD) (by omega)) (yA t 1 rfl)) (aRN (k := nk (a3K xs i).1 (a3K xs i).2) t 2 rfl (yA t 4 rfl) (by rw [aRC]; omega)))))) (.keep (.keep (.keep (.forget (.forget (.forget .nil))))))⟩
  show D.tup [.int (xs.getD (2 + 3 * i) 0 % 9), .int (xs.getD (2 + 3 * i) 0 / 9 % eBU xs)] = D.tup [.int (((xs.getD (2 + 3 * i) 0 % 9).toNat : Nat) : Int), .int (((xs.getD (2 + 3 * i) 0 / 9 % eBU xs).toNat : Nat) : Int)]
  rw [Int.toNat_of_nonneg (by omega), Int.toNat_of_nonneg (by omega)]
 ·have e : (wP 0 (xs.getD 1 0 % 8).toNat).length = (xs.getD 1 0 % 8).toNat := by simp [wP]
  rw [e]
theorem eNH (h : DefX P w K mg base k N_law (yB aGB) X) (m_isinstance : mg "isinstance" = none) (m_str : mg "str" = none) (cN : EV.Callee X "_law_numbers" jN) (cB : EV.Callee X "_law_board" aAZ) (cS : EV.Callee X "show_term" aCB) (cC : EV.Callee X "_law_cell" aCI) (cA : EV.Callee X "_law_any" aDJ) (cW : EV.Callee X "_law_shown" aAX) (cR : EV.Callee X "read_term" aAP) :
  ∀ ds d, aSE ds d -> EvSs X (ds.map Sl.val ++ List.replicate (N_law.length - ds.length) Sl.un) (yF aGB) (.rt d) := by
 rintro ds d ⟨ns, rfl, hn, rfl⟩
 have t := h.at'
 haveI := h.fnT
 have b1 : Blt X (yB aGB) "isinstance" (.builtin "isinstance") := yR (by rw [h.mg']; exact m_isinstance)
 have b2 : Blt X (yB aGB) "str" (.type "str") := yR (by rw [h.mg']; exact m_str)
 show EvSs X [.val (.scr ns), .un, .un, .un, .un] _ _
 have hz := eBP ns (some 1) (some 15)
 refine yG (aBH t (ds := ((aZJ ns 0) :: aBY ns (some 1) (some 15)).map D.int) (aTS (EvE.eq (EvN.toE (aTQ (EvN.toE (zX (yC (yO t cC (yC (yA t 0 rfl) (yC yD yE)) ⟨ns, 0, rfl, by decide, by decide, rfl⟩) yE))) (EvE.eq (EvN.toE (aAN (EvE.qs (yA t 0 rfl)) (vR yD) (vR yD))) (by rw [aAB])) ?_)) rfl)) (FRun.same [.val (.scr ns), .un, .un, .un, .un] _ fun d hd => ?_)) (yH (zH eNA))
 ·have := aRC; simp; omega
 obtain ⟨c, _, rfl⟩ := List.mem_map.mp hd
 have hxl : (aBA c 40).length = 40 := aHO _ _
 have hcl := eGT _ hxl
 have hlb := eJP c
 have hB : ∃ B, SB B /\ BoardOk B /\ (prF B).length <= 43 /\ B = if (aBA c 40).getD 39 0 % 2 = 1 then a3F (aBY (aBA c 40) (some 12) (some 38)) else lbF c := by
  split
  ·exact ⟨_, (aZY _).1, (aZY _).2.1, (aZY _).2.2, rfl⟩
  ·exact ⟨_, hlb.sb, hlb.ok, hlb.few, rfl⟩
 obtain ⟨B, sB, oB, fB, eB⟩ := hB
 have okS : PyData.strOk (S (shC B)) = true := aFN (by
  unfold shC
  split
  ·intro c hc; simp at hc; omega
  ·exact aKG (sB.prB B.length))
 refine ⟨_, jJ t 1, EvSs.weak (ρ1 := [.val (.scr ns), .val (.int c), .val (qV (aBA c 40)), .val (yJ B), .val (.str (S (shC B)))]) (yG (qR t 2 (yO t cN (yC (yA t 1 rfl) (yC yD yE)) ⟨c, 40, rfl, by decide, rfl⟩)) (yG (qR t 3 (yO t cB (yC (yA t 1 rfl) yE) ⟨c, rfl, rfl⟩)) (yG (ρ' := [.val (.scr ns), .val (.int c), .val (qV (aBA c 40)), .val (yJ B), .un]) ?_ (yG (qR t 4 (yO t cS (yC (yA t 3 rfl) yE) ⟨B, rfl, sB, rfl⟩)) (yH (jI (EvT.eq (eDM (aYU (aMZ (aTN t b1 b2 (yA t 4 rfl) rfl))) (fun _ => aYT t (eDC okS) (yA t 4 rfl) (yO t cW (yC (yA t 3 rfl) yE) ⟨B, rfl, sB, rfl⟩)) (fun _ _ => aYT t (aTL B) (yO t cR (yC (yA t 4 rfl) yE) (aUM sB oB fB)) (yA t 3 rfl))) rfl) zW)))))) (.keep (.forget (.forget (.forget (.forget .nil)))))⟩
 have hx : atI ((aBA c 40).map D.int) (39 : Int) = some (.int ((aBA c 40).getD 39 0)) := wU (n := 39) (by omega)
 rw [eB]
 generalize aBA c 40 = xs at hx hcl
 by_cases h1 : xs.getD 39 0 % 2 = 1
 ·rw [if_pos h1]
  exact jY (EvT.eq (jX (yV (zE (EvE.ql (yA t 2 rfl)) yD hx) yD (by decide)) yD) (decide_eq_true h1)) (yH (qR t 3 (yO t cA (yC (EvE.eq (EvN.toE (aAN (EvE.ql (yA t 2 rfl)) (vR yD) (vR yD))) (by rw [aAB])) yE) ⟨_, rfl, by rw [hcl]; decide, rfl⟩)))
 ·rw [if_neg h1]
  exact jI (EvT.eq (jX (yV (zE (EvE.ql (yA t 2 rfl)) yD hx) yD (by decide)) yD) (decide_eq_false h1)) zW
theorem wL {fd : FuncData} {ps : List Str} {us : List Value} (h : us.length = 1) (k : ∀ a0, bindArgs fd ⟨[a0], []⟩ = pure (ps.zip [a0])) : bindArgs fd ⟨us, []⟩ = pure (ps.zip us) := match us, h with | [a0], _ => k a0
theorem aCM {fd : FuncData} {ps : List Str} {us : List Value} (h : us.length = 2) (k : ∀ a0 a1, bindArgs fd ⟨[a0, a1], []⟩ = pure (ps.zip [a0, a1])) : bindArgs fd ⟨us, []⟩ = pure (ps.zip us) := match us, h with | [a0, a1], _ => k a0 a1
theorem eGY {fd : FuncData} {ps : List Str} {us : List Value} (h : us.length = 3) (k : ∀ a0 a1 a2, bindArgs fd ⟨[a0, a1, a2], []⟩ = pure (ps.zip [a0, a1, a2])) : bindArgs fd ⟨us, []⟩ = pure (ps.zip us) := match us, h with | [a0, a1, a2], _ => k a0 a1 a2
set_option maxHeartbeats 4000000 in
theorem all_mk {l : PySem.W.OpenLaw} {w : World} {K : PySem.W.Frag} {h : Heap} {mg : Str -> Option Value} {fa f1 f2 f3 f4 f5 f6 f7 f8 f9 f10 f11 f12 f13 f14 f15 f16 f17 f18 f19 f20 f21 f22 f23 f24 f25 f26 f27 f28 f29 f30 f31 f32 f33 f34 f35 f36 f37 f38 f39 f40 f41 f42 f43 f44 f45 f46 : Addr} (ht : l.prog.given.tree = none) (X : K.In h) (G : h.Ns mainGlobals mg) (hfa : mg "law" = some (.ref fa))
  {od1 an1 od2 an2 od3 an3 od4 an4 od5 an5 od6 an6 od7 an7 od8 an8 od9 an9 od10 an10 od11 an11 od12 an12 od13 an13 od14 an14 od15 an15 od16 an16 od17 an17 od18 an18 od19 an19 od20 an20 od21 an21 od22 an22 od23 an23 od24 an24 od25 an25 od26 an26 od27 an27 od28 an28 od29 an29 od30 an30 od31 an31 od32 an32 od33 an33 od34 an34 od35 an35 od36 an36 od37 an37 od38 an38 od39 an39 od40 an40 od41 an41 od42 an42 od43 an43 od44 an44 od45 an45 od46 an46 : Option Addr} {sl1 sl2 sl3 sl4 sl5 sl6 sl7 sl8 sl9 sl10 sl11 sl12 sl13 sl14 sl15 sl16 sl17 sl18 sl19 sl20 sl21 sl22 sl23 sl24 sl25 sl26 sl27 sl28 sl29 sl30 sl31 sl32 sl33 sl34 sl35 sl36 sl37 sl38 sl39 sl40 sl41 sl42 sl43 sl44 sl45 sl46 : Array (Option Value)} {oc1 kV1 dc1 pm1 cd1 ct1 oc2 kV2 dc2 pm2 cd2 ct2 oc3 kV3 dc3 pm3 cd3 ct3 oc4 kV4 dc4 pm4 cd4 ct4 oc5 kV5 dc5 pm5 cd5 ct5 oc6 kV6 dc6 pm6 cd6 ct6 oc7 kV7 dc7 pm7 cd7 ct7 oc8 kV8 dc8 pm8 cd8 ct8 oc9 kV9 dc9 pm9 cd9 ct9 oc10 kV10 dc10 pm10 cd10 ct10 oc11 kV11 dc11 pm11 cd11 ct11 oc12 kV12 dc12 pm12 cd12 ct12 oc13 kV13 dc13 pm13 cd13 ct13 oc14 kV14 dc14 pm14 cd14 ct14 oc15 kV15 dc15 pm15 cd15 ct15 oc16 kV16 dc16 pm16 cd16 ct16 oc17 kV17 dc17 pm17 cd17 ct17 oc18 kV18 dc18 pm18 cd18 ct18 oc19 kV19 dc19 pm19 cd19 ct19 oc20 kV20 dc20 pm20 cd20 ct20 oc21 kV21 dc21 pm21 cd21 ct21 oc22 kV22 dc22 pm22 cd22 ct22 oc23 kV23 dc23 pm23 cd23 ct23 oc24 kV24 dc24 pm24 cd24 ct24 oc25 kV25 dc25 pm25 cd25 ct25 oc26 kV26 dc26 pm26 cd26 ct26 oc27 kV27 dc27 pm27 cd27 ct27 oc28 kV28 dc28 pm28 cd28 ct28 oc29 kV29 dc29 pm29 cd29 ct29 oc30 kV30 dc30 pm30 cd30 ct30 oc31 kV31 dc31 pm31 cd31 ct31 oc32 kV32 dc32 pm32 cd32 ct32 oc33 kV33 dc33 pm33 cd33 ct33 oc34 kV34 dc34 pm34 cd34 ct34 oc35 kV35 dc35 pm35 cd35 ct35 oc36 kV36 dc36 pm36 cd36 ct36 oc37 kV37 dc37 pm37 cd37 ct37 oc38 kV38 dc38 pm38 cd38 ct38 oc39 kV39 dc39 pm39 cd39 ct39 oc40 kV40 dc40 pm40 cd40 ct40 oc41 kV41 dc41 pm41 cd41 ct41 oc42 kV42 dc42 pm42 cd42 ct42 oc43 kV43 dc43 pm43 cd43 ct43 oc44 kV44 dc44 pm44 cd44 ct44 oc45 kV45 dc45 pm45 cd45 ct45 oc46 kV46 dc46 pm46 cd46 ct46 : Value}
  (a1 : PySem.W.nsIn K mainGlobals "without_end" = some (some (.ref f1))) (l1 : K.lookup f1 = some ⟨oc1, od1, .func (PySem.W.fnOf "without_end" "without_end" (yN zG) (yF zG) (yB zG) .none kV1 dc1 pm1 an1 cd1 ct1), sl1⟩) (c1 : PySem.W.codeIn K cd1 "without_end" = true) (k1 : PySem.W.keepIn K (.ref f1) = true)
  (a2 : PySem.W.nsIn K mainGlobals "part_at" = some (some (.ref f2))) (l2 : K.lookup f2 = some ⟨oc2, od2, .func (PySem.W.fnOf "part_at" "part_at" (yN vZ) (yF vZ) (yB vZ) .none kV2 dc2 pm2 an2 cd2 ct2), sl2⟩) (c2 : PySem.W.codeIn K cd2 "part_at" = true) (k2 : PySem.W.keepIn K (.ref f2) = true)
  (a3 : PySem.W.nsIn K mainGlobals "row_of" = some (some (.ref f3))) (l3 : K.lookup f3 = some ⟨oc3, od3, .func (PySem.W.fnOf "row_of" "row_of" (yN aBV) (yF aBV) (yB aBV) .none kV3 dc3 pm3 an3 cd3 ct3), sl3⟩) (c3 : PySem.W.codeIn K cd3 "row_of" = true) (k3 : PySem.W.keepIn K (.ref f3) = true)
  (a4 : PySem.W.nsIn K mainGlobals "row_plus" = some (some (.ref f4))) (l4 : K.lookup f4 = some ⟨oc4, od4, .func (PySem.W.fnOf "row_plus" "row_plus" (yN qT) (yF qT) (yB qT) .none kV4 dc4 pm4 an4 cd4 ct4), sl4⟩) (c4 : PySem.W.codeIn K cd4 "row_plus" = true) (k4 : PySem.W.keepIn K (.ref f4) = true)
  (a5 : PySem.W.nsIn K mainGlobals "other_sign" = some (some (.ref f5))) (l5 : K.lookup f5 = some ⟨oc5, od5, .func (PySem.W.fnOf "other_sign" "other_sign" (yN qL) (yF qL) (yB qL) .none kV5 dc5 pm5 an5 cd5 ct5), sl5⟩) (c5 : PySem.W.codeIn K cd5 "other_sign" = true) (k5 : PySem.W.keepIn K (.ref f5) = true)
  (a6 : PySem.W.nsIn K mainGlobals "row_times" = some (some (.ref f6))) (l6 : K.lookup f6 = some ⟨oc6, od6, .func (PySem.W.fnOf "row_times" "row_times" (yN qP) (yF qP) (yB qP) .none kV6 dc6 pm6 an6 cd6 ct6), sl6⟩) (c6 : PySem.W.codeIn K cd6 "row_times" = true) (k6 : PySem.W.keepIn K (.ref f6) = true)
  (a7 : PySem.W.nsIn K mainGlobals "board_of" = some (some (.ref f7))) (l7 : K.lookup f7 = some ⟨oc7, od7, .func (PySem.W.fnOf "board_of" "board_of" (yN vQ) (yF vQ) (yB vQ) .none kV7 dc7 pm7 an7 cd7 ct7), sl7⟩) (c7 : PySem.W.codeIn K cd7 "board_of" = true) (k7 : PySem.W.keepIn K (.ref f7) = true)
  (a8 : PySem.W.nsIn K mainGlobals "board_plus" = some (some (.ref f8))) (l8 : K.lookup f8 = some ⟨oc8, od8, .func (PySem.W.fnOf "board_plus" "board_plus" (yN zP) (yF zP) (yB zP) .none kV8 dc8 pm8 an8 cd8 ct8), sl8⟩) (c8 : PySem.W.codeIn K cd8 "board_plus" = true) (k8 : PySem.W.keepIn K (.ref f8) = true)
  (a9 : PySem.W.nsIn K mainGlobals "board_minus" = some (some (.ref f9))) (l9 : K.lookup f9 = some ⟨oc9, od9, .func (PySem.W.fnOf "board_minus" "board_minus" (yN qF) (yF qF) (yB qF) .none kV9 dc9 pm9 an9 cd9 ct9), sl9⟩) (c9 : PySem.W.codeIn K cd9 "board_minus" = true) (k9 : PySem.W.keepIn K (.ref f9) = true)
  (a10 : PySem.W.nsIn K mainGlobals "board_times" = some (some (.ref f10))) (l10 : K.lookup f10 = some ⟨oc10, od10, .func (PySem.W.fnOf "board_times" "board_times" (yN zK) (yF zK) (yB zK) .none kV10 dc10 pm10 an10 cd10 ct10), sl10⟩) (c10 : PySem.W.codeIn K cd10 "board_times" = true) (k10 : PySem.W.keepIn K (.ref f10) = true)
  (a11 : PySem.W.nsIn K mainGlobals "is_number" = some (some (.ref f11))) (l11 : K.lookup f11 = some ⟨oc11, od11, .func (PySem.W.fnOf "is_number" "is_number" (yN jD) (yF jD) (yB jD) .none kV11 dc11 pm11 an11 cd11 ct11), sl11⟩) (c11 : PySem.W.codeIn K cd11 "is_number" = true) (k11 : PySem.W.keepIn K (.ref f11) = true)
  (a12 : PySem.W.nsIn K mainGlobals "end_of_run" = some (some (.ref f12))) (l12 : K.lookup f12 = some ⟨oc12, od12, .func (PySem.W.fnOf "end_of_run" "end_of_run" (yN qM) (yF qM) (yB qM) .none kV12 dc12 pm12 an12 cd12 ct12), sl12⟩) (c12 : PySem.W.codeIn K cd12 "end_of_run" = true) (k12 : PySem.W.keepIn K (.ref f12) = true)
  (a13 : PySem.W.nsIn K mainGlobals "refuse_wrong_run" = some (some (.ref f13))) (l13 : K.lookup f13 = some ⟨oc13, od13, .func (PySem.W.fnOf "refuse_wrong_run" "refuse_wrong_run" (yN yQ) (yF yQ) (yB yQ) .none kV13 dc13 pm13 an13 cd13 ct13), sl13⟩) (c13 : PySem.W.codeIn K cd13 "refuse_wrong_run" = true) (k13 : PySem.W.keepIn K (.ref f13) = true)
  (a14 : PySem.W.nsIn K mainGlobals "token_at" = some (some (.ref f14))) (l14 : K.lookup f14 = some ⟨oc14, od14, .func (PySem.W.fnOf "token_at" "token_at" (yN vP) (yF vP) (yB vP) .none kV14 dc14 pm14 an14 cd14 ct14), sl14⟩) (c14 : PySem.W.codeIn K cd14 "token_at" = true) (k14 : PySem.W.keepIn K (.ref f14) = true)
  (a15 : PySem.W.nsIn K mainGlobals "tokens_of" = some (some (.ref f15))) (l15 : K.lookup f15 = some ⟨oc15, od15, .func (PySem.W.fnOf "tokens_of" "tokens_of" (yN jA) (yF jA) (yB jA) .none kV15 dc15 pm15 an15 cd15 ct15), sl15⟩) (c15 : PySem.W.codeIn K cd15 "tokens_of" = true) (k15 : PySem.W.keepIn K (.ref f15) = true)
  (a16 : PySem.W.nsIn K mainGlobals "refuse_deep" = some (some (.ref f16))) (l16 : K.lookup f16 = some ⟨oc16, od16, .func (PySem.W.fnOf "refuse_deep" "refuse_deep" (yN qB) (yF qB) (yB qB) .none kV16 dc16 pm16 an16 cd16 ct16), sl16⟩) (c16 : PySem.W.codeIn K cd16 "refuse_deep" = true) (k16 : PySem.W.keepIn K (.ref f16) = true)
  (a17 : PySem.W.nsIn K mainGlobals "reader_of" = some (some (.ref f17))) (l17 : K.lookup f17 = some ⟨oc17, od17, .func (PySem.W.fnOf "reader_of" "reader_of" (yN qG) (yF qG) (yB qG) .none kV17 dc17 pm17 an17 cd17 ct17), sl17⟩) (c17 : PySem.W.codeIn K cd17 "reader_of" = true) (k17 : PySem.W.keepIn K (.ref f17) = true)
  (a18 : PySem.W.nsIn K mainGlobals "next_token" = some (some (.ref f18))) (l18 : K.lookup f18 = some ⟨oc18, od18, .func (PySem.W.fnOf "next_token" "next_token" (yN qE) (yF qE) (yB qE) .none kV18 dc18 pm18 an18 cd18 ct18), sl18⟩) (c18 : PySem.W.codeIn K cd18 "next_token" = true) (k18 : PySem.W.keepIn K (.ref f18) = true)
  (a19 : PySem.W.nsIn K mainGlobals "take_token" = some (some (.ref f19))) (l19 : K.lookup f19 = some ⟨oc19, od19, .func (PySem.W.fnOf "take_token" "take_token" (yN qK) (yF qK) (yB qK) .none kV19 dc19 pm19 an19 cd19 ct19), sl19⟩) (c19 : PySem.W.codeIn K cd19 "take_token" = true) (k19 : PySem.W.keepIn K (.ref f19) = true)
  (a20 : PySem.W.nsIn K mainGlobals "take_one_of" = some (some (.ref f20))) (l20 : K.lookup f20 = some ⟨oc20, od20, .func (PySem.W.fnOf "take_one_of" "take_one_of" (yN qA) (yF qA) (yB qA) .none kV20 dc20 pm20 an20 cd20 ct20), sl20⟩) (c20 : PySem.W.codeIn K cd20 "take_one_of" = true) (k20 : PySem.W.keepIn K (.ref f20) = true)
  (a21 : PySem.W.nsIn K mainGlobals "refuse_more" = some (some (.ref f21))) (l21 : K.lookup f21 = some ⟨oc21, od21, .func (PySem.W.fnOf "refuse_more" "refuse_more" (yN zI) (yF zI) (yB zI) .none kV21 dc21 pm21 an21 cd21 ct21), sl21⟩) (c21 : PySem.W.codeIn K cd21 "refuse_more" = true) (k21 : PySem.W.keepIn K (.ref f21) = true)
  (a22 : PySem.W.nsIn K mainGlobals "read_atom" = some (some (.ref f22))) (l22 : K.lookup f22 = some ⟨oc22, od22, .func (PySem.W.fnOf "read_atom" "read_atom" (yN jC) (yF jC) (yB jC) .none kV22 dc22 pm22 an22 cd22 ct22), sl22⟩) (c22 : PySem.W.codeIn K cd22 "read_atom" = true) (k22 : PySem.W.keepIn K (.ref f22) = true)
  (a23 : PySem.W.nsIn K mainGlobals "read_power" = some (some (.ref f23))) (l23 : K.lookup f23 = some ⟨oc23, od23, .func (PySem.W.fnOf "read_power" "read_power" (yN qC) (yF qC) (yB qC) .none kV23 dc23 pm23 an23 cd23 ct23), sl23⟩) (c23 : PySem.W.codeIn K cd23 "read_power" = true) (k23 : PySem.W.keepIn K (.ref f23) = true)
  (a24 : PySem.W.nsIn K mainGlobals "read_factor" = some (some (.ref f24))) (l24 : K.lookup f24 = some ⟨oc24, od24, .func (PySem.W.fnOf "read_factor" "read_factor" (yN qD) (yF qD) (yB qD) .none kV24 dc24 pm24 an24 cd24 ct24), sl24⟩) (c24 : PySem.W.codeIn K cd24 "read_factor" = true) (k24 : PySem.W.keepIn K (.ref f24) = true)
  (a25 : PySem.W.nsIn K mainGlobals "read_product" = some (some (.ref f25))) (l25 : K.lookup f25 = some ⟨oc25, od25, .func (PySem.W.fnOf "read_product" "read_product" (yN zO) (yF zO) (yB zO) .none kV25 dc25 pm25 an25 cd25 ct25), sl25⟩) (c25 : PySem.W.codeIn K cd25 "read_product" = true) (k25 : PySem.W.keepIn K (.ref f25) = true)
  (a26 : PySem.W.nsIn K mainGlobals "read_sum" = some (some (.ref f26))) (l26 : K.lookup f26 = some ⟨oc26, od26, .func (PySem.W.fnOf "read_sum" "read_sum" (yN jU) (yF jU) (yB jU) .none kV26 dc26 pm26 an26 cd26 ct26), sl26⟩) (c26 : PySem.W.codeIn K cd26 "read_sum" = true) (k26 : PySem.W.keepIn K (.ref f26) = true)
  (a27 : PySem.W.nsIn K mainGlobals "atom_of" = some (some (.ref f27))) (l27 : K.lookup f27 = some ⟨oc27, od27, .func (PySem.W.fnOf "atom_of" "atom_of" (yN wB) (yF wB) (yB wB) .none kV27 dc27 pm27 an27 cd27 ct27), sl27⟩) (c27 : PySem.W.codeIn K cd27 "atom_of" = true) (k27 : PySem.W.keepIn K (.ref f27) = true)
  (a28 : PySem.W.nsIn K mainGlobals "power_of_board" = some (some (.ref f28))) (l28 : K.lookup f28 = some ⟨oc28, od28, .func (PySem.W.fnOf "power_of_board" "power_of_board" (yN yY) (yF yY) (yB yY) .none kV28 dc28 pm28 an28 cd28 ct28), sl28⟩) (c28 : PySem.W.codeIn K cd28 "power_of_board" = true) (k28 : PySem.W.keepIn K (.ref f28) = true)
  (a29 : PySem.W.nsIn K mainGlobals "take_term_step" = some (some (.ref f29))) (l29 : K.lookup f29 = some ⟨oc29, od29, .func (PySem.W.fnOf "take_term_step" "take_term_step" (yN yX) (yF yX) (yB yX) .none kV29 dc29 pm29 an29 cd29 ct29), sl29⟩) (c29 : PySem.W.codeIn K cd29 "take_term_step" = true) (k29 : PySem.W.keepIn K (.ref f29) = true)
  (a30 : PySem.W.nsIn K mainGlobals "read_term" = some (some (.ref f30))) (l30 : K.lookup f30 = some ⟨oc30, od30, .func (PySem.W.fnOf "read_term" "read_term" (yN jR) (yF jR) (yB jR) .none kV30 dc30 pm30 an30 cd30 ct30), sl30⟩) (c30 : PySem.W.codeIn K cd30 "read_term" = true) (k30 : PySem.W.keepIn K (.ref f30) = true)
  (a31 : PySem.W.nsIn K mainGlobals "letters_shown" = some (some (.ref f31))) (l31 : K.lookup f31 = some ⟨oc31, od31, .func (PySem.W.fnOf "letters_shown" "letters_shown" (yN zT) (yF zT) (yB zT) .none kV31 dc31 pm31 an31 cd31 ct31), sl31⟩) (c31 : PySem.W.codeIn K cd31 "letters_shown" = true) (k31 : PySem.W.keepIn K (.ref f31) = true)
  (a32 : PySem.W.nsIn K mainGlobals "product_shown" = some (some (.ref f32))) (l32 : K.lookup f32 = some ⟨oc32, od32, .func (PySem.W.fnOf "product_shown" "product_shown" (yN zD) (yF zD) (yB zD) .none kV32 dc32 pm32 an32 cd32 ct32), sl32⟩) (c32 : PySem.W.codeIn K cd32 "product_shown" = true) (k32 : PySem.W.keepIn K (.ref f32) = true)
  (a33 : PySem.W.nsIn K mainGlobals "products_of" = some (some (.ref f33))) (l33 : K.lookup f33 = some ⟨oc33, od33, .func (PySem.W.fnOf "products_of" "products_of" (yN zJ) (yF zJ) (yB zJ) .none kV33 dc33 pm33 an33 cd33 ct33), sl33⟩) (c33 : PySem.W.codeIn K cd33 "products_of" = true) (k33 : PySem.W.keepIn K (.ref f33) = true)
  (a34 : PySem.W.nsIn K mainGlobals "show_term" = some (some (.ref f34))) (l34 : K.lookup f34 = some ⟨oc34, od34, .func (PySem.W.fnOf "show_term" "show_term" (yN jB) (yF jB) (yB jB) .none kV34 dc34 pm34 an34 cd34 ct34), sl34⟩) (c34 : PySem.W.codeIn K cd34 "show_term" = true) (k34 : PySem.W.keepIn K (.ref f34) = true)
  (a35 : PySem.W.nsIn K mainGlobals "_law_cell" = some (some (.ref f35))) (l35 : K.lookup f35 = some ⟨oc35, od35, .func (PySem.W.fnOf "_law_cell" "_law_cell" (yN jE) (yF jE) (yB jE) .none kV35 dc35 pm35 an35 cd35 ct35), sl35⟩) (c35 : PySem.W.codeIn K cd35 "_law_cell" = true) (k35 : PySem.W.keepIn K (.ref f35) = true)
  (a36 : PySem.W.nsIn K mainGlobals "_law_numbers" = some (some (.ref f36))) (l36 : K.lookup f36 = some ⟨oc36, od36, .func (PySem.W.fnOf "_law_numbers" "_law_numbers" (yN yW) (yF yW) (yB yW) .none kV36 dc36 pm36 an36 cd36 ct36), sl36⟩) (c36 : PySem.W.codeIn K cd36 "_law_numbers" = true) (k36 : PySem.W.keepIn K (.ref f36) = true)
  (a37 : PySem.W.nsIn K mainGlobals "_law_trim" = some (some (.ref f37))) (l37 : K.lookup f37 = some ⟨oc37, od37, .func (PySem.W.fnOf "_law_trim" "_law_trim" (yN qH) (yF qH) (yB qH) .none kV37 dc37 pm37 an37 cd37 ct37), sl37⟩) (c37 : PySem.W.codeIn K cd37 "_law_trim" = true) (k37 : PySem.W.keepIn K (.ref f37) = true)
  (a38 : PySem.W.nsIn K mainGlobals "_law_board_of" = some (some (.ref f38))) (l38 : K.lookup f38 = some ⟨oc38, od38, .func (PySem.W.fnOf "_law_board_of" "_law_board_of" (yN yT) (yF yT) (yB yT) .none kV38 dc38 pm38 an38 cd38 ct38), sl38⟩) (c38 : PySem.W.codeIn K cd38 "_law_board_of" = true) (k38 : PySem.W.keepIn K (.ref f38) = true)
  (a39 : PySem.W.nsIn K mainGlobals "_law_product" = some (some (.ref f39))) (l39 : K.lookup f39 = some ⟨oc39, od39, .func (PySem.W.fnOf "_law_product" "_law_product" (yN qI) (yF qI) (yB qI) .none kV39 dc39 pm39 an39 cd39 ct39), sl39⟩) (c39 : PySem.W.codeIn K cd39 "_law_product" = true) (k39 : PySem.W.keepIn K (.ref f39) = true)
  (a40 : PySem.W.nsIn K mainGlobals "_law_line" = some (some (.ref f40))) (l40 : K.lookup f40 = some ⟨oc40, od40, .func (PySem.W.fnOf "_law_line" "_law_line" (yN jS) (yF jS) (yB jS) .none kV40 dc40 pm40 an40 cd40 ct40), sl40⟩) (c40 : PySem.W.codeIn K cd40 "_law_line" = true) (k40 : PySem.W.keepIn K (.ref f40) = true)
  (a41 : PySem.W.nsIn K mainGlobals "_law_conic" = some (some (.ref f41))) (l41 : K.lookup f41 = some ⟨oc41, od41, .func (PySem.W.fnOf "_law_conic" "_law_conic" (yN qN) (yF qN) (yB qN) .none kV41 dc41 pm41 an41 cd41 ct41), sl41⟩) (c41 : PySem.W.codeIn K cd41 "_law_conic" = true) (k41 : PySem.W.keepIn K (.ref f41) = true)
  (a42 : PySem.W.nsIn K mainGlobals "_law_board" = some (some (.ref f42))) (l42 : K.lookup f42 = some ⟨oc42, od42, .func (PySem.W.fnOf "_law_board" "_law_board" (yN jF) (yF jF) (yB jF) .none kV42 dc42 pm42 an42 cd42 ct42), sl42⟩) (c42 : PySem.W.codeIn K cd42 "_law_board" = true) (k42 : PySem.W.keepIn K (.ref f42) = true)
  (a43 : PySem.W.nsIn K mainGlobals "_law_letter" = some (some (.ref f43))) (l43 : K.lookup f43 = some ⟨oc43, od43, .func (PySem.W.fnOf "_law_letter" "_law_letter" (yN zM) (yF zM) (yB zM) .none kV43 dc43 pm43 an43 cd43 ct43), sl43⟩) (c43 : PySem.W.codeIn K cd43 "_law_letter" = true) (k43 : PySem.W.keepIn K (.ref f43) = true)
  (a44 : PySem.W.nsIn K mainGlobals "_law_shown" = some (some (.ref f44))) (l44 : K.lookup f44 = some ⟨oc44, od44, .func (PySem.W.fnOf "_law_shown" "_law_shown" (yN yZ) (yF yZ) (yB yZ) .none kV44 dc44 pm44 an44 cd44 ct44), sl44⟩) (c44 : PySem.W.codeIn K cd44 "_law_shown" = true) (k44 : PySem.W.keepIn K (.ref f44) = true)
  (a45 : PySem.W.nsIn K mainGlobals "_law_any" = some (some (.ref f45))) (l45 : K.lookup f45 = some ⟨oc45, od45, .func (PySem.W.fnOf "_law_any" "_law_any" (yN jV) (yF jV) (yB jV) .none kV45 dc45 pm45 an45 cd45 ct45), sl45⟩) (c45 : PySem.W.codeIn K cd45 "_law_any" = true) (k45 : PySem.W.keepIn K (.ref f45) = true)
  (a46 : PySem.W.nsIn K mainGlobals "law" = some (some (.ref f46))) (l46 : K.lookup f46 = some ⟨oc46, od46, .func (PySem.W.fnOf "law" "law" (yN aGB) (yF aGB) (yB aGB) .none kV46 dc46 pm46 an46 cd46 ct46), sl46⟩) (c46 : PySem.W.codeIn K cd46 "law" = true) (k46 : PySem.W.keepIn K (.ref f46) = true)
  (z_len : PySem.W.nsIn K mainGlobals "len" = some none)
  (z_tuple : PySem.W.nsIn K mainGlobals "tuple" = some none)
  (z_max : PySem.W.nsIn K mainGlobals "max" = some none)
  (z_range : PySem.W.nsIn K mainGlobals "range" = some none)
  (z_enumerate : PySem.W.nsIn K mainGlobals "enumerate" = some none)
  (z_all : PySem.W.nsIn K mainGlobals "all" = some none)
  (z_isinstance : PySem.W.nsIn K mainGlobals "isinstance" = some none)
  (z_str : PySem.W.nsIn K mainGlobals "str" = some none)
  (z_list : PySem.W.nsIn K mainGlobals "list" = some none)
  (z_int : PySem.W.nsIn K mainGlobals "int" = some none)
  (z_abs : PySem.W.nsIn K mainGlobals "abs" = some none)
  {g_WORDS : Addr} {go_WORDS : Option Addr} {gi_WORDS : Array Value} {gn_WORDS : Nat} {gs_WORDS : Array (Option Value)}
  (ga_WORDS : PySem.W.nsIn K mainGlobals "WORDS" = some (some (.ref g_WORDS))) (gl_WORDS : K.lookup g_WORDS = some ⟨.type "tuple", go_WORDS, .seq gi_WORDS gn_WORDS, gs_WORDS⟩) (gp_WORDS : GPs K gi_WORDS.toList [.str "x", .str "y", .str "not", .str "and", .str "or", .str "some", .str "all"])
  {g_DOUBLE_SIGNS : Addr} {go_DOUBLE_SIGNS : Option Addr} {gi_DOUBLE_SIGNS : Array Value} {gn_DOUBLE_SIGNS : Nat} {gs_DOUBLE_SIGNS : Array (Option Value)}
  (ga_DOUBLE_SIGNS : PySem.W.nsIn K mainGlobals "DOUBLE_SIGNS" = some (some (.ref g_DOUBLE_SIGNS))) (gl_DOUBLE_SIGNS : K.lookup g_DOUBLE_SIGNS = some ⟨.type "tuple", go_DOUBLE_SIGNS, .seq gi_DOUBLE_SIGNS gn_DOUBLE_SIGNS, gs_DOUBLE_SIGNS⟩) (gp_DOUBLE_SIGNS : GPs K gi_DOUBLE_SIGNS.toList [.str "<=", .str ">=", .str "!="])
  {tk_FIGURES : Tok} (gc_FIGURES : PySem.W.nsIn K mainGlobals "FIGURES" = some (some (.str ("0123456789" : Str) tk_FIGURES)))
  {tk_MOST_OPEN : Tok} (gc_MOST_OPEN : PySem.W.nsIn K mainGlobals "MOST_OPEN" = some (some (.int 20 tk_MOST_OPEN)))
  {tk_MOST_MINUSES : Tok} (gc_MOST_MINUSES : PySem.W.nsIn K mainGlobals "MOST_MINUSES" = some (some (.int 20 tk_MOST_MINUSES)))
  {tk_MOST_SIGNS : Tok} (gc_MOST_SIGNS : PySem.W.nsIn K mainGlobals "MOST_SIGNS" = some (some (.int 1000 tk_MOST_SIGNS)))
  {cR fI : Addr} {odI anI : Option Addr} {slI : Array (Option Value)} {ocI kVI dcI pmI cdI ctI : Value} (eR : PySem.W.nsIn K mainGlobals "Reader" = some (some (.ref cR))) (r1 : PySem.W.makesIn K cR = true) (r2 : PySem.W.findIn K (.ref cR) "__init__" = some (some (.ref fI))) (r3 : PySem.W.isFn K (.ref fI) = true) (r4 : PySem.W.keepIn K (.ref cR) = true) (r5 : PySem.W.plainGet K cR Str.empty = true) (r6 : PySem.W.hasDictIn K cR = true) (r7 : PySem.W.plainOver K cR = true) (r8 : PySem.W.findIn K (.ref cR) "__setattr__" = some (some (.builtin "object.__setattr__"))) (r9 : PySem.W.findIn K (.ref cR) "tokens" = some none) (r10 : PySem.W.findIn K (.ref cR) "done" = some none) (r11 : PySem.W.findIn K (.ref cR) "steps" = some none)
  (lI : K.lookup fI = some ⟨ocI, odI, .func (PySem.W.fnOf "__init__" "Reader.__init__" (yN vC) (yF vC) (yB vC) .none kVI dcI pmI anI cdI ctI), slI⟩) (cI : PySem.W.codeIn K cdI "Reader.__init__" = true) (kI : PySem.W.keepIn K (.ref fI) = true)
  : ∃ fd : FuncData, (∀ (s : Shared) (v : Value), BindsTo s fd ⟨[v], []⟩ [("_law_script", v)]) /\ ∀ base : Heap, K.In base -> base.Ns mainGlobals mg -> qU l.prog w K mg base CX0 9 fa fd ["_law_script"] (spC K aSE) := by
 have e := hfa.symm.trans (PySem.W.mg_of X G a46)
 cases e
 have m_len := PySem.W.mg_none_of X G z_len
 have m_tuple := PySem.W.mg_none_of X G z_tuple
 have m_max := PySem.W.mg_none_of X G z_max
 have m_range := PySem.W.mg_none_of X G z_range
 have m_enumerate := PySem.W.mg_none_of X G z_enumerate
 have m_all := PySem.W.mg_none_of X G z_all
 have m_isinstance := PySem.W.mg_none_of X G z_isinstance
 have m_str := PySem.W.mg_none_of X G z_str
 have m_list := PySem.W.mg_none_of X G z_list
 have m_int := PySem.W.mg_none_of X G z_int
 have m_abs := PySem.W.mg_none_of X G z_abs
 have F1 := yS (st := zG) l1 c1 k1
 have m1 := PySem.W.mg_of X G a1
 have bd1 := F1.binds (ps := ["parts", "nought"]) fun _ _ _ _ _ _ us hl => aCM hl fun _ _ => rfl
 have F2 := yS (st := vZ) l2 c2 k2
 have m2 := PySem.W.mg_of X G a2
 have bd2 := F2.binds (ps := ["parts", "power", "nought"]) fun _ _ _ _ _ _ us hl => eGY hl fun _ _ _ => rfl
 have F3 := yS (st := aBV) l3 c3 k3
 have m3 := PySem.W.mg_of X G a3
 have bd3 := F3.binds (ps := ["numbers"]) fun _ _ _ _ _ _ us hl => wL hl fun _ => rfl
 have F4 := yS (st := qT) l4 c4 k4
 have m4 := PySem.W.mg_of X G a4
 have bd4 := F4.binds (ps := ["f", "g"]) fun _ _ _ _ _ _ us hl => aCM hl fun _ _ => rfl
 have F5 := yS (st := qL) l5 c5 k5
 have m5 := PySem.W.mg_of X G a5
 have bd5 := F5.binds (ps := ["f"]) fun _ _ _ _ _ _ us hl => wL hl fun _ => rfl
 have F6 := yS (st := qP) l6 c6 k6
 have m6 := PySem.W.mg_of X G a6
 have bd6 := F6.binds (ps := ["f", "g"]) fun _ _ _ _ _ _ us hl => aCM hl fun _ _ => rfl
 have F7 := yS (st := vQ) l7 c7 k7
 have m7 := PySem.W.mg_of X G a7
 have bd7 := F7.binds (ps := ["rows"]) fun _ _ _ _ _ _ us hl => wL hl fun _ => rfl
 have F8 := yS (st := zP) l8 c8 k8
 have m8 := PySem.W.mg_of X G a8
 have bd8 := F8.binds (ps := ["f", "g"]) fun _ _ _ _ _ _ us hl => aCM hl fun _ _ => rfl
 have F9 := yS (st := qF) l9 c9 k9
 have m9 := PySem.W.mg_of X G a9
 have bd9 := F9.binds (ps := ["f", "g"]) fun _ _ _ _ _ _ us hl => aCM hl fun _ _ => rfl
 have F10 := yS (st := zK) l10 c10 k10
 have m10 := PySem.W.mg_of X G a10
 have bd10 := F10.binds (ps := ["f", "g"]) fun _ _ _ _ _ _ us hl => aCM hl fun _ _ => rfl
 have F11 := yS (st := jD) l11 c11 k11
 have m11 := PySem.W.mg_of X G a11
 have bd11 := F11.binds (ps := ["token"]) fun _ _ _ _ _ _ us hl => wL hl fun _ => rfl
 have F12 := yS (st := qM) l12 c12 k12
 have m12 := PySem.W.mg_of X G a12
 have bd12 := F12.binds (ps := ["text", "start"]) fun _ _ _ _ _ _ us hl => aCM hl fun _ _ => rfl
 have F13 := yS (st := yQ) l13 c13 k13
 have m13 := PySem.W.mg_of X G a13
 have bd13 := F13.binds (ps := ["run"]) fun _ _ _ _ _ _ us hl => wL hl fun _ => rfl
 have F14 := yS (st := vP) l14 c14 k14
 have m14 := PySem.W.mg_of X G a14
 have bd14 := F14.binds (ps := ["text", "start"]) fun _ _ _ _ _ _ us hl => aCM hl fun _ _ => rfl
 have F15 := yS (st := jA) l15 c15 k15
 have m15 := PySem.W.mg_of X G a15
 have bd15 := F15.binds (ps := ["text"]) fun _ _ _ _ _ _ us hl => wL hl fun _ => rfl
 have F16 := yS (st := qB) l16 c16 k16
 have m16 := PySem.W.mg_of X G a16
 have bd16 := F16.binds (ps := ["tokens", "opening", "closing"]) fun _ _ _ _ _ _ us hl => eGY hl fun _ _ _ => rfl
 have F17 := yS (st := qG) l17 c17 k17
 have m17 := PySem.W.mg_of X G a17
 have bd17 := F17.binds (ps := ["text", "most"]) fun _ _ _ _ _ _ us hl => aCM hl fun _ _ => rfl
 have F18 := yS (st := qE) l18 c18 k18
 have m18 := PySem.W.mg_of X G a18
 have bd18 := F18.binds (ps := ["reader"]) fun _ _ _ _ _ _ us hl => wL hl fun _ => rfl
 have F19 := yS (st := qK) l19 c19 k19
 have m19 := PySem.W.mg_of X G a19
 have bd19 := F19.binds (ps := ["reader"]) fun _ _ _ _ _ _ us hl => wL hl fun _ => rfl
 have F20 := yS (st := qA) l20 c20 k20
 have m20 := PySem.W.mg_of X G a20
 have bd20 := F20.binds (ps := ["reader", "tokens"]) fun _ _ _ _ _ _ us hl => aCM hl fun _ _ => rfl
 have F21 := yS (st := zI) l21 c21 k21
 have m21 := PySem.W.mg_of X G a21
 have bd21 := F21.binds (ps := ["reader"]) fun _ _ _ _ _ _ us hl => wL hl fun _ => rfl
 have F22 := yS (st := jC) l22 c22 k22
 have m22 := PySem.W.mg_of X G a22
 have bd22 := F22.binds (ps := ["reader"]) fun _ _ _ _ _ _ us hl => wL hl fun _ => rfl
 have F23 := yS (st := qC) l23 c23 k23
 have m23 := PySem.W.mg_of X G a23
 have bd23 := F23.binds (ps := ["reader"]) fun _ _ _ _ _ _ us hl => wL hl fun _ => rfl
 have F24 := yS (st := qD) l24 c24 k24
 have m24 := PySem.W.mg_of X G a24
 have bd24 := F24.binds (ps := ["reader"]) fun _ _ _ _ _ _ us hl => wL hl fun _ => rfl
 have F25 := yS (st := zO) l25 c25 k25
 have m25 := PySem.W.mg_of X G a25
 have bd25 := F25.binds (ps := ["reader"]) fun _ _ _ _ _ _ us hl => wL hl fun _ => rfl
 have F26 := yS (st := jU) l26 c26 k26
 have m26 := PySem.W.mg_of X G a26
 have bd26 := F26.binds (ps := ["reader"]) fun _ _ _ _ _ _ us hl => wL hl fun _ => rfl
 have F27 := yS (st := wB) l27 c27 k27
 have m27 := PySem.W.mg_of X G a27
 have bd27 := F27.binds (ps := ["token"]) fun _ _ _ _ _ _ us hl => wL hl fun _ => rfl
 have F28 := yS (st := yY) l28 c28 k28
 have m28 := PySem.W.mg_of X G a28
 have bd28 := F28.binds (ps := ["f", "many"]) fun _ _ _ _ _ _ us hl => aCM hl fun _ _ => rfl
 have F29 := yS (st := yX) l29 c29 k29
 have m29 := PySem.W.mg_of X G a29
 have bd29 := F29.binds (ps := ["step", "boards"]) fun _ _ _ _ _ _ us hl => aCM hl fun _ _ => rfl
 have F30 := yS (st := jR) l30 c30 k30
 have m30 := PySem.W.mg_of X G a30
 have bd30 := F30.binds (ps := ["text"]) fun _ _ _ _ _ _ us hl => wL hl fun _ => rfl
 have F31 := yS (st := zT) l31 c31 k31
 have m31 := PySem.W.mg_of X G a31
 have bd31 := F31.binds (ps := ["x_power", "y_power"]) fun _ _ _ _ _ _ us hl => aCM hl fun _ _ => rfl
 have F32 := yS (st := zD) l32 c32 k32
 have m32 := PySem.W.mg_of X G a32
 have bd32 := F32.binds (ps := ["size", "x_power", "y_power"]) fun _ _ _ _ _ _ us hl => eGY hl fun _ _ _ => rfl
 have F33 := yS (st := zJ) l33 c33 k33
 have m33 := PySem.W.mg_of X G a33
 have bd33 := F33.binds (ps := ["board"]) fun _ _ _ _ _ _ us hl => wL hl fun _ => rfl
 have F34 := yS (st := jB) l34 c34 k34
 have m34 := PySem.W.mg_of X G a34
 have bd34 := F34.binds (ps := ["board"]) fun _ _ _ _ _ _ us hl => wL hl fun _ => rfl
 have F35 := yS (st := jE) l35 c35 k35
 have m35 := PySem.W.mg_of X G a35
 have bd35 := F35.binds (ps := ["_law_script", "_law_k"]) fun _ _ _ _ _ _ us hl => aCM hl fun _ _ => rfl
 have F36 := yS (st := yW) l36 c36 k36
 have m36 := PySem.W.mg_of X G a36
 have bd36 := F36.binds (ps := ["_law_cell_here", "_law_many"]) fun _ _ _ _ _ _ us hl => aCM hl fun _ _ => rfl
 have F37 := yS (st := qH) l37 c37 k37
 have m37 := PySem.W.mg_of X G a37
 have bd37 := F37.binds (ps := ["_law_parts"]) fun _ _ _ _ _ _ us hl => wL hl fun _ => rfl
 have F38 := yS (st := yT) l38 c38 k38
 have m38 := PySem.W.mg_of X G a38
 have bd38 := F38.binds (ps := ["_law_parts"]) fun _ _ _ _ _ _ us hl => wL hl fun _ => rfl
 have F39 := yS (st := qI) l39 c39 k39
 have m39 := PySem.W.mg_of X G a39
 have bd39 := F39.binds (ps := ["_law_one", "_law_other"]) fun _ _ _ _ _ _ us hl => aCM hl fun _ _ => rfl
 have F40 := yS (st := jS) l40 c40 k40
 have m40 := PySem.W.mg_of X G a40
 have bd40 := F40.binds (ps := ["_law_xs"]) fun _ _ _ _ _ _ us hl => wL hl fun _ => rfl
 have F41 := yS (st := qN) l41 c41 k41
 have m41 := PySem.W.mg_of X G a41
 have bd41 := F41.binds (ps := ["_law_xs"]) fun _ _ _ _ _ _ us hl => wL hl fun _ => rfl
 have F42 := yS (st := jF) l42 c42 k42
 have m42 := PySem.W.mg_of X G a42
 have bd42 := F42.binds (ps := ["_law_cell_here"]) fun _ _ _ _ _ _ us hl => wL hl fun _ => rfl
 have F43 := yS (st := zM) l43 c43 k43
 have m43 := PySem.W.mg_of X G a43
 have bd43 := F43.binds (ps := ["_law_letter_here", "_law_power"]) fun _ _ _ _ _ _ us hl => aCM hl fun _ _ => rfl
 have F44 := yS (st := yZ) l44 c44 k44
 have m44 := PySem.W.mg_of X G a44
 have bd44 := F44.binds (ps := ["_law_board_here"]) fun _ _ _ _ _ _ us hl => wL hl fun _ => rfl
 have F45 := yS (st := jV) l45 c45 k45
 have m45 := PySem.W.mg_of X G a45
 have bd45 := F45.binds (ps := ["_law_xs"]) fun _ _ _ _ _ _ us hl => wL hl fun _ => rfl
 have F46 := yS (st := aGB) l46 c46 k46
 have m46 := PySem.W.mg_of X G a46
 refine ⟨PySem.W.fnOf "law" "law" (yN aGB) (yF aGB) (yB aGB) .none kV46 dc46 pm46 an46 cd46 ct46, fun s v => .of_eq rfl, fun base KB _ => ?_⟩
 have FI := yS (st := vC) lI cI kI
 have bdI := FI.binds (ps := ["self", "tokens"]) fun _ _ _ _ _ _ us hl => aCM hl fun _ _ => rfl
 have okI : qU l.prog w K mg base CX0 1 _ _ _ (aSR cR) := eGB ht FI aJP ⟨r5, r6, r7, r8⟩ r9 r10 r11 rfl rfl rfl
 have ok1 : qU l.prog w K mg base CX0 1 _ _ _ (spC K vI) := jZ ht F1 aJG aHT fun XX hX => aNL hX m_len m_tuple
 have ok2 : qU l.prog w K mg base CX0 1 _ _ _ (spC K aCZ) := jZ ht F2 aUK aRE fun XX hX => aZP hX m_len
 have ok3 : qU l.prog w K mg base CX0 2 _ _ _ (spC K aEV) := jZ ht F3 aWI aUU fun XX hX => eBT hX  (hX.callee ok1 (by decide) m1 k1 bd1)
 have ok4 : qU l.prog w K mg base CX0 3 _ _ _ (spC K aBS) := jZ ht F4 aQK aOU fun XX hX => aVG hX m_max m_len m_range (hX.callee ok3 (by decide) m3 k3 bd3) (hX.callee ok2 (by decide) m2 k2 bd2)
 have ok5 : qU l.prog w K mg base CX0 1 _ _ _ (spC K aAV) := jZ ht F5 aLI aJT fun XX hX => aPT hX m_tuple
 have ok6 : qU l.prog w K mg base CX0 3 _ _ _ (spC K aCC) := jZ ht F6 aNZ aMG fun XX hX => aRW hX m_enumerate m_len (hX.callee ok3 (by decide) m3 k3 bd3)
 have ok7 : qU l.prog w K mg base CX0 2 _ _ _ (spC K aBT) := jZ ht F7 aQM aOW fun XX hX => aVH hX  (hX.callee ok1 (by decide) m1 k1 bd1)
 have ok8 : qU l.prog w K mg base CX0 4 _ _ _ (spC K wF) := jZ ht F8 aLL aJW fun XX hX => aPV hX m_max m_len m_range (hX.callee ok7 (by decide) m7 k7 bd7) (hX.callee ok4 (by decide) m4 k4 bd4) (hX.callee ok2 (by decide) m2 k2 bd2)
 have ok9 : qU l.prog w K mg base CX0 5 _ _ _ (spC K aAH) := jZ ht F9 aJN aIA fun XX hX => aNP hX m_tuple (hX.callee ok8 (by decide) m8 k8 bd8) (hX.callee ok5 (by decide) m5 k5 bd5)
 have ok10 : qU l.prog w K mg base CX0 4 _ _ _ (spC K vL) := jZ ht F10 aJM aHZ fun XX hX => aNO hX m_enumerate m_len (hX.callee ok7 (by decide) m7 k7 bd7) (hX.callee ok4 (by decide) m4 k4 bd4) (hX.callee ok6 (by decide) m6 k6 bd6)
 have ok11 : qU l.prog w K mg base CX0 1 _ _ _ (spC K aCF) := jZ ht F11 aOD aMK fun XX hX => aRY hX   ⟨tk_FIGURES, PySem.W.mg_of X G gc_FIGURES⟩
 have ok12 : qU l.prog w K mg base CX0 1 _ _ _ (spC K aAW) := jZ ht F12 aLK aJV fun XX hX => aPU hX m_len
 have ok13 : qU l.prog w K mg base CX0 1 _ _ _ (spC K qX) := eDE ht F13 aDT aDK fun XX hX => aEU hX m_all m_len  ⟨g_WORDS, PySem.W.mg_of X G ga_WORDS, .tup gl_WORDS rfl rfl gp_WORDS⟩ ⟨tk_FIGURES, PySem.W.mg_of X G gc_FIGURES⟩
 have ok14 : qU l.prog w K mg base CX0 2 _ _ _ (spC K aDH) := jZ ht F14 aQJ aOT fun XX hX => aVF hX  (hX.callee ok13 (by decide) m13 k13 bd13) (hX.callee ok12 (by decide) m12 k12 bd12) ⟨g_DOUBLE_SIGNS, PySem.W.mg_of X G ga_DOUBLE_SIGNS, .tup gl_DOUBLE_SIGNS rfl rfl gp_DOUBLE_SIGNS⟩
 have ok15 : qU l.prog w K mg base CX0 3 _ _ _ (spC K aCA) := jZ ht F15 aNX aME fun XX hX => aRU hX m_len (hX.callee ok14 (by decide) m14 k14 bd14)
 have ok16 : qU l.prog w K mg base CX0 1 _ _ _ (spC K aAE) := eDE ht F16 aJJ aHW fun XX hX => aNM hX   ⟨tk_MOST_OPEN, PySem.W.mg_of X G gc_MOST_OPEN⟩
 have okrn17 : qU l.prog w K mg base CX0 6 _ _ _ (eLG K aCD) := eGC ht F17 aOA aMH fun XX hX => aPM hX m_isinstance m_str m_len (hX.callee ok15 (by decide) m15 k15 bd15) (hX.callee ok16 (by decide) m16 k16 bd16) (hX.mkR okI (by decide) ⟨r1, r2, r3, r4⟩ (PySem.W.mg_of X G eR) bdI ⟨r5, r6, r7, r8⟩ r9 r10 r11)
 have okz18 : qU l.prog w K mg base CX0 1 _ _ _ (spR K zS) := aER ht F18 aLJ aJU fun XX hX => aNJ hX m_len
 have okz19 : qU l.prog w K mg base CX0 2 _ _ _ (spR K zR) := aER ht F19 aLG aJR fun XX hX => aNH hX  (hX.calleeR okz18 (by decide) m18 k18 bd18)
 have okz20 : qU l.prog w K mg base CX0 3 _ _ _ (spR K aAC) := aER ht F20 aJH aHU fun XX hX => aKA hX  (hX.calleeR okz19 (by decide) m19 k19 bd19)
 have okz21 : qU l.prog w K mg base CX0 1 _ _ _ (spR K aAD) := aER ht F21 aJI aHV fun XX hX => aKB hX m_len
 have okz22 : qU l.prog w K mg base CX0 3 _ _ _ (spR K aCE) := aER ht F22 aOC aMJ fun XX hX => aPL hX  (hX.calleeR okz19 (by decide) m19 k19 bd19) (hX.callee ok11 (by decide) m11 k11 bd11)
 have okz23 : qU l.prog w K mg base CX0 4 _ _ _ (spR K aAU) := aER ht F23 aLH aJS fun XX hX => aNI hX m_list (hX.calleeR okz22 (by decide) m22 k22 bd22) (hX.calleeR okz18 (by decide) m18 k18 bd18) (hX.calleeR okz19 (by decide) m19 k19 bd19) (hX.calleeR okz20 (by decide) m20 k20 bd20) ⟨tk_FIGURES, PySem.W.mg_of X G gc_FIGURES⟩
 have okz24 : qU l.prog w K mg base CX0 5 _ _ _ (spR K aAF) := aER ht F24 aJK aHX fun XX hX => aKC hX  (hX.calleeR okz23 (by decide) m23 k23 bd23) (hX.calleeR okz18 (by decide) m18 k18 bd18) (hX.calleeR okz19 (by decide) m19 k19 bd19) ⟨tk_MOST_MINUSES, PySem.W.mg_of X G gc_MOST_MINUSES⟩
 have okz25 : qU l.prog w K mg base CX0 6 _ _ _ (spR K vW) := aER ht F25 aHG aGD fun XX hX => aIR hX  (hX.calleeR okz24 (by decide) m24 k24 bd24) (hX.calleeR okz18 (by decide) m18 k18 bd18) (hX.calleeR okz19 (by decide) m19 k19 bd19)
 have okz26 : qU l.prog w K mg base CX0 7 _ _ _ (spR K aDI) := aER ht F26 aQL aOV fun XX hX => aRS hX  (hX.calleeR okz25 (by decide) m25 k25 bd25) (hX.calleeR okz18 (by decide) m18 k18 bd18) (hX.calleeR okz19 (by decide) m19 k19 bd19)
 have ok27 : qU l.prog w K mg base CX0 1 _ _ _ (spC K aEW) := jZ ht F27 aUL aRF fun XX hX => aZQ hX m_int
 have ok28 : qU l.prog w K mg base CX0 5 _ _ _ (spC K jQ) := jZ ht F28 aFB aEP fun XX hX => aGH hX m_range (hX.callee ok10 (by decide) m10 k10 bd10)
 have okm29 : qU l.prog w K mg base CX0 6 _ _ _ (eLH K wM) := eGD ht F29 aFA rfl fun XX hX => aFM hX m_int (hX.callee ok10 (by decide) m10 k10 bd10) (hX.callee ok9 (by decide) m9 k9 bd9) (hX.callee ok8 (by decide) m8 k8 bd8) (hX.callee ok28 (by decide) m28 k28 bd28) (hX.callee ok27 (by decide) m27 k27 bd27)
 have ok30 : qU l.prog w K mg base CX0 8 _ _ _ (spC K aAP) := jZ ht F30 aOB aMI fun XX hX => aRX hX  (hX.calleeRN okrn17 (by decide) m17 k17 bd17) (hX.calleeR okz26 (by decide) m26 k26 bd26) (hX.calleeR okz21 (by decide) m21 k21 bd21) (hX.calleeM2 okm29 (by decide) m29 k29 bd29) ⟨tk_MOST_SIGNS, PySem.W.mg_of X G gc_MOST_SIGNS⟩
 have ok31 : qU l.prog w K mg base CX0 1 _ _ _ (spC K vK) := jZ ht F31 aFZ aFF fun XX hX => aIV hX
 have ok32 : qU l.prog w K mg base CX0 2 _ _ _ (spC K vJ) := jZ ht F32 aFY aFE fun XX hX => aIU hX m_str (hX.callee ok31 (by decide) m31 k31 bd31)
 have ok33 : qU l.prog w K mg base CX0 1 _ _ _ (spC K aAG) := jZ ht F33 aJL aHY fun XX hX => aNN hX m_range m_len
 have ok34 : qU l.prog w K mg base CX0 3 _ _ _ (spC K aCB) := jZ ht F34 aNY aMF fun XX hX => aRV hX m_abs (hX.callee ok33 (by decide) m33 k33 bd33) (hX.callee ok32 (by decide) m32 k32 bd32)
 have ok35 : qU l.prog w K mg base CX0 1 _ _ _ (spC K aCI) := jZ ht F35 aOG aMN fun XX hX => aSA hX m_len
 have ok36 : qU l.prog w K mg base CX0 1 _ _ _ (spC K jN) := jZ ht F36 aHI aGF fun XX hX => aKD hX m_range m_abs m_int
 have ok37 : qU l.prog w K mg base CX0 1 _ _ _ (spC K aCG) := jZ ht F37 aOE aML fun XX hX => aRZ hX m_list m_tuple m_len
 have ok38 : qU l.prog w K mg base CX0 2 _ _ _ (spC K qJ) := jZ ht F38 aGA aFG fun XX hX => aIW hX m_range m_tuple m_len (hX.callee ok37 (by decide) m37 k37 bd37)
 have okd39 : qU l.prog w K mg base CX0 1 _ _ _ (spD K vX) := aYH ht F39 aHH aGE fun XX hX => aIT hX
 have okd40 : qU l.prog w K mg base CX0 1 _ _ _ (spD K aCH) := aYH ht F40 aOF aMM fun XX hX => aPS hX
 have okd41 : qU l.prog w K mg base CX0 1 _ _ _ (spD K aAY) := aYH ht F41 aLN aJY fun XX hX => aNK hX m_range
 have ok42 : qU l.prog w K mg base CX0 3 _ _ _ (spC K aAZ) := jZ ht F42 aLO aJZ fun XX hX => aPX hX  (hX.callee ok36 (by decide) m36 k36 bd36) (hX.callee ok38 (by decide) m38 k38 bd38) (hX.calleeD okd40 (by decide) m40 k40 bd40) (hX.calleeD okd41 (by decide) m41 k41 bd41) (hX.calleeD okd39 (by decide) m39 k39 bd39)
 have ok43 : qU l.prog w K mg base CX0 1 _ _ _ (spC K aAI) := jZ ht F43 aJO aIB fun XX hX => aNQ hX m_int m_str
 have ok44 : qU l.prog w K mg base CX0 2 _ _ _ (spC K aAX) := jZ ht F44 aLM aJX fun XX hX => aPW hX m_range m_int m_len m_abs m_str (hX.callee ok43 (by decide) m43 k43 bd43)
 have ok45 : qU l.prog w K mg base CX0 3 _ _ _ (spC K aDJ) := jZ ht F45 aQN aOX fun XX hX => aVI hX m_range (hX.callee ok38 (by decide) m38 k38 bd38)
 have ok46 : qU l.prog w K mg base CX0 9 _ _ _ (spC K aSE) := jZ ht F46 eHT eFU fun XX hX => eNH hX m_isinstance m_str (hX.callee ok36 (by decide) m36 k36 bd36) (hX.callee ok42 (by decide) m42 k42 bd42) (hX.callee ok34 (by decide) m34 k34 bd34) (hX.callee ok35 (by decide) m35 k35 bd35) (hX.callee ok45 (by decide) m45 k45 bd45) (hX.callee ok44 (by decide) m44 k44 bd44) (hX.callee ok30 (by decide) m30 k30 bd30)
 exact ok46
theorem walk {l : PySem.W.OpenLaw} {q : Program} {loose : List Str} {XP : (Str -> Option Value) -> Heap -> Prop} {YP : World -> Heap -> Prop} {d : DefRec} {K : Params -> PySem.W.Frag} (hq : importsNone q = true) (hn : l.most = some 63) (hdf : d.params.defaults = [])
  (hY : ∀ (w : World) (h : Heap), YP w h -> (K w.params).In h)
  (F : ∀ (w : World) (mg : Str -> Option Value) (fa : Addr) (h : Heap), (K w.params).In h -> h.Ns mainGlobals mg -> mg d.name = some (.ref fa) ->
   ∃ fd : FuncData, (∀ (s : Shared) (u : Value), BindsTo s fd ⟨[u], []⟩ [("_law_script", u)]) /\ ∀ base : Heap, (K w.params).In base -> base.Ns mainGlobals mg -> qU l.prog w (K w.params) mg base CX0 9 fa fd ["_law_script"] (spC (K w.params) aSE)) :
  PySem.W.WalkO q loose XP YP l.row.toRowW d [] (fun f vs => PySem.call f vs) :=
 L2.walk_of (n := 63) (k := 9) (x := "_law_script") (CX := fun _ => CX0) (sp := fun w => spC (K w.params) aSE) hq hn (by decide) hdf ⟨rfl, by decide, by decide⟩ hY F (fun _ H a ns hl hO hS => ⟨H, [.scr ns], .bl true, .refl _, .cons (.scr hS) .nil, eBG ns hl, fun v F' H' x r => by cases r; rfl⟩) fun _ _ _ _ _ z => z
end
end My
namespace PySem.W.Fast
def tw17610402477041494668 := ()
def tw13359660208528447540 := ()
def tw10583499075988154224 := ()
def tw14361865666700431813 := ()
def tw15129709877549647785 := ()
def tw2717479690481045292 := ()
def tw8069691818839708924 := ()
def tw6604977677863317493 := ()
def tw197843202206203204 := ()
def tw5766779542213869513 := ()
def tw5906208327218444262 := ()
theorem te17885383710236645607 : True := trivial
def tw11001305871312124934 := ()
def tw534908488850839168 := ()
def tw5654236604294961458 := ()
def tw15957933440035090229 := ()
def tw4268896782447843284 := ()
def tw10619989483211676286 := ()
def tw4469707490590447102 := ()
def tw9281881011609864794 := ()
def tw11863238823399779732 := ()
def tw4961900859865399312 := ()
def tw7943945877231467761 := ()
def tw303961961353813003 := ()
def tw2150346658015853922 := ()
def tw753520662989037887 := ()
def tw1483738847569521117 := ()
def tw11361145488927633718 := ()
def tw17441338925774289071 := ()
def tw13093583927170190968 := ()
def tw15413041375165727665 := ()
def tw14580079850201836303 := ()
def tw6523530314053843091 := ()
def tw12919066811573343519 := ()
def tw15301757889896382668 := ()
def tw3496129934198599662 := ()
def tw10273570172388875373 := ()
def tw9317690228294308249 := ()
def tw16439355799037804589 := ()
def tw14677952159908316332 := ()
def tw2576374191559872757 := ()
def tw15068238424991222883 := ()
def tw4925048661519748849 := ()
def tw5805017515241001538 := ()
def tw17935124031737669735 := ()
def tw13267907955252686939 := ()
def tw15525834800267844967 := ()
def tw51026430732058336 := ()
def tw6927694229684600068 := ()
def tw3778824371612861172 := ()
def tw12398421391008630490 := ()
def tw9614636418751370767 := ()
def tw13786971930985371561 := ()
def tw1725753631035983972 := ()
def tw1116543089316123212 := ()
def tw7577556799407402682 := ()
def tw2483540038281994658 := ()
def tw12318647440135695115 := ()
def tw6633479505819171843 := ()
def tw6705196395204795228 := ()
def tw6211414162254362276 := ()
def tw3258629196028877978 := ()
def tw7838464713446471621 := ()
def tw6569628054203219543 := ()
def tw12332464062888477472 := ()
def tw10129124313451377104 := ()
def tw17371524147586340490 := ()
def tw6913412347254540971 := ()
def tw10084444312103753077 := ()
def tw4493402313321000262 := ()
def tw2658482843409027072 := ()
def tw5151252195410240167 := ()
def tw16533418357323194195 := ()
def tw18050516706973717707 := ()
def tw5846033108633020406 := ()
def tw10220739651398511729 := ()
def tw10408123337322700866 := ()
def tw5955289217956207826 := ()
def tw5127723486763501445 := ()
def tw10168401579005364316 := ()
def tw13015764559525801156 := ()
def tw6491778995071494049 := ()
def tw4380968596809452356 := ()
def tw14455246580825838566 := ()
def tw3186900395034779170 := ()
def tw13734672627965080904 := ()
def tw9848648723579596812 := ()
def tw10928753839397125773 := ()
def tw14449822025052441485 := ()
def tw5788605656350346963 := ()
def tw248967270917635152 := ()
def tw15168791091080178460 := ()
def tw4149576270193286286 := ()
def tw2723370490387329044 := ()
def tw1653027983941382275 := ()
def tw11172984114287745766 := ()
def tw11148294043501422290 := ()
def tw911428075222105367 := ()
def tw7416512438849074629 := ()
def tw3842342914588856710 := ()
def tw5028227667744855080 := ()
def tw13090822580898962099 := ()
def tw7901383525293390047 := ()
def tw5616480932499254258 := ()
def tw2388381248170144006 := ()
def tw11995614594921832701 := ()
def tw6635341348248434002 := ()
def tw17203379022395889887 := ()
def tw11132829587176908592 := ()
def tw643134287025276435 := ()
def tw14648227658211569691 := ()
def tw15039544166833082556 := ()
def tw4379629389522389796 := ()
def tw11659410979125412110 := ()
def tw12106053096578184990 := ()
def tw9778063395155036079 := ()
def tw6536149562270980283 := ()
def tw17991670540274393401 := ()
def tw6278854720047497211 := ()
def tw10125239017024187187 := ()
def tw12209450568790281815 := ()
def tw7997082496010563906 := ()
def tw11836893440011400603 := ()
def tw14201962126173886401 := ()
def tw13935214374623636567 := ()
def tw58198976499457336 := ()
def tw1855753648706089170 := ()
def tw14869415118564134791 := ()
def tw16989559326178835857 := ()
def tw14609050082710936865 := ()
def tw14560942393904054630 := ()
def tw9359238817270562833 := ()
def tw743171894134108961 := ()
def tw14187283060145444172 := ()
def tw13560324397884678443 := ()
def tw11924074915160056178 := ()
def tw4205695977270369060 := ()
def tw9663140420236484305 := ()
def tw17315851394065765763 := ()
def tw12266604651164246921 := ()
def tw8210509410448283050 := ()
def tw10608035467114767116 := ()
def tw5036901821378316211 := ()
def tw2440626652106848056 := ()
def tw5423444041663302408 := ()
def tw17789995326217133265 := ()
def tw6989239568559505481 := ()
def tw13463590359892553329 := ()
def tw5177637000096087857 := ()
def tw13058809216599679692 := ()
def tw3975331564467948492 := ()
def tw3479371262645918992 := ()
def tw6981037254783653170 := ()
def tw865164155791125027 := ()
def tw6805205994445358636 := ()
def tw1594880868110767268 := ()
def tw18183566769468017007 := ()
def tw3513037419145597269 := ()
def tw4046134507639261912 := ()
def tw3676590897918151192 := ()
def tw10846471425235550730 := ()
def tw13238725757269392974 := ()
def tw8681856806159921006 := ()
def tw15628242794604130422 := ()
def tw2590146075077905836 := ()
def tw16534741930871942514 := ()
def tw12671795153588732444 := ()
def tw13388537305957188988 := ()
def tw8107633752661033540 := ()
def tw1724368119549685004 := ()
def tw1891503477539117567 := ()
def tw18154198961115323194 := ()
def tw10506068752007053064 := ()
def tw13775772173391162958 := ()
def tw2950833807440376928 := ()
def tw11090784972982963440 := ()
def tw2187239838248011648 := ()
def tw4185241402002839381 := ()
def tw839498232220634621 := ()
def tw13839312418632913141 := ()
def tw6390137898996009223 := ()
def tw9841019735047935222 := ()
def tw12525202061627165694 := ()
def tw15155586367042306269 := ()
def tw3364657752975234491 := ()
def tw13754151020998154587 := ()
def tw6787322028323904440 := ()
def tw5017870336302857466 := ()
def tw557984044262425385 := ()
def tw10549405504266223954 := ()
def tw48635149473294671 := ()
def tw17186841346254858134 := ()
def tw5127672427428888666 := ()
def tw2304438452909455241 := ()
def tw12964300341490452615 := ()
def tw8382505646274652051 := ()
def tw7633722956373291193 := ()
def tw3640770358336429756 := ()
def tw12942789982289917232 := ()
def tw10517681429072206922 := ()
def tw10141770688625533322 := ()
def tw11511931680522185150 := ()
def tw12384511982687035981 := ()
def tw5347900045440722938 := ()
def tw10580370677265899043 := ()
def tw8143186071061407314 := ()
def tw7816774459967597817 := ()
def tw16380741867194200999 := ()
def tw921423533865365867 := ()
def tw1409556047691902570 := ()
def tw10977550237606102534 := ()
def tw18259810650724067277 := ()
def tw11061368990726107391 := ()
def tw12161123654700650736 := ()
def tw9506466819284749061 := ()
def tw15855181332767441129 := ()
def tw17278312171023900556 := ()
def tw12846647313895701771 := ()
def tw15537254516035106158 := ()
def tw12353622663434804858 := ()
def tw5349827736539457091 := ()
def tw5869301314920105189 := ()
def tw13424576544006358928 := ()
def tw15756221164219916247 := ()
def tw11860734434939885059 := ()
def tw4024959795563704365 := ()
def tw482754579979141210 := ()
def tw9270542983315971601 := ()
def tw4910532786180268035 := ()
def tw17562604540781934896 := ()
def tw16228294857743673489 := ()
def tw4935013085734042984 := ()
def tw16853754369230034154 := ()
def tw7035655173357473380 := ()
def tw13615340603687662588 := ()
def tw1954872823137245586 := ()
def tw681923795915471010 := ()
def tw14488803524977739263 := ()
def tw1259463421375914745 := ()
def tw3632683510826007335 := ()
def tw6927100097477320423 := ()
def tw10472077968407918868 := ()
def tw9665609135673039122 := ()
def tw5071917677716977061 := ()
def tw11652252206663911750 := ()
def tw15602062743781739778 := ()
def tw18319125391877051475 := ()
def tw2220268948705467767 := ()
def tw3837347723999347514 := ()
def tw8502178667077544934 := ()
def tw15263047217170114435 := ()
def tw15635263985534200100 := ()
def tw8424080001933792614 := ()
def tw6979637877164721297 := ()
def tw12485545497450967557 := ()
def tw1066229291619120794 := ()
def tw8938644773343266432 := ()
def tw8624044422616866674 := ()
def tw4456395814191610291 := ()
def tw3264535952749829761 := ()
def tw9459451880290053637 := ()
def tw13997775327198921392 := ()
def tw17888090731133414706 := ()
def tw10884117974715148632 := ()
def tw18079021619254705970 := ()
def tw8423775080641436492 := ()
def tw6033023525942094560 := ()
def tw1804490722359291073 := ()
def tw18135867773394041228 := ()
def tw2200555637600559209 := ()
def tw9215020581889705989 := ()
def tw14826868695876535932 := ()
def tw17657905532122206177 := ()
def tw3764661628566475027 := ()
def tw5419450554930130636 := ()
def tw1047807464892888987 := ()
def tw15280794316209938165 := ()
def tw7568405551301023203 := ()
def tw14800115678924770491 := ()
def tw7667372973544069319 := ()
def tw6189946992460746242 := ()
def tw17717709934447052699 := ()
def tw3437480886294547971 := ()
def tw13448105125244790075 := ()
def tw404274876508703501 := ()
def tw13811371863169628139 := ()
def tw4543718527086779993 := ()
def tw13564145097139271717 := ()
def tw11021115086387293003 := ()
def tw17286589342447914278 := ()
def tw6799798433213192370 := ()
def tw3836103720034420252 := ()
def tw5485458086971562831 := ()
def tw5161220184682893895 := ()
def tw2642939877346332315 := ()
def tw5653619632338005151 := ()
def tw9917724813060852891 := ()
def tw13104818081084122720 := ()
def tw13830276131616628466 := ()
def tw1377170656336148440 := ()
def tw16753043753677376498 := ()
def tw12567427958547628207 := ()
def tw4932859192620731664 := ()
def tw8591248155129277293 := ()
def tw4834224333204780518 := ()
def tw4791344073818436394 := ()
def tw13147682721888002035 := ()
def tw13272074476829959992 := ()
def tw16892303828563014822 := ()
def tw6756194730346562826 := ()
def tw15056210995852170190 := ()
def tw6894163390990136370 := ()
def tw1276942753672672924 := ()
def tw17689124154752340748 := ()
def tw5869114820650052708 := ()
def tw13884537815124923532 := ()
def tw17864738297252276507 := ()
def tw4976471375044952442 := ()
def tw1178459294862610851 := ()
def tw1285103318825977190 := ()
end PySem.W.Fast
open PySem PySem.W PyProof.Rows
set_option maxRecDepth 100000 in
set_option maxHeartbeats 0 in
theorem PySem.Challenge.cw_planestacks_k30_terms_shown_holds : PySem.Challenge.rw_planestacks_k30_terms_shown.Holds := by
 w_on; o_law; k_head; (case hw => w_witness2)
 k_fill
 refine My.walk (l := PySem.Challenge.rw_planestacks_k30_terms_shown) (by decide +kernel) rfl rfl (fun w h Y => PySem.W.kIn_of Y) ?F
 case F =>
  intro w mg fa h KX G hmg
  refine' My.all_mk rfl KX G hmg ?a1 ?l1 ?c1 ?k1 ?a2 ?l2 ?c2 ?k2 ?a3 ?l3 ?c3 ?k3 ?a4 ?l4 ?c4 ?k4 ?a5 ?l5 ?c5 ?k5 ?a6 ?l6 ?c6 ?k6 ?a7 ?l7 ?c7 ?k7 ?a8 ?l8 ?c8 ?k8 ?a9 ?l9 ?c9 ?k9 ?a10 ?l10 ?c10 ?k10 ?a11 ?l11 ?c11 ?k11 ?a12 ?l12 ?c12 ?k12 ?a13 ?l13 ?c13 ?k13 ?a14 ?l14 ?c14 ?k14 ?a15 ?l15 ?c15 ?k15 ?a16 ?l16 ?c16 ?k16 ?a17 ?l17 ?c17 ?k17 ?a18 ?l18 ?c18 ?k18 ?a19 ?l19 ?c19 ?k19 ?a20 ?l20 ?c20 ?k20 ?a21 ?l21 ?c21 ?k21 ?a22 ?l22 ?c22 ?k22 ?a23 ?l23 ?c23 ?k23 ?a24 ?l24 ?c24 ?k24 ?a25 ?l25 ?c25 ?k25 ?a26 ?l26 ?c26 ?k26 ?a27 ?l27 ?c27 ?k27 ?a28 ?l28 ?c28 ?k28 ?a29 ?l29 ?c29 ?k29 ?a30 ?l30 ?c30 ?k30 ?a31 ?l31 ?c31 ?k31 ?a32 ?l32 ?c32 ?k32 ?a33 ?l33 ?c33 ?k33 ?a34 ?l34 ?c34 ?k34 ?a35 ?l35 ?c35 ?k35 ?a36 ?l36 ?c36 ?k36 ?a37 ?l37 ?c37 ?k37 ?a38 ?l38 ?c38 ?k38 ?a39 ?l39 ?c39 ?k39 ?a40 ?l40 ?c40 ?k40 ?a41 ?l41 ?c41 ?k41 ?a42 ?l42 ?c42 ?k42 ?a43 ?l43 ?c43 ?k43 ?a44 ?l44 ?c44 ?k44 ?a45 ?l45 ?c45 ?k45 ?a46 ?l46 ?c46 ?k46 ?z_len ?z_tuple ?z_max ?z_range ?z_enumerate ?z_all ?z_isinstance ?z_str ?z_list ?z_int ?z_abs ?ga_WORDS ?gl_WORDS ?gp_WORDS ?ga_DOUBLE_SIGNS ?gl_DOUBLE_SIGNS ?gp_DOUBLE_SIGNS ?gc_FIGURES ?gc_MOST_OPEN ?gc_MOST_MINUSES ?gc_MOST_SIGNS ?eR ?r1 ?r2 ?r3 ?r4 ?r5 ?r6 ?r7 ?r8 ?r9 ?r10 ?r11 ?lI ?cI ?kI
  (case a1 | l1 | c1 | k1 | a2 | l2 | c2 | k2 | a3 | l3 | c3 | k3 | a4 | l4 | c4 | k4 | a5 | l5 | c5 | k5 | a6 | l6 | c6 | k6 | a7 | l7 | c7 | k7 | a8 | l8 | c8 | k8 | a9 | l9 | c9 | k9 | a10 | l10 | c10 | k10 | a11 | l11 | c11 | k11 | a12 | l12 | c12 | k12 | a13 | l13 | c13 | k13 | a14 | l14 | c14 | k14 | a15 | l15 | c15 | k15 | a16 | l16 | c16 | k16 | a17 | l17 | c17 | k17 | a18 | l18 | c18 | k18 | a19 | l19 | c19 | k19 | a20 | l20 | c20 | k20 | a21 | l21 | c21 | k21 | a22 | l22 | c22 | k22 | a23 | l23 | c23 | k23 | a24 | l24 | c24 | k24 | a25 | l25 | c25 | k25 | a26 | l26 | c26 | k26 | a27 | l27 | c27 | k27 | a28 | l28 | c28 | k28 | a29 | l29 | c29 | k29 | a30 | l30 | c30 | k30 | a31 | l31 | c31 | k31 | a32 | l32 | c32 | k32 | a33 | l33 | c33 | k33 | a34 | l34 | c34 | k34 | a35 | l35 | c35 | k35 | a36 | l36 | c36 | k36 | a37 | l37 | c37 | k37 | a38 | l38 | c38 | k38 | a39 | l39 | c39 | k39 | a40 | l40 | c40 | k40 | a41 | l41 | c41 | k41 | a42 | l42 | c42 | k42 | a43 | l43 | c43 | k43 | a44 | l44 | c44 | k44 | a45 | l45 | c45 | k45 | a46 | l46 | c46 | k46 | z_len | z_tuple | z_max | z_range | z_enumerate | z_all | z_isinstance | z_str | z_list | z_int | z_abs | ga_WORDS | gl_WORDS => k_is)
  (case gp_WORDS => refine' (.cons (.str _ _) (.cons (.str _ _) (.cons (.str _ _) (.cons (.str _ _) (.cons (.str _ _) (.cons (.str _ _) (.cons (.str _ _) .nil))))))))
  (case ga_DOUBLE_SIGNS | gl_DOUBLE_SIGNS => k_is)
  (case gp_DOUBLE_SIGNS => refine' (.cons (.str _ _) (.cons (.str _ _) (.cons (.str _ _) .nil))))
  (case gc_FIGURES | gc_MOST_OPEN | gc_MOST_MINUSES | gc_MOST_SIGNS | eR | r1 | r2 | r3 | r4 | r5 | r6 | r7 | r8 | r9 | r10 | r11 | lI | cI | kI => k_is)
