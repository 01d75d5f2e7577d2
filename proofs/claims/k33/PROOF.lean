import PyProof.Rows.All
import Wide.All
import OpenK.AllK
import Wide.FinOn
import Lean
import PyProof.EqAt
import PyProof.EqKinds
import PyProof.TupleCall
import PySem.Challenge.RW_planestacks_k33_kinds_of_sayings
set_option Elab.async false
set_option linter.all false
set_option maxRecDepth 100000
/-! THE HAND LAYER, for ints, bools, texts, own classes, LISTS and tuples (index, slices, in, append, pop ..), calls, loops. Paste it whole ahead of your own text; what your proof does not reach may be deleted. -/
namespace L2
open PySem PySem.Spec PyProof.Rows

/-- a key: an int or a str -/
abbrev Key := Sum Int Str
def keyIs : Key → Value → Bool
  | .inl k, v => Value.isInt k v
  | .inr x, v => Value.isStrOf x v
def keyH (w : World) : Key → Int
  | .inl k => hashInt k
  | .inr x => hashStr w x
theorem keyIs_shape : ∀ {k : Key} {v : Value}, keyIs k v = true → (∃ i t, k = Sum.inl i ∧ v = Value.int i t) ∨ (∃ x t, k = Sum.inr x ∧ v = Value.str x t)
  | .inl i, v, h => by
    obtain ⟨t, e⟩ := Value.isInt_shape (k := i) (v := v) h
    exact .inl ⟨i, t, rfl, e⟩
  | .inr x, v, h => by
    obtain ⟨t, e⟩ := Value.isStrOf_shape (x := x) (v := v) h
    exact .inr ⟨x, t, rfl, e⟩
theorem key_ll (a b : Int) : decide ((Sum.inl a : Key) = Sum.inl b) = (a == b) := by
  by_cases e : a = b
  · subst e; simp
  · have h : ¬ (Sum.inl a : Key) = Sum.inl b := fun q => e (Sum.inl.inj q)
    rw [decide_eq_false h]
    exact (beq_eq_false_iff_ne.mpr e).symm
theorem key_rr (a b : Str) : decide ((Sum.inr a : Key) = Sum.inr b) = decide (a = b) := by
  by_cases e : a = b
  · subst e; simp
  · have h : ¬ (Sum.inr a : Key) = Sum.inr b := fun q => e (Sum.inr.inj q)
    rw [decide_eq_false h, decide_eq_false e]
theorem key_lr (a : Int) (b : Str) : decide ((Sum.inl a : Key) = Sum.inr b) = false := decide_eq_false (fun q => nomatch q)
theorem key_rl (a : Str) (b : Int) : decide ((Sum.inr a : Key) = Sum.inl b) = false := decide_eq_false (fun q => nomatch q)

def mixKind (prog : Program) (w : World) : PySem.KeyKind prog w Key where
  is := keyIs
  hash := keyH w
  inj := fun v a b ha hb => by
    rcases keyIs_shape ha with ⟨i, t, rfl, rfl⟩ | ⟨x, t, rfl, rfl⟩
    · rcases keyIs_shape hb with ⟨j, u, rfl, e⟩ | ⟨y, u, rfl, e⟩
      · injection e with e1 _; rw [e1]
      · exact nomatch e
    · rcases keyIs_shape hb with ⟨j, u, rfl, e⟩ | ⟨y, u, rfl, e⟩
      · exact nomatch e
      · injection e with e1 _; rw [e1]
  byValue := fun k v h => by
    rcases keyIs_shape h with ⟨i, t, rfl, rfl⟩ | ⟨x, t, rfl, rfl⟩ <;> rfl
  pyHash := fun hv h => by
    rcases keyIs_shape hv with ⟨i, t, rfl, rfl⟩ | ⟨x, t, rfl, rfl⟩
    · exact wpAny_pyHash_int h
    · exact wpAny_pyHash_str h
  eqBool := fun hu hv h => by
    rcases keyIs_shape hu with ⟨i, t, rfl, rfl⟩ | ⟨x, t, rfl, rfl⟩
    · rcases keyIs_shape hv with ⟨j, u, rfl, rfl⟩ | ⟨y, u, rfl, rfl⟩
      · rw [key_ll] at h; exact wpAny_eqBool_int h
      · rw [key_lr] at h; exact SeqAt.EqAt.int_str i t y u _ _ _ _ h
    · rcases keyIs_shape hv with ⟨j, u, rfl, rfl⟩ | ⟨y, u, rfl, rfl⟩
      · rw [key_rl] at h; exact SeqAt.EqAt.str_int x t j u _ _ _ _ h
      · rw [key_rr] at h; exact wpAny_eqBool_str h
  «strs» := fun k x t v h => by
    rcases keyIs_shape h with ⟨i, u, rfl, e⟩ | ⟨y, u, rfl, e⟩
    · exact nomatch e
    · injection e with e1 _
      subst e1
      cases v <;> rfl

end L2

namespace L2
open PySem PySem.Spec PyProof.Rows

/-- a value, without the heap -/
inductive V where
  | non | bl (b : Bool) | int (i : Int) | str (x : Str) | byt (b : Array UInt8) | flt (b : UInt64) | ref (a : Addr) | ty (n : String)
  deriving DecidableEq

def RelV : V → Value → Prop
  | .non, u => u = Value.none
  | .bl b, u => u = Value.bool b
  | .int i, u => ∃ t, u = Value.int i t
  | .str x, u => ∃ t, u = Value.str x t
  | .byt b, u => ∃ t, u = Value.bytes b t
  | .flt b, u => ∃ t, u = Value.float b t
  | .ref a, u => u = Value.ref a
  | .ty n, u => u = Value.type n

abbrev Vals : List V → List Value → Prop := Paired RelV
theorem Vals.length {xs : List V} {us : List Value} (r : Vals xs us) : xs.length = us.length := Paired.length r
theorem Vals.get : ∀ {xs : List V} {us : List Value} {i : Nat} {x : V}, Vals xs us → xs[i]? = some x → ∃ u, us[i]? = some u ∧ RelV x u
  | _, _, _, _, .nil, e => by simp at e
  | _, _, 0, _, .cons r _, e => by simp at e; subst e; exact ⟨_, rfl, r⟩
  | _, _, i + 1, x, .cons _ t, e => by
    obtain ⟨u, h1, h2⟩ := Vals.get (i := i) (x := x) t (by simpa using e)
    exact ⟨u, by simpa using h1, h2⟩
theorem Vals.append : ∀ {xs ys : List V} {us ws : List Value}, Vals xs us → Vals ys ws → Vals (xs ++ ys) (us ++ ws)
  | _, _, _, _, .nil, s => s
  | _, _, _, _, .cons r t, s => .cons r (Vals.append t s)
theorem Vals.take : ∀ {xs : List V} {us : List Value} (n : Nat), Vals xs us → Vals (xs.take n) (us.take n)
  | _, _, 0, _ => .nil
  | _, _, _ + 1, .nil => .nil
  | _, _, n + 1, .cons r t => .cons r (Vals.take n t)
theorem Vals.drop : ∀ {xs : List V} {us : List Value} (n : Nat), Vals xs us → Vals (xs.drop n) (us.drop n)
  | _, _, 0, r => r
  | _, _, _ + 1, .nil => .nil
  | _, _, n + 1, .cons _ t => Vals.drop n t
def RelO : Option V → Option Value → Prop
  | some v, some u => RelV v u
  | none, none => True
  | _, _ => False
def KV {κ : Type} : List (κ × V) → List (κ × Value) → Prop := Paired fun (p : κ × V) (q : κ × Value) => p.1 = q.1 ∧ RelV p.2 q.2

/-- a key of a dict (00_mix): an int or a text -/
def kV : Key → V
  | .inl i => .int i
  | .inr x => .str x

/-- what stands at a tracked address -/
inductive HO where
  /-- a list -/
  | lst (xs : List V)
  /-- a tuple (never changes) -/
  | tup (xs : List V)
  /-- a dict whose keys are ints and texts; one whose keys are tuples of ints and texts (the empty one is both) -/
  | dK (kvs : List (Key × V)) | dT (kvs : List (List Key × V))
  /-- a set of ints: its members, its size -/
  | set (S : Int → Bool) (n : Nat)
  /-- an instance of the class at C, its dict at dx, its attributes -/
  | ins (C dx : Addr) (fs : List (Str × V))
  /-- the dict of the instance at x -/
  | own (x : Addr)
  /-- the dict of an exception -/
  | xd (fs : List (Str × V))
  /-- a bound method, f of x -/
  | met (f x : Addr)
  /-- a range object lo, lo + 1, .. below hi -/
  | rng (lo hi : Int)
  /-- a thing that is known to the object (the script; a dict while a loop walks it): read, never written while it is so -/
  | frz (o : Obj) (u : HO)
  /-- a code object's table -/
  | tbl (ps : Array Value)
  /-- any other thing, by what is true of its one object (a def of one's own: SetO a S n := HO.ext fun h => ..) -/
  | ext (φ : Heap → Prop)

abbrev Hp := Addr → Option HO
def upd (H : Hp) (a : Addr) (o : HO) : Hp := fun b => if b = a then some o else H b
theorem upd_same {H : Hp} {a : Addr} {o : HO} : upd H a o a = some o := by unfold upd; rw [if_pos rfl]
theorem upd_ne {H : Hp} {a b : Addr} {o : HO} (h : b ≠ a) : upd H a o b = H b := by unfold upd; rw [if_neg h]
theorem upd_upd {H : Hp} {a : Addr} {o u : HO} : upd (upd H a o) a u = upd H a u := by
  funext b; unfold upd; split <;> rfl
theorem ne_of_none {H : Hp} {a b : Addr} {o : HO} (h : H a = some o) (h' : H b = none) : a ≠ b := by
  intro e; subst e; rw [h] at h'; cases h'

section
variable (P : Program) (w : World)
def ObjOk (H : Hp) (h : Heap) (a : Addr) : HO → Prop
  | .lst xs => xs.length ≤ sizeLine ∧ ∃ (its : List Value) (n : Nat), Vals xs its ∧ h.get? a = some { cls := .type "list", data := .seq its.toArray n }
  | .tup xs => xs.length ≤ sizeLine ∧ ∃ its : List Value, Vals xs its ∧ IsTup h a its.toArray
  | .dK kvs => kvs.length ≤ sizeLine ∧ (a == sysModules) = false ∧ ∃ vs, KV kvs vs ∧ h.DictOf (mixKind P w) a vs
  | .dT kvs => kvs.length ≤ sizeLine ∧ (a == sysModules) = false ∧ ∃ xs : List (List Key × Addr × Value),
      Paired (fun (p : List Key × V) (q : List Key × Addr × Value) => p.1 = q.1 ∧ H q.2.1 = some (.tup (p.1.map kV)) ∧ RelV p.2 q.2.2) kvs xs ∧
      ∃ o es ep, h.get? a = some o ∧ o.ExactDict ∧ o.data = .dict es ep ∧ es.toList = xs.map (entryOfKey (tupleKind (mixKind P w))) ∧ (xs.map (·.1)).Nodup
  | .set S n => h.SetOf (intKind P w) a S n
  | .ins C dx fs => H dx = some (.own a) ∧ fs.length ≤ 1000 ∧ dx ≠ a ∧ h.get? a = some (PySem.W.instObj C dx) ∧
      ∃ mA, h.Ns1 dx mA ∧ (∀ f, RelO (fs.lookup f) (mA f)) ∧ PySem.Within mA (fs.map (·.1))
  | .own _ => ∃ o, h.get? a = some o
  | .xd fs => ∃ mA, h.Ns1 a mA ∧ ∀ f, RelO (fs.lookup f) (mA f)
  | .rng lo hi => ∃ t u v, h.get? a = some { cls := .type "range", data := .fields #[.int lo t, .int hi u, .int 1 v] }
  | .frz o u => h.get? a = some o ∧ ObjOk H h a u
  | .tbl ps => h.get? a = some { cls := .none, data := .fields ps }
  | .met f x => h.get? a = some (PySem.W.methodObj (.ref f) (.ref x))
  | .ext φ => φ h ∧ (∃ o, h.get? a = some o) ∧ ∀ h1 h2 : Heap, φ h1 → (∀ o, h1.get? a = some o → h2.get? a = some o) → φ h2
/-- the abstract heap is held -/
def HOk (H : Hp) (h : Heap) : Prop := ∀ a o, H a = some o → ObjOk P w H h a o
end

section
variable {P : Program} {w : World} {H H' : Hp} {h h' : Heap} {a : Addr} {o : HO}
theorem ObjOk.lt (x : ObjOk P w H h a o) : a < h.objs.size := by
  cases o with
  | lst xs => obtain ⟨_, _, _, _, e⟩ := x; exact Heap.lt_size e
  | tup xs => obtain ⟨_, _, _, p⟩ := x; exact p.lt
  | dK kvs => obtain ⟨_, _, _, _, o, _, _, e, _⟩ := x; exact Heap.lt_size e
  | dT kvs => obtain ⟨_, _, _, _, o, _, _, e, _⟩ := x; exact Heap.lt_size e
  | set S n => obtain ⟨o, _, _, _, e, _⟩ := x; exact Heap.lt_size e
  | ins C dx fs => obtain ⟨_, _, _, e, _⟩ := x; exact Heap.lt_size e
  | own y => obtain ⟨_, e⟩ := x; exact Heap.lt_size e
  | xd fs => obtain ⟨_, ⟨_, _, _, e, _⟩, _⟩ := x; exact Heap.lt_size e
  | rng lo hi => obtain ⟨_, _, _, e⟩ := x; exact Heap.lt_size e
  | frz ob u => obtain ⟨e, _⟩ := x; exact Heap.lt_size e
  | tbl ps => exact Heap.lt_size (show h.get? a = some _ from x)
  | met f y => exact Heap.lt_size (show h.get? a = some _ from x)
  | ext φ => obtain ⟨_, ⟨_, e⟩, _⟩ := x; exact Heap.lt_size e
theorem Paired.mapP {α β : Type} {F G : α → β → Prop} : ∀ {l₁ : List α} {l₂ : List β}, Paired F l₁ l₂ → (∀ a b, F a b → G a b) → Paired G l₁ l₂
  | _, _, .nil, _ => .nil
  | _, _, .cons r t, f => .cons (f _ _ r) (Paired.mapP t f)
/-- what an object's description leans on: its own object, its own dict, the tuples -/
theorem ObjOk.stay (x : ObjOk P w H h a o) (k : ∀ b u, (b = a ∨ H b = some (.own a)) → h.get? b = some u → h'.get? b = some u)
    (ho : ∀ b, H b = some (.own a) → H' b = some (.own a)) (ht : ∀ b xs, H b = some (.tup xs) → H' b = some (.tup xs)) : ObjOk P w H' h' a o := by
  induction o with
  | lst xs => obtain ⟨z, its, n, r, e⟩ := x; exact ⟨z, its, n, r, k _ _ (.inl rfl) e⟩
  | tup xs => obtain ⟨z, its, r, ob, e, c⟩ := x; exact ⟨z, its, r, ob, k _ _ (.inl rfl) e, c⟩
  | dK kvs => obtain ⟨z, y, vs, r, ob, es, ep, e, c⟩ := x; exact ⟨z, y, vs, r, ob, es, ep, k _ _ (.inl rfl) e, c⟩
  | dT kvs =>
    obtain ⟨z, y, xs, r, ob, es, ep, e, c⟩ := x
    exact ⟨z, y, xs, Paired.mapP r fun p q z => ⟨z.1, ht _ _ z.2.1, z.2.2⟩, ob, es, ep, k _ _ (.inl rfl) e, c⟩
  | set S n => obtain ⟨ob, es, ep, t, e, c⟩ := x; exact ⟨ob, es, ep, t, k _ _ (.inl rfl) e, c⟩
  | ins C dx fs =>
    obtain ⟨d, z, ne, e, mA, ⟨od, es, ep, e2, c⟩, r⟩ := x
    exact ⟨ho _ d, z, ne, k _ _ (.inl rfl) e, mA, ⟨od, es, ep, k _ _ (.inr d) e2, c⟩, r⟩
  | own y => obtain ⟨ob, e⟩ := x; exact ⟨ob, k _ _ (.inl rfl) e⟩
  | xd fs => obtain ⟨mA, ⟨od, es, ep, e, c⟩, r⟩ := x; exact ⟨mA, ⟨od, es, ep, k _ _ (.inl rfl) e, c⟩, r⟩
  | rng lo hi => obtain ⟨t, u, v, e⟩ := x; exact ⟨t, u, v, k _ _ (.inl rfl) e⟩
  | frz ob u ih => obtain ⟨e, q⟩ := x; exact ⟨k _ _ (.inl rfl) e, ih q⟩
  | tbl ps =>
    have e : h.get? a = some { cls := .none, data := .fields ps } := x
    show h'.get? a = some { cls := .none, data := .fields ps }
    exact k a _ (.inl rfl) e
  | met f y =>
    have e : h.get? a = some (PySem.W.methodObj (.ref f) (.ref y)) := x
    show h'.get? a = some (PySem.W.methodObj (.ref f) (.ref y))
    exact k a _ (.inl rfl) e
  | ext φ => obtain ⟨p, ⟨o, e⟩, st⟩ := x; exact ⟨st _ _ p fun o q => k _ _ (.inl rfl) q, ⟨o, k _ _ (.inl rfl) e⟩, st⟩
theorem HOk.lt (x : HOk P w H h) (e : H a = some o) : a < h.objs.size := (x a o e).lt
theorem HOk.fresh (x : HOk P w H h) (e : h.objs.size ≤ a) : H a = none := by
  cases q : H a with
  | none => rfl
  | some u => exact absurd (Nat.lt_of_lt_of_le (x.lt q) e) (Nat.lt_irrefl _)
/-- every object of the heap is kept -/
theorem HOk.kept (x : HOk P w H h) (k : ∀ b u, h.get? b = some u → h'.get? b = some u) : HOk P w H h' := fun a o e =>
  (x a o e).stay (fun b u _ q => k b u q) (fun _ q => q) fun _ _ q => q
/-- a new object is laid and tracked -/
theorem HOk.laid (x : HOk P w H h) (k : ∀ b u, h.get? b = some u → h'.get? b = some u) (hp : h.objs.size ≤ a) (new : ObjOk P w (upd H a o) h' a o) : HOk P w (upd H a o) h' := fun b u e => by
  have hn := x.fresh hp
  by_cases hb : b = a
  · subst hb; rw [upd_same] at e; cases e; exact new
  · rw [upd_ne hb] at e
    exact (x b u e).stay (fun c v _ q => k c v q) (fun c q => by rw [upd_ne (ne_of_none q hn)]; exact q) fun c xs q => by rw [upd_ne (ne_of_none q hn)]; exact q
end

/-- what may be read as u: it is u, or a known u -/
def Rd (H : Hp) (a : Addr) (u : HO) : Prop := H a = some u ∨ ∃ o, H a = some (.frz o u)
theorem Rd.ok {P : Program} {w : World} {H : Hp} {h : Heap} {a : Addr} {u : HO} (r : Rd H a u) (x : HOk P w H h) : ObjOk P w H h a u := by
  rcases r with r | ⟨o, r⟩
  · exact x a u r
  · obtain ⟨_, q⟩ := x a _ r
    exact q
/-- what may be written -/
def Mut : Option HO → Prop
  | some (.lst _) => True
  | some (.dK _) => True
  | some (.dT _) => True
  | some (.set _ _) => True
  | some (.ins _ _ _) => True
  | some (.ext _) => True
  | _ => False
section
variable {P : Program} {w : World} {H : Hp} {h h' : Heap} {x e : Addr} {o' : HO}
/-- the object at e is changed: x itself, or the dict of the instance x -/
theorem HOk.write (ok : HOk P w H h) (mu : Mut (H x)) (he : e = x ∨ H e = some (.own x)) (k : ∀ b u, b ≠ e → h.get? b = some u → h'.get? b = some u) (heo : ∃ u, h'.get? e = some u)
    (new : ObjOk P w (upd H x o') h' x o') : HOk P w (upd H x o') h' := fun b u q => by
  have nown : ∀ c y, H c = some (.own y) → c ≠ x := fun c y r z => by subst z; rw [r] at mu; exact mu
  have ntup : ∀ c xs, H c = some (.tup xs) → c ≠ x := fun c xs r z => by subst z; rw [r] at mu; exact mu
  by_cases hb : b = x
  · subst hb; rw [upd_same] at q; cases q; exact new
  · rw [upd_ne hb] at q
    by_cases hbe : b = e
    · have q' : H b = some (.own x) := by
        rcases he with z | z
        · exact absurd (hbe.trans z) hb
        · rw [hbe]; exact z
      rw [q] at q'; cases q'
      obtain ⟨v, hv⟩ := heo
      exact ⟨v, by rw [hbe]; exact hv⟩
    · refine (ok b u q).stay (fun c v hc r => k c v ?_ r) (fun c r => by rw [upd_ne (nown c b r)]; exact r) fun c xs r => by rw [upd_ne (ntup c xs r)]; exact r
      rcases hc with rfl | hc
      · exact hbe
      · rintro rfl
        rcases he with z | z
        · exact nown c b hc z
        · rw [hc] at z; cases z; exact hb rfl
end

/-! ### kept unless tracked; of the frames at fs (the callers') the slots may change (an exception that passes writes there); of the records at ex (iterators) nothing is said -/
structure Un (fs ex : List Addr) (H H' : Hp) (h h' : Heap) : Prop where
  keep : ∀ b o, h.get? b = some o → H b = none → b ∉ fs → b ∉ ex → h'.get? b = some o
  slot : ∀ b o, h.get? b = some o → H b = none → b ∈ fs → b ∉ ex → ∃ sl, h'.get? b = some { o with slots := sl }
  free : ∀ b o, h.get? b = some o → H b = none → b ∉ ex → H' b = none
  there : ∀ b o, h.get? b = some o → b ∉ ex → ∃ o', h'.get? b = some o'
  tups : ∀ b xs, H b = some (.tup xs) → H' b = some (.tup xs)
  frzs : ∀ b o u, H b = some (.frz o u) → H' b = some (.frz o u)
  tbls : ∀ b ps, H b = some (.tbl ps) → ∃ more, H' b = some (.tbl (ps ++ more))
section
variable {fs fs' ex ex' : List Addr} {H H1 H2 : Hp} {h h1 h2 h' : Heap} {a x e : Addr} {o : HO}
theorem Un.any (u : Un fs ex H H1 h h1) {b : Addr} {ob : Obj} (q : h.get? b = some ob) (n : H b = none) (hx : b ∉ ex) : ∃ sl, h1.get? b = some { ob with slots := sl } := by
  by_cases hb : b ∈ fs
  · exact u.slot b ob q n hb hx
  · exact ⟨ob.slots, u.keep b ob q n hb hx⟩
theorem Un.kept (k : ∀ b u, h.get? b = some u → h'.get? b = some u) : Un fs ex H H h h' :=
  ⟨fun b ob q _ _ _ => k b ob q, fun b ob q _ _ _ => ⟨ob.slots, k b ob q⟩, fun _ _ _ n _ => n, fun b ob q _ => ⟨ob, k b ob q⟩, fun _ _ q => q, fun _ _ _ q => q, fun _ ps q => ⟨#[], by rw [q]; simp⟩⟩
theorem Un.refl : Un fs ex H H h h := Un.kept fun _ _ q => q
theorem Un.laid (k : ∀ b u, h.get? b = some u → h'.get? b = some u) (hp : h.objs.size ≤ a) (hn : H a = none) : Un fs ex H (upd H a o) h h' where
  keep := fun b u q _ _ _ => k b u q
  slot := fun b u q _ _ _ => ⟨u.slots, k b u q⟩
  free := fun b u q n _ => by rw [upd_ne (Nat.ne_of_lt (Nat.lt_of_lt_of_le (Heap.lt_size q) hp))]; exact n
  there := fun b u q _ => ⟨u, k b u q⟩
  tups := fun b xs q => by rw [upd_ne (ne_of_none q hn)]; exact q
  frzs := fun b u xs q => by rw [upd_ne (ne_of_none q hn)]; exact q
  tbls := fun b ps q => ⟨#[], by rw [upd_ne (ne_of_none q hn), q]; simp⟩
theorem Un.write (mu : Mut (H x)) (he : e = x ∨ H e = some (.own x)) (k : ∀ b u, b ≠ e → h.get? b = some u → h'.get? b = some u) (heo : ∃ u, h'.get? e = some u) : Un fs ex H (upd H x o) h h' := by
  have hx : ∀ b, H b = none → b ≠ x := fun b n z => by subst z; rw [n] at mu; exact mu
  have hb : ∀ b, H b = none → b ≠ e := fun b n z => by
    subst z
    rcases he with r | r
    · exact hx b n r
    · rw [n] at r; cases r
  have hm : ∀ b u, H b = some u → ¬ Mut (some u) → b ≠ x := fun b u q nm z => by subst z; rw [q] at mu; exact nm mu
  refine ⟨fun b u q n _ _ => k b u (hb b n) q, fun b u q n _ _ => ⟨u.slots, k b u (hb b n) q⟩, fun b u q n _ => by rw [upd_ne (hx b n)]; exact n, fun b u q _ => ?_,
    fun b xs q => by rw [upd_ne (hm b _ q fun z => z)]; exact q, fun b u xs q => by rw [upd_ne (hm b _ q fun z => z)]; exact q, fun b ps q => ⟨#[], by rw [upd_ne (hm b _ q fun z => z), q]; simp⟩⟩
  by_cases hbe : b = e
  · subst hbe; exact heo
  · exact ⟨u, k b u hbe q⟩
end

/-! ### the heap without what is tracked -/
def trk (h : Heap) (H : Hp) : List Addr := (List.range h.objs.size).filter fun a => (H a).isSome
def hidT (h : Heap) (H : Hp) : Heap := PySem.W.hideAll h (trk h H)
theorem hidT_size (h : Heap) (H : Hp) : (hidT h H).objs.size = h.objs.size := PySem.W.hideAll_size _ _
theorem hidT_get {h : Heap} {H : Hp} {b : Addr} {o : Obj} (e : h.get? b = some o) (n : H b = none) : (hidT h H).get? b = some o :=
  PySem.W.hideAll_get _ e fun hm => by
    have q : (H b).isSome = true := (List.mem_filter.mp hm).2
    rw [n] at q; simp at q
theorem of_hidT {h : Heap} {H : Hp} {b : Addr} {o : Obj} (e : (hidT h H).get? b = some o) : h.get? b = some o ∧ H b = none := by
  have e' : h.get? b = some o := PySem.W.of_hideAll (trk h H) e
  refine ⟨e', ?_⟩
  cases q : H b with
  | none => rfl
  | some x =>
    have hm : b ∈ trk h H := List.mem_filter.mpr ⟨List.mem_range.mpr (Heap.lt_size e'), by simp [q]⟩
    have z : (hidT h H).get? b = none := PySem.W.hideAll_none (trk h H) hm
    rw [z] at e; cases e

/-! ### OpenK's ledger, filled with every new object but one -/
def allNews (g h : Heap) (L : Addr) : List (Addr × Obj) := (List.range h.objs.size).filterMap fun a => if a = L ∨ (g.get? a).isSome = true then none else (h.get? a).map fun o => (a, o)
def rest (g h : Heap) (L d : Addr) : List (Addr × Obj) := (allNews g h L).filter fun p => decide (p.1 ≠ d)
end L2

namespace L2
open PySem PySem.Spec PyProof.Rows

/-- the module's facts, over the base: the heap at the law's entry without what is tracked there -/
structure Mod (K : PySem.W.Frag) (mg : Str → Option Value) (base : Heap) : Prop where
  kin : K.In base
  glob : base.Ns mainGlobals mg
  blt : ∃ mb, base.Ns builtinsNs mb ∧ ∀ x : Str, x ≠ "__name__" → mb x = bootBuiltins x
  nolimit : base.NoLimit
  seer : base.NoSeer

/-- the context: a def's body (or a comprehension's block) running. base: fixed through the whole law; s₀, H₀: the entry; outer: the frames whose slots others may change (a def's callers); stack: all frames that run;
   ex: iterators that were made ahead of the entry and are walked here (a comprehension's); fn: the names whose cells were made at the entry (a def: all; a comprehension's block: its own); calm: not within an except suite; pn: pins that every state bears; xe: what is wanted of an exception that leaves the code -/
structure Cx where
  prog : Program
  w : World
  K : PySem.W.Frag
  mg : Str → Option Value
  base : Heap
  A : Around
  N : List Str
  s₀ : Shared
  H₀ : Hp
  env : Env
  outer : List Env
  stack : List Env
  ex : List Addr
  fn : Str → Bool
  calm : Bool
  pn : List (Addr × Obj)
  xe : Value → Shared → Prop
/-- the callers' frames -/
def frs (l : List Env) : List Addr := l.filterMap (·.frame)
abbrev Cx.fs (X : Cx) : List Addr := frs X.outer

def Vis (sc : Scope) (x : Str) : Prop := sc.names.lookup x = some .local ∨ sc.names.lookup x = some .cell ∨ sc.names.lookup x = some .free
def Loc (sc : Scope) (x : Str) : Prop := sc.names.lookup x = some .local ∨ sc.names.lookup x = some .cell
def Look (env : Env) (h : Heap) (m : Str → Option Value) (x : Str) (u : Value) : Prop :=
  (env.kindOf x = some .local ∧ m x = some u) ∨ ((env.kindOf x = some .cell ∨ env.kindOf x = some .free) ∧ ∃ c, env.cells.lookup x = some c ∧ h.IsCell c (some u))

structure Cx.Ok (X : Cx) : Prop where
  mod : Mod X.K X.mg X.base
  kind : X.env.scope.kind = .function
  glob : X.env.globals = mainGlobals
  blt : X.env.builtins = builtinsNs
  above : X.s₀.heap.objs.size ≤ X.env.locals
  inj : ∀ x y c, X.env.cells.lookup x = some c → X.env.cells.lookup y = some c → x = y
  has : ∀ x, (X.env.kindOf x = some .cell ∨ X.env.kindOf x = some .free) → ∃ c, X.env.cells.lookup x = some c
  cab : ∀ x c, X.fn x = true → X.env.cells.lookup x = some c → X.s₀.heap.objs.size ≤ c
  hd : X.calm = true → X.A.handled = none
  frames : X.A.frames = some X.stack
  stk : X.stack = X.outer ∨ (X.stack = X.env :: X.outer ∧ X.env.frame = some X.env.locals)
  exf : ∀ b ∈ X.ex, b ≠ X.env.locals ∧ ∀ x c, X.env.cells.lookup x = some c → c ≠ b
  bs : ∀ b o, X.base.get? b = some o → X.s₀.heap.get? b = some o ∧ X.H₀ b = none
  bsz : X.base.objs.size ≤ X.s₀.heap.objs.size
  noex : ∀ b o, X.base.get? b = some o → b ∉ X.ex
  exfs : ∀ b ∈ X.ex, b ∉ X.fs
  funs : X.s₀.heap.FunFrames X.base X.outer
  frf : ∀ b ∈ X.fs, X.H₀ b = none

structure Inv (X : Cx) (pins : List (Addr × Obj)) (σ : List (Option V)) (H : Hp) (s : Shared) : Prop where
  ok : X.Ok
  os : s.os = X.s₀.os
  bare : AllBare s.gens
  base : Un X.fs X.ex X.H₀ H X.s₀.heap s.heap
  loc : ∃ m, s.heap.Ns X.env.locals m ∧ ∀ (i : Nat) (x : Str) (v : V), X.N[i]? = some x → σ[i]? = some (some v) → Vis X.env.scope x → ∃ u, RelV v u ∧ Look X.env s.heap m x u
  cell : ∀ x c, X.env.cells.lookup x = some c → ∃ v, s.heap.IsCell c v
  free : H X.env.locals = none
  freeC : ∀ x c, X.env.cells.lookup x = some c → H c = none
  pin : ∀ p ∈ X.pn ++ pins, s.heap.get? p.1 = some p.2 ∧ H p.1 = none ∧ p.1 ≠ X.env.locals ∧ p.1 ∉ X.fs ∧ ∀ v, p.2.data ≠ .cell v
  hok : HOk X.prog X.w H s.heap
  len : σ.length = X.N.length

section
variable {X : Cx} {pins : List (Addr × Obj)} {σ : List (Option V)} {H H' : Hp} {s : Shared} {h' : Heap}

theorem Cx.Ok.nofr (ok : X.Ok) {b : Addr} {o : Obj} (e : X.base.get? b = some o) : b ∉ X.fs := fun hb => by
  have := (ok.funs.mem hb).1
  rw [e] at this; cases this
theorem Inv.bs (I : Inv X pins σ H s) : ∀ b o, X.base.get? b = some o → s.heap.get? b = some o ∧ H b = none := fun b o e =>
  ⟨I.base.keep b o (I.ok.bs b o e).1 (I.ok.bs b o e).2 (I.ok.nofr e) (I.ok.noex b o e), I.base.free b o (I.ok.bs b o e).1 (I.ok.bs b o e).2 (I.ok.noex b o e)⟩
theorem Inv.bk (I : Inv X pins σ H s) : ∀ b o, X.base.get? b = some o → s.heap.get? b = some o := fun b o e => (I.bs b o e).1
theorem Inv.mod (I : Inv X pins σ H s) : Mod X.K X.mg X.base := I.ok.mod
theorem Inv.kIn (I : Inv X pins σ H s) : X.K.In s.heap := I.ok.mod.kin.keeps I.bk
theorem Inv.nolimit (I : Inv X pins σ H s) : s.heap.NoLimit := I.ok.mod.nolimit.keeps I.bk
theorem Inv.lt (I : Inv X pins σ H s) : X.env.locals < s.heap.objs.size := let ⟨_, hn, _⟩ := I.loc; hn.lt
theorem Inv.sz (I : Inv X pins σ H s) : X.s₀.heap.objs.size ≤ s.heap.objs.size := Nat.le_trans I.ok.above (Nat.le_of_lt I.lt)
theorem Inv.nofs (I : Inv X pins σ H s) {a : Addr} (h : s.heap.objs.size ≤ a) : a ∉ X.fs := fun hb => by
  obtain ⟨_, o, ho, _⟩ := I.ok.funs.mem hb
  exact absurd (Nat.lt_of_lt_of_le (Heap.lt_size ho) (Nat.le_trans I.sz h)) (Nat.lt_irrefl _)
theorem Inv.cne (I : Inv X pins σ H s) : ∀ x c, X.env.cells.lookup x = some c → c ≠ X.env.locals := fun x c e z => by
  obtain ⟨v, o, ho, hd⟩ := I.cell x c e
  obtain ⟨m, ⟨o', es, ep, ho', hd', _⟩, _⟩ := I.loc
  rw [z, ho'] at ho; cases ho; rw [hd'] at hd; cases hd
theorem Inv.funs (I : Inv X pins σ H s) : s.heap.FunFrames X.base X.outer := by
  have all : ∀ (l : List Env), (∀ b ∈ frs l, b ∈ X.fs) → X.s₀.heap.FunFrames X.base l → s.heap.FunFrames X.base l := by
    intro l
    induction l with
    | nil => intro _ _; trivial
    | cons env r ih =>
      intro hs hl
      obtain ⟨hk, ⟨L, o, hf, hn, ho, hd⟩, hr⟩ := hl
      have hL : L ∈ X.fs := hs L (by unfold frs; rw [List.filterMap_cons, hf]; exact List.mem_cons_self)
      obtain ⟨sl, e⟩ := I.base.slot L o ho (I.ok.frf L hL) hL fun z => I.ok.exfs L z hL
      exact ⟨hk, ⟨L, _, hf, hn, e, hd⟩, ih (fun b hb => hs b (by unfold frs; rw [List.filterMap_cons, hf]; exact List.mem_cons_of_mem _ hb)) hr⟩
  exact all X.outer (fun _ hb => hb) I.ok.funs

/-- the frames that run, for a call -/
theorem Inv.stack (I : Inv X pins σ H s) : s.heap.FunFrames X.base X.stack := by
  rcases I.ok.stk with e | ⟨e, hf⟩
  · rw [e]; exact I.funs
  · rw [e]
    obtain ⟨m, hn, _⟩ := I.loc
    refine .cons (by rw [I.ok.kind]; decide) hf hn ?_ I.funs
    exact Heap.get?_none_of_le (Nat.le_trans I.ok.bsz I.ok.above)
theorem Inv.stkSub (I : Inv X pins σ H s) : ∀ b ∈ frs X.stack, b ∈ X.env.locals :: X.fs := fun b hb => by
  rcases I.ok.stk with e | ⟨e, hf⟩
  · rw [e] at hb; exact List.mem_cons_of_mem _ hb
  · rw [e] at hb
    unfold frs at hb
    rw [List.filterMap_cons, hf] at hb
    exact hb
theorem Inv.stkFree (I : Inv X pins σ H s) : ∀ b ∈ frs X.stack, H b = none := fun b hb => by
  rcases List.mem_cons.mp (I.stkSub b hb) with e | hb
  · rw [e]; exact I.free
  · obtain ⟨_, o, ho, _⟩ := I.ok.funs.mem hb
    exact I.base.free b o ho (I.ok.frf b hb) fun z => I.ok.exfs b z hb

/-- THE STEP: the untracked objects but the frame and the records at ch are kept (the callers' frames up to slots), the frame's map is kept, the new abstract heap is held -/
theorem Inv.step {g' : Array GenState} {t' : Nat} {d' : Drawn} {ch : List Addr} (I : Inv X pins σ H s)
    (hch : ∀ b ∈ ch, (b ∈ X.ex ∨ X.s₀.heap.objs.size ≤ b) ∧ b ≠ X.env.locals ∧ (∀ x c, X.env.cells.lookup x = some c → c ≠ b) ∧ ∀ p ∈ X.pn ++ pins, p.1 ≠ b)
    (keep : ∀ b o, b ≠ X.env.locals → b ∉ X.fs → b ∉ ch → s.heap.get? b = some o → H b = none → h'.get? b = some o)
    (slot : ∀ b o, b ≠ X.env.locals → b ∈ X.fs → b ∉ ch → s.heap.get? b = some o → H b = none → ∃ sl, h'.get? b = some { o with slots := sl }) (free : ∀ b o, b ∉ ch → s.heap.get? b = some o → H b = none → H' b = none)
    (there : ∀ b o, b ∉ ch → s.heap.get? b = some o → ∃ o', h'.get? b = some o')
    (tups : ∀ b xs, H b = some (.tup xs) → H' b = some (.tup xs)) (frzs : ∀ b o u, H b = some (.frz o u) → H' b = some (.frz o u)) (tbls : ∀ b ps, H b = some (.tbl ps) → ∃ more, H' b = some (.tbl (ps ++ more)))
    (ns : ∀ m, s.heap.Ns X.env.locals m → h'.Ns X.env.locals m) (hok : HOk X.prog X.w H' h') (hg : AllBare g') :
    Inv X pins σ H' { s with heap := h', gens := g', drawn := d', toks := t' } := by
  have neL : ∀ b o, X.s₀.heap.get? b = some o → b ≠ X.env.locals := fun b o e => Nat.ne_of_lt (Nat.lt_of_lt_of_le (Heap.lt_size e) I.ok.above)
  have neC : ∀ b o, X.s₀.heap.get? b = some o → b ∉ X.ex → b ∉ ch := fun b o e hx hb => by
    rcases (hch b hb).1 with z | z
    · exact hx z
    · exact absurd (Nat.lt_of_lt_of_le (Heap.lt_size e) z) (Nat.lt_irrefl _)
  have cellK : ∀ x c, X.env.cells.lookup x = some c → ∀ v, s.heap.IsCell c v → h'.IsCell c v := fun x c e v ⟨o, ho, hd⟩ => by
    have nch : c ∉ ch := fun z => (hch c z).2.2.1 x c e rfl
    by_cases hc : c ∈ X.fs
    · obtain ⟨sl, q⟩ := slot c o (I.cne x c e) hc nch ho (I.freeC x c e)
      exact ⟨_, q, hd⟩
    · exact ⟨o, keep c o (I.cne x c e) hc nch ho (I.freeC x c e), hd⟩
  refine ⟨I.ok, I.os, hg, ⟨fun b o e n hb hx => ?_, fun b o e n hb hx => ?_, fun b o e n hx => ?_, fun b o e hx => ?_, fun b xs e => tups b xs (I.base.tups b xs e), fun b o xs e => frzs b o xs (I.base.frzs b o xs e), fun b ps e => ?_⟩, ?_, fun x c e => ?_, ?_, fun x c e => ?_, fun p hp => ?_, hok, I.len⟩
  · exact keep b o (neL b o e) hb (neC b o e hx) (I.base.keep b o e n hb hx) (I.base.free b o e n hx)
  · obtain ⟨sl, e1⟩ := I.base.slot b o e n hb hx
    obtain ⟨sl', e2⟩ := slot b _ (neL b o e) hb (neC b o e hx) e1 (I.base.free b o e n hx)
    exact ⟨sl', e2⟩
  · obtain ⟨o', e1⟩ := I.base.there b o e hx
    exact free b o' (neC b o e hx) e1 (I.base.free b o e n hx)
  · obtain ⟨o', e1⟩ := I.base.there b o e hx
    exact there b o' (neC b o e hx) e1
  · obtain ⟨m1, e1⟩ := I.base.tbls b ps e
    obtain ⟨m2, e2⟩ := tbls b _ e1
    exact ⟨m1 ++ m2, by rw [e2, Array.append_assoc]⟩
  · obtain ⟨m, hn, hl⟩ := I.loc
    refine ⟨m, ns m hn, fun i x v e1 e2 e3 => ?_⟩
    obtain ⟨u, r, l⟩ := hl i x v e1 e2 e3
    refine ⟨u, r, ?_⟩
    rcases l with l | ⟨k, c, e, z⟩
    · exact .inl l
    · exact .inr ⟨k, c, e, cellK x c e _ z⟩
  · obtain ⟨v, z⟩ := I.cell x c e
    exact ⟨v, cellK x c e v z⟩
  · obtain ⟨m, ⟨o, _, _, ho, _⟩, _⟩ := I.loc
    exact free _ o (fun z => (hch _ z).2.1 rfl) ho I.free
  · obtain ⟨v, o, ho, hd⟩ := I.cell x c e
    exact free c o (fun z => (hch c z).2.2.1 x c e rfl) ho (I.freeC x c e)
  · obtain ⟨e, n, ne, nf, d⟩ := I.pin p hp
    have nch : p.1 ∉ ch := fun z => (hch p.1 z).2.2.2 p hp rfl
    exact ⟨keep p.1 p.2 ne nf nch e n, free p.1 p.2 nch e n, ne, nf, d⟩
/-- .. where the frame's own object is kept too -/
theorem Inv.un {t' : Nat} (I : Inv X pins σ H s) (u : Un X.fs [] H H' s.heap h') (hok : HOk X.prog X.w H' h') : Inv X pins σ H' { s with heap := h', toks := t' } := by
  obtain ⟨m, ⟨o, es, ep, ho, r⟩, _⟩ := id I.loc
  obtain ⟨sl, hL⟩ := u.any ho I.free (by simp)
  exact I.step (g' := s.gens) (d' := s.drawn) (ch := []) (fun _ z => nomatch z) (fun b o _ hb _ e n => u.keep b o e n hb (by simp)) (fun b o _ hb _ e n => u.slot b o e n hb (by simp)) (fun b o _ e n => u.free b o e n (by simp)) (fun b o _ e => u.there b o e (by simp)) u.tups u.frzs u.tbls (fun m' hm => by
    obtain ⟨o', es', ep', ho', r'⟩ := hm
    rw [ho] at ho'; cases ho'
    exact ⟨_, es', ep', hL, r'⟩) hok I.bare
/-- behind a call (or a comprehension's block): the slots of this frame may have changed too, the records at ch may have turned -/
theorem Inv.call {g' : Array GenState} {t' : Nat} {d' : Drawn} {ch : List Addr} (I : Inv X pins σ H s) (u : Un (frs X.stack) ch H H' s.heap h') (hok : HOk X.prog X.w H' h') (hg : AllBare g')
    (hch : ∀ b ∈ ch, (b ∈ X.ex ∨ X.s₀.heap.objs.size ≤ b) ∧ b ≠ X.env.locals ∧ (∀ x c, X.env.cells.lookup x = some c → c ≠ b) ∧ ∀ p ∈ X.pn ++ pins, p.1 ≠ b) :
    Inv X pins σ H' { s with heap := h', gens := g', drawn := d', toks := t' } := by
  obtain ⟨m, ⟨o, es, ep, ho, r⟩, _⟩ := id I.loc
  obtain ⟨sl, hL⟩ := u.any ho I.free fun z => (hch _ z).2.1 rfl
  exact I.step (ch := ch) hch (fun b o hL hb hc e n => u.keep b o e n (fun z => (List.mem_cons.mp (I.stkSub b z)).elim hL hb) hc) (fun b o _ _ hc e n => u.any e n hc) (fun b o hc e n => u.free b o e n hc) (fun b o hc e => u.there b o e hc) u.tups u.frzs u.tbls (fun m' hm => by
    obtain ⟨o', es', ep', ho', r'⟩ := hm
    rw [ho] at ho'; cases ho'
    exact ⟨_, es', ep', hL, r'⟩) hok hg
/-- an untracked record of ours (an iterator) has turned -/
theorem Inv.turned {t' : Nat} {it : Addr} (I : Inv X pins σ H s) (k : ∀ b o, b ≠ it → s.heap.get? b = some o → h'.get? b = some o) (hn : H it = none) (hL : it ≠ X.env.locals)
    (h1 : it ∈ X.ex ∨ X.s₀.heap.objs.size ≤ it) (h2 : ∀ x c, X.env.cells.lookup x = some c → c ≠ it) (h3 : ∀ p ∈ X.pn ++ pins, p.1 ≠ it) : Inv X pins σ H { s with heap := h', toks := t' } := by
  have nit : ∀ b u, H b = some u → b ≠ it := fun b u e z => by rw [z, hn] at e; cases e
  refine I.step (g' := s.gens) (d' := s.drawn) (ch := [it]) (fun b hb => ?_) (fun b o _ _ hc e _ => k b o (fun z => hc (by simp [z])) e) (fun b o _ _ hc e _ => ⟨o.slots, k b o (fun z => hc (by simp [z])) e⟩) (fun _ _ _ _ n => n)
    (fun b o hc e => ⟨o, k b o (fun z => hc (by simp [z])) e⟩) (fun _ _ e => e) (fun _ _ _ e => e) (fun b ps e => ⟨#[], by rw [e]; simp⟩) (fun m hm => ?_) (fun b u e => ?_) I.bare
  · have e : b = it := by simpa using hb
    subst e
    exact ⟨h1, hL, h2, h3⟩
  · obtain ⟨o, es, ep, ho, r⟩ := hm
    exact ⟨o, es, ep, k _ o (Ne.symm hL) ho, r⟩
  · refine (I.hok b u e).stay (fun c v hc q => k c v ?_ q) (fun _ q => q) fun _ _ q => q
    rcases hc with z | z
    · rw [z]; exact nit b u e
    · exact nit c _ z
theorem Inv.tok (I : Inv X pins σ H s) (t : Nat) : Inv X pins σ H { s with toks := t } := I.un (h' := s.heap) (t' := t) Un.refl I.hok
/-- all objects kept -/
theorem Inv.kept {t' : Nat} (I : Inv X pins σ H s) (k : ∀ b u, s.heap.get? b = some u → h'.get? b = some u) : Inv X pins σ H { s with heap := h', toks := t' } := I.un (Un.kept k) (I.hok.kept k)
/-- a new object laid and tracked -/
theorem Inv.laid {a : Addr} {o : HO} {t' : Nat} (I : Inv X pins σ H s) (k : ∀ b u, s.heap.get? b = some u → h'.get? b = some u) (hp : s.heap.objs.size ≤ a) (new : ObjOk X.prog X.w (upd H a o) h' a o) :
    Inv X pins σ (upd H a o) { s with heap := h', toks := t' } := I.un (Un.laid k hp (I.hok.fresh hp)) (I.hok.laid k hp new)
/-- an object written -/
theorem Inv.write {x e : Addr} {o : HO} {t' : Nat} (I : Inv X pins σ H s) (mu : Mut (H x)) (he : e = x ∨ H e = some (.own x)) (k : ∀ b u, b ≠ e → s.heap.get? b = some u → h'.get? b = some u) (heo : ∃ u, h'.get? e = some u)
    (new : ObjOk X.prog X.w (upd H x o) h' x o) : Inv X pins σ (upd H x o) { s with heap := h', toks := t' } := I.un (Un.write mu he k heo) (I.hok.write mu he k heo new)
theorem Inv.pins_of {pins' : List (Addr × Obj)} (I : Inv X pins σ H s) (h : ∀ p ∈ pins', s.heap.get? p.1 = some p.2 ∧ H p.1 = none ∧ p.1 ≠ X.env.locals ∧ p.1 ∉ X.fs ∧ ∀ v, p.2.data ≠ .cell v) : Inv X pins' σ H s :=
  ⟨I.ok, I.os, I.bare, I.base, I.loc, I.cell, I.free, I.freeC, fun p hp => (List.mem_append.mp hp).elim (fun z => I.pin p (List.mem_append_left _ z)) (h p), I.hok, I.len⟩

theorem nodup_ix {N : List Str} (hN : N.Nodup) {i j : Nat} {x : Str} (a : N[i]? = some x) (b : N[j]? = some x) : i = j := by
  obtain ⟨h1, e1⟩ := List.getElem?_eq_some_iff.mp a
  obtain ⟨h2, e2⟩ := List.getElem?_eq_some_iff.mp b
  exact (List.getElem_inj hN).mp (e1.trans e2.symm)

/-- a name is stored; what changed -/
theorem store_ok2 {M : Model} {A : Around} {E : Value → Shared → Prop} {i : Nat} {x : Str} {v : V} {u : Value} {Q : Unit → Shared → Prop} (I : Inv X pins σ H s) (hN : X.N.Nodup) (hi : X.N[i]? = some x) (hx : Loc X.env.scope x) (r : RelV v u)
    (h : ∀ s', Inv X pins (σ.set i (some v)) H s' → (∃ a, Heap.SameBut a s.heap s'.heap ∧ (a = X.env.locals ∨ X.env.cells.lookup x = some a)) → Q () s') (hf : X.fn x = true ∨ X.env.scope.names.lookup x = some .local := by first | exact .inl rfl | exact .inr rfl | assumption) : wpAny M A (storeName X.env x u) Q E s := by
  obtain ⟨m, hn, hl⟩ := id I.loc
  have hcls : (X.env.scope.kind == .class || (X.env.scope.kind == .module && X.env.locals != X.env.globals)) = false := by rw [I.ok.kind]; rfl
  have hiσ : i < σ.length := by rw [I.len]; exact (List.getElem?_eq_some_iff.mp hi).1
  have cne := I.cne
  have tracked : ∀ {a : Addr} {h' : Heap}, (∃ o, s.heap.get? a = some o ∧ H a = none) → Heap.SameBut a s.heap h' → HOk X.prog X.w H h' := fun {a h'} ha hs b ob e => by
    obtain ⟨_, _, hfree⟩ := ha
    refine (I.hok b ob e).stay (fun c w' hc q => (hs.2 c ?_).trans q) (fun _ q => q) fun _ _ q => q
    rintro rfl
    rcases hc with rfl | hc
    · rw [hfree] at e; cases e
    · rw [hfree] at hc; cases hc
  rcases hx with hk | hk
  · refine wpAny_storeName_local hk hn (fun h' hn' hs => ?_) hcls
    obtain ⟨oL, _, _, hoL, _⟩ := id hn
    refine h _ ⟨I.ok, I.os, I.bare, ⟨fun b o e n hb hx => ?_, fun b o e n hb hx => ?_, I.base.free, fun b o e hx => ?_, I.base.tups, I.base.frzs, I.base.tbls⟩, ⟨_, hn', fun j y v' e1 e2 e3 => ?_⟩, fun y c e => ?_, I.free, I.freeC, fun p hp => ?_, tracked ⟨oL, hoL, I.free⟩ hs, by simpa using I.len⟩ ⟨_, hs, .inl rfl⟩
    · exact (hs.2 b (Nat.ne_of_lt (Nat.lt_of_lt_of_le (Heap.lt_size e) I.ok.above))).trans (I.base.keep b o e n hb hx)
    · obtain ⟨sl, e1⟩ := I.base.slot b o e n hb hx
      exact ⟨sl, (hs.2 b (Nat.ne_of_lt (Nat.lt_of_lt_of_le (Heap.lt_size e) I.ok.above))).trans e1⟩
    · obtain ⟨o', e1⟩ := I.base.there b o e hx
      exact ⟨o', (hs.2 b (Nat.ne_of_lt (Nat.lt_of_lt_of_le (Heap.lt_size e) I.ok.above))).trans e1⟩
    · by_cases hj : j = i
      · subst hj
        rw [hi] at e1; cases e1
        rw [List.getElem?_set_self hiσ] at e2
        cases e2
        exact ⟨u, r, .inl ⟨hk, by simp⟩⟩
      · rw [List.getElem?_set_ne (Ne.symm hj)] at e2
        obtain ⟨u', r', q⟩ := hl j y v' e1 e2 e3
        refine ⟨u', r', ?_⟩
        rcases q with ⟨k, e⟩ | ⟨k, c, e, z⟩
        · refine .inl ⟨k, ?_⟩
          have : y ≠ x := fun e => hj (nodup_ix hN e1 (e ▸ hi))
          simp [this, e]
        · exact .inr ⟨k, c, e, z.sameBut hs (cne y c e)⟩
    · obtain ⟨w', z⟩ := I.cell y c e
      exact ⟨w', z.sameBut hs (cne y c e)⟩
    · obtain ⟨e, n, ne, nf, d⟩ := I.pin p hp
      exact ⟨(hs.2 p.1 ne).trans e, n, ne, nf, d⟩
  · have hfn : X.fn x = true := by
      rcases hf with z | z
      · exact z
      · rw [z] at hk; cases hk
    obtain ⟨c, hc⟩ := I.ok.has x (.inl hk)
    obtain ⟨w', z⟩ := I.cell x c hc
    refine wpAny_storeName_cell I.ok.kind hk hc z (fun h' hc' hs => ?_)
    obtain ⟨oc, hoc, hocd⟩ := id z
    refine h { s with heap := h' } ⟨I.ok, I.os, I.bare, ⟨fun b o e n hb hx => ?_, fun b o e n hb hx => ?_, I.base.free, fun b o e hx => ?_, I.base.tups, I.base.frzs, I.base.tbls⟩, ⟨m, hn.sameBut hs (Ne.symm (cne x c hc)), fun j y v' e1 e2 e3 => ?_⟩, fun y c' e => ?_, I.free, I.freeC, fun p hp => ?_, tracked ⟨oc, hoc, I.freeC x c hc⟩ hs, by simpa using I.len⟩ ⟨c, hs, .inr hc⟩
    · exact (hs.2 b (Nat.ne_of_lt (Nat.lt_of_lt_of_le (Heap.lt_size e) (I.ok.cab x c hfn hc)))).trans (I.base.keep b o e n hb hx)
    · obtain ⟨sl, e1⟩ := I.base.slot b o e n hb hx
      exact ⟨sl, (hs.2 b (Nat.ne_of_lt (Nat.lt_of_lt_of_le (Heap.lt_size e) (I.ok.cab x c hfn hc)))).trans e1⟩
    · obtain ⟨o', e1⟩ := I.base.there b o e hx
      exact ⟨o', (hs.2 b (Nat.ne_of_lt (Nat.lt_of_lt_of_le (Heap.lt_size e) (I.ok.cab x c hfn hc)))).trans e1⟩
    · by_cases hj : j = i
      · subst hj
        rw [hi] at e1; cases e1
        rw [List.getElem?_set_self hiσ] at e2
        cases e2
        exact ⟨u, r, .inr ⟨.inl hk, c, hc, hc'⟩⟩
      · rw [List.getElem?_set_ne (Ne.symm hj)] at e2
        obtain ⟨u', r', q⟩ := hl j y v' e1 e2 e3
        refine ⟨u', r', ?_⟩
        rcases q with q | ⟨k, c', e, z'⟩
        · exact .inl q
        · refine .inr ⟨k, c', e, z'.sameBut hs ?_⟩
          rintro rfl
          exact hj (nodup_ix hN e1 (I.ok.inj _ _ _ e hc ▸ hi))
    · by_cases hcc : c' = c
      · subst hcc; exact ⟨_, hc'⟩
      · obtain ⟨w2, z2⟩ := I.cell y c' e
        exact ⟨w2, z2.sameBut hs hcc⟩
    · obtain ⟨e, n, ne, nf, d⟩ := I.pin p hp
      refine ⟨(hs.2 p.1 ?_).trans e, n, ne, nf, d⟩
      intro q
      rw [q, hoc] at e
      have q' : oc = p.2 := Option.some.inj e
      exact d w' (by rw [← q']; exact hocd)
theorem store_ok {M : Model} {A : Around} {E : Value → Shared → Prop} {i : Nat} {x : Str} {v : V} {u : Value} {Q : Unit → Shared → Prop} (I : Inv X pins σ H s) (hN : X.N.Nodup) (hi : X.N[i]? = some x) (hx : Loc X.env.scope x) (r : RelV v u)
    (h : ∀ s', Inv X pins (σ.set i (some v)) H s' → Q () s') (hf : X.fn x = true ∨ X.env.scope.names.lookup x = some .local := by first | exact .inl rfl | exact .inr rfl | assumption) : wpAny M A (storeName X.env x u) Q E s :=
  store_ok2 I hN hi hx r (fun s' I' _ => h s' I') hf
/-- behind a call or a block, the state as it is -/
theorem Inv.call' {s' : Shared} {ch : List Addr} (I : Inv X pins σ H s) (ho : s'.os = s.os) (u : Un (frs X.stack) ch H H' s.heap s'.heap) (hok : HOk X.prog X.w H' s'.heap) (hg : AllBare s'.gens)
    (hch : ∀ b ∈ ch, (b ∈ X.ex ∨ X.s₀.heap.objs.size ≤ b) ∧ b ≠ X.env.locals ∧ (∀ x c, X.env.cells.lookup x = some c → c ≠ b) ∧ ∀ p ∈ X.pn ++ pins, p.1 ≠ b) : Inv X pins σ H' s' := by
  obtain ⟨h', g', d', t', o'⟩ := s'
  have e : o' = s.os := ho
  subst e
  exact I.call (g' := g') (t' := t') (d' := d') u hok hg hch
end

/-! ### the judgements -/
/-- an exception: its class, its own dict's address (where it has one), the abstract heap behind it -/
abbrev XK := Value → Option Addr → Hp → Prop
abbrev St := List (Option V)
abbrev VK := V → Hp → Prop
/-- an expression's reading; a test's; an argument list's -/
abbrev TE := St → Hp → VK → Prop
abbrev TT := St → Hp → (Bool → Hp → Prop) → Prop
abbrev TA := St → Hp → (List V → Hp → Prop) → Prop
/-- what is wanted behind a statement -/
structure Ends where
  nx : St → Hp → Prop
  rt : VK
  bk : St → Hp → Prop := fun _ _ => False
  ct : St → Hp → Prop := fun _ _ => False
abbrev TS := Ends → St → Hp → Prop

def EP (X : Cx) (pins : List (Addr × Obj)) (σ : St) (Q : VK) (u : Value) (s' : Shared) : Prop := ∃ v H', Inv X pins σ H' s' ∧ RelV v u ∧ Q v H'
def TP (X : Cx) (pins : List (Addr × Obj)) (σ : St) (Q : Bool → Hp → Prop) (b : Bool) (s' : Shared) : Prop := ∃ H', Inv X pins σ H' s' ∧ Q b H'
def AP (X : Cx) (pins : List (Addr × Obj)) (σ : St) (Q : List V → Hp → Prop) (us : List Value) (s' : Shared) : Prop := ∃ vs H', Inv X pins σ H' s' ∧ Vals vs us ∧ Q vs H'
def SP (X : Cx) (pins : List (Addr × Obj)) (D : Ends) (f : Flow) (s' : Shared) : Prop :=
  match f with
  | .next => ∃ σ' H', Inv X pins σ' H' s' ∧ D.nx σ' H'
  | .brk => ∃ σ' H', Inv X pins σ' H' s' ∧ D.bk σ' H'
  | .cont => ∃ σ' H', Inv X pins σ' H' s' ∧ D.ct σ' H'
  | .ret u => ∃ v σ' H', Inv X pins σ' H' s' ∧ RelV v u ∧ D.rt v H'

def PE (X : Cx) (e : Expr) (t : TE) : Prop :=
  ∀ (pins : List (Addr × Obj)) (s : Shared) (σ : St) (H : Hp) (Q : VK), Inv X pins σ H s → t σ H Q → wpAny (model X.prog X.w) X.A (eval e X.env) (EP X pins σ Q) X.xe s
def PT (X : Cx) (e : Expr) (t : TT) : Prop :=
  ∀ (pins : List (Addr × Obj)) (s : Shared) (σ : St) (H : Hp) (Q : Bool → Hp → Prop), Inv X pins σ H s → t σ H Q → wpAny (model X.prog X.w) X.A (isTrue e X.env (eval e X.env)) (TP X pins σ Q) X.xe s
/-- a test whatever its 'whole' is (and, or) -/
def PW (X : Cx) (e : Expr) (t : TT) : Prop :=
  ∀ (whole : Sem Value) (pins : List (Addr × Obj)) (s : Shared) (σ : St) (H : Hp) (Q : Bool → Hp → Prop), Inv X pins σ H s → t σ H Q → wpAny (model X.prog X.w) X.A (isTrue e X.env whole) (TP X pins σ Q) X.xe s
/-- an argument list (no star), from the left -/
def PA (X : Cx) (es : List Expr) (t : TA) : Prop :=
  ∀ (pos : Pos) (pins : List (Addr × Obj)) (s : Shared) (σ : St) (H : Hp) (Q : List V → Hp → Prop), Inv X pins σ H s → t σ H Q → wpAny (model X.prog X.w) X.A (spliced (backTo pos (starEach es X.env))) (AP X pins σ Q) X.xe s
def PS (X : Cx) (st : Stmt) (t : TS) : Prop :=
  ∀ (pins : List (Addr × Obj)) (s : Shared) (σ : St) (H : Hp) (D : Ends), Inv X pins σ H s → t D σ H → wpAny (model X.prog X.w) X.A (exec st X.env) (SP X pins D) X.xe s
def PSs (X : Cx) (st : List Stmt) (t : TS) : Prop :=
  ∀ (pins : List (Addr × Obj)) (s : Shared) (σ : St) (H : Hp) (D : Ends), Inv X pins σ H s → t D σ H → wpAny (model X.prog X.w) X.A (execs st X.env) (SP X pins D) X.xe s
/-- weaken the end -/
theorem thn {α : Type} {t : Sem α} {Q Q' : α → Shared → Prop} {M : Model} {A : Around} {E : Value → Shared → Prop} {s : Shared} (h : wpAny M A t Q E s) (hQ : ∀ a s, Q a s → Q' a s) : wpAny M A t Q' E s := wpAny_mono h hQ fun _ _ x => x
end L2

namespace L2
open PySem PySem.Spec PyProof.Rows
section
variable {X : Cx}

/-- two expressions in a row -/
theorem bin {a b : Expr} {ta tb : TE} (ha : PE X a ta) (hb : PE X b tb) {pins : List (Addr × Obj)} {s : Shared} {σ : St} {H : Hp} {R : V → V → Hp → Prop} (I : Inv X pins σ H s) (h : ta σ H fun x H1 => tb σ H1 fun y H2 => R x y H2)
    {α : Type} {Q : α → Shared → Prop} {f : Value → Value → Sem α}
    (hf : ∀ v u s2 x y H2, Inv X pins σ H2 s2 → RelV x v → RelV y u → R x y H2 → wpAny (model X.prog X.w) X.A (f v u) Q X.xe s2) :
    wpAny (model X.prog X.w) X.A (eval a X.env) (fun v s₁ => wpAny (model X.prog X.w) X.A (eval b X.env) (fun u s₂ => wpAny (model X.prog X.w) X.A (f v u) Q X.xe s₂) X.xe s₁) X.xe s := by
  refine thn (ha pins s σ H _ I h) fun v s1 ⟨x, H1, I1, r1, q1⟩ => ?_
  refine thn (hb pins s1 σ H1 _ I1 q1) fun u s2 ⟨y, H2, I2, r2, q2⟩ => ?_
  exact hf v u s2 x y H2 I2 r1 r2 q2

/-! ### names and constants -/
def tVar (i : Nat) : TE := fun σ H Q => ∃ v, σ[i]? = some (some v) ∧ Q v H
def tC (v : V) : TE := fun _ H Q => Q v H
theorem pe_var {i : Nat} {x : Str} {pos : Pos} (hN : X.N[i]? = some x) (hv : Vis X.env.scope x) (hd : (x == ("__debug__" : Str)) = false := by decide) (hcd : (x == ("__classdict__" : Str)) = false := by decide) : PE X (.Name x pos) (tVar i) := by
  intro pins s σ H Q I h
  obtain ⟨v, e, h⟩ := h
  obtain ⟨m, hn, hl⟩ := I.loc
  obtain ⟨u, r, l⟩ := hl i x v hN e hv
  have fin : EP X pins σ Q u s := ⟨v, H, I, r, h⟩
  rcases l with ⟨hk, hm⟩ | ⟨hk, c, hc, hcell⟩
  · exact wpAny_Name (wpAny_loadName_local I.ok.kind hk hn hm fin) hd
  · rcases hk with hk | hk
    · exact wpAny_Name (wpAny_loadName_cell I.ok.kind hk hc hcell fin) hd
    · exact wpAny_Name (wpAny_loadName_free I.ok.kind hk hc hcell fin hcd) hd
theorem pe_int {i j pos} : PE X (.Constant (.int i) j pos) (tC (.int i)) := fun _ _ _ H _ I h => wpAny_Constant_int ⟨.int i, H, I.tok _, ⟨_, rfl⟩, h⟩
theorem pe_bl {b j pos} : PE X (.Constant (.bool b) j pos) (tC (.bl b)) := fun _ _ _ H _ I h => Constant_bool ⟨.bl b, H, I, rfl, h⟩
theorem pe_str {x j pos} : PE X (.Constant (.str x) j pos) (tC (.str x)) := fun _ _ _ H _ I h => Calls.Constant_str ⟨.str x, H, I.tok _, ⟨_, rfl⟩, h⟩

/-- a global name of the def -/
def Gl (X : Cx) (x : Str) : Prop := X.env.kindOf x = some .globalImplicit
theorem ld_glob {E : Value → Shared → Prop} {pins : List (Addr × Obj)} {s : Shared} {σ : St} {H : Hp} {x : Str} {u : Value} {pos : Pos} {Q : Value → Shared → Prop} (I : Inv X pins σ H s) (hg : Gl X x) (hm : X.mg x = some u) (h : Q u s)
    (hd : (x == ("__debug__" : Str)) = false := by decide) : wpAny (model X.prog X.w) X.A (eval (.Name x pos) X.env) Q E s :=
  Calls.Name_function_global I.ok.kind hg (Calls.loadGlobal_global (by rw [I.ok.glob]; exact I.mod.glob.keeps I.bk) hm h) hd
theorem ld_blt {E : Value → Shared → Prop} {pins : List (Addr × Obj)} {s : Shared} {σ : St} {H : Hp} {x : Str} {u : Value} {pos : Pos} {Q : Value → Shared → Prop} (I : Inv X pins σ H s) (hg : Gl X x) (hm : X.mg x = none) (hv : bootBuiltins x = some u) (h : Q u s)
    (hn : x ≠ "__name__" := by decide) (hd : (x == ("__debug__" : Str)) = false := by decide) : wpAny (model X.prog X.w) X.A (eval (.Name x pos) X.env) Q E s := by
  obtain ⟨mb, h1, h2⟩ := I.mod.blt
  exact Calls.Name_function_global I.ok.kind hg (Calls.loadGlobal_builtin (by rw [I.ok.glob]; exact I.mod.glob.keeps I.bk) hm (by rw [I.ok.blt]; exact h1.keeps I.bk) ((h2 x hn).trans hv) h) hd
/-- a module's constant, a class, a function, as a value -/
theorem pe_glob {x : Str} {v : V} {u : Value} {pos : Pos} (hg : Gl X x) (hm : X.mg x = some u) (r : RelV v u) (hd : (x == ("__debug__" : Str)) = false := by decide) : PE X (.Name x pos) (tC v) :=
  fun _ _ _ H _ I h => ld_glob I hg hm ⟨v, H, I, r, h⟩ hd
theorem pe_bltn {x : Str} {v : V} {u : Value} {pos : Pos} (hg : Gl X x) (hm : X.mg x = none) (hv : bootBuiltins x = some u) (r : RelV v u) (hn : x ≠ "__name__" := by decide) (hd : (x == ("__debug__" : Str)) = false := by decide) : PE X (.Name x pos) (tC v) :=
  fun _ _ _ H _ I h => ld_blt I hg hm hv ⟨v, H, I, r, h⟩ hn hd

/-! ### arithmetic -/
variable {a b : Expr} {ta tb : TE} {pos : Pos}
/-! ### comparisons -/
def PC (X : Cx) (op : CmpOp) (a b : Expr) (t : TE) : Prop :=
  ∀ (pins : List (Addr × Obj)) (s : Shared) (σ : St) (H : Hp) (Q : VK), Inv X pins σ H s → t σ H Q →
    wpAny (model X.prog X.w) X.A (eval a X.env) (fun v s₁ => wpAny (model X.prog X.w) X.A (eval b X.env) (fun u s₂ => wpAny (model X.prog X.w) X.A (compareOp op v u) (EP X pins σ Q) X.xe s₂) X.xe s₁) X.xe s
theorem nobehind (b : Expr) {op : CmpOp} (h : op ≠ .In) (h2 : op ≠ .NotIn) : behindInMarks op b = false := by
  have e1 : (op == CmpOp.In) = false := by cases op <;> first | rfl | exact absurd rfl h
  have e2 : (op == CmpOp.NotIn) = false := by cases op <;> first | rfl | exact absurd rfl h2
  cases b <;> simp [behindInMarks, e1, e2]
/-- a comparison as a value, as a test -/
def tB (t : TE) : TT := fun σ H Q => t σ H fun x H1 => ∃ c, x = .bl c ∧ Q c H1
theorem pt_cmp {op : CmpOp} {t : TE} (h : PC X op a b t) (h1 : behindInMarks op b = false := by first | exact nobehind _ (by decide) (by decide) | rfl) : PT X (.Compare a [op] [b] pos) (tB t) := by
  intro pins s σ H Q I hw
  refine wpAny_isTrue_Compare1 (thn (h pins s σ H _ I hw) fun v s1 h1 => thn h1 fun u s2 h2 => thn h2 fun c s3 ⟨x, H1, I1, r1, q1⟩ => ?_) h1
  obtain ⟨d, rfl, q⟩ := q1
  cases r1
  exact wpAny_truthy_bool ⟨H1, I1, q⟩
/-- an expression whose value is a bool, as a test -/
theorem pt_val {e : Expr} {t : TE} (h : PE X e t) (he : ∀ whole, isTrue e X.env whole = (do let v ← whole; standAt e.pos; holding [v] (truthy v)) := by intro _; rfl) : PT X e (tB t) := by
  intro pins s σ H Q I hw
  refine isTrue_plain (thn (h pins s σ H _ I hw) fun v s1 ⟨x, H1, I1, r1, q1⟩ => ?_) (he _)
  obtain ⟨d, rfl, q⟩ := q1
  cases r1
  exact wpAny_truthy_bool ⟨H1, I1, q⟩

/-! ### and, or, not -/
variable {tA tB' : TT} {rest : List Expr}
def tAnd (t u : TT) : TT := fun σ H Q => t σ H fun c H1 => if c = true then u σ H1 Q else Q false H1
def tOr (t u : TT) : TT := fun σ H Q => t σ H fun c H1 => if c = true then Q true H1 else u σ H1 Q
def tNot (t : TT) : TT := fun σ H Q => t σ H fun c H1 => Q (!c) H1
theorem pw_and1 (ha : PT X a tA) : PW X (.BoolOp .And [a] pos) tA := by
  intro wh pins s σ H Q I h
  refine isTrue_and (thn (ha pins s σ H Q I h) fun c s1 e => ?_)
  cases c with
  | true => exact isTrue_and_nil e
  | false => exact e
theorem pw_or1 (ha : PT X a tA) : PW X (.BoolOp .Or [a] pos) tA := by
  intro wh pins s σ H Q I h
  refine isTrue_or (thn (ha pins s σ H Q I h) fun c s1 e => ?_)
  cases c with
  | false => exact isTrue_or_nil e
  | true => exact e
theorem pw_and (ha : PT X a tA) (hb : PW X (.BoolOp .And (b :: rest) pos) tB') : PW X (.BoolOp .And (a :: b :: rest) pos) (tAnd tA tB') := by
  intro wh pins s σ H Q I h
  refine isTrue_and (thn (ha pins s σ H _ I h) fun c s1 ⟨H1, I1, q1⟩ => ?_)
  cases c with
  | true => exact hb wh pins s1 σ H1 Q I1 q1
  | false => exact ⟨H1, I1, q1⟩
theorem pw_or (ha : PT X a tA) (hb : PW X (.BoolOp .Or (b :: rest) pos) tB') : PW X (.BoolOp .Or (a :: b :: rest) pos) (tOr tA tB') := by
  intro wh pins s σ H Q I h
  refine isTrue_or (thn (ha pins s σ H _ I h) fun c s1 ⟨H1, I1, q1⟩ => ?_)
  cases c with
  | true => exact ⟨H1, I1, q1⟩
  | false => exact hb wh pins s1 σ H1 Q I1 q1
theorem pt_not (ha : PT X a tA) : PT X (.UnaryOp .Not a pos) (tNot tA) := by
  intro pins s σ H Q I h
  exact isTrue_not (ha pins s σ H (fun c H1 => Q (!c) H1) I h)
/-- .. as values (bools) -/
def tAndV (ta tb : TE) : TE := fun σ H Q => ta σ H fun x H1 => ∃ c, x = .bl c ∧ if c = true then tb σ H1 Q else Q (.bl false) H1
def tOrV (ta tb : TE) : TE := fun σ H Q => ta σ H fun x H1 => ∃ c, x = .bl c ∧ if c = true then Q (.bl true) H1 else tb σ H1 Q
def tNotV (ta : TE) : TE := fun σ H Q => ta σ H fun x H1 => ∃ c, x = .bl c ∧ Q (.bl (!c)) H1
theorem pe_one {op} {t : TE} (h : PE X a t) : PE X (.BoolOp op [a] pos) t := fun pins s σ H Q I hw => BoolOp_one (h pins s σ H Q I hw)
theorem pe_and (ha : PE X a ta) (hb : PE X (.BoolOp .And (b :: rest) pos) tb) : PE X (.BoolOp .And (a :: b :: rest) pos) (tAndV ta tb) := by
  intro pins s σ H Q I h
  refine BoolOp_and (thn (ha pins s σ H _ I h) fun v s1 ⟨x, H1, I1, r1, q1⟩ => ?_)
  obtain ⟨c, rfl, q1⟩ := q1
  cases r1
  refine wpAny_truthy_bool ?_
  cases c with
  | true => exact hb pins s1 σ H1 Q I1 q1
  | false => exact ⟨.bl false, H1, I1, rfl, q1⟩
theorem pe_or (ha : PE X a ta) (hb : PE X (.BoolOp .Or (b :: rest) pos) tb) : PE X (.BoolOp .Or (a :: b :: rest) pos) (tOrV ta tb) := by
  intro pins s σ H Q I h
  refine BoolOp_or (thn (ha pins s σ H _ I h) fun v s1 ⟨x, H1, I1, r1, q1⟩ => ?_)
  obtain ⟨c, rfl, q1⟩ := q1
  cases r1
  refine wpAny_truthy_bool ?_
  cases c with
  | false => exact hb pins s1 σ H1 Q I1 q1
  | true => exact ⟨.bl true, H1, I1, rfl, q1⟩
theorem pe_not (ha : PE X a ta) : PE X (.UnaryOp .Not a pos) (tNotV ta) := by
  intro pins s σ H Q I h
  refine UnaryOp_ (thn (ha pins s σ H _ I h) fun v s1 ⟨x, H1, I1, r1, q1⟩ => ?_)
  obtain ⟨c, rfl, q1⟩ := q1
  cases r1
  exact not_of (wpAny_truthy_bool ⟨.bl (!c), H1, I1, rfl, q1⟩)
/-- a if t else b -/
def tIf (t : TT) (ta tb : TE) : TE := fun σ H Q => t σ H fun c H1 => if c = true then ta σ H1 Q else tb σ H1 Q
theorem pe_ifExp {c : Expr} (hc : PT X c tA) (ha : PE X a ta) (hb : PE X b tb) : PE X (.IfExp c a b pos) (tIf tA ta tb) := by
  intro pins s σ H Q I h
  refine wpAny_IfExp (thn (hc pins s σ H _ I h) fun d s1 ⟨H1, I1, q1⟩ => ?_)
  cases d with
  | true => exact ha pins s1 σ H1 Q I1 q1
  | false => exact hb pins s1 σ H1 Q I1 q1
end
end L2

namespace L2
open PySem PySem.Spec PyProof.Rows

/-! ### a list, a tuple that is read: tracked, frozen, or an object of the module -/
def SqL (K : PySem.W.Frag) (H : Hp) (a : Addr) (xs : List V) : Prop :=
  Rd H a (.lst xs) ∨
    ∃ (o : Obj) (its : Array Value) (n : Nat), K.lookup a = some o ∧ o.cls = .type "list" ∧ o.dict = none ∧ o.data = .seq its n ∧ its.size ≤ sizeLine ∧ Vals xs its.toList
def SqT (K : PySem.W.Frag) (H : Hp) (a : Addr) (xs : List V) : Prop :=
  Rd H a (.tup xs) ∨
    ∃ (o : Obj) (its : Array Value) (n : Nat), K.lookup a = some o ∧ o.cls = .type "tuple" ∧ o.data = .seq its n ∧ its.size ≤ sizeLine ∧ Vals xs its.toList
def absV : Value → Option V
  | .none => some .non
  | .bool b => some (.bl b)
  | .int i _ => some (.int i)
  | .str x _ => some (.str x)
  | .bytes b _ => some (.byt b)
  | .float b _ => some (.flt b)
  | .ref a => some (.ref a)
  | .type n => some (.ty n)
  | _ => none
theorem RelV.abs {x : V} {u : Value} (r : RelV x u) : absV u = some x := by
  cases x with
  | non => cases r; rfl
  | bl _ => cases r; rfl
  | int _ => obtain ⟨t, rfl⟩ := r; rfl
  | str _ => obtain ⟨t, rfl⟩ := r; rfl
  | byt _ => obtain ⟨t, rfl⟩ := r; rfl
  | flt _ => obtain ⟨t, rfl⟩ := r; rfl
  | ref _ => cases r; rfl
  | ty _ => cases r; rfl
theorem RelV.inj {x y : V} {u : Value} (r : RelV x u) (q : RelV y u) : x = y := Option.some.inj (r.abs.symm.trans q.abs)
theorem Vals.inj : ∀ {xs ys : List V} {us : List Value}, Vals xs us → Vals ys us → xs = ys
  | _, _, _, .nil, .nil => rfl
  | _, _, _, .cons r t, .cons r' t' => by rw [r.inj r', Vals.inj t t']
section
variable {X : Cx} {pins : List (Addr × Obj)} {σ : St} {H : Hp} {s : Shared} {a : Addr} {xs ys : List V}
theorem SqL.of {K : PySem.W.Frag} (h : H a = some (.lst xs)) : SqL K H a xs := .inl (.inl h)
theorem SqT.of {K : PySem.W.Frag} (h : H a = some (.tup xs)) : SqT K H a xs := .inl (.inl h)
theorem Inv.list (I : Inv X pins σ H s) (h : SqL X.K H a xs) : ∃ its : List Value, Vals xs its ∧ PlainL s.heap a its.toArray ∧ xs.length ≤ sizeLine := by
  rcases h with h | ⟨o, its, n, hk, hc, hd, hs, hz, r⟩
  · obtain ⟨z, its, n, r, e⟩ := h.ok I.hok
    exact ⟨its, r, ⟨_, n, e, rfl, rfl, rfl⟩, z⟩
  · refine ⟨its.toList, r, ⟨o, n, I.kIn a o hk, hc, hd, by simpa using hs⟩, ?_⟩
    have e := r.length
    simp only [Array.length_toList] at e
    omega
theorem Inv.tuple (I : Inv X pins σ H s) (h : SqT X.K H a xs) : ∃ its : List Value, Vals xs its ∧ IsTup s.heap a its.toArray ∧ xs.length ≤ sizeLine := by
  rcases h with h | ⟨o, its, n, hk, hc, hs, hz, r⟩
  · obtain ⟨z, its, r, p⟩ := h.ok I.hok
    exact ⟨its, r, p, z⟩
  · refine ⟨its.toList, r, ⟨o, I.kIn a o hk, hc, n, by simpa using hs⟩, ?_⟩
    have e := r.length
    simp only [Array.length_toList] at e
    omega
theorem Inv.list_inj (I : Inv X pins σ H s) (h : SqL X.K H a xs) (h' : SqL X.K H a ys) : xs = ys := by
  obtain ⟨its, r, ⟨o, n, e, _, _, d⟩, _⟩ := I.list h
  obtain ⟨its', r', ⟨o', n', e', _, _, d'⟩, _⟩ := I.list h'
  rw [e] at e'; cases e'
  rw [d] at d'
  injection d' with d1 _
  have : its = its' := by simpa using congrArg Array.toList d1
  subst this
  exact r.inj r'
theorem Inv.tuple_inj (I : Inv X pins σ H s) (h : SqT X.K H a xs) (h' : SqT X.K H a ys) : xs = ys := by
  obtain ⟨its, r, ⟨o, e, _, n, d⟩, _⟩ := I.tuple h
  obtain ⟨its', r', ⟨o', e', _, n', d'⟩, _⟩ := I.tuple h'
  rw [e] at e'; cases e'
  rw [d] at d'
  injection d' with d1 _
  have : its = its' := by simpa using congrArg Array.toList d1
  subst this
  exact r.inj r'
end

/-! ### another wish about exceptions -/
abbrev Cx.wish (X : Cx) (E : Value → Shared → Prop) : Cx := { X with xe := E }
/-- no exception leaves -/
abbrev Cx.nox (X : Cx) : Cx := X.wish fun _ _ => False
theorem Cx.Ok.wish {X : Cx} (ok : X.Ok) (E : Value → Shared → Prop) : (X.wish E).Ok :=
  ⟨ok.mod, ok.kind, ok.glob, ok.blt, ok.above, ok.inj, ok.has, ok.cab, ok.hd, ok.frames, ok.stk, ok.exf, ok.bs, ok.bsz, ok.noex, ok.exfs, ok.funs, ok.frf⟩
theorem Cx.Ok.unwish {X : Cx} {E : Value → Shared → Prop} (ok : (X.wish E).Ok) : X.Ok :=
  ⟨ok.mod, ok.kind, ok.glob, ok.blt, ok.above, ok.inj, ok.has, ok.cab, ok.hd, ok.frames, ok.stk, ok.exf, ok.bs, ok.bsz, ok.noex, ok.exfs, ok.funs, ok.frf⟩
section
variable {X : Cx} {pins : List (Addr × Obj)} {σ : St} {H : Hp} {s : Shared} {E : Value → Shared → Prop}
theorem Inv.wish (I : Inv X pins σ H s) (E : Value → Shared → Prop) : Inv (X.wish E) pins σ H s := ⟨I.ok.wish E, I.os, I.bare, I.base, I.loc, I.cell, I.free, I.freeC, I.pin, I.hok, I.len⟩
theorem Inv.unwish (I : Inv (X.wish E) pins σ H s) : Inv X pins σ H s := ⟨I.ok.unwish, I.os, I.bare, I.base, I.loc, I.cell, I.free, I.freeC, I.pin, I.hok, I.len⟩
theorem SP.unwish {D : Ends} {f : Flow} {s' : Shared} (h : SP (X.wish E) pins D f s') : SP X pins D f s' := by
  cases f with
  | next => obtain ⟨σ', H', I, q⟩ := h; exact ⟨σ', H', I.unwish, q⟩
  | brk => obtain ⟨σ', H', I, q⟩ := h; exact ⟨σ', H', I.unwish, q⟩
  | cont => obtain ⟨σ', H', I, q⟩ := h; exact ⟨σ', H', I.unwish, q⟩
  | ret u => obtain ⟨v, σ', H', I, r, q⟩ := h; exact ⟨v, σ', H', I.unwish, r, q⟩
theorem PSs.nox {st : List Stmt} {t : TS} (h : PSs X.nox st t) : PSs X st t := fun pins s σ H D I hw =>
  wpAny_mono (h pins s σ H D (I.wish _) hw) (fun _ _ q => q.unwish) fun _ _ z => False.elim z
end

/-! ### blocks and small statements -/
section
variable {X : Cx} {st : Stmt} {rest : List Stmt} {t u : TS} {e : Expr} {te : TE} {pos : Pos}
def tNext : TS := fun D σ H => D.nx σ H
def tSeq (t u : TS) : TS := fun D σ H => t { D with nx := u D } σ H
theorem pss_nil : PSs X [] tNext := fun _ _ σ H _ I h => wpAny_execs_nil ⟨σ, H, I, h⟩
theorem pss_cons (h1 : PS X st t) (h2 : PSs X rest u) : PSs X (st :: rest) (tSeq t u) := by
  intro pins s σ H D I h
  refine wpAny_execs_cons (thn (h1 pins s σ H { D with nx := u D } I h) fun f s1 q => ?_)
  cases f with
  | next =>
    obtain ⟨σ', H', I', q⟩ := q
    exact h2 pins s1 σ' H' D I' q
  | ret v => exact q
  | brk => exact q
  | cont => exact q
theorem pss_one (h1 : PS X st t) : PSs X [st] t := by
  intro pins s σ H D I h
  refine wpAny_execs_cons (thn (h1 pins s σ H D I h) fun f s1 q => ?_)
  cases f with
  | next => exact wpAny_execs_nil q
  | ret v => exact q
  | brk => exact q
  | cont => exact q
/-- in a def's body nothing is shown -/
theorem Inv.quiet {pins : List (Addr × Obj)} {σ : St} {H : Hp} {s : Shared} (I : Inv X pins σ H s) : interactive X.env = false := by simp [interactive, I.ok.kind]
/-- an expression whose value is dropped -/
def tDrop (te : TE) : TS := fun D σ H => te σ H fun _ H1 => D.nx σ H1
theorem ps_expr (he : PE X e te) (hs : swapsWith e none pos.line X.env = pure false := by rfl) : PS X (.Expr e pos) (tDrop te) := by
  intro pins s σ H D I h
  exact wpAny_Expr_any (thn (he pins s σ H _ I h) fun v s1 ⟨x, H1, I1, r1, q1⟩ => ⟨σ, H1, I1, q1⟩) I.quiet hs
def tRet (te : TE) : TS := fun D σ H => te σ H D.rt
theorem ps_ret (he : PE X e te) : PS X (.Return (some e) pos) (tRet te) := by
  intro pins s σ H D I h
  exact wpAny_Return_some (thn (he pins s σ H _ I h) fun v s1 ⟨x, H1, I1, r1, q1⟩ => ⟨x, σ, H1, I1, r1, q1⟩)
def tIfS (c : TT) (t u : TS) : TS := fun D σ H => c σ H fun b H1 => if b = true then t D σ H1 else u D σ H1
theorem ps_if {c : Expr} {a b : List Stmt} {tc : TT} (hc : PT X c tc) (ha : PSs X a t) (hb : PSs X b u) : PS X (.If c a b pos) (tIfS tc t u) := by
  intro pins s σ H D I h
  refine wpAny_If (thn (hc pins s σ H _ I h) fun d s1 ⟨H1, I1, q1⟩ => ?_)
  cases d with
  | true => exact ha pins s1 σ H1 D I1 q1
  | false => exact hb pins s1 σ H1 D I1 q1
end

/-! ### targets -/
abbrev TG := V → St → Hp → (St → Hp → Prop) → Prop
abbrev TGs := List V → St → Hp → (St → Hp → Prop) → Prop
def PG (X : Cx) (target : Expr) (t : TG) : Prop :=
  ∀ (pins : List (Addr × Obj)) (s : Shared) (σ : St) (H : Hp) (v : V) (u : Value) (Q : St → Hp → Prop), Inv X pins σ H s → RelV v u → t v σ H Q →
    wpAny (model X.prog X.w) X.A (assign target X.env u) (fun _ s' => ∃ σ' H', Inv X pins σ' H' s' ∧ Q σ' H') X.xe s
/-- several targets, one after another -/
def PGs (X : Cx) (ts : List Expr) (t : TGs) : Prop :=
  ∀ (pins : List (Addr × Obj)) (s : Shared) (σ : St) (H : Hp) (vs : List V) (us : List Value) (Q : St → Hp → Prop), Inv X pins σ H s → Vals vs us → t vs σ H Q →
    wpAny (model X.prog X.w) X.A (assignInOrder ((assignEach ts X.env).map (·.2)) us) (fun _ s' => ∃ σ' H', Inv X pins σ' H' s' ∧ Q σ' H') X.xe s
/-- o[i] = v, by values -/
abbrev TSet := V → V → V → Hp → (Hp → Prop) → Prop
def PSet (X : Cx) (t : TSet) : Prop :=
  ∀ (pins : List (Addr × Obj)) (s : Shared) (σ : St) (H : Hp) (o i v : V) (ov iv u : Value) (Q : Hp → Prop), Inv X pins σ H s → RelV o ov → RelV i iv → RelV v u → t o i v H Q →
    wpAny (model X.prog X.w) X.A (setItem ov iv u) (fun _ s' => ∃ H', Inv X pins σ H' s' ∧ Q H') X.xe s
section
variable {X : Cx} {pos : Pos}
def gName (i : Nat) : TG := fun v σ H Q => Q (σ.set i (some v)) H
theorem pg_name {i : Nat} {x : Str} (hN : X.N.Nodup) (hi : X.N[i]? = some x) (hx : Loc X.env.scope x) (hf : X.fn x = true ∨ X.env.scope.names.lookup x = some .local := by first | exact .inl rfl | exact .inr rfl | assumption) : PG X (.Name x pos) (gName i) := by
  intro pins s σ H v u Q I r h
  exact wpAny_assign_Name (store_ok I hN hi hx r (fun s' I' => ⟨_, H, I', h⟩) hf)
def gNil : TGs := fun vs σ H Q => vs = [] ∧ Q σ H
def gCons (t : TG) (u : TGs) : TGs := fun vs σ H Q => ∃ v r, vs = v :: r ∧ t v σ H fun σ' H' => u r σ' H' Q
theorem pgs_nil : PGs X [] gNil := by
  intro pins s σ H vs us Q I r h
  obtain ⟨e, h⟩ := h
  subst e
  cases r
  exact assignInOrder_nil ⟨σ, H, I, h⟩
theorem pgs_cons {e : Expr} {es : List Expr} {t : TG} {u : TGs} (h1 : PG X e t) (h2 : PGs X es u)
    (hs : (assignEach (e :: es) X.env).map (·.2) = assign e X.env :: (assignEach es X.env).map (·.2) := by rfl) : PGs X (e :: es) (gCons t u) := by
  intro pins s σ H vs us Q I r h
  obtain ⟨v, vr, e1, h⟩ := h
  subst e1
  cases r with
  | cons r rr =>
    rw [hs]
    refine assignInOrder_cons (thn (h1 pins s σ H _ _ _ I r h) fun _ s1 ⟨σ1, H1, I1, q1⟩ => ?_)
    exact h2 pins s1 σ1 H1 _ _ Q I1 rr q1
/-- (a, b, ..) = a tuple of that length -/
def gTup (K : PySem.W.Frag) (n : Nat) (t : TGs) : TG := fun v σ H Q => ∃ a xs, v = .ref a ∧ SqT K H a xs ∧ xs.length = n ∧ t xs σ H Q
theorem pg_tup {es : List Expr} {k : Nat} {t : TGs} {n : Nat} (hc : X.calm = true) (h : PGs X es t)
    (hn : (assignEach es X.env).length = n := by rfl) (hst : (assignEach es X.env).findIdx? (·.1) = none := by rfl) : PG X (.Tuple es k pos) (gTup X.K n t) := by
  intro pins s σ H v u Q I r hw
  obtain ⟨a, xs, e1, hq, hl, hw⟩ := hw
  subst e1
  cases r
  obtain ⟨its, rv, ht, hz⟩ := I.tuple hq
  refine assign_Tuple_tuple (I.ok.hd hc) ht (by simp [hn, ← hl, rv.length]) hst fun h' hx => ?_
  have I1 : Inv X pins σ H { s with heap := h' } := I.kept (t' := s.toks) fun b o e => hx b o (Nat.ne_of_lt (Heap.lt_size e)) e
  exact h pins _ σ H xs _ Q I1 (by simpa using rv) hw
/-- o[i] = .. -/
def gSub (to ti : TE) (t : TSet) : TG := fun v σ H Q => to σ H fun o H1 => ti σ H1 fun i H2 => t o i v H2 fun H3 => Q σ H3
theorem pg_sub {o i : Expr} {to ti : TE} {t : TSet} (ho : PE X o to) (hi : PE X i ti) (hs : PSet X t)
    (ha : ∀ v, assign (.Subscript o i pos) X.env v = (do
      let ov ← holding [v] (eval o X.env)
      let iv ← holding [v, ov] (eval i X.env)
      standAt pos
      holding [v, ov, iv] (setItem ov iv v)
      release [v, ov, iv] []) := by intro _; rfl) : PG X (.Subscript o i pos) (gSub to ti t) := by
  intro pins s σ H v u Q I r h
  rw [ha]
  refine wpAny_bind (wpAny_holding (thn (ho pins s σ H _ I h) fun ov s1 ⟨x, H1, I1, r1, q1⟩ => ?_))
  refine wpAny_bind (wpAny_holding (thn (hi pins s1 σ H1 _ I1 q1) fun iv s2 ⟨y, H2, I2, r2, q2⟩ => ?_))
  refine wpAny_bind (wpAny_standAt (wpAny_bind (wpAny_holding (thn (hs pins s2 σ H2 x y v ov iv u _ I2 r1 r2 r q2) fun _ s3 ⟨H3, I3, q3⟩ => ?_))))
  exact wpAny_release ⟨σ, H3, I3, q3⟩
/-- target = value -/
def tAsg (te : TE) (g : TG) : TS := fun D σ H => te σ H fun x H1 => g x σ H1 D.nx
theorem ps_asg {tg e : Expr} {te : TE} {g : TG} (he : PE X e te) (hg : PG X tg g) (hs : swapsWithSole [tg] e pos.line X.env = pure false := by rfl) (hw : swappedStores [tg] e X.env = pure none := by rfl)
    (h1 : (assignEach [tg] X.env).map (·.2) = [assign tg X.env] := by rfl) : PS X (.Assign [tg] e pos) (tAsg te g) := by
  intro pins s σ H D I h
  refine wpAny_Assign_stores (thn (he pins s σ H _ I h) fun v s1 ⟨x, H1, I1, r1, q1⟩ => ?_) hs hw
  rw [h1]
  exact thn (hg pins s1 σ H1 x v _ I1 r1 q1) fun _ s2 q => q
/-- name = value -/
theorem ps_set {i : Nat} {x : Str} {e : Expr} {te : TE} {pos' : Pos} (hN : X.N.Nodup) (hi : X.N[i]? = some x) (hx : Loc X.env.scope x) (he : PE X e te) (hs : swapsWith e (some (.Name x pos')) pos.line X.env = pure false := by rfl) (hf : X.fn x = true ∨ X.env.scope.names.lookup x = some .local := by first | exact .inl rfl | exact .inr rfl | assumption) :
    PS X (.Assign [.Name x pos'] e pos) (tAsg te (gName i)) := by
  intro pins s σ H D I h
  refine wpAny_Assign_Name (thn (he pins s σ H _ I h) fun v s1 ⟨y, H1, I1, r1, q1⟩ => ?_) hs
  exact store_ok I1 hN hi hx r1 (fun s2 I2 => ⟨_, H1, I2, q1⟩) hf
/-- a, b = x, y with plain local names: stored from the right; the pair itself is not tracked (the opening rows as in PyProof/Rows/TupAssign.lean:23) -/
def tPar (i j : Nat) (ta : TA) : TS := fun D σ H => ta σ H fun vs H1 => ∃ v w, vs = [v, w] ∧ D.nx ((σ.set i (some v)).set j (some w)) H1
theorem ps_par {i j : Nat} {x y : Str} {a b : Expr} {ta : TA} {px py pt : Pos} {kt k2 pt2} (hc : X.calm = true) (hN : X.N.Nodup) (hi : X.N[i]? = some x) (hj : X.N[j]? = some y) (hij : i ≠ j)
    (hx : X.env.scope.names.lookup x = some .local) (hy : X.env.scope.names.lookup y = some .local) (ha : PA X [a, b] ta)
    (hw : swappedStores [.Tuple [.Name x px, .Name y py] kt pt] (.Tuple [a, b] k2 pt2) X.env = pure (some [x, y]))
    (hs : swapsWithSole [.Tuple [.Name x px, .Name y py] kt pt] (.Tuple [a, b] k2 pt2) pos.line X.env = pure false := by rfl) :
    PS X (.Assign [.Tuple [.Name x px, .Name y py] kt pt] (.Tuple [a, b] k2 pt2) pos) (tPar i j ta) := by
  intro pins s σ H D I h
  rw [exec_Assign_arm]
  refine wpAny_bind (wpAny_standAt ?_)
  rw [hs]
  refine wpAny_bind (wpAny_pure ?_)
  rw [if_neg (by decide)]
  refine wpAny_bind (Tuple_ (thn (ha _ pins s σ H _ I h) fun us s1 ⟨vs, H1, I1, r1, q1⟩ => ?_))
  obtain ⟨v, w, e1, q1⟩ := q1
  subst e1
  obtain ⟨u1, u2, rfl, rv, rw'⟩ : ∃ u1 u2, us = [u1, u2] ∧ RelV v u1 ∧ RelV w u2 := by
    cases r1 with
    | cons p q =>
      cases q with
      | cons p' q' =>
        cases q'
        exact ⟨_, _, rfl, p, p'⟩
  refine wpAny_newObj_type ?_ (by show 2 ≤ sizeLine; decide)
  have I2 : Inv X pins σ H1 { s1 with heap := s1.heap.push { cls := .type "tuple", data := .seq [u1, u2].toArray } } := I1.kept (t' := s1.toks) fun b o e => Heap.get?_push_of_some _ e
  rw [hw]
  refine wpAny_bind (wpAny_pure ?_)
  show wpAny (model X.prog X.w) X.A (do rule "assign.swapped-stores"; let items ← unpackItems (.ref s1.heap.objs.size) 2 none; assignInOrder [fun v => bindName X.env y v, fun v => bindName X.env x v] items.reverse; pure Flow.next) _ _ _
  refine wpAny_bind (wpAny_rule (wpAny_bind (unpackItems_tuple (items := #[u1, u2]) (I.ok.hd hc) (IsTup.new s1.heap _) fun h' hx' => ?_)))
  have I3 := I2.kept (h' := h') (t' := s1.toks) fun b o e => hx' b o (Nat.ne_of_lt (Heap.lt_size e)) e
  show wpAny _ _ (assignInOrder [fun v => bindName X.env y v, fun v => bindName X.env x v] [u2, u1] >>= fun _ => pure Flow.next) _ _ _
  refine wpAny_bind (assignInOrder_cons (wpAny_bindName (store_ok I3 hN hj (.inl hy) rw' (fun s2 I4 => ?_) (.inr hy))))
  refine assignInOrder_cons (wpAny_bindName (store_ok I4 hN hi (.inl hx) rv (fun s3 I5 => assignInOrder_nil (wpAny_pure ?_)) (.inr hx)))
  rw [List.set_comm _ _ (Ne.symm hij)] at I5
  exact ⟨_, H1, I5, q1⟩
end

/-! ### while -/
section
variable {X : Cx} {pos : Pos}
/-- the invariant W with its measure -/
def tWhile (c : TT) (tb : TS) : TS := fun D σ H => ∃ W : Nat → St → Hp → Prop, (∃ m, W m σ H) ∧ ∀ m σ H, W m σ H →
  c σ H fun b H1 => if b = true then ∃ N : St → Hp → Prop, (∀ σ' H', N σ' H' → ∃ m', m' < m ∧ W m' σ' H') ∧ tb { D with nx := N, ct := N, bk := D.nx } σ H1 else D.nx σ H1
theorem ps_while {c : Expr} {body : List Stmt} {tc : TT} {tb : TS} (hp : PassesOwn (model X.prog X.w) X.A X.env X.xe) (hc : PT X c tc) (hb : PSs X body tb) : PS X (.While c body [] pos) (tWhile tc tb) := by
  intro pins s σ H D I h
  obtain ⟨W, ⟨m0, w0⟩, turn⟩ := h
  refine wpAny_While (codeAny_whileLoop (fun n s' => ∃ σ' H', Inv X pins σ' H' s' ∧ W n σ' H') ?_ m0 ⟨σ, H, I, w0⟩)
  rintro n s1 ⟨σ1, H1, I1, w1⟩
  refine wpAny_passesOwn hp (thn (hc pins s1 σ1 H1 _ I1 (turn n σ1 H1 w1)) fun b s2 ⟨H2, I2, q2⟩ => ?_)
  cases b with
  | true =>
    obtain ⟨N, hN, q2⟩ := q2
    rw [if_pos rfl]
    refine wpAny_passesOwn hp (thn (hb pins s2 σ1 H2 _ I2 q2) fun f s3 q3 => ?_)
    cases f with
    | next =>
      obtain ⟨σ3, H3, I3, n3⟩ := q3
      obtain ⟨m', hm, w3⟩ := hN σ3 H3 n3
      exact ⟨m', hm, σ3, H3, I3, w3⟩
    | cont =>
      obtain ⟨σ3, H3, I3, n3⟩ := q3
      obtain ⟨m', hm, w3⟩ := hN σ3 H3 n3
      exact ⟨m', hm, σ3, H3, I3, w3⟩
    | brk => exact q3
    | ret v => exact q3
  | false =>
    rw [if_neg Bool.false_ne_true]
    exact wpAny_execs_nil ⟨σ1, H2, I2, q2⟩
end

/-! ### what a loop or a comprehension walks -/
/-- at turn i: it yields x (the heap may grow), or it stops -/
structure It where
  go : Nat → Hp → Prop
  yld : Nat → Hp → V → Hp → Prop
  stop : Nat → Hp → Prop
  hot : Prop
/-- an exception is being handled that stands known and bears no other one -/
def HotX (X : Cx) : Prop := ∃ (ea : Addr) (oe : Obj) (u : HO) (vs : Array Value), X.A.handled = some (.ref ea) ∧ X.H₀ ea = some (.frz oe u) ∧ oe.data = .fields vs ∧ vs[2]? = some .none
/-- the iterator's own objects may turn: they are not the frame's, not pinned, younger than the entry (or a comprehension's own) -/
def FpOk (X : Cx) (pins : List (Addr × Obj)) (H : Hp) (b : Addr) : Prop :=
  H b = none ∧ b ≠ X.env.locals ∧ b ∉ X.fs ∧ (b ∈ X.ex ∨ X.s₀.heap.objs.size ≤ b) ∧ (∀ x c, X.env.cells.lookup x = some c → c ≠ b) ∧ ∀ p ∈ X.pn ++ pins, p.1 ≠ b
theorem Inv.fpOk {X : Cx} {pins : List (Addr × Obj)} {σ : St} {H H' : Hp} {s : Shared} {b : Addr} (I : Inv X pins σ H s) (hb : s.heap.objs.size ≤ b) (hn : H' b = none) : FpOk X pins H' b := by
  refine ⟨hn, Nat.ne_of_gt (Nat.lt_of_lt_of_le I.lt hb), I.nofs hb, .inr (Nat.le_trans I.sz hb), fun x c e z => ?_, fun p hp z => ?_⟩
  · obtain ⟨v, q⟩ := I.cell x c e
    exact absurd (Nat.lt_of_lt_of_le q.lt (by rw [z]; exact hb)) (Nat.lt_irrefl _)
  · exact absurd (Nat.lt_of_lt_of_le (Heap.lt_size (I.pin p hp).1) (by rw [z]; exact hb)) (Nat.lt_irrefl _)
structure Turn (P : Program) (w : World) (K : PySem.W.Frag) (tg : Expr) (J : It) (fp : List Addr) (it : Addr) (tn : Nat → Heap → Prop) : Prop where
  mem : it ∈ fp
  obj : ∀ i h, tn i h → ∀ b ∈ fp, ∃ o, h.get? b = some o ∧ ∀ v, o.data ≠ .cell v
  keep : ∀ i h h', tn i h → (∀ b ∈ fp, ∀ o, h.get? b = some o → h'.get? b = some o) → tn i h'
  item : ∀ (X : Cx), X.prog = P → X.w = w → X.K = K → (X.calm = true ∨ (J.hot ∧ HotX X)) → ∀ (i : Nat) (pins : List (Addr × Obj)) (s : Shared) (σ : St) (H : Hp) (E : Value → Shared → Prop), Inv X pins σ H s → (∀ b ∈ fp, FpOk X pins H b) → tn i s.heap → J.go i H →
    wpAny (model P w) X.A (pyNext (.ref it)) (fun r s1 => ∃ u, r = some u ∧
      wpAny (model P w) X.A (letOwnedTupleGo tg (.ref it) u) (fun _ s2 => ∃ x H', Inv X pins σ H' s2 ∧ RelV x u ∧ J.yld i H x H' ∧ tn (i + 1) s2.heap ∧ ∀ b ∈ fp, H' b = none) E s1) E s
  done : ∀ (X : Cx), X.prog = P → X.w = w → X.K = K → (X.calm = true ∨ (J.hot ∧ HotX X)) → ∀ (i : Nat) (pins : List (Addr × Obj)) (s : Shared) (σ : St) (H : Hp) (E : Value → Shared → Prop), Inv X pins σ H s → (∀ b ∈ fp, FpOk X pins H b) → tn i s.heap → J.stop i H →
    wpAny (model P w) X.A (pyNext (.ref it)) (fun r s1 => r = none ∧ Inv X pins σ H s1) E s
  self : ∀ (A : Around) (i : Nat) (s : Shared) (Q : Value → Shared → Prop) (E : Value → Shared → Prop), tn i s.heap → Q (.ref it) s → wpAny (model P w) A (pyIter (.ref it)) Q E s
abbrev TI := St → Hp → (It → Hp → Prop) → Prop
/-- an iterator has come -/
def PIE (X : Cx) (pins : List (Addr × Obj)) (σ : St) (tg : Expr) (R : It → Hp → Prop) (itv : Value) (s2 : Shared) : Prop :=
  ∃ (it : Addr) (fp : List Addr) (tn : Nat → Heap → Prop) (J : It) (H' : Hp), itv = .ref it ∧ Inv X pins σ H' s2 ∧ Turn X.prog X.w X.K tg J fp it tn ∧ tn 0 s2.heap ∧ (∀ b ∈ fp, FpOk X pins H' b) ∧ R J H'
def PI (X : Cx) (tg iter : Expr) (wi : TI) : Prop :=
  ∀ (pins : List (Addr × Obj)) (s : Shared) (σ : St) (H : Hp) (R : It → Hp → Prop), Inv X pins σ H s → wi σ H R →
    wpAny (model X.prog X.w) X.A (eval iter X.env) (fun v s1 => wpAny (model X.prog X.w) X.A (pyIter v) (PIE X pins σ tg R) X.xe s1) X.xe s

/-- the step ahead of the store is nothing for an iterator that keeps no tuple -/
theorem go_of {M : Model} {A : Around} {E : Value → Shared → Prop} {s : Shared} {tg : Expr} {it : Addr} {u : Value} {o : Obj} {n : String} {vs : Array Value} {Q : Unit → Shared → Prop} (ho : s.heap.get? it = some o) (hc : o.cls = .type n) (hd : o.data = .fields vs)
    (hn : ["enumerate", "zip", "dict_itemiterator", "dict_reverseitemiterator", "odict_iterator", "itertools.zip_longest", "itertools.pairwise"].contains n = false) (hQ : Q () s) : wpAny M A (letOwnedTupleGo tg (.ref it) u) Q E s := by
  unfold letOwnedTupleGo
  cases tg <;> first
    | exact wpAny_pure hQ
    | (cases u <;> first
        | exact wpAny_pure hQ
        | (refine wpAny_bind (wpAny_load ho ?_)
           rw [hc, hd]
           show wpAny M A (if (["enumerate", "zip", "dict_itemiterator", "dict_reverseitemiterator", "odict_iterator", "itertools.zip_longest", "itertools.pairwise"].contains n && vs[0]? == some (rawInt _)) = true then _ else _) Q E s
           rw [if_neg (by intro h; rw [hn, Bool.false_and] at h; cases h)]
           exact wpAny_pure hQ))

/-- the list at a, as it stands at each turn (a loop may append to it) -/
def Itl (K : PySem.W.Frag) (a : Addr) : It :=
  ⟨fun i H => ∃ xs x, SqL K H a xs ∧ xs[i]? = some x, fun i H x H' => H' = H ∧ ∀ xs, SqL K H a xs → xs[i]? = some x, fun i H => ∃ xs, SqL K H a xs ∧ xs.length ≤ i, False⟩
def Itt (K : PySem.W.Frag) (a : Addr) : It :=
  ⟨fun i H => ∃ xs x, SqT K H a xs ∧ xs[i]? = some x, fun i H x H' => H' = H ∧ ∀ xs, SqT K H a xs → xs[i]? = some x, fun i H => ∃ xs, SqT K H a xs ∧ xs.length ≤ i, False⟩
/-- lo, lo + 1, .. (n of them) -/
def Itr (lo : Int) (n : Nat) : It := ⟨fun i _ => i < n, fun i H x H' => H' = H ∧ x = .int (lo + i), fun i _ => n ≤ i, True⟩
theorem turn_list {P : Program} {w : World} {K : PySem.W.Frag} {tg : Expr} (a it : Addr) : Turn P w K tg (Itl K a) [it] it (fun i h => h.IsListIter it a i) where
  mem := by simp
  obj := fun i h st b hb => by
    have e : b = it := by simpa using hb
    subst e
    obtain ⟨o, e, c, d⟩ := st
    exact ⟨o, e, fun v z => by rw [d] at z; cases z⟩
  keep := fun i h h' st k => st.at fun o e => k it (by simp) o e
  item := by
    intro X hP hw hK hc i pins s σ H E I hf st hg
    subst hP hw hK
    replace hc := hc.resolve_right fun z => z.1
    obtain ⟨xs, x, hq, hx⟩ := hg
    obtain ⟨its, rv, p, hz⟩ := I.list hq
    obtain ⟨u, hu, ru⟩ := rv.get hx
    obtain ⟨f0, f1, f2, f3, f4, f5⟩ := hf it (by simp)
    refine wpAny_pyNext_list_item st p.isList (x := u) (by simpa using hu) fun h' st' sb => ?_
    have I1 : Inv X pins σ H { s with heap := h' } := I.turned (t' := s.toks) (fun b o hb e => (sb.2 b hb).trans e) f0 f1 f3 f4 f5
    obtain ⟨o, e, c, d⟩ := id st'
    exact ⟨u, rfl, go_of (s := { s with heap := h' }) e c d (by decide) ⟨x, H, I1, ru, ⟨rfl, fun ys hy => by rw [I.list_inj hy hq]; exact hx⟩, st', fun b hb => (hf b hb).1⟩⟩
  done := by
    intro X hP hw hK hc i pins s σ H E I hf st hg
    subst hP hw hK
    replace hc := hc.resolve_right fun z => z.1
    obtain ⟨xs, hq, hx⟩ := hg
    obtain ⟨its, rv, p, hz⟩ := I.list hq
    obtain ⟨f0, f1, f2, f3, f4, f5⟩ := hf it (by simp)
    have hl := rv.length
    exact wpAny_pyNext_list_end (I.ok.hd hc) st p.isList (by simp; omega) fun h' eb => ⟨rfl, I.turned (t' := s.toks) (fun b o hb e => eb b o hb e) f0 f1 f3 f4 f5⟩
  self := fun _ _ _ _ _ st h => wpAny_pyIter_listiter st h
theorem turn_tuple {P : Program} {w : World} {K : PySem.W.Frag} {tg : Expr} (a it : Addr) : Turn P w K tg (Itt K a) [it] it (fun i h => h.IsTupleIter it a i) where
  mem := by simp
  obj := fun i h st b hb => by
    have e : b = it := by simpa using hb
    subst e
    obtain ⟨o, e, c, d⟩ := st
    exact ⟨o, e, fun v z => by rw [d] at z; cases z⟩
  keep := fun i h h' st k => st.at fun o e => k it (by simp) o e
  item := by
    intro X hP hw hK hc i pins s σ H E I hf st hg
    subst hP hw hK
    replace hc := hc.resolve_right fun z => z.1
    obtain ⟨xs, x, hq, hx⟩ := hg
    obtain ⟨its, rv, p, hz⟩ := I.tuple hq
    obtain ⟨u, hu, ru⟩ := rv.get hx
    obtain ⟨f0, f1, f2, f3, f4, f5⟩ := hf it (by simp)
    refine wpAny_pyNext_tuple_item st (show s.heap.IsTuple a its.toArray from p) (x := u) (by simpa using hu) fun h' st' sb => ?_
    have I1 : Inv X pins σ H { s with heap := h' } := I.turned (t' := s.toks) (fun b o hb e => (sb.2 b hb).trans e) f0 f1 f3 f4 f5
    obtain ⟨o, e, c, d⟩ := id st'
    exact ⟨u, rfl, go_of (s := { s with heap := h' }) e c d (by decide) ⟨x, H, I1, ru, ⟨rfl, fun ys hy => by rw [I.tuple_inj hy hq]; exact hx⟩, st', fun b hb => (hf b hb).1⟩⟩
  done := by
    intro X hP hw hK hc i pins s σ H E I hf st hg
    subst hP hw hK
    replace hc := hc.resolve_right fun z => z.1
    obtain ⟨xs, hq, hx⟩ := hg
    obtain ⟨its, rv, p, hz⟩ := I.tuple hq
    obtain ⟨f0, f1, f2, f3, f4, f5⟩ := hf it (by simp)
    have hl := rv.length
    exact wpAny_pyNext_tuple_end (I.ok.hd hc) st (show s.heap.IsTuple a its.toArray from p) (by simp; omega) fun h' eb => ⟨rfl, I.turned (t' := s.toks) (fun b o hb e => eb b o hb e) f0 f1 f3 f4 f5⟩
  self := fun _ _ _ _ _ st h => wpAny_pyIter_tupleiter st h
theorem entry_unchain : entryFor table "proto.unchain" = some Builtin.«proto.unchain» := entryFor_of_tree (by kernel_rfl)
/-- a range's end while an exception is handled -/
theorem range_end_hot {prog : Program} {w : World} {A : Around} {E : Value → Shared → Prop} {s : Shared} {it ea : Addr} {x left step : Int} {oe : Obj} {vs : Array Value} {Q : Option Value → Shared → Prop} (hh : A.handled = some (.ref ea)) (he : s.heap.get? ea = some oe) (hd : oe.data = .fields vs) (h2 : vs[2]? = some .none)
    (hit : IsRangeIter s.heap it x left step) (hleft : left ≤ 0) (hQ : ∀ h', Heap.ExtBut it s.heap h' → Q none { s with heap := h' }) : wpAny (model prog w) A (pyNext (.ref it)) Q E s := by
  have hT : s.TypeIs (.ref it) "range_iterator" := ⟨_, hit, rfl⟩
  unfold pyNext
  refine wpAny_bind (wpAny_attempt (wpAny_callSpecial?_slot (name := Str.ofString "__next__") hT F.slot_range_iterator_next (wpAny_call_entry F.slot_range_iterator_next hT F.entry_range_iterator_next ?_ (F.args_range_iterator_next_1 _))))
  show wpAny _ _ (field (.ref it) 0 >>= _) _ _ s
  refine wpAny_bind (wpAny_field hit rfl (x := rawInt x) rfl ?_)
  show wpAny _ _ (field (.ref it) 1 >>= _) _ _ s
  refine wpAny_bind (wpAny_field hit rfl (x := rawInt left) rfl ?_)
  show wpAny _ _ (field (.ref it) 2 >>= _) _ _ s
  refine wpAny_bind (wpAny_field hit rfl (x := rawInt step) rfl ?_)
  show wpAny _ _ (if left ≤ 0 then _ else _) _ _ s
  rw [if_pos hleft]
  refine wpAny_bind (wpAny_rule (wpAny_bind ?_))
  show wpAny _ _ (newExc (.type "StopIteration") [] >>= _) _ _ _
  refine wpAny_bind ?_
  simp only [newExc, newTuple]
  refine wpAny_bind (wpAny_newObj_type ?_ (by size_fits))
  refine wpAny_bind (m := firstArgMember _ _) (wpAny_of_eq (a := Value.none) (by first | rfl | (simp only [firstArgMember]; rfl)) ?_)
  refine wpAny_newObj_type ?_ (by size_fits)
  have hlt : ea < s.heap.objs.size := Heap.lt_size he
  simp only [raiseNew]
  refine wpAny_bind (wpAny_handled ?_)
  rw [show A.in1.handled = some (.ref ea) from hh]
  dsimp only
  have ne : (Value.ref ea != Value.ref (s.heap.push { cls := .type "tuple", data := .seq ([] : List Value).toArray }).objs.size) = true := by
    rw [Heap.size_push]
    have : ea ≠ s.heap.objs.size + 1 := Nat.ne_of_lt (Nat.lt_succ_of_lt hlt)
    simp [this]
  rw [if_pos ne]
  have he' : ((s.heap.push { cls := .type "tuple", data := .seq ([] : List Value).toArray }).push { cls := .type "StopIteration", data := .fields (#[.ref s.heap.objs.size, .none, .none, .none, .bool false, Value.none] ++ ownMembersOf (.type "StopIteration") []) }).get? ea = some oe := Heap.get?_push_of_some _ (Heap.get?_push_of_some _ he)
  refine wpAny_bind (wpAny_holding (wpAny_runValue (codeAny_builtin entry_unchain ?_)))
  unfold Builtin.«proto.unchain»
  dsimp only
  refine wpAny_bind (wpAny_field he' hd h2 ?_)
  rw [if_pos (by decide)]
  refine wpAny_pure ?_
  dsimp only
  refine wpAny_bind ?_
  simp only [updateField]
  refine wpAny_bind (wpAny_load (Heap.get?_push_size _ rfl) ?_)
  dsimp only
  rw [if_pos (by rw [Array.size_append]; show 2 < 6 + _; omega)]
  refine wpAny_update (Heap.get?_push_size _ rfl) ?_
  refine wpAny_throw ?_
  refine wpAny_bind (wpAny_isInstance (T := "StopIteration") (b := true) ⟨_, Heap.get?_update_self _ (Heap.get?_push_size _ rfl) rfl, rfl⟩ isSubtype_stop ?_)
  refine wpAny_pure (hQ _ fun b o hb q => ?_)
  have hb2 : b < s.heap.objs.size := Heap.lt_size q
  rw [Heap.get?_update_other _ _ (by rw [Heap.size_push]; exact Nat.ne_of_gt (Nat.lt_succ_of_lt hb2))]
  exact Heap.get?_push_of_some _ (Heap.get?_push_of_some _ q)
theorem turn_range {P : Program} {w : World} {K : PySem.W.Frag} {tg : Expr} (it : Addr) (lo : Int) (n : Nat) : Turn P w K tg (Itr lo n) [it] it (fun i h => IsRangeIter h it (lo + (i : Nat) * 1) ((n : Int) - (i : Nat)) 1) where
  mem := by simp
  obj := fun i h st b hb => by
    have e : b = it := by simpa using hb
    subst e
    exact ⟨_, st, fun v z => by
      have z' : Data.fields _ = Data.cell v := z
      cases z'⟩
  keep := fun i h h' st k => k it (by simp) _ st
  item := by
    intro X hP hw hK hc i pins s σ H E I hf st hg
    subst hP hw hK
    obtain ⟨f0, f1, f2, f3, f4, f5⟩ := hf it (by simp)
    refine wpAny_pyNext_range_item st (by have : i < n := hg; omega) fun h' st' sb => ?_
    have I1 : Inv X pins σ H { s with heap := h', toks := s.toks + 1 } := I.turned (fun b o hb e => (sb.2 b hb).trans e) f0 f1 f3 f4 f5
    have e1 : lo + (i : Nat) * 1 + 1 = lo + ((i + 1 : Nat) : Int) * 1 := by omega
    have e2 : (n : Int) - (i : Nat) - 1 = (n : Int) - ((i + 1 : Nat) : Int) := by omega
    rw [e1, e2] at st'
    refine ⟨_, rfl, go_of (s := { s with heap := h', toks := s.toks + 1 }) (n := "range_iterator") st' rfl rfl (by decide) ⟨.int (lo + i), H, I1, ⟨s.toks, ?_⟩, ⟨rfl, rfl⟩, st', fun b hb => (hf b hb).1⟩⟩
    rw [Int.mul_one]
  done := by
    intro X hP hw hK hc i pins s σ H E I hf st hg
    subst hP hw hK
    obtain ⟨f0, f1, f2, f3, f4, f5⟩ := hf it (by simp)
    rcases hc with hc | ⟨_, ea, oe, u, vs, k1, k2, k3, k4⟩
    rotate_left
    · obtain ⟨ho, _⟩ := (show ObjOk X.prog X.w H s.heap ea (.frz oe u) from I.hok ea _ (I.base.frzs ea oe u k2))
      exact range_end_hot k1 ho k3 k4 st (by have : n ≤ i := hg; omega) fun h' eb => ⟨rfl, I.turned (t' := s.toks) (fun b o hb e => eb b o hb e) f0 f1 f3 f4 f5⟩
    exact wpAny_pyNext_range_end (I.ok.hd hc) st (by have : n ≤ i := hg; omega) fun h' eb => ⟨rfl, I.turned (t' := s.toks) (fun b o hb e => eb b o hb e) f0 f1 f3 f4 f5⟩
  self := fun _ _ _ _ _ st h => wpAny_pyIter_rangeiter st h
end L2

namespace L2
open PySem PySem.Spec PyProof.Rows
section
variable {X : Cx} {tg : Expr}
def iList (K : PySem.W.Frag) (tl : TE) : TI := fun σ H R => tl σ H fun x H1 => ∃ a, x = .ref a ∧ (∃ xs, SqL K H1 a xs) ∧ R (Itl K a) H1
def iTup (K : PySem.W.Frag) (tl : TE) : TI := fun σ H R => tl σ H fun x H1 => ∃ a, x = .ref a ∧ (∃ xs, SqT K H1 a xs) ∧ R (Itt K a) H1
theorem pi_list {l : Expr} {tl : TE} (hl : PE X l tl) : PI X tg l (iList X.K tl) := by
  intro pins s σ H R I h
  refine thn (hl pins s σ H _ I h) fun v s1 ⟨x, H1, I1, r1, q1⟩ => ?_
  obtain ⟨a, e, ⟨xs, hq⟩, q⟩ := q1
  subst e
  cases r1
  obtain ⟨its, rv, p, hz⟩ := I1.list hq
  refine wpAny_pyIter_list p.isList ?_
  refine ⟨s1.heap.objs.size, [s1.heap.objs.size], _, _, H1, rfl, I1.kept (t' := s1.toks) fun b o e => Heap.get?_push_of_some _ e, turn_list a _, ⟨_, Heap.get?_push_size _ rfl, rfl, rfl⟩, fun b hb => ?_, q⟩
  have e : b = s1.heap.objs.size := by simpa using hb
  subst e
  exact I1.fpOk (Nat.le_refl _) (I1.hok.fresh (Nat.le_refl _))
theorem pi_tup {l : Expr} {tl : TE} (hl : PE X l tl) : PI X tg l (iTup X.K tl) := by
  intro pins s σ H R I h
  refine thn (hl pins s σ H _ I h) fun v s1 ⟨x, H1, I1, r1, q1⟩ => ?_
  obtain ⟨a, e, ⟨xs, hq⟩, q⟩ := q1
  subst e
  cases r1
  obtain ⟨its, rv, p, hz⟩ := I1.tuple hq
  refine wpAny_pyIter_tuple (show s1.heap.IsTuple a its.toArray from p) ?_
  refine ⟨s1.heap.objs.size, [s1.heap.objs.size], _, _, H1, rfl, I1.kept (t' := s1.toks) fun b o e => Heap.get?_push_of_some _ e, turn_tuple a _, ⟨_, Heap.get?_push_size _ rfl, rfl, rfl⟩, fun b hb => ?_, q⟩
  have e : b = s1.heap.objs.size := by simpa using hb
  subst e
  exact I1.fpOk (Nat.le_refl _) (I1.hok.fresh (Nat.le_refl _))
/-- a range object just made, walked -/
theorem range_it {pins : List (Addr × Obj)} {σ : St} {H : Hp} {s : Shared} {R : It → Hp → Prop} {E : Value → Shared → Prop} {lo hi : Int} {t u v : Tok} {tk : Nat} (I : Inv X pins σ H s) (h1 : -(2 ^ 62) ≤ lo) (h2 : lo < 2 ^ 62) (h3 : -(2 ^ 62) ≤ hi) (h4 : hi < 2 ^ 62)
    (q : R (Itr lo (hi - lo).toNat) H) : wpAny (model X.prog X.w) X.A (pyIter (.ref s.heap.objs.size)) (PIE X pins σ tg R) E { s with heap := s.heap.push { cls := .type "range", data := .fields #[.int lo t, .int hi u, .int 1 v] }, toks := tk } := by
  refine wpAny_pyIter_range (IsRange.new ..) (small_one h1 h2 h3 h4) ?_
  have I1 : Inv X pins σ H { s with heap := s.heap.push { cls := .type "range", data := .fields #[.int lo t, .int hi u, .int 1 v] }, toks := tk } := I.kept fun b o e => Heap.get?_push_of_some _ e
  refine ⟨(s.heap.push { cls := .type "range", data := .fields #[.int lo t, .int hi u, .int 1 v] }).objs.size, [(s.heap.push { cls := .type "range", data := .fields #[.int lo t, .int hi u, .int 1 v] }).objs.size], _, _, H, rfl,
    I1.kept (t' := tk) fun b o e => Heap.get?_push_of_some _ e, turn_range _ lo (hi - lo).toNat, ?_, fun b hb => ?_, q⟩
  · have e1 : lo + ((0 : Nat) : Int) * 1 = lo := by simp
    have e2 : (((hi - lo).toNat : Nat) : Int) - ((0 : Nat) : Int) = Builtin.Range.rangeSize lo hi 1 := by rw [rangeSize_one]; split <;> omega
    show IsRangeIter _ _ (lo + ((0 : Nat) : Int) * 1) ((((hi - lo).toNat : Nat) : Int) - ((0 : Nat) : Int)) 1
    rw [e1, e2]
    exact Heap.get?_push_size _ rfl
  · have e : b = (s.heap.push { cls := .type "range", data := .fields #[.int lo t, .int hi u, .int 1 v] }).objs.size := by simpa using hb
    subst e
    exact I1.fpOk (Nat.le_refl _) (I1.hok.fresh (Nat.le_refl _))
def iRng1 (ta : TA) : TI := fun σ H R => ta σ H fun vs H1 => ∃ j : Int, vs = [.int j] ∧ -(2 ^ 62) ≤ j ∧ j < 2 ^ 62 ∧ R (Itr 0 j.toNat) H1
def iRng2 (ta : TA) : TI := fun σ H R => ta σ H fun vs H1 => ∃ i j : Int, vs = [.int i, .int j] ∧ (-(2 ^ 62) ≤ i ∧ i < 2 ^ 62 ∧ -(2 ^ 62) ≤ j ∧ j < 2 ^ 62) ∧ R (Itr i (j - i).toNat) H1
theorem pi_range1 {a : Expr} {ta : TA} {p pos : Pos} (hg : Gl X "range") (hm : X.mg "range" = none) (ha : PA X [a] ta) (hs : starEach [a] X.env = [(false, eval a X.env)] := by rfl) : PI X tg (.Call (.Name "range" p) [a] [] pos) (iRng1 ta) := by
  intro pins s σ H R I h
  refine Call_ (ld_blt I hg hm boot_range (PyProof.Rows.callWith_type1 (thn (ha pos pins s σ H _ I h) fun us s1 ⟨vs, H1, I1, r1, q1⟩ => ?_) hs rfl))
  obtain ⟨j, e, q1, q2, q⟩ := q1
  subst e
  cases r1 with
  | cons r rr =>
    cases rr
    obtain ⟨t, rfl⟩ := r
    exact call_range_1 (range_it I1 (by omega) (by omega) q1 q2 (by simpa using q))
theorem pi_range2 {a b : Expr} {ta : TA} {p pos : Pos} (hg : Gl X "range") (hm : X.mg "range" = none) (ha : PA X [a, b] ta) (hs : starEach [a, b] X.env = [(false, eval a X.env), (false, eval b X.env)] := by rfl) (hs2 : starEach [b] X.env = [(false, eval b X.env)] := by rfl) :
    PI X tg (.Call (.Name "range" p) [a, b] [] pos) (iRng2 ta) := by
  intro pins s σ H R I h
  refine Call_ (ld_blt I hg hm boot_range (PyProof.Rows.callWith_type1 (thn (ha pos pins s σ H _ I h) fun us s1 ⟨vs, H1, I1, r1, q1⟩ => ?_) (by rw [hs, hs2]) (by rw [hs2]; rfl)))
  obtain ⟨i, j, e, ⟨q1, q2, q3, q4⟩, q⟩ := q1
  subst e
  cases r1 with
  | cons r rr =>
    cases rr with
    | cons r' rr =>
      cases rr
      obtain ⟨t, rfl⟩ := r
      obtain ⟨t', rfl⟩ := r'
      exact call_range_2 (range_it I1 q1 q2 q3 q4 q)

/-! ### for -/
/-- W: the invariant by the turn and a measure; N: what the body is to reach -/
def tFor (wi : TI) (g : TG) (tb : TS) : TS := fun D σ H => wi σ H fun J H1 => ∃ W : Nat → Nat → St → Hp → Prop, (∃ m, W 0 m σ H1) ∧ ∀ i m σ H, W i m σ H →
  (J.stop i H ∧ D.nx σ H) ∨ (J.go i H ∧ ∃ N : St → Hp → Prop, (∀ σ' H', N σ' H' → ∃ m', m' < m ∧ W (i + 1) m' σ' H') ∧ ∀ x H', J.yld i H x H' → g x σ H' fun σ2 H2 => tb { D with nx := N, ct := N, bk := D.nx } σ2 H2)
/-- the records at fp as they stand -/
def pinsAt (fp : List Addr) (h : Heap) : List (Addr × Obj) := fp.filterMap fun b => (h.get? b).map fun o => (b, o)
theorem mem_pinsAt {fp : List Addr} {h : Heap} {b : Addr} {o : Obj} (hb : b ∈ fp) (e : h.get? b = some o) : (b, o) ∈ pinsAt fp h := List.mem_filterMap.mpr ⟨b, hb, by rw [e]; rfl⟩
theorem of_pinsAt {fp : List Addr} {h : Heap} {p : Addr × Obj} (hp : p ∈ pinsAt fp h) : p.1 ∈ fp ∧ h.get? p.1 = some p.2 := by
  obtain ⟨b, hb, e⟩ := List.mem_filterMap.mp hp
  cases q : h.get? b with
  | none => rw [q] at e; cases e
  | some o =>
    rw [q] at e
    have e' : (b, o) = p := Option.some.inj e
    subst e'
    exact ⟨hb, q⟩
theorem Inv.pinned {pins : List (Addr × Obj)} {σ : St} {H : Hp} {s : Shared} {fp : List Addr} (I : Inv X pins σ H s) (hf : ∀ b ∈ fp, FpOk X pins H b) (ho : ∀ b ∈ fp, ∃ o, s.heap.get? b = some o ∧ ∀ v, o.data ≠ .cell v) : Inv X (pins ++ pinsAt fp s.heap) σ H s :=
  I.pins_of fun p hp => (List.mem_append.mp hp).elim (fun z => I.pin p (List.mem_append_right _ z)) fun z => by
    obtain ⟨hb, e⟩ := of_pinsAt z
    obtain ⟨f0, f1, f2, _⟩ := hf p.1 hb
    obtain ⟨o, e', d⟩ := ho p.1 hb
    rw [e] at e'; cases e'
    exact ⟨e, f0, f1, f2, d⟩
theorem Inv.unpinned {pins pl : List (Addr × Obj)} {σ : St} {H : Hp} {s : Shared} (I : Inv X (pins ++ pl) σ H s) : Inv X pins σ H s := I.pins_of fun p hp => I.pin p (List.mem_append_right _ (List.mem_append_left _ hp))
theorem ps_for {iter : Expr} {body : List Stmt} {wi : TI} {g : TG} {tb : TS} {pos : Pos} (hp : PassesOwn (model X.prog X.w) X.A X.env X.xe) (hc : X.calm = true) (hi : PI X tg iter wi) (hg : PG X tg g) (hb : PSs X body tb)
    (hs : ∀ x, foldedSetIterable iter X.env x = pure x := by intro _; rfl) : PS X (.For tg iter body [] pos) (tFor wi g tb) := by
  intro pins s σ H D I h
  refine wpAny_For (thn (hi pins s σ H _ I h) fun v s1 h1 => thn h1 fun itv s2 h2 => ?_) hs
  obtain ⟨it, fp, tn, J, H2, e, I2, T, st2, f2, W, ⟨m0, w0⟩, turn⟩ := h2
  subst e
  -- what stays true of the iterator's objects through the loop
  have stat : ∀ {H' : Hp}, (∀ b ∈ fp, H' b = none) → ∀ b ∈ fp, FpOk X pins H' b := fun hn b hb => ⟨hn b hb, (f2 b hb).2⟩
  refine codeAny_forLoop_any (fun n s' => ∃ i σ' H', Inv X pins σ' H' s' ∧ tn i s'.heap ∧ (∀ b ∈ fp, H' b = none) ∧ W i n σ' H') ?_ m0 ⟨0, σ, H2, I2, st2, fun b hb => (f2 b hb).1, w0⟩
  rintro n s3 ⟨i, σ3, H3, I3, st3, fr3, w3⟩
  rcases turn i n σ3 H3 w3 with ⟨stop, qn⟩ | ⟨go, N, hN, step⟩
  · refine wpAny_passesOwn hp (thn (T.done X rfl rfl rfl (.inl hc) i pins s3 σ3 H3 X.xe I3 (stat fr3) st3 stop) fun r s4 ⟨hr, I4⟩ => ?_)
    subst hr
    exact wpAny_execs_nil ⟨σ3, H3, I4, qn⟩
  · refine wpAny_passesOwn hp (thn (T.item X rfl rfl rfl (.inl hc) i pins s3 σ3 H3 X.xe I3 (stat fr3) st3 go) fun r s4 ⟨u, hr, h4⟩ => ?_)
    subst hr
    refine wpAny_passesOwn hp (thn h4 fun _ s5 ⟨x, H5, I5, r5, y5, st5, fr5⟩ => ?_)
    have I5' := I5.pinned (stat fr5) (T.obj _ _ st5)
    refine wpAny_passesOwn hp (thn (hg _ s5 σ3 H5 x u _ I5' r5 (step x H5 y5)) fun _ s6 ⟨σ6, H6, I6, q6⟩ => ?_)
    refine wpAny_passesOwn hp (thn (hb _ s6 σ6 H6 _ I6 q6) fun f s7 q7 => ?_)
    have again : ∀ {σ7 : St} {H7 : Hp}, Inv X (pins ++ pinsAt fp s5.heap) σ7 H7 s7 → N σ7 H7 → ∃ m, m < n ∧ ∃ i σ' H', Inv X pins σ' H' s7 ∧ tn i s7.heap ∧ (∀ b ∈ fp, H' b = none) ∧ W i m σ' H' := fun {σ7 H7} I7 n7 => by
      obtain ⟨m', hm, w7⟩ := hN σ7 H7 n7
      refine ⟨m', hm, i + 1, σ7, H7, I7.unpinned, T.keep _ _ _ st5 fun b hb o e => (I7.pin (b, o) (List.mem_append_right _ (List.mem_append_right _ (mem_pinsAt hb e)))).1, fun b hb => ?_, w7⟩
      obtain ⟨o, e, d⟩ := T.obj _ _ st5 b hb
      exact (I7.pin (b, o) (List.mem_append_right _ (List.mem_append_right _ (mem_pinsAt hb e)))).2.1
    cases f with
    | next => obtain ⟨σ7, H7, I7, n7⟩ := q7; exact again I7 n7
    | cont => obtain ⟨σ7, H7, I7, n7⟩ := q7; exact again I7 n7
    | brk => obtain ⟨σ7, H7, I7, q7⟩ := q7; exact ⟨σ7, H7, I7.unpinned, q7⟩
    | ret v => obtain ⟨x7, σ7, H7, I7, r7, q7⟩ := q7; exact ⟨x7, σ7, H7, I7.unpinned, r7, q7⟩
end

/-! ### the forms one uses -/
end L2

namespace L2
open PySem PySem.Spec PyProof.Rows

abbrev R2 := V → V → Hp → VK → Prop
/-- a two-place operation on values: f is binaryOp op, inplaceOp op or compareOp op -/
def OpR (X : Cx) (f : Value → Value → Sem Value) (r : R2) : Prop :=
  ∀ (pins : List (Addr × Obj)) (s : Shared) (σ : St) (H : Hp) (x y : V) (v u : Value) (Q : VK), Inv X pins σ H s → RelV x v → RelV y u → r x y H Q →
    wpAny (model X.prog X.w) X.A (f v u) (EP X pins σ Q) X.xe s
/-- a one-place operation -/
def UnR (X : Cx) (f : Value → Sem Value) (r : V → Hp → VK → Prop) : Prop :=
  ∀ (pins : List (Addr × Obj)) (s : Shared) (σ : St) (H : Hp) (x : V) (v : Value) (Q : VK), Inv X pins σ H s → RelV x v → r x H Q →
    wpAny (model X.prog X.w) X.A (f v) (EP X pins σ Q) X.xe s
/-- a call of a value that is known (a builtin, a type) with values -/
def CallR (X : Cx) (f : Value) (r : List V → Hp → VK → Prop) : Prop :=
  ∀ (pins : List (Addr × Obj)) (s : Shared) (σ : St) (H : Hp) (xs : List V) (us : List Value) (Q : VK), Inv X pins σ H s → Vals xs us → r xs H Q →
    wpAny (model X.prog X.w) X.A (call f us) (EP X pins σ Q) X.xe s
def tOp (r : R2) (ta tb : TE) : TE := fun σ H Q => ta σ H fun x H1 => tb σ H1 fun y H2 => r x y H2 Q
def tUn (r : V → Hp → VK → Prop) (ta : TE) : TE := fun σ H Q => ta σ H fun x H1 => r x H1 Q
/-- ints in, under C, and a value out -/
def rI (C : Int → Int → Prop) (g : Int → Int → V) : R2 := fun x y H Q => ∃ i j, x = .int i ∧ y = .int j ∧ C i j ∧ Q (g i j) H
def rI0 (g : Int → Int → V) : R2 := fun x y H Q => ∃ i j, x = .int i ∧ y = .int j ∧ Q (g i j) H
def rU (g : Int → V) : V → Hp → VK → Prop := fun x H Q => ∃ i, x = .int i ∧ Q (g i) H

section
variable {X : Cx} {a b c : Expr} {ta tb tc : TE} {pos : Pos}

theorem binT (ha : PE X a ta) (hb : PE X b tb) {pins : List (Addr × Obj)} {s : Shared} {σ : St} {H : Hp} {R : V → V → Hp → Prop} (I : Inv X pins σ H s)
    (h : ta σ H fun x H1 => tb σ H1 fun y H2 => R x y H2) {Q : Value → Shared → Prop} {f : Value → Value → Sem Value}
    (hf : ∀ v u s2 x y H2, Inv X pins σ H2 s2 → RelV x v → RelV y u → R x y H2 → wpAny (model X.prog X.w) X.A (f v u) Q X.xe s2) :
    wpAny (model X.prog X.w) X.A (eval a X.env) (fun v s₁ => wpAny (model X.prog X.w) X.A (eval b X.env) (fun u s₂ => wpAny (model X.prog X.w) X.A (f v u) Q X.xe s₂) X.xe s₁) X.xe s := by
  refine thn (ha pins s σ H _ I h) fun v s1 ⟨x, H1, I1, r1, q1⟩ => ?_
  refine thn (hb pins s1 σ H1 _ I1 q1) fun u s2 ⟨y, H2, I2, r2, q2⟩ => ?_
  exact hf v u s2 x y H2 I2 r1 r2 q2

theorem pe_op {op : Operator} {r : R2} (ho : OpR X (binaryOp op) r) (ha : PE X a ta) (hb : PE X b tb) : PE X (.BinOp a op b pos) (tOp r ta tb) := by
  intro pins s σ H Q I h
  exact wpAny_BinOp (binT ha hb I h fun v u s2 x y H2 I2 rx ry q => ho pins s2 σ H2 x y v u Q I2 rx ry q)
theorem pe_un {op : UnaryOp} {r : V → Hp → VK → Prop} (ho : UnR X (unaryOp op) r) (ha : PE X a ta) : PE X (.UnaryOp op a pos) (tUn r ta) := by
  intro pins s σ H Q I h
  exact UnaryOp_ (thn (ha pins s σ H _ I h) fun v s1 ⟨x, H1, I1, r1, q1⟩ => ho pins s1 σ H1 x v Q I1 r1 q1)
/-! ### ints -/
theorem opI {f : Value → Value → Sem Value} {C : Int → Int → Prop} {g : Int → Int → Int}
    (rule : ∀ (i j : Int) (t u : Tok) (s : Shared) (Q : Value → Shared → Prop) (E : Value → Shared → Prop), C i j → Q (.int (g i j) s.toks) { s with toks := s.toks + 1 } → wpAny (model X.prog X.w) X.A (f (.int i t) (.int j u)) Q E s) :
    OpR X f (rI C fun i j => .int (g i j)) := by
  intro pins s σ H x y v u Q I rx ry h
  obtain ⟨i, j, rfl, rfl, hc, q⟩ := h
  obtain ⟨t, rfl⟩ := rx
  obtain ⟨t', rfl⟩ := ry
  exact rule i j t t' s _ _ hc ⟨.int (g i j), H, I.tok _, ⟨_, rfl⟩, q⟩
theorem opI0 {f : Value → Value → Sem Value} {g : Int → Int → Int}
    (rule : ∀ (i j : Int) (t u : Tok) (s : Shared) (Q : Value → Shared → Prop) (E : Value → Shared → Prop), Q (.int (g i j) s.toks) { s with toks := s.toks + 1 } → wpAny (model X.prog X.w) X.A (f (.int i t) (.int j u)) Q E s) :
    OpR X f (rI0 fun i j => .int (g i j)) := by
  intro pins s σ H x y v u Q I rx ry h
  obtain ⟨i, j, rfl, rfl, q⟩ := h
  obtain ⟨t, rfl⟩ := rx
  obtain ⟨t', rfl⟩ := ry
  exact rule i j t t' s _ _ ⟨.int (g i j), H, I.tok _, ⟨_, rfl⟩, q⟩
theorem opB0 {f : Value → Value → Sem Value} {g : Int → Int → Bool}
    (rule : ∀ (i j : Int) (t u : Tok) (s : Shared) (Q : Value → Shared → Prop) (E : Value → Shared → Prop), Q (.bool (g i j)) s → wpAny (model X.prog X.w) X.A (f (.int i t) (.int j u)) Q E s) :
    OpR X f (rI0 fun i j => .bl (g i j)) := by
  intro pins s σ H x y v u Q I rx ry h
  obtain ⟨i, j, rfl, rfl, q⟩ := h
  obtain ⟨t, rfl⟩ := rx
  obtain ⟨t', rfl⟩ := ry
  exact rule i j t t' s _ _ ⟨.bl (g i j), H, I, rfl, q⟩

def CPow (i j : Int) : Prop := 0 ≤ j ∧ j ≤ 1000000 ∧ i.natAbs < 2 ^ 64
theorem op_add : OpR X (binaryOp .Add) (rI0 fun i j => .int (i + j)) := opI0 fun _ _ _ _ _ _ _ q => add_int q
theorem op_sub : OpR X (binaryOp .Sub) (rI0 fun i j => .int (i - j)) := opI0 fun _ _ _ _ _ _ _ q => sub_int q
/-- % by a positive divisor of any size -/
theorem op_mod : OpR X (binaryOp .Mod) (rI (fun _ j => 0 < j) fun i j => .int (i % j)) := opI fun i j _ _ _ _ _ hc q => by
  have h1 : (0 : Int) < j := hc
  exact mod_int' (by omega) (by rw [Int.fmod_eq_emod_of_nonneg i (by omega)]; exact q)
theorem op_pow : OpR X (binaryOp .Pow) (rI CPow fun i j => .int (i ^ j.toNat)) := opI fun _ _ _ _ _ _ _ hc q => pow_int_small hc.1 hc.2.1 hc.2.2 q
theorem unI {f : Value → Sem Value} {g : Int → Int}
    (rule : ∀ (i : Int) (t : Tok) (s : Shared) (Q : Value → Shared → Prop) (E : Value → Shared → Prop), Q (.int (g i) s.toks) { s with toks := s.toks + 1 } → wpAny (model X.prog X.w) X.A (f (.int i t)) Q E s) :
    UnR X f (rU fun i => .int (g i)) := by
  intro pins s σ H x v Q I rx h
  obtain ⟨i, rfl, q⟩ := h
  obtain ⟨t, rfl⟩ := rx
  exact rule i t s _ _ ⟨.int (g i), H, I.tok _, ⟨_, rfl⟩, q⟩
theorem un_neg : UnR X (unaryOp .USub) (rU fun i => .int (-i)) := unI fun _ _ _ _ _ q => neg_int q
/-! ### bools among ints: n += (a < b) -/
end

/-! ### comparisons -/
/-- the scalars that == tells apart as data does -/
def scal : V → V → Bool
  | .non, .non => true | .non, .int _ => true | .int _, .non => true | .non, .bl _ => true | .bl _, .non => true | .non, .str _ => true | .str _, .non => true
  | .int _, .int _ => true | .bl _, .bl _ => true | .str _, .str _ => true | .byt _, .byt _ => true
  | .int _, .str _ => true | .str _, .int _ => true | .bl _, .str _ => true | .str _, .bl _ => true
  | _, _ => false
def rEq : R2 := fun x y H Q => scal x y = true ∧ Q (.bl (decide (x = y))) H
def rNe : R2 := fun x y H Q => scal x y = true ∧ Q (.bl (!decide (x = y))) H

theorem dec_int {i j : Int} : decide (V.int i = V.int j) = (i == j) := by
  rw [Bool.eq_iff_iff]
  simp
theorem dec_bl {i j : Bool} : decide (V.bl i = V.bl j) = (i == j) := by
  rw [Bool.eq_iff_iff]
  simp
theorem dec_str {i j : Str} : decide (V.str i = V.str j) = (i == j) := by
  rw [Bool.eq_iff_iff]
  simp
theorem dec_byt {i j : Array UInt8} : decide (V.byt i = V.byt j) = (i.toList == j.toList) := by
  rw [Bool.eq_iff_iff]
  cases i
  cases j
  simp

section
variable {X : Cx} {a b c : Expr} {ta tb tc : TE} {pos : Pos}
theorem fin_bl {pins : List (Addr × Obj)} {σ : St} {H : Hp} {s : Shared} {Q : VK} {k k' : Bool} (I : Inv X pins σ H s) (q : Q (.bl k) H) (e : k = k') : EP X pins σ Q (.bool k') s := by
  subst e
  exact ⟨.bl k, H, I, rfl, q⟩
theorem op_eq : OpR X (compareOp .Eq) rEq := by
  intro pins s σ H x y v u Q I rx ry h
  obtain ⟨hs, q⟩ := h
  cases x with
  | non =>
    cases rx
    cases y with
    | non => cases ry; exact PySem.EqNone.eq_none_none (fin_bl I q (by simp))
    | bl j => cases ry; exact PySem.EqNone.eq_none_bool (fin_bl I q (by simp))
    | int j => obtain ⟨t', rfl⟩ := ry; exact PySem.EqNone.eq_none_int (fin_bl I q (by simp))
    | str j => obtain ⟨t', rfl⟩ := ry; exact PySem.EqNone.eq_none_str (fin_bl I q (by simp))
    | _ => exact absurd (show false = true from hs) Bool.false_ne_true
  | bl i =>
    cases rx
    cases y with
    | non => cases ry; exact PySem.EqNone.eq_bool_none (fin_bl I q (by simp))
    | bl j => cases ry; exact eq_bool (fin_bl I q dec_bl)
    | str j => obtain ⟨t', rfl⟩ := ry; exact PySem.EqMixed.eq_bool_str (fin_bl I q (by simp))
    | _ => exact absurd (show false = true from hs) Bool.false_ne_true
  | int i =>
    obtain ⟨t, rfl⟩ := rx
    cases y with
    | non => cases ry; exact PySem.EqNone.eq_int_none (fin_bl I q (by simp))
    | int j => obtain ⟨t', rfl⟩ := ry; exact eq_int (fin_bl I q dec_int)
    | str j => obtain ⟨t', rfl⟩ := ry; exact PySem.EqMixed.eq_int_str (fin_bl I q (by simp))
    | _ => exact absurd (show false = true from hs) Bool.false_ne_true
  | str i =>
    obtain ⟨t, rfl⟩ := rx
    cases y with
    | non => cases ry; exact PySem.EqNone.eq_str_none (fin_bl I q (by simp))
    | bl j => cases ry; exact PySem.EqMixed.eq_str_bool (fin_bl I q (by simp))
    | int j => obtain ⟨t', rfl⟩ := ry; exact PySem.EqMixed.eq_str_int (fin_bl I q (by simp))
    | str j => obtain ⟨t', rfl⟩ := ry; exact eq_str (fin_bl I q dec_str)
    | _ => exact absurd (show false = true from hs) Bool.false_ne_true
  | byt i =>
    obtain ⟨t, rfl⟩ := rx
    cases y with
    | byt j => obtain ⟨t', rfl⟩ := ry; exact PySem.W.eq_bytes (fin_bl I q dec_byt)
    | _ => exact absurd (show false = true from hs) Bool.false_ne_true
  | _ => cases y <;> exact absurd (show false = true from hs) Bool.false_ne_true
theorem op_ne : OpR X (compareOp .NotEq) rNe := by
  intro pins s σ H x y v u Q I rx ry h
  obtain ⟨hs, q⟩ := h
  cases x with
  | non =>
    cases rx
    cases y with
    | non => cases ry; exact PySem.EqNone.ne_none_none (fin_bl I q (by simp))
    | bl j => cases ry; exact PySem.EqNone.ne_none_bool (fin_bl I q (by simp))
    | int j => obtain ⟨t', rfl⟩ := ry; exact PySem.EqNone.ne_none_int (fin_bl I q (by simp))
    | str j => obtain ⟨t', rfl⟩ := ry; exact PySem.EqNone.ne_none_str (fin_bl I q (by simp))
    | _ => exact absurd (show false = true from hs) Bool.false_ne_true
  | bl i =>
    cases rx
    cases y with
    | non => cases ry; exact PySem.EqNone.ne_bool_none (fin_bl I q (by simp))
    | bl j => cases ry; exact ne_bool (fin_bl I q (congrArg not dec_bl))
    | str j => obtain ⟨t', rfl⟩ := ry; exact PySem.EqMixed.ne_bool_str (fin_bl I q (by simp))
    | _ => exact absurd (show false = true from hs) Bool.false_ne_true
  | int i =>
    obtain ⟨t, rfl⟩ := rx
    cases y with
    | non => cases ry; exact PySem.EqNone.ne_int_none (fin_bl I q (by simp))
    | int j => obtain ⟨t', rfl⟩ := ry; exact ne_int (fin_bl I q (congrArg not dec_int))
    | str j => obtain ⟨t', rfl⟩ := ry; exact PySem.EqMixed.ne_int_str (fin_bl I q (by simp))
    | _ => exact absurd (show false = true from hs) Bool.false_ne_true
  | str i =>
    obtain ⟨t, rfl⟩ := rx
    cases y with
    | non => cases ry; exact PySem.EqNone.ne_str_none (fin_bl I q (by simp))
    | bl j => cases ry; exact PySem.EqMixed.ne_str_bool (fin_bl I q (by simp))
    | int j => obtain ⟨t', rfl⟩ := ry; exact PySem.EqMixed.ne_str_int (fin_bl I q (by simp))
    | str j => obtain ⟨t', rfl⟩ := ry; exact ne_str (fin_bl I q (congrArg not dec_str))
    | _ => exact absurd (show false = true from hs) Bool.false_ne_true
  | byt i =>
    obtain ⟨t, rfl⟩ := rx
    cases y with
    | byt j => obtain ⟨t', rfl⟩ := ry; exact PySem.W.ne_bytes (fin_bl I q (congrArg not dec_byt))
    | _ => exact absurd (show false = true from hs) Bool.false_ne_true
  | _ => cases y <;> exact absurd (show false = true from hs) Bool.false_ne_true

theorem op_lt : OpR X (compareOp .Lt) (rI0 fun i j => .bl (decide (i < j))) := opB0 fun _ _ _ _ _ _ _ q => lt_int q
theorem op_gt : OpR X (compareOp .Gt) (rI0 fun i j => .bl (decide (j < i))) := opB0 fun _ _ _ _ _ _ _ q => gt_int q
theorem op_ge : OpR X (compareOp .GtE) (rI0 fun i j => .bl (decide (j ≤ i))) := opB0 fun _ _ _ _ _ _ _ q => ge_int q
theorem nomark (b : Expr) {op : CmpOp} (h : op ≠ .In := by decide) (h2 : op ≠ .NotIn := by decide) : behindInMarks op b = false := by
  have e1 : (op == CmpOp.In) = false := by cases op <;> first | rfl | exact absurd rfl h
  have e2 : (op == CmpOp.NotIn) = false := by cases op <;> first | rfl | exact absurd rfl h2
  cases b <;> simp [behindInMarks, e1, e2]
/-- a comparison as a value; hm: nomark b, or (for in, not in) by with_unfolding_all rfl -/
theorem pe_cmpR {op : CmpOp} {r : R2} (ho : OpR X (compareOp op) r) (ha : PE X a ta) (hb : PE X b tb) (hm : behindInMarks op b = false) : PE X (.Compare a [op] [b] pos) (tOp r ta tb) := by
  intro pins s σ H Q I h
  exact wpAny_Compare1 (binT ha hb I h fun v u s2 x y H2 I2 rx ry q => ho pins s2 σ H2 x y v u Q I2 rx ry q) hm
/-- a reading of a value as a test -/
def tTest (t : TE) : TT := fun σ H Q => t σ H fun x H' => ∃ k, x = .bl k ∧ Q k H'
theorem pt_cmpR {op : CmpOp} {r : R2} (ho : OpR X (compareOp op) r) (ha : PE X a ta) (hb : PE X b tb) (hm : behindInMarks op b = false) : PT X (.Compare a [op] [b] pos) (tTest (tOp r ta tb)) := by
  intro pins s σ H Q I h
  refine wpAny_isTrue_Compare1 (thn (ha pins s σ H _ I h) fun v s1 ⟨x, H1, I1, r1, q1⟩ => thn (hb pins s1 σ H1 _ I1 q1) fun u s2 ⟨y, H2, I2, r2, q2⟩ =>
    thn (ho pins s2 σ H2 x y v u _ I2 r1 r2 q2) fun c s3 ⟨z, H3, I3, r3, k, e, q3⟩ => ?_) hm
  subst e
  cases r3
  exact wpAny_truthy_bool ⟨H3, I3, q3⟩
/-! ### truth -/
theorem line63 : (sizeLine : Nat) < 2 ^ 63 := by rw [sizeLine_eq]; decide
/-! ### strs and bytes -/
/-! ### scalar builtins, by CallR -/
theorem vals1 {x : V} {us : List Value} (r : Vals [x] us) : ∃ u, us = [u] ∧ RelV x u := by
  cases r with
  | cons r1 r2 => cases r2; exact ⟨_, rfl, r1⟩
theorem vals2 {x y : V} {us : List Value} (r : Vals [x, y] us) : ∃ u w', us = [u, w'] ∧ RelV x u ∧ RelV y w' := by
  cases r with
  | cons r1 r2 =>
    cases r2 with
    | cons r3 r4 => cases r4; exact ⟨_, _, rfl, r1, r3⟩
theorem call_abs : CallR X (.builtin "abs") (fun xs H Q => ∃ i, xs = [.int i] ∧ Q (.int (if i < 0 then -i else i)) H) := by
  intro pins s σ H xs us Q I r h
  obtain ⟨i, rfl, q⟩ := h
  obtain ⟨u, rfl, t, rfl⟩ := vals1 r
  exact call_abs_int fun u tk => ⟨.int (if i < 0 then -i else i), H, I.tok _, ⟨_, rfl⟩, q⟩
theorem call_int1 : CallR X (.type "int") (fun xs H Q => (∃ i, xs = [.int i] ∧ Q (.int i) H) ∨ ∃ k, xs = [.bl k] ∧ Q (.int (if k then 1 else 0)) H) := by
  intro pins s σ H xs us Q I r h
  rcases h with ⟨i, rfl, q⟩ | ⟨k, rfl, q⟩
  · obtain ⟨u, rfl, t, rfl⟩ := vals1 r
    exact call_int_int ⟨.int i, H, I, ⟨_, rfl⟩, q⟩
  · obtain ⟨u, rfl, r1⟩ := vals1 r
    cases r1
    exact call_int_bool ⟨.int (if k then 1 else 0), H, I.tok _, ⟨_, rfl⟩, q⟩
end
end L2

namespace L2
open PySem PySem.Spec PyProof.Rows

/-! ### an instance, its attributes a map -/
structure ObjM (h : Heap) (x dx C : Addr) (mA : Str → Option Value) : Prop where
  obj : h.get? x = some (PySem.W.instObj C dx)
  ns : h.Ns1 dx mA
  ne : dx ≠ x

theorem lookIn_ns {h : Heap} {dx : Addr} {mA : Str → Option Value} (n : h.Ns1 dx mA) : ∃ od, h.get? dx = some od ∧ ∀ name, PySem.W.lookIn name od = some (mA name) := by
  obtain ⟨o, es, ep, ho, hd, hk, _, hm⟩ := n
  refine ⟨o, ho, fun name => ?_⟩
  have e := hm name
  unfold nsFind findBy at e
  rw [← Array.find?_toList] at e
  unfold PySem.W.lookIn
  rw [hd]
  dsimp only
  split
  · rename_i y q
    rw [q] at e
    exact congrArg some e
  · rename_i q
    rw [q] at e
    have a : es.toList.any (·.refKey) = false := by
      rw [List.any_eq_false]
      intro y hy
      obtain ⟨z, t, hkey⟩ := hk y (Array.mem_toList_iff.mp hy)
      simp [DictEntry.refKey, hkey]
    have a' : ¬ es.toList.any (·.refKey) = true := by rw [a]; exact Bool.false_ne_true
    rw [if_neg a']
    exact congrArg some e

theorem ObjM.look {h : Heap} {x dx C : Addr} {mA : Str → Option Value} (I : ObjM h x dx C mA) : ∃ od, PySem.W.InstAt h x (PySem.W.instObj C dx) C (some od) ∧ ∀ name, PySem.W.lookIn name od = some (mA name) :=
  let ⟨od, ho, hl⟩ := lookIn_ns I.ns
  ⟨od, ⟨I.obj, rfl, rfl, ho⟩, hl⟩

section
variable {prog : Program} {w : World} {A : Around} {E : Value → Shared → Prop} {s : Shared} {K : PySem.W.Frag} {x dx C f : Addr} {mA : Str → Option Value} {name : Str} {v : Value}

end

/-! ### the attributes as a list of pairs -/
section
variable {P : Program} {w : World} {H H' : Hp} {h h' : Heap} {a C dx : Addr} {fs fs' : List (Str × V)}
theorem ins_get (hok : HOk P w H h) (e : H a = some (.ins C dx fs)) : ∃ mA, ObjM h a dx C mA ∧ (∀ f, RelO (fs.lookup f) (mA f)) ∧ PySem.Within mA (fs.map (·.1)) ∧ fs.length ≤ 1000 ∧ H dx = some (.own a) := by
  obtain ⟨d, z, ne, ob, mA, n, r, q⟩ := (show ObjOk P w H h a (.ins C dx fs) from hok a _ e)
  exact ⟨mA, ⟨ob, n, ne⟩, r, q, z, d⟩
end

/-! ### what of the text a class must have -/
structure Cls (K : PySem.W.Frag) (C : Addr) : Prop where
  pg : PySem.W.plainGet K C Str.empty = true
  hd : PySem.W.hasDictIn K C = true
  po : PySem.W.plainOver K C = true
  sa : PySem.W.findIn K (.ref C) "__setattr__" = some (some (.builtin "object.__setattr__"))
theorem Cls.get {K : PySem.W.Frag} {C : Addr} (c : Cls K C) (f : Str) : PySem.W.plainGet K C f = true := c.pg
/-- a constant of the class -/
structure Con (K : PySem.W.Frag) (C : Addr) (f : Str) (v : V) (u : Value) : Prop where
  at_ : PySem.W.findIn K (.ref C) f = some (some u)
  rel : RelV v u
  get : PySem.W.specialIn K u "__get__" = some none
  cp : PySem.W.copiedNames.contains f = false
/-- a method: a plain def of the class or of one above it -/
structure Meth (K : PySem.W.Frag) (C : Addr) (m : Str) (f : Addr) : Prop where
  at_ : PySem.W.findIn K (.ref C) m = some (some (.ref f))
  fn : PySem.W.isFn K (.ref f) = true
  kp : PySem.W.keepIn K (.ref f) = true

section
variable {X : Cx} {pins : List (Addr × Obj)} {σ : St} {H : Hp} {s : Shared} {a C dx : Addr} {fs : List (Str × V)} {f : Str} {v : V} {A : Around} {E : Value → Shared → Prop}

end

/-! ### readings and rules -/
section
variable {X : Cx} {o e value : Expr} {f : Str} {pos pos' tpos : Pos} {ta tv : TE}
end

/-! ### isinstance -/
section
variable {X : Cx} {pins : List (Addr × Obj)} {σ : St} {H : Hp} {s : Shared} {A : Around} {E : Value → Shared → Prop} {Q : Value → Shared → Prop} {c : Value} {b : Bool}
/-- the type of a value, as the fragment's deciders take it; for an instance its class -/
inductive TyOf (K : PySem.W.Frag) (H : Hp) : V → Value → Prop where
  | non : TyOf K H .non (.type "NoneType")
  | bl (x : Bool) : TyOf K H (.bl x) (.type "bool")
  | int (i : Int) : TyOf K H (.int i) (.type "int")
  | str (x : Str) : TyOf K H (.str x) (.type "str")
  | flt (x : UInt64) : TyOf K H (.flt x) (.type "float")
  | lst {a : Addr} {xs : List V} (e : H a = some (.lst xs)) : TyOf K H (.ref a) (.type "list")
  | frz {a : Addr} {o : Obj} {xs : List V} (e : H a = some (.frz o (.lst xs))) : TyOf K H (.ref a) (.type "list")
  | tup {a : Addr} {xs : List V} (e : H a = some (.tup xs)) : TyOf K H (.ref a) (.type "tuple")
  | dK {a : Addr} {kvs : List (Key × V)} (e : H a = some (.dK kvs)) : TyOf K H (.ref a) (.type "dict")
  | dT {a : Addr} {kvs : List (List Key × V)} (e : H a = some (.dT kvs)) : TyOf K H (.ref a) (.type "dict")
  | ins {a C dx : Addr} {fs : List (Str × V)} (e : H a = some (.ins C dx fs)) (cl : Cls K C) (ha : PySem.W.findIn K (.ref C) "__class__" = some (some (.builtin "object.__class__")))
      (hn : PySem.W.specialIn K (.builtin "object.__class__") "__get__" = some (some (.builtin "getset_descriptor.__get__"))) (htk : PySem.W.takesIn K (.builtin "object.__class__") = some true)
      (hm : PySem.W.mroIn K C (.type "object") = some true) : TyOf K H (.ref a) (.ref C)
/-- isinstance(x, c) for one class c, a built-in or an own one: kitOne's answer -/
theorem isinst_ok {x : V} {u t : Value} (I : Inv X pins σ H s) (rx : RelV x u) (ty : TyOf X.K H x t) (e : PySem.W.kitOne X.K t c = some b) (h : ∀ tk, Q (.bool b) { s with toks := tk }) :
    wpAny (model X.prog X.w) A (call (.builtin "isinstance") [u, c]) Q E s := by
  cases ty with
  | non => cases (show u = Value.none from rx); exact PySem.W.kia_one PySem.W.kitx_none I.kIn True.intro e (fun z => nomatch z) h
  | bl y => cases (show u = Value.bool y from rx); exact PySem.W.kia_one PySem.W.kitx_bool I.kIn True.intro e (fun z => nomatch z) h
  | int i => obtain ⟨t, q⟩ := (show ∃ t, u = Value.int i t from rx); cases q; exact PySem.W.kia_one PySem.W.kitx_int I.kIn True.intro e (fun z => nomatch z) h
  | str y => obtain ⟨t, q⟩ := (show ∃ t, u = Value.str y t from rx); cases q; exact PySem.W.kia_one PySem.W.kitx_str I.kIn True.intro e (fun z => nomatch z) h
  | flt y => obtain ⟨t, q⟩ := (show ∃ t, u = Value.float y t from rx); cases q; exact PySem.W.kia_one PySem.W.kitx_float I.kIn True.intro e (fun z => nomatch z) h
  | @lst a xs ea =>
    cases (show u = Value.ref a from rx)
    obtain ⟨_, _, n, _, h1⟩ := (show ObjOk X.prog X.w H s.heap a (.lst xs) from I.hok a _ ea)
    exact PySem.W.kia_one PySem.W.kitx_list I.kIn ⟨_, h1, rfl⟩ e (fun z => nomatch z) h
  | @frz a ob xs ea =>
    cases (show u = Value.ref a from rx)
    obtain ⟨_, _, _, n, _, h1⟩ := (show ObjOk X.prog X.w H s.heap a (.frz ob (.lst xs)) from I.hok a _ ea)
    exact PySem.W.kia_one PySem.W.kitx_list I.kIn ⟨_, h1, rfl⟩ e (fun z => nomatch z) h
  | @tup a xs ea =>
    cases (show u = Value.ref a from rx)
    obtain ⟨_, _, _, p⟩ := (show ObjOk X.prog X.w H s.heap a (.tup xs) from I.hok a _ ea)
    obtain ⟨o, h1, h2, _⟩ := p
    exact PySem.W.kia_one PySem.W.kitx_tuple I.kIn ⟨o, h1, h2⟩ e (fun z => nomatch z) h
  | @dK a kvs ea =>
    cases (show u = Value.ref a from rx)
    obtain ⟨_, _, vs, _, p⟩ := (show ObjOk X.prog X.w H s.heap a (.dK kvs) from I.hok a _ ea)
    obtain ⟨o, es, ep, h1, h2, _⟩ := p
    exact PySem.W.kia_one PySem.W.kitx_dict I.kIn ⟨o, h1, h2.1⟩ e (fun z => nomatch z) h
  | @dT a kvs ea =>
    cases (show u = Value.ref a from rx)
    obtain ⟨_, _, xs, _, o, es, ep, h1, h2, _⟩ := (show ObjOk X.prog X.w H s.heap a (.dT kvs) from I.hok a _ ea)
    exact PySem.W.kia_one PySem.W.kitx_dict I.kIn ⟨o, h1, h2.1⟩ e (fun z => nomatch z) h
  | @ins a C dx fs ea cl ha hn htk hm =>
    cases (show u = Value.ref a from rx)
    obtain ⟨mA, O, _⟩ := ins_get I.hok ea
    obtain ⟨od, J, _⟩ := O.look
    exact PySem.W.kia_one (PySem.W.kitx_own (cl.get _) cl.hd ha hn htk hm) I.kIn J e (fun z => nomatch z) h
end
end L2

namespace L2
open PySem PySem.Spec PyProof.Rows

/-! ### room -/
structure Room (k : Nat) (A : Around) : Prop where
  hd : A.handled = none
  dp : A.depth + 3 * k + 105 < recursionLimit
  un : A.units + 16 * k + 200 < cLine
theorem Room.mono {j k : Nat} {A : Around} (r : Room k A) (h : j ≤ k) : Room j A := ⟨r.hd, by have := r.dp; omega, by have := r.un; omega⟩
theorem Room.deeper {k : Nat} {A : Around} (r : Room (k + 1) A) (env : Env) : Room k (A.deeper env) :=
  ⟨r.hd, by have := r.dp; show A.depth + 1 + 3 * k + 105 < _; omega, by have := r.un; show A.units + 3 + 16 * k + 200 < _; omega⟩
theorem Room.dp100 {k : Nat} {A : Around} (r : Room k A) : A.depth + 100 < recursionLimit := by have := r.dp; omega
theorem Room.depth {k : Nat} {A : Around} (r : Room k A) : A.depth < recursionLimit := by have := r.dp; omega
theorem Room.units {k : Nat} {A : Around} (r : Room k A) : A.units + 64 < cLine := by have := r.un; omega
/-! ### argument lists and displays -/
def tNil : TA := fun _ H Q => Q [] H
def tCons (ta : TE) (tr : TA) : TA := fun σ H Q => ta σ H fun x H1 => tr σ H1 fun xs H2 => Q (x :: xs) H2
section
variable {X : Cx} {e : Expr} {es : List Expr} {te : TE} {t : TA} {pos : Pos}
theorem pa_nil : PA X [] tNil := fun _ _ _ _ H Q I h => Calls.spliced_nil ⟨[], H, I, .nil, h⟩
theorem pa_cons (ha : PE X e te) (hr : PA X es t) (hs : starEach (e :: es) X.env = (false, eval e X.env) :: starEach es X.env := by rfl) : PA X (e :: es) (tCons te t) := by
  intro pos pins s σ H Q I h
  rw [hs]
  show wpAny _ _ (spliced ((false, eval e X.env) :: backTo pos (starEach es X.env))) _ _ s
  refine Calls.spliced_cons (thn (ha pins s σ H _ I h) fun u s1 ⟨x, H1, I1, r1, q1⟩ => ?_)
  exact thn (hr pos pins s1 σ H1 _ I1 q1) fun us s2 ⟨xs, H2, I2, r2, q2⟩ => ⟨x :: xs, H2, I2, .cons r1 r2, q2⟩

/-- a tuple, a list of written items -/
def tTup (t : TA) : TE := fun σ H Q => t σ H fun xs H1 => xs.length ≤ sizeLine ∧ ∀ p, H1 p = none → Q (.ref p) (upd H1 p (.tup xs))
def tLst (t : TA) : TE := fun σ H Q => t σ H fun xs H1 => xs.length ≤ sizeLine ∧ ∀ p, H1 p = none → Q (.ref p) (upd H1 p (.lst xs))
theorem pe_tup {x1} (h : PA X es t) : PE X (.Tuple es x1 pos) (tTup t) := by
  intro pins s σ H Q I hq
  refine wpAny_Tuple_spliced (thn (h pos pins s σ H _ I hq) fun us s1 ⟨xs, H1, I1, r, z, q⟩ => ⟨by rw [← r.length]; exact z, ?_⟩)
  have hf : H1 s1.heap.objs.size = none := I1.hok.fresh (Nat.le_refl _)
  refine ⟨.ref s1.heap.objs.size, upd H1 s1.heap.objs.size (.tup xs), I1.laid (t' := s1.toks) (fun b u e => Heap.get?_push_of_some _ e) (Nat.le_refl _) ?_, rfl, q _ hf⟩
  exact ⟨z, us, r, ⟨_, Heap.get?_push_size _ rfl, rfl, _, rfl⟩⟩
theorem pe_lst (h : PA X es t) : PE X (.List es pos) (tLst t) := by
  intro pins s σ H Q I hq
  refine wpAny_List_spliced (thn (h pos pins s σ H _ I hq) fun us s1 ⟨xs, H1, I1, r, z, q⟩ => ⟨by rw [← r.length]; exact z, ?_⟩)
  have hf : H1 s1.heap.objs.size = none := I1.hok.fresh (Nat.le_refl _)
  refine ⟨.ref s1.heap.objs.size, upd H1 s1.heap.objs.size (.lst xs), I1.laid (t' := s1.toks) (fun b u e => Heap.get?_push_of_some _ e) (Nat.le_refl _) ?_, rfl, q _ hf⟩
  exact ⟨z, us, 0, r, Heap.get?_push_size _ rfl⟩
end

/-! ### what a def promises -/
/-- a def's promise: the bound arguments in the parameters' order, the heap, the wanted end, the wanted exception -/
abbrev Sp := List V → Hp → VK → XK → Prop
/-- how an exception lies behind a call (file 08 gives it): the callers' frames, abstract heap and state ahead of the call, the wish, the exception, the state -/
abbrev CXT := List Env → Hp → Shared → XK → Value → Shared → Prop

/-- the state at a call -/
structure Env0 (P : Program) (w : World) (K : PySem.W.Frag) (mg : Str → Option Value) (base : Heap) (A : Around) (outer : List Env) (s : Shared) (H : Hp) : Prop where
  frames : A.frames = some outer
  mod : Mod K mg base
  bs : ∀ b o, base.get? b = some o → s.heap.get? b = some o ∧ H b = none
  bsz : base.objs.size ≤ s.heap.objs.size
  funs : s.heap.FunFrames base outer
  frf : ∀ b ∈ frs outer, H b = none
  hok : HOk P w H s.heap
  bare : AllBare s.gens
/-- a call's end -/
def CE (outer : List Env) (P : Program) (w : World) (H : Hp) (s : Shared) (Q : VK) (u : Value) (s' : Shared) : Prop :=
  ∃ v H', s'.os = s.os ∧ AllBare s'.gens ∧ Un (frs outer) [] H H' s.heap s'.heap ∧ HOk P w H' s'.heap ∧ RelV v u ∧ Q v H'
def CR (CX : CXT) (outer : List Env) (P : Program) (w : World) (H : Hp) (s : Shared) (Q : VK) (E : XK) (r : Result) (s' : Shared) : Prop :=
  match r with
  | .ok (.ret u) => CE outer P w H s Q u s'
  | .ok _ => False
  | .error e => CX outer H s E e s'
structure FnOk (P : Program) (w : World) (K : PySem.W.Frag) (mg : Str → Option Value) (base : Heap) (CX : CXT) (k : Nat) (f : Addr) (fd : FuncData) (ps : List Str) (sp : Sp) : Prop where
  len : ∀ vs H Q E, sp vs H Q E → vs.length = ps.length
  run : ∀ (A : Around) (outer : List Env) (s : Shared) (H : Hp) (args : Args) (us : List Value) (vs : List V) (Q : VK) (E : XK), Room k A → Env0 P w K mg base A outer s H → BindsTo s fd args (ps.zip us) → Vals vs us → sp vs H Q E →
    codeAny (model P w) A (.call (.ref f) args) (CR CX outer P w H s Q E) s
section
variable {X : Cx} {pins : List (Addr × Obj)} {σ : St} {H : Hp} {s s' : Shared}
/-- from a body: what a callee wants -/
theorem Inv.env0 (I : Inv X pins σ H s) : Env0 X.prog X.w X.K X.mg X.base X.A X.stack s H :=
  ⟨I.ok.frames, I.ok.mod, I.bs, Nat.le_trans I.ok.bsz I.sz, I.stack, I.stkFree, I.hok, I.bare⟩
/-- behind a call -/
theorem Inv.after {Q : VK} {u : Value} (I : Inv X pins σ H s) (h : CE X.stack X.prog X.w H s Q u s') : EP X pins σ Q u s' := by
  obtain ⟨v, H', os, bare, un, hok, r, q⟩ := h
  obtain ⟨hh, g, d, t, os'⟩ := s'
  obtain rfl : os' = s.os := os
  exact ⟨v, H', I.call (h' := hh) (g' := g) (d' := d) (t' := t) (ch := []) un hok bare (fun b z => absurd z (by simp)), r, q⟩
end

/-! ### calls -/
/-- f(..): the written arguments, then the defaults dvs; E: what is wanted of an exception -/
def tCall (sp : Sp) (dvs : List V) (E : XK) (t : TA) : TE := fun σ H Q => t σ H fun vs H1 => sp (vs ++ dvs) H1 Q E
/-- how the parameters are bound: us the positional arguments, kw the keywords' values by name, ds the defaults that fill up -/
def Binds (K : PySem.W.Frag) (fd : FuncData) (ps : List Str) (ds : List Value) : Prop :=
  ∀ (s : Shared) (us : List Value), K.In s.heap → (us ++ ds).length = ps.length → BindsTo s fd ⟨us, []⟩ (ps.zip (us ++ ds))
/-- every parameter is given -/
theorem Binds.all {K : PySem.W.Frag} {fd : FuncData} {ps : List Str} (h : ∀ us : List Value, us.length = ps.length → bindArgs fd ⟨us, []⟩ = pure (ps.zip us)) : Binds K fd ps [] := fun s us _ hl => by
  rw [List.append_nil] at hl ⊢
  exact .of_eq (h us hl)

/-- an exception of a callee reaches what this body wants of exceptions -/
def Passes (CX : CXT) (X : Cx) (E : XK) : Prop := ∀ (pins : List (Addr × Obj)) (σ : St) (H : Hp) (s : Shared) (e : Value) (s' : Shared), Inv X pins σ H s → CX X.stack H s E e s' → X.xe e s'

section
variable {X : Cx} {CX : CXT} {k : Nat} {f C : Addr} {fd : FuncData} {ps : List Str} {sp : Sp} {dvs : List V} {ds : List Value} {E : XK} {x m : Str} {p pos apos : Pos} {e o : Expr} {es : List Expr} {ta : TE} {t : TA}

/-- the callee runs -/
theorem run_fn {pins : List (Addr × Obj)} {σ : St} {H : Hp} {s : Shared} {Q : VK} {us : List Value} {vs : List V} (F : FnOk X.prog X.w X.K X.mg X.base CX k f fd ps sp) (hr : Room k X.A) (hb : Binds X.K fd ps ds) (hd : Vals dvs ds) (hx : Passes CX X E)
    (I : Inv X pins σ H s) (r : Vals vs us) (h : sp (vs ++ dvs) H Q E) : wpAny (model X.prog X.w) X.A (call (.ref f) us) (EP X pins σ Q) X.xe s := by
  have r2 : Vals (vs ++ dvs) (us ++ ds) := r.append hd
  have hl : (us ++ ds).length = ps.length := by rw [← r2.length]; exact F.len _ _ _ _ h
  refine wpAny_call (codeAny_mono (F.run X.A X.stack s H ⟨us, []⟩ (us ++ ds) (vs ++ dvs) Q E hr I.env0 (hb s us I.kIn hl) r2 h) fun r s' hq => ?_)
  cases r with
  | error e => exact hx pins σ H s e s' I hq
  | ok fl =>
    cases fl with
    | ret u => exact I.after hq
    | next => exact False.elim hq
    | brk => exact False.elim hq
    | cont => exact False.elim hq

theorem pe_call (F : FnOk X.prog X.w X.K X.mg X.base CX k f fd ps sp) (hr : Room k X.A) (hg : Gl X x) (hm : X.mg x = some (.ref f)) (hk : PySem.W.keepIn X.K (.ref f) = true) (hb : Binds X.K fd ps ds) (hd : Vals dvs ds) (hx : Passes CX X E)
    (ha : PA X (e :: es) t) (hdb : (x == ("__debug__" : Str)) = false := by decide) (he : starEach (e :: es) X.env = (false, eval e X.env) :: starEach es X.env := by rfl) (hpl : (backTo pos (starEach es X.env)).any (·.1) = false := by rfl) :
    PE X (.Call (.Name x p) (e :: es) [] pos) (tCall sp dvs E t) := by
  intro pins s σ H Q I h
  refine wpAny_Call_Name_kw (ld_glob I hg hm ?_ hdb)
  refine PySem.W.callWith_K (h₀ := X.base) I.ok.mod.kin hk (thn (ha pos pins s σ H _ I h) fun us s1 ⟨vs, H1, I1, r, q⟩ => ⟨I1.kIn, ?_⟩) he hpl
  exact run_fn F hr hb hd hx I1 r q
/-- what a class must have to be made -/
structure Mk (K : PySem.W.Frag) (C f : Addr) : Prop where
  makes : PySem.W.makesIn K C = true
  init : PySem.W.findIn K (.ref C) "__init__" = some (some (.ref f))
  fn : PySem.W.isFn K (.ref f) = true
  kp : PySem.W.keepIn K (.ref C) = true

end

/-! ### keywords -/
section
variable {X : Cx} {CX : CXT} {k : Nat} {f C : Addr} {fd : FuncData} {ps ks : List Str} {sp : Sp} {E : XK} {x m : Str} {p pos apos kpos : Pos} {e o : Expr} {es : List Expr} {kws : List Keyword} {te ta : TE} {t tk : TA} {nm : Option Str}
/-- how a call with keywords binds: g puts the positional values us and the keywords' values ws (names ks) in the parameters' order, defaults among them -/
structure KBinds (K : PySem.W.Frag) (fd : FuncData) (ps ks : List Str) (g : List Value → List Value → List Value) (gV : List V → List V → List V) : Prop where
  to : ∀ (s : Shared) (us ws : List Value), K.In s.heap → (g us ws).length = ps.length → BindsTo s fd ⟨us, ks.zip ws⟩ (ps.zip (g us ws))
  rel : ∀ {vs : List V} {us : List Value} {zs : List V} {ws : List Value}, Vals vs us → Vals zs ws → Vals (gV vs zs) (g us ws)
variable {g : List Value → List Value → List Value} {gV : List V → List V → List V}
end

/-! ### a def's body keeps its promise -/
/-- names: the parameters first -/
structure FnScope (N P : List Str) (sc : Scope) : Prop where
  kind : sc.kind = .function
  co : sc.isCoroutine = false
  gen : sc.isGenerator = false
  nd : N.Nodup
  pre : N.take P.length = P
  par : ∀ x ∈ P, sc.names.lookup x = some .local ∨ sc.names.lookup x = some .cell
  nofree : ∀ y ∈ sc.names, y.2 ≠ .free

theorem bindL_out {kindOf : Str → Option NameKind} {x : Str} : ∀ {binds : List (Str × Value)} {m : Str → Option Value}, (∀ v, (x, v) ∉ binds) → bindL kindOf binds m x = m x
  | [], _, _ => rfl
  | (n, v) :: r, m, h => by
    unfold bindL
    rw [bindL_out fun w hw => h w (List.mem_cons_of_mem _ hw)]
    split
    · have : x ≠ n := by rintro rfl; exact h v List.mem_cons_self
      simp [this]
    · rfl
theorem bindC_out {kindOf : Str → Option NameKind} {x : Str} : ∀ {binds : List (Str × Value)} {m : Str → Option Value}, (∀ v, (x, v) ∉ binds) → bindC kindOf binds m x = m x
  | [], _, _ => rfl
  | (n, v) :: r, m, h => by
    unfold bindC
    rw [bindC_out fun w hw => h w (List.mem_cons_of_mem _ hw)]
    split
    · rfl
    · have : x ≠ n := by rintro rfl; exact h v List.mem_cons_self
      simp [this]
theorem bindL_get {kindOf : Str → Option NameKind} {x : Str} {v : Value} : ∀ {P : List Str} {vs : List Value} {i : Nat} {m : Str → Option Value}, P.Nodup → P[i]? = some x → vs[i]? = some v → kindOf x = some .local →
    bindL kindOf (P.zip vs) m x = some v
  | [], _, _, _, _, h, _, _ => by simp at h
  | _ :: _, [], _, _, _, _, h, _ => by simp at h
  | p :: P, w :: vs, 0, m, nd, h1, h2, hk => by
    simp at h1 h2; subst h1; subst h2
    show bindL kindOf ((p, w) :: P.zip vs) m p = _
    unfold bindL
    rw [bindL_out fun v hv => (List.nodup_cons.mp nd).1 (List.of_mem_zip hv).1, if_pos hk]
    simp
  | p :: P, w :: vs, i + 1, m, nd, h1, h2, hk => by
    show bindL kindOf ((p, w) :: P.zip vs) m x = _
    unfold bindL
    exact bindL_get (i := i) (List.nodup_cons.mp nd).2 (by simpa using h1) (by simpa using h2) hk
theorem bindC_get {kindOf : Str → Option NameKind} {x : Str} {v : Value} : ∀ {P : List Str} {vs : List Value} {i : Nat} {m : Str → Option Value}, P.Nodup → P[i]? = some x → vs[i]? = some v → kindOf x ≠ some .local →
    bindC kindOf (P.zip vs) m x = some v
  | [], _, _, _, _, h, _, _ => by simp at h
  | _ :: _, [], _, _, _, _, h, _ => by simp at h
  | p :: P, w :: vs, 0, m, nd, h1, h2, hk => by
    simp at h1 h2; subst h1; subst h2
    show bindC kindOf ((p, w) :: P.zip vs) m p = _
    unfold bindC
    rw [bindC_out fun v hv => (List.nodup_cons.mp nd).1 (List.of_mem_zip hv).1, if_neg hk]
    simp
  | p :: P, w :: vs, i + 1, m, nd, h1, h2, hk => by
    show bindC kindOf ((p, w) :: P.zip vs) m x = _
    unfold bindC
    exact bindC_get (i := i) (List.nodup_cons.mp nd).2 (by simpa using h1) (by simpa using h2) hk

/-- the names' values at the entry -/
def start (N : List Str) (vs : List V) : St := vs.map some ++ List.replicate (N.length - vs.length) none

/-- the context of a def's body, at its entry; an exception leaves the frame, then lies as CX says -/
def cxOf (CX : CXT) (P : Program) (w : World) (K : PySem.W.Frag) (mg : Str → Option Value) (base : Heap) (N : List Str) (qual : Str) (scope : Scope) (f : Addr) (cd : Value) (A : Around) (outer : List Env) (s : Shared) (H : Hp) (E : XK) : Cx where
  prog := P
  w := w
  K := K
  mg := mg
  base := base
  A := A.deeper (envOfC qual scope s.heap.objs.size f cd)
  N := N
  s₀ := s
  H₀ := H
  env := envOfC qual scope s.heap.objs.size f cd
  outer := outer
  stack := envOfC qual scope s.heap.objs.size f cd :: outer
  ex := []
  calm := true
  fn := fun _ => true
  pn := []
  xe := fun e s' => wpAny (model P w) (A.deeper (envOfC qual scope s.heap.objs.size f cd)) (leaving (envOfC qual scope s.heap.objs.size f cd) e) (fun _ s'' => CX outer H s E e s'') (fun e' s'' => CX outer H s E e' s'') s'

theorem cell_has {sc : Scope} {n : Nat} {x : Str} (h : sc.names.lookup x = some .cell) : ∃ c, (cellsFrom n sc.names []).lookup x = some c := by
  have q := PySem.W.cellsFrom_some sc.names n [] (.inl h)
  exact Option.isSome_iff_exists.mp q

theorem inv_start {CX : CXT} {P : Program} {w : World} {K : PySem.W.Frag} {mg : Str → Option Value} {base : Heap} {N ps : List Str} {qual : Str} {scope : Scope} {f : Addr} {cd : Value} {A : Around} {outer : List Env} {s s1 : Shared} {H : Hp} {E : XK} {us : List Value} {vs : List V}
    (S : FnScope N ps scope) (hd : A.handled = none) (e0 : Env0 P w K mg base A outer s H) (hl : vs.length = ps.length) (r : Vals vs us)
    (x : InCallC s s.heap.objs.size (bindL (envOfC qual scope s.heap.objs.size f cd).kindOf (ps.zip us) fun _ => none) (cellsFrom (s.heap.objs.size + 1) scope.names []) (bindC (envOfC qual scope s.heap.objs.size f cd).kindOf (ps.zip us) fun _ => none) s1) :
    Inv (cxOf CX P w K mg base N qual scope f cd A outer s H E) [] (start N vs) H s1 := by
  have hpl : ps.length ≤ N.length := by have := congrArg List.length S.pre; rw [List.length_take] at this; omega
  obtain ⟨h1, tk, rfl, hk⟩ := x.done
  have noA : ∀ b : Addr, b ∉ (cxOf CX P w K mg base N qual scope f cd A outer s H E).ex := fun b z => absurd (show b ∈ ([] : List Addr) from z) (by simp)
  refine ⟨⟨e0.mod, S.kind, rfl, rfl, Nat.le_refl _, fun y z c h1 h2 => ?_, fun y hy => ?_, fun y c _ h => ?_, fun _ => hd, Around.frames_deeper e0.frames, .inr ⟨rfl, rfl⟩, fun b z => absurd z (noA b), e0.bs, e0.bsz, fun b _ _ => noA b, fun b z => absurd z (noA b), e0.funs, e0.frf⟩,
    rfl, e0.bare, Un.kept hk, ⟨_, x.toInCall.ns, fun i y v h1 h2 h3 => ?_⟩, fun y c h => ⟨_, x.cell y c h⟩, e0.hok.fresh (Nat.le_refl _), fun y c h => ?_, fun p hp => absurd (show p ∈ ([] : List (Addr × Obj)) from hp) (by simp), e0.hok.kept hk, ?_⟩
  · exact name_of_addr x.apart (PySem.mem_of_lookup h1) (PySem.mem_of_lookup h2)
  · have hy : scope.names.lookup y = some .cell ∨ scope.names.lookup y = some .free := hy
    rcases hy with hy | hy
    · exact cell_has hy
    · exact absurd rfl (S.nofree _ (PySem.mem_of_lookup hy))
  · exact Nat.le_of_lt (x.above y c (PySem.mem_of_lookup h))
  · have hi : i < vs.length := by
      unfold start at h2
      by_cases hi : i < vs.length
      · exact hi
      · rw [List.getElem?_append_right (by simpa using hi)] at h2
        rw [List.getElem?_replicate] at h2
        split at h2 <;> cases h2
    have ha : vs[i]? = some v := by
      unfold start at h2
      rw [List.getElem?_append_left (by simpa using hi), List.getElem?_map] at h2
      cases e : vs[i]? with
      | none => rw [e] at h2; cases h2
      | some a => rw [e] at h2; cases h2; rfl
    obtain ⟨u, hu, rv⟩ := r.get ha
    have hp : ps[i]? = some y := by
      rw [← S.pre, List.getElem?_take_of_lt (by omega)]; exact h1
    have ndP : ps.Nodup := by rw [← S.pre]; exact S.nd.sublist (List.take_sublist _ _)
    refine ⟨u, rv, ?_⟩
    rcases S.par y (List.mem_of_getElem? hp) with k | k
    · exact .inl ⟨k, bindL_get ndP hp hu k⟩
    · obtain ⟨c, e⟩ := cell_has (n := s.heap.objs.size + 1) k
      refine .inr ⟨.inl k, c, e, ?_⟩
      have q := x.cell y c e
      rw [bindC_get ndP hp hu (by show scope.names.lookup y ≠ _; rw [k]; decide)] at q
      exact q
  · exact e0.hok.fresh (Nat.le_of_lt (x.above y c (PySem.mem_of_lookup h)))
  · unfold start
    show _ = N.length
    rw [List.length_append, List.length_map, List.length_replicate]
    omega

/-- THE RULE: a def (or a method) of the text, by its body. The body's reading t is chosen for each entry; it is run at the parameters' values -/
theorem fn_of {CX : CXT} {P : Program} {w : World} {K : PySem.W.Frag} {mg : Str → Option Value} {base : Heap} {k : Nat} {f : Addr} {name qual : Str} {params : Arguments} {body : List Stmt} {scope : Scope} {dV kV doc pm cdv ct oc : Value} {an od : Option Addr}
    {osl : Array (Option Value)} {N ps : List Str} {sp : Sp} (lk : K.lookup f = some ⟨oc, od, .func (PySem.W.fnOf name qual params body scope dV kV doc pm an cdv ct), osl⟩) (hcd : PySem.W.codeIn K cdv qual = true) (S : FnScope N ps scope)
    (len : ∀ vs H Q E, sp vs H Q E → vs.length = ps.length)
    (hbody : ∀ (A : Around) (outer : List Env) (s : Shared) (H : Hp) (vs : List V) (Q : VK) (E : XK), Room k (A.deeper (envOfC qual scope s.heap.objs.size f cdv)) → sp vs H Q E →
      ∃ t, PSs (cxOf CX P w K mg base N qual scope f cdv A outer s H E) body t ∧ t { nx := fun _ H' => Q .non H', rt := Q } (start N vs) H) :
    FnOk P w K mg base CX (k + 1) f (PySem.W.fnOf name qual params body scope dV kV doc pm an cdv ct) ps sp := by
  refine ⟨len, fun A outer s H args us vs Q E hr e0 hb r hsp => ?_⟩
  have hl := len _ _ _ _ hsp
  have KX : K.In s.heap := e0.mod.kin.keeps fun b o e => (e0.bs b o e).1
  have lim : s.heap.NoLimit := e0.mod.nolimit.keeps fun b o e => (e0.bs b o e).1
  have hkind : ∀ y ∈ ps.zip us, scope.names.lookup y.1 = some .local ∨ (scope.names.lookup y.1 = some .cell ∧ ((cellsFrom (s.heap.objs.size + 1) scope.names []).lookup y.1).isSome = true) := fun ⟨n, v⟩ hy => by
    rcases S.par n (List.of_mem_zip hy).1 with q | q
    · exact .inl q
    · exact .inr ⟨q, PySem.W.cellsFrom_some _ _ _ (.inl q)⟩
  refine codeAny_call_function hr.depth (KX _ _ lk) rfl S.co S.gen rfl (PySem.W.codeRec_of KX hcd) (hb _ _ _ _ ?_)
  refine wpAny_newFunctionEnv_cells S.kind hkind fun env he s1 x => ?_
  subst he
  refine ⟨lim.keeps x.toInCall.keep, codeAny_func ?_⟩
  obtain ⟨t, ht, hq⟩ := hbody A outer s H vs Q E (hr.deeper _) hsp
  have I : Inv (cxOf CX P w K mg base N qual scope f cdv A outer s H E) [] (start N vs) H s1 := inv_start S hr.hd e0 hl r x
  refine wpAny_mono (ht [] s1 (start N vs) H _ I hq) (fun fl s' hs => ?_) fun e s' hs => hs
  have fin : ∀ {σ' : St} {H' : Hp} {v : V} {u : Value}, Inv (cxOf CX P w K mg base N qual scope f cdv A outer s H E) [] σ' H' s' → RelV v u → Q v H' → CE outer P w H s Q u s' :=
    fun {σ' H' v u} J rv q => ⟨v, H', J.os, J.bare, J.base, J.hok, rv, q⟩
  cases fl with
  | ret u =>
    obtain ⟨v, σ', H', J, rv, q⟩ := hs
    exact fin J rv q
  | next =>
    obtain ⟨σ', H', J, q⟩ := hs
    exact fin (v := V.non) (u := Value.none) J rfl q
  | brk =>
    obtain ⟨_, _, _, q⟩ := hs
    exact False.elim q
  | cont =>
    obtain ⟨_, _, _, q⟩ := hs
    exact False.elim q
end L2

namespace L2
open PySem PySem.Spec PyProof.Rows
section
variable {X : Cx} {x : Str} {p pos : Pos} {e : Expr} {es : List Expr} {t : TA} {id T : String} {r : List V → Hp → VK → Prop}

def tCB (r : List V → Hp → VK → Prop) (t : TA) : TE := fun σ H Q => t σ H fun vs H1 => r vs H1 Q
/-- f(e, ..), f a built-in function -/
theorem pe_callB (hc : CallR X (.builtin id) r) (hg : Gl X x) (hm : X.mg x = none) (hv : bootBuiltins x = some (.builtin id)) (ha : PA X (e :: es) t) (hn : x ≠ "__name__" := by decide) (hdb : (x == ("__debug__" : Str)) = false := by decide)
    (he : starEach (e :: es) X.env = (false, eval e X.env) :: starEach es X.env := by rfl) (hpl : (backTo pos (starEach es X.env)).any (·.1) = false := by rfl) : PE X (.Call (.Name x p) (e :: es) [] pos) (tCB r t) := by
  intro pins s σ H Q I h
  refine wpAny_Call_Name_kw (ld_blt I hg hm hv ?_ hn hdb)
  exact PyProof.Rows.callWith_builtin1 (thn (ha pos pins s σ H _ I h) fun us s1 ⟨vs, H1, I1, r1, q1⟩ => hc pins s1 σ H1 vs us Q I1 r1 q1) he hpl
/-- T(e, ..), T a built-in type -/
theorem pe_callTy (hc : CallR X (.type T) r) (hg : Gl X x) (hm : X.mg x = none) (hv : bootBuiltins x = some (.type T)) (ha : PA X (e :: es) t) (hn : x ≠ "__name__" := by decide) (hdb : (x == ("__debug__" : Str)) = false := by decide)
    (he : starEach (e :: es) X.env = (false, eval e X.env) :: starEach es X.env := by rfl) (hpl : (backTo pos (starEach es X.env)).any (·.1) = false := by rfl) : PE X (.Call (.Name x p) (e :: es) [] pos) (tCB r t) := by
  intro pins s σ H Q I h
  refine wpAny_Call_Name_kw (ld_blt I hg hm hv ?_ hn hdb)
  exact PyProof.Rows.callWith_type1 (thn (ha pos pins s σ H _ I h) fun us s1 ⟨vs, H1, I1, r1, q1⟩ => hc pins s1 σ H1 vs us Q I1 r1 q1) he hpl
end
end L2

namespace HT
open PySem PyProof.Rows

section
open PySem.SeqAt
open PySem.AutoSeq1 (wpAny_loadPart')
open PySem.MeetsSeq PySem.MeetsSeq2 PySem.MeetsSeq3

end

section
variable {prog : Program} {w : World} {A : Around} {E : Value → Shared → Prop} {s : Shared}

/-! ### t[a:b], not the whole -/
/-- a slice's bound as a place among n (d where it is left out) -/
def sIx (n d : Nat) : Option Int → Nat
  | none => d
  | some v => if v < 0 then (v + (n : Int)).toNat else min v.toNat n
theorem sIx_none (n d : Nat) : sIx n d none = d := rfl
theorem sIx_nat (n d k : Nat) : sIx n d (some (k : Int)) = min k n := by
  show (if (k : Int) < 0 then ((k : Int) + (n : Int)).toNat else min (k : Int).toNat n) = min k n
  rw [if_neg (by omega), Int.toNat_natCast]
theorem sIx_le (n d : Nat) (hd : d ≤ n) (o : Option Int) : sIx n d o ≤ n := by
  cases o with
  | none => exact hd
  | some v =>
    show (if v < 0 then (v + (n : Int)).toNat else min v.toNat n) ≤ n
    by_cases hv : v < 0
    · rw [if_pos hv]; omega
    · rw [if_neg hv]; exact Nat.min_le_right _ _
theorem clip_eq (v : Int) (n d : Nat) : (if v < 0 then max (v + (n : Int)) 0 else min v (n : Int)) = ((sIx n d (some v) : Nat) : Int) := by
  show (if v < 0 then max (v + (n : Int)) 0 else min v (n : Int)) = (((if v < 0 then (v + (n : Int)).toNat else min v.toNat n) : Nat) : Int)
  by_cases hv : v < 0
  · simp only [if_pos hv]; omega
  · simp only [if_neg hv]; omega
theorem adjust_gen (lo hi : Option Int) (n : Nat) : Builtin.Slice.sliceAdjust lo hi 1 (n : Int) = (((sIx n 0 lo : Nat) : Int), ((sIx n n hi : Nat) : Int)) := by
  have h1 : ¬ ((1 : Int) < 0) := by omega
  unfold Builtin.Slice.sliceAdjust
  simp only [h1, if_false]
  refine Prod.ext ?_ ?_
  · cases lo with
    | none => rfl
    | some v => exact clip_eq v n 0
  · cases hi with
    | none => rfl
    | some v => exact clip_eq v n n
theorem places_gen (i j : Nat) : Builtin.Slice.slicePlaces (i : Int) (j : Int) 1 = j - i := by
  unfold Builtin.Slice.slicePlaces
  have h1 : (1 : Int) > 0 := by omega
  simp only [h1, if_true, Int.ediv_one]
  split <;> omega
theorem slicePart_ {v : Value} {o : Option Int} {Q : Option Int → Shared → Prop} (p : IsPart v o) (h : Q o s) : wpAny (model prog w) A (Builtin.Slice.slicePartIndex v) Q E s := by
  cases p with
  | none => exact slicePart_none h
  | int i t => exact slicePart_int h
theorem sliceApplied_gen {sl : Addr} {vl vu : Value} {lo hi : Option Int} {n : Nat} {Q : Int × Int × Nat → Shared → Prop} (hs : s.heap.IsSliceOf sl vl vu .none) (pl : IsPart vl lo) (pu : IsPart vu hi)
    (h : Q (((sIx n 0 lo : Nat) : Int), 1, sIx n n hi - sIx n 0 lo) s) : wpAny (model prog w) A (Builtin.Slice.sliceApplied (.ref sl) (pure (n : Int))) Q E s := by
  obtain ⟨os, hos, hcs, hds⟩ := id hs
  unfold Builtin.Slice.sliceApplied Builtin.Slice.sliceFields
  refine wpAny_bind (wpAny_bind (wpAny_field hos hds (x := vl) rfl (wpAny_bind (wpAny_field hos hds (x := vu) rfl (wpAny_bind (wpAny_field hos hds (x := .none) rfl (wpAny_pure ?_)))))))
  refine wpAny_bind (slicePart_none ?_)
  show wpAny _ _ (if ((1 : Int) == 0) = true then _ else _) _ _ s
  rw [if_neg (by decide)]
  refine wpAny_bind (slicePart_ pl (wpAny_bind (slicePart_ pu (wpAny_bind (wpAny_pure ?_)))))
  show wpAny _ _ (match Builtin.Slice.sliceAdjust lo hi 1 (n : Int) with | (lo, hi) => pure (lo, (1 : Int), Builtin.Slice.slicePlaces lo hi 1)) _ _ s
  rw [adjust_gen lo hi n]
  show wpAny _ _ (pure (((sIx n 0 lo : Nat) : Int), (1 : Int), Builtin.Slice.slicePlaces ((sIx n 0 lo : Nat) : Int) ((sIx n n hi : Nat) : Int) 1)) _ _ s
  rw [places_gen]
  exact wpAny_pure h
theorem pick_gen (xs : Array Value) (i k : Nat) : ((List.range k).filterMap fun (m : Nat) => xs[((i : Int) + (m : Int) * 1).toNat]?).toArray = ((xs.toList.drop i).take k).toArray := by
  have e : (fun (m : Nat) => xs[((i : Int) + (m : Int) * 1).toNat]?) = fun m => xs[i + m]? := by
    funext m
    have : ((i : Int) + (m : Int) * 1).toNat = i + m := by omega
    rw [this]
  rw [e]
  have := pick_run xs i k
  rw [List.filterMap_map] at this
  have e2 : ((fun x => xs[x]?) ∘ fun x => i + x) = fun m => xs[i + m]? := rfl
  rw [e2] at this
  rw [this]

theorem getItem_tuple_cut {t sl : Addr} {items : Array Value} {vl vu : Value} {lo hi : Option Int} {Q : Value → Shared → Prop} (ht : IsTup s.heap t items) (hs : s.heap.IsSliceOf sl vl vu .none) (pl : IsPart vl lo) (pu : IsPart vu hi)
    (hw : ¬ (sIx items.size 0 lo = 0 ∧ sIx items.size items.size hi = items.size))
    (h : Q (.ref s.heap.objs.size) { s with heap := s.heap.push { cls := .type "tuple", data := .seq ((items.toList.drop (sIx items.size 0 lo)).take (sIx items.size items.size hi - sIx items.size 0 lo)).toArray } })
    (hsz : items.size ≤ sizeLine) : wpAny (model prog w) A (getItem (.ref t) (.ref sl)) Q E s := by
  have htake : sizeOk (.seq ((items.toList.drop (sIx items.size 0 lo)).take (sIx items.size items.size hi - sIx items.size 0 lo)).toArray) := by
    show ((items.toList.drop (sIx items.size 0 lo)).take (sIx items.size items.size hi - sIx items.size 0 lo)).toArray.size ≤ sizeLine
    rw [List.size_toArray, List.length_take, List.length_drop, Array.length_toList]
    omega
  have hj : sIx items.size items.size hi ≤ items.size := sIx_le _ _ (Nat.le_refl _) hi
  obtain ⟨os, hos, hcs, hds⟩ := id hs
  have hTs : s.TypeIs (.ref sl) "slice" := ⟨os, hos, hcs⟩
  unfold getItem
  try with_reducible refine wpAny_holding ?_
  first | refine wpAny_bind (wpAny_pure ?_) | skip
  refine wpAny_bind (wpAny_sequenceKey ht.typeIs (by decide) ?_)
  refine wpAny_bind (wpAny_callSpecial?_slot (name := Str.ofString "__getitem__") ht.typeIs PyProof.Rows.slot_tuple_getitem
    (wpAny_call_entry PyProof.Rows.slot_tuple_getitem ht.typeIs entry_tuple_getitem ?_ (args_tuple_getitem _ _)))
  show wpAny _ _ (Builtin.Tuple.tupleItemsOf (.ref t) >>= _) _ _ s
  refine wpAny_bind (tupleItemsOf_ ht ?_)
  refine wpAny_bind (wpAny_typeOf hTs ?_)
  rw [if_pos (by decide)]
  refine wpAny_bind (sliceApplied_gen hs pl pu ?_)
  have hno : ¬ ((((sIx items.size 0 lo : Nat) : Int) == 0 && (1 : Int) == 1 && (sIx items.size items.size hi - sIx items.size 0 lo) == items.size) = true) := by
    intro q
    rw [Bool.and_eq_true, Bool.and_eq_true] at q
    have q1 : ((sIx items.size 0 lo : Nat) : Int) = 0 := eq_of_beq q.1.1
    have q2 : sIx items.size items.size hi - sIx items.size 0 lo = items.size := eq_of_beq q.2
    exact hw ⟨by omega, by omega⟩
  show wpAny _ _ (if (((sIx items.size 0 lo : Nat) : Int) == 0 && (1 : Int) == 1 && (sIx items.size items.size hi - sIx items.size 0 lo) == items.size) = true then _ else _) _ _ s
  rw [if_neg hno, pick_gen]
  first
    | exact wpAny_bind (m := Builtin.Tuple.tupleExact _) (wpAny_newObj_type (wpAny_pure ⟨_, rfl, wpAny_pure h⟩) htake)
    | exact wpAny_bind (m := Builtin.Tuple.tupleExact _) (wpAny_newObj_type (wpAny_bind (wpAny_pure (wpAny_pure ⟨_, rfl, wpAny_pure h⟩))) htake)
    | exact wpAny_bind (wpAny_bind (m := Builtin.Tuple.tupleExact _) (wpAny_newObj_type (wpAny_pure (wpAny_pure ⟨_, rfl, wpAny_pure h⟩)) htake))
    | exact wpAny_bind (wpAny_bind (m := Builtin.Tuple.tupleExact _) (wpAny_newObj_type (wpAny_pure ⟨_, rfl, wpAny_pure h⟩) htake))
end
end HT

namespace L2
open PySem PySem.Spec PyProof.Rows

/-! ### the parts of a slice -/
abbrev TO := St → Hp → (Option Int → Hp → Prop) → Prop
/-- a slice's part (left out, or an int) -/
def PO (X : Cx) (e : Option Expr) (t : TO) : Prop :=
  ∀ (pins : List (Addr × Obj)) (s : Shared) (σ : St) (H : Hp) (Q : Option Int → Hp → Prop), Inv X pins σ H s → t σ H Q →
    wpAny (model X.prog X.w) X.A (evalPart e X.env) (fun u s' => ∃ o H', Inv X pins σ H' s' ∧ IsPart u o ∧ Q o H') X.xe s
def tNoPart : TO := fun _ H Q => Q none H
def tPart (t : TE) : TO := fun σ H Q => t σ H fun x H1 => ∃ i, x = .int i ∧ Q (some i) H1

section
variable {X : Cx} {e : Expr} {te : TE} {lo hi : Option Expr} {tl th : TO} {pos p2 : Pos}

theorem po_none : PO X none tNoPart := by
  intro pins s σ H Q I h
  rw [evalPart_none]
  exact wpAny_pure ⟨none, H, I, .none, h⟩
theorem po_some (h : PE X e te) : PO X (some e) (tPart te) := by
  intro pins s σ H Q I hw
  rw [evalPart_some]
  refine thn (h pins s σ H _ I hw) fun u s1 ⟨x, H1, I1, r1, q1⟩ => ?_
  obtain ⟨i, rfl, q⟩ := q1
  obtain ⟨t, rfl⟩ := r1
  exact ⟨some i, H1, I1, .int i t, q⟩

/-- what a slice of a value is, by values: the slice object stands at sl -/
def SlR (X : Cx) (r : V → Option Int → Option Int → Hp → VK → Prop) : Prop :=
  ∀ (pins : List (Addr × Obj)) (s : Shared) (σ : St) (H : Hp) (x : V) (v vl vu : Value) (lo hi : Option Int) (sl : Addr) (Q : VK), Inv X pins σ H s → RelV x v → s.heap.IsSliceOf sl vl vu .none → IsPart vl lo → IsPart vu hi → r x lo hi H Q →
    ∃ T id, typeLookup (.type T) "__getitem__" = pure (some (.builtin id)) ∧ s.TypeIs v T ∧ wpAny (model X.prog X.w) X.A (getItem v (.ref sl)) (EP X pins σ Q) X.xe s
def tSl (r : V → Option Int → Option Int → Hp → VK → Prop) (te : TE) (tl th : TO) : TE := fun σ H Q => te σ H fun x H1 => tl σ H1 fun l H2 => th σ H2 fun u H3 => r x l u H3 Q
/-- a[lo:hi], any a -/
theorem pe_slice {r : V → Option Int → Option Int → Hp → VK → Prop} (hr : SlR X r) (he : PE X e te) (hl : PO X lo tl) (hu : PO X hi th) : PE X (.Subscript e (.Slice lo hi none p2) pos) (tSl r te tl th) := by
  intro pins s σ H Q I h
  refine Subscript_ (thn (he pins s σ H _ I h) fun v s1 ⟨x, H1, I1, r1, q1⟩ => ?_)
  refine wpAny_Slice (thn (hl pins s1 σ H1 _ I1 q1) fun vl s2 ⟨l, H2, I2, pl, q2⟩ => thn (hu pins s2 σ H2 _ I2 q2) fun vu s3 ⟨u, H3, I3, pu, q3⟩ => ?_)
  rw [evalPart_none]
  refine wpAny_pure ?_
  have I4 : Inv X pins σ H3 { s3 with heap := s3.heap.push { cls := .type "slice", data := .fields #[vl, vu, .none] } } := I3.kept (t' := s3.toks) fun b ob q => Heap.get?_push_of_some _ q
  obtain ⟨T, id, hT, ht, hg⟩ := hr pins { s3 with heap := s3.heap.push { cls := .type "slice", data := .fields #[vl, vu, .none] } } σ H3 x v vl vu l u s3.heap.objs.size Q I4 r1 (Heap.IsSliceOf.new ..) pl pu q3
  show wpAny (model X.prog X.w) X.A (subscriptTail e (.Slice lo hi none p2) v (.ref s3.heap.objs.size)) (EP X pins σ Q) X.xe { s3 with heap := s3.heap.push { cls := .type "slice", data := .fields #[vl, vu, .none] } }
  exact tail_any (ops := [.ref s3.heap.objs.size, v]) ht hT hg (by with_unfolding_all rfl)

/-- the items of xs[lo:hi] -/
def cutV (xs : List V) (lo hi : Option Int) : List V := (xs.drop (HT.sIx xs.length 0 lo)).take (HT.sIx xs.length xs.length hi - HT.sIx xs.length 0 lo)
theorem cutV_length (xs : List V) (lo hi : Option Int) : (cutV xs lo hi).length ≤ xs.length := by
  unfold cutV
  rw [List.length_take, List.length_drop]
  omega
/-- t[lo:hi], not the whole of it (the whole would be t itself) -/
def rSlT (K : PySem.W.Frag) : V → Option Int → Option Int → Hp → VK → Prop := fun x lo hi H Q => ∃ a xs, x = .ref a ∧ SqT K H a xs ∧
  ¬ (HT.sIx xs.length 0 lo = 0 ∧ HT.sIx xs.length xs.length hi = xs.length) ∧ ∀ p, H p = none → Q (.ref p) (upd H p (.tup (cutV xs lo hi)))
theorem sl_tup : SlR X (rSlT X.K) := by
  intro pins s σ H x v vl vu lo hi sl Q I rx hs pl pu h
  obtain ⟨a, xs, rfl, hx, hw, q⟩ := h
  cases rx
  obtain ⟨its, r, ht, hz⟩ := I.tuple hx
  have hlen : its.toArray.size = xs.length := by rw [List.size_toArray]; exact r.length.symm
  refine ⟨"tuple", _, PyProof.Rows.slot_tuple_getitem.lookup, ht.typeIs, ?_⟩
  refine HT.getItem_tuple_cut ht hs pl pu (by rw [hlen]; exact hw) ?_ (by rw [hlen]; exact hz)
  rw [hlen]
  refine ⟨.ref s.heap.objs.size, _, I.laid (t' := s.toks) (o := .tup (cutV xs lo hi)) (fun b ob q => Heap.get?_push_of_some _ q) (Nat.le_refl _) ?_, rfl, q _ (I.hok.fresh (Nat.le_refl _))⟩
  exact ⟨Nat.le_trans (cutV_length xs lo hi) hz, _, (r.drop (HT.sIx xs.length 0 lo)).take (HT.sIx xs.length xs.length hi - HT.sIx xs.length 0 lo), IsTup.new _ _⟩

/-! ### t < u, t + u -/
end
end L2

namespace L2
open PySem PySem.Spec PyProof.Rows

/-! ### places -/
/-- the place that an index of any sign means -/
def ixN (n : Nat) (i : Int) : Option Nat := if 0 ≤ i then (if i < n then some i.toNat else none) else if -(n : Int) ≤ i then some (i + n).toNat else none
def atI {α : Type} (xs : List α) (i : Int) : Option α := (ixN xs.length i).bind fun j => xs[j]?
theorem ixN_seq {n : Nat} {i : Int} {j : Nat} (h : ixN n i = some j) : seqIndex? i n = some j ∧ j < n ∧ -(n : Int) ≤ i ∧ i < n := by
  unfold ixN at h
  by_cases h0 : 0 ≤ i
  · rw [if_pos h0] at h
    by_cases h1 : i < n
    · rw [if_pos h1] at h
      have e : i.toNat = j := Option.some.inj h
      exact ⟨by rw [seqIndex_of h0 h1, e], by omega, by omega, h1⟩
    · rw [if_neg h1] at h; cases h
  · rw [if_neg h0] at h
    by_cases h1 : -(n : Int) ≤ i
    · rw [if_pos h1] at h
      have e : (i + n).toNat = j := Option.some.inj h
      exact ⟨by rw [seqIndex_neg (by omega) h1, e], by omega, h1, by omega⟩
    · rw [if_neg h1] at h; cases h
theorem atI_get {α : Type} {xs : List α} {i : Int} {v : α} (h : atI xs i = some v) : ∃ j, seqIndex? i xs.length = some j ∧ xs[j]? = some v ∧ j < xs.length ∧ -(xs.length : Int) ≤ i ∧ i < xs.length := by
  unfold atI at h
  cases e : ixN xs.length i with
  | none => rw [e] at h; cases h
  | some j =>
    rw [e] at h
    obtain ⟨h1, h2, h3, h4⟩ := ixN_seq e
    exact ⟨j, h1, h, h2, h3, h4⟩
theorem atI_nat {α : Type} {xs : List α} {j : Nat} {v : α} (h : xs[j]? = some v) : atI xs (j : Int) = some v := by
  have hj : j < xs.length := (List.getElem?_eq_some_iff.mp h).1
  have e : ixN xs.length (j : Int) = some j := by
    unfold ixN
    rw [if_pos (by omega), if_pos (by omega)]; simp
  unfold atI; rw [e]; exact h
/-! ### what may be subscripted -/
/-- what stands as an index of a plain subscript -/
def PlainIx (b : Expr) : Prop := ∀ o i, subscripted b false o i = operate [o, i] (getItem o i)
/-- a subscript by values -/
def IxR (X : Cx) (r : R2) : Prop :=
  ∀ (value slice : Expr) (pins : List (Addr × Obj)) (s : Shared) (σ : St) (H : Hp) (x y : V) (v u : Value) (Q : VK), Inv X pins σ H s → RelV x v → RelV y u → r x y H Q →
    subscripted slice false v u = operate [v, u] (getItem v u) → wpAny (model X.prog X.w) X.A (subscriptTail value slice v u) (EP X pins σ Q) X.xe s
/-- a call of a builtin's method by values: the receiver, the arguments -/
def MtR (X : Cx) (id : String) (r : V → List V → Hp → VK → Prop) : Prop :=
  ∀ (pins : List (Addr × Obj)) (s : Shared) (σ : St) (H : Hp) (x : V) (xs : List V) (v : Value) (us : List Value) (Q : VK), Inv X pins σ H s → RelV x v → Vals xs us → r x xs H Q →
    wpAny (model X.prog X.w) X.A (call (.builtin id) (v :: us)) (EP X pins σ Q) X.xe s
section
variable {X : Cx} {a b : Expr} {ta tb : TE} {pos : Pos}
/-- a[b] -/
theorem pe_ix {r : R2} (hr : IxR X r) (ha : PE X a ta) (hb : PE X b tb) (hs : PlainIx b) : PE X (.Subscript a b pos) (tOp r ta tb) := by
  intro pins s σ H Q I h
  exact Subscript_ (binT ha hb I h fun v u s2 x y H2 I2 rx ry q => hr a b pins s2 σ H2 x y v u Q I2 rx ry q (hs _ _))

def rIxL (K : PySem.W.Frag) : R2 := fun x y H Q => ∃ p xs i v, x = .ref p ∧ y = .int i ∧ SqL K H p xs ∧ atI xs i = some v ∧ Q v H
def rIxT (K : PySem.W.Frag) : R2 := fun x y H Q => ∃ p xs i v, x = .ref p ∧ y = .int i ∧ SqT K H p xs ∧ atI xs i = some v ∧ Q v H
def rIxS : R2 := fun x y H Q => ∃ z i c, x = .str z ∧ y = .int i ∧ z.length ≤ sizeLine ∧ atI z.cps.toList i = some c ∧ Q (.str ⟨#[c]⟩) H
theorem ix_list : IxR X (rIxL X.K) := by
  intro value slice pins s σ H x y v u Q I rx ry h hs
  obtain ⟨p, xs, i, z, rfl, rfl, hq, he, q⟩ := h
  cases rx
  obtain ⟨t, rfl⟩ := ry
  obtain ⟨its, r, pl, hz⟩ := I.list hq
  obtain ⟨j, h1, h2, h3, h4, h5⟩ := atI_get he
  obtain ⟨w, ew, rw'⟩ := r.get h2
  have hl := r.length
  have hn := line63
  have fin : EP X pins σ Q w s := ⟨z, H, I, rw', q⟩
  by_cases h0 : 0 ≤ i
  · have hj : i.toNat = j := by
      rw [seqIndex_of h0 h5] at h1
      exact Option.some.inj h1
    exact item_listR pl.isList h0 (by omega) (by rw [hj]; simpa using ew) fin hs
  · have hj : (i + (its.toArray.size : Int)).toNat = j := by
      rw [seqIndex_neg (by omega) h4] at h1
      rw [List.size_toArray, ← hl]
      exact Option.some.inj h1
    exact subscriptTail_builtinR (x := w) pl.isList.typeIs slot_list_getitem.lookup
      (wpAny_getItem_list_neg (Q := fun r s' => r = w ∧ EP X pins σ Q r s') pl.isList (by omega) (by rw [List.size_toArray] <;> omega) (by omega) (by rw [hj]; simpa using ew) ⟨rfl, fin⟩) hs
theorem ix_tup : IxR X (rIxT X.K) := by
  intro value slice pins s σ H x y v u Q I rx ry h hs
  obtain ⟨p, xs, i, z, rfl, rfl, hq, he, q⟩ := h
  cases rx
  obtain ⟨t, rfl⟩ := ry
  obtain ⟨its, r, pl, hz⟩ := I.tuple hq
  obtain ⟨j, h1, h2, h3, h4, h5⟩ := atI_get he
  obtain ⟨w, ew, rw'⟩ := r.get h2
  have hl := r.length
  have hn := line63
  have fin : EP X pins σ Q w s := ⟨z, H, I, rw', q⟩
  exact subscriptTail_builtinR (x := w) pl.typeIs slot_tuple_getitem.lookup
    (getItem_tuple (j := j) (Q := fun r s' => r = w ∧ EP X pins σ Q r s') pl (by omega) (by omega) (by rw [List.size_toArray, ← hl]; exact h1) (by simpa using ew) ⟨rfl, fin⟩) hs
theorem ix_str : IxR X rIxS := by
  intro value slice pins s σ H x y v u Q I rx ry h hs
  obtain ⟨z, i, c, rfl, rfl, hz, he, q⟩ := h
  obtain ⟨t, rfl⟩ := rx
  obtain ⟨t', rfl⟩ := ry
  obtain ⟨j, h1, h2, h3, h4, h5⟩ := atI_get he
  have hl : z.cps.toList.length = z.length := by simp [Str.length]
  rw [hl] at h1 h4 h5
  have hn := line63
  exact tail_any (typeIs_str s z t) slot_str_getitem.lookup (getItem_str (c := c) (by
    have e1 : decide (i < -(2 ^ 63 : Int)) = false := decide_eq_false (by omega)
    have e2 : decide (i ≥ 2 ^ 63) = false := decide_eq_false (by omega)
    rw [e1, e2, Bool.or_false]) (by rw [h1]; simpa using h2) ⟨.str ⟨#[c]⟩, H, I.tok _, ⟨_, rfl⟩, q⟩) hs
/-! ### xs[i] = v, any sign -/
/-! ### slices -/
theorem slice_bounds (lo hi : Option Int) (n : Nat) : (sliceBounds lo hi none n).1 = ((HT.sIx n 0 lo : Nat) : Int) ∧ (sliceBounds lo hi none n).2.1 = ((HT.sIx n n hi : Nat) : Int) ∧ (sliceBounds lo hi none n).2.2 = 1 := by
  refine ⟨?_, ?_, rfl⟩
  · cases lo with
    | none => simp [sliceBounds, HT.sIx]
    | some i =>
      simp only [sliceBounds, HT.sIx, Option.getD_none, show (1 : Int) > 0 by decide, if_true]
      by_cases h : i < 0
      · simp only [h, if_true] <;> omega
      · simp only [h, if_false] <;> omega
  · cases hi with
    | none => simp [sliceBounds, HT.sIx]
    | some i =>
      simp only [sliceBounds, HT.sIx, Option.getD_none, show (1 : Int) > 0 by decide, if_true]
      by_cases h : i < 0
      · simp only [h, if_true] <;> omega
      · simp only [h, if_false] <;> omega
theorem slicePick_cut (its : List Value) (lo hi : Option Int) : slicePick its.toArray lo hi none = ((its.drop (HT.sIx its.length 0 lo)).take (HT.sIx its.length its.length hi - HT.sIx its.length 0 lo)).toArray := by
  obtain ⟨h1, h2, h3⟩ := slice_bounds lo hi its.toArray.size
  unfold slicePick
  rw [h1, h2, h3]
  simp only [sliceRange_one, pick_run, List.size_toArray] <;> rfl
/-- xs[lo:hi] of a list: a new list -/
def rSlL (K : PySem.W.Frag) : V → Option Int → Option Int → Hp → VK → Prop := fun x lo hi H Q => ∃ a xs, x = .ref a ∧ SqL K H a xs ∧ ∀ p, H p = none → Q (.ref p) (upd H p (.lst (cutV xs lo hi)))
theorem sl_list : SlR X (rSlL X.K) := by
  intro pins s σ H x v vl vu lo hi sl Q I rx hs pl pu h
  obtain ⟨a, xs, rfl, hx, q⟩ := h
  cases rx
  obtain ⟨its, r, ht, hz⟩ := I.list hx
  have hlen := r.length
  refine ⟨"list", _, slot_list_getitem.lookup, ht.isList.typeIs, ?_⟩
  refine wpAny_getItem_list_slice ht.isList hs pl pu .none (by simp) ?_ (by rw [List.size_toArray] <;> omega)
  rw [slicePick_cut, ← hlen]
  refine ⟨.ref s.heap.objs.size, _, I.laid (t' := s.toks) (o := .lst (cutV xs lo hi)) (fun b ob q => Heap.get?_push_of_some _ q) (Nat.le_refl _) ?_, rfl, q _ (I.hok.fresh (Nat.le_refl _))⟩
  exact ⟨Nat.le_trans (cutV_length xs lo hi) hz, _, 0, (r.drop (HT.sIx xs.length 0 lo)).take (HT.sIx xs.length xs.length hi - HT.sIx xs.length 0 lo), Heap.get?_push_size _ rfl⟩

/-! ### in, not in: flat items -/
/-! ### len, list(x), tuple(x) of any list or tuple that is read -/
theorem call_len_seq : CallR X (.builtin "len") (fun xs H Q => ∃ p ys, xs = [.ref p] ∧ (SqL X.K H p ys ∨ SqT X.K H p ys) ∧ Q (.int ys.length) H) := by
  intro pins s σ H xs us Q I r h
  obtain ⟨p, ys, rfl, hq, q⟩ := h
  obtain ⟨u, rfl, rx⟩ := vals1 r
  cases rx
  have hn := line63
  rcases hq with hq | hq
  · obtain ⟨its, r', pl, hz⟩ := I.list hq
    have hlen := r'.length
    exact Calls.call_len_list pl.isList (by simp only [List.size_toArray] <;> omega) ⟨.int ys.length, H, I.tok _, ⟨s.toks + 1, by rw [List.size_toArray, hlen]⟩, q⟩
  · obtain ⟨its, r', pl, hz⟩ := I.tuple hq
    have hlen := r'.length
    exact len_tuple pl (by simp only [List.size_toArray] <;> omega) ⟨.int ys.length, H, I.tok _, ⟨s.toks + 1, by rw [List.size_toArray, hlen]⟩, q⟩
theorem call_list_of : CallR X (.type "list") (fun xs H Q => ∃ p ys, xs = [.ref p] ∧ (SqL X.K H p ys ∨ SqT X.K H p ys) ∧ ∀ l, H l = none → Q (.ref l) (upd H l (.lst ys))) := by
  intro pins s σ H xs us Q I r h
  obtain ⟨p, ys, rfl, hq, q⟩ := h
  obtain ⟨u, rfl, rx⟩ := vals1 r
  cases rx
  have fin : ∀ (its : List Value), Vals ys its → ys.length ≤ sizeLine → ∀ (h' : Heap) (c' : Nat), (∀ b o', s.heap.get? b = some o' → h'.get? b = some o') →
      h'.get? s.heap.objs.size = some { cls := .type "list", dict := none, data := .seq its.toArray c', slots := #[] } → EP X pins σ Q (.ref s.heap.objs.size) { s with heap := h' } := fun its r' hz h' c' kp e =>
    ⟨.ref s.heap.objs.size, _, I.laid (t' := s.toks) kp (Nat.le_refl _) (show ObjOk X.prog X.w _ h' _ (.lst ys) from ⟨hz, its, c', r', e⟩), rfl, q _ (I.hok.fresh (Nat.le_refl _))⟩
  rcases hq with hq | hq
  · obtain ⟨its, r', pl, hz⟩ := I.list hq
    have hlen := r'.length
    obtain ⟨o, ho, hc, n, hd⟩ := pl.isList
    exact call_list_seq p (.inl rfl) ho hc hd (fun h' c' kp e => fin its r' hz h' c' kp e) (by simp only [List.size_toArray] <;> omega)
  · obtain ⟨its, r', pl, hz⟩ := I.tuple hq
    have hlen := r'.length
    obtain ⟨o, ho, hc, n, hd⟩ := pl
    exact call_list_seq p (.inr rfl) ho hc hd (fun h' c' kp e => fin its r' hz h' c' kp e) (by simp only [List.size_toArray] <;> omega)
theorem call_tuple_of : CallR X (.type "tuple") (fun xs H Q => ∃ p ys, xs = [.ref p] ∧ ((SqL X.K H p ys ∧ ∀ l, H l = none → Q (.ref l) (upd H l (.tup ys))) ∨ (SqT X.K H p ys ∧ Q (.ref p) H))) := by
  intro pins s σ H xs us Q I r h
  obtain ⟨p, ys, rfl, h⟩ := h
  obtain ⟨u, rfl, rx⟩ := vals1 r
  cases rx
  rcases h with ⟨hq, q⟩ | ⟨hq, q⟩
  · obtain ⟨its, r', pl, hz⟩ := I.list hq
    have hlen := r'.length
    refine call_tuple_list pl.isList (fun h' kp => ?_) (by simp only [List.size_toArray] <;> omega)
    have I1 : Inv X pins σ H { s with heap := h' } := I.kept (t' := s.toks) kp
    have I2 : Inv X pins σ (upd H h'.objs.size (.tup ys)) { s with heap := h'.push { cls := .type "tuple", data := .seq its.toArray } } :=
      I1.laid (t' := s.toks) (fun b o e => Heap.get?_push_of_some _ e) (Nat.le_refl _) (show ObjOk X.prog X.w _ _ _ (.tup ys) from ⟨hz, its, r', IsTup.new _ _⟩)
    exact ⟨.ref h'.objs.size, _, I2, rfl, q _ (I1.hok.fresh (Nat.le_refl _))⟩
  · obtain ⟨its, r', pl, hz⟩ := I.tuple hq
    exact call_tuple_same pl ⟨.ref p, H, I, rfl, q⟩

/-! ### the call of a builtin's method: o.m(..) -/
/-- the value is of that builtin type -/
def tyV (K : PySem.W.Frag) (T : String) (x : V) (H : Hp) : Prop := match x with
  | .str _ => T = "str"
  | .int _ => T = "int"
  | .ref p => (T = "list" ∧ ∃ xs, SqL K H p xs) ∨ (T = "tuple" ∧ ∃ o, K.lookup p = some o ∧ o.cls = .type "tuple" ∧ o.dict = none) ∨
      (T = "dict" ∧ ((∃ kvs, H p = some (.dK kvs)) ∨ ∃ kvs, H p = some (.dT kvs))) ∨ (T = "set" ∧ ∃ S n, H p = some (.set S n))
  | _ => False
theorem tyV_is {pins : List (Addr × Obj)} {σ : St} {H : Hp} {s : Shared} {T : String} {x : V} {v : Value} (I : Inv X pins σ H s) (r : RelV x v) (ty : tyV X.K T x H) :
    s.TypeIs v T ∧ ∀ a, v = .ref a → ∃ ob, s.heap.get? a = some ob ∧ ob.dict = none := by
  cases x with
  | str z =>
    obtain ⟨t, rfl⟩ := r
    cases (show T = "str" from ty)
    exact ⟨typeIs_str s z t, fun _ e => nomatch e⟩
  | int i =>
    obtain ⟨t, rfl⟩ := r
    cases (show T = "int" from ty)
    exact ⟨typeIs_int s i t, fun _ e => nomatch e⟩
  | ref p =>
    cases r
    rcases ty with ⟨rfl, xs, hq⟩ | ⟨rfl, o, hk, hc, hd⟩ | ⟨rfl, hk⟩ | ⟨rfl, S, n, hk⟩
    · obtain ⟨its, _, pl, _⟩ := I.list hq
      refine ⟨pl.isList.typeIs, fun a e => ?_⟩
      cases e
      obtain ⟨o, n, e, c, hd, _⟩ := pl
      exact ⟨o, e, hd⟩
    · refine ⟨⟨o, I.kIn p o hk, hc⟩, fun a e => ?_⟩
      cases e
      exact ⟨o, I.kIn _ o hk, hd⟩
    · have z : ∃ o, s.heap.get? p = some o ∧ o.ExactDict := by
        rcases hk with ⟨kvs, hk⟩ | ⟨kvs, hk⟩
        · obtain ⟨_, _, _, _, o, _, _, e, ex, _⟩ := I.hok p _ hk
          exact ⟨o, e, ex⟩
        · obtain ⟨_, _, _, _, o, _, _, e, ex, _⟩ := I.hok p _ hk
          exact ⟨o, e, ex⟩
      obtain ⟨o, e, ex⟩ := z
      refine ⟨⟨o, e, ex.1⟩, fun a e2 => ?_⟩
      cases e2
      exact ⟨o, e, ex.2.1⟩
    · obtain ⟨o, _, _, _, e, ex, _⟩ := I.hok p _ hk
      refine ⟨⟨o, e, ex.1⟩, fun a e2 => ?_⟩
      cases e2
      exact ⟨o, e, ex.2.1⟩
  | _ => exact False.elim ty
def tBM0 (K : PySem.W.Frag) (T : String) (r : V → List V → Hp → VK → Prop) (to : TE) : TE := fun σ H Q => to σ H fun x H1 => tyV K T x H1 ∧ r x [] H1 Q
def tBM (K : PySem.W.Frag) (T : String) (r : V → List V → Hp → VK → Prop) (to : TE) (t : TA) : TE := fun σ H Q => to σ H fun x H1 => tyV K T x H1 ∧ t σ H1 fun xs H2 => r x xs H2 Q
variable {o e : Expr} {es : List Expr} {to : TE} {t : TA} {name : Str} {apos cpos : Pos} {T id : String} {r : V → List V → Hp → VK → Prop}
theorem pe_bm0 (pa : PlainAttrs T) (slot : Slot T name id) (hty : typeOf (.builtin id) = pure (.type "method_descriptor")) (hm : MtR X id r) (ho : PE X o to)
    (hbase : attributeBase o name X.env (eval o X.env) = eval o X.env := by rfl) (hline : (apos.endLine == cpos.line) = true := by rfl) : PE X (.Call (.Attribute o name apos) [] [] cpos) (tBM0 X.K T r to) := by
  intro pins s σ H Q I h
  refine wpAny_Call_method0_late hbase hline (thn (ho pins s σ H _ I h) fun v s1 ⟨x, H1, I1, r1, ty, q1⟩ => ?_)
  obtain ⟨h1, h2⟩ := tyV_is I1 r1 ty
  exact ⟨T, id, pa, slot, hty, h1, h2, Calls.callWith_builtin rfl (PySem.evalArgs_none (hm pins s1 σ H1 x [] v [] Q I1 r1 .nil q1))⟩
theorem pe_bm (pa : PlainAttrs T) (slot : Slot T name id) (hty : typeOf (.builtin id) = pure (.type "method_descriptor")) (hm : MtR X id r) (ho : PE X o to) (ha : PA X (e :: es) t)
    (hbase : attributeBase o name X.env (eval o X.env) = eval o X.env := by rfl)
    (hfew : ((backTo cpos (starEach (e :: es) X.env)).all (fun x => !x.1) && (backToKw cpos (keywordEach [] X.env)).all (fun x => x.1.isSome)
      && decide ((e :: es).length + ([] : List Keyword).length + (if ([] : List Keyword).isEmpty then 0 else 1) < 30)) = true := by rfl)
    (hline : (apos.endLine == cpos.line) = true := by rfl) (hs : starEach (e :: es) X.env = (false, eval e X.env) :: starEach es X.env := by rfl) (hplain : (backTo cpos (starEach es X.env)).any (·.1) = false := by rfl) :
    PE X (.Call (.Attribute o name apos) (e :: es) [] cpos) (tBM X.K T r to t) := by
  intro pins s σ H Q I h
  refine wpAny_Call_method_late hbase hfew hline rfl (thn (ho pins s σ H _ I h) fun v s1 ⟨x, H1, I1, r1, ty, q1⟩ => ?_)
  obtain ⟨h1, h2⟩ := tyV_is I1 r1 ty
  refine ⟨T, id, pa, slot, hty, h1, h2, ?_⟩
  have hA := ha cpos pins s1 σ H1 _ I1 q1
  rw [hs] at hA ⊢
  refine Calls.callWith_builtin (by show (false || (backTo cpos (starEach es X.env)).any (·.1)) = false; rw [hplain] <;> rfl) (Calls.evalArgs_plain ?_)
  exact thn hA fun us s2 ⟨vs, H2, I2, r2, q2⟩ => hm pins s2 σ H2 x vs v us Q I2 r1 r2 q2
/- xs.append(e), list.index on a module's tuple .. are MtR facts of 06m -/
end
end L2

namespace L2
open PySem PySem.Spec PyProof.Rows

def MtM (X : Cx) (id : String) (r : V → List V → Hp → VK → Prop) : Prop :=
  ∀ (pins : List (Addr × Obj)) (s : Shared) (σ : St) (H : Hp) (x : V) (xs : List V) (v : Value) (us : List Value) (Q : VK), Inv X pins σ H s → RelV x v → Vals xs us → r x xs H Q →
    wpAny (model X.prog X.w) X.A (call (.builtin id) (v :: us)) (EP X pins σ Q) X.xe s

/-! ### lists of values -/
theorem Vals.one : ∀ {x : V} {us : List Value}, Vals [x] us → ∃ u, us = [u] ∧ RelV x u
  | _, _, .cons r .nil => ⟨_, rfl, r⟩
theorem Vals.zero : ∀ {us : List Value}, Vals [] us → us = []
  | _, .nil => rfl
theorem Vals.dropLast {xs : List V} {us : List Value} (h : Vals xs us) : Vals xs.dropLast us.dropLast := by
  induction h with
  | nil => exact .nil
  | cons r t ih =>
    cases t with
    | nil => exact .nil
    | cons q t' => exact .cons r ih
theorem Vals.reverse {xs : List V} {us : List Value} (h : Vals xs us) : Vals xs.reverse us.reverse := by
  induction h with
  | nil => exact .nil
  | cons r t ih => rw [List.reverse_cons, List.reverse_cons]; exact Vals.append ih (.cons r .nil)
theorem erase_last {α : Type} (l : List α) : l.eraseIdx (l.length - 1) = l.dropLast := by
  induction l with
  | nil => rfl
  | cons a r ih =>
    cases r with
    | nil => rfl
    | cons b r =>
      have e : (a :: b :: r).length - 1 = ((b :: r).length - 1) + 1 := by
        have h1 : (a :: b :: r).length = r.length + 2 := rfl
        have h2 : (b :: r).length = r.length + 1 := rfl
        omega
      rw [e, List.eraseIdx_cons_succ, ih]
      all_goals rfl
section
variable {X : Cx} {pins : List (Addr × Obj)} {σ : St} {H : Hp} {s : Shared} {l b : Addr} {xs ys zs : List V}

/-! ### the two steps: a tracked list is rewritten, a new list is laid -/
theorem Inv.lset {its its' : List Value} {n : Nat} {f : Array Value → Array Value} {t' : Nat} (I : Inv X pins σ H s) (hH : H l = some (.lst xs))
    (e : s.heap.get? l = some { cls := .type "list", data := .seq its.toArray n }) (hf : f its.toArray = its'.toArray) (hv : Vals ys its') (hz : ys.length ≤ sizeLine) :
    Inv X pins σ (upd H l (.lst ys)) { s with heap := s.heap.update l (Obj.mapSeq f), toks := t' } := by
  have q := PySem.IsL.update e f
  rw [hf] at q
  refine I.write (x := l) (e := l) (by rw [hH]; exact trivial) (.inl rfl) (fun b' u hb hu => (Heap.get?_update_other s.heap (Obj.mapSeq f) (Ne.symm hb)).trans hu) ⟨_, q⟩ ?_
  exact ⟨hz, its', _, hv, q⟩
theorem Inv.lnew {its : List Value} {t' : Nat} (I : Inv X pins σ H s) (hv : Vals ys its) (hz : ys.length ≤ sizeLine) :
    Inv X pins σ (upd H s.heap.objs.size (.lst ys)) { s with heap := s.heap.push { cls := .type "list", data := .seq its.toArray }, toks := t' } :=
  I.laid (fun _ _ q => Heap.get?_push_of_some _ q) (Nat.le_refl _) ⟨hz, its, 0, hv, Heap.get?_push_size _ rfl⟩
theorem Inv.fresh (I : Inv X pins σ H s) : H s.heap.objs.size = none := I.hok.fresh (Nat.le_refl _)
theorem Inv.lstM (I : Inv X pins σ H s) (hH : H l = some (.lst xs)) : xs.length ≤ sizeLine ∧ ∃ (its : List Value) (n : Nat), Vals xs its ∧ xs.length = its.length ∧ s.heap.get? l = some { cls := .type "list", data := .seq its.toArray n } := by
  obtain ⟨z, its, n, r, e⟩ := I.hok l _ hH
  exact ⟨z, its, n, r, r.length, e⟩

theorem notLongL {n : Nat} (h : n ≤ sizeLine) : Builtin.List.listTooLong n = false := by
  unfold Builtin.List.listTooLong
  exact decide_eq_false (by omega)
end

section
variable {X : Cx}

/-! ### methods -/
def rAppend : V → List V → Hp → VK → Prop := fun x vs H Q => ∃ l xs y, x = .ref l ∧ vs = [y] ∧ H l = some (.lst xs) ∧ xs.length < sizeLine ∧ Q .non (upd H l (.lst (xs ++ [y])))
theorem mt_append : MtM X "list.append" rAppend := by
  intro pins s σ H x vs v us Q I rx rv h
  obtain ⟨l, xs, y, rfl, rfl, hH, hz, q⟩ := h
  cases rx
  obtain ⟨u, rfl, ru⟩ := rv.one
  obtain ⟨z, its, n, r, hl, e⟩ := I.lstM hH
  refine call_meets F.slot_list_append ⟨_, e, rfl⟩ F.entry_list_append (F.args_list_append_2 _ _) (PySem.list_append l its.toArray n u (by rw [List.size_toArray]; omega)) ⟨e, ?_⟩
  refine ⟨.non, _, I.lset (its' := its ++ [u]) hH e (by simp) (r.append (.cons ru .nil)) ?_, rfl, q⟩
  rw [List.length_append, List.length_singleton]
  omega

def rExtend : V → List V → Hp → VK → Prop := fun x vs H Q => ∃ l b xs zs, x = .ref l ∧ vs = [.ref b] ∧ H l = some (.lst xs) ∧ H b = some (.lst zs) ∧ xs.length + zs.length ≤ sizeLine ∧ Q .non (upd H l (.lst (xs ++ zs)))
theorem mt_extend : MtM X "list.extend" rExtend := by
  intro pins s σ H x vs v us Q I rx rv h
  obtain ⟨l, b, xs, zs, rfl, rfl, hH, hB, hz, q⟩ := h
  cases rx
  obtain ⟨u, rfl, ru⟩ := rv.one
  cases ru
  obtain ⟨z, its, n, r, hl, e⟩ := I.lstM hH
  obtain ⟨z2, its2, n2, r2, hl2, e2⟩ := I.lstM hB
  have hsz : its.toArray.size + its2.toArray.size ≤ sizeLine := by rw [List.size_toArray, List.size_toArray]; omega
  have hlong : ¬ (!its.toArray.isEmpty && Builtin.List.listTooLong (its.toArray.size + its2.toArray.size)) = true := by
    rw [notLongL hsz, Bool.and_false]
    exact Bool.false_ne_true
  refine call_meets F.slot_list_extend ⟨_, e, rfl⟩ F.entry_list_extend (F.args_list_extend_2 _ _)
    (AutoSeq1.list_extend_list_list_0 l its.toArray n b its2.toArray n2 hlong (by rw [List.size_toArray]; omega) (by omega)) ⟨e, e2, ?_⟩
  refine ⟨.non, _, I.lset (its' := its ++ its2) hH e (by simp) (r.append r2) ?_, rfl, q⟩
  rw [List.length_append]
  omega

def rPop : V → List V → Hp → VK → Prop := fun x vs H Q => ∃ l xs y, x = .ref l ∧ vs = [] ∧ H l = some (.lst xs) ∧ xs[xs.length - 1]? = some y ∧ Q y (upd H l (.lst xs.dropLast))
theorem mt_pop : MtM X "list.pop" rPop := by
  intro pins s σ H x vs v us Q I rx rv h
  obtain ⟨l, xs, y, rfl, rfl, hH, hy, q⟩ := h
  cases rx
  have hus := rv.zero
  subst hus
  obtain ⟨z, its, n, r, hl, e⟩ := I.lstM hH
  obtain ⟨u, hu, ru⟩ := r.get hy
  have hy' : its.toArray[its.toArray.size - 1]? = some u := by
    show its.toArray[its.length - 1]? = some u
    rw [← Array.getElem?_toList, ← hl]
    exact hu
  refine call_meets F.slot_list_pop ⟨_, e, rfl⟩ F.entry_list_pop (F.args_list_pop_1 _) (MeetsSeq.list_pop_last l its.toArray n u hy' (by rw [List.size_toArray]; omega)) ⟨e, ?_⟩
  refine ⟨y, _, I.lset (its' := its.dropLast) hH e ?_ r.dropLast ?_, ru, q⟩
  · show its.toArray.eraseIdxIfInBounds (its.toArray.size - 1) = its.dropLast.toArray
    rw [List.size_toArray, List.eraseIdxIfInBounds_toArray, erase_last]
  · rw [List.length_dropLast]
    omega

/-! ### list + list, list += list, list * int -/
def rCat : R2 := fun x y H Q => ∃ l b xs zs, x = .ref l ∧ y = .ref b ∧ H l = some (.lst xs) ∧ H b = some (.lst zs) ∧ xs.length + zs.length ≤ sizeLine ∧ ∀ p, H p = none → Q (.ref p) (upd H p (.lst (xs ++ zs)))
theorem op_cat : OpR X (binaryOp .Add) rCat := by
  intro pins s σ H x y v u Q I rx ry h
  obtain ⟨l, b, xs, zs, rfl, rfl, hH, hB, hz, q⟩ := h
  cases rx
  cases ry
  obtain ⟨z, its, n, r, hl, e⟩ := I.lstM hH
  obtain ⟨z2, its2, n2, r2, hl2, e2⟩ := I.lstM hB
  refine PySem.P.add_list e e2 ?_ (by rw [List.size_toArray, List.size_toArray]; omega)
  have ea : its.toArray ++ its2.toArray = (its ++ its2).toArray := by simp
  rw [ea]
  exact ⟨.ref _, _, I.lnew (t' := s.toks) (r.append r2) (by rw [List.length_append]; omega), rfl, q _ I.fresh⟩
/-! ### del xs[i] -/
end

/-! ### xs[a:b] = ys -/
section
variable {prog : Program} {w : World} {A : Around} {E : Value → Shared → Prop} {s : Shared}
end

section
variable {X : Cx}
end
end L2

namespace Att
open PySem PySem.W PySem.Calls PyProof.Rows

/-! ### the script -/
theorem ints_of_wellAll {P : Params} {h : Heap} : ∀ (ns : List Int) (vs : List Value), WellAll P h vs (ns.map WData.int) → IntsAre vs ns := by
  intro ns
  induction ns with
  | nil =>
    intro vs w
    rw [List.map_nil] at w
    cases w
    exact .nil
  | cons n ns ih =>
    intro vs w
    rw [List.map_cons] at w
    cases w with
    | cons a b =>
      cases a
      exact .cons _ _ (ih _ b)

theorem script_of {l : OpenLaw} {n : Nat} (hn : l.most = some n) {P : Params} {h : Heap} {args : List WData} {vals : List Value}
    (hpre : l.row.toRowW.claim.pre args = true) (hwl : WellAll P h vals args) :
    ∃ a vs ns, vals = [Value.ref a] ∧ args = [WData.list (ns.map WData.int)] ∧ h.get? a = some { cls := .type "list", data := .seq vs.toArray } ∧ IntsAre vs ns ∧ ns.length ≤ n := by
  have hsh : WShape.hasAll [] args [.list .int] = true := (pre_splitW hpre).1
  have hc : l.pre.holds [] { args := args } = true := (pre_splitW hpre).2
  obtain ⟨d, r, rfl, h1, h2⟩ := hasAllW_cons hsh
  obtain rfl := hasAllW_nil h2
  obtain ⟨xs, rfl, h3⟩ := hasW_list h1
  obtain ⟨ns, rfl⟩ := items_int h3
  have hlen : ns.length ≤ n := by
    unfold OpenLaw.pre at hc
    have h4 : (WTm.not (.lt (.lit (.int (n : Int))) (.len (.arg 0)))).holds [] { args := [.list (ns.map .int)] } = true := by
      have h4 := (holds_andW hc).1
      rw [hn] at h4
      exact h4
    have h5 := condW_of h4 (w_not (w_lt w_lit (w_len_list (w_arg rfl))))
    rw [List.length_map] at h5
    refine Nat.le_of_not_lt fun q => ?_
    have q' : (n : Int) < ((ns.length : Nat) : Int) := by omega
    first
      | (rw [decide_eq_true q'] at h5; exact absurd h5 (by decide))
      | (simp at h5; omega)
  cases hwl with
  | cons w1 w2 =>
    cases w2
    cases w1 with
    | list ho hall => exact ⟨_, _, ns, rfl, rfl, ho, ints_of_wellAll ns _ hall, hlen⟩

theorem post_true (l : OpenLaw) (args : List WData) : l.row.toRowW.claim.post args (.bool true) args = true :=
  postW_of (r := l.row.toRowW) (X := (true == true))
    (show WShape.has [] (.bool true) .bool = true by first | rfl | decide | simp [WShape.has, WShape.arms, WShape.armsAll])
    (show (WTm.eq .res (.lit (.bool true))).value [] { args := args, res := some (.bool true), after := args } = some (.bool (true == true)) from w_eq_bool (w_res rfl) w_lit) rfl

/-! ### the attachment: holds_open's last premise (the goal 'hc' behind k_head) from a wpAny of the law's body -/
/-- the same from a codeAny of the CALL (for a layer whose function contracts speak of calls) -/
theorem attach_call {l : OpenLaw} {n : Nat} {q : Program} {loose : List Str} {XP : (Str → Option Value) → Heap → Prop} {YP : World → Heap → Prop} {d : DefRec}
    (hn : l.most = some n) (hdf : d.params.defaults = [])
    (call : ∀ (w : World) (s₀ s₁ : Shared) (mg mb : Str → Option Value) (fa : Addr) (o : Obj) (pm cd doc : Value) (a : Addr) (vs : List Value) (ns : List Int),
      Ground q loose [] XP w s₀ mg mb s₁.heap → YP w s₁.heap →
      s₁.heap.get? fa = some o → o.data = .func (docDef d.name d.params d.body d.scope pm cd doc) → s₁.heap.CodeRec cd d.name → mg d.name = some (.ref fa) →
      s₁.heap.get? a = some { cls := .type "list", data := .seq vs.toArray } → IntsAre vs ns → ns.length ≤ n → s₁.gens = #[] →
      codeAny (model l.prog w) callerA (.call (.ref fa) ⟨[.ref a], []⟩) (fun r s' => r = .ok (.ret (.bool true)) ∧ OldK s₁.heap s'.heap ∧ s'.os = s₁.os ∧ AllBare s'.gens) s₁) :
    WalkO q loose XP YP l.row.toRowW d [] (fun f vs => PySem.call f vs) := by
  intro w s₀ s₁ mg mb G Y fa o pm cd doc dV kV ho hd hcd hD hmg hg args vals as hpre hlay hrd hwl hlo
  obtain rfl : dV = .none := Dflts.none hD hdf
  obtain rfl : kV = .none := Dflts.noKw hD
  obtain ⟨a, vs, ns, rfl, rfl, hobj, hints, hlen⟩ := script_of hn hpre hwl
  refine enter_call (codeAny_mono (call w s₀ s₁ mg mb fa o pm cd doc a vs ns G Y ho (fd_plain hd) hcd hmg hobj hints hlen hg) fun r s' hq => ?_)
  obtain ⟨rfl, h2, h3, h4⟩ := hq
  exact ⟨.inl ⟨.bool true, .bool true, [], rfl, fun _ => rfl, .bool true, post_true l _, fun _ => ⟨List.Pairwise.nil, fun _ hm => (nomatch hm)⟩⟩, h2, h3, h4⟩

/-! ### rules over ANY heap (no ledger) from facts about the written part K: the library's own take a ledger (News) for what they write -/
section
variable {prog : Program} {w : World} {A : Around} {E : Value → Shared → Prop} {s : Shared} {K : Frag}

/-! the whole heap as the ledger: makes every rule that writes through a ledger a rule over any heap -/
def ledger (h : Heap) (L d : Addr) : List (Addr × Obj) := (List.range h.objs.size).filterMap fun a => if a = L ∨ a = d then none else (h.get? a).map fun o => (a, o)
end
end Att

namespace L2
open PySem PySem.Spec PyProof.Rows

theorem vals_ints : ∀ {vs : List Value} {ns : List Int}, IntsAre vs ns → Vals (ns.map V.int) vs
  | _, _, .nil => .nil
  | _, _, .cons n t h => .cons ⟨t, rfl⟩ (vals_ints h)

/-- nothing is tracked but the script, known to the object (or it is an object of the module) -/
def Only (H : Hp) : Prop := ∀ b, H b = none ∨ ∃ o xs, H b = some (.frz o (.lst xs))

/-- THE HEAD: the law's promise, at the heap behind the top. F, the promise of the law's def, may use that base is part of the heap (so K.In base, base.Ns mainGlobals mg stand in Mod) -/
theorem law_call {P : Program} {w : World} {K : PySem.W.Frag} {mg mb : Str → Option Value} {CX : CXT} {k : Nat} {fa a : Addr} {fd : FuncData} {x : Str} {sp : Sp} {s₁ : Shared} {vs : List Value} {ns : List Int}
    (KX : K.In s₁.heap) (hns : s₁.heap.Ns mainGlobals mg) (hb : s₁.heap.Ns builtinsNs mb) (hbb : ∀ x : Str, x ≠ "__name__" → mb x = bootBuiltins x) (hlim : s₁.heap.NoLimit) (hseer : s₁.heap.NoSeer) (hg : s₁.gens = #[])
    (ha : s₁.heap.get? a = some { cls := .type "list", data := .seq vs.toArray }) (hi : IntsAre vs ns) (hl : ns.length ≤ sizeLine) (hr : Room k callerA)
    (F : ∀ base : Heap, K.In base → base.Ns mainGlobals mg → FnOk P w K mg base CX k fa fd [x] sp) (hbind : ∀ (s : Shared) (u : Value), BindsTo s fd ⟨[u], []⟩ [(x, u)])
    (hsp : ∀ H : Hp, Only H → SqL K H a (ns.map V.int) → sp [.ref a] H (fun v _ => v = .bl true) fun _ _ _ => False)
    (hCX : ∀ H e s', CX [] H s₁ (fun _ _ _ => False) e s' → False) :
    codeAny (model P w) callerA (.call (.ref fa) ⟨[.ref a], []⟩) (fun r s' => r = .ok (.ret (.bool true)) ∧ OldK s₁.heap s'.heap ∧ s'.os = s₁.os ∧ AllBare s'.gens) s₁ := by
  have rv := vals_ints hi
  have lenV := hi.length
  -- from an abstract heap in which nothing but the script may be tracked
  have core : ∀ H : Hp, Only H → SqL K H a (ns.map V.int) → HOk P w H s₁.heap → (∀ b, H b ≠ none → b = a) → (H a ≠ none → K.lookup a = none) →
      codeAny (model P w) callerA (.call (.ref fa) ⟨[.ref a], []⟩) (fun r s' => r = .ok (.ret (.bool true)) ∧ OldK s₁.heap s'.heap ∧ s'.os = s₁.os ∧ AllBare s'.gens) s₁ := by
    intro H hO hS hok hA hK
    have base_of : ∀ {b : Addr} {o : Obj}, s₁.heap.get? b = some o → H b = none → (hidT s₁.heap H).get? b = some o := fun e n => hidT_get e n
    have noA : ∀ {b : Addr} {o : Obj} {es : Array DictEntry} {ep : Nat}, s₁.heap.get? b = some o → o.data = .dict es ep → H b = none := fun {b o es ep} e d => by
      cases q : H b with
      | none => rfl
      | some u =>
        have e' : b = a := hA b (by rw [q]; simp)
        subst e'
        rw [ha] at e; cases e
        have d' : Data.seq vs.toArray _ = Data.dict es ep := d
        cases d'
    have nsK : ∀ {b : Addr} {m : Str → Option Value}, s₁.heap.Ns b m → (hidT s₁.heap H).Ns b m := fun {b m} ⟨o, es, ep, e, d, r⟩ => ⟨o, es, ep, base_of e (noA e d), d, r⟩
    have hKb : K.In (hidT s₁.heap H) := fun b o e => base_of (KX b o e) (by
      cases q : H b with
      | none => rfl
      | some u =>
        have e' : b = a := hA b (by rw [q]; simp)
        subst e'
        rw [hK (by rw [q]; simp)] at e; cases e)
    have hSeer : (hidT s₁.heap H).NoSeer := {
      statics := let ⟨mc, a1, b1⟩ := hseer.statics; ⟨mc, nsK a1, b1⟩
      mods := let ⟨mc, a1, b1⟩ := hseer.mods; ⟨mc, nsK a1, b1⟩
      imp := let ⟨mc, a1, b1⟩ := hseer.imp; ⟨mc, nsK a1, b1⟩
      main := let ⟨mg', bm, ob, a1, b1, c1, d1, e1⟩ := hseer.main; ⟨mg', bm, ob, nsK a1, b1, base_of c1 (by
        cases q : H bm with
        | none => rfl
        | some u =>
          have e' : bm = a := hA bm (by rw [q]; simp)
          subst e'
          rw [ha] at c1; cases c1
          injection d1 with d2
          exact absurd d2 (by decide)), d1, e1⟩ }
    have hM : Mod K mg (hidT s₁.heap H) := ⟨hKb, nsK hns, ⟨mb, nsK hb, hbb⟩, let ⟨mc, h1, h2⟩ := hlim; ⟨mc, nsK h1, h2⟩, hSeer⟩
    have e0 : Env0 P w K mg (hidT s₁.heap H) callerA [] s₁ H := ⟨rfl, hM, fun b o e => of_hidT e, Nat.le_of_eq (hidT_size _ _), trivial, fun b hb => absurd (show b ∈ ([] : List Addr) from hb) (by simp), hok, .of_eq hg⟩
    refine codeAny_mono ((F _ hKb (nsK hns)).run callerA [] s₁ H ⟨[.ref a], []⟩ [.ref a] [.ref a] _ _ hr e0 (hbind s₁ (.ref a)) (.cons rfl .nil) (hsp H hO hS)) fun r s' h => ?_
    cases r with
    | error e => exact (hCX H e s' h).elim
    | ok fl =>
      cases fl with
      | next => exact False.elim h
      | brk => exact False.elim h
      | cont => exact False.elim h
      | ret u =>
        obtain ⟨v, H', os, bare, un, hok', r', q⟩ := h
        have q' : v = .bl true := q
        subst q'
        obtain rfl : u = Value.bool true := r'
        refine ⟨rfl, OldK.of_keep fun b o e => ?_, os, bare⟩
        cases q : H b with
        | none => exact un.keep b o e q (by intro z; exact absurd (show b ∈ ([] : List Addr) from z) (by simp)) (by simp)
        | some u =>
          rcases hO b with z | ⟨ob, xs, z⟩
          · rw [q] at z; cases z
          · have z2 := un.frzs b ob _ z
            obtain ⟨e1, _⟩ := hok b _ z
            obtain ⟨e2, _⟩ := hok' b _ z2
            rw [e] at e1; cases e1
            exact e2
  cases hk : K.lookup a with
  | some o =>
    -- the script is one of the module's own objects
    have e := KX a o hk
    rw [ha] at e
    cases e
    refine core (fun _ => none) (fun _ => .inl rfl) (.inr ⟨_, vs.toArray, _, hk, rfl, rfl, rfl, by rw [List.size_toArray, lenV]; exact hl, by simpa using rv⟩) (fun b u z => by have z' : (none : Option HO) = some u := z; cases z') (fun b z => absurd rfl z) fun z => absurd rfl z
  | none =>
    refine core (fun b => if b = a then some (.frz { cls := .type "list", data := .seq vs.toArray } (.lst (ns.map V.int))) else none) (fun b => ?_) (.inl (.inr ⟨{ cls := .type "list", data := .seq vs.toArray }, if_pos rfl⟩)) (fun b u z => ?_) (fun b z => ?_) fun _ => hk
    · by_cases hb : b = a
      · exact .inr ⟨_, _, if_pos hb⟩
      · exact .inl (if_neg hb)
    · by_cases hb : b = a
      · have z' := (if_pos hb).symm.trans z
        cases z'
        subst hb
        exact ⟨ha, by rw [List.length_map]; exact hl, vs, _, rv, ha⟩
      · have z' := (if_neg hb).symm.trans z
        cases z'
    · by_cases hb : b = a
      · exact hb
      · exact absurd (if_neg hb) z
end L2

namespace L2
open PySem PySem.Spec PyProof.Rows

/-- the goal that k_head leaves (case hc), from the law's promise. F gives the function object fd (K's own) once, then the promise over every base -/
theorem walk_of {l : PySem.W.OpenLaw} {n k : Nat} {q : Program} {loose : List Str} {XP : (Str → Option Value) → Heap → Prop} {YP : World → Heap → Prop} {d : DefRec} {K : Params → PySem.W.Frag} {CX : World → CXT} {sp : World → Sp} {x : Str}
    (hq : importsNone q = true) (hn : l.most = some n) (hn2 : n ≤ sizeLine) (hdf : d.params.defaults = []) (hr : Room k callerA)
    (hY : ∀ (w : World) (h : Heap), YP w h → (K w.params).In h)
    (F : ∀ (w : World) (mg : Str → Option Value) (fa : Addr) (h : Heap), (K w.params).In h → h.Ns mainGlobals mg → mg d.name = some (.ref fa) →
      ∃ fd : FuncData, (∀ (s : Shared) (u : Value), BindsTo s fd ⟨[u], []⟩ [(x, u)]) ∧
        ∀ base : Heap, (K w.params).In base → base.Ns mainGlobals mg → FnOk l.prog w (K w.params) mg base (CX w) k fa fd [x] (sp w))
    (hsp : ∀ (w : World) (H : Hp) (a : Addr) (ns : List Int), ns.length ≤ n → Only H → SqL (K w.params) H a (ns.map V.int) → sp w [.ref a] H (fun v _ => v = .bl true) fun _ _ _ => False)
    (hCX : ∀ (w : World) (H : Hp) (s : Shared) (e : Value) (s' : Shared), CX w [] H s (fun _ _ _ => False) e s' → False) :
    PySem.W.WalkO q loose XP YP l.row.toRowW d [] (fun f vs => PySem.call f vs) := by
  refine Att.attach_call hn hdf fun w s₀ s₁ mg mb fa o pm cd doc a vs ns G Y ho hd hcd hmg hobj hints hlen hg => ?_
  have KX := hY w _ Y
  obtain ⟨fd, hb, hF⟩ := F w mg fa _ KX G.T.g hmg
  exact law_call KX G.T.g G.T.b G.T.builtins G.T.nolimit (G.T.seer hq) hg hobj hints (Nat.le_trans hlen hn2) hr hF hb (fun H hO hS => hsp w H a ns hlen hO hS) fun H e s' => hCX w H s₁ e s'
end L2

/- THE LAST THEOREM (shape; LID, My.* are yours):
   My.Adr: a structure of the addresses that your layer names (classes, functions); My.Txt K t: a structure (Prop) of the equations over K;
   My.txt_mk : {K} {implicit addresses ..} (e1 : nsIn K mainGlobals "law" = some (some (.ref f))) (e2 : K.lookup f = some ⟨oc, od, .func (fnOf "law" "law" params body scope dV kV doc pm an cdv ct), sl⟩) (e3 : codeIn K cdv "law" = true) .. : ∃ t, My.Txt K t

(the tactic k_is has no namespace: write k_is) -/

/-! SHORT WORDS over the layer: a def of the text, its body, what a loop and a test want. -/
namespace L2
open PySem PySem.Spec PyProof.Rows

/-! ### the text by places -/
def defArgs (s : Stmt) : Arguments := match s with
  | .FunctionDef _ a _ _ _ _ _ _ _ _ => a
  | _ => { posonlyargs := [], args := [], vararg := none, kwonlyargs := [], kw_defaults := [], kwarg := none, defaults := [] }
def defBody (s : Stmt) : List Stmt := match s with
  | .FunctionDef _ _ b _ _ _ _ _ _ _ => b
  | _ => []
def defScope (s : Stmt) : Scope := match s with
  | .FunctionDef _ _ _ _ _ _ sc _ _ _ => sc
  | _ => { kind := .function, names := [], isGenerator := false, isCoroutine := false }

/-! ### no exception leaves a def -/
abbrev CX0 : CXT := fun _ _ _ _ _ _ => False
abbrev E0 : XK := fun _ _ _ => False
theorem pass0 {X : Cx} : Passes CX0 X E0 := fun _ _ _ _ _ _ _ h => h.elim

/-! ### a def (or method) of the text as it stands behind the top -/
structure Fun (K : PySem.W.Frag) (x qual : Str) (st : Stmt) (f : Addr) (fd : FuncData) : Prop where
  ex : ∃ (oc : Value) (od : Option Addr) (kV doc pm : Value) (an : Option Addr) (cdv ct : Value) (osl : Array (Option Value)),
    fd = PySem.W.fnOf x qual (defArgs st) (defBody st) (defScope st) .none kV doc pm an cdv ct ∧ K.lookup f = some ⟨oc, od, .func fd, osl⟩ ∧ PySem.W.codeIn K cdv qual = true
  kp : PySem.W.keepIn K (.ref f) = true
section
variable {P : Program} {w : World} {K : PySem.W.Frag} {mg : Str → Option Value} {base : Heap}
/-- THE RULE for a def: its body as a term of rules, and the reading of that term -/
theorem Fun.ok {x qual : Str} {st : Stmt} {f : Addr} {fd : FuncData} {N ps : List Str} {k : Nat} {sp : Sp} (F : Fun K x qual st f fd) (S : FnScope N ps (defScope st)) (len : ∀ vs H Q E, sp vs H Q E → vs.length = ps.length)
    (hbody : ∀ (cdv : Value) (A : Around) (outer : List Env) (s : Shared) (H : Hp) (vs : List V) (Q : VK) (E : XK), Room k (A.deeper (envOfC qual (defScope st) s.heap.objs.size f cdv)) → sp vs H Q E →
      ∃ t, PSs (cxOf CX0 P w K mg base N qual (defScope st) f cdv A outer s H E).nox (defBody st) t ∧ t { nx := fun _ H' => Q .non H', rt := Q } (start N vs) H) : FnOk P w K mg base CX0 (k + 1) f fd ps sp := by
  obtain ⟨oc, od, kV, doc, pm, an, cdv, ct, osl, rfl, lk, hcd⟩ := F.ex
  refine fn_of lk hcd S len fun A outer s H vs Q E hr hsp => ?_
  obtain ⟨t, h, q⟩ := hbody cdv A outer s H vs Q E hr hsp
  exact ⟨t, h.nox, q⟩
/-- how its arguments bind (no defaults): h is «fun _ _ _ _ _ _ us hl => match us, hl with | [_, _], _ => rfl», one _ a parameter -/
theorem Fun.binds {x qual : Str} {st : Stmt} {f : Addr} {fd : FuncData} {ps : List Str} (F : Fun K x qual st f fd)
    (h : ∀ (kV doc pm : Value) (an : Option Addr) (cdv ct : Value) (us : List Value), us.length = ps.length → bindArgs (PySem.W.fnOf x qual (defArgs st) (defBody st) (defScope st) .none kV doc pm an cdv ct) ⟨us, []⟩ = pure (ps.zip us)) : Binds K fd ps [] := by
  obtain ⟨oc, od, kV, doc, pm, an, cdv, ct, osl, rfl, lk, hcd⟩ := F.ex
  exact .all (h kV doc pm an cdv ct)
theorem fun_mk {x qual : Str} {st : Stmt} {f : Addr} {oc : Value} {od an : Option Addr} {osl : Array (Option Value)} {kV doc pm cdv ct : Value} (l : K.lookup f = some ⟨oc, od, .func (PySem.W.fnOf x qual (defArgs st) (defBody st) (defScope st) .none kV doc pm an cdv ct), osl⟩)
    (c : PySem.W.codeIn K cdv qual = true) (k : PySem.W.keepIn K (.ref f) = true) : Fun K x qual st f (PySem.W.fnOf x qual (defArgs st) (defBody st) (defScope st) .none kV doc pm an cdv ct) := ⟨⟨oc, od, kV, doc, pm, an, cdv, ct, osl, rfl, l, c⟩, k⟩
end
/-! ### expressions in short: the name that stands in the i-th slot -/
section
variable {X : Cx}
theorem pv (i : Nat) {x : Str} {pos : Pos} (hN : X.N[i]? = some x := by rfl) (hv : Vis X.env.scope x := by first | exact Or.inl rfl | exact Or.inr (Or.inl rfl) | exact Or.inr (Or.inr rfl)) (hd : (x == ("__debug__" : Str)) = false := by decide)
    (hcd : (x == ("__classdict__" : Str)) = false := by decide) : PE X (.Name x pos) (tVar i) := pe_var hN hv hd hcd
end

/-! ### tests -/
/-! ### heaps -/
/-- all that was tracked is as it was -/
def Same (H H' : Hp) : Prop := ∀ b o, H b = some o → H' b = some o
theorem Same.refl (H : Hp) : Same H H := fun _ _ h => h
theorem Same.trans {H H1 H2 : Hp} (a : Same H H1) (b : Same H1 H2) : Same H H2 := fun c o h => b c o (a c o h)
theorem Same.free {H H' : Hp} (e : Same H H') {l : Addr} (h : H' l = Option.none) : H l = Option.none := by
  cases q : H l with
  | none => rfl
  | some o =>
    rw [e l o q] at h
    cases h
theorem Same.seq {K : PySem.W.Frag} {H H' : Hp} {a : Addr} {xs : List V} (e : Same H H') (h : SqL K H a xs) : SqL K H' a xs := by
  rcases h with (h | ⟨o, h⟩) | h
  · exact .inl (.inl (e _ _ h))
  · exact .inl (.inr ⟨o, e _ _ h⟩)
  · exact .inr h

end L2

set_option linter.all false
set_option maxRecDepth 100000
/-! Plain data over the abstract heap: a frozen part F of the heap bears the values, lists of a def's own stand outside of it. -/
namespace L2.EV
open PySem PySem.Spec PyProof.Rows

inductive D where
  | non | bl (b : Bool) | int (i : Int) | str (x : Str) | tup (xs : List D) | lst (xs : List D) | scr (ns : List Int) | exc (C : Addr) | exh (C ea : Addr) | dic (kvs : List (List Int × Int)) | adr (p : Addr) | stt (q : Addr)

/-- an exception of the class at C stands there, and bears no other one -/
def excAt (a C : Addr) : Heap → Prop := fun h => ∃ ob vs, h.get? a = some ob ∧ ob.cls = .ref C ∧ ob.data = .fields vs ∧ vs[2]? = some .none

/-- the object of a dict whose keys are tuples of ints at known addresses and whose values are ints -/
def dcObj (o : Obj) (xs : List (List Int × Addr × Int)) : Prop := o.ExactDict ∧ ∃ (es : Array DictEntry) (ep : Nat) (ys : List (List Int × Addr × Value)), o.data = .dict es ep ∧ (∀ (P : Program) (w : World), es.toList = ys.map (entryOfKey (tupleKind (intKind P w)))) ∧
  Paired (fun (x : List Int × Addr × Int) (y : List Int × Addr × Value) => y.1 = x.1 ∧ y.2.1 = x.2.1 ∧ RelV (.int x.2.2) y.2.2) xs ys ∧ (ys.map (·.1)).Nodup
def dcAt (a : Addr) (xs : List (List Int × Addr × Int)) : Heap → Prop := fun h => xs.length ≤ sizeLine ∧ (a == sysModules) = false ∧ ∃ o, h.get? a = some o ∧ dcObj o xs
/-- what it means: its keys stand frozen -/
def DicR (F : Hp) (kvs : List (List Int × Int)) (xs : List (List Int × Addr × Int)) : Prop := kvs = xs.map (fun x => (x.1, x.2.2)) ∧ ∀ x ∈ xs, F x.2.1 = some (.tup (x.1.map V.int))
theorem DicR.mono {F F' : Hp} {kvs : List (List Int × Int)} {xs : List (List Int × Addr × Int)} (h : Same F F') (r : DicR F kvs xs) : DicR F' kvs xs := ⟨r.1, fun x hx => h _ _ (r.2 x hx)⟩

mutual
inductive Rep (K : PySem.W.Frag) (F : Hp) : V → D → Prop where
  | non : Rep K F .non .non
  | bl (b : Bool) : Rep K F (.bl b) (.bl b)
  | int (i : Int) : Rep K F (.int i) (.int i)
  | str (x : Str) : Rep K F (.str x) (.str x)
  | tup {a : Addr} {vs : List V} {ds : List D} : F a = some (.tup vs) → RepL K F vs ds → Rep K F (.ref a) (.tup ds)
  | lst {a : Addr} {vs : List V} {ds : List D} : F a = some (.lst vs) → RepL K F vs ds → Rep K F (.ref a) (.lst ds)
  | scr {a : Addr} {ns : List Int} : SqL K F a (ns.map V.int) → Rep K F (.ref a) (.scr ns)
  | exc {a C : Addr} {ob : Obj} : F a = some (.frz ob (.ext (excAt a C))) → Rep K F (.ref a) (.exc C)
  | exh {a C : Addr} {ob : Obj} : F a = some (.frz ob (.ext (excAt a C))) → Rep K F (.ref a) (.exh C a)
  | dic {a : Addr} {ob : Obj} {kvs : List (List Int × Int)} {xs : List (List Int × Addr × Int)} : F a = some (.frz ob (.ext (dcAt a xs))) → DicR F kvs xs → Rep K F (.ref a) (.dic kvs)
  | adr (a : Addr) : Rep K F (.ref a) (.adr a)
  | stt {a q : Addr} : F a = some (.dK [(Sum.inr "xs", .ref q)]) → Rep K F (.ref a) (.stt q)
inductive RepL (K : PySem.W.Frag) (F : Hp) : List V → List D → Prop where
  | nil : RepL K F [] []
  | cons {v : V} {d : D} {vs : List V} {ds : List D} : Rep K F v d → RepL K F vs ds → RepL K F (v :: vs) (d :: ds)
end

section
variable {K : PySem.W.Frag} {F F' : Hp}
mutual
theorem Rep.mono (h : Same F F') : ∀ {v : V} {d : D}, Rep K F v d → Rep K F' v d
  | _, _, .non => .non
  | _, _, .bl b => .bl b
  | _, _, .int i => .int i
  | _, _, .str x => .str x
  | _, _, .tup e r => .tup (h _ _ e) (RepL.mono h r)
  | _, _, .lst e r => .lst (h _ _ e) (RepL.mono h r)
  | _, _, .scr e => .scr (h.seq e)
  | _, _, .exc e => .exc (h _ _ e)
  | _, _, .exh e => .exh (h _ _ e)
  | _, _, .dic e r => .dic (h _ _ e) (r.mono h)
  | _, _, .adr a => .adr a
  | _, _, .stt e => .stt (h _ _ e)
theorem RepL.mono (h : Same F F') : ∀ {vs : List V} {ds : List D}, RepL K F vs ds → RepL K F' vs ds
  | _, _, .nil => .nil
  | _, _, .cons r t => .cons (Rep.mono h r) (RepL.mono h t)
end
theorem RepL.length : ∀ {vs : List V} {ds : List D}, RepL K F vs ds → vs.length = ds.length
  | _, _, .nil => rfl
  | _, _, .cons _ t => congrArg Nat.succ (RepL.length t)
theorem RepL.get : ∀ {vs : List V} {ds : List D} {i : Nat} {d : D}, RepL K F vs ds → ds[i]? = some d → ∃ v, vs[i]? = some v ∧ Rep K F v d
  | _, _, _, _, .nil, e => by simp at e
  | _, _, 0, _, .cons r _, e => by simp at e; subst e; exact ⟨_, rfl, r⟩
  | _, _, i + 1, d, .cons _ t, e => by
    obtain ⟨v, h1, h2⟩ := RepL.get (i := i) (d := d) t (by simpa using e)
    exact ⟨v, by simpa using h1, h2⟩
theorem RepL.append : ∀ {vs us : List V} {ds es : List D}, RepL K F vs ds → RepL K F us es → RepL K F (vs ++ us) (ds ++ es)
  | _, _, _, _, .nil, s => s
  | _, _, _, _, .cons r t, s => .cons r (RepL.append t s)
theorem RepL.take : ∀ {vs : List V} {ds : List D} (n : Nat), RepL K F vs ds → RepL K F (vs.take n) (ds.take n)
  | _, _, 0, _ => .nil
  | _, _, _ + 1, .nil => .nil
  | _, _, n + 1, .cons r t => .cons r (RepL.take n t)
theorem RepL.drop : ∀ {vs : List V} {ds : List D} (n : Nat), RepL K F vs ds → RepL K F (vs.drop n) (ds.drop n)
  | _, _, 0, r => r
  | _, _, _ + 1, .nil => .nil
  | _, _, n + 1, .cons _ t => RepL.drop n t
theorem RepL.dropLast {vs : List V} {ds : List D} (h : RepL K F vs ds) : RepL K F vs.dropLast ds.dropLast := by
  rw [List.dropLast_eq_take, List.dropLast_eq_take, h.length]
  exact h.take _
theorem RepL.reverse : ∀ {vs : List V} {ds : List D}, RepL K F vs ds → RepL K F vs.reverse ds.reverse
  | _, _, .nil => .nil
  | _, _, .cons r t => by rw [List.reverse_cons, List.reverse_cons]; exact RepL.append (RepL.reverse t) (.cons r .nil)
theorem RepL.ints : ∀ ns : List Int, RepL K F (ns.map V.int) (ns.map D.int)
  | [] => .nil
  | n :: ns => .cons (.int n) (RepL.ints ns)
theorem RepL.of_ints : ∀ {ns : List Int} {vs : List V}, RepL K F vs (ns.map D.int) → vs = ns.map V.int
  | [], _, h => by cases h; rfl
  | n :: ns, _, h => by
    cases h with
    | cons r t => cases r; rw [List.map_cons, RepL.of_ints t]
end

/-- what stood at the def's entry -/
structure B0 where
  F : Hp
  H : Hp

structure Ext (B : B0) (F H : Hp) : Prop where
  sub : Same F H
  sh : Same B.H H
  sf : Same B.F F
  nw : ∀ a, F a ≠ none → B.F a ≠ none ∨ B.H a = none

/-- a name's state: nothing known, a value, a list of the def's own that it may change -/
inductive Sl where
  | un | val (d : D) | own (xs : List D) | dct (kvs : List (List Int × Int))

/-- dicts of the def's own -/
structure DOk (B : B0) (F H : Hp) (σ : St) (ρ : List Sl) : Prop where
  dcts : ∀ (i : Nat) kvs, ρ[i]? = some (.dct kvs) → ∃ a es, σ[i]? = some (some (.ref a)) ∧ H a = some (.ext (dcAt a es)) ∧ F a = none ∧ B.H a = none ∧ DicR F kvs es
  distD : ∀ (i j : Nat) xs ys a, ρ[i]? = some (.dct xs) → ρ[j]? = some (.dct ys) → σ[i]? = some (some (.ref a)) → σ[j]? = some (some (.ref a)) → i = j
theorem DOk.to {B : B0} {F F' H H' : Hp} {σ σ' : St} {ρ ρ' : List Sl} (k : DOk B F H σ ρ) (hF : Same F F') (hH : ∀ a φ, H a = some (.ext φ) → F a = none → B.H a = none → H' a = some (.ext φ) ∧ F' a = none)
    (hρ : ∀ (i : Nat) kvs, ρ'[i]? = some (.dct kvs) → ρ[i]? = some (.dct kvs) ∧ σ'[i]? = σ[i]?) : DOk B F' H' σ' ρ' := by
  refine ⟨fun i kvs e => ?_, fun i j xs ys a e1 e2 e3 e4 => ?_⟩
  · obtain ⟨q, z⟩ := hρ i kvs e
    obtain ⟨a, es, h1, h2, h3, h4, h5⟩ := k.dcts i kvs q
    obtain ⟨g1, g2⟩ := hH a _ h2 h3 h4
    exact ⟨a, es, z.trans h1, g1, g2, h4, h5.mono hF⟩
  · obtain ⟨q1, z1⟩ := hρ i xs e1
    obtain ⟨q2, z2⟩ := hρ j ys e2
    exact k.distD i j xs ys a q1 q2 (z1 ▸ e3) (z2 ▸ e4)
theorem set_dct {σ : St} {ρ : List Sl} {i : Nat} {v : Option V} {s : Sl} (hs : ∀ kvs, s ≠ .dct kvs) (j : Nat) (kvs : List (List Int × Int)) (h : (ρ.set i s)[j]? = some (.dct kvs)) : ρ[j]? = some (.dct kvs) ∧ (σ.set i v)[j]? = σ[j]? := by
  by_cases e : i = j
  · subst e
    rw [List.getElem?_set_self'] at h
    cases z : ρ[i]? with
    | none => rw [z] at h; cases h
    | some w => rw [z] at h; exact absurd (Option.some.inj h) (hs kvs)
  · rw [List.getElem?_set_ne e] at h ⊢
    exact ⟨h, rfl⟩
theorem set_dct' {σ : St} {ρ : List Sl} {i : Nat} {s : Sl} (hs : ∀ kvs, s ≠ .dct kvs) (j : Nat) (kvs : List (List Int × Int)) (h : (ρ.set i s)[j]? = some (.dct kvs)) : ρ[j]? = some (.dct kvs) ∧ σ[j]? = σ[j]? :=
  ⟨(set_dct (σ := []) (v := none) hs j kvs h).1, rfl⟩

structure Ok (K : PySem.W.Frag) (B : B0) (F H : Hp) (σ : St) (ρ : List Sl) : Prop extends Ext B F H where
  len : σ.length = ρ.length
  vals : ∀ (i : Nat) d, ρ[i]? = some (.val d) → ∃ v, σ[i]? = some (some v) ∧ Rep K F v d
  owns : ∀ (i : Nat) xs, ρ[i]? = some (.own xs) → ∃ a vs, σ[i]? = some (some (.ref a)) ∧ H a = some (.lst vs) ∧ F a = none ∧ B.H a = none ∧ RepL K F vs xs
  dist : ∀ (i j : Nat) xs ys a, ρ[i]? = some (.own xs) → ρ[j]? = some (.own ys) → σ[i]? = some (some (.ref a)) → σ[j]? = some (some (.ref a)) → i = j
  dic : DOk B F H σ ρ

theorem upd_sameOf {H : Hp} {p : Addr} {o : HO} (h : H p = none) : Same H (upd H p o) := fun b u q => by rw [upd_ne (ne_of_none q h)]; exact q
theorem upd_mono {F H : Hp} {p : Addr} {o : HO} (h : Same F H) : Same (upd F p o) (upd H p o) := fun b u q => by
  by_cases hb : b = p
  · subst hb; rw [upd_same] at q ⊢; exact q
  · rw [upd_ne hb] at q ⊢; exact h b u q

section
variable {K : PySem.W.Frag} {B : B0} {F H F' H' : Hp} {σ : St} {ρ : List Sl} {p : Addr} {o : HO}
theorem Ext.refl (h : Same F H) : Ext ⟨F, H⟩ F H := ⟨h, .refl _, .refl _, fun a q => .inl q⟩
theorem Ext.trans (x : Ext B F H) (y : Ext ⟨F, H⟩ F' H') : Ext B F' H' :=
  ⟨y.sub, x.sh.trans y.sh, x.sf.trans y.sf, fun a q => by
    rcases y.nw a q with z | z
    · exact x.nw a z
    · exact .inr (x.sh.free z)⟩
/-- a new object of the frozen part -/
theorem Ext.grow (x : Ext B F H) (hp : H p = none) : Ext B (upd F p o) (upd H p o) :=
  ⟨upd_mono x.sub, x.sh.trans (upd_sameOf hp), x.sf.trans (upd_sameOf (x.sub.free hp)), fun a q => by
    by_cases h : a = p
    · subst h; exact .inr (x.sh.free hp)
    · rw [upd_ne h] at q; exact x.nw a q⟩
/-- the heap goes on as Ext says -/
theorem Ok.ext (k : Ok K B F H σ ρ) (y : Ext ⟨F, H⟩ F' H') : Ok K B F' H' σ ρ := by
  refine ⟨k.toExt.trans y, k.len, fun i d e => ?_, fun i xs e => ?_, k.dist, k.dic.to y.sf (fun a φ e1 e2 e3 => ⟨y.sh _ _ e1, ?_⟩) fun _ _ e => ⟨e, rfl⟩⟩
  rotate_left 2
  · cases q : F' a with
    | none => rfl
    | some u =>
      rcases y.nw a (by rw [q]; exact fun z => nomatch z) with z | z
      · exact absurd e2 z
      · have z' : H a = none := z
        rw [e1] at z'; cases z'
  · obtain ⟨v, h1, h2⟩ := k.vals i d e
    exact ⟨v, h1, h2.mono y.sf⟩
  · obtain ⟨a, vs, h1, h2, h3, h4, h5⟩ := k.owns i xs e
    refine ⟨a, vs, h1, y.sh _ _ h2, ?_, h4, h5.mono y.sf⟩
    cases q : F' a with
    | none => rfl
    | some u =>
      rcases y.nw a (by rw [q]; exact fun z => nomatch z) with z | z
      · exact absurd h3 z
      · have z' : H a = none := z
        rw [h2] at z'; cases z'
/-- a new object outside of the frozen part -/
theorem Ok.growH (k : Ok K B F H σ ρ) (hp : H p = none) : Ok K B F (upd H p o) σ ρ :=
  k.ext ⟨k.sub.trans (upd_sameOf hp), upd_sameOf hp, .refl _, fun a q => .inl q⟩
/-- p stands in no own name -/
def NoOwn (σ : St) (ρ : List Sl) (p : Addr) : Prop := ∀ (i : Nat) xs, ρ[i]? = some (.own xs) → σ[i]? ≠ some (some (.ref p))
theorem Ok.noOwn (k : Ok K B F H σ ρ) (hp : H p = none) : NoOwn σ ρ p := fun i xs e q => by
  obtain ⟨a, vs, h1, h2, _⟩ := k.owns i xs e
  rw [h1] at q
  cases q
  rw [hp] at h2; cases h2
/-- a name is stored: a value -/
theorem Ok.setVal {v : V} {d : D} (k : Ok K B F H σ ρ) (i : Nat) (r : Rep K F v d) : Ok K B F H (σ.set i (some v)) (ρ.set i (.val d)) := by
  refine ⟨k.toExt, by rw [List.length_set, List.length_set, k.len], fun j e q => ?_, fun j xs q => ?_, fun j l xs ys a q1 q2 q3 q4 => ?_, k.dic.to (.refl _) (fun _ _ e1 e2 _ => ⟨e1, e2⟩) (set_dct fun _ z => nomatch z)⟩
  · by_cases h : i = j
    · subst h
      rw [List.getElem?_set_self'] at q
      cases z : ρ[i]? with
      | none => rw [z] at q; cases q
      | some w =>
        rw [z] at q; cases q
        have hi : i < σ.length := by rw [k.len]; exact (List.getElem?_eq_some_iff.mp z).1
        exact ⟨v, by rw [List.getElem?_set_self hi], r⟩
    · rw [List.getElem?_set_ne h] at q ⊢
      exact k.vals j e q
  · by_cases h : i = j
    · subst h
      rw [List.getElem?_set_self'] at q
      cases z : ρ[i]? with
      | none => rw [z] at q; cases q
      | some w => rw [z] at q; cases q
    · rw [List.getElem?_set_ne h] at q ⊢
      exact k.owns j xs q
  · have n1 : i ≠ j := by
      rintro rfl
      rw [List.getElem?_set_self'] at q1
      cases z : ρ[i]? with
      | none => rw [z] at q1; cases q1
      | some w => rw [z] at q1; cases q1
    have n2 : i ≠ l := by
      rintro rfl
      rw [List.getElem?_set_self'] at q2
      cases z : ρ[i]? with
      | none => rw [z] at q2; cases q2
      | some w => rw [z] at q2; cases q2
    rw [List.getElem?_set_ne n1] at q1 q3
    rw [List.getElem?_set_ne n2] at q2 q4
    exact k.dist j l xs ys a q1 q2 q3 q4
/-- a name is stored: a new list of one's own -/
theorem Ok.setOwn {vs : List V} {ds : List D} (k : Ok K B F H σ ρ) (i : Nat) (hp : H p = some (.lst vs)) (hf : F p = none) (hb : B.H p = none) (hn : NoOwn σ ρ p) (r : RepL K F vs ds) :
    Ok K B F H (σ.set i (some (.ref p))) (ρ.set i (.own ds)) := by
  refine ⟨k.toExt, by rw [List.length_set, List.length_set, k.len], fun j e q => ?_, fun j xs q => ?_, fun j l xs ys a q1 q2 q3 q4 => ?_, k.dic.to (.refl _) (fun _ _ e1 e2 _ => ⟨e1, e2⟩) (set_dct fun _ z => nomatch z)⟩
  · by_cases h : i = j
    · subst h
      rw [List.getElem?_set_self'] at q
      cases z : ρ[i]? with
      | none => rw [z] at q; cases q
      | some w => rw [z] at q; cases q
    · rw [List.getElem?_set_ne h] at q ⊢
      exact k.vals j e q
  · by_cases h : i = j
    · subst h
      rw [List.getElem?_set_self'] at q
      cases z : ρ[i]? with
      | none => rw [z] at q; cases q
      | some w =>
        rw [z] at q; cases q
        have hi : i < σ.length := by rw [k.len]; exact (List.getElem?_eq_some_iff.mp z).1
        exact ⟨p, vs, by rw [List.getElem?_set_self hi], hp, hf, hb, r⟩
    · rw [List.getElem?_set_ne h] at q ⊢
      exact k.owns j xs q
  · by_cases n1 : i = j
    · by_cases n2 : i = l
      · exact n1.symm.trans n2
      · subst n1
        rw [List.getElem?_set_ne n2] at q2 q4
        have hi : i < σ.length := by
          have := (List.getElem?_eq_some_iff.mp q3).1
          rw [List.length_set] at this; exact this
        rw [List.getElem?_set_self hi] at q3
        cases q3
        exact absurd q4 (hn l ys q2)
    · by_cases n2 : i = l
      · subst n2
        rw [List.getElem?_set_ne n1] at q1 q3
        have hi : i < σ.length := by
          have := (List.getElem?_eq_some_iff.mp q4).1
          rw [List.length_set] at this; exact this
        rw [List.getElem?_set_self hi] at q4
        cases q4
        exact absurd q3 (hn j xs q1)
      · rw [List.getElem?_set_ne n1] at q1 q3
        rw [List.getElem?_set_ne n2] at q2 q4
        exact k.dist j l xs ys a q1 q2 q3 q4
/-- a list of one's own is changed -/
theorem Ok.chgOwn {vs ws : List V} {xs ds : List D} {i : Nat} (k : Ok K B F H σ ρ) (hi : ρ[i]? = some (.own xs)) (hs : σ[i]? = some (some (.ref p))) (r : RepL K F ws ds) :
    Ok K B F (upd H p (.lst ws)) σ (ρ.set i (.own ds)) := by
  obtain ⟨a, us, h1, h2, h3, h4, h5⟩ := k.owns i xs hi
  rw [h1] at hs
  cases hs
  have hlt : i < ρ.length := (List.getElem?_eq_some_iff.mp hi).1
  refine ⟨⟨fun b u q => ?_, fun b u q => ?_, k.sf, k.nw⟩, by rw [List.length_set, k.len], fun j e q => ?_, fun j ys q => ?_, fun j l ys zs b q1 q2 q3 q4 => ?_, k.dic.to (.refl _) (fun b φ e1 e2 _ => ⟨by rw [upd_ne (fun z => by subst z; rw [h2] at e1; cases e1)]; exact e1, e2⟩) (set_dct' fun _ z => nomatch z)⟩
  · have ne : b ≠ p := fun z => by subst z; rw [h3] at q; cases q
    rw [upd_ne ne]; exact k.sub b u q
  · have ne : b ≠ p := fun z => by subst z; rw [h4] at q; cases q
    rw [upd_ne ne]; exact k.sh b u q
  · by_cases h : i = j
    · subst h
      rw [List.getElem?_set_self hlt] at q; cases q
    · rw [List.getElem?_set_ne h] at q
      exact k.vals j e q
  · by_cases h : i = j
    · subst h
      rw [List.getElem?_set_self hlt] at q; cases q
      exact ⟨p, ws, h1, upd_same, h3, h4, r⟩
    · rw [List.getElem?_set_ne h] at q
      obtain ⟨b, us', g1, g2, g3, g4, g5⟩ := k.owns j ys q
      have ne : b ≠ p := fun z => by subst z; exact h (k.dist i j xs ys b hi q h1 g1)
      exact ⟨b, us', g1, by rw [upd_ne ne]; exact g2, g3, g4, g5⟩
  · have own : ∀ (m : Nat) ys, (ρ.set i (.own ds))[m]? = some (.own ys) → ∃ zs, ρ[m]? = some (.own zs) := fun m ys q => by
      by_cases h : i = m
      · subst h; exact ⟨xs, hi⟩
      · rw [List.getElem?_set_ne h] at q; exact ⟨ys, q⟩
    obtain ⟨y1, z1⟩ := own j ys q1
    obtain ⟨y2, z2⟩ := own l zs q2
    exact k.dist j l _ _ b z1 z2 q3 q4
/-- the i-th name, a list of one's own, is frozen -/
theorem Ok.freezeAt {xs : List D} {i : Nat} (k : Ok K B F H σ ρ) (hi : ρ[i]? = some (.own xs)) : ∃ F', Same F F' ∧ Ok K B F' H σ (ρ.set i (.val (.lst xs))) := by
  obtain ⟨a, us, h1, h2, h3, h4, h5⟩ := k.owns i xs hi
  have hlt : i < ρ.length := (List.getElem?_eq_some_iff.mp hi).1
  have sf : Same F (upd F a (.lst us)) := upd_sameOf h3
  have nown : ∀ (j : Nat) ys, (ρ.set i (.val (.lst xs)))[j]? = some (.own ys) → i ≠ j ∧ ρ[j]? = some (.own ys) := fun j ys q => by
    by_cases h : i = j
    · subst h; rw [List.getElem?_set_self hlt] at q; cases q
    · rw [List.getElem?_set_ne h] at q; exact ⟨h, q⟩
  refine ⟨upd F a (.lst us), sf, ⟨fun b u q => ?_, k.sh, k.sf.trans sf, fun b q => ?_⟩, by rw [List.length_set, k.len], fun j e q => ?_, fun j ys q => ?_, fun j l ys zs b q1 q2 q3 q4 => ?_, k.dic.to sf (fun b φ e1 e2 _ => ⟨e1, by rw [upd_ne (fun z => by subst z; rw [h2] at e1; cases e1)]; exact e2⟩) (set_dct' fun _ z => nomatch z)⟩
  · by_cases h : b = a
    · subst h; rw [upd_same] at q; cases q; exact h2
    · rw [upd_ne h] at q; exact k.sub b u q
  · by_cases h : b = a
    · subst h; exact .inr h4
    · rw [upd_ne h] at q; exact k.nw b q
  · by_cases h : i = j
    · subst h
      rw [List.getElem?_set_self hlt] at q; cases q
      exact ⟨_, h1, .lst upd_same (h5.mono sf)⟩
    · rw [List.getElem?_set_ne h] at q
      obtain ⟨v, g1, g2⟩ := k.vals j e q
      exact ⟨v, g1, g2.mono sf⟩
  · obtain ⟨h, q⟩ := nown j ys q
    obtain ⟨b, us', g1, g2, g3, g4, g5⟩ := k.owns j ys q
    have ne : b ≠ a := fun z => by subst z; exact h (k.dist i j xs ys b hi q h1 g1)
    exact ⟨b, us', g1, g2, by rw [upd_ne ne]; exact g3, g4, g5.mono sf⟩
  · exact k.dist j l _ _ b (nown j ys q1).2 (nown l zs q2).2 q3 q4
end
end L2.EV

set_option linter.all false
set_option autoImplicit false
set_option maxRecDepth 100000
namespace L2.EV
open PySem PySem.Spec PyProof.Rows

/-! ### what an expression, a test, a statement is worth: the plain wish itself -/
structure wE (X : Cx) (e : Expr) (σ : St) (H : Hp) (Q : VK) : Prop where
  go : ∀ (pins : List (Addr × Obj)) (s : Shared), Inv X pins σ H s → wpAny (model X.prog X.w) X.A (eval e X.env) (EP X pins σ Q) X.xe s
instance wE_f {X : Cx} {e : Expr} {σ : St} {H : Hp} {Q : VK} : CoeFun (wE X e σ H Q) (fun _ => ∀ (pins : List (Addr × Obj)) (s : Shared), Inv X pins σ H s → wpAny (model X.prog X.w) X.A (eval e X.env) (EP X pins σ Q) X.xe s) := ⟨wE.go⟩
structure wT (X : Cx) (e : Expr) (σ : St) (H : Hp) (Q : (Bool → Hp → Prop)) : Prop where
  go : ∀ (pins : List (Addr × Obj)) (s : Shared), Inv X pins σ H s → wpAny (model X.prog X.w) X.A (isTrue e X.env (eval e X.env)) (TP X pins σ Q) X.xe s
instance wT_f {X : Cx} {e : Expr} {σ : St} {H : Hp} {Q : Bool → Hp → Prop} : CoeFun (wT X e σ H Q) (fun _ => ∀ (pins : List (Addr × Obj)) (s : Shared), Inv X pins σ H s → wpAny (model X.prog X.w) X.A (isTrue e X.env (eval e X.env)) (TP X pins σ Q) X.xe s) := ⟨wT.go⟩
structure wW (X : Cx) (e : Expr) (σ : St) (H : Hp) (Q : (Bool → Hp → Prop)) : Prop where
  go : ∀ (whole : Sem Value) (pins : List (Addr × Obj)) (s : Shared), Inv X pins σ H s → wpAny (model X.prog X.w) X.A (isTrue e X.env whole) (TP X pins σ Q) X.xe s
instance wW_f {X : Cx} {e : Expr} {σ : St} {H : Hp} {Q : Bool → Hp → Prop} : CoeFun (wW X e σ H Q) (fun _ => ∀ (whole : Sem Value) (pins : List (Addr × Obj)) (s : Shared), Inv X pins σ H s → wpAny (model X.prog X.w) X.A (isTrue e X.env whole) (TP X pins σ Q) X.xe s) := ⟨wW.go⟩
structure wA (X : Cx) (es : List Expr) (σ : St) (H : Hp) (Q : (List V → Hp → Prop)) : Prop where
  go : ∀ (pos : Pos) (pins : List (Addr × Obj)) (s : Shared), Inv X pins σ H s → wpAny (model X.prog X.w) X.A (spliced (backTo pos (starEach es X.env))) (AP X pins σ Q) X.xe s
instance wA_f {X : Cx} {es : List Expr} {σ : St} {H : Hp} {Q : List V → Hp → Prop} : CoeFun (wA X es σ H Q) (fun _ => ∀ (pos : Pos) (pins : List (Addr × Obj)) (s : Shared), Inv X pins σ H s → wpAny (model X.prog X.w) X.A (spliced (backTo pos (starEach es X.env))) (AP X pins σ Q) X.xe s) := ⟨wA.go⟩
structure wS (X : Cx) (st : Stmt) (D : Ends) (σ : St) (H : Hp) : Prop where
  go : ∀ (pins : List (Addr × Obj)) (s : Shared), Inv X pins σ H s → wpAny (model X.prog X.w) X.A (exec st X.env) (SP X pins D) X.xe s
instance wS_f {X : Cx} {st : Stmt} {D : Ends} {σ : St} {H : Hp} : CoeFun (wS X st D σ H) (fun _ => ∀ (pins : List (Addr × Obj)) (s : Shared), Inv X pins σ H s → wpAny (model X.prog X.w) X.A (exec st X.env) (SP X pins D) X.xe s) := ⟨wS.go⟩
structure wSs (X : Cx) (st : List Stmt) (D : Ends) (σ : St) (H : Hp) : Prop where
  go : ∀ (pins : List (Addr × Obj)) (s : Shared), Inv X pins σ H s → wpAny (model X.prog X.w) X.A (execs st X.env) (SP X pins D) X.xe s
instance wSs_f {X : Cx} {st : List Stmt} {D : Ends} {σ : St} {H : Hp} : CoeFun (wSs X st D σ H) (fun _ => ∀ (pins : List (Addr × Obj)) (s : Shared), Inv X pins σ H s → wpAny (model X.prog X.w) X.A (execs st X.env) (SP X pins D) X.xe s) := ⟨wSs.go⟩
structure wO (X : Cx) (e : Option Expr) (σ : St) (H : Hp) (Q : (Option Int → Hp → Prop)) : Prop where
  go : ∀ (pins : List (Addr × Obj)) (s : Shared), Inv X pins σ H s → wpAny (model X.prog X.w) X.A (evalPart e X.env) (fun u s' => ∃ o H', Inv X pins σ H' s' ∧ IsPart u o ∧ Q o H') X.xe s
instance wO_f {X : Cx} {e : Option Expr} {σ : St} {H : Hp} {Q : Option Int → Hp → Prop} : CoeFun (wO X e σ H Q) (fun _ => ∀ (pins : List (Addr × Obj)) (s : Shared), Inv X pins σ H s → wpAny (model X.prog X.w) X.A (evalPart e X.env) (fun u s' => ∃ o H', Inv X pins σ H' s' ∧ IsPart u o ∧ Q o H') X.xe s) := ⟨wO.go⟩
structure wG (X : Cx) (e : Expr) (v : V) (σ : St) (H : Hp) (Q : (St → Hp → Prop)) : Prop where
  go : ∀ (pins : List (Addr × Obj)) (s : Shared) (u : Value), Inv X pins σ H s → RelV v u → wpAny (model X.prog X.w) X.A (assign e X.env u) (fun _ s' => ∃ σ' H', Inv X pins σ' H' s' ∧ Q σ' H') X.xe s
instance wG_f {X : Cx} {e : Expr} {v : V} {σ : St} {H : Hp} {Q : St → Hp → Prop} : CoeFun (wG X e v σ H Q) (fun _ => ∀ (pins : List (Addr × Obj)) (s : Shared) (u : Value), Inv X pins σ H s → RelV v u → wpAny (model X.prog X.w) X.A (assign e X.env u) (fun _ s' => ∃ σ' H', Inv X pins σ' H' s' ∧ Q σ' H') X.xe s) := ⟨wG.go⟩
section
variable {X : Cx} {e : Expr} {es : List Expr} {st : Stmt} {sts : List Stmt} {oe : Option Expr}
theorem pe_w : PE X e (wE X e) := fun pins s _ _ _ I h => h pins s I
theorem pt_w : PT X e (wT X e) := fun pins s _ _ _ I h => h pins s I
theorem pw_w : PW X e (wW X e) := fun wh pins s _ _ _ I h => h wh pins s I
theorem pa_w : PA X es (wA X es) := fun pos pins s _ _ _ I h => h pos pins s I
theorem ps_w : PS X st (wS X st) := fun pins s _ _ _ I h => h pins s I
theorem pss_w : PSs X sts (wSs X sts) := fun pins s _ _ _ I h => h pins s I
theorem po_w : PO X oe (wO X oe) := fun pins s _ _ _ I h => h pins s I
theorem pg_w : PG X e (wG X e) := fun pins s _ _ _ u _ I r h => h pins s u I r
end

/-! ### the judgements -/
abbrev Rho := List Sl
def EvE (X : Cx) (ρ : Rho) (e : Expr) (d : D) : Prop := ∀ (B : B0) (F H : Hp) (σ : St) (Q : VK), Ok X.K B F H σ ρ →
  (∀ v F' H', Ext ⟨F, H⟩ F' H' → Rep X.K F' v d → Q v H') → wE X e σ H Q
/-- a list that is new -/
def EvN (X : Cx) (ρ : Rho) (e : Expr) (xs : List D) : Prop := ∀ (B : B0) (F H : Hp) (σ : St) (Q : VK), Ok X.K B F H σ ρ →
  (∀ p vs F' H', Ext ⟨F, H⟩ F' H' → H p = none → H' p = some (.lst vs) → F' p = none → RepL X.K F' vs xs → Q (.ref p) H') → wE X e σ H Q
/-- a list (true) or a tuple (false) that is read -/
def SqB (K : PySem.W.Frag) (k : Bool) (H : Hp) (a : Addr) (vs : List V) : Prop := if k = true then SqL K H a vs else SqT K H a vs
def EvQ (X : Cx) (ρ : Rho) (e : Expr) (k : Bool) (xs : List D) : Prop := ∀ (B : B0) (F H : Hp) (σ : St) (Q : VK), Ok X.K B F H σ ρ →
  (∀ a vs F' H', Ext ⟨F, H⟩ F' H' → SqB X.K k H' a vs → RepL X.K F' vs xs → Q (.ref a) H') → wE X e σ H Q
def EvT (X : Cx) (ρ : Rho) (e : Expr) (b : Bool) : Prop := ∀ (B : B0) (F H : Hp) (σ : St) (Q : Bool → Hp → Prop), Ok X.K B F H σ ρ →
  (∀ F' H', Ext ⟨F, H⟩ F' H' → Q b H') → wT X e σ H Q
def EvW (X : Cx) (ρ : Rho) (e : Expr) (b : Bool) : Prop := ∀ (B : B0) (F H : Hp) (σ : St) (Q : Bool → Hp → Prop), Ok X.K B F H σ ρ →
  (∀ F' H', Ext ⟨F, H⟩ F' H' → Q b H') → wW X e σ H Q
/-- no starred argument -/
def Pl (e : Expr) : Prop := ∀ (es : List Expr) (env : Env), starEach (e :: es) env = (false, eval e env) :: starEach es env
def PlA : List Expr → Prop
  | [] => True
  | e :: es => Pl e ∧ PlA es
theorem PlA.any {env : Env} {pos : Pos} : ∀ {es : List Expr}, PlA es → (backTo pos (starEach es env)).any (·.1) = false
  | [], _ => rfl
  | e :: es, h => by
    rw [h.1 es env]
    show (false || (backTo pos (starEach es env)).any (·.1)) = false
    rw [PlA.any h.2]; rfl
def EvA (X : Cx) (ρ : Rho) (es : List Expr) (ds : List D) : Prop := PlA es ∧ ∀ (B : B0) (F H : Hp) (σ : St) (Q : List V → Hp → Prop), Ok X.K B F H σ ρ →
  (∀ vs F' H', Ext ⟨F, H⟩ F' H' → RepL X.K F' vs ds → Q vs H') → wA X es σ H Q
def EvO (X : Cx) (ρ : Rho) (e : Option Expr) (o : Option Int) : Prop := ∀ (B : B0) (F H : Hp) (σ : St) (Q : Option Int → Hp → Prop), Ok X.K B F H σ ρ →
  (∀ F' H', Ext ⟨F, H⟩ F' H' → Q o H') → wO X e σ H Q

inductive Out where
  | nx (ρ : Rho) | rt (d : D)
def Post (K : PySem.W.Frag) (B : B0) (F₀ : Hp) (E : Ends) : Out → Prop
  | .nx ρ => ∀ F H σ, Ok K B F H σ ρ → Same F₀ F → E.nx σ H
  | .rt d => ∀ v F H, Ext B F H → Rep K F v d → E.rt v H
theorem Post.later {K : PySem.W.Frag} {B : B0} {F₀ F₁ : Hp} {E : Ends} {o : Out} (h : Post K B F₀ E o) (s : Same F₀ F₁) : Post K B F₁ E o := by
  cases o with
  | nx ρ => exact fun F H σ k s' => h F H σ k (s.trans s')
  | rt d => exact h
def EvS (X : Cx) (ρ : Rho) (st : Stmt) (o : Out) : Prop := ∀ (B : B0) (F H : Hp) (σ : St) (E : Ends), Ok X.K B F H σ ρ → Post X.K B F E o → wS X st E σ H
def EvSs (X : Cx) (ρ : Rho) (sts : List Stmt) (o : Out) : Prop := ∀ (B : B0) (F H : Hp) (σ : St) (E : Ends), Ok X.K B F H σ ρ → Post X.K B F E o → wSs X sts E σ H
/-- a value is bound to a target -/
def EvG (X : Cx) (ρ : Rho) (tg : Expr) (d : D) (ρ' : Rho) : Prop := ∀ (B : B0) (F H : Hp) (σ : St) (v : V) (Q : St → Hp → Prop), Ok X.K B F H σ ρ → Rep X.K F v d →
  (∀ F' H' σ', Ok X.K B F' H' σ' ρ' → Same F F' → Q σ' H') → wG X tg v σ H Q

/-- a value is bound to names that are no lists of one's own; the heap stays -/
def EvGn (X : Cx) (ρ : Rho) (tg : Expr) (d : D) (ρ' : Rho) : Prop := ∀ (B : B0) (F H : Hp) (σ : St) (v : V) (Q : St → Hp → Prop), Ok X.K B F H σ ρ → Rep X.K F v d →
  (∀ σ', Ok X.K B F H σ' ρ' → (∀ p, NoOwn σ ρ p → NoOwn σ' ρ' p) → Q σ' H) → wG X tg v σ H Q
theorem Ext.t {F H F' H' F2 H2 : Hp} (x : Ext ⟨F, H⟩ F' H') (y : Ext ⟨F', H'⟩ F2 H2) : Ext ⟨F, H⟩ F2 H2 := x.trans y
section
variable {X : Cx} {ρ : Rho} {e a b c : Expr} {d : D} {pos : Pos}
theorem EvE.of {t : TE} (h : PE X e t) (r : ∀ (B : B0) (F H : Hp) (σ : St) (Q : VK), Ok X.K B F H σ ρ → (∀ v F' H', Ext ⟨F, H⟩ F' H' → Rep X.K F' v d → Q v H') → t σ H Q) : EvE X ρ e d :=
  fun B F H σ Q k q => .mk fun pins s I => h pins s σ H Q I (r B F H σ Q k q)
theorem EvN.of {t : TE} {xs : List D} (h : PE X e t) (r : ∀ (B : B0) (F H : Hp) (σ : St) (Q : VK), Ok X.K B F H σ ρ →
    (∀ p vs F' H', Ext ⟨F, H⟩ F' H' → H p = none → H' p = some (.lst vs) → F' p = none → RepL X.K F' vs xs → Q (.ref p) H') → t σ H Q) : EvN X ρ e xs :=
  fun B F H σ Q k q => .mk fun pins s I => h pins s σ H Q I (r B F H σ Q k q)
theorem EvQ.of {t : TE} {k : Bool} {xs : List D} (h : PE X e t) (r : ∀ (B : B0) (F H : Hp) (σ : St) (Q : VK), Ok X.K B F H σ ρ →
    (∀ a vs F' H', Ext ⟨F, H⟩ F' H' → SqB X.K k H' a vs → RepL X.K F' vs xs → Q (.ref a) H') → t σ H Q) : EvQ X ρ e k xs :=
  fun B F H σ Q k q => .mk fun pins s I => h pins s σ H Q I (r B F H σ Q k q)
theorem EvT.of {t : TT} {b : Bool} (h : PT X e t) (r : ∀ (B : B0) (F H : Hp) (σ : St) (Q : Bool → Hp → Prop), Ok X.K B F H σ ρ → (∀ F' H', Ext ⟨F, H⟩ F' H' → Q b H') → t σ H Q) : EvT X ρ e b :=
  fun B F H σ Q k q => .mk fun pins s I => h pins s σ H Q I (r B F H σ Q k q)
theorem EvW.of {t : TT} {b : Bool} (h : PW X e t) (r : ∀ (B : B0) (F H : Hp) (σ : St) (Q : Bool → Hp → Prop), Ok X.K B F H σ ρ → (∀ F' H', Ext ⟨F, H⟩ F' H' → Q b H') → t σ H Q) : EvW X ρ e b :=
  fun B F H σ Q k q => .mk fun wh pins s I => h wh pins s σ H Q I (r B F H σ Q k q)
theorem EvS.of {st : Stmt} {o : Out} {t : TS} (h : PS X st t) (r : ∀ (B : B0) (F H : Hp) (σ : St) (E : Ends), Ok X.K B F H σ ρ → Post X.K B F E o → t E σ H) : EvS X ρ st o :=
  fun B F H σ E k q => .mk fun pins s I => h pins s σ H E I (r B F H σ E k q)
theorem EvSs.of {sts : List Stmt} {o : Out} {t : TS} (h : PSs X sts t) (r : ∀ (B : B0) (F H : Hp) (σ : St) (E : Ends), Ok X.K B F H σ ρ → Post X.K B F E o → t E σ H) : EvSs X ρ sts o :=
  fun B F H σ E k q => .mk fun pins s I => h pins s σ H E I (r B F H σ E k q)
theorem EvG.of {ρ' : Rho} {t : TG} (h : PG X e t) (r : ∀ (B : B0) (F H : Hp) (σ : St) (v : V) (Q : St → Hp → Prop), Ok X.K B F H σ ρ → Rep X.K F v d → (∀ F' H' σ', Ok X.K B F' H' σ' ρ' → Same F F' → Q σ' H') → t v σ H Q) : EvG X ρ e d ρ' :=
  fun B F H σ v Q k rv q => .mk fun pins s u I ru => h pins s σ H v u Q I ru (r B F H σ v Q k rv q)

theorem EvGn.of {ρ' : Rho} {t : TG} (h : PG X e t) (r : ∀ (B : B0) (F H : Hp) (σ : St) (v : V) (Q : St → Hp → Prop), Ok X.K B F H σ ρ → Rep X.K F v d → (∀ σ', Ok X.K B F H σ' ρ' → (∀ p, NoOwn σ ρ p → NoOwn σ' ρ' p) → Q σ' H) → t v σ H Q) : EvGn X ρ e d ρ' :=
  fun B F H σ v Q k rv q => .mk fun pins s u I ru => h pins s σ H v u Q I ru (r B F H σ v Q k rv q)
theorem NoOwn.setVal {σ : St} {ρ : Rho} {p : Addr} (h : NoOwn σ ρ p) (i : Nat) (v : Option V) (d : D) : NoOwn (σ.set i v) (ρ.set i (.val d)) p := fun j xs e q => by
  by_cases hj : i = j
  · subst hj
    rw [List.getElem?_set_self'] at e
    cases z : ρ[i]? with
    | none => rw [z] at e; cases e
    | some w => rw [z] at e; cases e
  · rw [List.getElem?_set_ne hj] at e q
    exact h j xs e q

/-! ### from one judgement to another -/
theorem Ext.freeze {F H F' H' : Hp} {p : Addr} {vs : List V} (x : Ext ⟨F, H⟩ F' H') (h0 : H p = none) (hp : H' p = some (.lst vs)) (hf : F' p = none) : Ext ⟨F, H⟩ (upd F' p (.lst vs)) H' :=
  ⟨fun b u q => by
    by_cases h : b = p
    · subst h; rw [upd_same] at q; cases q; exact hp
    · rw [upd_ne h] at q; exact x.sub b u q, x.sh, x.sf.trans (upd_sameOf hf), fun a q => by
    by_cases h : a = p
    · subst h; exact .inr h0
    · rw [upd_ne h] at q; exact x.nw a q⟩
theorem EvN.toE {xs : List D} (h : EvN X ρ e xs) : EvE X ρ e (.lst xs) := fun B F H σ Q k q =>
  h B F H σ Q k fun p vs F' H' x h0 hp hf r => q _ _ _ (x.freeze h0 hp hf) (.lst upd_same (r.mono (upd_sameOf hf)))
theorem SqB.mono {K : PySem.W.Frag} {k : Bool} {H H' : Hp} {a : Addr} {vs : List V} (s : Same H H') (h : SqB K k H a vs) : SqB K k H' a vs := by
  cases k with
  | true => exact s.seq h
  | false =>
    have h' : SqT K H a vs := h
    show SqT K H' a vs
    rcases h' with (h | ⟨o, h⟩) | h
    · exact .inl (.inl (s _ _ h))
    · exact .inl (.inr ⟨o, s _ _ h⟩)
    · exact .inr h
theorem EvE.ql {xs : List D} (h : EvE X ρ e (.lst xs)) : EvQ X ρ e true xs := fun B F H σ Q k q =>
  h B F H σ Q k fun v F' H' x r => by
    cases r with
    | lst hf rl => exact q _ _ _ _ x (show SqL _ _ _ _ from SqL.of (x.sub _ _ hf)) rl
theorem EvE.qt {xs : List D} (h : EvE X ρ e (.tup xs)) : EvQ X ρ e false xs := fun B F H σ Q k q =>
  h B F H σ Q k fun v F' H' x r => by
    cases r with
    | tup hf rl => exact q _ _ _ _ x (show SqT _ _ _ _ from SqT.of (x.sub _ _ hf)) rl
theorem EvE.qs {ns : List Int} (h : EvE X ρ e (.scr ns)) : EvQ X ρ e true (ns.map D.int) := fun B F H σ Q k q =>
  h B F H σ Q k fun v F' H' x r => by
    cases r with
    | scr hs => exact q _ _ _ _ x (show SqL _ _ _ _ from x.sub.seq hs) (RepL.ints ns)
theorem EvN.toQ {xs : List D} (h : EvN X ρ e xs) : EvQ X ρ e true xs := h.toE.ql

/-! ### names -/
structure At (X : Cx) (N : List Str) (sc : Scope) : Prop where
  eN : X.N = N
  eS : X.env.scope = sc
  calm : X.calm = true
  nd : X.N.Nodup
  nox : X.xe = fun _ _ => False
  un : X.A.units + 64 < cLine
  dp : X.A.depth + 100 < recursionLimit
  tree : X.prog.given.tree = none
  fr : ∃ env l, X.stack = env :: l ∧ env.scope.isGenerator = false ∧ env.scope.isCoroutine = false ∧ env.builtins = builtinsNs ∧ env.globals = mainGlobals
/-- At, but perhaps within an except suite, or called from there -/
structure At0 (X : Cx) (N : List Str) (sc : Scope) : Prop where
  eN : X.N = N
  eS : X.env.scope = sc
  nd : X.N.Nodup
  nox : X.xe = fun _ _ => False
  un : X.A.units + 64 < cLine
  dp : X.A.depth + 100 < recursionLimit
  tree : X.prog.given.tree = none
  fr : ∃ env l, X.stack = env :: l ∧ env.scope.isGenerator = false ∧ env.scope.isCoroutine = false ∧ env.builtins = builtinsNs ∧ env.globals = mainGlobals
theorem At.z {X : Cx} {N : List Str} {sc : Scope} (t : At X N sc) : At0 X N sc := ⟨t.eN, t.eS, t.nd, t.nox, t.un, t.dp, t.tree, t.fr⟩
theorem At0.at {X : Cx} {N : List Str} {sc : Scope} (t : At0 X N sc) (h : X.calm = true) : At X N sc := ⟨t.eN, t.eS, h, t.nd, t.nox, t.un, t.dp, t.tree, t.fr⟩
/-- an exception is handled here; H: now -/
def HotH (A : Around) (H : Hp) : Prop := ∃ (ea : Addr) (oe : Obj) (u : HO) (vs : Array Value), A.handled = some (.ref ea) ∧ H ea = some (.frz oe u) ∧ oe.data = .fields vs ∧ vs[2]? = some .none
/-- a def's own body: all its cells are its own -/
class FnT (X : Cx) : Prop where
  fn : ∀ x, X.fn x = true

variable {N : List Str} {sc : Scope}
theorem At.pass (a : At X N sc) : PassesOwn (model X.prog X.w) X.A X.env X.xe := by rw [a.nox]; exact PassesOwn.never
def VisS (sc : Scope) (x : Str) : Bool := match sc.names.lookup x with
  | some .local => true
  | some .cell => true
  | some .free => true
  | _ => false
def LocS (sc : Scope) (x : Str) : Bool := match sc.names.lookup x with
  | some .local => true
  | some .cell => true
  | _ => false
theorem vis_of {x : Str} (h : VisS sc x = true) : Vis sc x := by
  unfold VisS at h
  cases e : sc.names.lookup x with
  | none => rw [e] at h; cases h
  | some k =>
    rw [e] at h
    cases k <;> first | exact .inl e | exact .inr (.inl e) | exact .inr (.inr e) | cases h
theorem loc_of {x : Str} (h : LocS sc x = true) : Loc sc x := by
  unfold LocS at h
  cases e : sc.names.lookup x with
  | none => rw [e] at h; cases h
  | some k =>
    rw [e] at h
    cases k <;> first | exact .inl e | exact .inr e | cases h
def NameOk (x : Str) : Bool := !(x == ("__debug__" : Str)) && !(x == ("__classdict__" : Str))
theorem pvAt (t : At X N sc) {i : Nat} {x : Str} (hN : N[i]? = some x) (hv : VisS sc x = true) (hx : NameOk x = true) : PE X (.Name x pos) (tVar i) := by
  unfold NameOk at hx
  rw [Bool.and_eq_true, Bool.not_eq_true', Bool.not_eq_true'] at hx
  exact pe_var (by rw [t.eN]; exact hN) (by rw [t.eS]; exact vis_of hv) hx.1 hx.2
theorem ev_name (t : At X N sc) (i : Nat) {x : Str} (hr : ρ[i]? = some (.val d)) (hN : N[i]? = some x := by rfl) (hv : VisS sc x = true := by rfl) (hx : NameOk x = true := by rfl) : EvE X ρ (.Name x pos) d :=
  .of (pvAt t hN hv hx) fun B F H σ Q k q => by
    obtain ⟨v, h1, h2⟩ := k.vals i d hr
    exact ⟨v, h1, q v F H (.refl k.sub) h2⟩
theorem ev_own (t : At X N sc) (i : Nat) {x : Str} {xs : List D} (hr : ρ[i]? = some (.own xs)) (hN : N[i]? = some x := by rfl) (hv : VisS sc x = true := by rfl) (hx : NameOk x = true := by rfl) : EvQ X ρ (.Name x pos) true xs :=
  .of (pvAt t hN hv hx) fun B F H σ Q k q => by
    obtain ⟨p, vs, h1, h2, h3, h4, h5⟩ := k.owns i xs hr
    exact ⟨_, h1, q p vs F H (.refl k.sub) (show SqL _ _ _ _ from SqL.of h2) h5⟩
theorem ev_int {i : Int} {j : Nat} : EvE X ρ (.Constant (.int i) j pos) (.int i) := .of pe_int fun B F H σ Q k q => q _ F H (.refl k.sub) (.int i)
theorem ev_bl {b : Bool} {j : Nat} : EvE X ρ (.Constant (.bool b) j pos) (.bl b) := .of pe_bl fun B F H σ Q k q => q _ F H (.refl k.sub) (.bl b)
theorem ev_str {x : Str} {j : Nat} : EvE X ρ (.Constant (.str x) j pos) (.str x) := .of pe_str fun B F H σ Q k q => q _ F H (.refl k.sub) (.str x)

/-! ### operations -/
/-- two operands -/
theorem two {da db : D} (ha : EvE X ρ a da) (hb : EvE X ρ b db) {B : B0} {F H : Hp} {σ : St} {R : V → V → Hp → Prop} (k : Ok X.K B F H σ ρ)
    (h : ∀ x y F' H', Ext ⟨F, H⟩ F' H' → Rep X.K F' x da → Rep X.K F' y db → R x y H') : wE X a σ H fun x H1 => wE X b σ H1 fun y H2 => R x y H2 :=
  ha B F H σ _ k fun x F1 H1 x1 r1 => hb B F1 H1 σ _ (k.ext x1) fun y F2 H2 x2 r2 => h x y F2 H2 (x1.t x2) (r1.mono x2.sf) r2
theorem ev_binI {op : Operator} {i j m : Int} {C : Int → Int → Prop} {g : Int → Int → Int} (ho : OpR X (binaryOp op) (rI C fun i j => .int (g i j))) (ha : EvE X ρ a (.int i)) (hb : EvE X ρ b (.int j)) (hc : C i j) (hm : g i j = m) :
    EvE X ρ (.BinOp a op b pos) (.int m) :=
  .of (pe_op ho pe_w pe_w) fun B F H σ Q k q => two ha hb k fun x y F' H' x' rx ry => by
    cases rx; cases ry; subst hm
    exact ⟨i, j, rfl, rfl, hc, q _ F' H' x' (.int _)⟩
theorem ev_binI0 {op : Operator} {i j m : Int} {g : Int → Int → Int} (ho : OpR X (binaryOp op) (rI0 fun i j => .int (g i j))) (ha : EvE X ρ a (.int i)) (hb : EvE X ρ b (.int j)) (hm : g i j = m) :
    EvE X ρ (.BinOp a op b pos) (.int m) :=
  .of (pe_op ho pe_w pe_w) fun B F H σ Q k q => two ha hb k fun x y F' H' x' rx ry => by
    cases rx; cases ry; subst hm
    exact ⟨i, j, rfl, rfl, q _ F' H' x' (.int _)⟩
theorem ev_add {i j : Int} (ha : EvE X ρ a (.int i)) (hb : EvE X ρ b (.int j)) : EvE X ρ (.BinOp a .Add b pos) (.int (i + j)) := ev_binI0 op_add ha hb rfl
theorem ev_sub {i j : Int} (ha : EvE X ρ a (.int i)) (hb : EvE X ρ b (.int j)) : EvE X ρ (.BinOp a .Sub b pos) (.int (i - j)) := ev_binI0 op_sub ha hb rfl
theorem op_mulK : OpR X (binaryOp .Mult) (rI IntMulOk fun i j => .int (i * j)) := opI fun _ _ _ _ _ _ _ hc q => mul_int q hc
theorem At.pylong (t : At X N sc) {pins : List (Addr × Obj)} {σ : St} {H : Hp} {s : Shared} (I : Inv X pins σ H s) : PylongRoom (model X.prog X.w) X.A s := by
  obtain ⟨env, l, h1, h2, h3, h4, h5⟩ := t.fr
  exact PylongRoom.of I.nolimit t.dp (SeerAt.of (I.ok.mod.seer.keeps I.bk) t.tree (by rw [I.ok.frames, h1]) h2 h3 h4 h5)
theorem op_divK (t : At X N sc) : OpR X (binaryOp .FloorDiv) (rI (fun _ j => j ≠ 0) fun i j => .int (i.fdiv j)) := by
  intro pins s σ H x y v u Q I rx ry h
  obtain ⟨i, j, rfl, rfl, hc, q⟩ := h
  obtain ⟨t1, rfl⟩ := rx
  obtain ⟨t2, rfl⟩ := ry
  exact floordiv_int hc ⟨.int (i.fdiv j), H, I.tok _, ⟨_, rfl⟩, q⟩ (.inr (t.pylong I))
theorem ev_mul {i j : Int} (ha : EvE X ρ a (.int i)) (hb : EvE X ρ b (.int j)) (hc : IntMulOk i j) : EvE X ρ (.BinOp a .Mult b pos) (.int (i * j)) := ev_binI op_mulK ha hb hc rfl
theorem ev_divP (t : At X N sc) {i j : Int} (ha : EvE X ρ a (.int i)) (hb : EvE X ρ b (.int j)) (h0 : 0 < j) : EvE X ρ (.BinOp a .FloorDiv b pos) (.int (i / j)) :=
  ev_binI (op_divK t) ha hb (by omega) (Int.fdiv_eq_ediv_of_nonneg i (by omega))
theorem ev_modP {i j : Int} (ha : EvE X ρ a (.int i)) (hb : EvE X ρ b (.int j)) (h0 : 0 < j) : EvE X ρ (.BinOp a .Mod b pos) (.int (i % j)) := ev_binI op_mod ha hb h0 rfl
theorem ev_pow {i j : Int} (ha : EvE X ρ a (.int i)) (hb : EvE X ρ b (.int j)) (h0 : CPow i j) : EvE X ρ (.BinOp a .Pow b pos) (.int (i ^ j.toNat)) := ev_binI op_pow ha hb h0 rfl
theorem ev_neg {i : Int} (ha : EvE X ρ a (.int i)) : EvE X ρ (.UnaryOp .USub a pos) (.int (-i)) :=
  .of (pe_un un_neg pe_w) fun B F H σ Q k q => ha B F H σ _ k fun x F' H' x' rx => by
    cases rx
    exact ⟨i, rfl, q _ F' H' x' (.int _)⟩

/-! ### comparisons of ints -/
theorem ev_cmpI {op : CmpOp} {i j : Int} {g : Int → Int → Bool} (ho : OpR X (compareOp op) (rI0 fun i j => .bl (g i j))) (ha : EvE X ρ a (.int i)) (hb : EvE X ρ b (.int j)) (hm : behindInMarks op b = false) : EvE X ρ (.Compare a [op] [b] pos) (.bl (g i j)) :=
  .of (pe_cmpR ho pe_w pe_w hm) fun B F H σ Q k q => two ha hb k fun x y F' H' x' rx ry => by
    cases rx; cases ry
    exact ⟨i, j, rfl, rfl, q _ F' H' x' (.bl _)⟩
theorem ev_gt {i j : Int} (ha : EvE X ρ a (.int i)) (hb : EvE X ρ b (.int j)) : EvE X ρ (.Compare a [.Gt] [b] pos) (.bl (decide (j < i))) := ev_cmpI op_gt ha hb (nobehind _ (by decide) (by decide))
end
end L2.EV

set_option linter.all false
set_option autoImplicit false
set_option maxRecDepth 100000
namespace L2.EV
open PySem PySem.Spec PyProof.Rows

/-! ### equality: what is read as plain data -/
mutual
def toP : D → PyData
  | .non => .none
  | .bl b => .bool b
  | .int i => .int i
  | .str x => .str x
  | .tup xs => .tuple (toPs xs)
  | .lst xs => .list (toPs xs)
  | .scr ns => .list (ns.map PyData.int)
  | .exc _ => .dict []
  | .exh _ _ => .dict []
  | .dic _ => .dict []
  | .adr _ => .dict []
  | .stt _ => .dict []
def toPs : List D → List PyData
  | [] => []
  | d :: ds => toP d :: toPs ds
end
theorem toPs_map (xs : List D) : toPs xs = xs.map toP := by
  induction xs with
  | nil => rfl
  | cons d ds ih => rw [toPs, ih, List.map_cons]
theorem toPs_ints (ns : List Int) : toPs (ns.map D.int) = ns.map PyData.int := by
  rw [toPs_map, List.map_map]; rfl
section
variable {X : Cx} {pins : List (Addr × Obj)} {σ : St} {F H : Hp} {s : Shared}
theorem readsInts : ∀ {ns : List Int} {us : List Value}, Vals (ns.map V.int) us → ∃ as, ReadsAll s.heap us (ns.map PyData.int) as
  | [], _, r => by cases r; exact ⟨_, .nil⟩
  | n :: ns, _, r => by
    rw [List.map_cons] at r
    cases r with
    | cons r1 r2 =>
      obtain ⟨as, h⟩ := readsInts r2
      obtain ⟨t, rfl⟩ := r1
      exact ⟨_, .cons (Reads.int n t) h⟩
mutual
theorem Rep.reads (I : Inv X pins σ H s) (sub : Same F H) : ∀ {v : V} {d : D} {u : Value}, Rep X.K F v d → RelV v u → (toP d).canLay0 = true → ∃ as, Reads s.heap u (toP d) as
  | _, _, u, .non, r, hs => by cases (show u = Value.none from r); exact ⟨_, Reads.none⟩
  | _, _, u, .bl b, r, hs => by cases (show u = Value.bool b from r); exact ⟨_, Reads.bool b⟩
  | _, _, u, .int i, r, hs => by obtain ⟨t, e⟩ := (show ∃ t, u = Value.int i t from r); cases e; exact ⟨_, Reads.int i t⟩
  | _, _, u, .str x, r, hs => by obtain ⟨t, e⟩ := (show ∃ t, u = Value.str x t from r); cases e; exact ⟨_, Reads.str x t⟩
  | _, _, u, .tup (a := a) h rl, r, hs => by
    cases (show u = Value.ref a from r)
    obtain ⟨its, rv, p, _⟩ := I.tuple (SqT.of (sub _ _ h))
    obtain ⟨o, e, c, n, dt⟩ := p
    obtain ⟨as, ra⟩ := RepL.reads I sub rl rv (by simpa [toP, PyData.canLay0] using hs)
    exact ⟨_, Reads.tuple e c dt (by simpa using ra)⟩
  | _, _, u, .lst (a := a) h rl, r, hs => by
    cases (show u = Value.ref a from r)
    obtain ⟨its, rv, p, _⟩ := I.list (SqL.of (sub _ _ h))
    obtain ⟨o, e, c, n, dt⟩ := p.isList
    obtain ⟨as, ra⟩ := RepL.reads I sub rl rv (by simpa [toP, PyData.canLay0] using hs)
    exact ⟨_, Reads.list e c dt (by simpa using ra)⟩
  | _, _, u, .exc h, r, hs => by simp [toP, PyData.canLay0] at hs
  | _, _, u, .exh h, r, hs => by simp [toP, PyData.canLay0] at hs
  | _, _, u, .dic h _, r, hs => by simp [toP, PyData.canLay0] at hs
  | _, _, u, .adr _, r, hs => by simp [toP, PyData.canLay0] at hs
  | _, _, u, .stt _, r, hs => by simp [toP, PyData.canLay0] at hs
  | _, _, u, .scr (a := a) h, r, hs => by
    cases (show u = Value.ref a from r)
    obtain ⟨its, rv, p, _⟩ := I.list (sub.seq h)
    obtain ⟨o, e, c, n, dt⟩ := p.isList
    obtain ⟨as, ra⟩ := readsInts (s := s) rv
    exact ⟨_, Reads.list e c dt (by simpa using ra)⟩
theorem RepL.reads (I : Inv X pins σ H s) (sub : Same F H) : ∀ {vs : List V} {ds : List D} {us : List Value}, RepL X.K F vs ds → Vals vs us → PyData.canLayAll0 (toPs ds) = true → ∃ as, ReadsAll s.heap us (toPs ds) as
  | _, _, _, .nil, r, hs => by cases r; exact ⟨_, .nil⟩
  | _, _, _, .cons r1 r2, r, hs => by
    cases r with
    | cons q1 q2 =>
      rw [toPs, PyData.canLayAll0, Bool.and_eq_true] at hs
      have hs2 := hs
      obtain ⟨as, h1⟩ := Rep.reads I sub r1 q1 hs2.1
      obtain ⟨bs, h2⟩ := RepL.reads I sub r2 q2 hs2.2
      exact ⟨_, .cons h1 h2⟩
end
theorem SqB.reads {k : Bool} {a : Addr} {vs : List V} {xs : List D} (I : Inv X pins σ H s) (sub : Same F H) (h : SqB X.K k H a vs) (r : RepL X.K F vs xs) (hs : (if k = true then PyData.list (toPs xs) else .tuple (toPs xs)).canLay0 = true) : ∃ as, Reads s.heap (.ref a) (if k = true then PyData.list (toPs xs) else .tuple (toPs xs)) as := by
  cases k with
  | true =>
    obtain ⟨its, rv, p, _⟩ := I.list (show SqL _ _ _ _ from h)
    obtain ⟨o, e, c, n, dt⟩ := p.isList
    obtain ⟨as, ra⟩ := RepL.reads I sub r rv (by simpa [PyData.canLay0] using hs)
    exact ⟨_, Reads.list e c dt (by simpa using ra)⟩
  | false =>
    obtain ⟨its, rv, p, _⟩ := I.tuple (show SqT _ _ _ _ from h)
    obtain ⟨o, e, c, n, dt⟩ := p
    obtain ⟨as, ra⟩ := RepL.reads I sub r rv (by simpa [PyData.canLay0] using hs)
    exact ⟨_, Reads.tuple e c dt (by simpa using ra)⟩
end
/-- read as p, now and later -/
def RdP (X : Cx) (H : Hp) (v : V) (p : PyData) : Prop := p.canLay0 = true → ∀ (H' : Hp), Same H H' → ∀ (pins : List (Addr × Obj)) (σ : St) (s : Shared) (u : Value), Inv X pins σ H' s → RelV v u → ∃ as, Reads s.heap u p as
def EvP (X : Cx) (ρ : Rho) (e : Expr) (p : PyData) : Prop := ∀ (B : B0) (F H : Hp) (σ : St) (Q : VK), Ok X.K B F H σ ρ → (∀ v F' H', Ext ⟨F, H⟩ F' H' → RdP X H' v p → Q v H') → wE X e σ H Q
section
variable {X : Cx} {ρ : Rho} {e a b c : Expr} {d : D} {pos : Pos} {N : List Str} {sc : Scope}
theorem EvE.p (h : EvE X ρ e d) : EvP X ρ e (toP d) := fun B F H σ Q k q => h B F H σ Q k fun v F' H' x r => q v F' H' x fun hs H2 s2 pins σ s u I ru => r.reads I (x.sub.trans s2) ru hs
theorem EvQ.p {k : Bool} {xs : List D} (h : EvQ X ρ e k xs) : EvP X ρ e (if k = true then PyData.list (toPs xs) else .tuple (toPs xs)) := fun B F H σ Q k' q => h B F H σ Q k' fun a vs F' H' x hs r => q _ F' H' x fun hc H2 s2 pins σ s u I ru => by
  cases (show u = Value.ref a from ru)
  exact SqB.reads I (x.sub.trans s2) (hs.mono s2) r hc
theorem rd_eq (t : At X N sc) {p q : PyData} (sp : SeqAt.shaped p = true) (sq : SeqAt.shaped q = true) : OpR X (compareOp .Eq) (fun x y H Q => RdP X H x p ∧ RdP X H y q ∧ Q (.bl (p.eqv q)) H) := by
  intro pins s σ H x y v u Q I rx ry h
  obtain ⟨h1, h2, h3⟩ := h
  obtain ⟨as, r1⟩ := h1 (SeqAt.canLay_of_shaped sp) H (.refl _) pins σ s v I rx
  obtain ⟨bs, r2⟩ := h2 (SeqAt.canLay_of_shaped sq) H (.refl _) pins σ s u I ry
  exact eq_dataH r1 r2 sp sq t.un ⟨.bl _, H, I, rfl, h3⟩
theorem rd_ne (t : At X N sc) {p q : PyData} (sp : SeqAt.shaped p = true) (sq : SeqAt.shaped q = true) : OpR X (compareOp .NotEq) (fun x y H Q => RdP X H x p ∧ RdP X H y q ∧ Q (.bl (!p.eqv q)) H) := by
  intro pins s σ H x y v u Q I rx ry h
  obtain ⟨h1, h2, h3⟩ := h
  obtain ⟨as, r1⟩ := h1 (SeqAt.canLay_of_shaped sp) H (.refl _) pins σ s v I rx
  obtain ⟨bs, r2⟩ := h2 (SeqAt.canLay_of_shaped sq) H (.refl _) pins σ s u I ry
  exact ne_dataH r1 r2 sp sq t.un ⟨.bl _, H, I, rfl, h3⟩
theorem RdP.mono {H H' : Hp} {v : V} {p : PyData} (h : RdP X H v p) (s : Same H H') : RdP X H' v p := fun hc H2 s2 => h hc H2 (s.trans s2)
theorem twoP {p q : PyData} (ha : EvP X ρ a p) (hb : EvP X ρ b q) {B : B0} {F H : Hp} {σ : St} {R : V → V → Hp → Prop} (k : Ok X.K B F H σ ρ)
    (h : ∀ x y F' H', Ext ⟨F, H⟩ F' H' → RdP X H' x p → RdP X H' y q → R x y H') : wE X a σ H fun x H1 => wE X b σ H1 fun y H2 => R x y H2 :=
  ha B F H σ _ k fun x F1 H1 x1 r1 => hb B F1 H1 σ _ (k.ext x1) fun y F2 H2 x2 r2 => h x y F2 H2 (x1.t x2) (r1.mono x2.sh) r2
theorem ev_eqP (t : At X N sc) {p q : PyData} (ha : EvP X ρ a p) (hb : EvP X ρ b q) (sp : SeqAt.shaped p = true) (sq : SeqAt.shaped q = true) {r : Bool} (hr : p.eqv q = r) : EvE X ρ (.Compare a [.Eq] [b] pos) (.bl r) :=
  .of (pe_cmpR (rd_eq t sp sq) pe_w pe_w (nobehind _ (by decide) (by decide))) fun B F H σ Q k q => twoP ha hb k fun x y F' H' x' rx ry => ⟨rx, ry, by rw [hr]; exact q _ F' H' x' (.bl r)⟩
theorem ev_neI (t : At X N sc) {i j : Int} (ha : EvE X ρ a (.int i)) (hb : EvE X ρ b (.int j)) : EvE X ρ (.Compare a [.NotEq] [b] pos) (.bl (!decide (i = j))) :=
  .of (pe_cmpR op_ne pe_w pe_w (nobehind _ (by decide) (by decide))) fun B F H σ Q k q => two ha hb k fun x y F' H' x' rx ry => by
    cases rx; cases ry
    refine ⟨rfl, ?_⟩
    have e : decide (V.int i = V.int j) = decide (i = j) := by rw [dec_int, Bool.beq_eq_decide_eq]
    rw [e]
    exact q _ F' H' x' (.bl _)

/-! ### items, slices -/
theorem RepL.at {K : PySem.W.Frag} {F : Hp} {vs : List V} {xs : List D} {i : Int} {d : D} (r : RepL K F vs xs) (h : atI xs i = some d) : ∃ v, atI vs i = some v ∧ Rep K F v d := by
  unfold atI at h ⊢
  rw [r.length]
  cases e : ixN xs.length i with
  | none => rw [e] at h; cases h
  | some j =>
    rw [e] at h
    obtain ⟨v, h1, h2⟩ := r.get h
    exact ⟨v, h1, h2⟩
theorem qe {k : Bool} {xs : List D} {db : D} (ha : EvQ X ρ a k xs) (hb : EvE X ρ b db) {B : B0} {F H : Hp} {σ : St} {R : V → V → Hp → Prop} (k' : Ok X.K B F H σ ρ)
    (h : ∀ l vs y F' H', Ext ⟨F, H⟩ F' H' → SqB X.K k H' l vs → RepL X.K F' vs xs → Rep X.K F' y db → R (.ref l) y H') : wE X a σ H fun x H1 => wE X b σ H1 fun y H2 => R x y H2 :=
  ha B F H σ _ k' fun l vs F1 H1 x1 s1 r1 => hb B F1 H1 σ _ (k'.ext x1) fun y F2 H2 x2 r2 => h l vs y F2 H2 (x1.t x2) (s1.mono x2.sh) (r1.mono x2.sf) r2
theorem ev_ix {k : Bool} {xs : List D} {i : Int} (ha : EvQ X ρ a k xs) (hb : EvE X ρ b (.int i)) (h : atI xs i = some d) (hs : PlainIx b := by intro _ _; rfl) : EvE X ρ (.Subscript a b pos) d := by
  cases k with
  | true =>
    exact .of (pe_ix ix_list pe_w pe_w hs) fun B F H σ Q k' q => qe ha hb k' fun l vs y F' H' x' sl rl ry => by
      cases ry
      obtain ⟨v, h1, h2⟩ := rl.at h
      exact ⟨l, vs, i, v, rfl, rfl, sl, h1, q v F' H' x' h2⟩
  | false =>
    exact .of (pe_ix ix_tup pe_w pe_w hs) fun B F H σ Q k' q => qe ha hb k' fun l vs y F' H' x' sl rl ry => by
      cases ry
      obtain ⟨v, h1, h2⟩ := rl.at h
      exact ⟨l, vs, i, v, rfl, rfl, sl, h1, q v F' H' x' h2⟩
theorem ev_noPart : EvO X ρ none none := fun B F H σ Q k q => .mk fun pins s I => po_none pins s σ H Q I (q F H (.refl k.sub))
theorem ev_part {i : Int} (h : EvE X ρ e (.int i)) : EvO X ρ (some e) (some i) := fun B F H σ Q k q => .mk fun pins s I => po_some pe_w pins s σ H Q I (h B F H σ _ k fun v F' H' x r => by
  cases r
  exact ⟨i, rfl, q F' H' x⟩)
def cutD (xs : List D) (lo hi : Option Int) : List D := (xs.drop (HT.sIx xs.length 0 lo)).take (HT.sIx xs.length xs.length hi - HT.sIx xs.length 0 lo)
theorem RepL.cut {K : PySem.W.Frag} {F : Hp} {vs : List V} {xs : List D} (r : RepL K F vs xs) (lo hi : Option Int) : RepL K F (cutV vs lo hi) (cutD xs lo hi) := by
  unfold cutV cutD
  rw [r.length]
  exact (r.drop _).take _
/-- xs[lo:hi] of a list: a new list -/
theorem ev_cutL {xs : List D} {lo hi : Option Expr} {l h : Option Int} {p2 : Pos} (ha : EvQ X ρ a true xs) (hl : EvO X ρ lo l) (hh : EvO X ρ hi h) : EvN X ρ (.Subscript a (.Slice lo hi none p2) pos) (cutD xs l h) :=
  .of (pe_slice sl_list pe_w po_w po_w) fun B F H σ Q k q => ha B F H σ _ k fun p vs F1 H1 x1 s1 r1 => hl B F1 H1 σ _ (k.ext x1) fun F2 H2 x2 => hh B F2 H2 σ _ (k.ext (x1.t x2)) fun F3 H3 x3 => by
    have x := x1.t (x2.t x3)
    refine ⟨p, vs, rfl, (s1.mono x2.sh).mono x3.sh, fun l' hl' => ?_⟩
    have r3 := (r1.mono x2.sf).mono x3.sf
    exact q l' _ F3 _ ⟨x.sub.trans (upd_sameOf hl'), x.sh.trans (upd_sameOf hl'), x.sf, x.nw⟩ (x.sh.free hl') upd_same (x.sub.free hl') (r3.cut l h)
/-- t[lo:hi] of a tuple, not the whole of it -/
theorem ev_cutT {xs : List D} {lo hi : Option Expr} {l h : Option Int} {p2 : Pos} (ha : EvQ X ρ a false xs) (hl : EvO X ρ lo l) (hh : EvO X ρ hi h) (hw : ¬ (HT.sIx xs.length 0 l = 0 ∧ HT.sIx xs.length xs.length h = xs.length)) :
    EvE X ρ (.Subscript a (.Slice lo hi none p2) pos) (.tup (cutD xs l h)) :=
  .of (pe_slice sl_tup pe_w po_w po_w) fun B F H σ Q k q => ha B F H σ _ k fun p vs F1 H1 x1 s1 r1 => hl B F1 H1 σ _ (k.ext x1) fun F2 H2 x2 => hh B F2 H2 σ _ (k.ext (x1.t x2)) fun F3 H3 x3 => by
    have x := x1.t (x2.t x3)
    have r3 := (r1.mono x2.sf).mono x3.sf
    refine ⟨p, vs, rfl, (s1.mono x2.sh).mono x3.sh, by rw [r3.length]; exact hw, fun l' hl' => ?_⟩
    exact q _ _ _ (x.grow hl') (.tup upd_same ((r3.cut l h).mono (upd_sameOf (x.sub.free hl'))))

/-! ### arguments, displays -/
theorem ea_nil : EvA X ρ [] [] := ⟨trivial, fun B F H σ Q k q => .mk fun pos pins s I => pa_nil pos pins s σ H Q I (q [] F H (.refl k.sub) .nil)⟩
theorem ea_cons {es : List Expr} {ds : List D} (h1 : EvE X ρ e d) (h2 : EvA X ρ es ds) (hs : Pl e := by intro _ _; rfl) : EvA X ρ (e :: es) (d :: ds) :=
  ⟨⟨hs, h2.1⟩, fun B F H σ Q k q => .mk fun pos pins s I => pa_cons pe_w pa_w (hs _ _) pos pins s σ H Q I (h1 B F H σ _ k fun v F1 H1 x1 r1 => h2.2 B F1 H1 σ _ (k.ext x1) fun vs F2 H2 x2 r2 => q _ F2 H2 (x1.t x2) (.cons (r1.mono x2.sf) r2))⟩
theorem ev_tup {es : List Expr} {ds : List D} {x1 : Nat} (h : EvA X ρ es ds) (hl : ds.length ≤ sizeLine := by exact Nat.le_of_ble_eq_true rfl) : EvE X ρ (.Tuple es x1 pos) (.tup ds) :=
  .of (pe_tup pa_w) fun B F H σ Q k q => h.2 B F H σ _ k fun vs F' H' x r => ⟨by rw [r.length]; exact hl, fun p hp => q _ _ _ (x.grow hp) (.tup upd_same (r.mono (upd_sameOf (x.sub.free hp))))⟩
theorem en_lst {es : List Expr} {ds : List D} (h : EvA X ρ es ds) (hl : ds.length ≤ sizeLine := by exact Nat.le_of_ble_eq_true rfl) : EvN X ρ (.List es pos) ds :=
  .of (pe_lst pa_w) fun B F H σ Q k q => h.2 B F H σ _ k fun vs F' H' x r => ⟨by rw [r.length]; exact hl, fun p hp => q p vs F' _ ⟨x.sub.trans (upd_sameOf hp), x.sh.trans (upd_sameOf hp), x.sf, x.nw⟩ (x.sh.free hp) upd_same (x.sub.free hp) r⟩

/-! ### list + list, list * int -/
theorem en_cat {xs ys : List D} (ha : EvE X ρ a (.lst xs)) (hb : EvE X ρ b (.lst ys)) (hz : xs.length + ys.length ≤ sizeLine) : EvN X ρ (.BinOp a .Add b pos) (xs ++ ys) :=
  .of (pe_op op_cat pe_w pe_w) fun B F H σ Q k q => two ha hb k fun x y F' H' x' rx ry => by
    cases rx with
    | lst h1 r1 =>
      cases ry with
      | lst h2 r2 =>
        refine ⟨_, _, _, _, rfl, rfl, x'.sub _ _ h1, x'.sub _ _ h2, by rw [r1.length, r2.length]; exact hz, fun p hp => ?_⟩
        exact q p _ F' _ ⟨x'.sub.trans (upd_sameOf hp), x'.sh.trans (upd_sameOf hp), x'.sf, x'.nw⟩ (x'.sh.free hp) upd_same (x'.sub.free hp) (r1.append r2)
/-! ### and, or, not, if -/
theorem ew_and1 {r : Bool} (ha : EvT X ρ a r) : EvW X ρ (.BoolOp .And [a] pos) r := .of (pw_and1 pt_w) fun B F H σ Q k q => ha B F H σ Q k q
theorem ew_or1 {r : Bool} (ha : EvT X ρ a r) : EvW X ρ (.BoolOp .Or [a] pos) r := .of (pw_or1 pt_w) fun B F H σ Q k q => ha B F H σ Q k q
theorem ew_andT {rest : List Expr} {r : Bool} (ha : EvT X ρ a true) (hb : EvW X ρ (.BoolOp .And (b :: rest) pos) r) : EvW X ρ (.BoolOp .And (a :: b :: rest) pos) r :=
  .of (pw_and pt_w pw_w) fun B F H σ Q k q => ha B F H σ _ k fun F1 H1 x1 => by rw [if_pos rfl]; exact hb B F1 H1 σ _ (k.ext x1) fun F2 H2 x2 => q F2 H2 (x1.t x2)
theorem ew_andF {rest : List Expr} (ha : EvT X ρ a false) : EvW X ρ (.BoolOp .And (a :: b :: rest) pos) false :=
  .of (pw_and pt_w pw_w) fun B F H σ Q k q => ha B F H σ _ k fun F1 H1 x1 => by rw [if_neg Bool.false_ne_true]; exact q F1 H1 x1
theorem ew_orF {rest : List Expr} {r : Bool} (ha : EvT X ρ a false) (hb : EvW X ρ (.BoolOp .Or (b :: rest) pos) r) : EvW X ρ (.BoolOp .Or (a :: b :: rest) pos) r :=
  .of (pw_or pt_w pw_w) fun B F H σ Q k q => ha B F H σ _ k fun F1 H1 x1 => by rw [if_neg Bool.false_ne_true]; exact hb B F1 H1 σ _ (k.ext x1) fun F2 H2 x2 => q F2 H2 (x1.t x2)
theorem ew_orT {rest : List Expr} (ha : EvT X ρ a true) : EvW X ρ (.BoolOp .Or (a :: b :: rest) pos) true :=
  .of (pw_or pt_w pw_w) fun B F H σ Q k q => ha B F H σ _ k fun F1 H1 x1 => by rw [if_pos rfl]; exact q F1 H1 x1
theorem EvW.toT {r : Bool} (h : EvW X ρ e r) : EvT X ρ e r := fun B F H σ Q k q => .mk fun pins s I => h B F H σ Q k q _ pins s I
theorem et_not {r : Bool} (ha : EvT X ρ a r) : EvT X ρ (.UnaryOp .Not a pos) (!r) := .of (pt_not pt_w) fun B F H σ Q k q => ha B F H σ _ k q
/-- as values -/
theorem ev_one {op : BoolOp} (h : EvE X ρ a d) : EvE X ρ (.BoolOp op [a] pos) d := .of (pe_one pe_w) fun B F H σ Q k q => h B F H σ Q k q
theorem ev_andT {rest : List Expr} (ha : EvE X ρ a (.bl true)) (hb : EvE X ρ (.BoolOp .And (b :: rest) pos) d) : EvE X ρ (.BoolOp .And (a :: b :: rest) pos) d :=
  .of (pe_and pe_w pe_w) fun B F H σ Q k q => ha B F H σ _ k fun v F1 H1 x1 r => by
    cases r
    exact ⟨true, rfl, by rw [if_pos rfl]; exact hb B F1 H1 σ _ (k.ext x1) fun v F2 H2 x2 r2 => q v F2 H2 (x1.t x2) r2⟩
theorem ev_andF {rest : List Expr} (ha : EvE X ρ a (.bl false)) : EvE X ρ (.BoolOp .And (a :: b :: rest) pos) (.bl false) :=
  .of (pe_and pe_w pe_w) fun B F H σ Q k q => ha B F H σ _ k fun v F1 H1 x1 r => by
    cases r
    exact ⟨false, rfl, by rw [if_neg Bool.false_ne_true]; exact q _ F1 H1 x1 (.bl false)⟩
theorem ev_orF {rest : List Expr} (ha : EvE X ρ a (.bl false)) (hb : EvE X ρ (.BoolOp .Or (b :: rest) pos) d) : EvE X ρ (.BoolOp .Or (a :: b :: rest) pos) d :=
  .of (pe_or pe_w pe_w) fun B F H σ Q k q => ha B F H σ _ k fun v F1 H1 x1 r => by
    cases r
    exact ⟨false, rfl, by rw [if_neg Bool.false_ne_true]; exact hb B F1 H1 σ _ (k.ext x1) fun v F2 H2 x2 r2 => q v F2 H2 (x1.t x2) r2⟩
theorem ev_orT {rest : List Expr} (ha : EvE X ρ a (.bl true)) : EvE X ρ (.BoolOp .Or (a :: b :: rest) pos) (.bl true) :=
  .of (pe_or pe_w pe_w) fun B F H σ Q k q => ha B F H σ _ k fun v F1 H1 x1 r => by
    cases r
    exact ⟨true, rfl, by rw [if_pos rfl]; exact q _ F1 H1 x1 (.bl true)⟩
theorem ev_notV {r : Bool} (ha : EvE X ρ a (.bl r)) : EvE X ρ (.UnaryOp .Not a pos) (.bl (!r)) :=
  .of (pe_not pe_w) fun B F H σ Q k q => ha B F H σ _ k fun v F1 H1 x1 rv => by
    cases rv
    exact ⟨r, rfl, q _ F1 H1 x1 (.bl _)⟩
theorem ev_ifT (hc : EvT X ρ c true) (ha : EvE X ρ a d) : EvE X ρ (.IfExp c a b pos) d :=
  .of (pe_ifExp pt_w pe_w pe_w) fun B F H σ Q k q => hc B F H σ _ k fun F1 H1 x1 => by rw [if_pos rfl]; exact ha B F1 H1 σ _ (k.ext x1) fun v F2 H2 x2 r2 => q v F2 H2 (x1.t x2) r2
theorem ev_ifF (hc : EvT X ρ c false) (hb : EvE X ρ b d) : EvE X ρ (.IfExp c a b pos) d :=
  .of (pe_ifExp pt_w pe_w pe_w) fun B F H σ Q k q => hc B F H σ _ k fun F1 H1 x1 => by rw [if_neg Bool.false_ne_true]; exact hb B F1 H1 σ _ (k.ext x1) fun v F2 H2 x2 r2 => q v F2 H2 (x1.t x2) r2
theorem et_bl {r : Bool} (ha : EvE X ρ e (.bl r)) (he : ∀ whole, isTrue e X.env whole = (do let v ← whole; standAt e.pos; holding [v] (truthy v)) := by intro _; rfl) : EvT X ρ e r :=
  .of (pt_val pe_w he) fun B F H σ Q k q => ha B F H σ _ k fun v F1 H1 x1 rv => by
    cases rv
    exact ⟨r, rfl, q F1 H1 x1⟩
end
end L2.EV

set_option linter.all false
set_option autoImplicit false
set_option maxRecDepth 100000
namespace L2.EV
open PySem PySem.Spec PyProof.Rows
section
variable {X : Cx} {ρ : Rho} {e a b c : Expr} {d : D} {pos : Pos} {N : List Str} {sc : Scope}
/-! ### comparisons as tests -/
theorem et_cmp {op : CmpOp} {r : R2} {da db : D} {k : Bool} (ho : OpR X (compareOp op) r) (ha : EvE X ρ a da) (hb : EvE X ρ b db) (hm : behindInMarks op b = false)
    (hr : ∀ (F H : Hp) x y (Q : VK), Rep X.K F x da → Rep X.K F y db → Q (.bl k) H → r x y H Q) : EvT X ρ (.Compare a [op] [b] pos) k :=
  .of (pt_cmpR ho pe_w pe_w hm) fun B F H σ Q k' q => two ha hb k' fun x y F' H' x' rx ry => hr F' H' x y _ rx ry ⟨k, rfl, q F' H' x'⟩
theorem et_lt {i j : Int} (ha : EvE X ρ a (.int i)) (hb : EvE X ρ b (.int j)) : EvT X ρ (.Compare a [.Lt] [b] pos) (decide (i < j)) := et_cmp op_lt ha hb (nobehind _ (by decide) (by decide)) fun F H x y Q rx ry q => by cases rx; cases ry; exact ⟨i, j, rfl, rfl, q⟩
theorem et_gt {i j : Int} (ha : EvE X ρ a (.int i)) (hb : EvE X ρ b (.int j)) : EvT X ρ (.Compare a [.Gt] [b] pos) (decide (j < i)) := et_cmp op_gt ha hb (nobehind _ (by decide) (by decide)) fun F H x y Q rx ry q => by cases rx; cases ry; exact ⟨i, j, rfl, rfl, q⟩
theorem et_ge {i j : Int} (ha : EvE X ρ a (.int i)) (hb : EvE X ρ b (.int j)) : EvT X ρ (.Compare a [.GtE] [b] pos) (decide (j ≤ i)) := et_cmp op_ge ha hb (nobehind _ (by decide) (by decide)) fun F H x y Q rx ry q => by cases rx; cases ry; exact ⟨i, j, rfl, rfl, q⟩
theorem dec_intD {i j : Int} : decide (V.int i = V.int j) = decide (i = j) := by rw [dec_int, Bool.beq_eq_decide_eq]
theorem et_eqI {i j : Int} (ha : EvE X ρ a (.int i)) (hb : EvE X ρ b (.int j)) : EvT X ρ (.Compare a [.Eq] [b] pos) (decide (i = j)) := et_cmp op_eq ha hb (nobehind _ (by decide) (by decide)) fun F H x y Q rx ry q => by
  cases rx; cases ry; exact ⟨rfl, by rw [dec_intD]; exact q⟩
theorem et_neI {i j : Int} (ha : EvE X ρ a (.int i)) (hb : EvE X ρ b (.int j)) : EvT X ρ (.Compare a [.NotEq] [b] pos) (!decide (i = j)) := et_cmp op_ne ha hb (nobehind _ (by decide) (by decide)) fun F H x y Q rx ry q => by
  cases rx; cases ry; exact ⟨rfl, by rw [dec_intD]; exact q⟩
theorem et_eqP (t : At X N sc) {p q : PyData} (ha : EvP X ρ a p) (hb : EvP X ρ b q) (sp : SeqAt.shaped p = true) (sq : SeqAt.shaped q = true) {r : Bool} (hr : p.eqv q = r) : EvT X ρ (.Compare a [.Eq] [b] pos) r :=
  .of (pt_cmpR (rd_eq t sp sq) pe_w pe_w (nobehind _ (by decide) (by decide))) fun B F H σ Q k q => twoP ha hb k fun x y F' H' x' rx ry => ⟨rx, ry, r, by rw [hr], q F' H' x'⟩
theorem et_neP (t : At X N sc) {p q : PyData} (ha : EvP X ρ a p) (hb : EvP X ρ b q) (sp : SeqAt.shaped p = true) (sq : SeqAt.shaped q = true) {r : Bool} (hr : (!p.eqv q) = r) : EvT X ρ (.Compare a [.NotEq] [b] pos) r :=
  .of (pt_cmpR (rd_ne t sp sq) pe_w pe_w (nobehind _ (by decide) (by decide))) fun B F H σ Q k q => twoP ha hb k fun x y F' H' x' rx ry => ⟨rx, ry, r, by rw [hr], q F' H' x'⟩

/-! ### built-ins -/
/-- the name means the built-in -/
structure Blt (X : Cx) (sc : Scope) (x : Str) (u : Value) : Prop where
  g : sc.names.lookup x = some .globalImplicit
  m : X.mg x = none
  v : bootBuiltins x = some u
  n : x ≠ "__name__"
  d : (x == ("__debug__" : Str)) = false
theorem gl_of (t : At X N sc) {x : Str} (h : sc.names.lookup x = some .globalImplicit) : Gl X x := by
  show X.env.scope.names.lookup x = _
  rw [t.eS]; exact h
variable {x : Str} {p : Pos} {es : List Expr} {ds : List D}
theorem ev_callB (t : At X N sc) {id : String} {r : List V → Hp → VK → Prop} (bl : Blt X sc x (.builtin id)) (hc : CallR X (.builtin id) r) (ha : EvA X ρ (e :: es) ds)
    (hr : ∀ (F H : Hp) vs (Q : VK), Same F H → RepL X.K F vs ds → (∀ v F' H', Ext ⟨F, H⟩ F' H' → Rep X.K F' v d → Q v H') → r vs H Q) : EvE X ρ (.Call (.Name x p) (e :: es) [] pos) d :=
  .of (pe_callB hc (gl_of t bl.g) bl.m bl.v pa_w bl.n bl.d (ha.1.1 _ _) (PlA.any ha.1.2)) fun B F H σ Q k q => ha.2 B F H σ _ k fun vs F' H' x' rv => hr F' H' vs Q x'.sub rv fun v F2 H2 x2 r2 => q v F2 H2 (x'.t x2) r2
theorem ev_callTy (t : At X N sc) {T : String} {r : List V → Hp → VK → Prop} (bl : Blt X sc x (.type T)) (hc : CallR X (.type T) r) (ha : EvA X ρ (e :: es) ds)
    (hr : ∀ (F H : Hp) vs (Q : VK), Same F H → RepL X.K F vs ds → (∀ v F' H', Ext ⟨F, H⟩ F' H' → Rep X.K F' v d → Q v H') → r vs H Q) : EvE X ρ (.Call (.Name x p) (e :: es) [] pos) d :=
  .of (pe_callTy hc (gl_of t bl.g) bl.m bl.v pa_w bl.n bl.d (ha.1.1 _ _) (PlA.any ha.1.2)) fun B F H σ Q k q => ha.2 B F H σ _ k fun vs F' H' x' rv => hr F' H' vs Q x'.sub rv fun v F2 H2 x2 r2 => q v F2 H2 (x'.t x2) r2
theorem RepL.one {K : PySem.W.Frag} {F : Hp} {vs : List V} {d : D} (h : RepL K F vs [d]) : ∃ v, vs = [v] ∧ Rep K F v d := by
  cases h with
  | cons r t => cases t; exact ⟨_, rfl, r⟩
theorem RepL.two {K : PySem.W.Frag} {F : Hp} {vs : List V} {d e : D} (h : RepL K F vs [d, e]) : ∃ v u, vs = [v, u] ∧ Rep K F v d ∧ Rep K F u e := by
  cases h with
  | cons r t => obtain ⟨u, rfl, q⟩ := t.one; exact ⟨_, _, rfl, r, q⟩
/-- one argument that is a sequence -/
theorem ev_len (t : At X N sc) {k : Bool} {xs : List D} (bl : Blt X sc x (.builtin "len")) (ha : EvQ X ρ e k xs) (hpe : Pl e := by intro _ _; rfl) : EvE X ρ (.Call (.Name x p) [e] [] pos) (.int xs.length) :=
  .of (pe_callB call_len_seq (gl_of t bl.g) bl.m bl.v (pa_cons pe_w pa_nil (hpe _ _)) bl.n bl.d (hpe _ _) rfl) fun B F H σ Q k' q => ha B F H σ _ k' fun l vs F' H' x' sl rl => by
    refine ⟨l, vs, rfl, ?_, ?_⟩
    · cases k with
      | true => exact .inl sl
      | false => exact .inr sl
    · rw [rl.length]; exact q _ F' H' x' (.int _)
theorem ev_abs (t : At X N sc) {i : Int} (bl : Blt X sc x (.builtin "abs")) (ha : EvE X ρ e (.int i)) (hpe : Pl e := by intro _ _; rfl) : EvE X ρ (.Call (.Name x p) [e] [] pos) (.int i.natAbs) :=
  ev_callB t bl call_abs (ea_cons ha ea_nil hpe) fun F H vs Q sub r q => by
    obtain ⟨v, rfl, rv⟩ := r.one
    cases rv
    have e : (if i < 0 then -i else i) = (i.natAbs : Int) := by split <;> omega
    exact ⟨i, rfl, by rw [e]; exact q _ F H (.refl sub) (.int _)⟩
theorem ev_intB (t : At X N sc) {k : Bool} (bl : Blt X sc x (.type "int")) (ha : EvE X ρ e (.bl k)) (hpe : Pl e := by intro _ _; rfl) : EvE X ρ (.Call (.Name x p) [e] [] pos) (.int (if k then 1 else 0)) :=
  ev_callTy t bl call_int1 (ea_cons ha ea_nil hpe) fun F H vs Q sub r q => by
    obtain ⟨v, rfl, rv⟩ := r.one
    cases rv
    exact .inr ⟨k, rfl, q _ F H (.refl sub) (.int _)⟩
/-- list(xs) -/
theorem en_list (t : At X N sc) {k : Bool} {xs : List D} (bl : Blt X sc x (.type "list")) (ha : EvQ X ρ e k xs) (hpe : Pl e := by intro _ _; rfl) : EvN X ρ (.Call (.Name x p) [e] [] pos) xs :=
  .of (pe_callTy call_list_of (gl_of t bl.g) bl.m bl.v (pa_cons pe_w pa_nil (hpe _ _)) bl.n bl.d (hpe _ _) rfl) fun B F H σ Q k' q => ha B F H σ _ k' fun l vs F' H' x' sl rl => by
    refine ⟨l, vs, rfl, ?_, fun p hp => ?_⟩
    · cases k with
      | true => exact .inl sl
      | false => exact .inr sl
    · exact q p vs F' _ ⟨x'.sub.trans (upd_sameOf hp), x'.sh.trans (upd_sameOf hp), x'.sf, x'.nw⟩ (x'.sh.free hp) upd_same (x'.sub.free hp) rl
/-- tuple(xs) of a list -/
theorem ev_tuple (t : At X N sc) {xs : List D} (bl : Blt X sc x (.type "tuple")) (ha : EvQ X ρ e true xs) (hpe : Pl e := by intro _ _; rfl) : EvE X ρ (.Call (.Name x p) [e] [] pos) (.tup xs) :=
  .of (pe_callTy call_tuple_of (gl_of t bl.g) bl.m bl.v (pa_cons pe_w pa_nil (hpe _ _)) bl.n bl.d (hpe _ _) rfl) fun B F H σ Q k' q => ha B F H σ _ k' fun l vs F' H' x' sl rl => by
    refine ⟨l, vs, rfl, .inl ⟨sl, fun p hp => ?_⟩⟩
    exact q _ _ _ (x'.grow hp) (.tup upd_same (rl.mono (upd_sameOf (x'.sub.free hp))))
/-- isinstance(x, T), T a built-in type -/
def tyD : D → Value
  | .non => .type "NoneType" | .bl _ => .type "bool" | .int _ => .type "int" | .str _ => .type "str" | .tup _ => .type "tuple" | .lst _ => .type "list" | .scr _ => .type "list" | .exc C => .ref C | .exh C _ => .ref C | .dic _ => .type "dict" | .adr _ => .type "dict" | .stt _ => .type "dict"
theorem tyOf {F H : Hp} (sub : Same F H) {v : V} {d : D} (r : Rep X.K F v d) (hd : ∀ ns, d ≠ .scr ns) (hx : ∀ C ea, d ≠ .exc C ∧ d ≠ .exh C ea ∧ d ≠ .adr C := by intro _ _; exact And.intro (fun h => by cases h) (And.intro (fun h => by cases h) (fun h => by cases h))) (hq : ∀ kvs, d ≠ .dic kvs := by intro _ h; cases h) : TyOf X.K H v (tyD d) := by
  cases r with
  | non => exact .non
  | bl b => exact .bl b
  | int i => exact .int i
  | str x => exact .str x
  | tup h _ => exact .tup (sub _ _ h)
  | lst h _ => exact .lst (sub _ _ h)
  | scr h => exact absurd rfl (hd _)
  | exc h => exact absurd rfl (hx _ 0).1
  | exh h => exact absurd rfl (hx _ _).2.1
  | adr a => exact absurd rfl (hx a 0).2.2
  | stt h => exact .dK (sub _ _ h)
  | dic h _ => exact absurd rfl (hq _)
theorem isi_ok {T : String} {k : Bool} (hx : ∀ C ea, d ≠ .exc C ∧ d ≠ .exh C ea ∧ d ≠ .adr C) (hd : ∀ ns, d ≠ .scr ns) (hq : ∀ kvs, d ≠ .dic kvs) (hk : PySem.W.kitOne X.K (tyD d) (.type T) = some k) :
    CallR X (.builtin "isinstance") (fun xs H Q => ∃ x F, xs = [x, .ty T] ∧ Same F H ∧ Rep X.K F x d ∧ Q (.bl k) H) := by
  intro pins s σ H xs us Q I r h
  obtain ⟨v, F, rfl, sub, rv, q⟩ := h
  obtain ⟨u, w, rfl, ru, rw'⟩ := vals2 r
  cases (show w = Value.type T from rw')
  exact isinst_ok I ru (tyOf sub rv hd hx hq) hk fun tk => ⟨.bl k, H, I.tok tk, rfl, q⟩
theorem ev_isi (t : At X N sc) {T : String} {y : Str} {k : Bool} {py : Pos} (bl : Blt X sc x (.builtin "isinstance")) (bt : Blt X sc y (.type T)) (ha : EvE X ρ a d) (hk : PySem.W.kitOne X.K (tyD d) (.type T) = some k) (hd : ∀ ns, d ≠ .scr ns := by intro _ h; cases h) (hpa : Pl a := by intro _ _; rfl) (hx : ∀ C ea, d ≠ .exc C ∧ d ≠ .exh C ea ∧ d ≠ .adr C := by intro _ _; exact And.intro (fun h => by cases h) (And.intro (fun h => by cases h) (fun h => by cases h))) (hq : ∀ kvs, d ≠ .dic kvs := by intro _ h; cases h) :
    EvE X ρ (.Call (.Name x p) [a, .Name y py] [] pos) (.bl k) :=
  .of (pe_callB (isi_ok hx hd hq hk) (gl_of t bl.g) bl.m bl.v (pa_cons pe_w (pa_cons (pe_bltn (v := .ty T) (gl_of t bt.g) bt.m bt.v rfl bt.n bt.d) pa_nil) (hpa _ _)) bl.n bl.d (hpa _ _) rfl) fun B F H σ Q k' q =>
    ha B F H σ _ k' fun v F' H' x' r => ⟨v, F', rfl, x'.sub, r, q _ F' H' x' (.bl k)⟩
/-- all, any of a list of truths -/
theorem RepL.bls {K : PySem.W.Frag} {F : Hp} : ∀ {bs : List Bool} {vs : List V}, RepL K F vs (bs.map D.bl) → vs = bs.map V.bl
  | [], _, h => by cases h; rfl
  | b :: bs, _, h => by
    cases h with
    | cons r t => cases r; rw [List.map_cons, RepL.bls t]
theorem boolsAre : ∀ {bs : List Bool} {us : List Value}, Vals (bs.map V.bl) us → LSm.BoolsAre us bs
  | [], _, r => by cases r; exact .nil
  | b :: bs, _, r => by
    rw [List.map_cons] at r
    cases r with
    | cons r1 r2 =>
      cases (show _ = Value.bool b from r1)
      exact .cons b (boolsAre r2)
theorem call_allB (hc : X.calm = true) : CallR X (.builtin "all") (fun xs H Q => ∃ (l : Addr) (bs : List Bool), xs = [.ref l] ∧ SqL X.K H l (bs.map V.bl) ∧ Q (.bl (bs.all id)) H) := by
  intro pins s σ H xs us Q I r h
  obtain ⟨l, bs, rfl, sl, q⟩ := h
  obtain ⟨u, rfl, ru⟩ := vals1 r
  cases (show u = Value.ref l from ru)
  obtain ⟨vs, rv, pl, hz⟩ := I.list sl
  have hb := boolsAre rv
  have hl := pl.isList
  have hlt : l < s.heap.objs.size := by obtain ⟨_, e, _⟩ := hl; exact Heap.lt_size e
  refine call_all_walk (wpAny_pyIter_list hl ?_)
  refine ⟨s.heap.objs.size, [s.heap.objs.size, l], [s.heap.objs.size], vs.toArray.size, _, _, fun i => (bs[i]?).getD true, rfl, Walks.list (A := X.A.in1) (I.ok.hd hc) _ l (Nat.ne_of_lt hlt) vs.toArray,
    ⟨⟨_, Heap.get?_push_size _ rfl, rfl, rfl⟩, hl.push _⟩, fun i v s' Q' E' hP hQ => ?_, fun h' tk hk => ?_⟩
  · obtain ⟨b, e, rfl⟩ := hb.get i v (by simpa using hP)
    simp only [e, Option.getD_some] at hQ
    exact wpAny_truthy_bool hQ
  · have e : ((List.range vs.toArray.size).all fun i => (bs[i]?).getD true) = bs.all id := by
      rw [List.size_toArray, hb.length]; exact LSm.range_all bs
    rw [e]
    exact ⟨.bl _, H, I.kept (LSm.kept_iter hk), rfl, q⟩
theorem call_anyB (hc : X.calm = true) : CallR X (.builtin "any") (fun xs H Q => ∃ (l : Addr) (bs : List Bool), xs = [.ref l] ∧ SqL X.K H l (bs.map V.bl) ∧ Q (.bl (bs.any id)) H) := by
  intro pins s σ H xs us Q I r h
  obtain ⟨l, bs, rfl, sl, q⟩ := h
  obtain ⟨u, rfl, ru⟩ := vals1 r
  cases (show u = Value.ref l from ru)
  obtain ⟨vs, rv, pl, hz⟩ := I.list sl
  have hb := boolsAre rv
  have hl := pl.isList
  have hlt : l < s.heap.objs.size := by obtain ⟨_, e, _⟩ := hl; exact Heap.lt_size e
  refine call_any_walk (wpAny_pyIter_list hl ?_)
  refine ⟨s.heap.objs.size, [s.heap.objs.size, l], [s.heap.objs.size], vs.toArray.size, _, _, fun i => (bs[i]?).getD false, rfl, Walks.list (A := X.A.in1) (I.ok.hd hc) _ l (Nat.ne_of_lt hlt) vs.toArray,
    ⟨⟨_, Heap.get?_push_size _ rfl, rfl, rfl⟩, hl.push _⟩, fun i v s' Q' E' hP hQ => ?_, fun h' tk hk => ?_⟩
  · obtain ⟨b, e, rfl⟩ := hb.get i v (by simpa using hP)
    simp only [e, Option.getD_some] at hQ
    exact wpAny_truthy_bool hQ
  · have e : ((List.range vs.toArray.size).any fun i => (bs[i]?).getD false) = bs.any id := by
      rw [List.size_toArray, hb.length]; exact LSm.range_any bs
    rw [e]
    exact ⟨.bl _, H, I.kept (LSm.kept_iter hk), rfl, q⟩
theorem ev_all (t : At X N sc) {bs : List Bool} (bl : Blt X sc x (.builtin "all")) (ha : EvQ X ρ e true (bs.map D.bl)) (hpe : Pl e := by intro _ _; rfl) : EvE X ρ (.Call (.Name x p) [e] [] pos) (.bl (bs.all id)) :=
  .of (pe_callB (call_allB t.calm) (gl_of t bl.g) bl.m bl.v (pa_cons pe_w pa_nil (hpe _ _)) bl.n bl.d (hpe _ _) rfl) fun B F H σ Q k' q => ha B F H σ _ k' fun l vs F' H' x' sl rl => by
    have e := rl.bls
    subst e
    exact ⟨l, bs, rfl, sl, q _ F' H' x' (.bl _)⟩
theorem ev_any (t : At X N sc) {bs : List Bool} (bl : Blt X sc x (.builtin "any")) (ha : EvQ X ρ e true (bs.map D.bl)) (hpe : Pl e := by intro _ _; rfl) : EvE X ρ (.Call (.Name x p) [e] [] pos) (.bl (bs.any id)) :=
  .of (pe_callB (call_anyB t.calm) (gl_of t bl.g) bl.m bl.v (pa_cons pe_w pa_nil (hpe _ _)) bl.n bl.d (hpe _ _) rfl) fun B F H σ Q k' q => ha B F H σ _ k' fun l vs F' H' x' sl rl => by
    have e := rl.bls
    subst e
    exact ⟨l, bs, rfl, sl, q _ F' H' x' (.bl _)⟩

/-! ### own defs -/
/-- what a def promises: for these data that datum, all else as it was -/
def spC (K : PySem.W.Frag) (C : List D → D → Prop) : Sp := fun vs H Q _ => ∃ F ds d, Same F H ∧ RepL K F vs ds ∧ C ds d ∧ ∀ v F' H', Ext ⟨F, H⟩ F' H' → Rep K F' v d → Q v H'
def Callee (X : Cx) (x : Str) (C : List D → D → Prop) : Prop := ∃ (f : Addr) (fd : FuncData) (ps : List Str) (k : Nat), FnOk X.prog X.w X.K X.mg X.base CX0 k f fd ps (spC X.K C) ∧ Room k X.A ∧ X.mg x = some (.ref f) ∧ PySem.W.keepIn X.K (.ref f) = true ∧ Binds X.K fd ps []
theorem ev_call (t : At X N sc) {C : List D → D → Prop} (h : Callee X x C) (ha : EvA X ρ (e :: es) ds) (hC : C ds d) (hg : sc.names.lookup x = some .globalImplicit := by rfl) (hdb : (x == ("__debug__" : Str)) = false := by rfl) : EvE X ρ (.Call (.Name x p) (e :: es) [] pos) d := by
  obtain ⟨f, fd, ps, k, F, hr, hm, hk, hb⟩ := h
  have pz : Passes CX0 X E0 := pass0
  refine .of (pe_call F hr (gl_of t hg) hm hk hb .nil pz pa_w hdb (ha.1.1 _ _) (PlA.any ha.1.2)) fun B F' H σ Q k' q => ha.2 B F' H σ _ k' fun vs F1 H1 x1 r1 => ?_
  refine ⟨F1, ds, d, x1.sub, by rw [List.append_nil]; exact r1, hC, fun v F2 H2 x2 r2 => q v F2 H2 (x1.t x2) r2⟩

/-- an environment by its scope alone -/
def dE (sc : Scope) : Env := { scope := sc, locals := 0, globals := 0, cells := [], qual := "", func := none, code := .none, frame := none, builtins := 0 }
theorem swst_eq {ts : List Expr} {v : Expr} {env env' : Env} (h : env.scope = env'.scope) : swappedStores ts v env = swappedStores ts v env' := by
  unfold swappedStores Env.blockKind Env.kindOf
  rw [h]
theorem sww_eq {v : Expr} {tg : Option Expr} {n : Nat} {env env' : Env} (h : env.scope = env'.scope) : swapsWith v tg n env = swapsWith v tg n env' := by
  unfold swapsWith Env.blockKind Env.kindOf
  rw [h]
/-! ### statements -/
variable {st : Stmt} {rest : List Stmt} {o : Out} {ρ' : Rho}
theorem es_nil : EvSs X ρ [] (.nx ρ) := .of pss_nil fun B F H σ E k q => q F H σ k (.refl _)
theorem es_cons (h1 : EvS X ρ st (.nx ρ')) (h2 : EvSs X ρ' rest o) : EvSs X ρ (st :: rest) o :=
  .of (pss_cons ps_w pss_w) fun B F H σ E k q => h1 B F H σ _ k fun F1 H1 σ1 k1 s1 => h2 B F1 H1 σ1 E k1 (q.later s1)
theorem es_ret (h1 : EvS X ρ st (.rt d)) : EvSs X ρ (st :: rest) (.rt d) :=
  .of (pss_cons ps_w pss_w) fun B F H σ E k q => h1 B F H σ _ k q
theorem es_one (h1 : EvS X ρ st o) : EvSs X ρ [st] o := .of (pss_one ps_w) fun B F H σ E k q => h1 B F H σ E k q
/-- a list of one's own is frozen ahead of a statement -/
theorem es_freeze {xs : List D} (i : Nat) (hi : ρ[i]? = some (.own xs)) (h : EvSs X (ρ.set i (.val (.lst xs))) rest o) : EvSs X ρ rest o := fun B F H σ E k q => by
  obtain ⟨F', sf, k'⟩ := k.freezeAt hi
  exact h B F' H σ E k' (q.later sf)
theorem s_ret (h : EvE X ρ e d) : EvS X ρ (.Return (some e) pos) (.rt d) :=
  .of (ps_ret pe_w) fun B F H σ E k q => h B F H σ _ k fun v F' H' x r => q v F' H' (k.toExt.trans x) r
theorem s_ifT {ss us : List Stmt} (hc : EvT X ρ c true) (h : EvSs X ρ ss o) : EvS X ρ (.If c ss us pos) o :=
  .of (ps_if pt_w pss_w pss_w) fun B F H σ E k q => hc B F H σ _ k fun F1 H1 x1 => by rw [if_pos rfl]; exact h B F1 H1 σ E (k.ext x1) (q.later x1.sf)
theorem s_ifF {ss us : List Stmt} (hc : EvT X ρ c false) (h : EvSs X ρ us o) : EvS X ρ (.If c ss us pos) o :=
  .of (ps_if pt_w pss_w pss_w) fun B F H σ E k q => hc B F H σ _ k fun F1 H1 x1 => by rw [if_neg Bool.false_ne_true]; exact h B F1 H1 σ E (k.ext x1) (q.later x1.sf)
theorem hfT [FnT X] {x : Str} : X.fn x = true ∨ X.env.scope.names.lookup x = some .local := .inl (FnT.fn x)
theorem At.loc (t : At X N sc) {x : Str} (hx : LocS sc x = true) : Loc X.env.scope x := by rw [t.eS]; exact loc_of hx
theorem At.ix (t : At X N sc) {i : Nat} {x : Str} (h : N[i]? = some x) : X.N[i]? = some x := by rw [t.eN]; exact h
/-- name = value -/
theorem s_set [FnT X] (t : At X N sc) (i : Nat) {pos' : Pos} (h : EvE X ρ e d) (hi : N[i]? = some x := by rfl) (hx : LocS sc x = true := by rfl) (hs : swapsWith e (some (.Name x pos')) pos.line X.env = pure false := by rfl) :
    EvS X ρ (.Assign [.Name x pos'] e pos) (.nx (ρ.set i (.val d))) :=
  .of (ps_set (i := i) t.nd (t.ix hi) (t.loc hx) pe_w hs hfT) fun B F H σ E k q => h B F H σ _ k fun v F' H' x' r => q F' H' _ ((k.ext x').setVal i r) x'.sf
theorem s_setN [FnT X] (t : At X N sc) (i : Nat) {pos' : Pos} {xs : List D} (h : EvN X ρ e xs) (hi : N[i]? = some x := by rfl) (hx : LocS sc x = true := by rfl) (hs : swapsWith e (some (.Name x pos')) pos.line X.env = pure false := by rfl) :
    EvS X ρ (.Assign [.Name x pos'] e pos) (.nx (ρ.set i (.own xs))) :=
  .of (ps_set (i := i) t.nd (t.ix hi) (t.loc hx) pe_w hs hfT) fun B F H σ E k q => h B F H σ _ k fun p vs F' H' x' h0 hp hf r =>
    q F' H' _ ((k.ext x').setOwn i hp hf (k.sh.free h0) (k.noOwn h0) r) x'.sf
/-! ### targets -/
theorem eg_name [FnT X] (t : At X N sc) (i : Nat) (hi : N[i]? = some x := by rfl) (hx : LocS sc x = true := by rfl) : EvG X ρ (.Name x pos) d (ρ.set i (.val d)) :=
  .of (pg_name (i := i) t.nd (t.ix hi) (t.loc hx) hfT) fun B F H σ v Q k r q => q F H _ (k.setVal i r) (.refl _)
theorem eg_tup2 [FnT X] (t : At X N sc) (i j : Nat) {y : Str} {u v : D} {px py : Pos} {kt : Nat} (hi : N[i]? = some x := by rfl) (hj : N[j]? = some y := by rfl) (hx : LocS sc x = true := by rfl) (hy : LocS sc y = true := by rfl) :
    EvG X ρ (.Tuple [.Name x px, .Name y py] kt pos) (.tup [u, v]) ((ρ.set i (.val u)).set j (.val v)) :=
  .of (pg_tup t.calm (pgs_cons (pg_name (i := i) t.nd (t.ix hi) (t.loc hx) hfT) (pgs_cons (pg_name (i := j) t.nd (t.ix hj) (t.loc hy) hfT) pgs_nil))) fun B F H σ w Q k r q => by
    cases r with
    | tup h rl =>
      obtain ⟨v1, v2, rfl, r1, r2⟩ := rl.two
      exact ⟨_, _, rfl, SqT.of (k.sub _ _ h), rfl, _, _, rfl, _, _, rfl, rfl, q F H _ ((k.setVal i r1).setVal j r2) (.refl _)⟩
theorem egn_name (t : At X N sc) (i : Nat) (hi : N[i]? = some x := by rfl) (hx : sc.names.lookup x = some .local := by rfl) : EvGn X ρ (.Name x pos) d (ρ.set i (.val d)) :=
  .of (pg_name (i := i) t.nd (t.ix hi) (by rw [t.eS]; exact .inl hx) (by rw [t.eS]; exact .inr hx)) fun B F H σ v Q k r q => q _ (k.setVal i r) fun p h => h.setVal i _ d
/-- a target of several names = value -/
theorem s_asg (t : At X N sc) {tg : Expr} (h : EvE X ρ e d) (hg : EvG X ρ tg d ρ') (hs : swapsWithSole [tg] e pos.line X.env = pure false := by rfl) (hw : swappedStores [tg] e (dE sc) = pure none := by rfl)
    (h1 : (assignEach [tg] X.env).map (·.2) = [assign tg X.env] := by rfl) : EvS X ρ (.Assign [tg] e pos) (.nx ρ') :=
  .of (ps_asg pe_w pg_w hs ((swst_eq (show X.env.scope = (dE sc).scope from t.eS)).trans hw) h1) fun B F H σ E k q => h B F H σ _ k fun v F1 H1 x1 r1 => hg B F1 H1 σ v _ (k.ext x1) r1 fun F2 H2 σ2 k2 s2 => q F2 H2 σ2 k2 (x1.sf.trans s2)

/-! ### a list of one's own, changed -/
theorem own_wE (t : At X N sc) {i : Nat} {xs : List D} (hr : ρ[i]? = some (.own xs)) (hN : N[i]? = some x) (hv : VisS sc x = true) (hx : NameOk x = true) {B : B0} {F H : Hp} {σ : St} {Q : VK} (k : Ok X.K B F H σ ρ)
    (h : ∀ p vs, σ[i]? = some (some (.ref p)) → H p = some (.lst vs) → RepL X.K F vs xs → Q (.ref p) H) : wE X (.Name x pos) σ H Q := .mk fun pins s I => by
  obtain ⟨p, vs, h1, h2, h3, h4, h5⟩ := k.owns i xs hr
  exact pvAt t hN hv hx pins s σ H Q I ⟨_, h1, h p vs h1 h2 h5⟩
theorem s_append (t : At X N sc) (i : Nat) {xs : List D} {apos cpos : Pos} {y : Str} (hr : ρ[i]? = some (.own xs)) (h : EvE X ρ e d) (hz : xs.length < sizeLine) (hN : N[i]? = some y := by rfl) (hv : VisS sc y = true := by rfl) (hx : NameOk y = true := by rfl)
    (hs : starEach [e] X.env = (false, eval e X.env) :: starEach [] X.env := by rfl) (hline : (apos.endLine == cpos.line) = true := by rfl) (hpl : (backTo cpos (starEach [] X.env)).any (·.1) = false := by rfl)
    (hfew : ((backTo cpos (starEach [e] X.env)).all (fun x => !x.1) && (backToKw cpos (keywordEach [] X.env)).all (fun x => x.1.isSome) && decide (([e] : List Expr).length + ([] : List Keyword).length + (if ([] : List Keyword).isEmpty then 0 else 1) < 30)) = true := by rfl)
    (hsw : swapsWith (.Call (.Attribute (.Name y p) "append" apos) [e] [] cpos) none pos.line X.env = pure false := by rfl) :
    EvS X ρ (.Expr (.Call (.Attribute (.Name y p) "append" apos) [e] [] cpos) pos) (.nx (ρ.set i (.own (xs ++ [d])))) :=
  .of (ps_expr (pe_bm PySem.F.plainAttrs_list PySem.F.slot_list_append PySem.F.type_list_append mt_append pe_w (pa_cons pe_w pa_nil hs) rfl hfew hline hs hpl) hsw) fun B F H σ E k q =>
    own_wE t hr hN hv hx k fun l vs h1 h2 h3 => ⟨.inl ⟨rfl, _, SqL.of h2⟩, h B F H σ _ k fun v F' H' x' r => by
      have k' := k.ext x'
      have h2' := x'.sh _ _ h2
      refine ⟨l, vs, v, rfl, rfl, h2', by rw [h3.length]; exact hz, ?_⟩
      exact q F' _ _ (k'.chgOwn (vs := vs) hr h1 ((h3.mono x'.sf).append (.cons r .nil))) x'.sf⟩
theorem s_pop (t : At X N sc) (i : Nat) {xs : List D} {apos cpos : Pos} {y : Str} (hr : ρ[i]? = some (.own xs)) (hz : xs ≠ []) (hN : N[i]? = some y := by rfl) (hv : VisS sc y = true := by rfl) (hx : NameOk y = true := by rfl)
    (hline : (apos.endLine == cpos.line) = true := by rfl) (hsw : swapsWith (.Call (.Attribute (.Name y p) "pop" apos) [] [] cpos) none pos.line X.env = pure false := by rfl) :
    EvS X ρ (.Expr (.Call (.Attribute (.Name y p) "pop" apos) [] [] cpos) pos) (.nx (ρ.set i (.own xs.dropLast))) :=
  .of (ps_expr (pe_bm0 PySem.F.plainAttrs_list PySem.F.slot_list_pop PySem.F.type_list_pop mt_pop pe_w rfl hline) hsw) fun B F H σ E k q =>
    own_wE t hr hN hv hx k fun l vs h1 h2 h3 => ⟨.inl ⟨rfl, _, SqL.of h2⟩, by
      have hl := h3.length
      have hne : vs ≠ [] := fun z => hz (List.eq_nil_of_length_eq_zero (by rw [← hl, z]; rfl))
      obtain ⟨w, hw⟩ : ∃ w, vs[vs.length - 1]? = some w := ⟨vs[vs.length - 1]'(by have := List.length_pos_iff.mpr hne; omega), List.getElem?_eq_getElem _⟩
      exact ⟨l, vs, w, rfl, rfl, h2, hw, q F _ _ (k.chgOwn (vs := vs) hr h1 h3.dropLast) (.refl _)⟩⟩
end
end L2.EV

set_option linter.all false
set_option autoImplicit false
set_option maxRecDepth 100000
namespace L2.EV
open PySem PySem.Spec PyProof.Rows

/-! ### what a loop walks -/
structure wI (X : Cx) (tg e : Expr) (σ : St) (H : Hp) (R : It → Hp → Prop) : Prop where
  go : ∀ (pins : List (Addr × Obj)) (s : Shared), Inv X pins σ H s → wpAny (model X.prog X.w) X.A (eval e X.env) (fun v s1 => wpAny (model X.prog X.w) X.A (pyIter v) (PIE X pins σ tg R) X.xe s1) X.xe s
instance wI_f {X : Cx} {tg e : Expr} {σ : St} {H : Hp} {R : It → Hp → Prop} : CoeFun (wI X tg e σ H R) (fun _ => ∀ (pins : List (Addr × Obj)) (s : Shared), Inv X pins σ H s → wpAny (model X.prog X.w) X.A (eval e X.env) (fun v s1 => wpAny (model X.prog X.w) X.A (pyIter v) (PIE X pins σ tg R) X.xe s1) X.xe s) := ⟨wI.go⟩
theorem pi_w {X : Cx} {tg e : Expr} : PI X tg e (wI X tg e) := fun pins s _ _ _ I h => h pins s I
/-- the iterator yields just these, while the frozen part stands -/
def ItOk (K : PySem.W.Frag) (J : It) (F : Hp) (ds : List D) : Prop := ∀ (i : Nat) (F2 H2 : Hp), Same F F2 → Same F2 H2 →
  (∀ d, ds[i]? = some d → J.go i H2 ∧ ∀ x H', J.yld i H2 x H' → ∃ F', Ext ⟨F2, H2⟩ F' H' ∧ Rep K F' x d) ∧ (ds.length ≤ i → J.stop i H2)
def EvI (X : Cx) (ρ : Rho) (tg e : Expr) (ds : List D) : Prop := ∀ (B : B0) (F H : Hp) (σ : St) (R : It → Hp → Prop), Ok X.K B F H σ ρ →
  (∀ J F' H', Ext ⟨F, H⟩ F' H' → ItOk X.K J F' ds → R J H') → wI X tg e σ H R
section
variable {X : Cx} {ρ : Rho} {tg e a b c : Expr} {d : D} {pos : Pos} {N : List Str} {sc : Scope} {ds : List D}
theorem EvI.of {t : TI} (h : PI X tg e t) (r : ∀ (B : B0) (F H : Hp) (σ : St) (R : It → Hp → Prop), Ok X.K B F H σ ρ → (∀ J F' H', Ext ⟨F, H⟩ F' H' → ItOk X.K J F' ds → R J H') → t σ H R) : EvI X ρ tg e ds :=
  fun B F H σ R k q => .mk fun pins s I => h pins s σ H R I (r B F H σ R k q)
/-- the i-th item that the rule asks of any list that stands there -/
theorem itl_ok' {K : PySem.W.Frag} {F : Hp} {l : Addr} {vs : List V} (hs : ∀ H, Same F H → SqL K H l vs) (r : RepL K F vs ds) : ItOk K (Itl K l) F ds := fun i F2 H2 s1 s2 =>
  ⟨fun d hd => by
    obtain ⟨v, hv, rv⟩ := r.get hd
    have sq := hs H2 (s1.trans s2)
    refine ⟨⟨vs, v, sq, hv⟩, fun x H' y => ?_⟩
    obtain ⟨rfl, y⟩ := y
    have e := y vs sq
    rw [hv] at e; cases e
    exact ⟨F2, .refl s2, rv.mono s1⟩, fun h => ⟨vs, hs H2 (s1.trans s2), by rw [r.length]; exact h⟩⟩
theorem itt_ok {K : PySem.W.Frag} {F : Hp} {l : Addr} {vs : List V} (hs : ∀ H, Same F H → SqT K H l vs) (r : RepL K F vs ds) : ItOk K (Itt K l) F ds := fun i F2 H2 s1 s2 =>
  ⟨fun d hd => by
    obtain ⟨v, hv, rv⟩ := r.get hd
    have sq := hs H2 (s1.trans s2)
    refine ⟨⟨vs, v, sq, hv⟩, fun x H' y => ?_⟩
    obtain ⟨rfl, y⟩ := y
    have e := y vs sq
    rw [hv] at e; cases e
    exact ⟨F2, .refl s2, rv.mono s1⟩, fun h => ⟨vs, hs H2 (s1.trans s2), by rw [r.length]; exact h⟩⟩
theorem ei_lst (h : EvE X ρ e (.lst ds)) : EvI X ρ tg e ds := .of (pi_list pe_w) fun B F H σ R k q => h B F H σ _ k fun v F' H' x r => by
  cases r with
  | lst hf rl => exact ⟨_, rfl, ⟨_, SqL.of (x.sub _ _ hf)⟩, q _ F' H' x (itl_ok' (fun H2 s2 => SqL.of (s2 _ _ hf)) rl)⟩
theorem ei_tup (h : EvE X ρ e (.tup ds)) : EvI X ρ tg e ds := .of (pi_tup pe_w) fun B F H σ R k q => h B F H σ _ k fun v F' H' x r => by
  cases r with
  | tup hf rl => exact ⟨_, rfl, ⟨_, SqT.of (x.sub _ _ hf)⟩, q _ F' H' x (itt_ok (fun H2 s2 => SqT.of (s2 _ _ hf)) rl)⟩
/-- lo, lo + 1, .. -/
def rangeD (lo : Int) (n : Nat) : List D := (List.range n).map fun (i : Nat) => D.int (lo + (i : Int))
theorem itr_ok {K : PySem.W.Frag} {F : Hp} {lo : Int} {n : Nat} : ItOk K (Itr lo n) F (rangeD lo n) := fun i F2 H2 s1 s2 =>
  ⟨fun d hd => by
    unfold rangeD at hd
    rw [List.getElem?_map] at hd
    have hi : i < n := by
      by_cases h : i < n
      · exact h
      · rw [List.getElem?_eq_none (by simpa using h)] at hd; cases hd
    rw [List.getElem?_range hi] at hd
    cases hd
    refine ⟨hi, fun x H' y => ?_⟩
    obtain ⟨rfl, rfl⟩ := y
    exact ⟨F2, .refl s2, .int _⟩, fun h => by
      have h' : n ≤ i := by simpa [rangeD] using h
      exact h'⟩
theorem ei_range1 (t : At X N sc) {j : Int} {p : Pos} (bl : Blt X sc "range" (.type "range")) (h : EvE X ρ a (.int j)) (h1 : -(2 ^ 62) ≤ j) (h2 : j < 2 ^ 62) (hs : Pl a := by intro _ _; rfl) : EvI X ρ tg (.Call (.Name "range" p) [a] [] pos) (rangeD 0 j.toNat) :=
  .of (pi_range1 (gl_of t bl.g) bl.m (pa_cons pe_w pa_nil (hs _ _)) (hs _ _)) fun B F H σ R k q => h B F H σ _ k fun v F' H' x r => by
    cases r
    exact ⟨j, rfl, h1, h2, q _ F' H' x itr_ok⟩
theorem ei_range2 (t : At X N sc) {i j : Int} {p : Pos} (bl : Blt X sc "range" (.type "range")) (ha : EvE X ρ a (.int i)) (hb : EvE X ρ b (.int j)) (hc : -(2 ^ 62) ≤ i ∧ i < 2 ^ 62 ∧ -(2 ^ 62) ≤ j ∧ j < 2 ^ 62) (hsa : Pl a := by intro _ _; rfl) (hsb : Pl b := by intro _ _; rfl) :
    EvI X ρ tg (.Call (.Name "range" p) [a, b] [] pos) (rangeD i (j - i).toNat) :=
  .of (pi_range2 (gl_of t bl.g) bl.m (pa_cons pe_w (pa_cons pe_w pa_nil (hsb _ _)) (hsa _ _)) (by rw [hsa, hsb]; rfl) (hsb _ _)) fun B F H σ R k q => ha B F H σ _ k fun v F1 H1 x1 r1 => hb B F1 H1 σ _ (k.ext x1) fun w F2 H2 x2 r2 => by
    cases r1; cases r2
    exact ⟨i, j, rfl, hc, q _ F2 H2 (x1.t x2) itr_ok⟩

/-! ### for -/
inductive FRun (X : Cx) (tg : Expr) (body : List Stmt) : List D → Rho → Out → Prop where
  | nil {ρ : Rho} : FRun X tg body [] ρ (.nx ρ)
  | cons {d : D} {ds : List D} {ρ ρ1 ρ2 : Rho} {o : Out} : EvG X ρ tg d ρ1 → EvSs X ρ1 body (.nx ρ2) → FRun X tg body ds ρ2 o → FRun X tg body (d :: ds) ρ o
  | ret {d r : D} {ds : List D} {ρ ρ1 : Rho} : EvG X ρ tg d ρ1 → EvSs X ρ1 body (.rt r) → FRun X tg body (d :: ds) ρ (.rt r)
theorem drop_cons {α : Type} {xs ys : List α} {x : α} {i : Nat} (h : xs.drop i = x :: ys) : xs[i]? = some x ∧ xs.drop (i + 1) = ys ∧ i < xs.length := by
  have hi : i < xs.length := by
    by_cases q : i < xs.length
    · exact q
    · rw [List.drop_eq_nil_of_le (by omega)] at h; cases h
  have e := List.drop_eq_getElem_cons hi
  rw [h] at e
  injection e with e1 e2
  exact ⟨by rw [List.getElem?_eq_getElem hi, e1], e2.symm, hi⟩
theorem s_for (t : At X N sc) {body : List Stmt} {o : Out} (hi : EvI X ρ tg e ds) (h : FRun X tg body ds ρ o) (hs : ∀ x, foldedSetIterable e X.env x = pure x := by intro _; rfl) : EvS X ρ (.For tg e body [] pos) o :=
  .of (ps_for t.pass t.calm pi_w pg_w pss_w hs) fun B F H σ E k q => hi B F H σ _ k fun J F1 H1 x1 J1 => by
    refine ⟨fun i m σ H => ∃ ρ' F', Ok X.K B F' H σ ρ' ∧ Same F1 F' ∧ FRun X tg body (ds.drop i) ρ' o ∧ m = ds.length - i, ⟨ds.length, ρ, F1, k.ext x1, .refl _, by simpa using h, by simp⟩, ?_⟩
    rintro i m σ H ⟨ρ', F', k', sf, run, rfl⟩
    have q' : Post X.K B F' E o := q.later (x1.sf.trans sf)
    have J2 := J1 i F' H sf k'.sub
    generalize e1 : ds.drop i = rest at run
    cases run with
    | nil =>
      have hl : ds.length ≤ i := by
        have := congrArg List.length e1
        rw [List.length_drop, List.length_nil] at this
        omega
      exact .inl ⟨J2.2 hl, q' F' H σ k' (.refl _)⟩
    | @cons d0 ds0 ρ0 ρ1 ρ2 o0 g b r =>
      obtain ⟨hd, hr, hlt⟩ := drop_cons e1
      obtain ⟨go, yl⟩ := J2.1 _ hd
      refine .inr ⟨go, fun σ' H' => ∃ F'', Ok X.K B F'' H' σ' ρ2 ∧ Same F1 F'', fun σ' H' ⟨F'', k'', s''⟩ => ⟨ds.length - (i + 1), by omega, _, F'', k'', s'', by rw [hr]; exact r, rfl⟩, fun x H' y => ?_⟩
      obtain ⟨F2, x2, rx⟩ := yl x H' y
      refine g B F2 H' σ x _ (k'.ext x2) rx fun F3 H3 σ3 k3 s3 => b B F3 H3 σ3 _ k3 fun F4 H4 σ4 k4 s4 => ⟨F4, k4, sf.trans (x2.sf.trans (s3.trans s4))⟩
    | ret g b =>
      obtain ⟨hd, hr, hlt⟩ := drop_cons e1
      obtain ⟨go, yl⟩ := J2.1 _ hd
      refine .inr ⟨go, fun _ _ => False, fun σ' H' z => z.elim, fun x H' y => ?_⟩
      obtain ⟨F2, x2, rx⟩ := yl x H' y
      exact g B F2 H' σ x _ (k'.ext x2) rx fun F3 H3 σ3 k3 s3 => b B F3 H3 σ3 _ k3 q
/-- the loop by the state behind each turn -/
theorem FRun.of (body : List Stmt) (R : Nat → Rho) : ∀ (ds : List D) (i : Nat), (∀ (j : Nat) d, ds[j]? = some d → ∃ ρ1, EvG X (R (i + j)) tg d ρ1 ∧ EvSs X ρ1 body (.nx (R (i + j + 1)))) → FRun X tg body ds (R i) (.nx (R (i + ds.length)))
  | [], i, _ => .nil
  | d :: ds, i, h => by
    obtain ⟨ρ1, h1, h2⟩ := h 0 d rfl
    refine .cons h1 h2 ?_
    have r := FRun.of body R ds (i + 1) fun j e he => by
      have := h (j + 1) e (by simpa using he)
      rw [show i + 1 + j = i + (j + 1) by omega]
      exact this
    rw [show i + (d :: ds).length = i + 1 + ds.length by simp; omega]
    exact r

/-! ### while -/
inductive WRun (X : Cx) (c : Expr) (body : List Stmt) : Nat → Rho → Out → Prop where
  | stop {ρ : Rho} : EvT X ρ c false → WRun X c body 0 ρ (.nx ρ)
  | step {n : Nat} {ρ ρ1 : Rho} {o : Out} : EvT X ρ c true → EvSs X ρ body (.nx ρ1) → WRun X c body n ρ1 o → WRun X c body (n + 1) ρ o
  | ret {ρ : Rho} {r : D} : EvT X ρ c true → EvSs X ρ body (.rt r) → WRun X c body 0 ρ (.rt r)
theorem s_while (t : At X N sc) {body : List Stmt} {o : Out} (h : ∃ n, WRun X c body n ρ o) : EvS X ρ (.While c body [] pos) o :=
  .of (ps_while t.pass pt_w pss_w) fun B F H σ E k q => by
    obtain ⟨n, h⟩ := h
    refine ⟨fun m σ H => ∃ ρ' F', Ok X.K B F' H σ ρ' ∧ Same F F' ∧ WRun X c body m ρ' o, ⟨n, ρ, F, k, .refl _, h⟩, ?_⟩
    rintro m σ H ⟨ρ', F', k', sf, run⟩
    cases run with
    | stop hc =>
      refine hc B F' H σ _ k' fun F1 H1 x1 => ?_
      rw [if_neg Bool.false_ne_true]
      exact q F1 H1 σ (k'.ext x1) (sf.trans x1.sf)
    | @step n0 ρ0 ρ1 o0 hc hb r =>
      refine hc B F' H σ _ k' fun F1 H1 x1 => ?_
      rw [if_pos rfl]
      exact ⟨fun σ' H' => ∃ F'', Ok X.K B F'' H' σ' ρ1 ∧ Same F F'', fun σ' H' ⟨F'', k'', s''⟩ => ⟨_, Nat.lt_succ_self _, _, F'', k'', s'', r⟩, hb B F1 H1 σ _ (k'.ext x1) fun F2 H2 σ2 k2 s2 => ⟨F2, k2, sf.trans (x1.sf.trans s2)⟩⟩
    | ret hc hb =>
      refine hc B F' H σ _ k' fun F1 H1 x1 => ?_
      rw [if_pos rfl]
      exact ⟨fun _ _ => False, fun σ' H' z => z.elim, hb B F1 H1 σ _ (k'.ext x1) q⟩

/-! ### a def -/
structure DefX (P : Program) (w : World) (K : PySem.W.Frag) (mg : Str → Option Value) (base : Heap) (k : Nat) (N : List Str) (sc : Scope) (X : Cx) : Prop where
  at' : At X N sc
  prog : X.prog = P
  w' : X.w = w
  k' : X.K = K
  mg' : X.mg = mg
  base' : X.base = base
  room : Room k X.A
  fnT : FnT X
  stk : X.stack = X.env :: X.outer ∧ X.env.frame = some X.env.locals
theorem ok_start {K : PySem.W.Frag} {F H : Hp} {vs : List V} (sub : Same F H) (r : RepL K F vs ds) (n : Nat) : Ok K ⟨F, H⟩ F H (vs.map some ++ List.replicate n none) (ds.map Sl.val ++ List.replicate n Sl.un) := by
  have hl := r.length
  have own : ∀ (i : Nat) xs, (ds.map Sl.val ++ List.replicate n Sl.un)[i]? ≠ some (.own xs) := fun i xs h => by
    by_cases hi : i < ds.length
    · rw [List.getElem?_append_left (by simpa using hi), List.getElem?_map] at h
      cases e : ds[i]? with
      | none => rw [e] at h; cases h
      | some d => rw [e] at h; cases h
    · rw [List.getElem?_append_right (by simpa using hi), List.getElem?_replicate] at h
      split at h <;> cases h
  have ownD : ∀ (i : Nat) xs, (ds.map Sl.val ++ List.replicate n Sl.un)[i]? ≠ some (.dct xs) := fun i xs h => by
    by_cases hi : i < ds.length
    · rw [List.getElem?_append_left (by simpa using hi), List.getElem?_map] at h
      cases e : ds[i]? with
      | none => rw [e] at h; cases h
      | some d => rw [e] at h; cases h
    · rw [List.getElem?_append_right (by simpa using hi), List.getElem?_replicate] at h
      split at h <;> cases h
  refine ⟨.refl sub, by simp [hl], fun i d h => ?_, fun i xs h => absurd h (own i xs), fun i j xs ys a h => absurd h (own i xs), ⟨fun i kvs h => absurd h (ownD i kvs), fun i j xs ys a h => absurd h (ownD i xs)⟩⟩
  by_cases hi : i < ds.length
  · rw [List.getElem?_append_left (by simpa using hi), List.getElem?_map] at h
    cases e : ds[i]? with
    | none => rw [e] at h; cases h
    | some d' =>
      rw [e] at h; cases h
      obtain ⟨v, hv, rv⟩ := r.get e
      exact ⟨v, by rw [List.getElem?_append_left (by rw [List.length_map]; omega), List.getElem?_map, hv]; rfl, rv⟩
  · rw [List.getElem?_append_right (by simpa using hi), List.getElem?_replicate] at h
    split at h <;> cases h
theorem fn_ev {P : Program} (htree : P.given.tree = none) {w : World} {K : PySem.W.Frag} {mg : Str → Option Value} {base : Heap} {x qual : Str} {st : Stmt} {f : Addr} {fd : FuncData} {N ps : List Str} {k : Nat} {C : List D → D → Prop} (F : Fun K x qual st f fd) (S : FnScope N ps (defScope st))
    (len : ∀ ds d, C ds d → ds.length = ps.length)
    (body : ∀ X, DefX P w K mg base k N (defScope st) X → ∀ ds d, C ds d → EvSs X (ds.map Sl.val ++ List.replicate (N.length - ds.length) Sl.un) (defBody st) (.rt d)) : FnOk P w K mg base CX0 (k + 1) f fd ps (spC K C) := by
  refine F.ok S (fun vs H Q E h => ?_) (fun cdv A outer s H vs Q E hr h => ?_)
  · obtain ⟨F', ds, d, sub, r, hC, q⟩ := h
    rw [r.length]; exact len ds d hC
  · obtain ⟨F', ds, d, sub, r, hC, q⟩ := h
    refine ⟨_, pss_w, ?_⟩
    have hx : DefX P w K mg base k N (defScope st) (cxOf CX0 P w K mg base N qual (defScope st) f cdv A outer s H E).nox :=
      ⟨⟨rfl, rfl, rfl, S.nd, rfl, hr.units, hr.dp100, htree, ⟨_, _, rfl, S.gen, S.co, rfl, rfl⟩⟩, rfl, rfl, rfl, rfl, rfl, hr, ⟨fun _ => rfl⟩, rfl, rfl⟩
    have hb := body _ hx ds d hC
    have hk : Ok K ⟨F', H⟩ F' H (start N vs) (ds.map Sl.val ++ List.replicate (N.length - ds.length) Sl.un) := by
      unfold start
      rw [r.length]
      exact ok_start sub r _
    exact hb ⟨F', H⟩ F' H _ _ hk fun v F2 H2 x2 r2 => q v F2 H2 x2 r2
theorem DefX.callee {P : Program} {w : World} {K : PySem.W.Frag} {mg : Str → Option Value} {base : Heap} {k j : Nat} {f : Addr} {fd : FuncData} {ps : List Str} {x : Str} {C : List D → D → Prop} (h : DefX P w K mg base k N sc X)
    (F : FnOk P w K mg base CX0 j f fd ps (spC K C)) (hj : j ≤ k) (hm : mg x = some (.ref f)) (hk : PySem.W.keepIn K (.ref f) = true) (hb : Binds K fd ps []) : Callee X x C := by
  obtain ⟨h0, rfl, rfl, rfl, rfl, rfl, hr, _⟩ := h
  exact ⟨f, fd, ps, j, F, hr.mono hj, hm, hk, hb⟩
end
end L2.EV

set_option linter.all false
set_option autoImplicit false
set_option maxRecDepth 100000
namespace L2.EV
open PySem PySem.Spec PyProof.Rows

/-! ### comprehensions -/
/-- the scope of a comprehension's block: what the def around has in a cell is a cell there -/
def relS (scope sc : Scope) : Scope := { scope with names := scope.names.map fun (n, k) => if (k == .free && sc.kind == .function && sc.names.lookup n == some .cell) then (n, .cell) else (n, k) }
theorem rel_eq {scope : Scope} {env : Env} {sc : Scope} (h : env.scope = sc) : relabel scope env = relS scope sc := by subst h; rfl

/-- the cells that a block takes over -/
theorem clos_of (env : Env) : ∀ (names : List (Str × NameKind)) (cs : List (Str × Addr)), (∀ n, (n, NameKind.free) ∈ names → ∃ c, env.cells.lookup n = some c) →
    (∀ n c, cs.lookup n = some c → env.cells.lookup n = some c) →
    ∃ cl : List (Str × Addr), (forIn (m := Sem) names cs fun (x : Str × NameKind) r => if x.2 == .free then do let c ← cellOf env x.1; pure (ForInStep.yield ((x.1, c) :: r)) else pure (ForInStep.yield r)) = pure cl ∧
      (∀ n c, cl.lookup n = some c → env.cells.lookup n = some c) ∧ (∀ n, (n, NameKind.free) ∈ names → ∃ c, cl.lookup n = some c) ∧ (∀ n c, cs.lookup n = some c → ∃ c', cl.lookup n = some c')
  | [], cs, _, h => ⟨cs, rfl, h, (fun n hn => nomatch hn), fun n c e => ⟨c, e⟩⟩
  | (n, k) :: r, cs, hf, h => by
    rw [List.forIn_cons]
    by_cases hk : k = .free
    · subst hk
      obtain ⟨c, hc⟩ := hf n List.mem_cons_self
      have hcell : cellOf env n = pure c := by unfold cellOf; rw [hc]
      have h' : ∀ m c', ((n, c) :: cs).lookup m = some c' → env.cells.lookup m = some c' := fun m c' e => by
        rw [List.lookup_cons] at e
        cases hm : m == n with
        | true => rw [hm] at e; cases e; rw [eq_of_beq hm]; exact hc
        | false => rw [hm] at e; exact h m c' e
      obtain ⟨cl, e1, e2, e3, e4⟩ := clos_of env r ((n, c) :: cs) (fun m hm => hf m (List.mem_cons_of_mem _ hm)) h'
      refine ⟨cl, ?_, e2, fun m hm => ?_, fun m c' e => ?_⟩
      · show ((do let c ← cellOf env n; pure (ForInStep.yield ((n, c) :: cs))) >>= _ : Sem (List (Str × Addr))) = _
        rw [hcell]
        exact e1
      · rcases List.mem_cons.mp hm with z | z
        · cases z
          exact e4 n c (by rw [List.lookup_cons, beq_self_eq_true])
        · exact e3 m z
      · by_cases hm : m = n
        · subst hm; exact e4 m c (by rw [List.lookup_cons, beq_self_eq_true])
        · exact e4 m c' (by rw [List.lookup_cons, beq_eq_false_iff_ne.mpr hm]; exact e)
    · have hb : (k == NameKind.free) = false := beq_eq_false_iff_ne.mpr hk
      obtain ⟨cl, e1, e2, e3, e4⟩ := clos_of env r cs (fun m hm => hf m (List.mem_cons_of_mem _ hm)) h
      refine ⟨cl, ?_, e2, fun m hm => ?_, e4⟩
      · show ((if (k == NameKind.free) = true then _ else pure (ForInStep.yield cs)) >>= _ : Sem (List (Str × Addr))) = _
        rw [hb, if_neg Bool.false_ne_true]
        exact e1
      · rcases List.mem_cons.mp hm with z | z
        · cases z; exact absurd rfl hk
        · exact e3 m z
theorem closure_of {env : Env} {scope : Scope} (hf : ∀ n, (n, NameKind.free) ∈ scope.names → ∃ c, env.cells.lookup n = some c) :
    ∃ cl : List (Str × Addr), closureFor scope env = pure cl ∧ (∀ n c, cl.lookup n = some c → env.cells.lookup n = some c) ∧ (∀ n, (n, NameKind.free) ∈ scope.names → ∃ c, cl.lookup n = some c) := by
  obtain ⟨cl, e1, e2, e3, _⟩ := clos_of env scope.names [] hf (fun n c e => nomatch e)
  refine ⟨cl, ?_, e2, e3⟩
  show (forIn (m := Sem) scope.names ([] : List (Str × Addr)) (fun (x : Str × NameKind) r => if x.2 == .free then do let c ← cellOf env x.1; pure (ForInStep.yield ((x.1, c) :: r)) else pure (ForInStep.yield r)) >>= fun s => pure s) = pure cl
  rw [e1]; rfl

/-- what must hold of the block's scope: captured names are cells of the def around, its own names are local -/
structure CScope (N : List Str) (sc : Scope) (N' : List Str) (scope : Scope) : Prop where
  kind : scope.kind = .function
  cells : ∀ y ∈ scope.names, y.2 = .cell → scope.names.lookup y.1 = some .cell
  names : ∀ y ∈ scope.names, y.2 = .local → scope.names.lookup y.1 = some .local
  free : ∀ y ∈ scope.names, y.2 = .free → sc.names.lookup y.1 = some .cell
  fun' : sc.kind = .function
  nd : N'.Nodup
  old : ∀ (i : Nat) x, i < N.length → N'[i]? = some x → VisS (relS scope sc) x = true → N[i]? = some x ∧ scope.names.lookup x = some .free
  len : N.length ≤ N'.length

/-- a name of the block's own that a block within takes -/
def ownS (scope : Scope) (x : Str) : Bool := match scope.names.lookup x with
  | some .cell => true
  | _ => false
/-- the cells of a block: those that it takes, and new ones of its own -/
structure FC (names : List (Str × NameKind)) (cells : List (Str × Addr)) (n : Nat) (cl : List (Str × Addr)) (h : Heap) : Prop where
  look : ∀ m c, cl.lookup m = some c → (cells.lookup m = some c ∧ ¬ (m, NameKind.cell) ∈ names) ∨ (n ≤ c ∧ (m, NameKind.cell) ∈ names ∧ h.IsCell c none)
  has : ∀ m, ((m, NameKind.cell) ∈ names ∨ ∃ c, cells.lookup m = some c) → ∃ c, cl.lookup m = some c
  inj : ∀ x y c, n ≤ c → cl.lookup x = some c → cl.lookup y = some c → x = y
theorem forIn_cells {M : Model} {A : Around} {E : Value → Shared → Prop} : ∀ (names : List (Str × NameKind)) (cells : List (Str × Addr)) (s : Shared) (Q : List (Str × Addr) → Shared → Prop), (∀ m c, cells.lookup m = some c → c < s.heap.objs.size) →
    (∀ cl h, (∀ b o, s.heap.get? b = some o → h.get? b = some o) → FC names cells s.heap.objs.size cl h → Q cl { s with heap := h }) →
    wpAny M A (forIn names cells fun x __s => match x with
      | (name, kind) => if (kind == NameKind.cell) = true then do
          let a ← alloc { cls := Value.type "cell", data := Data.cell none }
          pure (ForInStep.yield ((name, a) :: __s))
        else pure (ForInStep.yield __s)) Q E s
  | [], cells, s, Q, hb, q => by
    refine wpAny_pure (q cells s.heap (fun _ _ e => e) ⟨fun m c e => .inl ⟨e, fun z => nomatch z⟩, fun m hm => hm.elim (fun z => nomatch z) id, fun x y c hc e _ => absurd (hb x c e) (Nat.not_lt_of_le hc)⟩)
  | (name, kind) :: rest, cells, s, Q, hb, q => by
    rw [List.forIn_cons]
    by_cases hk : kind = .cell
    · subst hk
      refine wpAny_bind ?_
      show wpAny M A (alloc _ >>= _) _ _ s
      refine wpAny_bind (wpAny_alloc (wpAny_pure ?_))
      have hsz : (s.heap.push { cls := Value.type "cell", data := Data.cell none }).objs.size = s.heap.objs.size + 1 := by rw [Heap.size_push]
      refine forIn_cells rest _ _ _ (fun m c e => ?_) fun cl h kp f => q cl h (fun b o e => kp b o (Heap.get?_push_of_some _ e)) ⟨fun m c e => ?_, fun m hm => f.has m ?_, fun x y c hc ex ey => ?_⟩
      · show c < (s.heap.push { cls := Value.type "cell", data := Data.cell none }).objs.size
        rw [hsz]
        rw [List.lookup_cons] at e
        split at e
        · cases e; exact Nat.lt_succ_self _
        · exact Nat.lt_succ_of_lt (hb m c e)
      · have f' := f.look m c e
        rcases f' with ⟨e1, e2⟩ | ⟨e1, e2, e3⟩
        · rw [List.lookup_cons] at e1
          split at e1
          · rename_i hm
            cases e1
            have hm' : m = name := by simpa using hm
            subst hm'
            exact .inr ⟨Nat.le_refl _, by simp, ⟨_, kp _ _ (Heap.get?_push_size _ rfl), rfl⟩⟩
          · rename_i hm
            have hm' : m ≠ name := by simpa using hm
            exact .inl ⟨e1, fun z => by
              rcases List.mem_cons.mp z with z | z
              · exact hm' (congrArg Prod.fst z)
              · exact e2 z⟩
        · have e1' : s.heap.objs.size + 1 ≤ c := by rw [← hsz]; exact e1
          exact .inr ⟨by omega, by simp [e2], e3⟩
      · rcases hm with hm | ⟨c, hc⟩
        · rcases List.mem_cons.mp hm with z | z
          · right
            have : m = name := congrArg Prod.fst z
            subst this
            exact ⟨s.heap.objs.size, by rw [List.lookup_cons]; simp⟩
          · exact .inl z
        · right
          rw [List.lookup_cons]
          split
          · exact ⟨_, rfl⟩
          · exact ⟨c, hc⟩
      · by_cases hc' : s.heap.objs.size + 1 ≤ c
        · exact f.inj x y c (by show (s.heap.push _).objs.size ≤ c; rw [hsz]; exact hc') ex ey
        · have one : ∀ z, cl.lookup z = some c → z = name := fun z ez => by
            rcases f.look z c ez with ⟨e1, _⟩ | ⟨e1, _⟩
            · rw [List.lookup_cons] at e1
              split at e1
              · rename_i hm; simpa using hm
              · exact absurd (hb z c e1) (Nat.not_lt_of_le hc)
            · exact absurd (show s.heap.objs.size + 1 ≤ c from Nat.le_trans (Nat.le_of_eq hsz.symm) e1) hc'
          rw [one x ex, one y ey]
    · have hk' : (kind == NameKind.cell) = false := by simpa using hk
      have mem : ∀ m, (m, NameKind.cell) ∈ (name, kind) :: rest ↔ (m, NameKind.cell) ∈ rest := fun m => by
        constructor
        · intro z
          rcases List.mem_cons.mp z with z | z
          · exact absurd (congrArg Prod.snd z).symm hk
          · exact z
        · intro z; simp [z]
      refine wpAny_bind ?_
      show wpAny M A (if (kind == NameKind.cell) = true then _ else _) _ _ s
      rw [hk', if_neg Bool.false_ne_true]
      refine wpAny_pure (forIn_cells rest cells s Q hb fun cl h kp f => q cl h kp ⟨fun m c e => ?_, fun m hm => f.has m ?_, f.inj⟩)
      · rw [mem]; exact f.look m c e
      · rw [mem] at hm; exact hm
theorem newEnv_comp {M : Model} {A : Around} {E : Value → Shared → Prop} {s : Shared} {scope : Scope} {env : Env} {cl : List (Str × Addr)} {Q : Env → Shared → Prop} (hb : ∀ m c, cl.lookup m = some c → c < s.heap.objs.size)
    (h : ∀ cl' h', (∀ b o, s.heap.get? b = some o → h'.get? b = some o) → (∃ m, h'.Ns s.heap.objs.size m) → FC scope.names cl s.heap.objs.size cl' h' → Q { scope := scope, locals := s.heap.objs.size, globals := env.globals, cells := cl', qual := env.qual, func := none, code := env.code, frame := env.frame, builtins := env.builtins } { s with heap := h' }) :
    wpAny M A (newFunctionEnv scope env.globals cl [] env.qual none .none (some env)) Q E s := by
  unfold newFunctionEnv
  refine wpAny_bind (wpAny_alloc ?_)
  have hsz : (s.heap.push { cls := Value.type "dict", data := Data.dict #[] }).objs.size = s.heap.objs.size + 1 := by rw [Heap.size_push]
  refine wpAny_bind (forIn_cells scope.names cl _ _ (fun m c e => ?_) fun cl' h' kp f => ?_)
  · show c < (s.heap.push { cls := Value.type "dict", data := Data.dict #[] }).objs.size
    rw [hsz]; exact Nat.lt_succ_of_lt (hb m c e)
  · refine wpAny_bind (wpAny_pure (wpAny_pure ?_))
    obtain ⟨o, es, ep, g1, g2, g3, g4⟩ := Heap.Ns.new s.heap (.type "dict")
    refine h cl' h' (fun b o e => kp b o (Heap.get?_push_of_some _ e)) ⟨_, o, es, ep, kp _ _ g1, g2, g3, g4⟩ ⟨fun m c e => ?_, f.has, fun x y c hc ex ey => ?_⟩
    · rcases f.look m c e with z | ⟨z1, z2, z3⟩
      · exact .inl z
      · have z1' : s.heap.objs.size + 1 ≤ c := Nat.le_trans (Nat.le_of_eq hsz.symm) z1
        exact .inr ⟨Nat.le_of_succ_le z1', z2, z3⟩
    · by_cases hc' : s.heap.objs.size + 1 ≤ c
      · exact f.inj x y c (Nat.le_trans (Nat.le_of_eq hsz) hc') ex ey
      · have e : c = s.heap.objs.size := Nat.le_antisymm (Nat.le_of_lt_succ (Nat.lt_of_not_le hc')) hc
        rcases f.look x c ex with ⟨z, _⟩ | ⟨z, _⟩
        · exact absurd (hb x c z) (Nat.not_lt_of_le hc)
        · have z' : s.heap.objs.size + 1 ≤ c := Nat.le_trans (Nat.le_of_eq hsz.symm) z
          exact absurd z' hc'
/-- the block's context, whatever the mode -/
structure CompX0 (X X' : Cx) (N' : List Str) (sc' : Scope) (ow : Str → Bool) : Prop where
  at0 : At0 X' N' sc'
  cal : X'.calm = X.calm
  prog : X'.prog = X.prog
  w' : X'.w = X.w
  k' : X'.K = X.K
  mg' : X'.mg = X.mg
  base' : X'.base = X.base
  a' : X'.A = X.A
  fn' : ∀ x, ow x = true → X'.fn x = true
/-- the block's context -/
structure CompX (X X' : Cx) (N' : List Str) (sc' : Scope) (ow : Str → Bool) : Prop where
  at' : At X' N' sc'
  prog : X'.prog = X.prog
  w' : X'.w = X.w
  k' : X'.K = X.K
  mg' : X'.mg = X.mg
  base' : X'.base = X.base
  a' : X'.A = X.A
  fn' : ∀ x, ow x = true → X'.fn x = true
section
variable {X X' : Cx} {N N' : List Str} {sc sc' : Scope} {ow : Str → Bool}
theorem CompX0.calm (h : CompX0 X X' N' sc' ow) (hc : X.calm = true) : CompX X X' N' sc' ow := ⟨h.at0.at (h.cal.trans hc), h.prog, h.w', h.k', h.mg', h.base', h.a', h.fn'⟩
theorem CompX.callee {x : Str} {C : List D → D → Prop} (h : CompX X X' N' sc' ow) (c : Callee X x C) : Callee X' x C := by
  obtain ⟨f, fd, ps, k, F, hr, hm, hk, hb⟩ := c
  refine ⟨f, fd, ps, k, ?_, ?_, ?_, ?_, ?_⟩
  · rw [h.prog, h.w', h.k', h.mg', h.base']; exact F
  · rw [h.a']; exact hr
  · rw [h.mg']; exact hm
  · rw [h.k']; exact hk
  · rw [h.k']; exact hb
theorem CompX.blt {x : Str} {u : Value} (h : CompX X X' N' sc' ow) (b : Blt X sc x u) (hg : sc'.names.lookup x = some .globalImplicit := by rfl) : Blt X' sc' x u := ⟨hg, by rw [h.mg']; exact b.m, b.v, b.n, b.d⟩
end

/-- a block's run: item by item -/
inductive CRun (X : Cx) (tg elt : Expr) (ifs : List Expr) : List D → Rho → List D → Prop where
  | nil {ρ : Rho} : CRun X tg elt ifs [] ρ []
  | take {d r : D} {ds rs : List D} {ρ ρ1 : Rho} : EvGn X ρ tg d ρ1 → (ifs = [] ∨ ∃ c, ifs = [c] ∧ EvT X ρ1 c true) → EvE X ρ1 elt r → CRun X tg elt ifs ds ρ1 rs → CRun X tg elt ifs (d :: ds) ρ (r :: rs)
  | skip {d : D} {ds rs : List D} {ρ ρ1 : Rho} {c : Expr} : EvGn X ρ tg d ρ1 → ifs = [c] → EvT X ρ1 c false → CRun X tg elt ifs ds ρ1 rs → CRun X tg elt ifs (d :: ds) ρ rs

section
variable {prog : Program} {w : World} {A : Around} {R : Result → Shared → Prop} {s : Shared}
/-- the loop of a block, whatever its target -/
theorem compLoop_any {elt target iter : Expr} {ifs : List Expr} {scope : Scope} {pos : Pos} {it acc : Value} {env : Env} (I : Nat → Shared → Prop)
    (turn : ∀ n s, I n s → wpAny (model prog w) A (pyNext it) (fun r s₁ => match r with
      | none => R (.ok .next) s₁
      | some v => wpAny (model prog w) A (letOwnedTupleGo target it v) (fun _ s₀ => wpAny (model prog w) A (assign target env v) (fun _ s₂ =>
          wpAny (model prog w) A (forIn ifs true fun c r => if r = true then do let ok ← isTrue c env (eval c env); pure (ForInStep.yield ok) else pure (ForInStep.yield r)) (fun ok s₃ =>
            if ok = true then wpAny (model prog w) A (eval elt env) (fun x s₄ =>
              wpAny (model prog w) A (call (.builtin "list.append") [acc, x]) (fun _ s₅ => ∃ m, m < n ∧ I m s₅) (fun _ _ => False) s₄) (fun _ _ => False) s₃
            else ∃ m, m < n ∧ I m s₃) (fun _ _ => False) s₂) (fun _ _ => False) s₀) (fun _ _ => False) s₁) (fun _ _ => False) s)
    (n : Nat) (h : I n s) :
    codeAny (model prog w) A (.compLoop (.ListComp elt [⟨target, iter, ifs, 0⟩] scope pos) 0 it acc env) R s := by
  refine codeAny_loop rfl I (fun n s hI => ?_) n h
  show wpAny _ A ((compTurn (.ListComp elt [⟨target, iter, ifs, 0⟩] scope pos) 0 it acc env).onRaise (fun x => do noteFrame x env; theTreesLotGoes x)) _ _ s
  refine wpAny_noted ?_
  rw [compTurn_list]
  refine wpAny_bind (wpAny_standAt (wpAny_bind (wpAny_mono (turn n s hI) (fun r s₁ h₁ => ?_) fun _ _ h' => h'.elim)))
  cases r with
  | none => exact wpAny_pure h₁
  | some v =>
    refine wpAny_bind (wpAny_mono h₁ (fun _ s₀ h₀ => wpAny_bind (wpAny_mono h₀ (fun _ s₂ h₂ => wpAny_bind (wpAny_mono h₂ (fun ok s₃ h₃ => ?_) fun _ _ h' => h'.elim)) fun _ _ h' => h'.elim)) fun _ _ h' => h'.elim)
    cases ok with
    | false => exact wpAny_pure ⟨rfl, h₃⟩
    | true =>
      exact wpAny_bind (wpAny_bind (wpAny_mono h₃ (fun x s₄ h₄ => wpAny_bind (wpAny_mono h₄ (fun _ s₅ h₅ => wpAny_pure (wpAny_pure ⟨rfl, h₅⟩)) fun _ _ h' => h'.elim)) fun _ _ h' => h'.elim))
end

theorem Ok.chgFree {K : PySem.W.Frag} {B : B0} {F H : Hp} {σ : St} {ρ : Rho} {p : Addr} {o : HO} (k : Ok K B F H σ ρ) (hf : F p = none) (hb : B.H p = none) (hn : NoOwn σ ρ p) (hl : ∃ vs, H p = some (.lst vs)) : Ok K B F (upd H p o) σ ρ := by
  refine ⟨⟨fun b u q => ?_, fun b u q => ?_, k.sf, k.nw⟩, k.len, k.vals, fun i xs e => ?_, k.dist, k.dic.to (.refl _) (fun b φ e1 e2 _ => ⟨by rw [upd_ne (fun z => by subst z; obtain ⟨vs, hl⟩ := hl; rw [hl] at e1; cases e1)]; exact e1, e2⟩) fun _ _ e => ⟨e, rfl⟩⟩
  · have ne : b ≠ p := fun z => by subst z; rw [hf] at q; cases q
    rw [upd_ne ne]; exact k.sub b u q
  · have ne : b ≠ p := fun z => by subst z; rw [hb] at q; cases q
    rw [upd_ne ne]; exact k.sh b u q
  · obtain ⟨a, vs, h1, h2, h3, h4, h5⟩ := k.owns i xs e
    have ne : a ≠ p := fun z => by subst z; exact hn i xs e h1
    exact ⟨a, vs, h1, by rw [upd_ne ne]; exact h2, h3, h4, h5⟩
theorem Ok.more {K : PySem.W.Frag} {B : B0} {F H : Hp} {σ : St} {ρ : Rho} (k : Ok K B F H σ ρ) (n : Nat) : Ok K B F H (σ ++ List.replicate n none) (ρ ++ List.replicate n .un) := by
  have get : ∀ (i : Nat) s, (ρ ++ List.replicate n Sl.un)[i]? = some s → s ≠ .un → ρ[i]? = some s ∧ (σ ++ List.replicate n none)[i]? = σ[i]? := fun i s h hn => by
    by_cases hi : i < ρ.length
    · rw [List.getElem?_append_left hi] at h
      exact ⟨h, List.getElem?_append_left (by rw [k.len]; exact hi)⟩
    · rw [List.getElem?_append_right (by omega), List.getElem?_replicate] at h
      split at h
      · cases h; exact absurd rfl hn
      · cases h
  refine ⟨k.toExt, by simp [k.len], fun i d h => ?_, fun i xs h => ?_, fun i j xs ys a h1 h2 h3 h4 => ?_, k.dic.to (.refl _) (fun _ _ e1 e2 _ => ⟨e1, e2⟩) fun i kvs h => get i _ h fun z => nomatch z⟩
  · obtain ⟨e1, e2⟩ := get i _ h fun z => nomatch z
    rw [e2]; exact k.vals i d e1
  · obtain ⟨e1, e2⟩ := get i _ h fun z => nomatch z
    rw [e2]; exact k.owns i xs e1
  · obtain ⟨e1, e2⟩ := get i _ h1 fun z => nomatch z
    obtain ⟨g1, g2⟩ := get j _ h2 fun z => nomatch z
    rw [e2] at h3; rw [g2] at h4
    exact k.dist i j xs ys a e1 g1 h3 h4
theorem lookup_mem {names : List (Str × NameKind)} {x : Str} {k : NameKind} (h : names.lookup x = some k) : (x, k) ∈ names := PySem.mem_of_lookup h
theorem rel_lookup {scope sc : Scope} (hf : sc.kind = .function) (fr : ∀ y ∈ scope.names, y.2 = .free → sc.names.lookup y.1 = some .cell) {x : Str} {k : NameKind} (h : (relS scope sc).names.lookup x = some k) :
    ∃ k', scope.names.lookup x = some k' ∧ (k' = .free → k = .cell) ∧ (k' ≠ .free → k = k') := by
  have go : ∀ names : List (Str × NameKind), (∀ y ∈ names, y.2 = .free → sc.names.lookup y.1 = some .cell) → (names.map fun (n, k) => if (k == NameKind.free && sc.kind == .function && sc.names.lookup n == some .cell) then (n, NameKind.cell) else (n, k)).lookup x = some k →
      ∃ k', names.lookup x = some k' ∧ (k' = .free → k = .cell) ∧ (k' ≠ .free → k = k') := by
    intro names
    induction names with
    | nil => intro _ h; cases h
    | cons y r ih =>
      intro fr h
      obtain ⟨n, kk⟩ := y
      have hr := ih fun y hy => fr y (List.mem_cons_of_mem _ hy)
      by_cases hkk : kk = .free
      · subst hkk
        have hc := fr (n, .free) List.mem_cons_self rfl
        have e : (if (NameKind.free == NameKind.free && sc.kind == .function && sc.names.lookup n == some .cell) = true then (n, NameKind.cell) else (n, NameKind.free)) = (n, NameKind.cell) := by
          have hc' : sc.names.lookup n = some .cell := hc
          rw [hc', hf]; rfl
        rw [List.map_cons] at h
        simp only [e] at h
        rw [List.lookup_cons] at h ⊢
        cases hx : x == n with
        | true => rw [hx] at h; cases h; exact ⟨.free, rfl, fun _ => rfl, fun z => absurd rfl z⟩
        | false => rw [hx] at h; exact hr h
      · have e : (if (kk == NameKind.free && sc.kind == .function && sc.names.lookup n == some .cell) = true then (n, NameKind.cell) else (n, kk)) = (n, kk) := by
          have hb : (kk == NameKind.free) = false := beq_eq_false_iff_ne.mpr hkk
          rw [hb]; rfl
        rw [List.map_cons] at h
        simp only [e] at h
        rw [List.lookup_cons] at h ⊢
        cases hx : x == n with
        | true => rw [hx] at h; cases h; exact ⟨_, rfl, fun z => absurd z hkk, fun _ => rfl⟩
        | false => rw [hx] at h; exact hr h
  exact go scope.names fr h
end L2.EV

set_option linter.all false
set_option autoImplicit false
set_option maxRecDepth 100000
namespace L2.EV
open PySem PySem.Spec PyProof.Rows

/-- the context of a comprehension's block -/
def cxC (X : Cx) (N' : List Str) (scope : Scope) (cl : List (Str × Addr)) (C : Addr) (s3 : Shared) (H3 : Hp) (fp : List Addr) : Cx :=
  { X with N := N', s₀ := s3, H₀ := H3, env := compEnvC scope cl C X.env, outer := X.stack, stack := X.stack, ex := fp, fn := ownS scope, pn := [], xe := fun _ _ => False }

section
variable {X : Cx} {N N' : List Str} {sc scope : Scope} {ρ : Rho} {tg elt iter : Expr} {ifs : List Expr} {pos : Pos} {pins : List (Addr × Obj)} {σ : St} {B : B0} {F2 H2 : Hp} {s2 : Shared} {it : Addr} {fp : List Addr} {tn : Nat → Heap → Prop} {J : It} {ds rs : List D}

theorem cxC_ok {s3 : Shared} {H3 : Hp} {cl cl0 : List (Str × Addr)} (t : At0 X N sc) (S : CScope N sc N' scope) (I3 : Inv X pins σ H3 s3) (hc1 : ∀ n c, cl0.lookup n = some c → X.env.cells.lookup n = some c) (hc2 : ∀ n, (n, NameKind.free) ∈ scope.names → ∃ c, cl0.lookup n = some c) {h₁ : Heap} (CN : FC scope.names cl0 s3.heap.objs.size cl h₁)
    (fo : ∀ b ∈ fp, FpOk X pins H3 b) (fl : ∀ b ∈ fp, b < s3.heap.objs.size) : (cxC X N' scope cl s3.heap.objs.size s3 H3 fp).Ok := by
  refine ⟨I3.ok.mod, ?_, I3.ok.glob, I3.ok.blt, Nat.le_refl _, fun x y c h1 h2 => ?_, fun x hx => ?_, (fun x c hf h => ?_), I3.ok.hd, I3.ok.frames, .inl rfl, fun b hb => ⟨?_, fun x c h => ?_⟩, I3.bs, Nat.le_trans I3.ok.bsz I3.sz, fun b o h hb => ?_, fun b hb h => ?_, I3.stack, I3.stkFree⟩
  · exact S.kind
  · by_cases hc : s3.heap.objs.size ≤ c
    · exact CN.inj x y c hc h1 h2
    · have old : ∀ z, cl.lookup z = some c → X.env.cells.lookup z = some c := fun z ez => by
        rcases CN.look z c ez with ⟨e, _⟩ | ⟨e, _⟩
        · exact hc1 z c e
        · exact absurd e hc
      exact I3.ok.inj x y c (old x h1) (old y h2)
  · have hx' : (relabel scope X.env).names.lookup x = some .cell ∨ (relabel scope X.env).names.lookup x = some .free := hx
    rw [rel_eq t.eS] at hx'
    have hk : ∃ k, (k = NameKind.cell ∨ k = .free) ∧ (relS scope sc).names.lookup x = some k := by
      rcases hx' with h | h
      · exact ⟨_, .inl rfl, h⟩
      · exact ⟨_, .inr rfl, h⟩
    obtain ⟨k, hk, h⟩ := hk
    obtain ⟨k', h1, h2, h3⟩ := rel_lookup S.fun' S.free h
    by_cases hf : k' = .free
    · subst hf; exact CN.has x (.inr (hc2 x (lookup_mem h1)))
    · have e := h3 hf
      rcases hk with hk | hk
      · have e' : k' = .cell := e.symm.trans hk
        subst e'
        exact CN.has x (.inl (lookup_mem h1))
      · exact absurd (e.symm.trans hk) hf
  · have hm : (x, NameKind.cell) ∈ scope.names := by
      have hf' : ownS scope x = true := hf
      unfold ownS at hf'
      cases e : scope.names.lookup x with
      | none => rw [e] at hf'; cases hf'
      | some kk => rw [e] at hf'; cases kk <;> first | exact lookup_mem e | cases hf'
    rcases CN.look x c h with ⟨_, e⟩ | ⟨e, _⟩
    · exact absurd hm e
    · exact e
  · exact Nat.ne_of_lt (fl b hb)
  · rcases CN.look x c h with ⟨e, _⟩ | ⟨e, _⟩
    · exact (fo b hb).2.2.2.2.1 x c (hc1 x c e)
    · exact fun z => absurd (fl b hb) (by rw [← z]; exact Nat.not_lt_of_le e)
  · rcases (fo b hb).2.2.2.1 with z | z
    · exact I3.ok.noex b o h z
    · have h1 := Heap.lt_size h
      have h2 := I3.ok.bsz
      exact absurd (Nat.lt_of_lt_of_le h1 (Nat.le_trans h2 z)) (Nat.lt_irrefl _)
  · have h' : b ∈ frs X.stack := h
    rcases List.mem_cons.mp (I3.stkSub b h') with z | z
    · exact (fo b hb).2.1 z
    · exact (fo b hb).2.2.1 z

theorem cxC_inv {s3 : Shared} {H3 : Hp} {cl cl0 : List (Str × Addr)} {tk : Nat} (t : At0 X N sc) (S : CScope N sc N' scope) (I3 : Inv X pins σ H3 s3) (hc1 : ∀ n c, cl0.lookup n = some c → X.env.cells.lookup n = some c) (hc2 : ∀ n, (n, NameKind.free) ∈ scope.names → ∃ c, cl0.lookup n = some c) {h₁ : Heap} (CN : FC scope.names cl0 s3.heap.objs.size cl h₁)
    (fo : ∀ b ∈ fp, FpOk X pins H3 b) (fl : ∀ b ∈ fp, b < s3.heap.objs.size) (hns : ∃ m, h₁.Ns s3.heap.objs.size m) (kp : ∀ b o, s3.heap.get? b = some o → h₁.get? b = some o) :
    Inv (cxC X N' scope cl s3.heap.objs.size s3 H3 fp) [] (σ ++ List.replicate (N'.length - N.length) none) H3 { s3 with heap := h₁, toks := tk } := by
  obtain ⟨m, hm⟩ := hns
  have hlen : σ.length = N.length := by rw [I3.len, t.eN]
  refine ⟨cxC_ok t S I3 hc1 hc2 CN fo fl, rfl, I3.bare, Un.kept kp, ⟨m, hm, fun i x v h1 h2 h3 => ?_⟩, fun x c h => ?_, I3.hok.fresh (Nat.le_refl _), fun x c h => (CN.look x c h).elim (fun z => I3.freeC x c (hc1 x c z.1)) (fun z => I3.hok.fresh z.1), (fun p hp => nomatch hp), I3.hok.kept kp, ?_⟩
  · have hi : i < σ.length := by
      by_cases hi : i < σ.length
      · exact hi
      · rw [List.getElem?_append_right (by omega), List.getElem?_replicate] at h2
        split at h2 <;> cases h2
    rw [List.getElem?_append_left hi] at h2
    have h3' : Vis (relS scope sc) x := by rw [← rel_eq t.eS]; exact h3
    have hv : VisS (relS scope sc) x = true := by
      unfold VisS
      rcases h3' with z | z | z <;> rw [z]
    obtain ⟨e1, e2⟩ := S.old i x (by omega) h1 hv
    have hcell : sc.names.lookup x = some .cell := S.free _ (lookup_mem e2) rfl
    obtain ⟨m0, hn0, hl0⟩ := I3.loc
    obtain ⟨u, ru, lk⟩ := hl0 i x v (by rw [t.eN]; exact e1) h2 (by rw [t.eS]; exact .inr (.inl hcell))
    refine ⟨u, ru, ?_⟩
    have hkx : X.env.kindOf x = some .cell := by show X.env.scope.names.lookup x = _; rw [t.eS]; exact hcell
    rcases lk with ⟨k, _⟩ | ⟨_, c, hc, hcc⟩
    · rw [hkx] at k; cases k
    · obtain ⟨c', hc'⟩ := CN.has x (.inr (hc2 x (lookup_mem e2)))
      have ho : cl0.lookup x = some c' := by
        rcases CN.look x c' hc' with ⟨z, _⟩ | ⟨_, z, _⟩
        · exact z
        · have z' := S.cells _ z rfl
          rw [e2] at z'; cases z'
      have e : c' = c := Option.some.inj ((hc1 x c' ho).symm.trans hc)
      subst e
      refine .inr ⟨?_, c', hc', ?_⟩
      · show (relabel scope X.env).names.lookup x = _ ∨ (relabel scope X.env).names.lookup x = _
        rw [rel_eq t.eS]
        rcases h3' with z | z | z
        · obtain ⟨k', g1, g2, g3⟩ := rel_lookup S.fun' S.free z
          by_cases hk' : k' = .free
          · have := g2 hk'; cases this
          · have e := g3 hk'
            subst e
            rw [e2] at g1
            cases g1
        · exact .inl z
        · exact .inr z
      · obtain ⟨oc, ho, hd⟩ := hcc
        exact ⟨oc, kp _ _ ho, hd⟩
  · rcases CN.look x c h with ⟨z, _⟩ | ⟨_, _, z⟩
    · obtain ⟨v, oc, ho, hd⟩ := I3.cell x c (hc1 x c z)
      exact ⟨v, oc, kp _ _ ho, hd⟩
    · exact ⟨_, z⟩
  · show (σ ++ List.replicate (N'.length - N.length) none).length = N'.length
    have := S.len
    rw [List.length_append, List.length_replicate, hlen]
    omega
end
end L2.EV

set_option linter.all false
set_option autoImplicit false
set_option maxRecDepth 100000
namespace L2.EV
open PySem PySem.Spec PyProof.Rows

/-- the block's list has come: where, and what stands -/
def CEnd (X : Cx) (pins : List (Addr × Obj)) (σ : St) (F2 H2 : Hp) (rs : List D) (D' C : Addr) (s' : Shared) : Prop :=
  ∃ (F' H' : Hp) (vs : List V) (m : Str → Option Value), Inv X pins σ H' s' ∧ s'.heap.Ns C m ∧ H' C = none ∧ C ≠ X.env.locals ∧ X.s₀.heap.objs.size ≤ C ∧ (∀ x c, X.env.cells.lookup x = some c → c ≠ C) ∧ (∀ p ∈ X.pn ++ pins, p.1 ≠ C) ∧
    Ext ⟨F2, H2⟩ F' H' ∧ H2 D' = none ∧ H' D' = some (.lst vs) ∧ F' D' = none ∧ RepL X.K F' vs rs ∧ D' ≠ C

section
variable {X : Cx} {N N' : List Str} {sc scope : Scope} {ρ : Rho} {tg elt iter : Expr} {ifs : List Expr} {pos : Pos} {pins : List (Addr × Obj)} {σ : St} {B : B0} {F2 H2 : Hp} {s2 : Shared} {it : Addr} {fp : List Addr} {tn : Nat → Heap → Prop} {J : It} {ds rs : List D}
theorem comp_run2 {cl cl0 : List (Str × Addr)} {s3 : Shared} {DD C : Addr} {h₁ : Heap} {tk : Nat} (t : At0 X N sc) (md : X.calm = true ∨ (J.hot ∧ HotH X.A H2)) (S : CScope N sc N' scope) (hC : s3.heap.objs.size = C) (hDC : DD ≠ C) (I3 : Inv X pins σ (upd H2 DD (.lst [])) s3) (hD0 : H2 DD = none)
    (fo3 : ∀ b ∈ fp, FpOk X pins (upd H2 DD (.lst [])) b) (fl3 : ∀ b ∈ fp, b < s3.heap.objs.size) (T : Turn X.prog X.w X.K tg J fp it tn) (tn3 : tn 0 s3.heap)
    (hns₁ : ∃ m, h₁.Ns s3.heap.objs.size m) (kp4 : ∀ b o, s3.heap.get? b = some o → h₁.get? b = some o)
    (k2 : Ok X.K B F2 H2 σ ρ) (JO : ItOk X.K J F2 ds) (hz : ds.length < sizeLine)
    (hc1 : ∀ n c, cl0.lookup n = some c → X.env.cells.lookup n = some c) (hc2 : ∀ n, (n, NameKind.free) ∈ scope.names → ∃ c, cl0.lookup n = some c) (CN : FC scope.names cl0 s3.heap.objs.size cl h₁)
    (run : ∀ X', CompX0 X X' N' (relS scope sc) (ownS scope) → CRun X' tg elt ifs ds (ρ ++ List.replicate (N'.length - N.length) .un) rs)
    {RR : Value → Addr → Result → Shared → Prop} (hRR : ∀ D' C s', CEnd X pins σ F2 H2 rs D' C s' → RR (.ref D') C (.ok .next) s') :
    codeAny (model X.prog X.w) X.A (.compStart (.ListComp elt [⟨tg, iter, ifs, 0⟩] scope pos) 0 (.ref it) (.ref DD) (compEnvC scope cl C X.env)) (RR (.ref DD) C) { s3 with heap := h₁, toks := tk } := by
  have I4 : Inv (cxC X N' scope cl C s3 (upd H2 DD (.lst [])) fp) [] (σ ++ List.replicate (N'.length - N.length) none) (upd H2 DD (.lst [])) { s3 with heap := h₁, toks := tk } := by
    have q := cxC_inv (N' := N') (tk := tk) (fp := fp) t S I3 hc1 hc2 CN fo3 fl3 hns₁ kp4
    rw [hC] at q
    exact q
  generalize hX' : cxC X N' scope cl C s3 (upd H2 DD (.lst [])) fp = X' at I4
  have cx : CompX0 X X' N' (relS scope sc) (ownS scope) := by
    subst hX'
    exact ⟨⟨rfl, rel_eq t.eS, S.nd, rfl, t.un, t.dp, t.tree, t.fr⟩, rfl, rfl, rfl, rfl, rfl, rfl, rfl, fun x hx => hx⟩
  have md' : X'.calm = true ∨ (J.hot ∧ HotX X') := by
    rcases md with z | ⟨z, ea, oe, u, vs, k1, k2, k3, k4⟩
    · exact .inl (cx.cal.trans z)
    · refine .inr ⟨z, ea, oe, u, vs, by rw [cx.a']; exact k1, ?_, k3, k4⟩
      have e : X'.H₀ = upd H2 DD (.lst []) := by subst hX'; rfl
      rw [e, upd_ne (ne_of_none k2 hD0)]; exact k2
  have run' := run X' cx
  have eP : X'.prog = X.prog := cx.prog
  have eW : X'.w = X.w := cx.w'
  have eA : X'.A = X.A := cx.a'
  have eK : X'.K = X.K := cx.k'
  have eEnv : X'.env = compEnvC scope cl C X.env := by subst hX'; rfl
  have eX : X'.xe = fun _ _ => False := cx.at0.nox
  have eEx : X'.ex = fp := by subst hX'; rfl
  have ePn : X'.pn = [] := by subst hX'; rfl
  have k4 : Ok X.K B F2 (upd H2 DD (.lst [])) (σ ++ List.replicate (N'.length - N.length) none) (ρ ++ List.replicate (N'.length - N.length) .un) := (k2.growH hD0).more _
  have no4 : NoOwn (σ ++ List.replicate (N'.length - N.length) none) (ρ ++ List.replicate (N'.length - N.length) .un) DD := (k2.more _).noOwn hD0
  have bD : B.H DD = none := k2.sh.free hD0
  have fD : F2 DD = none := k2.sub.free hD0
  have fp4 : ∀ {H' : Hp}, (∀ b ∈ fp, H' b = none) → ∀ b ∈ fp, FpOk X' [] H' b := fun {H'} hn b hb => by
    refine ⟨hn b hb, ?_, ?_, .inl (by rw [eEx]; exact hb), fun x c h => ?_, fun p hp => ?_⟩
    · exact (I4.ok.exf b (by rw [eEx]; exact hb)).1
    · exact I4.ok.exfs b (by rw [eEx]; exact hb)
    · exact (I4.ok.exf b (by rw [eEx]; exact hb)).2 x c h
    · rw [ePn] at hp; exact nomatch hp
  -- the end of the block
  have fin : ∀ (σ' : St) (F' H' : Hp) (vs : List V) (s' : Shared), Inv X' [] σ' H' s' → Ext ⟨F2, H2⟩ F' H' → H' DD = some (.lst vs) → F' DD = none → RepL X.K F' vs rs → RR (.ref DD) C (.ok .next) s' := fun σ' F' H' vs s' I' x' h1 h2 h3 => by
    refine hRR DD C s' ?_
    have base := I'.base
    have hos := I'.os
    have hhok := I'.hok
    have hfree := I'.free
    obtain ⟨m, hm, _⟩ := I'.loc
    rw [eEnv] at hfree hm
    rw [eEx] at base
    have e1 : X'.fs = frs X.stack := by subst hX'; rfl
    have e2 : X'.H₀ = upd H2 DD (.lst []) := by subst hX'; rfl
    have e3 : X'.s₀ = s3 := by subst hX'; rfl
    rw [e1, e2, e3] at base
    rw [e3] at hos
    rw [eP, eW] at hhok
    have IX : Inv X pins σ H' s' := I3.call' (ch := fp) hos base hhok I'.bare fun b hb => ⟨(fo3 b hb).2.2.2.1, (fo3 b hb).2.1, (fo3 b hb).2.2.2.2.1, (fo3 b hb).2.2.2.2.2⟩
    refine ⟨F', H', vs, m, IX, hm, hfree, ?_, ?_, fun x c h z => ?_, fun p hp z => ?_, x', hD0, h1, h2, h3, hDC⟩
    · have := I3.lt; rw [hC] at this; exact fun z => absurd (z ▸ this) (Nat.lt_irrefl _)
    · have := I3.sz; rw [hC] at this; exact this
    · obtain ⟨v, q⟩ := I3.cell x c h
      have := q.lt; rw [hC, z] at this; exact absurd this (Nat.lt_irrefl _)
    · have := Heap.lt_size (I3.pin p hp).1
      rw [hC, z] at this; exact absurd this (Nat.lt_irrefl _)
  have tn4 : tn 0 h₁ := T.keep 0 _ _ tn3 fun b hb o e => kp4 b o e
  have loop : ∀ s4 : Shared, s4 = { s3 with heap := h₁, toks := tk } →
      codeAny (model X.prog X.w) X.A (.compLoop (.ListComp elt [⟨tg, iter, ifs, 0⟩] scope pos) 0 (.ref it) (.ref DD) (compEnvC scope cl C X.env)) (RR (.ref DD) C) s4 := by
    rintro s4 rfl
    refine compLoop_any (fun n s' => ∃ (i : Nat) (σ' : St) (F' H' : Hp) (ρ' : Rho) (vs : List V) (r0 r1 : List D), Inv X' [] σ' H' s' ∧ tn i s'.heap ∧ (∀ b ∈ fp, H' b = none) ∧ Ok X.K B F' H' σ' ρ' ∧ Ext ⟨F2, H2⟩ F' H' ∧ H' DD = some (.lst vs) ∧ F' DD = none ∧ NoOwn σ' ρ' DD ∧
        RepL X.K F' vs r0 ∧ CRun X' tg elt ifs (ds.drop i) ρ' r1 ∧ r0 ++ r1 = rs ∧ r0.length ≤ i ∧ i ≤ ds.length ∧ n = ds.length + 1 - i) ?_ (ds.length + 1)
      ⟨0, _, F2, _, _, [], [], rs, I4, tn4, fun b hb => (fo3 b hb).1, k4, ⟨k2.sub.trans (upd_sameOf hD0), upd_sameOf hD0, .refl _, fun a h => .inl h⟩, upd_same, fD, no4, .nil, by simpa using run', rfl, Nat.zero_le _, Nat.zero_le _, by simp⟩
    rintro n s' ⟨i, σ', F', H', ρ', vs, r0, r1, I', tni, fpi, k', x', hH, hF, no', rv, cr, er, hr0, hi, rfl⟩
    have JO' := JO i F' H' x'.sf k'.sub
    have TI := T.item X' eP eW eK md' i [] s' σ' H' (fun _ _ => False) I' (fp4 fpi) tni
    have TD := T.done X' eP eW eK md' i [] s' σ' H' (fun _ _ => False) I' (fp4 fpi) tni
    rw [eA] at TI TD
    generalize e1 : ds.drop i = rest at cr
    have stepI : ∀ {d : D} {rest' : List D} {ρ1 : Rho} (hd : ds[i]? = some d) (g : EvGn X' ρ' tg d ρ1)
        (K : ∀ (pins' : List (Addr × Obj)) (s5 : Shared) (σ5 : St) (F5 H5 : Hp), Inv X' pins' σ5 H5 s5 → Ok X.K B F5 H5 σ5 ρ1 → Ext ⟨F2, H2⟩ F5 H5 → H5 DD = some (.lst vs) → F5 DD = none → NoOwn σ5 ρ1 DD → RepL X.K F5 vs r0 →
          (∀ (s6 : Shared) (σ6 : St) (H6 : Hp), Inv X' pins' σ6 H6 s6 → Inv X' [] σ6 H6 s6 ∧ tn (i + 1) s6.heap ∧ ∀ b ∈ fp, H6 b = none) →
          wpAny (model X.prog X.w) X.A (forIn ifs true fun c r => if r = true then do let ok ← isTrue c (compEnvC scope cl C X.env) (eval c (compEnvC scope cl C X.env)); pure (ForInStep.yield ok) else pure (ForInStep.yield r)) (fun ok s₃ =>
            if ok = true then wpAny (model X.prog X.w) X.A (eval elt (compEnvC scope cl C X.env)) (fun x s₄ =>
              wpAny (model X.prog X.w) X.A (call (.builtin "list.append") [.ref DD, x]) (fun _ s₅ => ∃ m, m < ds.length + 1 - i ∧ ∃ (i : Nat) (σ' : St) (F' H' : Hp) (ρ' : Rho) (vs : List V) (r0 r1 : List D), Inv X' [] σ' H' s₅ ∧ tn i s₅.heap ∧ (∀ b ∈ fp, H' b = none) ∧ Ok X.K B F' H' σ' ρ' ∧ Ext ⟨F2, H2⟩ F' H' ∧ H' DD = some (.lst vs) ∧ F' DD = none ∧ NoOwn σ' ρ' DD ∧
        RepL X.K F' vs r0 ∧ CRun X' tg elt ifs (ds.drop i) ρ' r1 ∧ r0 ++ r1 = rs ∧ r0.length ≤ i ∧ i ≤ ds.length ∧ m = ds.length + 1 - i) (fun _ _ => False) s₄) (fun _ _ => False) s₃
            else ∃ m, m < ds.length + 1 - i ∧ ∃ (i : Nat) (σ' : St) (F' H' : Hp) (ρ' : Rho) (vs : List V) (r0 r1 : List D), Inv X' [] σ' H' s₃ ∧ tn i s₃.heap ∧ (∀ b ∈ fp, H' b = none) ∧ Ok X.K B F' H' σ' ρ' ∧ Ext ⟨F2, H2⟩ F' H' ∧ H' DD = some (.lst vs) ∧ F' DD = none ∧ NoOwn σ' ρ' DD ∧
        RepL X.K F' vs r0 ∧ CRun X' tg elt ifs (ds.drop i) ρ' r1 ∧ r0 ++ r1 = rs ∧ r0.length ≤ i ∧ i ≤ ds.length ∧ m = ds.length + 1 - i) (fun _ _ => False) s5),
        wpAny (model X.prog X.w) X.A (pyNext (.ref it)) (fun r s₁ => match r with
      | none => RR (.ref DD) C (.ok .next) s₁
      | some v => wpAny (model X.prog X.w) X.A (letOwnedTupleGo tg (.ref it) v) (fun _ s₀ => wpAny (model X.prog X.w) X.A (assign tg (compEnvC scope cl C X.env) v) (fun _ s₂ =>
          wpAny (model X.prog X.w) X.A (forIn ifs true fun c r => if r = true then do let ok ← isTrue c (compEnvC scope cl C X.env) (eval c (compEnvC scope cl C X.env)); pure (ForInStep.yield ok) else pure (ForInStep.yield r)) (fun ok s₃ =>
            if ok = true then wpAny (model X.prog X.w) X.A (eval elt (compEnvC scope cl C X.env)) (fun x s₄ =>
              wpAny (model X.prog X.w) X.A (call (.builtin "list.append") [.ref DD, x]) (fun _ s₅ => ∃ m, m < ds.length + 1 - i ∧ ∃ (i : Nat) (σ' : St) (F' H' : Hp) (ρ' : Rho) (vs : List V) (r0 r1 : List D), Inv X' [] σ' H' s₅ ∧ tn i s₅.heap ∧ (∀ b ∈ fp, H' b = none) ∧ Ok X.K B F' H' σ' ρ' ∧ Ext ⟨F2, H2⟩ F' H' ∧ H' DD = some (.lst vs) ∧ F' DD = none ∧ NoOwn σ' ρ' DD ∧
        RepL X.K F' vs r0 ∧ CRun X' tg elt ifs (ds.drop i) ρ' r1 ∧ r0 ++ r1 = rs ∧ r0.length ≤ i ∧ i ≤ ds.length ∧ m = ds.length + 1 - i) (fun _ _ => False) s₄) (fun _ _ => False) s₃
            else ∃ m, m < ds.length + 1 - i ∧ ∃ (i : Nat) (σ' : St) (F' H' : Hp) (ρ' : Rho) (vs : List V) (r0 r1 : List D), Inv X' [] σ' H' s₃ ∧ tn i s₃.heap ∧ (∀ b ∈ fp, H' b = none) ∧ Ok X.K B F' H' σ' ρ' ∧ Ext ⟨F2, H2⟩ F' H' ∧ H' DD = some (.lst vs) ∧ F' DD = none ∧ NoOwn σ' ρ' DD ∧
        RepL X.K F' vs r0 ∧ CRun X' tg elt ifs (ds.drop i) ρ' r1 ∧ r0 ++ r1 = rs ∧ r0.length ≤ i ∧ i ≤ ds.length ∧ m = ds.length + 1 - i) (fun _ _ => False) s₂) (fun _ _ => False) s₀) (fun _ _ => False) s₁) (fun _ _ => False) s' := by
      intro d rest' ρ1 hd g K
      obtain ⟨go, yl⟩ := JO'.1 _ hd
      refine thn (TI go) fun r s4 ⟨u, hr, h4⟩ => ?_
      subst hr
      refine thn h4 fun _ s5 ⟨x, H5, I5, r5, y5, st5, fr5⟩ => ?_
      obtain ⟨F5, x5, rx⟩ := yl x H5 y5
      have I5' := I5.pinned (fp4 fr5) (T.obj _ _ st5)
      have gg := g B F5 H5 σ' x (fun σ6 H6 => H6 = H5 ∧ Ok X.K B F5 H5 σ6 ρ1 ∧ NoOwn σ6 ρ1 DD) (by rw [eK]; exact k'.ext x5) (by rw [eK]; exact rx) (fun σ6 k6 n6 => ⟨rfl, by rw [eK] at k6; exact k6, n6 DD no'⟩) _ s5 u I5' r5
      rw [eP, eW, eA, eEnv, eX] at gg
      refine thn gg fun _ s6 ⟨σ6, H6, I6, e6, k6, n6⟩ => ?_
      subst e6
      refine K _ s6 σ6 F5 H6 I6 k6 (x'.t x5) (x5.sh _ _ hH) ?_ n6 (rv.mono x5.sf) fun s7 σ7 H7 I7 => ⟨I7.unpinned, T.keep _ _ _ st5 fun b hb o e => (I7.pin (b, o) (List.mem_append_right _ (List.mem_append_right _ (mem_pinsAt hb e)))).1, fun b hb => ?_⟩
      · cases q : F5 DD with
        | none => rfl
        | some w =>
          rcases x5.nw DD (by rw [q]; exact fun z => nomatch z) with z | z
          · exact absurd hF z
          · have z' : H' DD = none := z
            rw [hH] at z'; cases z'
      · obtain ⟨o, e, d⟩ := T.obj _ _ st5 b hb
        exact (I7.pin (b, o) (List.mem_append_right _ (List.mem_append_right _ (mem_pinsAt hb e)))).2.1
    have eltI : ∀ {d r : D} {rest' rs' : List D} {ρ1 : Rho} (hlt : i < ds.length) (hdr : ds.drop (i + 1) = rest') (ev : EvE X' ρ1 elt r) (cr' : CRun X' tg elt ifs rest' ρ1 rs') (er' : r0 ++ (r :: rs') = rs) (pins' : List (Addr × Obj)) (s5 : Shared) (σ5 : St) (F5 H5 : Hp), Inv X' pins' σ5 H5 s5 → Ok X.K B F5 H5 σ5 ρ1 → Ext ⟨F2, H2⟩ F5 H5 → H5 DD = some (.lst vs) → F5 DD = none → NoOwn σ5 ρ1 DD → RepL X.K F5 vs r0 →
          (∀ (s6 : Shared) (σ6 : St) (H6 : Hp), Inv X' pins' σ6 H6 s6 → Inv X' [] σ6 H6 s6 ∧ tn (i + 1) s6.heap ∧ ∀ b ∈ fp, H6 b = none) →
          wpAny (model X.prog X.w) X.A (eval elt (compEnvC scope cl C X.env)) (fun x s₄ =>
              wpAny (model X.prog X.w) X.A (call (.builtin "list.append") [.ref DD, x]) (fun _ s₅ => ∃ m, m < ds.length + 1 - i ∧ ∃ (i : Nat) (σ' : St) (F' H' : Hp) (ρ' : Rho) (vs : List V) (r0 r1 : List D), Inv X' [] σ' H' s₅ ∧ tn i s₅.heap ∧ (∀ b ∈ fp, H' b = none) ∧ Ok X.K B F' H' σ' ρ' ∧ Ext ⟨F2, H2⟩ F' H' ∧ H' DD = some (.lst vs) ∧ F' DD = none ∧ NoOwn σ' ρ' DD ∧
        RepL X.K F' vs r0 ∧ CRun X' tg elt ifs (ds.drop i) ρ' r1 ∧ r0 ++ r1 = rs ∧ r0.length ≤ i ∧ i ≤ ds.length ∧ m = ds.length + 1 - i) (fun _ _ => False) s₄) (fun _ _ => False) s5 := by
      intro d r rest' rs' ρ1 hlt hdr ev cr' er' pins' s5 σ5 F5 H5 I5 k5 x5 h5 f5 n5 rv5 back
      have ee := ev B F5 H5 σ5 (fun v H6 => ∃ F6, Ext ⟨F5, H5⟩ F6 H6 ∧ Rep X.K F6 v r) (by rw [eK]; exact k5) (fun v F6 H6 x6 r6 => ⟨F6, x6, by rw [eK] at r6; exact r6⟩) pins' s5 I5
      rw [eP, eW, eA, eEnv, eX] at ee
      refine thn ee fun u s6 ⟨v, H6, I6, ru, F6, x6, r6⟩ => ?_
      have h6 := x6.sh _ _ h5
      have f6 : F6 DD = none := by
        cases q : F6 DD with
        | none => rfl
        | some w =>
          rcases x6.nw DD (by rw [q]; exact fun z => nomatch z) with z | z
          · exact absurd f5 z
          · have z' : H5 DD = none := z
            rw [h5] at z'; cases z'
      have hlen : vs.length < sizeLine := by
        have := rv5.length
        omega
      have app := mt_append (X := X') pins' s6 σ5 H6 (.ref DD) [v] (.ref DD) [u] (fun z H7 => H7 = upd H6 DD (.lst (vs ++ [v]))) I6 rfl (.cons ru .nil) ⟨DD, vs, v, rfl, rfl, h6, hlen, rfl⟩
      rw [eP, eW, eA, eX] at app
      refine thn app fun _ s7 ⟨z, H7, I7, _, e7⟩ => ?_
      subst e7
      obtain ⟨I8, t8, f8⟩ := back s7 σ5 _ I7
      have x7 := x5.t x6
      refine ⟨ds.length + 1 - (i + 1), by omega, i + 1, σ5, F6, _, ρ1, vs ++ [v], r0 ++ [r], rs', I8, t8, f8, (k5.ext x6).chgFree f6 bD n5 ⟨_, h6⟩, ⟨fun b w q => ?_, fun b w q => ?_, x7.sf, x7.nw⟩, upd_same, f6, n5, (rv5.mono x6.sf).append (.cons r6 .nil), by rw [hdr]; exact cr', by rw [List.append_assoc]; exact er', by rw [List.length_append, List.length_singleton]; omega, hlt, rfl⟩
      · have ne : b ≠ DD := fun z => by subst z; rw [f6] at q; cases q
        rw [upd_ne ne]; exact x6.sub b w q
      · have ne : b ≠ DD := fun z => by subst z; have q' : H2 b = some w := q; rw [hD0] at q'; cases q'
        rw [upd_ne ne]; exact x7.sh b w q
    cases cr with
    | nil =>
      have hl : ds.length ≤ i := by
        have := congrArg List.length e1
        rw [List.length_drop, List.length_nil] at this
        omega
      refine thn (TD (JO'.2 hl)) fun r s4 ⟨hr, I4'⟩ => ?_
      subst hr
      rw [List.append_nil] at er
      subst er
      exact fin σ' F' H' vs s4 I4' x' hH hF rv
    | @take d r ds0 rs0 ρ0 ρ1 g ci ev cr' =>
      obtain ⟨hd, hdr, hlt⟩ := drop_cons e1
      refine stepI (rest' := ds0) hd g fun pins' s5 σ5 F5 H5 I5 k5 x5 h5 f5 n5 rv5 back => ?_
      rcases ci with rfl | ⟨c, rfl, et⟩
      · refine wpAny_tests_nil ?_
        rw [if_pos rfl]
        exact eltI (d := d) hlt hdr ev cr' er pins' s5 σ5 F5 H5 I5 k5 x5 h5 f5 n5 rv5 back
      · have tt := et B F5 H5 σ5 (fun b H6 => b = true ∧ ∃ F6, Ext ⟨F5, H5⟩ F6 H6) (by rw [eK]; exact k5) (fun F6 H6 x6 => ⟨rfl, F6, x6⟩) pins' s5 I5
        rw [eP, eW, eA, eEnv, eX] at tt
        refine wpAny_tests_one (thn tt fun b s6 ⟨H6, I6, eb, F6, x6⟩ => ?_)
        subst eb
        rw [if_pos rfl]
        have f6 : F6 DD = none := by
          cases q : F6 DD with
          | none => rfl
          | some w =>
            rcases x6.nw DD (by rw [q]; exact fun z => nomatch z) with z | z
            · exact absurd f5 z
            · have z' : H5 DD = none := z
              rw [h5] at z'; cases z'
        exact eltI (d := d) hlt hdr ev cr' er pins' s6 σ5 F6 H6 I6 (k5.ext x6) (x5.t x6) (x6.sh _ _ h5) f6 n5 (rv5.mono x6.sf) back
    | @skip d ds0 rs0 ρ0 ρ1 c g hc et cr' =>
      obtain ⟨hd, hdr, hlt⟩ := drop_cons e1
      subst hc
      refine stepI (rest' := ds0) hd g fun pins' s5 σ5 F5 H5 I5 k5 x5 h5 f5 n5 rv5 back => ?_
      have tt := et B F5 H5 σ5 (fun b H6 => b = false ∧ ∃ F6, Ext ⟨F5, H5⟩ F6 H6) (by rw [eK]; exact k5) (fun F6 H6 x6 => ⟨rfl, F6, x6⟩) pins' s5 I5
      rw [eP, eW, eA, eEnv, eX] at tt
      refine wpAny_tests_one (thn tt fun b s6 ⟨H6, I6, eb, F6, x6⟩ => ?_)
      subst eb
      rw [if_neg Bool.false_ne_true]
      have f6 : F6 DD = none := by
        cases q : F6 DD with
        | none => rfl
        | some w =>
          rcases x6.nw DD (by rw [q]; exact fun z => nomatch z) with z | z
          · exact absurd f5 z
          · have z' : H5 DD = none := z
            rw [h5] at z'; cases z'
      obtain ⟨I8, t8, f8⟩ := back s6 σ5 _ I6
      exact ⟨ds.length + 1 - (i + 1), by omega, i + 1, σ5, F6, H6, ρ1, vs, r0, _, I8, t8, f8, k5.ext x6, x5.t x6, x6.sh _ _ h5, f6, n5, rv5.mono x6.sf, by rw [hdr]; exact cr', er, by omega, hlt, rfl⟩
  exact codeAny_compStart_list (loop _ rfl) (T.self _ 0 _ _ _ tn4 (loop _ rfl))
theorem comp_run {E : Value → Shared → Prop} {cl : List (Str × Addr)} (t : At0 X N sc) (md : X.calm = true ∨ (J.hot ∧ HotH X.A H2)) (S : CScope N sc N' scope) (I2 : Inv X pins σ H2 s2) (T : Turn X.prog X.w X.K tg J fp it tn) (t0 : tn 0 s2.heap) (fo2 : ∀ b ∈ fp, FpOk X pins H2 b)
    (k2 : Ok X.K B F2 H2 σ ρ) (JO : ItOk X.K J F2 ds) (hz : ds.length < sizeLine)
    (hc1 : ∀ n c, cl.lookup n = some c → X.env.cells.lookup n = some c) (hc2 : ∀ n, (n, NameKind.free) ∈ scope.names → ∃ c, cl.lookup n = some c)
    (run : ∀ X', CompX0 X X' N' (relS scope sc) (ownS scope) → CRun X' tg elt ifs ds (ρ ++ List.replicate (N'.length - N.length) .un) rs)
    {RR : Value → Addr → Result → Shared → Prop} (hRR : ∀ D' C s', CEnd X pins σ F2 H2 rs D' C s' → RR (.ref D') C (.ok .next) s') :
    wpAny (model X.prog X.w) X.A (newList []) (fun acc s₃ => wpAny (model X.prog X.w) X.A (newFunctionEnv scope X.env.globals cl [] X.env.qual none .none (some X.env)) (fun cenv s₄ =>
      codeAny (model X.prog X.w) X.A (.compStart (.ListComp elt [⟨tg, iter, ifs, 0⟩] scope pos) 0 (.ref it) acc { cenv with scope := relabel scope X.env }) (RR acc cenv.locals) s₄) E s₃) E s2 := by
  have hclb : ∀ m c, cl.lookup m = some c → c < (s2.heap.push { cls := .type "list", data := .seq ([] : List Value).toArray }).objs.size := fun m c e => by
    obtain ⟨v, q⟩ := I2.cell m c (hc1 m c e)
    rw [Heap.size_push]; exact Nat.lt_succ_of_lt q.lt
  refine wpAny_newObj_type (newEnv_comp hclb fun cl' h₁ kp₁ hns₁ CN => ?_)
  have I3 : Inv X pins σ (upd H2 s2.heap.objs.size (.lst [])) { s2 with heap := s2.heap.push { cls := .type "list", data := .seq ([] : List Value).toArray } } := I2.lnew (t' := s2.toks) (ys := []) .nil (Nat.zero_le _)
  have hD0 : H2 s2.heap.objs.size = none := I2.hok.fresh (Nat.le_refl _)
  have hsz : (s2.heap.push { cls := .type "list", data := .seq ([] : List Value).toArray }).objs.size = s2.heap.objs.size + 1 := by rw [Heap.size_push]
  have tfp : ∀ b ∈ fp, b < s2.heap.objs.size := fun b hb => by
    obtain ⟨o, e, _⟩ := T.obj 0 _ t0 b hb
    exact Heap.lt_size e
  refine comp_run2 (s3 := { s2 with heap := s2.heap.push { cls := .type "list", data := .seq ([] : List Value).toArray } }) t md S rfl (by
    show s2.heap.objs.size ≠ (s2.heap.push { cls := .type "list", data := .seq ([] : List Value).toArray }).objs.size
    rw [hsz]; exact Nat.ne_of_lt (Nat.lt_succ_self _)) I3 hD0 (fun b hb => ?_) (fun b hb => ?_) T (T.keep 0 _ _ t0 fun b hb o e => Heap.get?_push_of_some _ e) hns₁ kp₁ k2 JO hz hc1 hc2 CN run hRR
  · obtain ⟨f0, f1⟩ := fo2 b hb
    exact ⟨by rw [upd_ne (Nat.ne_of_lt (tfp b hb))]; exact f0, f1⟩
  · show b < (s2.heap.push { cls := .type "list", data := .seq ([] : List Value).toArray }).objs.size
    rw [hsz]; exact Nat.lt_succ_of_lt (tfp b hb)
end
end L2.EV

set_option linter.all false
set_option autoImplicit false
set_option maxRecDepth 100000
namespace L2.EV
open PySem PySem.Spec PyProof.Rows
section
variable {X : Cx} {N : List Str} {sc scope : Scope} {ρ : Rho} {tg elt iter : Expr} {ifs : List Expr} {pos : Pos} {ds rs : List D}
theorem clos_at (t : At0 X N sc) {N' : List Str} (S : CScope N sc N' scope) {pins : List (Addr × Obj)} {σ : St} {H : Hp} {s : Shared} (I : Inv X pins σ H s) :
    ∃ cl : List (Str × Addr), closureFor scope X.env = pure cl ∧ (∀ n c, cl.lookup n = some c → X.env.cells.lookup n = some c) ∧ (∀ n, (n, NameKind.free) ∈ scope.names → ∃ c, cl.lookup n = some c) :=
  closure_of fun n hn => I.ok.has n (.inl (by show X.env.scope.names.lookup n = _; rw [t.eS]; exact S.free _ hn rfl))
/-- [elt for tg in iter if ..] -/
theorem en_comp (t : At X N sc) (N' : List Str) (S : CScope N sc N' scope) (hi : EvI X ρ tg iter ds) (hz : ds.length < sizeLine) (run : ∀ X', CompX X X' N' (relS scope sc) (ownS scope) → CRun X' tg elt ifs ds (ρ ++ List.replicate (N'.length - N.length) .un) rs)
    (hs : ∀ x, foldedSetIterable iter X.env x = pure x := by intro _; rfl) : EvN X ρ (.ListComp elt [⟨tg, iter, ifs, 0⟩] scope pos) rs := fun B F H σ Q k q => .mk fun pins s I => by
  obtain ⟨cl, e1, e2, e3⟩ := clos_at t.z S I
  rw [eval_ListComp]
  have h1 := hi B F H σ (fun J H1 => ∃ F1, Ext ⟨F, H⟩ F1 H1 ∧ ItOk X.K J F1 ds) k (fun J F' H' x j => ⟨F', x, j⟩) pins s I
  refine wpAny_comprehension_free (use := none) rfl hs e1 S.kind S.names (thn h1 fun v s1 h => thn h fun itv s2 h2 => ?_)
  obtain ⟨it, fp, tn, J, H', e, I2, T, t0, fo, F1, x1, JO⟩ := h2
  subst e
  refine comp_run (RR := fun acc C => compPost (model X.prog X.w) X.A X.xe none (EP X pins σ Q) acc C) t.z (.inl t.calm) S I2 T t0 fo (k.ext x1) JO hz e2 e3 (fun X' c0 => run X' (c0.calm t.calm)) ?_
  rintro D' C s' ⟨F', H'', vs, m, IX, hm, h0, hL, hs0, hcl, hpn, x', hd0, hd, hf, rv, hDC⟩
  refine ⟨m, hm, fun h'' sb => ?_⟩
  have IX' : Inv X pins σ H'' { s' with heap := h'' } := IX.turned (t' := s'.toks) (it := C) (fun b o hb e => sb.extBut b o hb e) h0 hL (.inr hs0) hcl hpn
  exact ⟨.ref D', H'', IX', rfl, q D' vs F' H'' (x1.t x') (x1.sh.free hd0) hd hf rv⟩
/-- x = [elt for tg in iter if ..], the name a plain local one -/
theorem s_setComp [FnT X] (t : At X N sc) (i : Nat) (N' : List Str) (S : CScope N sc N' scope) {y : Str} {py spos : Pos} (hi : EvI X ρ tg iter ds) (hz : ds.length < sizeLine) (run : ∀ X', CompX X X' N' (relS scope sc) (ownS scope) → CRun X' tg elt ifs ds (ρ ++ List.replicate (N'.length - N.length) .un) rs)
    (hsw : swapsWith (.ListComp elt [⟨tg, iter, ifs, 0⟩] scope pos) (some (.Name y py)) spos.line (dE sc) = pure true := by rfl)
    (hN : N[i]? = some y := by rfl) (hy : LocS sc y = true := by rfl)
    (hs : ∀ x, foldedSetIterable iter X.env x = pure x := by intro _; rfl) : EvS X ρ (.Assign [.Name y py] (.ListComp elt [⟨tg, iter, ifs, 0⟩] scope pos) spos) (.nx (ρ.set i (.own rs))) := fun B F H σ E k q => .mk fun pins s I => by
  obtain ⟨cl, e1, e2, e3⟩ := clos_at t.z S I
  rw [exec_Assign_Name_used _ _ _ _ ((sww_eq (show X.env.scope = (dE sc).scope from t.eS)).trans hsw)]
  refine wpAny_bind (wpAny_standAt (wpAny_bind ?_))
  show wpAny _ X.A (do let _ ← comprehension (.ListComp elt [⟨tg, iter, ifs, 0⟩] scope pos) scope X.env _ (newList []) false (eval iter X.env) (some (assign (.Name y py) X.env))) _ _ s
  have h1 := hi B F H σ (fun J H1 => ∃ F1, Ext ⟨F, H⟩ F1 H1 ∧ ItOk X.K J F1 ds) k (fun J F' H' x j => ⟨F', x, j⟩) pins s I
  refine wpAny_bind (wpAny_mono (wpAny_comprehension_free (use := some (assign (.Name y py) X.env)) (Q := fun _ s' => SP X pins E .next s') rfl hs e1 S.kind S.names (thn h1 fun v s1 h => thn h fun itv s2 h2 => ?_)) (fun _ s' hq => wpAny_pure (wpAny_pure hq)) fun _ _ e => e)
  obtain ⟨it, fp, tn, J, H', e, I2, T, t0, fo, F1, x1, JO⟩ := h2
  subst e
  refine comp_run (RR := fun acc C => compPost (model X.prog X.w) X.A X.xe (some (assign (.Name y py) X.env)) (fun _ s' => SP X pins E .next s') acc C) t.z (.inl t.calm) S I2 T t0 fo (k.ext x1) JO hz e2 e3 (fun X' c0 => run X' (c0.calm t.calm)) ?_
  rintro D' C s' ⟨F', H'', vs, m, IX, hm, h0, hL, hs0, hcl, hpn, x', hd0, hd, hf, rv, hDC⟩
  show wpAny _ X.A (assign (.Name y py) X.env (.ref D')) _ _ s'
  refine wpAny_assign_Name (store_ok2 (v := .ref D') IX t.nd (t.ix hN) (t.loc hy) rfl (fun s'' I'' hsame => ?_) hfT)
  obtain ⟨a, sb, ha⟩ := hsame
  have hCa : C ≠ a := by
    rcases ha with z | z
    · rw [z]; exact hL
    · exact Ne.symm (hcl y a z)
  refine ⟨m, hm.sameBut sb hCa, fun h'' sb' => ?_⟩
  have I3 : Inv X pins (σ.set i (some (.ref D'))) H'' { s'' with heap := h'' } := I''.turned (t' := s''.toks) (it := C) (fun b o hb e => sb'.extBut b o hb e) h0 hL (.inr hs0) hcl hpn
  have k1 := k.ext (x1.t x')
  have hH : H D' = none := x1.sh.free hd0
  exact ⟨_, H'', I3, q F' H'' _ (k1.setOwn i hd hf (k.sh.free hH) (k.noOwn hH) rv) (x1.t x').sf⟩
/-- every item is taken; the block's names behind an item hang on that item alone -/
theorem CRun.all {X : Cx} {tg elt : Expr} (R : D → Rho) (f : D → D) : ∀ (ds : List D) (ρ : Rho), (∀ d ∈ ds, EvGn X ρ tg d (R d)) → (∀ d ∈ ds, ∀ e ∈ ds, EvGn X (R d) tg e (R e)) → (∀ d ∈ ds, EvE X (R d) elt (f d)) → CRun X tg elt [] ds ρ (ds.map f)
  | [], _, _, _, _ => .nil
  | d :: ds, ρ, h1, h2, h3 => .take (h1 d List.mem_cons_self) (.inl rfl) (h3 d List.mem_cons_self)
      (CRun.all R f ds (R d) (fun e he => h2 d List.mem_cons_self e (List.mem_cons_of_mem _ he)) (fun a ha e he => h2 a (List.mem_cons_of_mem _ ha) e (List.mem_cons_of_mem _ he)) fun e he => h3 e (List.mem_cons_of_mem _ he))
end
end L2.EV

set_option linter.all false
set_option autoImplicit false
set_option maxRecDepth 100000
namespace L2.EV
open PySem PySem.Spec PyProof.Rows
/-- the block's scope, checked -/
def cscB (N : List Str) (sc : Scope) (N' : List Str) (scope : Scope) : Bool :=
  decide (scope.kind = .function) && scope.names.all (fun y => decide (y.2 = .cell → scope.names.lookup y.1 = some .cell)) && scope.names.all (fun y => decide (y.2 = .local → scope.names.lookup y.1 = some .local)) &&
    scope.names.all (fun y => decide (y.2 = .free → sc.names.lookup y.1 = some .cell)) && decide (sc.kind = .function) && decide N'.Nodup &&
    (List.range N.length).all (fun i => match N'[i]? with
      | some x => !(VisS (relS scope sc) x) || (decide (N[i]? = some x) && decide (scope.names.lookup x = some .free))
      | none => true) && decide (N.length ≤ N'.length)
theorem csc {N N' : List Str} {sc scope : Scope} (h : cscB N sc N' scope = true) : CScope N sc N' scope := by
  unfold cscB at h
  simp only [Bool.and_eq_true, decide_eq_true_eq, List.all_eq_true] at h
  obtain ⟨⟨⟨⟨⟨⟨⟨h1, h2⟩, h3⟩, h4⟩, h5⟩, h6⟩, h7⟩, h8⟩ := h
  refine ⟨h1, h2, h3, h4, h5, h6, fun i x hi hx hv => ?_, h8⟩
  have q := h7 i (List.mem_range.mpr hi)
  rw [hx] at q
  simp only [hv, Bool.not_true, Bool.false_or, Bool.and_eq_true, decide_eq_true_eq] at q
  exact q
theorem blt_of {X : Cx} {sc : Scope} {x : Str} {u : Value} (hm : X.mg x = none) (g : sc.names.lookup x = some .globalImplicit := by rfl) (v : bootBuiltins x = some u := by rfl) (n : x ≠ "__name__" := by decide) (d : (x == ("__debug__" : Str)) = false := by rfl) : Blt X sc x u := ⟨g, hm, v, n, d⟩
/-- a row: a tuple of ints -/
abbrev rowD (f : List Int) : D := .tup (f.map D.int)
abbrev intsD (f : List Int) : D := .lst (f.map D.int)
theorem at_ints {xs : List Int} {i : Int} {n : Nat} (h0 : 0 ≤ i) (hn : i.toNat = n) (h : n < xs.length) : atI (xs.map D.int) i = some (.int xs[n]) := by
  have e : i = ((n : Nat) : Int) := by omega
  subst e
  exact atI_nat (by rw [List.getElem?_map, List.getElem?_eq_getElem h]; rfl)
theorem ix_nat {n : Nat} {i : Int} {j : Nat} (h0 : 0 ≤ i) (hn : i.toNat = j) (h : j < n) : ixN n i = some j := by
  unfold ixN
  rw [if_pos h0, if_pos (by omega), hn]
theorem eqv_ints (xs ys : List Int) : PyData.eqvAll (xs.map PyData.int) (ys.map PyData.int) = decide (xs = ys) := by
  induction xs generalizing ys with
  | nil => cases ys <;> simp [PyData.eqvAll]
  | cons x xs ih =>
    cases ys with
    | nil => simp [PyData.eqvAll]
    | cons y ys =>
      simp only [List.map_cons, PyData.eqvAll, PyData.eqv, ih]
      by_cases h1 : x = y <;> by_cases h2 : xs = ys <;> simp [h1, h2]
theorem eqv_row (xs ys : List Int) : (toP (rowD xs)).eqv (toP (rowD ys)) = decide (xs = ys) := by
  show (PyData.tuple (toPs (xs.map D.int))).eqv (.tuple (toPs (ys.map D.int))) = _
  rw [toPs_ints, toPs_ints]
  simp only [PyData.eqv]
  exact eqv_ints xs ys
theorem eqv_lst (xs ys : List Int) : (PyData.list (toPs (xs.map D.int))).eqv (.list (toPs (ys.map D.int))) = decide (xs = ys) := by
  rw [toPs_ints, toPs_ints]
  simp only [PyData.eqv]
  exact eqv_ints xs ys
theorem canLay_ints (xs : List Int) : PyData.canLayAll0 (xs.map PyData.int) = true := PySem.W.canLayAll0_ints xs
theorem shaped_row (xs : List Int) : SeqAt.shaped (toP (rowD xs)) = true := by
  show SeqAt.shaped (.tuple (toPs (xs.map D.int))) = true
  rw [toPs_ints]
  have h1 := PySem.W.depthAll_ints xs
  have h2 : PyData.depth (.tuple (xs.map PyData.int)) ≤ 64 := by simp only [PyData.depth]; omega
  show (PyData.canLay0 (.tuple (xs.map PyData.int)) && decide (PyData.depth (.tuple (xs.map PyData.int)) ≤ 64)) = true
  rw [Bool.and_eq_true]
  exact ⟨by simp only [PyData.canLay0]; exact canLay_ints xs, decide_eq_true h2⟩
theorem shaped_lst (xs : List Int) : SeqAt.shaped (PyData.list (toPs (xs.map D.int))) = true := by
  rw [toPs_ints]; exact PySem.W.shaped_ints xs
end L2.EV

set_option linter.all false
set_option autoImplicit false
set_option maxRecDepth 100000
namespace L2.EV
open PySem PySem.Spec PyProof.Rows
/-- fewer names are known -/
inductive Weak : Rho → Rho → Prop where
  | nil : Weak [] []
  | keep {s : Sl} {a b : Rho} : Weak a b → Weak (s :: a) (s :: b)
  | forget {s : Sl} {a b : Rho} : Weak a b → Weak (s :: a) (.un :: b)
theorem Weak.len : ∀ {a b : Rho}, Weak a b → a.length = b.length
  | _, _, .nil => rfl
  | _, _, .keep h => congrArg Nat.succ h.len
  | _, _, .forget h => congrArg Nat.succ h.len
theorem Weak.get : ∀ {a b : Rho}, Weak a b → ∀ (i : Nat) (s : Sl), b[i]? = some s → s ≠ .un → a[i]? = some s
  | _, _, .nil, _, _, h, _ => by simp at h
  | _, _, .keep h, 0, s, e, _ => by simpa using e
  | _, _, .keep h, i + 1, s, e, hn => by simpa using h.get i s (by simpa using e) hn
  | _, _, .forget h, 0, s, e, hn => by simp at e; exact absurd e.symm hn
  | _, _, .forget h, i + 1, s, e, hn => by simpa using h.get i s (by simpa using e) hn
theorem Ok.weak {K : PySem.W.Frag} {B : B0} {F H : Hp} {σ : St} {a b : Rho} (k : Ok K B F H σ a) (w : Weak a b) : Ok K B F H σ b :=
  ⟨k.toExt, k.len.trans w.len, fun i d h => k.vals i d (w.get i _ h fun z => nomatch z), fun i xs h => k.owns i xs (w.get i _ h fun z => nomatch z), fun i j xs ys p h1 h2 => k.dist i j xs ys p (w.get i _ h1 fun z => nomatch z) (w.get j _ h2 fun z => nomatch z), k.dic.to (.refl _) (fun _ _ e1 e2 _ => ⟨e1, e2⟩) fun i kvs h => ⟨w.get i _ h (fun z => nomatch z), rfl⟩⟩
section
variable {X : Cx} {ρ ρ1 ρ2 : Rho} {sts : List Stmt} {o : Out}
theorem EvSs.weak (h : EvSs X ρ sts (.nx ρ1)) (w : Weak ρ1 ρ2) : EvSs X ρ sts (.nx ρ2) := fun B F H σ E k q => h B F H σ E k fun F' H' σ' k' s' => q F' H' σ' (k'.weak w) s'
end
section
variable {X : Cx} {ρ : Rho} {e : Expr}
theorem EvT.eq {b b' : Bool} (h : EvT X ρ e b) (q : b = b') : EvT X ρ e b' := q ▸ h
theorem EvE.eq {d d' : D} (h : EvE X ρ e d) (q : d = d') : EvE X ρ e d' := q ▸ h
theorem EvN.eq {d d' : List D} (h : EvN X ρ e d) (q : d = d') : EvN X ρ e d' := q ▸ h
theorem EvI.eq {tg : Expr} {d d' : List D} (h : EvI X ρ tg e d) (q : d = d') : EvI X ρ tg e d' := q ▸ h
theorem EvSs.eq {sts : List Stmt} {o o' : Out} (h : EvSs X ρ sts o) (q : o = o') : EvSs X ρ sts o' := q ▸ h
theorem EvS.eq {st : Stmt} {o o' : Out} (h : EvS X ρ st o) (q : o = o') : EvS X ρ st o' := q ▸ h
end
/-- a loop whose turns come back to the same names -/
theorem FRun.same {X : Cx} {tg : Expr} {body : List Stmt} (ρ : Rho) : ∀ (ds : List D), (∀ d ∈ ds, ∃ ρ1, EvG X ρ tg d ρ1 ∧ EvSs X ρ1 body (.nx ρ)) → FRun X tg body ds ρ (.nx ρ)
  | [], _ => .nil
  | d :: ds, h => by
    obtain ⟨ρ1, h1, h2⟩ := h d List.mem_cons_self
    exact .cons h1 h2 (FRun.same ρ ds fun e he => h e (List.mem_cons_of_mem _ he))
/-- a loop by the names behind the first i turns -/
theorem FRun.upto {X : Cx} {tg : Expr} {body : List Stmt} {ds : List D} (R : Nat → Rho) (h : ∀ (j : Nat) d, ds[j]? = some d → ∃ ρ1, EvG X (R j) tg d ρ1 ∧ EvSs X ρ1 body (.nx (R (j + 1)))) : FRun X tg body ds (R 0) (.nx (R ds.length)) := by
  have q := FRun.of (X := X) (tg := tg) body R ds 0 fun j d e => by
    obtain ⟨ρ1, h1, h2⟩ := h j d e
    exact ⟨ρ1, by simpa using h1, by simpa using h2⟩
  simpa using q
theorem FRun.uptoE {X : Cx} {tg : Expr} {body : List Stmt} {ds : List D} {ρ ρ' : Rho} (R : Nat → Rho) (h : ∀ (j : Nat) d, ds[j]? = some d → ∃ ρ1, EvG X (R j) tg d ρ1 ∧ EvSs X ρ1 body (.nx (R (j + 1)))) (e0 : R 0 = ρ) (e1 : R ds.length = ρ') : FRun X tg body ds ρ (.nx ρ') := by
  subst e0; subst e1; exact FRun.upto R h
/-! ### the greatest common divisor by rests -/
theorem mul_right {i j : Int} (h1 : -(2 ^ 64) < j) (h2 : j < 2 ^ 64) : IntMulOk i j := .of_right (intBits_le_64 h1 h2)
theorem mul_left {i j : Int} (h1 : -(2 ^ 64) < i) (h2 : i < 2 ^ 64) : IntMulOk i j := .of_left (intBits_le_64 h1 h2)
/-- a slice of ints -/
def cutI (xs : List Int) (lo hi : Option Int) : List Int := (xs.drop (HT.sIx xs.length 0 lo)).take (HT.sIx xs.length xs.length hi - HT.sIx xs.length 0 lo)
theorem cut_ints (xs : List Int) (lo hi : Option Int) : cutD (xs.map D.int) lo hi = (cutI xs lo hi).map D.int := by
  unfold cutD cutI
  rw [List.length_map, List.map_take, List.map_drop]
theorem cutI_len (xs : List Int) (lo hi : Option Int) : (cutI xs lo hi).length ≤ xs.length := by
  unfold cutI
  rw [List.length_take, List.length_drop]
  omega
theorem CRun.gen {X : Cx} {tg elt : Expr} {α : Type} (g f : α → D) (R : α → Rho) : ∀ (xs : List α) (ρ : Rho), (∀ x ∈ xs, EvGn X ρ tg (g x) (R x)) → (∀ x ∈ xs, ∀ y ∈ xs, EvGn X (R x) tg (g y) (R y)) → (∀ x ∈ xs, EvE X (R x) elt (f x)) → CRun X tg elt [] (xs.map g) ρ (xs.map f)
  | [], _, _, _, _ => .nil
  | x :: xs, ρ, h1, h2, h3 => .take (h1 x List.mem_cons_self) (.inl rfl) (h3 x List.mem_cons_self)
      (CRun.gen g f R xs (R x) (fun e he => h2 x List.mem_cons_self e (List.mem_cons_of_mem _ he)) (fun a ha e he => h2 a (List.mem_cons_of_mem _ ha) e (List.mem_cons_of_mem _ he)) fun e he => h3 e (List.mem_cons_of_mem _ he))
theorem lineN : (sizeLine : Nat) = 16777216 := sizeLine_eq
end L2.EV

set_option linter.all false
set_option autoImplicit false
set_option maxRecDepth 100000
namespace L2.EV
open PySem PySem.Spec PyProof.Rows
open AutoSeq1 (wpAny_loadPart')
/-! ### enumerate over a tuple -/
section
variable {prog : Program} {w : World} {A : Around} {E : Value → Shared → Prop} {s : Shared}
end
section
variable {prog : Program} {w : World} {A : Around} {E : Value → Shared → Prop} {s : Shared}
end
section
variable {X : Cx}
end
end L2.EV
namespace L2.EV
open PySem PySem.Spec PyProof.Rows
section
variable {X : Cx} {pins : List (Addr × Obj)} {σ : St} {H : Hp} {s : Shared}
end
end L2.EV
namespace L2.EV
open PySem PySem.Spec PyProof.Rows
section
variable {X : Cx} {ρ : Rho} {a : Expr} {pos : Pos} {N : List Str} {sc : Scope} {ds : List D}
end
end L2.EV

set_option linter.all false
set_option autoImplicit false
set_option maxRecDepth 100000
/-! Exceptions of own classes below ValueError: raised, flying through frames, caught. -/
namespace L2.EV
open PySem PySem.Spec PyProof.Rows

abbrev vB : List Value := [.type "ValueError", .type "Exception", .type "BaseException", .type "object"]
/-! ### the exception's own record: its traceback in place 1, nothing in place 2 -/
def TrV (h base : Heap) (e C : Addr) (fl : Value) : Prop :=
  ∃ (oe : Obj) (vs : Array Value) (T : Addr) (oT : Obj) (ts : Array Value), h.get? e = some oe ∧ oe.cls = .ref C ∧ oe.data = .fields vs ∧ vs[1]? = some (.ref T) ∧ vs[2]? = some .none ∧ base.get? T = none ∧ T ≠ e ∧ h.get? T = some oT ∧ oT.data = .fields ts ∧ ts[3]? = some fl
/-- it flies; l: the frames it has yet to leave -/
def FlyV (base : Heap) (l : List Env) (e C : Addr) (fl : Value) (h : Heap) : Prop := base.StaysIn h ∧ base.get? e = none ∧ h.FunFrames base l ∧ TrV h base e C fl
section
variable {M : Model} {A : Around} {E : Value → Shared → Prop} {s : Shared} {base : Heap} {env : Env} {outer : List Env} {L e C : Addr} {Q : Unit → Shared → Prop}
end

/-- an exception of the class at C flies and has the frames l yet to leave; H, s: ahead of it; H': the abstract heap behind it -/
structure Fly (P : Program) (w : World) (l : List Env) (H : Hp) (s : Shared) (H' : Hp) (C : Addr) (e : Value) (s' : Shared) : Prop where
  ex : ∃ (ea : Addr) (B : Heap), e = .ref ea ∧ FlyV B l ea C .none s'.heap ∧ HOk P w H' B ∧
    (∀ b o, s.heap.get? b = some o → H b = none → b ∉ frs l → B.get? b = some o) ∧ (∀ b o, s.heap.get? b = some o → b ∉ frs l → ∃ o', B.get? b = some o')
  os : s'.os = s.os
  bare : AllBare s'.gens
  slot : ∀ b o, s.heap.get? b = some o → H b = none → b ∈ frs l → ∃ sl, s'.heap.get? b = some { o with slots := sl }
  free : ∀ b o, s.heap.get? b = some o → H b = none → H' b = none
  tups : ∀ b xs, H b = some (.tup xs) → H' b = some (.tup xs)
  frzs : ∀ b o u, H b = some (.frz o u) → H' b = some (.frz o u)
  tbls : ∀ b ps, H b = some (.tbl ps) → ∃ more, H' b = some (.tbl (ps ++ more))

section
variable {X : Cx} {pins : List (Addr × Obj)} {σ : St} {H H' : Hp} {s s' : Shared} {C : Addr} {e : Value}
end
end L2.EV

set_option linter.all false
set_option autoImplicit false
set_option maxRecDepth 100000
/-! Code that raises: the judgements (m: it may be raised in this body itself), and the defs. -/
namespace L2.EV
open PySem PySem.Spec PyProof.Rows

inductive Thrown (X : Cx) (m : Bool) (H : Hp) (s : Shared) (H' : Hp) (C : Addr) (e : Value) (s' : Shared) : Prop where
  | fly : Fly X.prog X.w X.stack H s H' C e s' → Thrown X m H s H' C e s'
  | made {ea : Addr} {vs : List Value} : m = true → H' = H → e = .ref ea → Heap.MadeExcOf s.heap s'.heap ea (.ref C) vs → s'.os = s.os → s'.gens = s.gens → Thrown X m H s H' C e s'
def XP (X : Cx) (m : Bool) (pins : List (Addr × Obj)) (B : B0) (F : Hp) (ρ' : Rho) (C : Addr) (e : Value) (s' : Shared) : Prop :=
  ∃ (σ1 : St) (H1 : Hp) (s1 : Shared) (F' H' : Hp), Inv X pins σ1 H1 s1 ∧ Ok X.K B F' H' σ1 ρ' ∧ Same F F' ∧ Thrown X m H1 s1 H' C e s'
section
variable {X : Cx} {m : Bool} {ρ ρ1 ρ' : Rho} {e a b c : Expr} {es : List Expr} {d : D} {ds : List D} {pos p : Pos} {N : List Str} {sc : Scope} {C : Addr} {st : Stmt} {rest : List Stmt} {x : Str}
/-! ### statements -/
/-! ### expressions -/
/-! ### defs -/
/-! ### raise -/
end
end L2.EV

set_option linter.all false
set_option autoImplicit false
set_option maxRecDepth 100000
/-! try .. except of an own class. -/
namespace L2.EV
open PySem PySem.Spec PyProof.Rows

section
variable {X : Cx} {pins : List (Addr × Obj)} {σ : St} {H H' : Hp} {s s' : Shared} {C ea : Addr} {B h5 : Heap}
end

section
variable {X : Cx} {ρ ρ1 : Rho} {N : List Str} {sc : Scope} {o : Out} {body suite : List Stmt} {b₀ : Stmt} {hs : List ExceptHandler} {h₀ : ExceptHandler} {pos np hp : Pos} {C Dc : Addr} {y : Str}
end

/-- what is handled is but an exception -/
inductive Soft : Rho → Rho → Prop where
  | nil : Soft [] []
  | same {x : Sl} {ρ ρ' : Rho} : Soft ρ ρ' → Soft (x :: ρ) (x :: ρ')
  | soft {C ea : Addr} {ρ ρ' : Rho} : Soft ρ ρ' → Soft (.val (.exh C ea) :: ρ) (.val (.exc C) :: ρ')
/-! ### in an except suite -/
section
variable {X : Cx} {ρ : Rho} {N : List Str} {sc : Scope} {e : Expr} {d : D} {pos : Pos} {x : Str}
end
end L2.EV

set_option linter.all false
set_option autoImplicit false
set_option maxRecDepth 100000
/-! Targets of several names, from tuples and lists. -/
namespace L2.EV
open PySem PySem.Spec PyProof.Rows

section
variable {prog : Program} {w : World} {A : Around} {E : Value → Shared → Prop}
end
structure wGs (X : Cx) (es : List Expr) (vs : List V) (σ : St) (H : Hp) (Q : St → Hp → Prop) : Prop where
  go : ∀ (pins : List (Addr × Obj)) (s : Shared) (us : List Value), Inv X pins σ H s → Vals vs us → wpAny (model X.prog X.w) X.A (assignInOrder ((assignEach es X.env).map (·.2)) us) (fun _ s' => ∃ σ' H', Inv X pins σ' H' s' ∧ Q σ' H') X.xe s
section
variable {X : Cx} {ρ ρ1 ρ' : Rho} {e : Expr} {es : List Expr} {d : D} {ds : List D} {pos : Pos} {N : List Str} {sc : Scope}
end
end L2.EV

set_option linter.all false
set_option autoImplicit false
set_option maxRecDepth 100000
/-! isinstance of an exception that was caught; is None. -/
namespace L2.EV
open PySem PySem.Spec PyProof.Rows

/-- what the module knows of an own error class -/
structure XCls (K : PySem.W.Frag) (C : Addr) : Prop where
  ga : PySem.W.findIn K (.ref C) "__getattribute__" = some (some (.builtin "BaseException.__getattribute__"))
  gt : PySem.W.findIn K (.ref C) "__getattr__" = some none
  cl : PySem.W.findIn K (.ref C) "__class__" = some (some (.builtin "object.__class__"))
  ob : PySem.W.mroIn K C (.type "object") = some true
  be : PySem.W.mroIn K C (.type "BaseException") = some true

section
variable {prog : Program} {w : World} {A : Around} {E : Value → Shared → Prop} {h : Heap} {g : Array GenState} {d : Drawn} {t : Nat} {os : OsState} {a C : Addr} {o : Obj} {K : PySem.W.Frag}
end
section
variable {X : Cx} {ρ : Rho} {a : Expr} {C : Addr} {p pos : Pos} {N : List Str} {sc : Scope} {x : Str}
/-! ### is None -/
variable {d : D}
end
end L2.EV

set_option linter.all false
set_option autoImplicit false
set_option maxRecDepth 100000
/-! reversed over a tuple. -/
namespace L2.EV
open PySem PySem.Spec PyProof.Rows
open AutoSeq1 (wpAny_loadPart')

section
variable {prog : Program} {w : World} {A : Around} {E : Value → Shared → Prop} {s : Shared}
end
section
variable {X : Cx} {ρ : Rho} {a tg : Expr} {pos : Pos} {N : List Str} {sc : Scope} {ds : List D}
end
end L2.EV

set_option linter.all false
set_option autoImplicit false
set_option maxRecDepth 100000
/-! Defs that are called while an exception is handled. -/
namespace L2.EV
open PySem PySem.Spec PyProof.Rows

abbrev Around.cool (A : Around) : Around := { A with handled := none }
structure FnOkH (P : Program) (w : World) (K : PySem.W.Frag) (mg : Str → Option Value) (base : Heap) (k : Nat) (f : Addr) (fd : FuncData) (ps : List Str) (sp : Sp) : Prop where
  len : ∀ vs H Q E, sp vs H Q E → vs.length = ps.length
  run : ∀ (A : Around) (outer : List Env) (s : Shared) (H : Hp) (args : Args) (us : List Value) (vs : List V) (Q : VK) (E : XK), Room k (Around.cool A) → Env0 P w K mg base A outer s H → HotH A H → BindsTo s fd args (ps.zip us) → Vals vs us → sp vs H Q E →
    codeAny (model P w) A (.call (.ref f) args) (CR CX0 outer P w H s Q E) s
structure DefH (P : Program) (w : World) (K : PySem.W.Frag) (mg : Str → Option Value) (base : Heap) (N : List Str) (sc : Scope) (X : Cx) : Prop where
  at0 : At0 X N sc
  prog : X.prog = P
  w' : X.w = w
  k' : X.K = K
  mg' : X.mg = mg
  base' : X.base = base
  fnT : FnT X
  hot : HotX X
section
variable {X : Cx} {N : List Str} {sc : Scope} {ρ : Rho} {e a b tg : Expr} {es : List Expr} {d : D} {ds : List D} {p pos : Pos} {x : Str} {ea Ce : Addr}
end
end L2.EV

set_option linter.all false
set_option autoImplicit false
set_option maxRecDepth 100000
/-! Truths taken off one another, what a list gives up, raising ahead of an index. -/
namespace L2.EV
open PySem PySem.Spec PyProof.Rows
section
variable {X : Cx} {m : Bool} {ρ ρ1 ρ' : Rho} {e a b c : Expr} {es : List Expr} {d : D} {ds : List D} {pos p : Pos} {N : List Str} {sc : Scope} {C : Addr} {st : Stmt} {rest : List Stmt} {x : Str}
/-- name = xs.pop() -/
theorem s_setPop [FnT X] (t : At X N sc) (i j : Nat) {xs : List D} {apos cpos pos' : Pos} {y : Str} (hr : ρ[i]? = some (.own (xs ++ [d]))) (hij : i ≠ j) (hN : N[i]? = some y := by rfl) (hv : VisS sc y = true := by rfl) (hx : NameOk y = true := by rfl)
    (hj : N[j]? = some x := by rfl) (hl : LocS sc x = true := by rfl)
    (hline : (apos.endLine == cpos.line) = true := by rfl) (hs : swapsWith (.Call (.Attribute (.Name y p) "pop" apos) [] [] cpos) (some (.Name x pos')) pos.line X.env = pure false := by rfl) :
    EvS X ρ (.Assign [.Name x pos'] (.Call (.Attribute (.Name y p) "pop" apos) [] [] cpos) pos) (.nx ((ρ.set i (.own xs)).set j (.val d))) :=
  .of (ps_set (i := j) t.nd (t.ix hj) (t.loc hl) (pe_bm0 PySem.F.plainAttrs_list PySem.F.slot_list_pop PySem.F.type_list_pop mt_pop pe_w rfl hline) hs hfT) fun B F H σ E k q =>
    own_wE t hr hN hv hx k fun l vs h1 h2 h3 => ⟨.inl ⟨rfl, _, SqL.of h2⟩, by
      have hlen := h3.length
      obtain ⟨w, hw, rw'⟩ := h3.get (i := xs.length) (d := d) (by simp)
      have hll : vs.length - 1 = xs.length := by rw [hlen]; simp
      refine ⟨l, vs, w, rfl, rfl, h2, by rw [hll]; exact hw, ?_⟩
      have k2 := k.chgOwn (vs := vs) (ds := xs) hr h1 (by have := h3.dropLast; rwa [List.dropLast_concat] at this)
      exact q F _ _ (k2.setVal j rw') (.refl _)⟩
end
end L2.EV

set_option linter.all false
set_option autoImplicit false
set_option maxRecDepth 100000
namespace L2.EV
open PySem PySem.Spec PyProof.Rows
section
variable {X : Cx} {m : Bool} {ρ ρ1 ρ' : Rho} {e a b c : Expr} {es : List Expr} {d : D} {ds : List D} {pos p : Pos} {N : List Str} {sc : Scope} {C : Addr} {st : Stmt} {rest : List Stmt} {x : Str}
end
end L2.EV

set_option linter.all false
set_option autoImplicit false
set_option maxRecDepth 100000
/-! t[::-1] of a tuple. -/
namespace HT
open PySem PyProof.Rows PySem.Spec
section
variable {prog : Program} {w : World} {A : Around} {E : Value → Shared → Prop} {s : Shared}
theorem pick_rev (xs : Array Value) : ((List.range xs.size).filterMap fun (m : Nat) => xs[((xs.size : Int) - 1 + (m : Int) * (-1)).toNat]?).toArray = xs.toList.reverse.toArray := by
  have cong : ∀ (f g : Nat → Option Value) (l : List Nat), (∀ m ∈ l, f m = g m) → l.filterMap f = l.filterMap g := by
    intro f g l
    induction l with
    | nil => intro _; rfl
    | cons m l ih =>
      intro h
      have h1 := ih fun m hm => h m (List.mem_cons_of_mem _ hm)
      rw [List.filterMap_cons, List.filterMap_cons, h m (List.mem_cons_self ..), h1]
  have h2 : ∀ (n : Nat) (r : List Value), r.length = n → (List.range r.length).filterMap (fun m => r[m]?) = r := by
    intro n
    induction n with
    | zero => intro r hr; rw [List.eq_nil_of_length_eq_zero hr]; rfl
    | succ n ih =>
      intro r hr
      rcases List.eq_nil_or_concat r with e | ⟨ys, y, e⟩
      · subst e; simp at hr
      · rw [List.concat_eq_append] at e
        subst e
        have hl : ys.length = n := by simpa using hr
        rw [List.length_append, List.length_singleton, List.range_succ, List.filterMap_append]
        have e1 := cong (fun m => (ys ++ [y])[m]?) (fun m => ys[m]?) (List.range ys.length) fun m hm => List.getElem?_append_left (List.mem_range.mp hm)
        rw [e1, ih ys hl]
        congr 1
        simp
  have key : ∀ l : List Value, (List.range l.length).filterMap (fun (m : Nat) => l[((l.length : Int) - 1 + (m : Int) * (-1)).toNat]?) = l.reverse := by
    intro l
    have h1 := cong (fun (m : Nat) => l[((l.length : Int) - 1 + (m : Int) * (-1)).toNat]?) (fun m => l.reverse[m]?) (List.range l.length) fun m hm => by
      have hm' := List.mem_range.mp hm
      show l[((l.length : Int) - 1 + (m : Int) * (-1)).toNat]? = l.reverse[m]?
      rw [List.getElem?_reverse hm']
      congr 1; omega
    rw [h1]
    have := h2 _ l.reverse rfl
    rw [List.length_reverse] at this
    exact this
  have := key xs.toList
  rw [Array.length_toList] at this
  have e : (fun (m : Nat) => xs.toList[((xs.size : Int) - 1 + (m : Int) * (-1)).toNat]?) = fun (m : Nat) => xs[((xs.size : Int) - 1 + (m : Int) * (-1)).toNat]? := by
    funext m; exact Array.getElem?_toList
  rw [e] at this
  rw [this]
end
end HT
namespace L2.EV
open PySem PySem.Spec PyProof.Rows
section
variable {X : Cx} {ρ : Rho} {a c : Expr} {xs : List D} {pos p2 : Pos}
end
end L2.EV

set_option linter.all false
set_option autoImplicit false
set_option maxRecDepth 100000
/-! Defs that give a list of the caller's own. -/
namespace L2.EV
open PySem PySem.Spec PyProof.Rows
section
variable {X : Cx} {ρ ρ' : Rho} {e : Expr} {es : List Expr} {d : D} {ds xs : List D} {pos p pos' : Pos} {N : List Str} {sc : Scope} {st : Stmt} {rest : List Stmt} {x : Str}
end
end L2.EV

set_option linter.all false
set_option autoImplicit false
set_option maxRecDepth 100000
/-! A list of one's own is lent to a def that tells a truth. -/
namespace L2.EV
open PySem PySem.Spec PyProof.Rows
def del (F : Hp) (p : Addr) : Hp := fun a => if a = p then none else F a
section
variable {X : Cx} {ρ : Rho} {es : List Expr} {ds xs : List D} {pos p py : Pos} {N : List Str} {sc : Scope} {x y : Str}
end
end L2.EV

set_option linter.all false
set_option autoImplicit false
set_option maxRecDepth 100000
/-! A short range by two; a product with what a list gives up. -/
namespace L2
open PySem PySem.Spec PyProof.Rows
section
variable {X : Cx} {tg : Expr}
end
end L2
namespace L2.EV
open PySem PySem.Spec PyProof.Rows
section
variable {X : Cx} {ρ : Rho} {a b c tg e : Expr} {d : D} {pos : Pos} {N : List Str} {sc : Scope} {x : Str}
end
end L2.EV

set_option linter.all false
set_option autoImplicit false
set_option maxRecDepth 100000
/-! Dicts whose keys are tuples of ints and whose values are ints. -/
namespace L2.EV
open PySem PySem.Spec PyProof.Rows
section
variable {prog : Program} {w : World} {A : Around} {E : Value → Shared → Prop} {s : Shared} {it d : Addr} {i n ep : Nat} {es : Array DictEntry} {e : DictEntry} {o : Obj}
theorem dnext_item {Q : Option Value → Shared → Prop}
    (hit : s.heap.IsKeyIter it d i n ep) (hd : s.heap.get? d = some o) (ho : o.data = .dict es ep) (hn : es.size = n) (he : es[i]? = some e)
    (hQ : ∀ h', h'.IsKeyIter it d (i + 1) n ep → Heap.SameBut it s.heap h' → Q (some e.key) { s with heap := h' }) : wpAny (model prog w) A (pyNext (.ref it)) Q E s := by
  have hT : s.TypeIs (.ref it) "dict_keyiterator" := hit.typeIs
  obtain ⟨⟨cl, di, da, sl⟩, h1, h2, h3⟩ := id hit
  replace h2 : cl = _ := h2
  replace h3 : da = _ := h3
  subst h2 h3
  unfold pyNext
  refine wpAny_bind (wpAny_attempt (wpAny_callSpecial?_slot (name := Str.ofString "__next__") hT F.slot_dict_keyiterator_next (wpAny_call_entry F.slot_dict_keyiterator_next hT F.entry_dict_keyiterator_next ?_ (F.args_dict_keyiterator_next_1 _))))
  show wpAny _ _ (Builtin.Dict_items.slot0 "__next__" { pos := [Value.ref it] } >>= _) _ _ s
  refine wpAny_bind (wpAny_of_eq (a := Value.ref it) (by rfl) ?_)
  show wpAny _ _ (((typeNameOfWhole (.ref it) >>= _) >>= _) >>= _) _ _ s
  refine wpAny_bind (wpAny_bind (wpAny_bind (wpAny_typeNameOfWhole_keyiter hT ?_)))
  refine wpAny_pure ?_
  refine wpAny_bind (wpAny_fieldsOf h1 rfl ?_)
  show wpAny _ _ (Builtin.Dict_items.addrOf (.ref d) >>= _) _ _ s
  refine wpAny_bind (wpAny_of_eq (a := d) (by rfl) ?_)
  refine wpAny_bind (wpAny_dictEntries hd ho ?_)
  dsimp only
  rw [if_neg (by rw [hn]; simp)]
  refine wpAny_bind (wpAny_of_eq (a := d) (by rfl) ?_)
  refine wpAny_bind (wpAny_dictEpoch hd ho ?_)
  rw [if_neg (by simp)]
  refine wpAny_pure ?_
  dsimp only
  rw [if_neg (by omega), Int.toNat_natCast, he]
  dsimp only
  show wpAny _ _ ((typeNameOfWhole (.ref it) >>= _) >>= _) _ _ s
  refine wpAny_bind (wpAny_bind (wpAny_typeNameOfWhole_keyiter hT ?_))
  refine wpAny_pure ?_
  refine wpAny_bind (wpAny_isOneOf_keyiter hT ?_)
  refine wpAny_bind (wpAny_setField h1 rfl (show 1 < 4 by decide) ?_)
  show wpAny _ _ _ _ _ { s with heap := s.heap.update it (Obj.mapFields fun x_1 => x_1.setIfInBounds 1 (rawInt (i + 1))) }
  have e2 := Heap.get?_update_self (Obj.mapFields fun x_1 => x_1.setIfInBounds 1 (rawInt (i + 1))) h1 (by rfl)
  have hT' : Shared.TypeIs { s with heap := s.heap.update it (Obj.mapFields fun x_1 => x_1.setIfInBounds 1 (rawInt (i + 1))) } (.ref it) "dict_keyiterator" := ⟨_, e2, rfl⟩
  refine wpAny_bind (wpAny_holding ?_)
  show wpAny _ _ (Builtin.Dict_items.isOneOf (.ref it) ["dict_keyiterator", "dict_reversekeyiterator"] >>= _) _ _ _
  refine wpAny_bind (wpAny_isOneOf_keyiter hT' ?_)
  rw [if_pos (by decide)]
  refine wpAny_pure ?_
  refine wpAny_pure ⟨_, rfl, ?_⟩
  refine wpAny_pure ?_
  refine hQ _ ⟨_, e2, rfl, rfl⟩ ⟨Heap.size_update _ _ _, fun b hb => Heap.get?_update_other _ _ (Ne.symm hb)⟩
theorem dnext_end {Q : Option Value → Shared → Prop} (hh : A.handled = none)
    (hit : s.heap.IsKeyIter it d i n ep) (hd : s.heap.get? d = some o) (ho : o.data = .dict es ep) (hn : es.size = n) (he : es[i]? = none)
    (hQ : ∀ h', Heap.ExtBut it s.heap h' → Q none { s with heap := h' }) : wpAny (model prog w) A (pyNext (.ref it)) Q E s := by
  have hT : s.TypeIs (.ref it) "dict_keyiterator" := hit.typeIs
  obtain ⟨⟨cl, di, da, sl⟩, h1, h2, h3⟩ := id hit
  replace h2 : cl = _ := h2
  replace h3 : da = _ := h3
  subst h2 h3
  unfold pyNext
  refine wpAny_bind (wpAny_attempt (wpAny_callSpecial?_slot (name := Str.ofString "__next__") hT F.slot_dict_keyiterator_next (wpAny_call_entry F.slot_dict_keyiterator_next hT F.entry_dict_keyiterator_next ?_ (F.args_dict_keyiterator_next_1 _))))
  show wpAny _ _ (Builtin.Dict_items.slot0 "__next__" { pos := [Value.ref it] } >>= _) _ _ s
  refine wpAny_bind (wpAny_of_eq (a := Value.ref it) (by rfl) ?_)
  show wpAny _ _ (((typeNameOfWhole (.ref it) >>= _) >>= _) >>= _) _ _ s
  refine wpAny_bind (wpAny_bind (wpAny_bind (wpAny_typeNameOfWhole_keyiter hT ?_)))
  refine wpAny_pure ?_
  refine wpAny_bind (wpAny_fieldsOf h1 rfl ?_)
  show wpAny _ _ (Builtin.Dict_items.addrOf (.ref d) >>= _) _ _ s
  refine wpAny_bind (wpAny_of_eq (a := d) (by rfl) ?_)
  refine wpAny_bind (wpAny_dictEntries hd ho ?_)
  dsimp only
  rw [if_neg (by rw [hn]; simp)]
  refine wpAny_bind (wpAny_of_eq (a := d) (by rfl) ?_)
  refine wpAny_bind (wpAny_dictEpoch hd ho ?_)
  rw [if_neg (by simp)]
  refine wpAny_pure ?_
  dsimp only
  rw [if_neg (by omega), Int.toNat_natCast, he]
  dsimp only
  show wpAny _ _ ((typeNameOfWhole (.ref it) >>= _) >>= _) _ _ s
  refine wpAny_bind (wpAny_bind (wpAny_typeNameOfWhole_keyiter hT ?_))
  refine wpAny_pure ?_
  refine wpAny_bind (wpAny_setField h1 rfl (show 0 < 4 by decide) ?_)
  show wpAny _ _ _ _ _ { s with heap := s.heap.update it (Obj.mapFields fun x_1 => x_1.setIfInBounds 0 Value.none) }
  refine wpAny_bind ?_
  simp only [newExc, newTuple]
  refine wpAny_bind (wpAny_newObj_type ?_ (by size_fits))
  refine wpAny_bind (m := firstArgMember _ _) (wpAny_of_eq (a := Value.none) (by first | rfl | (simp only [firstArgMember]; rfl)) ?_)
  refine wpAny_newObj_type ?_ (by size_fits)
  simp only [raiseNew]
  refine wpAny_bind (wpAny_handled ?_)
  rw [show A.in1.handled = none from hh]
  dsimp only
  refine wpAny_throw ?_
  refine wpAny_bind (wpAny_isInstance (T := "StopIteration") (b := true) ⟨_, Heap.get?_push_size _ rfl, rfl⟩ isSubtype_stop ?_)
  refine wpAny_pure (hQ _ fun b o hb q => ?_)
  exact Heap.get?_push_of_some _ (Heap.get?_push_of_some _ (by rw [Heap.get?_update_other _ _ (Ne.symm hb)]; exact q))
theorem diter {Q : Value → Shared → Prop} (hs : (d == sysModules) = false) (hd : s.heap.get? d = some o) (hx : o.ExactDict) (ho : o.data = .dict es ep)
    (hQ : Q (.ref s.heap.objs.size) { s with heap := s.heap.push { cls := .type "dict_keyiterator", data := .fields #[.ref d, rawInt 0, rawInt es.size, rawInt ep] } }) : wpAny (model prog w) A (pyIter (.ref d)) Q E s := by
  have hT : s.TypeIs (.ref d) "dict" := ⟨o, hd, hx.1⟩
  refine wpAny_pyIter_slot hT F.slot_dict_iter (wpAny_call_entry F.slot_dict_iter hT F.entry_dict_iter ?_ (F.args_dict_iter_1 _))
  unfold Builtin.«dict.__iter__»
  show wpAny _ _ ((Builtin.Dict.notOrdered "__iter__" { pos := [Value.ref d] } >>= _) >>= _) _ _ s
  refine wpAny_bind (wpAny_bind ?_)
  unfold Builtin.Dict.notOrdered
  rw [if_pos (by decide)]
  refine wpAny_bind (wpAny_typeOf hT ?_)
  rw [if_neg (by decide)]
  refine wpAny_pure ?_
  refine wpAny_bind (wpAny_of_eq (a := (Value.ref d, [])) (by rfl) ?_)
  refine wpAny_pure ?_
  refine wpAny_bind (wpAny_of_eq (a := d) (by rfl) ?_)
  unfold Builtin.Dict.showsAll
  rw [if_neg (by rw [hs]; decide)]
  refine wpAny_bind (wpAny_pure ?_)
  refine wpAny_bind (wpAny_dictEntries hd ho ?_)
  refine wpAny_bind (wpAny_dictEpoch hd ho ?_)
  refine wpAny_bind ?_
  unfold newFields
  refine wpAny_newObj_type ?_ (by size_fits)
  refine wpAny_pure ⟨_, rfl, "dict_keyiterator", _, ⟨_, Heap.get?_push_size _ rfl, rfl⟩, by rfl, hQ⟩
end

abbrev KVs := List (List Int × Int)
abbrev KXs := List (List Int × Addr × Int)
def valI (kvs : KVs) (k : List Int) : Option Int := (kvs.find? fun p => decide (p.1 = k)).map (·.2)
def putI (kvs : KVs) (k : List Int) (n : Int) : KVs := if (valI kvs k).isSome = true then kvs.map (fun p => if p.1 = k then (p.1, n) else p) else kvs ++ [(k, n)]
def stX (xs : KXs) (k : List Int) (b : Addr) (n : Int) : KXs := if (xs.find? fun p => decide (p.1 = k)).isSome = true then xs.map (fun p => if p.1 = k then (p.1, p.2.1, n) else p) else xs ++ [(k, b, n)]
abbrev kv (x : List Int × Addr × Int) : List Int × Int := (x.1, x.2.2)
theorem valI_of (xs : KXs) (k : List Int) : valI (xs.map kv) k = (xs.find? fun p => decide (p.1 = k)).map (·.2.2) := by
  unfold valI
  induction xs with
  | nil => rfl
  | cons x xs ih =>
    rw [List.map_cons, List.find?_cons, List.find?_cons]
    by_cases h : x.1 = k
    · simp [kv, h]
    · have h' : decide ((kv x).1 = k) = false := by simp [kv, h]
      have h2 : decide (x.1 = k) = false := by simp [h]
      rw [h']; exact ih
theorem putI_of (xs : KXs) (k : List Int) (b : Addr) (n : Int) : putI (xs.map kv) k n = (stX xs k b n).map kv := by
  unfold putI stX
  rw [valI_of, Option.isSome_map]
  by_cases h : (xs.find? fun p => decide (p.1 = k)).isSome = true
  · rw [if_pos h, if_pos h, List.map_map, List.map_map]
    refine List.map_congr_left fun x _ => ?_
    show (if x.1 = k then (x.1, n) else kv x) = kv (if x.1 = k then (x.1, x.2.1, n) else x)
    by_cases e : x.1 = k
    · rw [if_pos e, if_pos e]
    · rw [if_neg e, if_neg e]
  · rw [if_neg h, if_neg h, List.map_append]; rfl
abbrev KPair : KXs → List (List Int × Addr × Value) → Prop := Paired fun (x : List Int × Addr × Int) (y : List Int × Addr × Value) => y.1 = x.1 ∧ y.2.1 = x.2.1 ∧ RelV (.int x.2.2) y.2.2
theorem KPair.at {xs : KXs} {ys : List (List Int × Addr × Value)} (r : KPair xs ys) (k : List Int) : ((xs.find? fun p => decide (p.1 = k)) = none → atKey ys k = none) ∧ ∀ x, (xs.find? fun p => decide (p.1 = k)) = some x → ∃ v, atKey ys k = some (x.2.1, v) ∧ RelV (.int x.2.2) v := by
  induction r with
  | nil => exact ⟨fun _ => rfl, fun x h => by cases h⟩
  | @cons p q ps qs h t ih =>
    obtain ⟨h1, h2, h3⟩ := h
    rw [List.find?_cons]
    by_cases e : p.1 = k
    · have e' : decide (p.1 = k) = true := by simp [e]
      rw [e']
      refine ⟨fun z => (by cases z), fun x z => ?_⟩
      cases z
      refine ⟨q.2.2, ?_, h3⟩
      have e2 : decide (q.1 = k) = true := by simp [h1, e]
      show (List.find? _ (q :: qs)).map _ = _
      rw [List.find?_cons, e2]
      show some q.2 = some (p.2.1, q.2.2)
      rw [← h2]
    · have e' : decide (p.1 = k) = false := by simp [e]
      have e2 : decide (q.1 = k) = false := by simp [h1, e]
      rw [e']
      have e3 : atKey (q :: qs) k = atKey qs k := by
        show (List.find? _ (q :: qs)).map _ = _
        rw [List.find?_cons, e2]; rfl
      rw [e3]; exact ih
theorem KPair.isSome {xs : KXs} {ys : List (List Int × Addr × Value)} (r : KPair xs ys) (k : List Int) : (atKey ys k).isSome = (xs.find? fun p => decide (p.1 = k)).isSome := by
  obtain ⟨h1, h2⟩ := r.at k
  cases q : (xs.find? fun p => decide (p.1 = k)) with
  | none => rw [h1 q]; rfl
  | some x => obtain ⟨v, e, _⟩ := h2 x q; rw [e]; rfl
theorem KPair.snoc {p : List Int × Addr × Int} {q : List Int × Addr × Value} (h : q.1 = p.1 ∧ q.2.1 = p.2.1 ∧ RelV (.int p.2.2) q.2.2) : ∀ {xs : KXs} {ys : List (List Int × Addr × Value)}, KPair xs ys → KPair (xs ++ [p]) (ys ++ [q])
  | _, _, .nil => .cons h .nil
  | _, _, .cons a t => .cons a (KPair.snoc h t)
theorem KPair.put {xs : KXs} {ys : List (List Int × Addr × Value)} (r : KPair xs ys) (k : List Int) (b : Addr) {n : Int} {u : Value} (ru : RelV (.int n) u) : KPair (stX xs k b n) (storedH ys k b u) := by
  unfold stX storedH
  rw [r.isSome k]
  by_cases h : (xs.find? fun p => decide (p.1 = k)).isSome = true
  · rw [if_pos h, if_pos h]
    clear h
    induction r with
    | nil => exact .nil
    | @cons p q ps qs h t ih =>
      obtain ⟨h1, h2, h3⟩ := h
      rw [List.map_cons, List.map_cons]
      refine .cons ?_ ih
      unfold putAt
      by_cases e : p.1 = k
      · rw [if_pos e, if_pos (h1.trans e)]; exact ⟨h1, h2, ru⟩
      · rw [if_neg e, if_neg (fun z => e (h1.symm.trans z))]; exact ⟨h1, h2, h3⟩
  · rw [if_neg h, if_neg h]
    exact KPair.snoc ⟨rfl, rfl, ru⟩ r
theorem KPair.len {xs : KXs} {ys : List (List Int × Addr × Value)} (r : KPair xs ys) : xs.length = ys.length := by
  induction r with
  | nil => rfl
  | cons h t ih => rw [List.length_cons, List.length_cons, ih]
theorem stX_len (xs : KXs) (k : List Int) (b : Addr) (n : Int) : (stX xs k b n).length ≤ xs.length + 1 := by
  unfold stX
  split
  · rw [List.length_map]; omega
  · rw [List.length_append, List.length_singleton]; omega
theorem DicR.put {F : Hp} {kvs : KVs} {xs : KXs} {k : List Int} {b : Addr} (r : DicR F kvs xs) (hb : F b = some (.tup (k.map V.int))) (n : Int) : DicR F (putI kvs k n) (stX xs k b n) := by
  refine ⟨?_, fun x hx => ?_⟩
  · rw [r.1]; exact putI_of xs k b n
  · unfold stX at hx
    split at hx
    · obtain ⟨y, hy, rfl⟩ := List.mem_map.mp hx
      by_cases e : y.1 = k
      · rw [if_pos e]; exact r.2 y hy
      · rw [if_neg e]; exact r.2 y hy
    · rcases List.mem_append.mp hx with h | h
      · exact r.2 x h
      · rw [List.mem_singleton] at h; subst h; exact hb

/-! ### the dict in the heap -/
def DcRd (H : Hp) (a : Addr) (xs : KXs) : Prop := H a = some (.ext (dcAt a xs)) ∨ ∃ ob, H a = some (.frz ob (.ext (dcAt a xs)))
theorem DcRd.mono {H H' : Hp} {a : Addr} {xs : KXs} (s : Same H H') (h : DcRd H a xs) : DcRd H' a xs := h.elim (fun z => .inl (s _ _ z)) fun ⟨ob, z⟩ => .inr ⟨ob, s _ _ z⟩
theorem items_int {P : Program} {w : World} : ∀ {ks : List Int} {us : List Value}, Vals (ks.map V.int) us → ItemsAre (intKind P w) ks us
  | [], _, r => by rw [List.map_nil] at r; cases r; exact .nil
  | k :: ks, _, r => by
    rw [List.map_cons] at r
    cases r with
    | cons h t =>
      obtain ⟨tk, rfl⟩ := (show ∃ t, _ = Value.int k t from h)
      exact .cons (by show Value.isInt k (.int k tk) = true; simp [Value.isInt]) (items_int t)
section
variable {X : Cx} {pins : List (Addr × Obj)} {σ : St} {H : Hp} {s : Shared} {a b : Addr} {xs : KXs}
theorem tkey (I : Inv X pins σ H s) {k : List Int} (e : H b = some (.tup (k.map V.int))) : (tupleKind (intKind X.prog X.w)).is s.heap k b := by
  obtain ⟨_, its, r, o, h1, h2, n, h3⟩ := (show ObjOk X.prog X.w H s.heap b (.tup (k.map V.int)) from I.hok b _ e)
  exact ⟨o, its.toArray, n, h1, h2, h3, by simpa using items_int r⟩
theorem DcRd.is (I : Inv X pins σ H s) (h : DcRd H a xs) : dcAt a xs s.heap := by
  rcases h with e | ⟨ob, e⟩
  · exact (show ObjOk X.prog X.w H s.heap a (.ext (dcAt a xs)) from I.hok a _ e).1
  · exact (show ObjOk X.prog X.w H s.heap a (.frz ob (.ext (dcAt a xs))) from I.hok a _ e).2.1
theorem dc_dict (I : Inv X pins σ H s) (h : dcAt a xs s.heap) (hk : ∀ x ∈ xs, H x.2.1 = some (.tup (x.1.map V.int))) : xs.length ≤ sizeLine ∧ (a == sysModules) = false ∧ ∃ ys, KPair xs ys ∧ s.heap.DictOfH (tupleKind (intKind X.prog X.w)) a ys := by
  obtain ⟨z, hd, o, ho, hx, es, ep, ys, h1, h2, r, nd⟩ := h
  refine ⟨z, hd, ys, r, o, es, ep, ho, hx, h1, h2 _ _, fun y hy => ?_, nd⟩
  have all : ∀ {l : KXs} {m : List (List Int × Addr × Value)}, KPair l m → (∀ x ∈ l, H x.2.1 = some (.tup (x.1.map V.int))) → ∀ y ∈ m, (tupleKind (intKind X.prog X.w)).is s.heap y.1 y.2.1 := by
    intro l m q
    induction q with
    | nil => intro _ y hy; exact nomatch hy
    | @cons p q ps qs hq t ih =>
      intro hl y hy
      rcases List.mem_cons.mp hy with e | hy
      · subst e
        rw [hq.1, hq.2.1]
        exact tkey I (hl p (by simp))
      · exact ih (fun x hx => hl x (by simp [hx])) y hy
  exact all r hk y hy
theorem dc_obj {P : Program} {w : World} {h : Heap} {ys : List (List Int × Addr × Value)} (z : xs.length ≤ sizeLine) (hd : (a == sysModules) = false) (r : KPair xs ys) (dd : h.DictOfH (tupleKind (intKind P w)) a ys) : dcAt a xs h := by
  obtain ⟨o, es, ep, h1, h2, h3, h4, h5, h6⟩ := dd
  exact ⟨z, hd, o, h1, h2, es, ep, ys, h3, fun _ _ => h4, r, h6⟩
theorem dc_ext {P : Program} {w : World} {H' : Hp} {h : Heap} (z : dcAt a xs h) : ObjOk P w H' h a (.ext (dcAt a xs)) := by
  refine ⟨z, let ⟨_, _, o, h1, _⟩ := z; ⟨o, h1⟩, fun h1 h2 y k => ?_⟩
  obtain ⟨q1, q2, o, h3, h4⟩ := y
  exact ⟨q1, q2, o, k o h3, h4⟩
/-- it is frozen -/
theorem Inv.frzD (I : Inv X pins σ H s) (h : H a = some (.ext (dcAt a xs))) : ∃ ob, Inv X pins σ (upd H a (.frz ob (.ext (dcAt a xs)))) s := by
  have z := DcRd.is I (.inl h)
  obtain ⟨q1, q2, ob, h1, h2⟩ := id z
  refine ⟨ob, ?_⟩
  exact I.write (x := a) (e := a) (t' := s.toks) (by rw [h]; exact True.intro) (.inl rfl) (fun b u _ q => q) ⟨ob, h1⟩ ⟨h1, dc_ext z⟩
end
end L2.EV

set_option linter.all false
set_option autoImplicit false
set_option maxRecDepth 100000
/-! Dicts of a def's own, and dicts that are read. -/
namespace L2.EV
open PySem PySem.Spec PyProof.Rows
section
variable {K : PySem.W.Frag} {B : B0} {F H : Hp} {σ : St} {ρ : List Sl} {p : Addr} {kvs kvs' : KVs} {es es' : KXs}
def NoDct (σ : St) (ρ : List Sl) (p : Addr) : Prop := ∀ (i : Nat) xs, ρ[i]? = some (.dct xs) → σ[i]? ≠ some (some (.ref p))
theorem Ok.noDct (k : Ok K B F H σ ρ) (hp : H p = none) : NoDct σ ρ p := fun i xs e q => by
  obtain ⟨a, vs, h1, h2, _⟩ := k.dic.dcts i xs e
  rw [h1] at q; cases q
  rw [hp] at h2; cases h2
theorem set_sl {i : Nat} {s : Sl} (j : Nat) (t : Sl) (h : (ρ.set i s)[j]? = some t) (hn : t ≠ s) : i ≠ j ∧ ρ[j]? = some t := by
  by_cases e : i = j
  · subst e
    rw [List.getElem?_set_self'] at h
    cases z : ρ[i]? with
    | none => rw [z] at h; cases h
    | some w => rw [z] at h; exact absurd (Option.some.inj h).symm hn
  · rw [List.getElem?_set_ne e] at h; exact ⟨e, h⟩
theorem Ok.setDct (k : Ok K B F H σ ρ) (i : Nat) (hp : H p = some (.ext (dcAt p es))) (hf : F p = none) (hb : B.H p = none) (hn : NoDct σ ρ p) (r : DicR F kvs es) : Ok K B F H (σ.set i (some (.ref p))) (ρ.set i (.dct kvs)) := by
  refine ⟨k.toExt, by rw [List.length_set, List.length_set, k.len], fun j d q => ?_, fun j xs q => ?_, fun j l xs ys a q1 q2 q3 q4 => ?_, fun j ks q => ?_, fun j l xs ys a q1 q2 q3 q4 => ?_⟩
  · obtain ⟨n, q'⟩ := set_sl j _ q (fun z => nomatch z)
    rw [List.getElem?_set_ne n]; exact k.vals j d q'
  · obtain ⟨n, q'⟩ := set_sl j _ q (fun z => nomatch z)
    rw [List.getElem?_set_ne n]; exact k.owns j xs q'
  · obtain ⟨n1, q1⟩ := set_sl j _ q1 (fun z => nomatch z)
    obtain ⟨n2, q2⟩ := set_sl l _ q2 (fun z => nomatch z)
    rw [List.getElem?_set_ne n1] at q3
    rw [List.getElem?_set_ne n2] at q4
    exact k.dist j l xs ys a q1 q2 q3 q4
  · by_cases h : i = j
    · subst h
      rw [List.getElem?_set_self'] at q
      cases z : ρ[i]? with
      | none => rw [z] at q; cases q
      | some w =>
        rw [z] at q; cases q
        have hi : i < σ.length := by rw [k.len]; exact (List.getElem?_eq_some_iff.mp z).1
        exact ⟨p, es, by rw [List.getElem?_set_self hi], hp, hf, hb, r⟩
    · rw [List.getElem?_set_ne h] at q ⊢
      exact k.dic.dcts j ks q
  · by_cases n1 : i = j
    · by_cases n2 : i = l
      · exact n1.symm.trans n2
      · subst n1
        rw [List.getElem?_set_ne n2] at q2 q4
        have hi : i < σ.length := by
          have := (List.getElem?_eq_some_iff.mp q3).1
          rw [List.length_set] at this; exact this
        rw [List.getElem?_set_self hi] at q3
        cases q3
        exact absurd q4 (hn l ys q2)
    · by_cases n2 : i = l
      · subst n2
        rw [List.getElem?_set_ne n1] at q1 q3
        have hi : i < σ.length := by
          have := (List.getElem?_eq_some_iff.mp q4).1
          rw [List.length_set] at this; exact this
        rw [List.getElem?_set_self hi] at q4
        cases q4
        exact absurd q3 (hn j xs q1)
      · rw [List.getElem?_set_ne n1] at q1 q3
        rw [List.getElem?_set_ne n2] at q2 q4
        exact k.dic.distD j l xs ys a q1 q2 q3 q4
theorem Ok.chgDct {i : Nat} (k : Ok K B F H σ ρ) (hi : ρ[i]? = some (.dct kvs)) (hs : σ[i]? = some (some (.ref p))) (r : DicR F kvs' es') : Ok K B F (upd H p (.ext (dcAt p es'))) σ (ρ.set i (.dct kvs')) := by
  obtain ⟨a, us, h1, h2, h3, h4, h5⟩ := k.dic.dcts i kvs hi
  rw [h1] at hs
  cases hs
  have hlt : i < ρ.length := (List.getElem?_eq_some_iff.mp hi).1
  refine ⟨⟨fun b u q => ?_, fun b u q => ?_, k.sf, k.nw⟩, by rw [List.length_set, k.len], fun j d q => ?_, fun j xs q => ?_, fun j l xs ys a q1 q2 => ?_, fun j ks q => ?_, fun j l xs ys a q1 q2 q3 q4 => ?_⟩
  · have ne : b ≠ p := fun z => by subst z; rw [h3] at q; cases q
    rw [upd_ne ne]; exact k.sub b u q
  · have ne : b ≠ p := fun z => by subst z; rw [h4] at q; cases q
    rw [upd_ne ne]; exact k.sh b u q
  · exact k.vals j d (set_sl j _ q (fun z => nomatch z)).2
  · obtain ⟨b, vs, g1, g2, g3⟩ := k.owns j xs (set_sl j _ q (fun z => nomatch z)).2
    have ne : b ≠ p := fun z => by subst z; rw [h2] at g2; cases g2
    exact ⟨b, vs, g1, by rw [upd_ne ne]; exact g2, g3⟩
  · exact k.dist j l xs ys a (set_sl j _ q1 (fun z => nomatch z)).2 (set_sl l _ q2 (fun z => nomatch z)).2
  · by_cases h : i = j
    · subst h
      rw [List.getElem?_set_self hlt] at q; cases q
      exact ⟨p, es', h1, upd_same, h3, h4, r⟩
    · rw [List.getElem?_set_ne h] at q
      obtain ⟨b, us', g1, g2, g3, g4, g5⟩ := k.dic.dcts j ks q
      have ne : b ≠ p := fun z => by subst z; exact h (k.dic.distD i j kvs ks b hi q h1 g1)
      exact ⟨b, us', g1, by rw [upd_ne ne]; exact g2, g3, g4, g5⟩
  · have own : ∀ (m : Nat) ys, (ρ.set i (.dct kvs'))[m]? = some (.dct ys) → ∃ zs, ρ[m]? = some (.dct zs) := fun m ys q => by
      by_cases h : i = m
      · subst h; exact ⟨kvs, hi⟩
      · rw [List.getElem?_set_ne h] at q; exact ⟨ys, q⟩
    obtain ⟨y1, z1⟩ := own j xs q1
    obtain ⟨y2, z2⟩ := own l ys q2
    exact k.dic.distD j l _ _ a z1 z2 q3 q4
theorem Ok.freezeD {i : Nat} (k : Ok K B F H σ ρ) (hi : ρ[i]? = some (.dct kvs)) : ∃ a es, H a = some (.ext (dcAt a es)) ∧ ∀ ob, Same F (upd F a (.frz ob (.ext (dcAt a es)))) ∧ Ok K B (upd F a (.frz ob (.ext (dcAt a es)))) (upd H a (.frz ob (.ext (dcAt a es)))) σ (ρ.set i (.val (.dic kvs))) := by
  obtain ⟨a, es, h1, h2, h3, h4, h5⟩ := k.dic.dcts i kvs hi
  have hlt : i < ρ.length := (List.getElem?_eq_some_iff.mp hi).1
  refine ⟨a, es, h2, fun ob => ?_⟩
  have sf : Same F (upd F a (.frz ob (.ext (dcAt a es)))) := upd_sameOf h3
  refine ⟨sf, ⟨fun b u q => ?_, fun b u q => ?_, k.sf.trans sf, fun b q => ?_⟩, by rw [List.length_set, k.len], fun j d q => ?_, fun j xs q => ?_, fun j l xs ys a q1 q2 => ?_, fun j ks q => ?_, fun j l xs ys a q1 q2 => ?_⟩
  · by_cases h : b = a
    · subst h; rw [upd_same] at q ⊢; exact q
    · rw [upd_ne h] at q ⊢; exact k.sub b u q
  · have ne : b ≠ a := fun z => by subst z; rw [h4] at q; cases q
    rw [upd_ne ne]; exact k.sh b u q
  · by_cases h : b = a
    · subst h; exact .inr h4
    · rw [upd_ne h] at q; exact k.nw b q
  · by_cases h : i = j
    · subst h
      rw [List.getElem?_set_self hlt] at q; cases q
      exact ⟨_, h1, .dic upd_same (h5.mono sf)⟩
    · rw [List.getElem?_set_ne h] at q
      obtain ⟨v, g1, g2⟩ := k.vals j d q
      exact ⟨v, g1, g2.mono sf⟩
  · obtain ⟨b, vs, g1, g2, g3, g4, g5⟩ := k.owns j xs (set_sl j _ q (fun z => nomatch z)).2
    have ne : b ≠ a := fun z => by subst z; rw [h2] at g2; cases g2
    exact ⟨b, vs, g1, by rw [upd_ne ne]; exact g2, by rw [upd_ne ne]; exact g3, g4, g5.mono sf⟩
  · exact k.dist j l xs ys a (set_sl j _ q1 (fun z => nomatch z)).2 (set_sl l _ q2 (fun z => nomatch z)).2
  · obtain ⟨n, q⟩ := set_sl j _ q (fun z => nomatch z)
    obtain ⟨b, us', g1, g2, g3, g4, g5⟩ := k.dic.dcts j ks q
    have ne : b ≠ a := fun z => by subst z; exact n (k.dic.distD i j kvs ks b hi q h1 g1)
    exact ⟨b, us', g1, by rw [upd_ne ne]; exact g2, by rw [upd_ne ne]; exact g3, g4, g5.mono sf⟩
  · exact k.dic.distD j l xs ys a (set_sl j _ q1 (fun z => nomatch z)).2 (set_sl l _ q2 (fun z => nomatch z)).2
end

/-! ### judgements -/
/-- a dict that is read -/
def EvDr (X : Cx) (ρ : Rho) (e : Expr) (kvs : KVs) : Prop := ∀ (B : B0) (F H : Hp) (σ : St) (Q : VK), Ok X.K B F H σ ρ → (∀ a xs F' H', Ext ⟨F, H⟩ F' H' → DcRd H' a xs → DicR F' kvs xs → Q (.ref a) H') → wE X e σ H Q
/-- a dict that is new -/
def EvDn (X : Cx) (ρ : Rho) (e : Expr) (kvs : KVs) : Prop := ∀ (B : B0) (F H : Hp) (σ : St) (Q : VK), Ok X.K B F H σ ρ → (∀ p xs F' H', Ext ⟨F, H⟩ F' H' → H p = none → H' p = some (.ext (dcAt p xs)) → F' p = none → DicR F' kvs xs → Q (.ref p) H') → wE X e σ H Q
section
variable {X : Cx} {ρ ρ' : Rho} {e a b c : Expr} {d : D} {pos p : Pos} {N : List Str} {sc : Scope} {x y : Str} {kvs kvs' : KVs} {sts : List Stmt} {o : Out} {k : List Int} {n : Int}
theorem EvE.dr (h : EvE X ρ e (.dic kvs)) : EvDr X ρ e kvs := fun B F H σ Q k q => h B F H σ Q k fun v F' H' x' r => by
  cases r with
  | dic hf r => exact q _ _ F' H' x' (.inr ⟨_, x'.sub _ _ hf⟩) r
theorem ev_dct (t : At X N sc) (i : Nat) (hr : ρ[i]? = some (.dct kvs)) (hN : N[i]? = some x := by rfl) (hv : VisS sc x = true := by rfl) (hx : NameOk x = true := by rfl) : EvDr X ρ (.Name x pos) kvs := fun B F H σ Q k q => .mk fun pins s I => by
  obtain ⟨a, es, h1, h2, h3, h4, h5⟩ := k.dic.dcts i kvs hr
  exact pvAt t hN hv hx pins s σ H Q I ⟨_, h1, q a es F H (.refl k.sub) (.inl h2) h5⟩
theorem Ext.freezeD {F H F' H' : Hp} {q : Addr} {xs : KXs} {ob : Obj} (x : Ext ⟨F, H⟩ F' H') (h0 : H q = none) (hf : F' q = none) : Ext ⟨F, H⟩ (upd F' q (.frz ob (.ext (dcAt q xs)))) (upd H' q (.frz ob (.ext (dcAt q xs)))) :=
  ⟨upd_mono x.sub, fun b u z => by
    have ne : b ≠ q := fun w => by subst w; have z' : H b = some u := z; rw [h0] at z'; cases z'
    rw [upd_ne ne]; exact x.sh b u z, x.sf.trans (upd_sameOf hf), fun b z => by
    by_cases h : b = q
    · subst h; exact .inr h0
    · rw [upd_ne h] at z; exact x.nw b z⟩
theorem EvDn.toE (h : EvDn X ρ e kvs) : EvE X ρ e (.dic kvs) := fun B F H σ Q k q => .mk fun pins s I =>
  thn (h B F H σ (fun v H' => ∃ p xs F', v = .ref p ∧ Ext ⟨F, H⟩ F' H' ∧ H p = none ∧ H' p = some (.ext (dcAt p xs)) ∧ F' p = none ∧ DicR F' kvs xs) k (fun p xs F' H' x' h0 h1 h2 r => ⟨p, xs, F', rfl, x', h0, h1, h2, r⟩) pins s I) fun u s1 ⟨v, H', I1, rv, p, xs, F', ev, x', h0, h1, h2, r⟩ => by
    subst ev
    obtain ⟨ob, I2⟩ := Inv.frzD I1 h1
    exact ⟨_, _, I2, rv, q _ _ _ (x'.freezeD h0 h2) (.dic upd_same (r.mono (upd_sameOf h2)))⟩
theorem es_freezeD (i : Nat) (hi : ρ[i]? = some (.dct kvs)) (h : EvSs X (ρ.set i (.val (.dic kvs))) sts o) : EvSs X ρ sts o := fun B F H σ E k q => .mk fun pins s I => by
  obtain ⟨a, es, h2, g⟩ := k.freezeD hi
  obtain ⟨ob, I2⟩ := Inv.frzD I h2
  obtain ⟨sf, k'⟩ := g ob
  exact h B _ _ σ E k' (q.later sf) pins s I2
/-- {} -/
theorem ed_new : EvDn X ρ (.Dict [] [] pos) [] := fun B F H σ Q k q => .mk fun pins s I => by
  have hn := I.hok.fresh (Nat.le_refl s.heap.objs.size)
  have hb : sysModules < s.heap.objs.size := Nat.lt_trans (by decide) (show mainGlobals < s.heap.objs.size from (I.mod.glob.keeps I.bk).lt)
  have z : dcAt s.heap.objs.size [] (s.heap.push { cls := .type "dict", data := .dict #[] }) := dc_obj (P := X.prog) (w := X.w) (Nat.zero_le _) (beq_eq_false_iff_ne.mpr (Ne.symm (Nat.ne_of_lt hb))) .nil (Heap.DictOfH.new s.heap)
  refine wpAny_Dict_empty ⟨.ref s.heap.objs.size, _, I.laid (a := s.heap.objs.size) (o := .ext (dcAt s.heap.objs.size [])) (t' := s.toks) (fun _ _ q => Heap.get?_push_of_some _ q) (Nat.le_refl _) (dc_ext z), rfl, ?_⟩
  exact q _ [] F _ ⟨k.sub.trans (upd_sameOf hn), upd_sameOf hn, .refl _, fun _ z => .inl z⟩ hn upd_same (k.sub.free hn) ⟨rfl, fun _ z => nomatch z⟩
theorem s_setD [FnT X] (t : At X N sc) (i : Nat) {pos' : Pos} (h : EvDn X ρ e kvs) (hi : N[i]? = some x := by rfl) (hx : LocS sc x = true := by rfl) (hs : swapsWith e (some (.Name x pos')) pos.line X.env = pure false := by rfl) :
    EvS X ρ (.Assign [.Name x pos'] e pos) (.nx (ρ.set i (.dct kvs))) :=
  .of (ps_set (i := i) t.nd (t.ix hi) (t.loc hx) pe_w hs hfT) fun B F H σ E k q => h B F H σ _ k fun p vs F' H' x' h0 hp hf r =>
    q F' H' _ ((k.ext x').setDct i hp hf (k.sh.free h0) (by
      have hd := k.noDct h0
      exact hd) r) x'.sf
/-- d[k], there -/
theorem ev_dix (t : At X N sc) (ha : EvDr X ρ a kvs) (hb : EvE X ρ b (.tup (k.map D.int))) (h : valI kvs k = some n) (hs : PlainIx b := by intro _ _; rfl) : EvE X ρ (.Subscript a b pos) (.int n) := fun B F H σ Q kk q => .mk fun pins s I => by
  refine Subscript_ (thn (ha B F H σ (fun v H1 => ∃ p xs F1, v = .ref p ∧ Ext ⟨F, H⟩ F1 H1 ∧ DcRd H1 p xs ∧ DicR F1 kvs xs) kk (fun p xs F1 H1 x1 r1 r2 => ⟨p, xs, F1, rfl, x1, r1, r2⟩) pins s I) fun u s1 ⟨v, H1, I1, rv, p, xs, F1, ev, x1, r1, r2⟩ => ?_)
  subst ev
  cases (show u = Value.ref p from rv)
  refine thn (hb B F1 H1 σ (fun v H2 => ∃ F2, Ext ⟨F1, H1⟩ F2 H2 ∧ Rep X.K F2 v (.tup (k.map D.int))) (kk.ext x1) (fun v F2 H2 x2 r3 => ⟨F2, x2, r3⟩) pins s1 I1) fun iv s2 ⟨w, H2, I2, rw', F2, x2, r3⟩ => ?_
  cases r3 with
  | @tup bt vs ds hf rl =>
    have ev := RepL.of_ints rl
    subst ev
    cases (show iv = Value.ref bt from rw')
    have hd := DcRd.is I2 (r1.mono x2.sh)
    have r2' := r2.mono x2.sf
    obtain ⟨z, hsm, ys, rel, dd⟩ := dc_dict I2 hd (fun x hx => x2.sub _ _ (r2'.2 x hx))
    have hv : valI (xs.map kv) k = some n := by rw [← h, r2.1]
    rw [valI_of] at hv
    obtain ⟨x0, hx0, e0⟩ := Option.map_eq_some_iff.mp hv
    obtain ⟨w0, hw0, rw0⟩ := (rel.at k).2 x0 hx0
    refine subscriptTail_builtinR (x := w0) dd.typeIs PySem.F.slot_dict_getitem.lookup ?_ (hs _ _)
    refine wpAny_getItem_heap (Q := fun r s' => r = w0 ∧ EP X pins σ Q r s') (tupleKind_room_in1 (by have := t.un; omega)) (tkey I2 (x2.sub _ _ hf)) dd hw0 ⟨rfl, .int n, H2, I2.tok _, ?_, q _ F2 H2 (x1.t x2) (.int n)⟩
    rw [← e0]; exact rw0
end
end L2.EV

set_option linter.all false
set_option autoImplicit false
set_option maxRecDepth 100000
/-! Dicts: stores, get, walks, displays, defs that give one. -/
namespace L2.EV
open PySem PySem.Spec PyProof.Rows
section
variable {X : Cx}
/-- one store -/
theorem dc_set {pins : List (Addr × Obj)} {σ : St} {H : Hp} {s : Shared} {a b : Addr} {xs : KXs} {k : List Int} {n : Int} {u : Value} (I : Inv X pins σ H s) (h : H a = some (.ext (dcAt a xs))) (hk : ∀ x ∈ xs, H x.2.1 = some (.tup (x.1.map V.int)))
    (hb : H b = some (.tup (k.map V.int))) (hz : xs.length < sizeLine) (ru : RelV (.int n) u) {h' : Heap} {ys : List (List Int × Addr × Value)} {t' : Nat} (rel : KPair xs ys) (hs : (a == sysModules) = false) (dd : h'.DictOfH (tupleKind (intKind X.prog X.w)) a (storedH ys k b u)) (sb : Heap.SameBut a s.heap h') :
    Inv X pins σ (upd H a (.ext (dcAt a (stX xs k b n)))) { s with heap := h', toks := t' } := by
  have z : dcAt a (stX xs k b n) h' := dc_obj (by have := stX_len xs k b n; omega) hs (rel.put k b ru) dd
  exact I.write (x := a) (e := a) (by rw [h]; exact True.intro) (.inl rfl) (fun c q hc w => (sb.2 c hc).trans w) (let ⟨_, _, o, h1, _⟩ := z; ⟨o, h1⟩) (dc_ext z)
def rSetD : TSet := fun o i v H Q => ∃ a xs k b n, o = .ref a ∧ i = .ref b ∧ v = .int n ∧ H a = some (.ext (dcAt a xs)) ∧ (∀ x ∈ xs, H x.2.1 = some (.tup (x.1.map V.int))) ∧ H b = some (.tup (k.map V.int)) ∧ xs.length < sizeLine ∧ Q (upd H a (.ext (dcAt a (stX xs k b n))))
theorem set_dc (hu : X.A.units + 1 < cLine) : PSet X rSetD := by
  intro pins s σ H o i v ov iv u Q I ro ri rv h
  obtain ⟨a, xs, k, b, n, rfl, rfl, rfl, h1, h2, h3, h4, q⟩ := h
  cases (show ov = Value.ref a from ro)
  cases (show iv = Value.ref b from ri)
  obtain ⟨z, hs, ys, rel, dd⟩ := dc_dict I (DcRd.is I (.inl h1)) h2
  refine wpAny_setItem_heap (hsz := by rw [← rel.len]; exact z) (tupleKind_room_in1 hu) (tkey I h3) dd fun h' dd' sb => ⟨_, dc_set I h1 h2 h3 h4 rv rel hs dd' sb, q⟩
/-- the pairs of a display are stored -/
def stAll (xs : KXs) (is : KXs) : KXs := is.foldl (fun acc x => stX acc x.1 x.2.1 x.2.2) xs
theorem dc_store (hu : X.A.units < cLine) {pins : List (Addr × Obj)} {σ : St} {a : Addr} {E : Value → Shared → Prop} {Q : PUnit → Shared → Prop} : ∀ (is : KXs) (ws : List (Value × Value)) (xs : KXs) (H : Hp) (s : Shared), Inv X pins σ H s → H a = some (.ext (dcAt a xs)) → (∀ x ∈ xs, H x.2.1 = some (.tup (x.1.map V.int))) → (∀ x ∈ is, H x.2.1 = some (.tup (x.1.map V.int))) →
    Paired (fun (x : List Int × Addr × Int) (w : Value × Value) => w.1 = .ref x.2.1 ∧ RelV (.int x.2.2) w.2) is ws → xs.length + is.length < sizeLine → (∀ s', Inv X pins σ (upd H a (.ext (dcAt a (stAll xs is)))) s' → Q PUnit.unit s') →
    wpAny (model X.prog X.w) X.A (forIn ws PUnit.unit fun x _ => do
      dictSet a x.fst x.snd
      pure (ForInStep.yield PUnit.unit)) Q E s := by
  intro is
  induction is with
  | nil =>
    intro ws xs H s I h1 h2 h3 r hz q
    cases r
    have e : upd H a (.ext (dcAt a xs)) = H := funext fun b => by
      by_cases hb : b = a
      · subst hb; rw [upd_same, h1]
      · rw [upd_ne hb]
    have q' := q s
    rw [show stAll xs [] = xs from rfl, e] at q'
    exact wpAny_pure (q' I)
  | cons x is ih =>
    intro ws xs H s I h1 h2 h3 r hz q
    cases r with
    | @cons _ w _ ws hw t =>
    obtain ⟨k, b, n⟩ := x
    obtain ⟨w1, w2⟩ := w
    obtain ⟨e1, rn⟩ := hw
    cases (show w1 = Value.ref b from e1)
    rw [List.length_cons] at hz
    rw [List.forIn_cons]
    obtain ⟨z, hs, ys, rel, dd⟩ := dc_dict I (DcRd.is I (.inl h1)) h2
    have hb : H b = some (.tup (k.map V.int)) := h3 (k, b, n) (by simp)
    refine wpAny_bind (wpAny_bind (wpAny_dictSet_heap (by show X.A.units < cLine; exact hu) (tkey I hb) dd (fun h' dd' sb => ?_) (by rw [← rel.len]; exact z)))
    refine wpAny_pure ?_
    have I2 := dc_set (t' := s.toks + (tupleKind (intKind X.prog X.w)).draws k) I h1 h2 hb (by omega) rn rel hs dd' sb
    have tn : ∀ c ks, H c = some (.tup ks) → upd H a (.ext (dcAt a (stX xs k b n))) c = some (.tup ks) := fun c ks hc => by
      rw [upd_ne (fun z => by subst z; rw [h1] at hc; cases hc)]; exact hc
    refine ih ws (stX xs k b n) _ _ I2 upd_same (fun y hy => ?_) (fun y hy => tn _ _ (h3 y (by simp [hy]))) t (by have := stX_len xs k b n; omega) fun s' I3 => q s' ?_
    · unfold stX at hy
      split at hy
      · obtain ⟨y', hy', rfl⟩ := List.mem_map.mp hy
        by_cases e : y'.1 = k
        · rw [if_pos e]; exact tn _ _ (h2 y' hy')
        · rw [if_neg e]; exact tn _ _ (h2 y' hy')
      · rcases List.mem_append.mp hy with h | h
        · exact tn _ _ (h2 y h)
        · rw [List.mem_singleton] at h; subst h; exact tn _ _ hb
    · rw [upd_upd] at I3; exact I3
end
section
variable {X : Cx} {ρ ρ' : Rho} {e f a b c : Expr} {d : D} {pos p apos cpos : Pos} {N : List Str} {sc : Scope} {x y : Str} {kvs kvs' : KVs} {sts : List Stmt} {o : Out} {k : List Int} {n : Int}
/-- x[k] = n -/
theorem eg_dput (t : At X N sc) (i : Nat) (hr : ρ[i]? = some (.dct kvs)) (hb : EvE X ρ b (.tup (k.map D.int))) (hz : kvs.length < sizeLine) (hN : N[i]? = some y := by rfl) (hv : VisS sc y = true := by rfl) (hx : NameOk y = true := by rfl)
    (ha : ∀ v, assign (.Subscript (.Name y p) b pos) X.env v = (do
      let ov ← holding [v] (eval (.Name y p) X.env)
      let iv ← holding [v, ov] (eval b X.env)
      standAt pos
      holding [v, ov, iv] (setItem ov iv v)
      release [v, ov, iv] []) := by intro _; rfl) : EvG X ρ (.Subscript (.Name y p) b pos) (.int n) (ρ.set i (.dct (putI kvs k n))) :=
  .of (pg_sub pe_w pe_w (set_dc (by have := t.un; omega)) ha) fun B F H σ v Q kk r q => by
    cases r
    refine .mk fun pins s I => ?_
    obtain ⟨l, es, h1, h2, h3, h4, h5⟩ := kk.dic.dcts i kvs hr
    refine pvAt t hN hv hx pins s σ H _ I ⟨_, h1, ?_⟩
    refine hb B F H σ _ kk fun w F' H' x' rw' => ?_
    cases rw' with
    | @tup bt vs ds hf rl =>
      have ev := RepL.of_ints rl
      subst ev
      have h5' := h5.mono x'.sf
      refine ⟨l, es, k, bt, n, rfl, rfl, rfl, x'.sh _ _ h2, fun x hx => x'.sub _ _ (h5'.2 x hx), x'.sub _ _ hf, ?_, ?_⟩
      · have e := congrArg List.length h5.1
        rw [List.length_map] at e; omega
      · exact q F' _ _ ((kk.ext x').chgDct hr h1 (h5'.put hf n)) x'.sf
/-- d.get(k, n) -/
theorem ev_dget (t : At X N sc) {n0 : Int} (ho : EvDr X ρ a kvs) (ha : EvA X ρ [e, f] [.tup (k.map D.int), .int n0]) (hbase : attributeBase a "get" X.env (eval a X.env) = eval a X.env := by rfl)
    (hfew : ((backTo cpos (starEach [e, f] X.env)).all (fun x => !x.1) && (backToKw cpos (keywordEach [] X.env)).all (fun x => x.1.isSome)
      && decide (([e, f] : List Expr).length + ([] : List Keyword).length + (if ([] : List Keyword).isEmpty then 0 else 1) < 30)) = true := by rfl)
    (hline : (apos.endLine == cpos.line) = true := by rfl) (hs : starEach [e, f] X.env = (false, eval e X.env) :: starEach [f] X.env := by rfl) (hplain : (backTo cpos (starEach [f] X.env)).any (·.1) = false := by rfl) :
    EvE X ρ (.Call (.Attribute a "get" apos) [e, f] [] cpos) (.int ((valI kvs k).getD n0)) := fun B F H σ Q kk q => .mk fun pins s I => by
  refine wpAny_Call_method_late hbase hfew hline rfl (thn (ho B F H σ (fun v H1 => ∃ p xs F1, v = .ref p ∧ Ext ⟨F, H⟩ F1 H1 ∧ DcRd H1 p xs ∧ DicR F1 kvs xs) kk (fun p xs F1 H1 x1 r1 r2 => ⟨p, xs, F1, rfl, x1, r1, r2⟩) pins s I) fun u s1 ⟨v, H1, I1, rv, p, xs, F1, ev, x1, r1, r2⟩ => ?_)
  subst ev
  cases (show u = Value.ref p from rv)
  have hd := DcRd.is I1 r1
  obtain ⟨_, _, ob, g1, g2, _⟩ := id hd
  refine ⟨"dict", "dict.get", PySem.F.plainAttrs_dict, PySem.F.slot_dict_get, PySem.F.type_dict_get, ⟨ob, g1, g2.1⟩, fun c ec => (by cases ec; exact ⟨ob, g1, g2.2.1⟩), ?_⟩
  have hA := ha.2 B F1 H1 σ (fun vs H2 => ∃ F2, Ext ⟨F1, H1⟩ F2 H2 ∧ RepL X.K F2 vs [.tup (k.map D.int), .int n0]) (kk.ext x1) (fun vs F2 H2 x2 r3 => ⟨F2, x2, r3⟩) cpos pins s1 I1
  rw [hs] at hA ⊢
  refine Calls.callWith_builtin (by show (false || (backTo cpos (starEach [f] X.env)).any (·.1)) = false; rw [hplain] <;> rfl) (Calls.evalArgs_plain ?_)
  refine thn hA fun us s2 ⟨vs, H2, I2, rvs, F2, x2, r3⟩ => ?_
  cases r3 with
  | cons ra rb =>
  cases rb with
  | cons rn rnil =>
  cases rnil
  cases rn
  cases ra with
  | @tup bt ks ds hf rl =>
  have ev := RepL.of_ints rl
  subst ev
  obtain ⟨u1, u2, rfl, ru1, ru2⟩ := vals2 rvs
  cases (show u1 = Value.ref bt from ru1)
  have r2' := r2.mono x2.sf
  obtain ⟨z, hsm, ys, rel, dd⟩ := dc_dict I2 (DcRd.is I2 (r1.mono x2.sh)) (fun x hx => x2.sub _ _ (r2'.2 x hx))
  refine call_meetsIn PySem.F.slot_dict_get dd.typeIs PySem.F.entry_dict_get (PySem.F.args_dict_get_3 _ _ _) (meetsH_dict_get_default (tupleKind (intKind X.prog X.w)) p bt hsm u2) ⟨tupleKind_room_in1 (by have := t.un; omega), k, ys, tkey I2 (x2.sub _ _ hf), dd, ?_⟩
  refine ⟨.int ((valI kvs k).getD n0), H2, I2.tok _, ?_, q _ F2 H2 (x1.t x2) (.int _)⟩
  rw [r2.1, valI_of]
  obtain ⟨hN, hS⟩ := rel.at k
  cases qq : (xs.find? fun p => decide (p.1 = k)) with
  | none => rw [hN qq]; exact ru2
  | some x0 =>
    obtain ⟨w0, hw0, rw0⟩ := hS x0 qq
    rw [hw0]; exact rw0
/-! ### walks -/
def Itd (l : Addr) (ob : Obj) (xs : KXs) : It :=
  ⟨fun i H => H l = some (.frz ob (.ext (dcAt l xs))) ∧ i < xs.length, fun i H v H' => H' = H ∧ ∃ x, xs[i]? = some x ∧ v = .ref x.2.1, fun i H => H l = some (.frz ob (.ext (dcAt l xs))) ∧ xs.length ≤ i, False⟩
theorem es_at {es : Array DictEntry} {ys : List (List Int × Addr × Value)} {xs : KXs} (h : ∀ (P : Program) (w : World), es.toList = ys.map (entryOfKey (tupleKind (intKind P w)))) (P : Program) (w : World) (r : KPair xs ys) : es.size = xs.length ∧ ∀ (i : Nat) x, xs[i]? = some x → ∃ e, es[i]? = some e ∧ e.key = .ref x.2.1 := by
  have h' := h P w
  have hl : es.size = ys.length := by rw [← Array.length_toList, h', List.length_map]
  refine ⟨by rw [hl, r.len], fun i x hx => ?_⟩
  have g : ∀ {xs : KXs} {ys : List (List Int × Addr × Value)}, KPair xs ys → ∀ (i : Nat) x, xs[i]? = some x → ∃ y, ys[i]? = some y ∧ y.2.1 = x.2.1 := by
    intro xs ys r
    induction r with
    | nil => intro i x hx; simp at hx
    | @cons p q ps qs hq t ih =>
      intro i x hx
      cases i with
      | zero => simp at hx; subst hx; exact ⟨q, by simp, hq.2.1⟩
      | succ i => simpa using ih i x (by simpa using hx)
  obtain ⟨y, hy, ey⟩ := g r i x hx
  refine ⟨entryOfKey (tupleKind (intKind P w)) y, ?_, ?_⟩
  · rw [← Array.getElem?_toList, h', List.getElem?_map, hy]; rfl
  · show Value.ref y.2.1 = _
    rw [ey]
theorem turn_dic {P : Program} {w : World} {K : PySem.W.Frag} {tg : Expr} (l it : Addr) (ob : Obj) (xs : KXs) {es : Array DictEntry} {ep : Nat} {ys : List (List Int × Addr × Value)} (h1 : ob.data = .dict es ep) (h2 : ∀ (P : Program) (w : World), es.toList = ys.map (entryOfKey (tupleKind (intKind P w)))) (r : KPair xs ys) :
    Turn P w K tg (Itd l ob xs) [it] it (fun i h => h.IsKeyIter it l i es.size ep) where
  mem := by simp
  obj := fun i h st b hb => by
    have e : b = it := by simpa using hb
    subst e
    obtain ⟨o, e, c, d⟩ := st
    exact ⟨o, e, fun v z => by rw [d] at z; cases z⟩
  keep := fun i h h' st k => st.at fun o e => k it (by simp) o e
  item := by
    intro X hP hw hK hc i pins s σ H E I hf st hg
    subst hP hw hK
    replace hc := hc.resolve_right fun z => z.1
    obtain ⟨hq, hx⟩ := hg
    obtain ⟨f0, f1, f2, f3, f4, f5⟩ := hf it (by simp)
    have ho := (show ObjOk X.prog X.w H s.heap l (.frz ob (.ext (dcAt l xs))) from I.hok l _ hq).1
    obtain ⟨hl, hg⟩ := es_at h2 X.prog X.w r
    obtain ⟨e, he, ek⟩ := hg i xs[i] (List.getElem?_eq_getElem hx)
    refine dnext_item st ho h1 rfl he fun h' st' sb => ?_
    have I1 : Inv X pins σ H { s with heap := h' } := I.turned (t' := s.toks) (fun b o hb e => (sb.2 b hb).trans e) f0 f1 f3 f4 f5
    exact ⟨e.key, rfl, letGo_keyiter (s' := { s with heap := h' }) st' ⟨.ref xs[i].2.1, H, I1, ek, ⟨rfl, _, List.getElem?_eq_getElem hx, rfl⟩, st', fun b hb => (hf b hb).1⟩⟩
  done := by
    intro X hP hw hK hc i pins s σ H E I hf st hg
    subst hP hw hK
    replace hc := hc.resolve_right fun z => z.1
    obtain ⟨hq, hx⟩ := hg
    obtain ⟨f0, f1, f2, f3, f4, f5⟩ := hf it (by simp)
    have ho := (show ObjOk X.prog X.w H s.heap l (.frz ob (.ext (dcAt l xs))) from I.hok l _ hq).1
    obtain ⟨hl, hg⟩ := es_at h2 X.prog X.w r
    exact dnext_end (I.ok.hd hc) st ho h1 rfl (Array.getElem?_eq_none (by omega)) fun h' eb => ⟨rfl, I.turned (t' := s.toks) (fun b o hb e => eb b o hb e) f0 f1 f3 f4 f5⟩
  self := fun _ _ _ _ _ st h => wpAny_pyIter_keyiter st h
def iDic (tl : TE) : TI := fun σ H R => tl σ H fun x H1 => ∃ l ob xs, x = .ref l ∧ H1 l = some (.frz ob (.ext (dcAt l xs))) ∧ R (Itd l ob xs) H1
theorem pi_dic {tg l : Expr} {tl : TE} (hl : PE X l tl) : PI X tg l (iDic tl) := by
  intro pins s σ H R I h
  refine thn (hl pins s σ H _ I h) fun v s1 ⟨x, H1, I1, r1, q1⟩ => ?_
  obtain ⟨a, ob, xs, e, hq, q⟩ := q1
  subst e
  cases (show v = Value.ref a from r1)
  obtain ⟨ho, hz⟩ := (show ObjOk X.prog X.w H1 s1.heap a (.frz ob (.ext (dcAt a xs))) from I1.hok a _ hq)
  obtain ⟨_, hs, o, g1, g2, es, ep, ys, g3, g4, g5, _⟩ := hz.1
  have eo : o = ob := by rw [ho] at g1; exact (Option.some.inj g1).symm
  subst eo
  refine diter hs ho g2 g3 ?_
  refine ⟨s1.heap.objs.size, [s1.heap.objs.size], _, _, H1, rfl, I1.kept (t' := s1.toks) fun b o e => Heap.get?_push_of_some _ e, turn_dic a _ _ xs g3 g4 g5, ⟨_, Heap.get?_push_size _ rfl, rfl, rfl⟩, fun b hb => ?_, q⟩
  have e : b = s1.heap.objs.size := by simpa using hb
  subst e
  exact I1.fpOk (Nat.le_refl _) (I1.hok.fresh (Nat.le_refl _))
abbrev keyD (q : List Int × Int) : D := .tup (q.1.map D.int)
theorem ei_dic {tg : Expr} (h : EvE X ρ e (.dic kvs)) : EvI X ρ tg e (kvs.map keyD) := .of (pi_dic pe_w) fun B F H σ R kk q => h B F H σ _ kk fun v F' H' x' r => by
  cases r with
  | @dic l ob ks xs hf r =>
    refine ⟨l, ob, xs, rfl, x'.sub _ _ hf, q _ F' H' x' fun i F2 H2 s1 s2 => ⟨fun d hd => ?_, fun hl => ⟨s2 _ _ (s1 _ _ hf), by rw [r.1, List.length_map, List.length_map] at hl; exact hl⟩⟩⟩
    rw [r.1, List.map_map, List.getElem?_map] at hd
    obtain ⟨x, hx, e⟩ := Option.map_eq_some_iff.mp hd
    subst e
    refine ⟨⟨s2 _ _ (s1 _ _ hf), (List.getElem?_eq_some_iff.mp hx).1⟩, fun v H3 hy => ?_⟩
    obtain ⟨rfl, x', hx', rfl⟩ := hy
    rw [hx] at hx'; cases hx'
    exact ⟨F2, .refl s2, .tup (s1 _ _ (r.2 x (List.mem_of_getElem? hx))) (RepL.ints x.1)⟩
end
end L2.EV

set_option linter.all false
set_option autoImplicit false
set_option maxRecDepth 100000
/-! Dicts: displays, defs that give one. -/
namespace L2.EV
open PySem PySem.Spec PyProof.Rows
section
variable {X : Cx} {ρ ρ' : Rho} {e f a b c : Expr} {d : D} {pos p apos cpos pos' : Pos} {N : List Str} {sc : Scope} {x y : Str} {kvs kvs' : KVs} {o : Out} {k : List Int} {n : Int} {st : Stmt} {rest : List Stmt} {ds : List D} {es : List Expr}
/-- keys and values of a display, from the left -/
inductive EvKs (X : Cx) (ρ : Rho) : List (Option Expr) → List Expr → KVs → Prop where
  | nil : EvKs X ρ [] [] []
  | cons {a b : Expr} {as : List (Option Expr)} {bs : List Expr} {k : List Int} {n : Int} {r : KVs} : EvE X ρ a (.tup (k.map D.int)) → EvE X ρ b (.int n) → EvKs X ρ as bs r → EvKs X ρ (some a :: as) (b :: bs) ((k, n) :: r)
theorem EvKs.len {as : List (Option Expr)} {bs : List Expr} (h : EvKs X ρ as bs kvs) : as.all (·.isSome) = true ∧ as.length = bs.length ∧ as.length = kvs.length := by
  induction h with
  | nil => exact ⟨rfl, rfl, rfl⟩
  | cons h1 h2 h3 ih => exact ⟨by rw [List.all_cons, ih.1]; rfl, congrArg Nat.succ ih.2.1, congrArg Nat.succ ih.2.2⟩
def putAll (kvs more : KVs) : KVs := more.foldl (fun acc q => putI acc q.1 q.2) kvs
theorem EvKs.walk {as : List (Option Expr)} {bs : List Expr} (h : EvKs X ρ as bs kvs) : ∀ {B : B0} {F H : Hp} {σ : St}, Ok X.K B F H σ ρ → ∀ {pins : List (Addr × Obj)} {s : Shared}, Inv X pins σ H s →
    wpAny (model X.prog X.w) X.A (evalPairs (pairTrees as bs X.env pos)) (fun ws s' => ∃ F' H' xs, Inv X pins σ H' s' ∧ Ext ⟨F, H⟩ F' H' ∧ DicR F' kvs xs ∧ Paired (fun (x : List Int × Addr × Int) (w : Value × Value) => w.1 = .ref x.2.1 ∧ RelV (.int x.2.2) w.2) xs ws) X.xe s := by
  induction h with
  | nil => intro B F H σ kk pins s I; exact pairTrees_nil_walk ⟨F, H, [], I, .refl kk.sub, ⟨rfl, fun _ z => nomatch z⟩, .nil⟩
  | @cons a b as bs k n r h1 h2 h3 ih =>
    intro B F H σ kk pins s I
    refine pairTrees_cons_walk (thn (h1 B F H σ (fun v H1 => ∃ F1, Ext ⟨F, H⟩ F1 H1 ∧ Rep X.K F1 v (.tup (k.map D.int))) kk (fun v F1 H1 x1 r1 => ⟨F1, x1, r1⟩) pins s I) fun u s1 ⟨v, H1, I1, rv, F1, x1, r1⟩ => ?_)
    have k1 := kk.ext x1
    refine thn (h2 B F1 H1 σ (fun v H2 => ∃ F2, Ext ⟨F1, H1⟩ F2 H2 ∧ Rep X.K F2 v (.int n)) k1 (fun v F2 H2 x2 r2 => ⟨F2, x2, r2⟩) pins s1 I1) fun u2 s2 ⟨v2, H2, I2, rv2, F2, x2, r2⟩ => ?_
    refine thn (ih (k1.ext x2) I2) fun ws s3 ⟨F3, H3, xs, I3, x3, r3, pr⟩ => ?_
    cases r2
    cases r1 with
    | @tup bt vs ds hf rl =>
    have ev := RepL.of_ints rl
    subst ev
    cases (show u = Value.ref bt from rv)
    refine ⟨F3, H3, (k, bt, n) :: xs, I3, (x1.t x2).t x3, ⟨by rw [r3.1]; rfl, fun x hx => ?_⟩, .cons ⟨rfl, rv2⟩ pr⟩
    rcases List.mem_cons.mp hx with e | hx
    · subst e; exact x3.sf _ _ (x2.sf _ _ hf)
    · exact r3.2 x hx
theorem stAll_R {F : Hp} : ∀ (is : KXs) (kvs : KVs) (xs : KXs), DicR F kvs xs → (∀ x ∈ is, F x.2.1 = some (.tup (x.1.map V.int))) → DicR F (putAll kvs (is.map kv)) (stAll xs is)
  | [], kvs, xs, r, _ => r
  | (k, b, n) :: is, kvs, xs, r, h => by
    show DicR F (putAll (putI kvs k n) (is.map kv)) (stAll (stX xs k b n) is)
    exact stAll_R is _ _ (r.put (h (k, b, n) (by simp)) n) fun x hx => h x (by simp [hx])
theorem ed_disp (t : At X N sc) {as : List (Option Expr)} {bs : List Expr} (h : EvKs X ρ as bs kvs) (h0 : as ≠ [] := by exact fun z => nomatch z) (h15 : as.length ≤ 15 := by decide) : EvDn X ρ (.Dict as bs pos) (putAll [] kvs) := fun B F H σ Q kk q => .mk fun pins s I => by
  obtain ⟨l1, l2, l3⟩ := h.len
  rw [arm_eval_Dict, zip_pairTrees as bs X.env pos l1 l2]
  have hpl : (pairTrees as bs X.env pos).length = as.length := pairTrees_length as bs X.env pos l1 l2
  rw [dictDisplay_pairs _ (fun z => h0 (List.eq_nil_of_length_eq_zero (by rw [← hpl, z]; rfl))) (by omega)]
  refine wpAny_bind (wpAny_standAt (wpAny_bind ?_))
  unfold subDict
  refine wpAny_bind (wpAny_alloc ?_)
  have hn := I.hok.fresh (Nat.le_refl s.heap.objs.size)
  have hb : sysModules < s.heap.objs.size := Nat.lt_trans (by decide) (show mainGlobals < s.heap.objs.size from (I.mod.glob.keeps I.bk).lt)
  have z : dcAt s.heap.objs.size [] (s.heap.push { cls := .type "dict", data := .dict #[] }) := dc_obj (P := X.prog) (w := X.w) (Nat.zero_le _) (beq_eq_false_iff_ne.mpr (Ne.symm (Nat.ne_of_lt hb))) .nil (Heap.DictOfH.new s.heap)
  have I1 := I.laid (a := s.heap.objs.size) (o := .ext (dcAt s.heap.objs.size [])) (h' := s.heap.push { cls := .type "dict", data := .dict #[] }) (t' := s.toks) (fun _ _ q => Heap.get?_push_of_some _ q) (Nat.le_refl _) (dc_ext z)
  have x1 : Ext ⟨F, H⟩ F (upd H s.heap.objs.size (.ext (dcAt s.heap.objs.size []))) := ⟨kk.sub.trans (upd_sameOf hn), upd_sameOf hn, .refl _, fun _ z => .inl z⟩
  refine wpAny_bind (wpAny_holding ?_)
  rw [if_pos (by omega)]
  refine wpAny_bind (thn (h.walk (kk.ext x1) I1) fun ws s2 ⟨F2, H2, is, I2, x2, r2, pr⟩ => ?_)
  refine wpAny_holding (wpAny_bind ?_)
  have hf2 : F2 s.heap.objs.size = none := by
    cases e : F2 s.heap.objs.size with
    | none => rfl
    | some o =>
      rcases x2.nw s.heap.objs.size (by rw [e]; exact Option.some_ne_none o) with w | w
      · exact absurd (kk.sub.free hn) w
      · have w' : upd H s.heap.objs.size (.ext (dcAt s.heap.objs.size [])) s.heap.objs.size = none := w
        rw [upd_same] at w'; cases w'
  have h2 : H2 s.heap.objs.size = some (.ext (dcAt s.heap.objs.size [])) := x2.sh _ _ upd_same
  have hlen : is.length = kvs.length := by rw [r2.1, List.length_map]
  refine dc_store (by have := t.un; omega) is ws [] H2 s2 I2 h2 (fun _ z => nomatch z) (fun x hx => x2.sub _ _ (r2.2 x hx)) pr (by rw [List.length_nil, sizeLine_eq]; omega) fun s3 I3 => ?_
  refine wpAny_pure (wpAny_pure (wpAny_pure ⟨.ref s.heap.objs.size, _, I3, rfl, ?_⟩))
  have x12 := x1.t x2
  have R : DicR F2 (putAll [] kvs) (stAll [] is) := by
    have := stAll_R is [] [] ⟨rfl, fun _ z => nomatch z⟩ r2.2
    rw [← r2.1] at this
    exact this
  refine q _ (stAll [] is) F2 _ ⟨fun c u w => ?_, fun c u w => ?_, x12.sf, x12.nw⟩ hn upd_same hf2 R
  · have ne : c ≠ s.heap.objs.size := fun z => by subst z; rw [hf2] at w; cases w
    rw [upd_ne ne]; exact x12.sub c u w
  · have ne : c ≠ s.heap.objs.size := fun z => by subst z; have w' : H s.heap.objs.size = some u := w; rw [hn] at w'; cases w'
    rw [upd_ne ne]; exact x12.sh c u w
theorem EvDn.eq (h : EvDn X ρ e kvs) (q : kvs = kvs') : EvDn X ρ e kvs' := q ▸ h

/-! ### a def that gives a dict of the caller's own -/
def spD (K : PySem.W.Frag) (C : List D → KVs → Prop) : Sp := fun vs H Q _ => ∃ F ds kvs, Same F H ∧ RepL K F vs ds ∧ C ds kvs ∧ ∀ p us F' H', Ext ⟨F, H⟩ F' H' → H p = none → H' p = some (.ext (dcAt p us)) → F' p = none → DicR F' kvs us → Q (.ref p) H'
def CalleeD (X : Cx) (x : Str) (C : List D → KVs → Prop) : Prop := ∃ (f : Addr) (fd : FuncData) (ps : List Str) (k : Nat), FnOk X.prog X.w X.K X.mg X.base CX0 k f fd ps (spD X.K C) ∧ Room k X.A ∧ X.mg x = some (.ref f) ∧ PySem.W.keepIn X.K (.ref f) = true ∧ Binds X.K fd ps []
def EvSsD (X : Cx) (ρ : Rho) (sts : List Stmt) (kvs : KVs) : Prop := ∀ (B : B0) (F H : Hp) (σ : St) (E : Ends), Ok X.K B F H σ ρ → (∀ p us F' H', Ext B F' H' → B.H p = none → H' p = some (.ext (dcAt p us)) → F' p = none → DicR F' kvs us → E.rt (.ref p) H') → wSs X sts E σ H
theorem ed_call (t : At X N sc) {C : List D → KVs → Prop} (h : CalleeD X x C) (ha : EvA X ρ (e :: es) ds) (hC : C ds kvs) (hg : sc.names.lookup x = some .globalImplicit := by rfl) (hdb : (x == ("__debug__" : Str)) = false := by rfl) : EvDn X ρ (.Call (.Name x p) (e :: es) [] pos) kvs := by
  obtain ⟨f, fd, ps, k, F, hr, hm, hk, hb⟩ := h
  have pz : Passes CX0 X E0 := pass0
  intro B F' H σ Q k' q
  refine .mk fun pins s I => ?_
  refine pe_call F hr (gl_of t hg) hm hk hb .nil pz pa_w hdb (ha.1.1 _ _) (PlA.any ha.1.2) pins s σ H Q I (ha.2 B F' H σ _ k' fun vs F1 H1 x1 r1 => ?_)
  exact ⟨F1, ds, kvs, x1.sub, by rw [List.append_nil]; exact r1, hC, fun p us F2 H2 x2 h0 hp hf r2 => q p us F2 H2 (x1.t x2) (x1.sh.free h0) hp hf r2⟩
theorem esd_cons (h1 : EvS X ρ st (.nx ρ')) (h2 : EvSsD X ρ' rest kvs) : EvSsD X ρ (st :: rest) kvs := fun B F H σ E k q =>
  (.mk fun pins s I => pss_cons ps_w pss_w pins s σ H E I (h1 B F H σ _ k fun F1 H1 σ1 k1 s1 => h2 B F1 H1 σ1 E k1 q))
theorem esd_ret (t : At X N sc) (i : Nat) (hr : ρ[i]? = some (.dct kvs)) (hN : N[i]? = some x := by rfl) (hv : VisS sc x = true := by rfl) (hx : NameOk x = true := by rfl) : EvSsD X ρ [.Return (some (.Name x pos')) pos] kvs := fun B F H σ E k q => by
  obtain ⟨a, us, h1, h2, h3, h4, h5⟩ := k.dic.dcts i kvs hr
  exact .mk fun pins s I => pss_one (ps_ret (pvAt t hN hv hx)) pins s σ H E I ⟨_, h1, q a us F H k.toExt h4 h2 h3 h5⟩
/-- a new dict that is returned at once -/
theorem esd_retE (h : EvDn X ρ e kvs) : EvSsD X ρ [.Return (some e) pos] kvs := fun B F H σ E k q => .mk fun pins s I =>
  pss_one (ps_ret pe_w) pins s σ H E I (h B F H σ _ k fun p us F' H' x' h0 h1 h2 r => q p us F' H' (k.toExt.trans x') (k.sh.free h0) h1 h2 r)
theorem fn_evD {P : Program} (htree : P.given.tree = none) {w : World} {K : PySem.W.Frag} {mg : Str → Option Value} {base : Heap} {x qual : Str} {st : Stmt} {f : Addr} {fd : FuncData} {N ps : List Str} {k : Nat} {C : List D → KVs → Prop} (F : Fun K x qual st f fd) (S : FnScope N ps (defScope st))
    (len : ∀ ds xs, C ds xs → ds.length = ps.length)
    (body : ∀ X, DefX P w K mg base k N (defScope st) X → ∀ ds xs, C ds xs → EvSsD X (ds.map Sl.val ++ List.replicate (N.length - ds.length) Sl.un) (defBody st) xs) : FnOk P w K mg base CX0 (k + 1) f fd ps (spD K C) := by
  refine F.ok S (fun vs H Q E h => ?_) (fun cdv A outer s H vs Q E hr h => ?_)
  · obtain ⟨F', ds, d, sub, r, hC, q⟩ := h
    rw [r.length]; exact len ds d hC
  · obtain ⟨F', ds, d, sub, r, hC, q⟩ := h
    refine ⟨_, pss_w, ?_⟩
    have hx : DefX P w K mg base k N (defScope st) (cxOf CX0 P w K mg base N qual (defScope st) f cdv A outer s H E).nox :=
      ⟨⟨rfl, rfl, rfl, S.nd, rfl, hr.units, hr.dp100, htree, ⟨_, _, rfl, S.gen, S.co, rfl, rfl⟩⟩, rfl, rfl, rfl, rfl, rfl, hr, ⟨fun _ => rfl⟩, rfl, rfl⟩
    have hb := body _ hx ds d hC
    have hk : Ok K ⟨F', H⟩ F' H (start N vs) (ds.map Sl.val ++ List.replicate (N.length - ds.length) Sl.un) := by
      unfold start
      rw [r.length]
      exact ok_start sub r _
    exact hb ⟨F', H⟩ F' H _ _ hk fun p us F2 H2 x2 h0 hp hf r2 => q p us F2 H2 x2 h0 hp hf r2
theorem DefX.calleeD {P : Program} {w : World} {K : PySem.W.Frag} {mg : Str → Option Value} {base : Heap} {k j : Nat} {f : Addr} {fd : FuncData} {ps : List Str} {x : Str} {C : List D → KVs → Prop} (h : DefX P w K mg base k N sc X)
    (F : FnOk P w K mg base CX0 j f fd ps (spD K C)) (hj : j ≤ k) (hm : mg x = some (.ref f)) (hk : PySem.W.keepIn K (.ref f) = true) (hb : Binds K fd ps []) : CalleeD X x C := by
  obtain ⟨h0, rfl, rfl, rfl, rfl, rfl, hr, _⟩ := h
  exact ⟨f, fd, ps, j, F, hr.mono hj, hm, hk, hb⟩
end
end L2.EV

set_option linter.all false
set_option autoImplicit false
set_option maxRecDepth 100000
/-! max(list, default=0); a block's own name that a block within takes. -/
namespace L2.EV
open PySem PySem.Spec PyProof.Rows
section
variable {prog : Program} {w : World} {A : Around} {R : Result → Shared → Prop} {I : Addr} {fp wr : List Addr} {n : Nat} {P : Nat → Value → Prop} {St : Nat → Heap → Prop}
theorem maxl : (toString "max" ++ toString ".loop") = "max.loop" := by decide
theorem max_loopK (W : Walks prog w A.in1 I fp wr n P St) (bt : Nat → Nat → Bool) (cmp : CmpOf prog w A.in1 CmpOp.Gt P bt) (S : Addr) (hS : ¬ S ∈ fp) (kw : List (Str × Value)) : ∀ (k j : Nat) (s : Shared) (vb : Value) (c : Nat), n - (j + 1) = k → j + 1 ≤ n → St (j + 1) s.heap → P (argBest bt j) vb →
    s.heap.get? S = some { cls := Value.type "list", data := Data.seq #[vb, vb] c } →
    (∀ (v : Value) (h' : Heap) (tk : Nat), P (argBest bt (n - 1)) v → (∀ (b : Addr) (o : Obj), ¬ b ∈ wr → b ≠ S → s.heap.get? b = some o → h'.get? b = some o) → R (Except.ok (Flow.ret v)) { s with heap := h', toks := tk }) →
    codeAny (model prog w) A (Code.builtin "max.loop" { pos := [Value.ref I, Value.none, Value.ref S], kw := kw }) R s := by
  intro k
  induction k with
  | zero =>
    intro j s vb c hk hj st hb hs hR
    refine codeAny_builtin F.entry_max_loop ?_
    show wpAny (model prog w) A.in1 (seqItems? (.ref S) >>= _) _ _ s
    refine wpAny_bind (wpAny_seqItems hs rfl ?_)
    refine wpAny_bind (wpAny_tryCatch ?_)
    have e : j + 1 = n := by omega
    rw [e] at st
    refine W.done s _ _ st fun h' tk kp => ?_
    have hs' : h'.get? S = some { cls := Value.type "list", data := Data.seq #[vb, vb] c } := kp S _ (fun z => hS (W.sub S z)) hs
    show wpAny (model prog w) A.in1 (updateSeq S (fun _ => #[]) >>= _) _ _ _
    refine wpAny_bind (wpAny_updateSeq hs' rfl ?_)
    refine wpAny_bind (wpAny_letGo (wpAny_pure ?_))
    refine hR vb _ tk (by rw [show n - 1 = j by omega]; exact hb) fun b o hw hb' e' => ?_
    rw [Heap.get?_update_other _ _ (Ne.symm hb')]
    exact kp b o hw e'
  | succ k ih =>
    intro j s vb c hk hj st hb hs hR
    refine codeAny_builtin F.entry_max_loop ?_
    show wpAny (model prog w) A.in1 (seqItems? (.ref S) >>= _) _ _ s
    refine wpAny_bind (wpAny_seqItems hs rfl ?_)
    refine wpAny_bind (wpAny_tryCatch ?_)
    refine W.item (j + 1) s _ _ (by omega) st fun v h' tk pv st' kp => ?_
    have hs' : h'.get? S = some { cls := Value.type "list", data := Data.seq #[vb, vb] c } := kp S _ (fun z => hS (W.sub S z)) hs
    refine wpAny_bind (wpAny_pure ?_)
    show wpAny (model prog w) A.in1 (tryCatch _ _ >>= _) _ _ _
    refine wpAny_bind (wpAny_tryCatch (wpAny_holding (wpAny_bind (cmp (j + 1) (argBest bt j) v vb _ _ _ pv hb ?_))))
    refine wpAny_bind (wpAny_holding (wpAny_truthy_bool ?_))
    refine wpAny_bind (wpAny_letGo (wpAny_pure ?_))
    have ea : argBest bt (j + 1) = if bt (j + 1) (argBest bt j) = true then j + 1 else argBest bt j := rfl
    by_cases hbt : bt (j + 1) (argBest bt j) = true
    · rw [hbt, if_pos rfl]
      refine wpAny_bind (wpAny_updateSeq hs' rfl ?_)
      refine wpAny_bind (wpAny_letGo (wpAny_pure ?_))
      dsimp only
      rw [maxl]
      refine ⟨plainId_quiet F.plain_max_loop _, ?_⟩
      rw [if_pos hbt] at ea
      refine ih (j + 1) _ v c (by omega) (by omega) (W.frame _ _ _ st' fun b hb' o e' => ?_) (by rw [ea]; exact pv) ?_ fun v' h'' tk' pv' kp' => hR v' h'' tk' pv' fun b o hw hS' e' => kp' b o hw hS' ?_
      · show (h'.update S _).get? b = some o
        rw [Heap.get?_update_other _ _ (fun z => hS (by rw [z]; exact hb'))]; exact e'
      · exact Heap.get?_update_self _ hs' rfl
      · show (h'.update S _).get? b = some o
        rw [Heap.get?_update_other _ _ (Ne.symm hS')]; exact kp b o hw e'
    · rw [Bool.not_eq_true] at hbt
      rw [hbt, if_neg (by decide)]
      refine wpAny_bind (wpAny_letGo (wpAny_pure ?_))
      dsimp only
      rw [maxl]
      refine ⟨plainId_quiet F.plain_max_loop _, ?_⟩
      rw [if_neg (by rw [hbt]; decide)] at ea
      exact ih (j + 1) _ vb c (by omega) (by omega) st' (by rw [ea]; exact hb) hs' fun v' h'' tk' pv' kp' => hR v' h'' tk' pv' fun b o hw hS' e' => kp' b o hw hS' (kp b o hw e')
theorem max_firstK (W : Walks prog w A.in1 I fp wr n P St) (bt : Nat → Nat → Bool) (cmp : CmpOf prog w A.in1 CmpOp.Gt P bt) (S : Addr) (hS : ¬ S ∈ fp) (k0 : Str) (d : Value) {s : Shared} {c : Nat} (st : St 0 s.heap)
    (hs : s.heap.get? S = some { cls := Value.type "list", data := Data.seq #[] c })
    (hR : ∀ (v : Value) (h' : Heap) (tk : Nat), (if 0 < n then P (argBest bt (n - 1)) v else v = d) → (∀ (b : Addr) (o : Obj), ¬ b ∈ wr → b ≠ S → s.heap.get? b = some o → h'.get? b = some o) → R (Except.ok (Flow.ret v)) { s with heap := h', toks := tk }) :
    codeAny (model prog w) A (Code.builtin "max.loop" { pos := [Value.ref I, Value.none, Value.ref S], kw := [(k0, d)] }) R s := by
  refine codeAny_builtin F.entry_max_loop ?_
  show wpAny (model prog w) A.in1 (seqItems? (.ref S) >>= _) _ _ s
  refine wpAny_bind (wpAny_seqItems hs rfl ?_)
  refine wpAny_bind (wpAny_tryCatch ?_)
  by_cases hn : 0 < n
  · refine W.item 0 s _ _ hn st fun v h' tk pv st' kp => ?_
    have hs' : h'.get? S = some { cls := Value.type "list", data := Data.seq #[] c } := kp S _ (fun z => hS (W.sub S z)) hs
    refine wpAny_bind (wpAny_pure ?_)
    show wpAny (model prog w) A.in1 (updateSeq S (fun _ => #[v, v]) >>= _) _ _ _
    refine wpAny_bind (wpAny_updateSeq hs' rfl (wpAny_pure ?_))
    dsimp only
    rw [maxl]
    refine ⟨plainId_quiet F.plain_max_loop _, ?_⟩
    obtain ⟨c', hc'⟩ : ∃ c', (h'.update S (Obj.mapSeq fun _ => #[v, v])).get? S = some { cls := Value.type "list", data := Data.seq #[v, v] c' } := ⟨_, Heap.get?_update_self (Obj.mapSeq fun _ => #[v, v]) hs' rfl⟩
    refine max_loopK W bt cmp S hS _ _ 0 _ v c' rfl hn (W.frame _ _ _ st' fun b hb' o e' => ?_) pv ?_ fun v' h'' tk' pv' kp' => hR v' h'' tk' (by rw [if_pos hn]; exact pv') fun b o hw hS' e' => kp' b o hw hS' ?_
    · show (h'.update S _).get? b = some o
      rw [Heap.get?_update_other _ _ (fun z => hS (by rw [z]; exact hb'))]; exact e'
    · exact hc'
    · show (h'.update S _).get? b = some o
      rw [Heap.get?_update_other _ _ (Ne.symm hS')]; exact kp b o hw e'
  · have e : n = 0 := by omega
    subst e
    refine W.done s _ _ st fun h' tk kp => ?_
    show wpAny (model prog w) A.in1 (rule _ >>= _) _ _ _
    refine wpAny_bind (wpAny_rule (wpAny_pure ?_))
    exact hR d h' tk (by rw [if_neg hn]) fun b o hw hS' e' => kp b o hw e'
theorem call_maxD {E : Value → Shared → Prop} {Q : Value → Shared → Prop} {s : Shared} {l : Addr} {items : Array Value} {t : Tok} (hh : A.handled = none) (hl : s.heap.IsList l items) (bt : Nat → Nat → Bool) (cmp : CmpOf prog w A.in1 CmpOp.Gt (fun i v => items[i]? = some v) bt)
    (h : ∀ (v : Value) (h' : Heap) (tk : Nat), (if 0 < items.size then items[argBest bt (items.size - 1)]? = some v else v = .int 0 t) → (∀ (b : Addr) (o : Obj), s.heap.get? b = some o → h'.get? b = some o) → Q v { s with heap := h', toks := tk }) :
    wpAny (model prog w) A (call (.builtin "max") [.ref l] [("default", .int 0 t)]) Q E s := by
  refine wpAny_runValue (codeAny_call_builtin F.plain_max F.entry_max ?_)
  refine wpAny_of_eq (a := ()) (by first | rfl | decide) ?_
  show wpAny _ A.in1 (Builtin.Builtins.bindParams "max" ["key", "default"] 0 { kw := [("default", .int 0 t)] } >>= _) _ _ s
  refine wpAny_bind (wpAny_of_eq (a := [none, some (.int 0 t)]) (by rfl) ?_)
  show wpAny _ A.in1 (pyIter (.ref l) >>= _) _ _ s
  refine wpAny_bind (wpAny_pyIter_list hl ?_)
  refine wpAny_bind ?_
  unfold newList
  refine wpAny_newObj_type ?_ (by size_fits)
  refine wpAny_pure ?_
  dsimp only
  rw [maxl]
  refine ⟨plainId_quiet F.plain_max_loop _, ?_⟩
  obtain ⟨ol, q1, q2⟩ := id hl
  have hlt : l < s.heap.objs.size := Heap.lt_size q1
  have hsz : (s.heap.push { cls := .type "list_iterator", data := .fields #[.ref l, .int 0 0] }).objs.size = s.heap.objs.size + 1 := by rw [Heap.size_push]
  have kp : ∀ (b : Addr) (o : Obj), s.heap.get? b = some o → ((s.heap.push { cls := .type "list_iterator", data := .fields #[.ref l, .int 0 0] }).push { cls := .type "list", data := .seq #[] }).get? b = some o := fun b o e => Heap.get?_push_of_some _ (Heap.get?_push_of_some _ e)
  refine max_firstK (I := s.heap.objs.size) (P := fun i v => items[i]? = some v) (Walks.list (A := A.in1) hh s.heap.objs.size l (Nat.ne_of_lt hlt) items) bt cmp _ ?_ "default" (.int 0 t) ⟨⟨_, Heap.get?_push_of_some _ (Heap.get?_push_size _ rfl), rfl, rfl⟩, ⟨ol, kp l ol q1, q2⟩⟩ (Heap.get?_push_size _ rfl) fun v h' tk hv kp' => h v h' tk hv fun b o e => kp' b o (fun z => ?_) (fun z => ?_) (kp b o e)
  · rw [hsz]
    intro z
    rcases List.mem_cons.mp z with z | z
    · exact absurd z (Nat.ne_of_gt (Nat.lt_succ_self _))
    · have z' := List.mem_singleton.mp z
      rw [← z'] at hlt
      exact absurd hlt (Nat.not_lt_of_le (Nat.le_succ _))
  · have z' := List.mem_singleton.mp z
    rw [z'] at e
    exact absurd (Heap.lt_size e) (Nat.lt_irrefl _)
  · rw [z, hsz] at e
    exact absurd (Heap.lt_size e) (Nat.not_lt_of_le (Nat.le_succ _))
end

abbrev maxI (ns : List Int) : Int := ns.foldl max 0
theorem argBest_val (ns : List Int) (h0 : ∀ n ∈ ns, 0 ≤ n) : ∀ k, k < ns.length → ns.getD (argBest (fun i j => decide (ns.getD i 0 > ns.getD j 0)) k) 0 = maxI (ns.take (k + 1)) ∧ argBest (fun i j => decide (ns.getD i 0 > ns.getD j 0)) k < ns.length
  | 0, h => by
    refine ⟨?_, h⟩
    cases ns with
    | nil => simp at h
    | cons a r =>
      have := h0 a (by simp)
      show a = max 0 a
      omega
  | k + 1, h => by
    obtain ⟨e, hl⟩ := argBest_val ns h0 k (by omega)
    have et : ns.take (k + 1 + 1) = ns.take (k + 1) ++ [ns[k + 1]] := by rw [List.take_add_one, List.getElem?_eq_getElem h]; rfl
    have eg : ns.getD (k + 1) 0 = ns[k + 1] := by rw [List.getD_eq_getElem?_getD, List.getElem?_eq_getElem h]; rfl
    have ea : argBest (fun i j => decide (ns.getD i 0 > ns.getD j 0)) (k + 1) = if decide (ns.getD (k + 1) 0 > ns.getD (argBest (fun i j => decide (ns.getD i 0 > ns.getD j 0)) k) 0) = true then k + 1 else argBest (fun i j => decide (ns.getD i 0 > ns.getD j 0)) k := rfl
    have em : maxI (ns.take (k + 1 + 1)) = max (maxI (ns.take (k + 1))) ns[k + 1] := by
      show List.foldl max 0 (ns.take (k + 1 + 1)) = _
      rw [et, List.foldl_append]; rfl
    rw [ea, em, ← e, ← eg]
    by_cases hc : ns.getD (k + 1) 0 > ns.getD (argBest (fun i j => decide (ns.getD i 0 > ns.getD j 0)) k) 0
    · rw [if_pos (decide_eq_true hc)]
      exact ⟨by omega, h⟩
    · rw [if_neg (by rw [decide_eq_false hc]; decide)]
      exact ⟨by omega, hl⟩
theorem vals_int : ∀ {ns : List Int} {us : List Value} (i : Nat) (v : Value), Vals (ns.map V.int) us → us[i]? = some v → ∃ t, v = .int (ns.getD i 0) t
  | [], _, i, v, r, e => by cases r; simp at e
  | n :: ns, _, 0, v, r, e => by
    cases r with
    | cons h t => simp at e; subst e; exact h
  | n :: ns, _, i + 1, v, r, e => by
    cases r with
    | cons h t => simpa using vals_int i v t (by simpa using e)
section
variable {X : Cx} {ρ : Rho} {e : Expr} {d : D} {pos p kp kq : Pos} {N : List Str} {sc : Scope} {x : Str} {j : Nat}
theorem ev_maxD (t : At X N sc) {ns : List Int} (bl : Blt X sc x (.builtin "max")) (h : EvQ X ρ e true (ns.map D.int)) (h0 : ∀ n ∈ ns, 0 ≤ n) (hpe : Pl e := by intro _ _; rfl) : EvE X ρ (.Call (.Name x p) [e] [⟨some "default", .Constant (.int 0) j kp, kq⟩] pos) (.int (maxI ns)) := fun B F H σ Q k q => .mk fun pins s I => by
  refine wpAny_Call_Name_kw (ld_blt I (gl_of t bl.g) bl.m bl.v ?_ bl.n bl.d)
  have A1 := pa_cons (X := X) (e := e) pe_w pa_nil (hpe _ _) pos pins s σ H (fun vs H1 => ∃ l ws F1, vs = [.ref l] ∧ Ext ⟨F, H⟩ F1 H1 ∧ SqL X.K H1 l ws ∧ RepL X.K F1 ws (ns.map D.int)) I (h B F H σ _ k fun l ws F1 H1 x1 sq rl => ⟨l, ws, F1, rfl, x1, sq, rl⟩)
  rw [hpe [] X.env] at A1 ⊢
  refine callWith_builtin_kwB (by rfl) (by rfl) (evalArgs_kwB (by rfl) (thn A1 fun us s1 ⟨vs, H1, I1, r1, l, ws, F1, ev, x1, sq, rl⟩ => ?_))
  subst ev
  obtain ⟨u, rfl, ru⟩ := vals1 r1
  cases (show u = Value.ref l from ru)
  refine wpAny_evalAll_cons (wpAny_bind (thn (pe_int (X := X) pins s1 σ H1 (fun v H2 => H2 = H1 ∧ v = .int 0) I1 ⟨rfl, rfl⟩) fun u2 s2 ⟨v2, H2, I2, rv2, e2, e3⟩ => ?_))
  subst e2 e3
  obtain ⟨tk2, rfl⟩ := (show ∃ tk, u2 = Value.int 0 tk from rv2)
  refine wpAny_bind (wpAny_standAt (wpAny_pure (wpAny_evalAll_nil ?_)))
  have ew := RepL.of_ints rl
  subst ew
  obtain ⟨its, rv, pl, hz⟩ := I2.list sq
  have hlen : ns.length = its.length := by have := rv.length; rw [List.length_map] at this; exact this
  show wpAny (model X.prog X.w) X.A (call (.builtin "max") [.ref l] [("default", .int 0 tk2)]) _ _ s2
  refine call_maxD (I.ok.hd t.calm) pl.isList (fun i j => decide (ns.getD i 0 > ns.getD j 0)) (CmpOf.ints_gt (fun i => ns.getD i 0) fun i v hv => vals_int i v rv (by simpa using hv)) fun v h' tk hv kp' => ?_
  refine ⟨.int (maxI ns), H2, I2.kept (t' := tk) kp', ?_, q _ F1 H2 x1 (.int _)⟩
  by_cases hn : 0 < its.toArray.size
  · rw [if_pos hn] at hv
    have hn' : 0 < ns.length := by rw [hlen]; simpa using hn
    have hs : its.toArray.size - 1 = ns.length - 1 := by rw [hlen]; simp
    rw [hs] at hv
    obtain ⟨e1, e2⟩ := argBest_val ns h0 (ns.length - 1) (by omega)
    rw [List.getElem?_toArray] at hv
    obtain ⟨tk', rfl⟩ := vals_int _ v rv hv
    rw [e1, show ns.length - 1 + 1 = ns.length by omega, List.take_length]
    exact ⟨tk', rfl⟩
  · rw [if_neg hn] at hv
    subst hv
    have : ns = [] := List.eq_nil_of_length_eq_zero (by rw [hlen]; simpa using hn)
    subst this
    exact ⟨tk2, rfl⟩
end
end L2.EV

set_option linter.all false
set_option autoImplicit false
set_option maxRecDepth 100000
/-! reversed over a list. -/
namespace L2.EV
open PySem PySem.Spec PyProof.Rows
section
variable {X : Cx} {ρ : Rho} {a tg : Expr} {pos : Pos} {N : List Str} {sc : Scope} {ds : List D}
end
end L2.EV

set_option linter.all false
set_option autoImplicit false
set_option maxRecDepth 100000
namespace L2.EV
open PySem PySem.Spec PyProof.Rows
/-! ### shifts, tuples that are global names, divmod -/
section
variable {X : Cx} {ρ ρ' : Rho} {a b c tg e : Expr} {d : D} {pos p : Pos} {N : List Str} {sc : Scope} {x : Str}
end
end L2.EV

set_option linter.all false
set_option autoImplicit false
set_option maxRecDepth 100000
namespace L2.EV
open PySem PySem.Spec PyProof.Rows
section
variable {X : Cx} {ρ ρ' : Rho} {a b c tg e : Expr} {d : D} {pos p : Pos} {N : List Str} {sc : Scope} {x : Str}
end
end L2.EV

set_option linter.all false
set_option autoImplicit false
set_option maxRecDepth 100000
namespace L2.EV
open PySem PySem.Spec PyProof.Rows
theorem slicePick_rev (its : List Value) : slicePick its.toArray none none (some (-1)) = its.reverse.toArray := by
  unfold slicePick
  have e1 : sliceBounds none none (some (-1)) its.toArray.size = ((its.toArray.size : Int) - 1, -1, -1) := rfl
  rw [e1]
  show ((sliceRange ((its.toArray.size : Int) - 1) (-1) (-1)).filterMap (its.toArray[·]?)).toArray = _
  have e2 : sliceRange ((its.toArray.size : Int) - 1) (-1) (-1) = (List.range its.toArray.size).map fun (k : Nat) => ((its.toArray.size : Int) - 1 + (k : Int) * (-1)).toNat := by
    unfold sliceRange
    have e3 : (if (-1 : Int) > 0 then (if (its.toArray.size : Int) - 1 < -1 then (-1 - ((its.toArray.size : Int) - 1) + -1 - 1) / -1 else 0) else (if (its.toArray.size : Int) - 1 > -1 then ((its.toArray.size : Int) - 1 - -1 - -1 - 1) / (- -1) else 0)).toNat = its.toArray.size := by
      rw [if_neg (by decide)]
      by_cases h : (its.toArray.size : Int) - 1 > -1
      · rw [if_pos h]
        have : (- -1 : Int) = 1 := rfl
        rw [this, Int.ediv_one]; omega
      · rw [if_neg h]; omega
    show (List.range (Int.toNat _)).map _ = _
    rw [e3]
    exact List.map_congr_left fun k _ => by congr 1; omega
  rw [e2, List.filterMap_map]
  have := HT.pick_rev its.toArray
  rw [← this]
  rfl
section
variable {X : Cx} {ρ : Rho} {a c e : Expr} {xs : List D} {pos p2 p : Pos} {N : List Str} {sc : Scope} {x : Str}
/-- xs[::-1] of a list: a new one -/
theorem en_revL (ha : EvQ X ρ a true xs) (hc : EvE X ρ c (.int (-1))) : EvN X ρ (.Subscript a (.Slice none none (some c) p2) pos) xs.reverse := fun B F H σ Q k q => .mk fun pins s I => by
  refine Subscript_ (thn (ha B F H σ (fun v H1 => ∃ p vs F1, v = .ref p ∧ Ext ⟨F, H⟩ F1 H1 ∧ SqB X.K true H1 p vs ∧ RepL X.K F1 vs xs) k (fun p vs F1 H1 x1 s1 r1 => ⟨p, vs, F1, rfl, x1, s1, r1⟩) pins s I) fun v s1 z => ?_)
  obtain ⟨x, H1, I1, r1, p, vs, F1, hx, x1, sq, rp⟩ := z
  subst hx
  cases r1
  refine wpAny_Slice ?_
  rw [evalPart_none]
  refine wpAny_pure ?_
  refine wpAny_pure ?_
  rw [evalPart_some]
  refine thn (hc B F1 H1 σ (fun v H2 => ∃ F2, Ext ⟨F1, H1⟩ F2 H2 ∧ v = .int (-1)) (k.ext x1) (fun v F2 H2 x2 r => by cases r; exact ⟨F2, x2, rfl⟩) pins s1 I1) fun u s2 z => ?_
  obtain ⟨y, H2, I2, r2, F2, x2, hy⟩ := z
  subst hy
  obtain ⟨tk, rfl⟩ := r2
  have I4 : Inv X pins σ H2 { s2 with heap := s2.heap.push { cls := .type "slice", data := .fields #[.none, .none, .int (-1) tk] } } := I2.kept (t' := s2.toks) fun b ob q => Heap.get?_push_of_some _ q
  have sq2 : SqL X.K H2 p vs := SqB.mono x2.sh sq
  obtain ⟨its, r, ht, hz⟩ := I4.list sq2
  have hlen := r.length
  show wpAny (model X.prog X.w) X.A (subscriptTail a (.Slice none none (some c) p2) (.ref p) (.ref s2.heap.objs.size)) (EP X pins σ Q) X.xe { s2 with heap := s2.heap.push { cls := .type "slice", data := .fields #[.none, .none, .int (-1) tk] } }
  refine tail_any (ops := [.ref p, .ref s2.heap.objs.size]) ht.isList.typeIs slot_list_getitem.lookup (wpAny_getItem_list_slice ht.isList (Heap.IsSliceOf.new ..) .none .none (.int (-1) tk) (by decide) ?_ (by rw [List.size_toArray] <;> omega)) rfl
  rw [slicePick_rev]
  have xx := x1.t x2
  have r3 := rp.mono x2.sf
  have hp := I4.hok.fresh (Nat.le_refl _)
  refine ⟨.ref _, _, I4.laid (t' := s2.toks) (o := .lst vs.reverse) (fun b ob q => Heap.get?_push_of_some _ q) (Nat.le_refl _) ?_, rfl, q _ vs.reverse F2 _ ⟨xx.sub.trans (upd_sameOf hp), xx.sh.trans (upd_sameOf hp), xx.sf, xx.nw⟩ (xx.sh.free hp) upd_same (xx.sub.free hp) r3.reverse⟩
  exact ⟨by rw [List.length_reverse]; exact hz, _, 0, r.reverse, Heap.get?_push_size _ rfl⟩
end
end L2.EV

set_option linter.all false
set_option autoImplicit false
set_option maxRecDepth 100000
namespace L2.EV
open PySem PySem.Spec PyProof.Rows
section
variable {X : Cx} {ρ : Rho} {a b : Expr} {pos : Pos} {N : List Str} {sc : Scope} {x : Str}
/-- a, b = x, y: both new lists that stay one's own -/
theorem s_parNN (t : At X N sc) (i j : Nat) {y : Str} {us ws : List D} {px py pt : Pos} {kt k2 : Nat} {pt2 : Pos} (h1 : EvN X ρ a us) (h2 : EvN X ρ b ws) (hij : i ≠ j) (hi : N[i]? = some x := by rfl) (hj : N[j]? = some y := by rfl)
    (hx : sc.names.lookup x = some .local := by rfl) (hy : sc.names.lookup y = some .local := by rfl)
    (hw : swappedStores [.Tuple [.Name x px, .Name y py] kt pt] (.Tuple [a, b] k2 pt2) (dE sc) = pure (some [x, y]) := by rfl)
    (hs : swapsWithSole [.Tuple [.Name x px, .Name y py] kt pt] (.Tuple [a, b] k2 pt2) pos.line X.env = pure false := by rfl)
    (hs1 : starEach [a, b] X.env = (false, eval a X.env) :: starEach [b] X.env := by rfl) (hs2 : starEach [b] X.env = (false, eval b X.env) :: starEach [] X.env := by rfl) :
    EvS X ρ (.Assign [.Tuple [.Name x px, .Name y py] kt pt] (.Tuple [a, b] k2 pt2) pos) (.nx ((ρ.set i (.own us)).set j (.own ws))) :=
  .of (ps_par (i := i) (j := j) t.calm t.nd (t.ix hi) (t.ix hj) hij (by rw [t.eS]; exact hx) (by rw [t.eS]; exact hy) (pa_cons pe_w (pa_cons pe_w pa_nil hs2) hs1) ((swst_eq (show X.env.scope = (dE sc).scope from t.eS)).trans hw) hs) fun B F H σ E k q =>
    h1 B F H σ _ k fun p vs F1 H1 x1 h0 hp hf r => h2 B F1 H1 σ _ (k.ext x1) fun p2 vs2 F2 H2 x2 g0 gp gf r2 => by
      have hf2 : F2 p = none := by
        cases z : F2 p with
        | none => rfl
        | some o =>
          exfalso
          rcases x2.nw p (by rw [z]; exact fun q => nomatch q) with q1 | q1
          · exact q1 hf
          · have q1' : H1 p = none := q1
            rw [hp] at q1'; cases q1'
      have hne : p ≠ p2 := fun e => by subst e; rw [hp] at g0; cases g0
      have g00 : H p2 = none := x1.sh.free g0
      have ko := (k.ext (x1.t x2)).setOwn i (x2.sh _ _ hp) hf2 (k.sh.free h0) (k.noOwn h0) (r.mono x2.sf)
      have no2 : NoOwn (σ.set i (some (.ref p))) (ρ.set i (.own us)) p2 := fun m xs e z => by
        by_cases him : i = m
        · subst him
          rw [List.getElem?_set] at z
          rw [if_pos rfl] at z
          split at z
          · cases z; exact hne rfl
          · cases z
        · rw [List.getElem?_set_ne him] at e z
          exact k.noOwn g00 m xs e z
      exact ⟨.ref p, .ref p2, rfl, q F2 H2 _ (ko.setOwn j gp gf (k.sh.free g00) no2 r2) (x1.t x2).sf⟩
end
end L2.EV

set_option linter.all false
set_option autoImplicit false
set_option maxRecDepth 100000
/-! Whether a thing is none of a list's. -/
namespace L2.EV
open PySem PySem.Spec PyProof.Rows
section
variable {X : Cx} {ρ : Rho} {a b : Expr} {pos p : Pos} {N : List Str} {sc : Scope} {x : Str}
theorem rd_nin (t : At X N sc) {p : PyData} {qs : List PyData} (sp : p.canLay0 = true) (sd : p.depth ≤ 62) (sq : PyData.canLayAll0 qs = true) : OpR X (compareOp .NotIn) (fun x y H Q => RdP X H x p ∧ RdP X H y (.list qs) ∧ Q (.bl (!qs.any fun y => PyData.eqv y p)) H) := by
  intro pins s σ H x y v u Q I rx ry h
  obtain ⟨h1, h2, h3⟩ := h
  obtain ⟨as, r1⟩ := h1 sp H (.refl _) pins σ s v I rx
  obtain ⟨bs, r2⟩ := h2 (by simpa [PyData.canLay0] using sq) H (.refl _) pins σ s u I ry
  refine SeqAt.notIn_list_reads r2 r1 sq sp ?_ ⟨.bl _, H, I, rfl, h3⟩
  have hu := t.un
  have : min (PyData.depthAll qs) p.depth ≤ p.depth := Nat.min_le_right _ _
  omega
/-- x not in xs, of a list of its own -/
theorem et_nin (t : At X N sc) {d : D} {xs : List D} {r : Bool} (ha : EvE X ρ a d) (i : Nat) (hr : ρ[i]? = some (.own xs)) (sp : (toP d).canLay0 = true) (sd : (toP d).depth ≤ 62) (sq : PyData.canLayAll0 (toPs xs) = true) (he : (!(toPs xs).any fun y => PyData.eqv y (toP d)) = r)
    (hN : N[i]? = some x := by rfl) (hv : VisS sc x = true := by rfl) (hx : NameOk x = true := by rfl) : EvT X ρ (.Compare a [.NotIn] [.Name x p] pos) r :=
  .of (pt_cmpR (rd_nin t sp sd sq) pe_w pe_w rfl) fun B F H σ Q k q => twoP (EvE.p ha) (EvQ.p (ev_own t i hr hN hv hx)) k fun x y F' H' x' rx ry => ⟨rx, ry, r, by rw [he], q F' H' x'⟩
end
end L2.EV

set_option linter.all false
set_option autoImplicit false
set_option maxRecDepth 100000
/-! A tuple's cut that is the whole of it is itself; range with a step up to 8. -/
namespace HT
open PySem PySem.Spec PyProof.Rows
section
variable {prog : Program} {w : World} {A : Around} {E : Value → Shared → Prop} {s : Shared}
theorem getItem_tuple_whole {t sl : Addr} {items : Array Value} {vl vu : Value} {lo hi : Option Int} {Q : Value → Shared → Prop} (ht : IsTup s.heap t items) (hs : s.heap.IsSliceOf sl vl vu .none) (pl : IsPart vl lo) (pu : IsPart vu hi)
    (hw : sIx items.size 0 lo = 0 ∧ sIx items.size items.size hi = items.size) (h : Q (.ref t) s) : wpAny (model prog w) A (getItem (.ref t) (.ref sl)) Q E s := by
  obtain ⟨os, hos, hcs, hds⟩ := id hs
  have hTs : s.TypeIs (.ref sl) "slice" := ⟨os, hos, hcs⟩
  unfold getItem
  try with_reducible refine wpAny_holding ?_
  first | refine wpAny_bind (wpAny_pure ?_) | skip
  refine wpAny_bind (wpAny_sequenceKey ht.typeIs (by decide) ?_)
  refine wpAny_bind (wpAny_callSpecial?_slot (name := Str.ofString "__getitem__") ht.typeIs PyProof.Rows.slot_tuple_getitem
    (wpAny_call_entry PyProof.Rows.slot_tuple_getitem ht.typeIs entry_tuple_getitem ?_ (args_tuple_getitem _ _)))
  show wpAny _ _ (Builtin.Tuple.tupleItemsOf (.ref t) >>= _) _ _ s
  refine wpAny_bind (tupleItemsOf_ ht ?_)
  refine wpAny_bind (wpAny_typeOf hTs ?_)
  rw [if_pos (by decide)]
  refine wpAny_bind (sliceApplied_gen hs pl pu ?_)
  have hyes : (((sIx items.size 0 lo : Nat) : Int) == 0 && (1 : Int) == 1 && (sIx items.size items.size hi - sIx items.size 0 lo) == items.size) = true := by
    rw [hw.1, hw.2]; simp
  show wpAny _ _ (if (((sIx items.size 0 lo : Nat) : Int) == 0 && (1 : Int) == 1 && (sIx items.size items.size hi - sIx items.size 0 lo) == items.size) = true then _ else _) _ _ s
  rw [if_pos hyes]
  refine wpAny_bind (wpAny_bind (m := typeOf (.ref t)) (wpAny_typeOf ht.typeIs (wpAny_pure ?_)))
  rw [if_pos (by decide)]
  have fin : wpAny (model prog w) A.in1 (ret (Value.ref t)) (fun fin s' => ∃ v, fin = Fin.done (Flow.ret v) ∧ wpAny (model prog w) A (pure v) Q E s') E s := wpAny_pure ⟨_, rfl, wpAny_pure h⟩
  first
    | exact fin
    | exact wpAny_bind (wpAny_pure fin)
    | trace_state
end
end HT
namespace L2
open PySem PySem.Spec PyProof.Rows
section
variable {X : Cx}
def rSlW (K : PySem.W.Frag) : V → Option Int → Option Int → Hp → VK → Prop := fun x lo hi H Q => ∃ a xs, x = .ref a ∧ SqT K H a xs ∧ (HT.sIx xs.length 0 lo = 0 ∧ HT.sIx xs.length xs.length hi = xs.length) ∧ Q (.ref a) H
theorem sl_tupW : SlR X (rSlW X.K) := by
  intro pins s σ H x v vl vu lo hi sl Q I rx hs pl pu h
  obtain ⟨a, xs, rfl, hx, hw, q⟩ := h
  cases rx
  obtain ⟨its, r, ht, hz⟩ := I.tuple hx
  have hlen : its.toArray.size = xs.length := by rw [List.size_toArray]; exact r.length.symm
  refine ⟨"tuple", _, PyProof.Rows.slot_tuple_getitem.lookup, ht.typeIs, ?_⟩
  exact HT.getItem_tuple_whole ht hs pl pu (by rw [hlen]; exact hw) ⟨.ref a, H, I, rfl, q⟩
variable {tg : Expr}
end
end L2
namespace L2.EV
open PySem PySem.Spec PyProof.Rows
section
variable {X : Cx} {ρ : Rho} {a b c tg e : Expr} {d : D} {pos : Pos} {N : List Str} {sc : Scope} {x : Str}
/-- t[lo:hi] of a tuple, the whole of it -/
theorem ev_cutW {xs : List D} {lo hi : Option Expr} {l h : Option Int} {p2 : Pos} (ha : EvE X ρ a (.tup xs)) (hl : EvO X ρ lo l) (hh : EvO X ρ hi h) (hw : HT.sIx xs.length 0 l = 0 ∧ HT.sIx xs.length xs.length h = xs.length) :
    EvE X ρ (.Subscript a (.Slice lo hi none p2) pos) (.tup xs) :=
  .of (pe_slice sl_tupW pe_w po_w po_w) fun B F H σ Q k q => ha B F H σ _ k fun v F1 H1 x1 r1 => hl B F1 H1 σ _ (k.ext x1) fun F2 H2 x2 => hh B F2 H2 σ _ (k.ext (x1.t x2)) fun F3 H3 x3 => by
    have x := x1.t (x2.t x3)
    have r3 := (r1.mono x2.sf).mono x3.sf
    cases r3 with
    | tup hs rs => exact ⟨_, _, rfl, SqT.of (x.sub _ _ hs), by rw [rs.length]; exact hw, q _ F3 H3 x (.tup hs rs)⟩
end
end L2.EV

set_option linter.all false
set_option autoImplicit false
set_option maxRecDepth 100000
/-! Defs that change a list handed in: the list at p is named by its address, and its content is told ahead and behind. -/
namespace L2.EV
open PySem PySem.Spec PyProof.Rows
/-- the base with another content of the list at p -/
def UpB (B : B0) (p : Addr) (us : List V) : B0 := ⟨B.F, upd B.H p (.lst us)⟩
theorem UpB.same {B : B0} {p : Addr} {us : List V} (h : B.H p = some (.lst us)) : UpB B p us = B := by
  have : upd B.H p (.lst us) = B.H := funext fun b => by
    by_cases z : b = p
    · subst z; rw [upd_same, h]
    · rw [upd_ne z]
  show (⟨B.F, upd B.H p (.lst us)⟩ : B0) = B
  rw [this]
theorem UpB.up {B : B0} {p : Addr} {us ws : List V} : UpB (UpB B p us) p ws = UpB B p ws := by
  show (⟨B.F, upd (upd B.H p (.lst us)) p (.lst ws)⟩ : B0) = ⟨B.F, upd B.H p (.lst ws)⟩
  rw [upd_upd]
/-- the list at p stood at the def's entry, and is not frozen -/
structure Lent (K : PySem.W.Frag) (B : B0) (p : Addr) (F : Hp) (us : List V) (xs : List D) : Prop where
  st : B.H p = some (.lst us)
  fr : B.F p = none
  rep : RepL K F us xs
theorem Lent.free {K : PySem.W.Frag} {B : B0} {p : Addr} {F H : Hp} {us : List V} {xs : List D} (l : Lent K B p F us xs) (x : Ext B F H) : F p = none := by
  cases e : F p with
  | none => rfl
  | some o =>
    rcases x.nw p (by rw [e]; exact Option.some_ne_none o) with z | z
    · exact absurd l.fr z
    · rw [l.st] at z; cases z
def PostM (K : PySem.W.Frag) (B : B0) (p : Addr) (F₀ : Hp) (E : Ends) (xs' : List D) : Out → Prop
  | .nx ρ => ∀ F H σ us, Ok K (UpB B p us) F H σ ρ → RepL K F us xs' → Same F₀ F → E.nx σ H
  | .rt d => ∀ v F H us, Ext (UpB B p us) F H → RepL K F us xs' → Rep K F v d → E.rt v H
def EvM (X : Cx) (p : Addr) (ρ : Rho) (sts : List Stmt) (o : Out) (xs xs' : List D) : Prop := ∀ (B : B0) (F H : Hp) (σ : St) (E : Ends) (us : List V), Lent X.K B p F us xs → Ok X.K B F H σ ρ → PostM X.K B p F E xs' o → wSs X sts E σ H
def EvM1 (X : Cx) (p : Addr) (ρ : Rho) (st : Stmt) (o : Out) (xs xs' : List D) : Prop := ∀ (B : B0) (F H : Hp) (σ : St) (E : Ends) (us : List V), Lent X.K B p F us xs → Ok X.K B F H σ ρ → PostM X.K B p F E xs' o → wS X st E σ H
/-- the base's frozen part may be taken as it is now -/
theorem Ok.now {K : PySem.W.Frag} {B : B0} {F H : Hp} {σ : St} {ρ : Rho} (k : Ok K B F H σ ρ) : Ok K ⟨F, B.H⟩ F H σ ρ :=
  ⟨⟨k.sub, k.sh, .refl _, fun a q => .inl q⟩, k.len, k.vals, k.owns, k.dist, ⟨k.dic.dcts, k.dic.distD⟩⟩
theorem Ext.then_ {B : B0} {F H F' H' : Hp} (x : Ext B F H) (y : Ext ⟨F, B.H⟩ F' H') : Ext B F' H' :=
  ⟨y.sub, y.sh, x.sf.trans y.sf, fun a q => by
    rcases y.nw a q with z | z
    · exact x.nw a z
    · exact .inr z⟩
section
variable {X : Cx} {p : Addr} {ρ ρ' ρ1 : Rho} {st : Stmt} {sts rest : List Stmt} {o : Out} {xs xs1 xs' : List D} {e b : Expr} {d : D} {pos py ps : Pos} {N : List Str} {sc : Scope} {x : Str}
theorem post_lift {B : B0} {F H : Hp} {σ : St} {E : Ends} {us : List V} (l : Lent X.K B p F us xs) (k : Ok X.K B F H σ ρ) (q : PostM X.K B p F E xs o) : (∃ ρ', o = .nx ρ' ∧ Post X.K B F E o) ∨ (∃ d, o = .rt d ∧ Post X.K ⟨F, B.H⟩ F E o) := by
  cases o with
  | nx ρ' => exact .inl ⟨ρ', rfl, fun F' H' σ' k' s' => q F' H' σ' us (by rw [UpB.same l.st]; exact k') (l.rep.mono s') s'⟩
  | rt d => exact .inr ⟨d, rfl, fun v F' H' x r => q v F' H' us (by rw [UpB.same l.st]; exact k.toExt.then_ x) (l.rep.mono x.sf) r⟩
/-- what doesn't touch the list -/
theorem EvSs.m (h : EvSs X ρ sts o) : EvM X p ρ sts o xs xs := fun B F H σ E us l k q => by
  rcases post_lift l k q with ⟨_, _, z⟩ | ⟨_, _, z⟩
  · exact h B F H σ E k z
  · exact h ⟨F, B.H⟩ F H σ E k.now z
theorem EvS.m (h : EvS X ρ st o) : EvM1 X p ρ st o xs xs := fun B F H σ E us l k q => by
  rcases post_lift l k q with ⟨_, _, z⟩ | ⟨_, _, z⟩
  · exact h B F H σ E k z
  · exact h ⟨F, B.H⟩ F H σ E k.now z
theorem post_up {B : B0} {F F1 : Hp} {E : Ends} {us : List V} (q : PostM X.K B p F E xs' o) (s : Same F F1) : PostM X.K (UpB B p us) p F1 E xs' o := by
  cases o with
  | nx ρ' => exact fun F' H' σ' ws k r s' => q F' H' σ' ws (by rw [UpB.up] at k; exact k) r (s.trans s')
  | rt d => exact fun v F' H' ws x r rv => q v F' H' ws (by rw [UpB.up] at x; exact x) r rv
theorem m_cons (h1 : EvM1 X p ρ st (.nx ρ1) xs xs1) (h2 : EvM X p ρ1 rest o xs1 xs') : EvM X p ρ (st :: rest) o xs xs' := fun B F H σ E us l k q =>
  (.mk fun pins s I => pss_cons ps_w pss_w pins s σ H E I (h1 B F H σ _ us l k fun F1 H1 σ1 ws k1 r1 s1 => h2 (UpB B p ws) F1 H1 σ1 E ws ⟨upd_same, l.fr, r1⟩ k1 (post_up q s1)))
theorem m_one (h1 : EvM1 X p ρ st o xs xs') : EvM X p ρ [st] o xs xs' := fun B F H σ E us l k q => (.mk fun pins s I => pss_one ps_w pins s σ H E I (h1 B F H σ E us l k q))
theorem m_nil : EvM X p ρ [] (.nx ρ) xs xs := EvSs.m es_nil
/-- the list at p changed under what is known -/
theorem Ok.chgAt {K : PySem.W.Frag} {B : B0} {F H : Hp} {σ : St} {us ws : List V} (k : Ok K B F H σ ρ) (l : Lent K B p F us xs) : Ok K (UpB B p ws) F (upd H p (.lst ws)) σ ρ := by
  have hf := l.free k.toExt
  have ho : ∀ a, B.H a = none → a ≠ p := fun a h z => by subst z; rw [l.st] at h; cases h
  refine ⟨⟨fun c u q => ?_, fun c u q => ?_, k.sf, fun a q => ?_⟩, k.len, k.vals, fun i ys h => ?_, k.dist, ⟨fun i kvs h => ?_, k.dic.distD⟩⟩
  · have ne : c ≠ p := fun z => by subst z; rw [hf] at q; cases q
    rw [upd_ne ne]; exact k.sub c u q
  · by_cases z : c = p
    · subst z
      have q' : upd B.H c (.lst ws) c = some u := q
      rw [upd_same] at q' ⊢; exact q'
    · have q' : upd B.H p (.lst ws) c = some u := q
      rw [upd_ne z] at q' ⊢; exact k.sh c u q'
  · have ne : a ≠ p := fun z => by subst z; exact q hf
    rcases k.nw a q with z | z
    · exact .inl z
    · refine .inr ?_
      show upd B.H p (.lst ws) a = none
      rw [upd_ne ne]; exact z
  · obtain ⟨a, vs, h1, h2, h3, h4, h5⟩ := k.owns i ys h
    have ne := ho a h4
    exact ⟨a, vs, h1, by rw [upd_ne ne]; exact h2, h3, by show upd B.H p (.lst ws) a = none; rw [upd_ne ne]; exact h4, h5⟩
  · obtain ⟨a, es, h1, h2, h3, h4, h5⟩ := k.dic.dcts i kvs h
    have ne := ho a h4
    exact ⟨a, es, h1, by rw [upd_ne ne]; exact h2, h3, by show upd B.H p (.lst ws) a = none; rw [upd_ne ne]; exact h4, h5⟩
end
end L2.EV

set_option linter.all false
set_option autoImplicit false
set_option maxRecDepth 100000
/-! The list handed in, read and walked; defs that change it, called. -/
namespace L2.EV
open PySem PySem.Spec PyProof.Rows
theorem Lent.ext {K : PySem.W.Frag} {B : B0} {p : Addr} {F H F' H' : Hp} {us : List V} {xs : List D} (l : Lent K B p F us xs) (x : Ext ⟨F, H⟩ F' H') : Lent K B p F' us xs := ⟨l.st, l.fr, l.rep.mono x.sf⟩
section
variable {X : Cx} {p : Addr} {ρ ρ' ρ1 : Rho} {sts rest body : List Stmt} {o : Out} {xs xs1 xs' ds : List D} {tg e a b : Expr} {es : List Expr} {d : D} {pos py ps : Pos} {N : List Str} {sc : Scope} {x y : Str}
inductive FRunM (X : Cx) (p : Addr) (tg : Expr) (body : List Stmt) : List D → Rho → List D → Rho → List D → Prop where
  | nil {ρ : Rho} {xs : List D} : FRunM X p tg body [] ρ xs ρ xs
  | cons {d : D} {ds : List D} {ρ ρ1 ρ2 ρ3 : Rho} {xs xs1 xs2 : List D} : EvG X ρ tg d ρ1 → EvM X p ρ1 body (.nx ρ2) xs xs1 → FRunM X p tg body ds ρ2 xs1 ρ3 xs2 → FRunM X p tg body (d :: ds) ρ xs ρ3 xs2
/-! ### called -/
end
end L2.EV

set_option linter.all false
set_option autoImplicit false
set_option maxRecDepth 100000
/-! A list of one's own handed to a def that changes it. -/
namespace L2.EV
open PySem PySem.Spec PyProof.Rows
section
variable {X : Cx} {ρ : Rho} {xs xs' ds : List D} {es : List Expr} {d : D} {pos p py cpos : Pos} {N : List Str} {sc : Scope} {x y : Str}
end
end L2.EV

set_option linter.all false
set_option autoImplicit false
set_option maxRecDepth 100000
/-! A block that makes a list of new lists. -/
namespace L2.EV
open PySem PySem.Spec PyProof.Rows
section
variable {K : PySem.W.Frag} {F H F' H' H0 : Hp} {DD : Addr} {vs : List V} {rss : List (List D)}
theorem Ext.stays {p : Addr} {us : List V} (x : Ext ⟨F, H⟩ F' H') (h : H p = some (.lst us)) (f : F p = none) : F' p = none := by
  cases q : F' p with
  | none => rfl
  | some w =>
    rcases x.nw p (by rw [q]; exact fun z => nomatch z) with z | z
    · exact absurd f z
    · have z' : H p = none := z
      rw [h] at z'; cases z'
end
inductive CRunN (X : Cx) (tg elt : Expr) : List D → Rho → List (List D) → Prop where
  | nil {ρ : Rho} : CRunN X tg elt [] ρ []
  | take {d : D} {r ds : List D} {rs : List (List D)} {ρ ρ1 : Rho} : EvGn X ρ tg d ρ1 → EvN X ρ1 elt r → CRunN X tg elt ds ρ1 rs → CRunN X tg elt (d :: ds) ρ (r :: rs)
section
variable {X : Cx} {N N' : List Str} {sc scope : Scope} {ρ : Rho} {tg elt iter : Expr} {pos : Pos} {pins : List (Addr × Obj)} {σ : St} {B : B0} {F2 H2 : Hp} {s2 : Shared} {it : Addr} {fp : List Addr} {tn : Nat → Heap → Prop} {J : It} {ds : List D} {rss : List (List D)}
end
end L2.EV

set_option linter.all false
set_option autoImplicit false
set_option maxRecDepth 100000
/-! A list of lists, all of one's own, changed in place. -/
namespace L2.EV
open PySem PySem.Spec PyProof.Rows
abbrev Tb := List (Addr × List D)
/-- lists of one's own that stand at known addresses, no name's own -/
structure TOk (K : PySem.W.Frag) (B : B0) (F H : Hp) (σ : St) (ρ : Rho) (T : Tb) : Prop where
  nd : (T.map (·.1)).Nodup
  st : ∀ x ∈ T, ∃ us, H x.1 = some (.lst us) ∧ F x.1 = none ∧ RepL K F us x.2
  bn : ∀ x ∈ T, B.H x.1 = none
  no : ∀ x ∈ T, NoOwn σ ρ x.1
def PostU (K : PySem.W.Frag) (B : B0) (F₀ : Hp) (E : Ends) (T' : Tb) : Out → Prop
  | .nx ρ => ∀ F H σ, Ok K B F H σ ρ → TOk K B F H σ ρ T' → Same F₀ F → E.nx σ H
  | .rt d => ∀ v F H, Ext B F H → Rep K F v d → E.rt v H
def EvU (X : Cx) (ρ : Rho) (sts : List Stmt) (o : Out) (T T' : Tb) : Prop := ∀ (B : B0) (F H : Hp) (σ : St) (E : Ends), Ok X.K B F H σ ρ → TOk X.K B F H σ ρ T → PostU X.K B F E T' o → wSs X sts E σ H
def EvTU (X : Cx) (ρ : Rho) (e : Expr) (b : Bool) (T : Tb) : Prop := ∀ (B : B0) (F H : Hp) (σ : St) (Q : Bool → Hp → Prop), Ok X.K B F H σ ρ → TOk X.K B F H σ ρ T → (∀ F' H', Ext ⟨F, H⟩ F' H' → Q b H') → wT X e σ H Q
section
variable {K : PySem.W.Frag} {B : B0} {F H F' H' : Hp} {σ σ' : St} {ρ ρ' : Rho} {T : Tb}
end
section
variable {X : Cx} {ρ ρ' ρ1 ρ2 : Rho} {st : Stmt} {sts rest body ss us : List Stmt} {o : Out} {T T' T1 T2 : Tb} {tg e a b c : Expr} {d : D} {ds : List D} {pos py ps : Pos} {N : List Str} {sc : Scope} {x : Str}
inductive FRunU (X : Cx) (tg : Expr) (body : List Stmt) : List D → Rho → Tb → Out → Tb → Prop where
  | nil {ρ : Rho} {T : Tb} : FRunU X tg body [] ρ T (.nx ρ) T
  | cons {d : D} {ds : List D} {ρ ρ1 ρ2 : Rho} {T T1 T2 : Tb} {o : Out} : EvGn X ρ tg d ρ1 → EvU X ρ1 body (.nx ρ2) T T1 → FRunU X tg body ds ρ2 T1 o T2 → FRunU X tg body (d :: ds) ρ T o T2
  | ret {d r : D} {ds : List D} {ρ ρ1 : Rho} {T T1 : Tb} : EvGn X ρ tg d ρ1 → EvU X ρ1 body (.rt r) T T1 → FRunU X tg body (d :: ds) ρ T (.rt r) T1
inductive WRunU (X : Cx) (c : Expr) (body : List Stmt) (T : Tb) : Nat → Rho → Rho → Prop where
  | stop {ρ : Rho} : EvTU X ρ c false T → WRunU X c body T 0 ρ ρ
  | step {n : Nat} {ρ ρ1 ρ2 : Rho} : EvTU X ρ c true T → EvU X ρ body (.nx ρ1) T T → WRunU X c body T n ρ1 ρ2 → WRunU X c body T (n + 1) ρ ρ2
end
end L2.EV

set_option linter.all false
set_option autoImplicit false
set_option maxRecDepth 100000
/-! A block with two fors. -/
namespace L2.EV
open PySem PySem.Spec PyProof.Rows
section
variable {prog : Program} {w : World} {A : Around} {R : Result → Shared → Prop} {s : Shared} {elt t0 i0 t1 i1 : Expr} {scope : Scope} {pos : Pos} {it acc : Value} {env : Env}
end
inductive CRunF (X : Cx) (tg elt : Expr) : List D → Rho → List D → Rho → Prop where
  | nil {ρ : Rho} : CRunF X tg elt [] ρ [] ρ
  | take {d r : D} {ds rs : List D} {ρ ρ1 ρ2 : Rho} : EvGn X ρ tg d ρ1 → EvE X ρ1 elt r → CRunF X tg elt ds ρ1 rs ρ2 → CRunF X tg elt (d :: ds) ρ (r :: rs) ρ2
inductive CRun2 (X : Cx) (t0 t1 i1 elt : Expr) : List D → Rho → List D → Prop where
  | nil {ρ : Rho} : CRun2 X t0 t1 i1 elt [] ρ []
  | take {d : D} {ds ds1 rs1 rs : List D} {ρ ρ1 ρ2 : Rho} : EvGn X ρ t0 d ρ1 → EvI X ρ1 t1 i1 ds1 → CRunF X t1 elt ds1 ρ1 rs1 ρ2 → CRun2 X t0 t1 i1 elt ds ρ2 rs → CRun2 X t0 t1 i1 elt (d :: ds) ρ (rs1 ++ rs)
section
variable {X : Cx} {N : List Str} {sc scope : Scope} {t0 i0 t1 i1 elt : Expr} {pos : Pos} {it : Addr} {fp : List Addr} {tn : Nat → Heap → Prop} {J : It} {ds rs r00 : List D} {ρ1 ρ2 : Rho} {P1 : List (Addr × Obj)} {σ5 : St} {B : B0} {F2 H2 F5 H5 : Hp} {s5 : Shared} {DD : Addr} {vs5 : List V}
end
end L2.EV

set_option linter.all false
set_option autoImplicit false
set_option maxRecDepth 100000
/-! A block with two fors: the outer one; sums. -/
namespace L2.EV
open PySem PySem.Spec PyProof.Rows
section
variable {X : Cx} {N N' : List Str} {sc scope : Scope} {ρ : Rho} {tg elt iter t1 i1 : Expr} {pos : Pos} {pins : List (Addr × Obj)} {σ : St} {B : B0} {F2 H2 : Hp} {s2 : Shared} {it : Addr} {fp : List Addr} {tn : Nat → Heap → Prop} {J : It} {ds rs : List D}
end
end L2.EV

set_option linter.all false
set_option autoImplicit false
set_option maxRecDepth 100000
/-! sum, max of a list, bit_length, shifts and masks of great numbers. -/
namespace L2.EV
open PySem PySem.Spec PyProof.Rows
section
variable {X : Cx} {ρ : Rho} {e a b : Expr} {d : D} {pos p apos cpos : Pos} {N : List Str} {sc : Scope} {x : Str}
end
end L2.EV

set_option linter.all false
set_option autoImplicit false
set_option maxRecDepth 100000
/-! x = [list(l) for l in ls], a plain local. -/
namespace L2.EV
open PySem PySem.Spec PyProof.Rows
section
variable {X : Cx} {N N' : List Str} {sc scope : Scope} {ρ : Rho} {tg elt iter : Expr} {pos : Pos} {ds : List D} {rss : List (List D)} {rest : List Stmt} {d0 : D}
end
end L2.EV

set_option linter.all false
set_option autoImplicit false
set_option maxRecDepth 100000
/-! Whether a thing is one of a tuple's. -/
namespace L2.EV
open PySem PySem.Spec PyProof.Rows
section
variable {X : Cx} {ρ : Rho} {a b : Expr} {pos p : Pos} {N : List Str} {sc : Scope} {x : Str}
theorem rd_inT (t : At X N sc) {p : PyData} {qs : List PyData} (sp : p.canLay0 = true) (sd : p.depth ≤ 62) (sq : PyData.canLayAll0 qs = true) : OpR X (compareOp .In) (fun x y H Q => RdP X H x p ∧ RdP X H y (.tuple qs) ∧ Q (.bl (qs.any fun y => PyData.eqv y p)) H) := by
  intro pins s σ H x y v u Q I rx ry h
  obtain ⟨h1, h2, h3⟩ := h
  obtain ⟨as, r1⟩ := h1 sp H (.refl _) pins σ s v I rx
  obtain ⟨bs, r2⟩ := h2 (by simpa [PyData.canLay0] using sq) H (.refl _) pins σ s u I ry
  refine SeqAt.in_tuple_reads r2 r1 sq sp ?_ ⟨.bl _, H, I, rfl, h3⟩
  have hu := t.un
  have : min (PyData.depthAll qs) p.depth ≤ p.depth := Nat.min_le_right _ _
  omega
/-- x in a tuple -/
theorem et_inT (t : At X N sc) {d : D} {xs : List D} {r : Bool} (ha : EvE X ρ a d) (hb : EvE X ρ b (.tup xs)) (sp : (toP d).canLay0 = true) (sd : (toP d).depth ≤ 62) (sq : PyData.canLayAll0 (toPs xs) = true) (he : ((toPs xs).any fun y => PyData.eqv y (toP d)) = r)
    (hm : behindInMarks .In b = false := by rfl) : EvT X ρ (.Compare a [.In] [b] pos) r :=
  .of (pt_cmpR (rd_inT t sp sd sq) pe_w pe_w hm) fun B F H σ Q k q => twoP (EvE.p ha) (EvE.p hb) k fun x y F' H' x' rx ry => ⟨rx, ry, r, by rw [he], q F' H' x'⟩
end
end L2.EV

set_option linter.all false
set_option autoImplicit false
set_option maxRecDepth 100000
/-! A text's item; tuples joined where one may be empty. -/
namespace L2.EV
open PySem PySem.Spec PyProof.Rows
section
variable {X : Cx} {ρ : Rho} {a b : Expr} {pos p : Pos} {N : List Str} {sc : Scope} {x : Str}
/-- z[i] of a text -/
theorem ev_ixS {z : Str} {i : Int} {c : Nat} (ha : EvE X ρ a (.str z)) (hb : EvE X ρ b (.int i)) (hz : z.length ≤ sizeLine) (h : atI z.cps.toList i = some c) (hs : PlainIx b := by intro _ _; rfl) : EvE X ρ (.Subscript a b pos) (.str ⟨#[c]⟩) :=
  .of (pe_ix ix_str pe_w pe_w hs) fun B F H σ Q k q => two ha hb k fun x y F' H' x' rx ry => by
    cases rx; cases ry
    exact ⟨z, i, c, rfl, rfl, hz, h, q _ F' H' x' (.str _)⟩
theorem rd_ninT (t : At X N sc) {p : PyData} {qs : List PyData} (sp : p.canLay0 = true) (sd : p.depth ≤ 62) (sq : PyData.canLayAll0 qs = true) : OpR X (compareOp .NotIn) (fun x y H Q => RdP X H x p ∧ RdP X H y (.tuple qs) ∧ Q (.bl (!qs.any fun y => PyData.eqv y p)) H) := by
  intro pins s σ H x y v u Q I rx ry h
  obtain ⟨h1, h2, h3⟩ := h
  obtain ⟨as, r1⟩ := h1 sp H (.refl _) pins σ s v I rx
  obtain ⟨bs, r2⟩ := h2 (by simpa [PyData.canLay0] using sq) H (.refl _) pins σ s u I ry
  refine SeqAt.notIn_tuple_reads r2 r1 sq sp ?_ ⟨.bl _, H, I, rfl, h3⟩
  have hu := t.un
  have : min (PyData.depthAll qs) p.depth ≤ p.depth := Nat.min_le_right _ _
  omega
/-- x not in a tuple -/
theorem et_ninT (t : At X N sc) {d : D} {xs : List D} {r : Bool} (ha : EvE X ρ a d) (hb : EvE X ρ b (.tup xs)) (sp : (toP d).canLay0 = true) (sd : (toP d).depth ≤ 62) (sq : PyData.canLayAll0 (toPs xs) = true) (he : (!(toPs xs).any fun y => PyData.eqv y (toP d)) = r)
    (hm : behindInMarks .NotIn b = false := by rfl) : EvT X ρ (.Compare a [.NotIn] [b] pos) r :=
  .of (pt_cmpR (rd_ninT t sp sd sq) pe_w pe_w hm) fun B F H σ Q k q => twoP (EvE.p ha) (EvE.p hb) k fun x y F' H' x' rx ry => ⟨rx, ry, r, by rw [he], q F' H' x'⟩
end
end L2.EV

set_option linter.all false
set_option autoImplicit false
set_option maxRecDepth 100000
/-! A state: a dict with the one text key 'xs', whose list those change that it is handed to. -/
namespace L2.EV
open PySem PySem.Spec PyProof.Rows
/-- an expression that may change the list at q -/
def EvEM (X : Cx) (q : Addr) (ρ : Rho) (e : Expr) (d : D) (xs xs' : List D) : Prop := ∀ (B : B0) (F H : Hp) (σ : St) (Q : VK) (us : List V), Lent X.K B q F us xs → Ok X.K B F H σ ρ →
  (∀ v F' H' us', Ext (UpB ⟨F, H⟩ q us') F' H' → RepL X.K F' us' xs' → Rep X.K F' v d → Q v H') → wE X e σ H Q
def EvAM (X : Cx) (q : Addr) (ρ : Rho) (es : List Expr) (ds : List D) (xs xs' : List D) : Prop := PlA es ∧ ∀ (B : B0) (F H : Hp) (σ : St) (Q : List V → Hp → Prop) (us : List V), Lent X.K B q F us xs → Ok X.K B F H σ ρ →
  (∀ vs F' H' us', Ext (UpB ⟨F, H⟩ q us') F' H' → RepL X.K F' us' xs' → RepL X.K F' vs ds → Q vs H') → wA X es σ H Q
def EvTL (X : Cx) (q : Addr) (ρ : Rho) (e : Expr) (b : Bool) (xs : List D) : Prop := ∀ (B : B0) (F H : Hp) (σ : St) (Q : Bool → Hp → Prop) (us : List V), Lent X.K B q F us xs → Ok X.K B F H σ ρ →
  (∀ F' H', Ext ⟨F, H⟩ F' H' → Q b H') → wT X e σ H Q
theorem up_free {F H F1 H1 : Hp} {q : Addr} {us : List V} (x : Ext (UpB ⟨F, H⟩ q us) F1 H1) (hf : F q = none) : F1 q = none := by
  cases e : F1 q with
  | none => rfl
  | some o =>
    rcases x.nw q (by rw [e]; exact Option.some_ne_none o) with z | z
    · exact absurd hf z
    · have z' : upd H q (.lst us) q = none := z
      rw [upd_same] at z'; cases z'
theorem Ext.reUp {F H F1 H1 : Hp} {q : Addr} {us ws : List V} (x : Ext (UpB ⟨F, H⟩ q us) F1 H1) (hf : F q = none) : Ext (UpB ⟨F, H⟩ q ws) F1 (upd H1 q (.lst ws)) := by
  have h1 := up_free x hf
  refine ⟨fun b u z => ?_, fun b u z => ?_, x.sf, fun a z => ?_⟩
  · have ne : b ≠ q := fun w => by subst w; rw [h1] at z; cases z
    rw [upd_ne ne]; exact x.sub b u z
  · have z' : upd H q (.lst ws) b = some u := z
    by_cases ne : b = q
    · subst ne; rw [upd_same] at z' ⊢; exact z'
    · rw [upd_ne ne] at z' ⊢; exact x.sh b u (by show upd H q (.lst us) b = some u; rw [upd_ne ne]; exact z')
  · have ne : a ≠ q := fun w => by subst w; exact z h1
    rcases x.nw a z with y | y
    · exact .inl y
    · refine .inr ?_
      have y' : upd H q (.lst us) a = none := y
      show upd H q (.lst ws) a = none
      rw [upd_ne ne] at y' ⊢; exact y'
theorem Ext.tM {F H F1 H1 F2 H2 : Hp} {q : Addr} {us ws : List V} (x : Ext (UpB ⟨F, H⟩ q us) F1 H1) (hf : F q = none) (y : Ext (UpB ⟨F1, H1⟩ q ws) F2 H2) : Ext (UpB ⟨F, H⟩ q ws) F2 H2 := (x.reUp hf).trans y
theorem Ext.toM {F H F' H' : Hp} {q : Addr} {us : List V} (x : Ext ⟨F, H⟩ F' H') (h : H q = some (.lst us)) : Ext (UpB ⟨F, H⟩ q us) F' H' := by rw [UpB.same (B := ⟨F, H⟩) h]; exact x
section
variable {X : Cx} {q : Addr} {ρ ρ' ρ1 : Rho} {st : Stmt} {sts rest ss us' : List Stmt} {o : Out} {xs xs1 xs2 xs' ds : List D} {tg e a b c : Expr} {es : List Expr} {d : D} {pos p py ps : Pos} {N : List Str} {sc : Scope} {x y : Str}
theorem Ok.extM {K : PySem.W.Frag} {B : B0} {F H F' H' : Hp} {σ : St} {us ws : List V} (k : Ok K B F H σ ρ) (l : Lent K B q F us xs) (x : Ext (UpB ⟨F, H⟩ q ws) F' H') : Ok K (UpB B q ws) F' H' σ ρ := (k.chgAt l).ext x
theorem Lent.ff {K : PySem.W.Frag} {B : B0} {F H : Hp} {σ : St} {us : List V} (l : Lent K B q F us xs) (k : Ok K B F H σ ρ) : F q = none := l.free k.toExt
theorem EvE.em (h : EvE X ρ e d) : EvEM X q ρ e d xs xs := fun B F H σ Q us l k w => h B F H σ Q k fun v F' H' x r => w v F' H' us (x.toM (k.sh _ _ l.st)) (l.rep.mono x.sf) r
theorem EvA.am (h : EvA X ρ es ds) : EvAM X q ρ es ds xs xs := ⟨h.1, fun B F H σ Q us l k w => h.2 B F H σ Q k fun v F' H' x r => w v F' H' us (x.toM (k.sh _ _ l.st)) (l.rep.mono x.sf) r⟩
theorem am_cons (h1 : EvEM X q ρ e d xs xs1) (h2 : EvAM X q ρ es ds xs1 xs') (hs : Pl e := by intro _ _; rfl) : EvAM X q ρ (e :: es) (d :: ds) xs xs' :=
  ⟨⟨hs, h2.1⟩, fun B F H σ Q us l k w => .mk fun pos pins s I => pa_cons pe_w pa_w (hs _ _) pos pins s σ H Q I (h1 B F H σ _ us l k fun v F1 H1 u1 x1 r1 rv => h2.2 (UpB B q u1) F1 H1 σ _ u1 ⟨upd_same, l.fr, r1⟩ (k.extM l x1) fun vs F2 H2 u2 x2 r2 rvs => w _ F2 H2 u2 (x1.tM (l.ff k) x2) r2 (.cons (rv.mono x2.sf) rvs))⟩
theorem em_tup {x1 : Nat} (h : EvAM X q ρ es ds xs xs') (hl : ds.length ≤ sizeLine := by exact Nat.le_of_ble_eq_true rfl) : EvEM X q ρ (.Tuple es x1 pos) (.tup ds) xs xs' := fun B F H σ Q us l k w => .mk fun pins s I =>
  pe_tup pa_w pins s σ H Q I (h.2 B F H σ _ us l k fun vs F' H' u1 x r rv => ⟨by rw [rv.length]; exact hl, fun p hp => w _ _ _ u1 (x.grow hp) (r.mono (upd_sameOf (x.sub.free hp))) (.tup upd_same (rv.mono (upd_sameOf (x.sub.free hp))))⟩)
/-- [..], also of what changes -/
theorem em_lst (h : EvAM X q ρ es ds xs xs') (hl : ds.length ≤ sizeLine := by exact Nat.le_of_ble_eq_true rfl) : EvEM X q ρ (.List es pos) (.lst ds) xs xs' := fun B F H σ Q us l k w => .mk fun pins s I =>
  pe_lst pa_w pins s σ H Q I (h.2 B F H σ _ us l k fun vs F' H' u1 x r rv => ⟨by rw [rv.length]; exact hl, fun p hp => w _ _ _ u1 (x.grow hp) (r.mono (upd_sameOf (x.sub.free hp))) (.lst upd_same (rv.mono (upd_sameOf (x.sub.free hp))))⟩)
theorem em_ixL {ys : List D} {i : Int} (ha : EvEM X q ρ a (.lst ys) xs xs1) (hb : EvEM X q ρ b (.int i) xs1 xs') (h : atI ys i = some d) (hs : PlainIx b := by intro _ _; rfl) : EvEM X q ρ (.Subscript a b pos) d xs xs' := fun B F H σ Q us l k w => .mk fun pins s I =>
  pe_ix ix_list pe_w pe_w hs pins s σ H Q I (ha B F H σ _ us l k fun v F1 H1 u1 x1 r1 rv => hb (UpB B q u1) F1 H1 σ _ u1 ⟨upd_same, l.fr, r1⟩ (k.extM l x1) fun v2 F2 H2 u2 x2 r2 rv2 => by
    cases rv2
    cases rv with
    | lst hf rl =>
      obtain ⟨z, h1, h2⟩ := (rl.mono x2.sf).at h
      exact ⟨_, _, i, z, rfl, rfl, SqL.of (x2.sub _ _ (x2.sf _ _ hf)), h1, w z F2 H2 u2 (x1.tM (l.ff k) x2) r2 h2⟩)
/-! ### statements -/
theorem m_setM [FnT X] (t : At X N sc) (i : Nat) {pos' : Pos} (h : EvEM X q ρ e d xs xs') (hi : N[i]? = some x := by rfl) (hx : LocS sc x = true := by rfl) (hs : swapsWith e (some (.Name x pos')) pos.line X.env = pure false := by rfl) :
    EvM1 X q ρ (.Assign [.Name x pos'] e pos) (.nx (ρ.set i (.val d))) xs xs' := fun B F H σ E us l k w =>
  (.mk fun pins s I => ps_set (i := i) t.nd (t.ix hi) (t.loc hx) pe_w hs hfT pins s σ H E I (h B F H σ _ us l k fun v F' H' u1 x' r rv => w F' H' _ u1 ((k.extM l x').setVal i rv) r x'.sf))
theorem m_retM (h : EvEM X q ρ e d xs xs') : EvM1 X q ρ (.Return (some e) pos) (.rt d) xs xs' := fun B F H σ E us l k w =>
  (.mk fun pins s I => ps_ret pe_w pins s σ H E I (h B F H σ _ us l k fun v F' H' u1 x' r rv => w v F' H' u1 (k.extM l x').toExt r rv))
theorem m_end (h1 : EvM1 X q ρ st (.rt d) xs xs') : EvM X q ρ (st :: rest) (.rt d) xs xs' := fun B F H σ E us l k w =>
  (.mk fun pins s I => pss_cons ps_w pss_w pins s σ H E I (h1 B F H σ _ us l k w))
theorem EvT.l {r : Bool} (h : EvT X ρ e r) : EvTL X q ρ e r xs := fun B F H σ Q us l k w => h B F H σ Q k w
theorem m_later {B : B0} {F F1 : Hp} {E : Ends} (w : PostM X.K B q F E xs' o) (s : Same F F1) : PostM X.K B q F1 E xs' o := by
  cases o with
  | nx ρ' => exact fun F' H' σ' ws k r s' => w F' H' σ' ws k r (s.trans s')
  | rt d => exact w
theorem m_ifT (hc : EvTL X q ρ c true xs) (h : EvM X q ρ ss o xs xs') : EvM1 X q ρ (.If c ss us' pos) o xs xs' := fun B F H σ E us l k w =>
  (.mk fun pins s I => ps_if pt_w pss_w pss_w pins s σ H E I (hc B F H σ _ us l k fun F1 H1 x1 => by rw [if_pos rfl]; exact h B F1 H1 σ E us (l.ext x1) (k.ext x1) (m_later w x1.sf)))
theorem m_ifF (hc : EvTL X q ρ c false xs) (h : EvM X q ρ us' o xs xs') : EvM1 X q ρ (.If c ss us' pos) o xs xs' := fun B F H σ E us l k w =>
  (.mk fun pins s I => ps_if pt_w pss_w pss_w pins s σ H E I (hc B F H σ _ us l k fun F1 H1 x1 => by rw [if_neg Bool.false_ne_true]; exact h B F1 H1 σ E us (l.ext x1) (k.ext x1) (m_later w x1.sf)))
/-! ### the state's list -/
theorem key_xs {tk : Tok} : keyIs (Sum.inr "xs") (.str "xs" tk) = true := by show Value.isStrOf "xs" (.str "xs" tk) = true; simp [Value.isStrOf]
/-- state['xs'] -/
theorem st_wE (t : At X N sc) {i : Nat} {j : Nat} {p2 : Pos} (hr : ρ[i]? = some (.val (.stt q))) (hN : N[i]? = some x) (hv : VisS sc x = true) (hx : NameOk x = true) {B : B0} {F H : Hp} {σ : St} {Q : VK} (k : Ok X.K B F H σ ρ) (h : Q (.ref q) H) :
    wE X (.Subscript (.Name x py) (.Constant (.str "xs") j p2) pos) σ H Q := .mk fun pins s I => by
  obtain ⟨v, h1, h2⟩ := k.vals i _ hr
  cases h2 with
  | @stt a _ e =>
  refine Subscript_ (thn (pvAt t hN hv hx pins s σ H (fun v H1 => v = .ref a ∧ H1 = H) I ⟨_, h1, rfl, rfl⟩) fun u s1 ⟨v, H1, I1, rv, ev, eh⟩ => ?_)
  subst ev; subst eh
  cases (show u = Value.ref a from rv)
  refine thn (pe_str pins s1 σ H1 (fun v H2 => v = .str "xs" ∧ H2 = H1) I1 ⟨rfl, rfl⟩) fun iv s2 ⟨w, H2, I2, rw', ew, eh⟩ => ?_
  subst ew; subst eh
  obtain ⟨tk, rfl⟩ := (show ∃ t, iv = Value.str "xs" t from rw')
  obtain ⟨z, hsm, vs, rel, dd⟩ := (show ObjOk X.prog X.w H2 s2.heap a (.dK [(Sum.inr "xs", .ref q)]) from I2.hok a _ (k.sub _ _ e))
  cases rel with
  | @cons _ kv _ vs' hkv tl =>
  cases tl
  obtain ⟨kk, w'⟩ := kv
  obtain ⟨e1, e2⟩ := hkv
  have e1' : (Sum.inr (Str.ofString "xs") : Key) = kk := e1
  subst e1'
  cases (show w' = Value.ref q from e2)
  refine subscriptTail_builtinR (x := .ref q) dd.typeIs PySem.F.slot_dict_getitem.lookup ?_ (by rfl)
  exact wpAny_getItem_of (knd := mixKind X.prog X.w) (Q := fun r s' => r = .ref q ∧ EP X pins σ Q r s') (k := Sum.inr "xs") (key_xs (tk := tk)) dd.mapOf (by simp [valueAt]) ⟨rfl, .ref q, H2, I2.tok _, rfl, h⟩
/-- state['xs'] == [] -/
theorem tl_empty (t : At X N sc) (i : Nat) {j : Nat} {p1 p2 p3 : Pos} {r : Bool} (hr : ρ[i]? = some (.val (.stt q))) {ns : List Int} (hx0 : xs = ns.map D.int) (he : r = ns.isEmpty) (hN : N[i]? = some x := by rfl) (hv : VisS sc x = true := by rfl) (hx : NameOk x = true := by rfl) :
    EvTL X q ρ (.Compare (.Subscript (.Name x py) (.Constant (.str "xs") j p2) p1) [.Eq] [.List [] p3] pos) r xs := fun B F H σ Q us l k w => .mk fun pins s I => by
  subst hx0
  have sh : SeqAt.shaped (PyData.list (toPs (ns.map D.int))) = true := by rw [toPs_ints]; exact PySem.W.shaped_ints ns
  refine pt_cmpR (rd_eq t (p := .list (toPs (ns.map D.int))) (q := .list []) sh rfl) pe_w pe_w (nobehind _ (by decide) (by decide)) pins s σ H Q I ?_
  refine st_wE t hr hN hv hx k ?_
  refine (en_lst (X := X) (ρ := ρ) ea_nil).toQ.p B F H σ _ k fun v F' H' x' rd => ?_
  refine ⟨fun hc H2 s2 pins σ s u I ru => ?_, rd, r, ?_, w F' H' x'⟩
  · cases (show u = Value.ref q from ru)
    exact SqB.reads (k := true) I (x'.sub.trans s2) (show SqL _ _ _ _ from SqL.of (s2 _ _ (x'.sh _ _ (k.sh _ _ l.st)))) (l.rep.mono x'.sf) hc
  · subst he
    cases ns with
    | nil => rfl
    | cons n ns => rfl
/-- state['xs'].pop() -/
theorem em_pop (t : At X N sc) (i : Nat) {j : Nat} {p1 p2 apos cpos : Pos} (hr : ρ[i]? = some (.val (.stt q))) (hxs : xs = xs' ++ [d]) (hN : N[i]? = some x := by rfl) (hv : VisS sc x = true := by rfl) (hx : NameOk x = true := by rfl) (hline : (apos.endLine == cpos.line) = true := by rfl) :
    EvEM X q ρ (.Call (.Attribute (.Subscript (.Name x py) (.Constant (.str "xs") j p2) p1) "pop" apos) [] [] cpos) d xs xs' := fun B F H σ Q us l k w => .mk fun pins s I => by
  subst hxs
  refine pe_bm0 PySem.F.plainAttrs_list PySem.F.slot_list_pop PySem.F.type_list_pop mt_pop pe_w rfl hline pins s σ H Q I ?_
  refine st_wE t hr hN hv hx k ?_
  have h2 : H q = some (.lst us) := k.sh _ _ l.st
  refine ⟨.inl ⟨rfl, _, SqL.of h2⟩, ?_⟩
  have hl := l.rep.length
  obtain ⟨v, hw, rw'⟩ := l.rep.get (i := xs'.length) (d := d) (by simp)
  have hll : us.length - 1 = xs'.length := by rw [hl]; simp
  refine ⟨q, us, v, rfl, rfl, h2, by rw [hll]; exact hw, ?_⟩
  have hf := l.ff k
  have rd := l.rep.dropLast
  rw [List.dropLast_concat] at rd
  exact w v F _ us.dropLast ⟨fun b u z => by rw [upd_ne (fun e => by subst e; rw [hf] at z; cases z)]; exact k.sub b u z, fun b u z => z, .refl _, fun a z => .inl z⟩ rd rw'
/-! ### called -/
def spS (K : PySem.W.Frag) (C : List D → List D → D → List D → Prop) : Sp := fun vs H Q _ => ∃ q F ds d us xs xs', Same F H ∧ H q = some (.lst us) ∧ F q = none ∧ RepL K F us xs ∧ RepL K F vs (.stt q :: ds) ∧ C ds xs d xs' ∧ ∀ v F' H' us', Ext (UpB ⟨F, H⟩ q us') F' H' → RepL K F' us' xs' → Rep K F' v d → Q v H'
def CalleeS (X : Cx) (x : Str) (C : List D → List D → D → List D → Prop) : Prop := ∃ (f : Addr) (fd : FuncData) (ps : List Str) (k : Nat), FnOk X.prog X.w X.K X.mg X.base CX0 k f fd ps (spS X.K C) ∧ Room k X.A ∧ X.mg x = some (.ref f) ∧ PySem.W.keepIn X.K (.ref f) = true ∧ Binds X.K fd ps []
theorem fn_evS {P : Program} (htree : P.given.tree = none) {w : World} {K : PySem.W.Frag} {mg : Str → Option Value} {base : Heap} {x qual : Str} {st : Stmt} {f : Addr} {fd : FuncData} {N ps : List Str} {k : Nat} {C : List D → List D → D → List D → Prop} (F : Fun K x qual st f fd) (S : FnScope N ps (defScope st))
    (len : ∀ ds xs d xs', C ds xs d xs' → ds.length + 1 = ps.length)
    (body : ∀ X, DefX P w K mg base k N (defScope st) X → ∀ q ds xs d xs', C ds xs d xs' → EvM X q (.val (.stt q) :: ds.map Sl.val ++ List.replicate (N.length - (ds.length + 1)) Sl.un) (defBody st) (.rt d) xs xs') : FnOk P w K mg base CX0 (k + 1) f fd ps (spS K C) := by
  refine F.ok S (fun vs H Q E h => ?_) (fun cdv A outer s H vs Q E hr h => ?_)
  · obtain ⟨p, F', ds, d, us, xs, xs', sub, hp, hf, ru, r, hC, q⟩ := h
    rw [r.length]; exact len ds xs d xs' hC
  · obtain ⟨p, F', ds, d, us, xs, xs', sub, hp, hf, ru, r, hC, q⟩ := h
    refine ⟨_, pss_w, ?_⟩
    have hx : DefX P w K mg base k N (defScope st) (cxOf CX0 P w K mg base N qual (defScope st) f cdv A outer s H E).nox :=
      ⟨⟨rfl, rfl, rfl, S.nd, rfl, hr.units, hr.dp100, htree, ⟨_, _, rfl, S.gen, S.co, rfl, rfl⟩⟩, rfl, rfl, rfl, rfl, rfl, hr, ⟨fun _ => rfl⟩, rfl, rfl⟩
    have hk : Ok K ⟨F', H⟩ F' H (start N vs) (.val (.stt p) :: ds.map Sl.val ++ List.replicate (N.length - (ds.length + 1)) Sl.un) := by
      unfold start
      rw [r.length]
      exact ok_start sub r _
    exact body _ hx p ds xs d xs' hC ⟨F', H⟩ F' H _ _ us ⟨hp, hf, ru⟩ hk fun v F2 H2 us2 x2 r2 rv => q v F2 H2 us2 x2 r2 rv
theorem DefX.calleeS {P : Program} {w : World} {K : PySem.W.Frag} {mg : Str → Option Value} {base : Heap} {k j : Nat} {f : Addr} {fd : FuncData} {ps : List Str} {C : List D → List D → D → List D → Prop} (h : DefX P w K mg base k N sc X)
    (F : FnOk P w K mg base CX0 j f fd ps (spS K C)) (hj : j ≤ k) (hm : mg x = some (.ref f)) (hk : PySem.W.keepIn K (.ref f) = true) (hb : Binds K fd ps []) : CalleeS X x C := by
  obtain ⟨h0, rfl, rfl, rfl, rfl, rfl, hr, _⟩ := h
  exact ⟨f, fd, ps, j, F, hr.mono hj, hm, hk, hb⟩
/-- f(state, ..) -/
theorem em_call (t : At X N sc) {C : List D → List D → D → List D → Prop} (h : CalleeS X x C) (ha : EvAM X q ρ (e :: es) (.stt q :: ds) xs xs1) (hC : C ds xs1 d xs') (hg : sc.names.lookup x = some .globalImplicit := by rfl) (hdb : (x == ("__debug__" : Str)) = false := by rfl) :
    EvEM X q ρ (.Call (.Name x p) (e :: es) [] pos) d xs xs' := fun B F0 H σ Q us l k w => .mk fun pins s I => by
  obtain ⟨f, fd, ps, kk, F, hr', hm, hk, hb⟩ := h
  have pz : Passes CX0 X E0 := pass0
  refine pe_call F hr' (gl_of t hg) hm hk hb .nil pz pa_w hdb (ha.1.1 _ _) (PlA.any ha.1.2) pins s σ H Q I (ha.2 B F0 H σ _ us l k fun vs F1 H1 u1 x1 r1 rv => ?_)
  have k1 := k.extM l x1
  refine ⟨q, F1, ds, d, u1, xs1, xs', k1.sub, k1.sh _ _ upd_same, up_free x1 (l.ff k), r1, by rw [List.append_nil]; exact rv, hC, fun v F2 H2 u2 x2 r2 rv2 => w v F2 H2 u2 (x1.tM (l.ff k) x2) r2 rv2⟩
theorem Ext.overNew {F H F1 H1 F2 H2 : Hp} {l : Addr} {us : List V} (x : Ext ⟨F, H⟩ F1 H1) (h0 : H l = none) (hf : F1 l = none) (y : Ext (UpB ⟨F1, H1⟩ l us) F2 H2) : Ext ⟨F, H⟩ F2 H2 := by
  refine Ext.trans (F := F1) (H := upd H1 l (.lst us)) ⟨fun b u z => ?_, fun b u z => ?_, x.sf, x.nw⟩ y
  · rw [upd_ne (fun e => by subst e; rw [hf] at z; cases z)]; exact x.sub b u z
  · have z' : H b = some u := z
    rw [upd_ne (fun e => by subst e; rw [h0] at z'; cases z')]; exact x.sh b u z
/-- {'xs': ..} -/
theorem st_new (t : At X N sc) {j : Nat} {p1 p2 : Pos} (h1 : EvN X ρ e xs) {B : B0} {F H : Hp} {σ : St} {Q : VK} (k : Ok X.K B F H σ ρ)
    (w : ∀ a l vs F' H', Ext ⟨F, H⟩ F' H' → H l = none → H' l = some (.lst vs) → F' l = none → RepL X.K F' vs xs → Rep X.K F' (.ref a) (.stt l) → Q (.ref a) H') : wE X (.Dict [some (.Constant (.str "xs") j p1)] [e] p2) σ H Q := .mk fun pins s I => by
  rw [arm_eval_Dict, zip_pairTrees [some (.Constant (.str "xs") j p1)] [e] X.env p2 rfl rfl]
  have hpl : (pairTrees [some (.Constant (.str "xs") j p1)] [e] X.env p2).length = 1 := pairTrees_length _ _ X.env p2 rfl rfl
  rw [dictDisplay_pairs _ (fun z => by rw [z] at hpl; cases hpl) (by omega)]
  refine wpAny_bind (wpAny_standAt (wpAny_bind ?_))
  unfold subDict
  refine wpAny_bind (wpAny_alloc ?_)
  have hn := I.hok.fresh (Nat.le_refl s.heap.objs.size)
  have hbg : sysModules < s.heap.objs.size := Nat.lt_trans (by decide) (show mainGlobals < s.heap.objs.size from (I.mod.glob.keeps I.bk).lt)
  have hsm : (s.heap.objs.size == sysModules) = false := beq_eq_false_iff_ne.mpr (Ne.symm (Nat.ne_of_lt hbg))
  have I1 := I.laid (a := s.heap.objs.size) (o := .dK []) (h' := s.heap.push { cls := .type "dict", data := .dict #[] }) (t' := s.toks) (fun _ _ q => Heap.get?_push_of_some _ q) (Nat.le_refl _) (show ObjOk X.prog X.w _ _ s.heap.objs.size (.dK []) from ⟨Nat.zero_le _, hsm, [], .nil, Heap.DictOf.new s.heap⟩)
  have x1 : Ext ⟨F, H⟩ F (upd H s.heap.objs.size (.dK [])) := ⟨k.sub.trans (upd_sameOf hn), upd_sameOf hn, .refl _, fun _ z => .inl z⟩
  have hfa : F s.heap.objs.size = none := k.sub.free hn
  refine wpAny_bind (wpAny_holding ?_)
  rw [if_pos (by omega)]
  generalize s.heap.objs.size = a at hn hsm I1 x1 hfa ⊢
  refine wpAny_bind ?_
  refine pairTrees_cons_walk (thn (pe_str pins _ σ _ (fun v H2 => v = .str "xs" ∧ H2 = upd H a (.dK [])) I1 ⟨rfl, rfl⟩) fun u s1 ⟨v, H1, I2, rv, ev, eh⟩ => ?_)
  subst ev; subst eh
  obtain ⟨tk, rfl⟩ := (show ∃ t, u = Value.str "xs" t from rv)
  refine thn (h1 B F _ σ (fun v H2 => ∃ l vs F2, v = .ref l ∧ Ext ⟨F, upd H a (.dK [])⟩ F2 H2 ∧ upd H a (.dK []) l = none ∧ H2 l = some (.lst vs) ∧ F2 l = none ∧ RepL X.K F2 vs xs) (k.ext x1) (fun l vs F2 H2 x2 g1 g2 g3 g4 => ⟨l, vs, F2, rfl, x2, g1, g2, g3, g4⟩) pins s1 I2) fun u2 s2 ⟨v2, H2, I3, rv2, l, vs, F2, ev, x2, g1, g2, g3, g4⟩ => ?_
  subst ev
  cases (show u2 = Value.ref l from rv2)
  refine pairTrees_nil_walk ?_
  refine wpAny_holding (wpAny_bind ?_)
  have ha2 : H2 a = some (.dK []) := x2.sh _ _ upd_same
  obtain ⟨z, _, vs0, rel, dd⟩ := (show ObjOk X.prog X.w H2 s2.heap a (.dK []) from I3.hok a _ ha2)
  cases rel
  rw [List.forIn_cons]
  refine wpAny_bind (wpAny_bind (wpAny_dictSet_pairs (knd := mixKind X.prog X.w) (k := Sum.inr "xs") (key_xs (tk := tk)) dd (fun h' dd' sb => ?_) (Nat.zero_le _)))
  refine wpAny_pure ?_
  show wpAny _ _ (forIn [] PUnit.unit _) _ _ _
  rw [List.forIn_nil]
  refine wpAny_pure (wpAny_pure ?_)
  have hst : stored (K := Key) [] (Sum.inr (Str.ofString "xs")) (Value.ref l) = [((Sum.inr (Str.ofString "xs") : Key), Value.ref l)] := rfl
  rw [hst] at dd'
  have I4 : Inv X pins σ (upd H2 a (.dK [(Sum.inr "xs", .ref l)])) { s2 with heap := h', toks := s2.toks + 1 } := I3.write (x := a) (e := a) (by rw [ha2]; exact True.intro) (.inl rfl) (fun c q hc w => (sb.2 c hc).trans w) (let ⟨o, _, _, h1, _⟩ := dd'; ⟨o, h1⟩)
    (show ObjOk X.prog X.w _ _ a (.dK [(Sum.inr "xs", .ref l)]) from ⟨by show 1 ≤ sizeLine; rw [sizeLine_eq]; decide, hsm, [((Sum.inr (Str.ofString "xs") : Key), Value.ref l)], .cons ⟨rfl, rfl⟩ .nil, dd'⟩)
  refine wpAny_pure (wpAny_pure ⟨.ref a, _, I4, rfl, ?_⟩)
  have hf2 : F2 a = none := by
    cases e : F2 a with
    | none => rfl
    | some o =>
      rcases x2.nw a (by rw [e]; exact Option.some_ne_none o) with w | w
      · exact absurd hfa w
      · have w' : upd H a (.dK []) a = none := w
        rw [upd_same] at w'; cases w'
  have x12 := x1.t x2
  have hla : l ≠ a := fun z => by subst z; rw [upd_same] at g1; cases g1
  have hl0 : H l = none := by rw [upd_ne hla] at g1; exact g1
  refine w a l vs (upd F2 a (.dK [(Sum.inr "xs", .ref l)])) _ ⟨upd_mono x12.sub, fun c u z => ?_, x12.sf.trans (upd_sameOf hf2), fun c z => ?_⟩ hl0 (by rw [upd_ne hla]; exact g2) (by rw [upd_ne hla]; exact g3) (g4.mono (upd_sameOf hf2)) (.stt upd_same)
  · have ne : c ≠ a := fun e => by subst e; have z' : H c = some u := z; rw [hn] at z'; cases z'
    rw [upd_ne ne]; exact x12.sh c u z
  · by_cases e : c = a
    · subst e; exact .inr hn
    · rw [upd_ne e] at z; exact x12.nw c z
/-- f({'xs': ..}, ..): the state is new -/
theorem ev_callS (t : At X N sc) {C : List D → List D → D → List D → Prop} {j : Nat} {p1 p2 : Pos} (h : CalleeS X x C) (h1 : EvN X ρ e xs) (ha : EvA X ρ es ds) (hC : C ds xs d xs') (hg : sc.names.lookup x = some .globalImplicit := by rfl) (hdb : (x == ("__debug__" : Str)) = false := by rfl) :
    EvE X ρ (.Call (.Name x p) (.Dict [some (.Constant (.str "xs") j p1)] [e] p2 :: es) [] pos) d := fun B F0 H σ Q k w => .mk fun pins s I => by
  obtain ⟨f, fd, ps, kk, F, hr', hm, hk, hb⟩ := h
  have pz : Passes CX0 X E0 := pass0
  have hpl : Pl (.Dict [some (.Constant (.str "xs") j p1)] [e] p2) := fun _ _ => rfl
  refine pe_call F hr' (gl_of t hg) hm hk hb .nil pz pa_w hdb (hpl _ _) (PlA.any ha.1) pins s σ H Q I ?_
  refine .mk fun pos' pins s I => ?_
  refine pa_cons (pe_w (e := .Dict [some (.Constant (.str "xs") j p1)] [e] p2)) (pa_w (es := es)) (hpl _ _) pos' pins s σ H _ I ?_
  refine st_new t h1 k fun a l vs F1 H1 x1 g0 g1 g2 g3 g4 => ha.2 B F1 H1 σ _ (k.ext x1) fun ws F2 H2 x2 r2 => ?_
  have hf2 : F2 l = none := x2.stays g1 g2
  refine ⟨l, F2, ds, d, vs, xs, xs', x2.sub, x2.sh _ _ g1, hf2, g3.mono x2.sf, by rw [List.append_nil]; exact .cons (g4.mono x2.sf) r2, hC, fun v F3 H3 u3 x3 r3 rv => w v F3 H3 ((x1.t x2).overNew g0 hf2 x3) rv⟩
end
end L2.EV

set_option linter.all false
set_option autoImplicit false
set_option maxRecDepth 100000
/-! Things of any kind: isinstance, cuts, what stands from the start, xs.extend. -/
namespace L2.EV
open PySem PySem.Spec PyProof.Rows
/-! ### what stands from the start, read as plain data -/
mutual
inductive GP (K : PySem.W.Frag) : Value → PyData → Prop where
  | int (i : Int) (t : Tok) : GP K (.int i t) (.int i)
  | str (x : Str) (t : Tok) : GP K (.str x t) (.str x)
  | tup {a : Addr} {o : Obj} {its : Array Value} {n : Nat} {ps : List PyData} : K.lookup a = some o → o.cls = .type "tuple" → o.data = .seq its n → GPs K its.toList ps → GP K (.ref a) (.tuple ps)
inductive GPs (K : PySem.W.Frag) : List Value → List PyData → Prop where
  | nil : GPs K [] []
  | cons {v : Value} {vs : List Value} {p : PyData} {ps : List PyData} : GP K v p → GPs K vs ps → GPs K (v :: vs) (p :: ps)
end
mutual
theorem GP.reads {K : PySem.W.Frag} {h : Heap} (i : K.In h) : ∀ {v : Value} {p : PyData}, GP K v p → ∃ as, Reads h v p as
  | _, _, .int i t => ⟨_, .int i t⟩
  | _, _, .str x t => ⟨_, .str x t⟩
  | _, _, .tup e c d r => by obtain ⟨as, ra⟩ := GPs.reads i r; exact ⟨_, .tuple (i _ _ e) c d ra⟩
theorem GPs.reads {K : PySem.W.Frag} {h : Heap} (i : K.In h) : ∀ {vs : List Value} {ps : List PyData}, GPs K vs ps → ∃ as, ReadsAll h vs ps as
  | _, _, .nil => ⟨_, .nil⟩
  | _, _, .cons a b => by obtain ⟨as, ra⟩ := GP.reads i a; obtain ⟨bs, rb⟩ := GPs.reads i b; exact ⟨_, .cons ra rb⟩
end
section
variable {X : Cx} {ρ : Rho} {e a b c : Expr} {d : D} {pos p : Pos} {N : List Str} {sc : Scope} {x y : Str} {xs ys ds : List D}
theorem ev_globP (t : At X N sc) {l : Addr} {q : PyData} (hm : X.mg x = some (.ref l)) (hk : GP X.K (.ref l) q) (hg : sc.names.lookup x = some .globalImplicit := by rfl) (hdb : (x == ("__debug__" : Str)) = false := by rfl) : EvP X ρ (.Name x pos) q := fun B F H σ Q k w => .mk fun pins s I =>
  pe_glob (v := .ref l) (gl_of t hg) hm rfl hdb pins s σ H Q I (w _ F H (.refl k.sub) fun hc H' s' pins σ s u I ru => by
    cases (show u = Value.ref l from ru)
    exact hk.reads I.kIn)
theorem et_inP (t : At X N sc) {q : PyData} {qs : List PyData} {r : Bool} (ha : EvP X ρ a q) (hb : EvP X ρ b (.tuple qs)) (sp : q.canLay0 = true) (sd : q.depth ≤ 62) (sq : PyData.canLayAll0 qs = true) (he : (qs.any fun y => PyData.eqv y q) = r)
    (hm : behindInMarks .In b = false := by rfl) : EvT X ρ (.Compare a [.In] [b] pos) r :=
  .of (pt_cmpR (rd_inT t sp sd sq) pe_w pe_w hm) fun B F H σ Q k q => twoP ha hb k fun x y F' H' x' rx ry => ⟨rx, ry, r, by rw [he], q F' H' x'⟩
theorem ev_inP (t : At X N sc) {q : PyData} {qs : List PyData} {r : Bool} (ha : EvP X ρ a q) (hb : EvP X ρ b (.tuple qs)) (sp : q.canLay0 = true) (sd : q.depth ≤ 62) (sq : PyData.canLayAll0 qs = true) (he : (qs.any fun y => PyData.eqv y q) = r)
    (hm : behindInMarks .In b = false := by rfl) : EvE X ρ (.Compare a [.In] [b] pos) (.bl r) :=
  .of (pe_cmpR (rd_inT t sp sd sq) pe_w pe_w hm) fun B F H σ Q k q => twoP ha hb k fun x y F' H' x' rx ry => ⟨rx, ry, by rw [he]; exact q _ F' H' x' (.bl r)⟩
theorem et_ninP (t : At X N sc) {q : PyData} {qs : List PyData} {r : Bool} (ha : EvP X ρ a q) (hb : EvP X ρ b (.tuple qs)) (sp : q.canLay0 = true) (sd : q.depth ≤ 62) (sq : PyData.canLayAll0 qs = true) (he : (!qs.any fun y => PyData.eqv y q) = r)
    (hm : behindInMarks .NotIn b = false := by rfl) : EvT X ρ (.Compare a [.NotIn] [b] pos) r :=
  .of (pt_cmpR (rd_ninT t sp sd sq) pe_w pe_w hm) fun B F H σ Q k q => twoP ha hb k fun x y F' H' x' rx ry => ⟨rx, ry, r, by rw [he], q F' H' x'⟩
theorem ev_ninP (t : At X N sc) {q : PyData} {qs : List PyData} {r : Bool} (ha : EvP X ρ a q) (hb : EvP X ρ b (.tuple qs)) (sp : q.canLay0 = true) (sd : q.depth ≤ 62) (sq : PyData.canLayAll0 qs = true) (he : (!qs.any fun y => PyData.eqv y q) = r)
    (hm : behindInMarks .NotIn b = false := by rfl) : EvE X ρ (.Compare a [.NotIn] [b] pos) (.bl r) :=
  .of (pe_cmpR (rd_ninT t sp sd sq) pe_w pe_w hm) fun B F H σ Q k q => twoP ha hb k fun x y F' H' x' rx ry => ⟨rx, ry, by rw [he]; exact q _ F' H' x' (.bl r)⟩
/-! ### isinstance -/
/-! ### a tuple's cut, the whole of it too -/
theorem ev_cutA {lo hi : Option Expr} {l h : Option Int} {p2 : Pos} (ha : EvE X ρ a (.tup xs)) (hl : EvO X ρ lo l) (hh : EvO X ρ hi h) : EvE X ρ (.Subscript a (.Slice lo hi none p2) pos) (.tup (cutD xs l h)) := by
  by_cases hw : HT.sIx xs.length 0 l = 0 ∧ HT.sIx xs.length xs.length h = xs.length
  · have e : cutD xs l h = xs := by unfold cutD; rw [hw.1, hw.2]; simp
    rw [e]; exact ev_cutW ha hl hh hw
  · exact ev_cutT ha.qt hl hh hw
/-- xs.extend(ys), of a list of one's own -/
theorem s_extend (t : At X N sc) (i : Nat) {apos cpos : Pos} {y : Str} (hr : ρ[i]? = some (.own xs)) (h : EvE X ρ e (.lst ys)) (hz : xs.length + ys.length ≤ sizeLine) (hN : N[i]? = some y := by rfl) (hv : VisS sc y = true := by rfl) (hx : NameOk y = true := by rfl)
    (hs : starEach [e] X.env = (false, eval e X.env) :: starEach [] X.env := by rfl) (hline : (apos.endLine == cpos.line) = true := by rfl) (hpl : (backTo cpos (starEach [] X.env)).any (·.1) = false := by rfl)
    (hfew : ((backTo cpos (starEach [e] X.env)).all (fun x => !x.1) && (backToKw cpos (keywordEach [] X.env)).all (fun x => x.1.isSome) && decide (([e] : List Expr).length + ([] : List Keyword).length + (if ([] : List Keyword).isEmpty then 0 else 1) < 30)) = true := by rfl)
    (hsw : swapsWith (.Call (.Attribute (.Name y p) "extend" apos) [e] [] cpos) none pos.line X.env = pure false := by rfl) :
    EvS X ρ (.Expr (.Call (.Attribute (.Name y p) "extend" apos) [e] [] cpos) pos) (.nx (ρ.set i (.own (xs ++ ys)))) :=
  .of (ps_expr (pe_bm PySem.F.plainAttrs_list PySem.F.slot_list_extend PySem.F.type_list_extend mt_extend pe_w (pa_cons pe_w pa_nil hs) rfl hfew hline hs hpl) hsw) fun B F H σ E k q =>
    own_wE t hr hN hv hx k fun l vs h1 h2 h3 => ⟨.inl ⟨rfl, _, SqL.of h2⟩, h B F H σ _ k fun v F' H' x' r => by
      cases r with
      | @lst b ws _ hf rl =>
      have k' := k.ext x'
      have h2' := x'.sh _ _ h2
      refine ⟨l, b, vs, ws, rfl, rfl, h2', x'.sub _ _ hf, by rw [h3.length, rl.length]; exact hz, ?_⟩
      exact q F' _ _ (k'.chgOwn (vs := vs) hr h1 ((h3.mono x'.sf).append rl)) x'.sf⟩
end
end L2.EV

set_option linter.all false
set_option autoImplicit false
set_option maxRecDepth 100000
/-! Tests put together, texts compared, loops by an invariant, items of written lists. -/
namespace L2.EV
open PySem PySem.Spec PyProof.Rows
section
variable {X : Cx} {ρ : Rho} {a b c e : Expr} {d : D} {pos p : Pos} {N : List Str} {sc : Scope} {x y : Str} {xs : List D}
theorem beq_dec {α : Type} [DecidableEq α] (u v : α) : (u == v) = decide (u = v) := by
  by_cases h : u = v
  · simp [h]
  · simp [h]
theorem dpt_str (w : Str) : (toP (.str w)).depth ≤ 62 := by simp [toP, PyData.depth]
theorem cl_str {w : Str} (h : PyData.strOk w = true) : (toP (.str w)).canLay0 = true := by simp [toP, PyData.canLay0, h]
theorem sh_str {w : Str} (h : PyData.strOk w = true) : SeqAt.shaped (toP (.str w)) = true := by
  show ((toP (.str w)).canLay0 && decide ((toP (.str w)).depth ≤ 64)) = true
  rw [decide_eq_true (by have := dpt_str w; omega), cl_str h]; rfl
theorem cl2 {u v : Str} (hu : PyData.strOk u = true) (hv : PyData.strOk v = true) : PyData.canLayAll0 [.str u, .str v] = true := by simp [PyData.canLayAll0, PyData.canLay0, hu, hv]
theorem et_eqS (t : At X N sc) {u v : Str} (ha : EvE X ρ a (.str u)) (hb : EvE X ρ b (.str v)) (hu : PyData.strOk u = true) (hv : PyData.strOk v = true := by decide +kernel) : EvT X ρ (.Compare a [.Eq] [b] pos) (decide (u = v)) :=
  et_eqP t ha.p hb.p (sh_str hu) (sh_str hv) (by show (u == v) = _; exact beq_dec u v)
theorem ev_eqS (t : At X N sc) {u v : Str} (ha : EvE X ρ a (.str u)) (hb : EvE X ρ b (.str v)) (hu : PyData.strOk u = true) (hv : PyData.strOk v = true := by decide +kernel) : EvE X ρ (.Compare a [.Eq] [b] pos) (.bl (decide (u = v))) :=
  ev_eqP t ha.p hb.p (sh_str hu) (sh_str hv) (by show (u == v) = _; exact beq_dec u v)
theorem any2 (u v w : Str) : ([PyData.str u, .str v].any fun y => PyData.eqv y (.str w)) = (decide (w = u) || decide (w = v)) := by
  show ((u == w) || ((v == w) || false)) = _
  rw [beq_dec, beq_dec, Bool.or_false, decide_eq_decide.mpr (eq_comm (a := u)), decide_eq_decide.mpr (eq_comm (a := v))]
/-- x in ('u', 'v') -/
theorem et_in2 (t : At X N sc) {u v w : Str} {k : Nat} {p1 p2 p3 : Pos} {i j : Nat} (ha : EvE X ρ a (.str w)) (hw : PyData.strOk w = true) (hu : PyData.strOk u = true := by decide +kernel) (hv : PyData.strOk v = true := by decide +kernel) : EvT X ρ (.Compare a [.In] [.Tuple [.Constant (.str u) i p1, .Constant (.str v) j p2] k p3] pos) (decide (w = u) || decide (w = v)) :=
  et_inT t (xs := [.str u, .str v]) ha (ev_tup (ea_cons ev_str (ea_cons ev_str ea_nil))) (cl_str hw) (dpt_str w) (cl2 hu hv) (any2 u v w)
/-- x in a global tuple of two texts -/
theorem et_inG (t : At X N sc) {u v w : Str} {l : Addr} (ha : EvE X ρ a (.str w)) (hm : X.mg x = some (.ref l)) (hk : GP X.K (.ref l) (.tuple [.str u, .str v])) (hw : PyData.strOk w = true) (hu : PyData.strOk u = true := by decide +kernel) (hv : PyData.strOk v = true := by decide +kernel) (hg : sc.names.lookup x = some .globalImplicit := by rfl) (hdb : (x == ("__debug__" : Str)) = false := by rfl) : EvT X ρ (.Compare a [.In] [.Name x p] pos) (decide (w = u) || decide (w = v)) :=
  et_inP t ha.p (ev_globP t hm hk hg hdb) (cl_str hw) (dpt_str w) (cl2 hu hv) (any2 u v w)
theorem ev_inG (t : At X N sc) {u v w : Str} {l : Addr} (ha : EvE X ρ a (.str w)) (hm : X.mg x = some (.ref l)) (hk : GP X.K (.ref l) (.tuple [.str u, .str v])) (hw : PyData.strOk w = true) (hu : PyData.strOk u = true := by decide +kernel) (hv : PyData.strOk v = true := by decide +kernel) (hg : sc.names.lookup x = some .globalImplicit := by rfl) (hdb : (x == ("__debug__" : Str)) = false := by rfl) : EvE X ρ (.Compare a [.In] [.Name x p] pos) (.bl (decide (w = u) || decide (w = v))) :=
  ev_inP t ha.p (ev_globP t hm hk hg hdb) (cl_str hw) (dpt_str w) (cl2 hu hv) (any2 u v w)
theorem at_nth {xs : List D} (n : Nat) (h : xs[n]? = some d) : atI xs (n : Int) = some d := by
  unfold atI
  have hn : n < xs.length := (List.getElem?_eq_some_iff.mp h).1
  rw [ix_nat (j := n) (by omega) (by omega) hn]; exact h
/-- t[k] of a tuple, k written -/
theorem ev_nth {i : Int} (n : Nat) (ha : EvE X ρ a (.tup xs)) (hb : EvE X ρ b (.int i)) (hi : i = (n : Int)) (h : xs[n]? = some d) (hs : PlainIx b := by intro _ _; rfl) : EvE X ρ (.Subscript a b pos) d :=
  ev_ix ha.qt hb (by subst hi; exact at_nth n h) hs
end
section
variable {X : Cx} {ρ : Rho} {a b c e : Expr} {d : D} {pos p : Pos} {N : List Str} {sc : Scope} {u v w : Bool} {body rest els : List Stmt} {o : Out}
theorem ev_and2 (ha : EvE X ρ a (.bl u)) (hb : u = true → EvE X ρ b (.bl v)) : EvE X ρ (.BoolOp .And [a, b] pos) (.bl (u && v)) := by
  cases u with
  | true => exact ev_andT ha (ev_one (hb rfl))
  | false => exact ev_andF ha
theorem ev_or2 (ha : EvE X ρ a (.bl u)) (hb : u = false → EvE X ρ b (.bl v)) : EvE X ρ (.BoolOp .Or [a, b] pos) (.bl (u || v)) := by
  cases u with
  | true => exact ev_orT ha
  | false => exact ev_orF ha (ev_one (hb rfl))
theorem et_or2 (ha : EvT X ρ a u) (hb : u = false → EvT X ρ b v) : EvT X ρ (.BoolOp .Or [a, b] pos) (u || v) := by
  cases u with
  | true => exact EvW.toT (ew_orT ha)
  | false => exact EvW.toT (ew_orF ha (ew_or1 (hb rfl)))
theorem et_and2 (ha : EvT X ρ a u) (hb : u = true → EvT X ρ b v) : EvT X ρ (.BoolOp .And [a, b] pos) (u && v) := by
  cases u with
  | true => exact EvW.toT (ew_andT ha (ew_and1 (hb rfl)))
  | false => exact EvW.toT (ew_andF ha)
/-- if c: return .. -/
theorem es_if (hc : EvT X ρ c u) (h1 : u = true → EvSs X ρ body (.rt d)) (h2 : u = false → EvSs X ρ rest (.rt d)) : EvSs X ρ (.If c body [] pos :: rest) (.rt d) := by
  cases u with
  | true => exact es_ret (s_ifT hc (h1 rfl))
  | false => exact es_cons (s_ifF hc es_nil) (h2 rfl)
end
theorem all_map (g : D → Bool) (xs : List D) : (xs.map g).all id = xs.all g := by rw [List.all_map]; rfl
/-- a while by what holds of a state ahead of each turn, and a number that falls -/
theorem WRun.scan {X : Cx} {c : Expr} {body : List Stmt} {d0 : D} {σ : Type} (R : σ → Rho) (I F : σ → Prop) (μ : σ → Nat) (st : ∀ s, I s → (EvT X (R s) c false ∧ F s) ∨ (EvT X (R s) c true ∧ (EvSs X (R s) body (.rt d0) ∨ ∃ s', EvSs X (R s) body (.nx (R s')) ∧ I s' ∧ μ s' < μ s))) : ∀ (n : Nat) (s : σ), μ s ≤ n → I s → ∃ m o, WRun X c body m (R s) o ∧ (o = .rt d0 ∨ ∃ s', o = .nx (R s') ∧ F s')
  | n, s, hn, hI => by
    rcases st s hI with ⟨h1, h2⟩ | ⟨h1, h2 | ⟨s', h2, h3, h4⟩⟩
    · exact ⟨0, _, .stop h1, .inr ⟨s, rfl, h2⟩⟩
    · exact ⟨0, _, .ret h1 h2, .inl rfl⟩
    · cases n with
      | zero => omega
      | succ n =>
        obtain ⟨m, o, hr, ho⟩ := WRun.scan R I F μ st n s' (by omega) h3
        exact ⟨m + 1, o, .step h1 h2 hr, ho⟩
theorem es_whileS {X : Cx} {N : List Str} {sc : Scope} {c : Expr} {body rest : List Stmt} {pos : Pos} {d0 : D} {σ : Type} (t : At X N sc) (R : σ → Rho) (I F : σ → Prop) (μ : σ → Nat) (s0 : σ) (h0 : I s0) (st : ∀ s, I s → (EvT X (R s) c false ∧ F s) ∨ (EvT X (R s) c true ∧ (EvSs X (R s) body (.rt d0) ∨ ∃ s', EvSs X (R s) body (.nx (R s')) ∧ I s' ∧ μ s' < μ s)))
    (fin : ∀ s, F s → EvSs X (R s) rest (.rt d0)) : EvSs X (R s0) (.While c body [] pos :: rest) (.rt d0) := by
  obtain ⟨m, o, hr, ho⟩ := WRun.scan (X := X) (c := c) (body := body) (d0 := d0) R I F μ st (μ s0) s0 (Nat.le_refl _) h0
  have run := s_while (pos := pos) t ⟨m, hr⟩
  rcases ho with rfl | ⟨s', rfl, hf⟩
  · exact es_ret run
  · exact es_cons run (fin s' hf)
/-- a tuple that stands from the start under a name -/
def Glb (mg : Str → Option Value) (K : PySem.W.Frag) (x : Str) (q : PyData) : Prop := ∃ l, mg x = some (.ref l) ∧ GP K (.ref l) q
theorem cut1 (d : D) (xs : List D) : L2.EV.cutD (d :: xs) (some 1) none = xs := by
  unfold L2.EV.cutD
  have e1 : HT.sIx (d :: xs).length 0 (some 1) = 1 := by unfold HT.sIx; simp; try omega
  have e2 : HT.sIx (d :: xs).length (d :: xs).length none = (d :: xs).length := rfl
  rw [e1, e2]; simp
theorem intsI (ns : List Int) : ns = [] ∨ ∃ m i, ns = m ++ [i] := by
  cases h : ns.getLast? with
  | none => exact .inl (List.getLast?_eq_none_iff.mp h)
  | some y => obtain ⟨ys, e⟩ := List.getLast?_eq_some_iff.mp h; exact .inr ⟨ys, y, e⟩
/-- an item of a written list, by a rest -/
theorem at_mod {xs : List D} {i : Int} {m : Nat} (hm : (m : Int) = (xs.length : Int)) (h0 : 0 < m) (d0 : D) : atI xs (i % (m : Int)) = some (xs.getD (i % (m : Int)).toNat d0) := by
  have h1 : 0 ≤ i % (m : Int) := Int.emod_nonneg _ (by omega)
  have h2 : i % (m : Int) < (m : Int) := Int.emod_lt_of_pos _ (by omega)
  have h3 : (i % (m : Int)).toNat < xs.length := by omega
  unfold atI
  rw [ix_nat (j := (i % (m : Int)).toNat) h1 rfl h3, List.getD_eq_getElem?_getD]
  show xs[_]? = _
  rw [List.getElem?_eq_getElem h3]; rfl
theorem at2 {a b : D} {i : Int} : atI [a, b] (i % 2) = some (if i % 2 = 0 then a else b) := by
  have h : i % 2 = 0 ∨ i % 2 = 1 := by omega
  rcases h with e | e <;> rw [e] <;> rfl
theorem cutFrom {xs : List D} {n : Nat} : L2.EV.cutD xs (some (n : Int)) none = xs.drop n := by
  unfold L2.EV.cutD
  rw [HT.sIx_none, HT.sIx_nat]
  by_cases h : n ≤ xs.length
  · rw [Nat.min_eq_left h]; rw [← List.length_drop, List.take_length]
  · rw [Nat.min_eq_right (by omega), List.drop_eq_nil_of_le (Nat.le_refl _), List.drop_eq_nil_of_le (by omega)]; simp
end L2.EV

set_option linter.all false
set_option autoImplicit false
set_option maxRecDepth 100000
/-! A global tuple handed on; 'xy'.index(z); a tuple taken once or not at all. -/
namespace L2.EV
open PySem PySem.Spec PyProof.Rows
section
variable {X : Cx} {ρ : Rho} {e a b c : Expr} {d : D} {pos p : Pos} {N : List Str} {sc : Scope} {x y : Str} {xs ys ds : List D}
theorem ev_globA (t : At X N sc) {l : Addr} (hm : X.mg x = some (.ref l)) (hg : sc.names.lookup x = some .globalImplicit := by rfl) (hdb : (x == ("__debug__" : Str)) = false := by rfl) : EvE X ρ (.Name x pos) (.adr l) :=
  .of (pe_glob (v := .ref l) (gl_of t hg) hm rfl hdb) fun B F H σ Q k w => w _ F H (.refl k.sub) (.adr l)
theorem EvE.adrP {l : Addr} {q : PyData} (h : EvE X ρ e (.adr l)) (g : GP X.K (.ref l) q) : EvP X ρ e q := fun B F H σ Q k w => h B F H σ Q k fun v F' H' x' r => w v F' H' x' fun hc H2 s2 pins σ s u I ru => by
  cases r
  cases (show u = Value.ref l from ru)
  exact g.reads I.kIn
/-! ### z.index(y) -/
theorem mt_index : MtR X "str.index" (fun v vs H Q => ∃ (z w : Str) (i : Nat) (rest : List Nat), v = .str z ∧ vs = [.str w] ∧ Builtin.Str.occurrences z w 0 z.length 1 = i :: rest ∧ Q (.int i) H) := by
  intro pins s σ H v vs u us Q I rv rvs h
  obtain ⟨z, w, i, rest, rfl, rfl, ho, q⟩ := h
  obtain ⟨t, rfl⟩ := rv
  obtain ⟨u2, rfl, ⟨t2, rfl⟩⟩ := vals1 rvs
  exact call_gives PySem.F.slot_str_index (typeIs_str _ _ _) PySem.F.entry_str_index (PySem.F.args_str_index_2 _ _) (gives_str_index z w t t2 i rest ho) ⟨.int i, H, I.tok _, ⟨_, rfl⟩, q⟩
theorem ev_index {z w : Str} {i : Nat} {rest : List Nat} {apos cpos : Pos} (ho : EvE X ρ a (.str z)) (ha : EvE X ρ e (.str w)) (hi : Builtin.Str.occurrences z w 0 z.length 1 = i :: rest) (hs : Pl e := by intro _ _; rfl)
    (hbase : attributeBase a "index" X.env (eval a X.env) = eval a X.env := by rfl)
    (hfew : ((backTo cpos (starEach [e] X.env)).all (fun x => !x.1) && (backToKw cpos (keywordEach [] X.env)).all (fun x => x.1.isSome) && decide (([e] : List Expr).length + ([] : List Keyword).length + (if ([] : List Keyword).isEmpty then 0 else 1) < 30)) = true := by rfl) (hline : (apos.endLine == cpos.line) = true := by rfl) :
    EvE X ρ (.Call (.Attribute a "index" apos) [e] [] cpos) (.int i) :=
  .of (pe_bm PySem.F.plainAttrs_str PySem.F.slot_str_index PySem.F.type_str_index mt_index pe_w (pa_cons pe_w pa_nil (hs _ _)) hbase hfew hline (hs _ _) rfl) fun B F H σ Q k q =>
    ho B F H σ _ k fun v F1 H1 x1 r1 => by
      cases r1
      refine ⟨rfl, ha B F1 H1 σ _ (k.ext x1) fun v2 F2 H2 x2 r2 => ?_⟩
      · cases r2
        exact ⟨z, w, i, rest, rfl, rfl, hi, q _ F2 H2 (x1.t x2) (.int _)⟩
end
/-! ### (a,) * n -/
theorem noFill_tuple_mul : fillsNumberSlot (.type "tuple") "mul" = pure false :=
  PySem.fillsNumberSlot_seq (id := "tuple.__mul__") (r := some (.builtin "tuple.__rmul__")) PySem.F.slot_tuple_mul.lookup (by decide +kernel) PySem.F.slot_tuple_rmul.lookup (by decide +kernel)
theorem repeat_tuple : seqRepeat? (.type "tuple") = pure (some (.builtin "tuple.__mul__")) := by
  unfold seqRepeat?
  rw [PySem.seqSlot_of (T := "tuple") (name := "__mul__") (id := "tuple.__mul__") PySem.F.slot_tuple_mul.lookup (by decide +kernel), PySem.seqSlot_of (T := "tuple") (name := "__rmul__") (id := "tuple.__rmul__") PySem.F.slot_tuple_rmul.lookup (by decide +kernel)]
  rfl
theorem rmul_tuple (a : Int) (t : Tok) (l : Addr) (dct : Option Addr) (items : Array Value) (n : Nat) (sl : Array (Option Value)) :
    Meets (Builtin.«int.__rmul__» ⟨[.int a t, .ref l], []⟩) (fun _ R s => s.heap.get? l = some { cls := .type "tuple", dict := dct, data := .seq items n, slots := sl } ∧ R (.ok (.ret Value.notImplemented)) s) :=
  .of_wp fun prog w A R s h => by obtain ⟨hp, g, d, tk, os⟩ := s; obtain ⟨hl, h⟩ := h; wp_walk; exact ⟨_, rfl, h⟩
theorem mul_tuple1 (t : Tok) (l : Addr) (dct : Option Addr) (v : Value) (n : Nat) (sl : Array (Option Value)) :
    Meets (Builtin.«tuple.__mul__» ⟨[.ref l, .int 1 t], []⟩) (fun _ R s => s.heap.get? l = some { cls := .type "tuple", dict := dct, data := .seq #[v] n, slots := sl } ∧ R (.ok (.ret (.ref l))) s) :=
  .of_wp fun prog w A R s h => by obtain ⟨hp, g, d, tk, os⟩ := s; obtain ⟨hl, h⟩ := h; wp_walk; exact ⟨_, rfl, h⟩
theorem mul_tuple0 (t : Tok) (l : Addr) (dct : Option Addr) (v : Value) (n : Nat) (sl : Array (Option Value)) :
    Meets (Builtin.«tuple.__mul__» ⟨[.ref l, .int 0 t], []⟩) (fun _ R s => s.heap.get? l = some { cls := .type "tuple", dict := dct, data := .seq #[v] n, slots := sl } ∧ R (.ok (.ret (.ref s.heap.objs.size))) { s with heap := s.heap.push { cls := .type "tuple", data := .seq #[] } }) :=
  .of_wp fun prog w A R s h => by obtain ⟨hp, g, d, tk, os⟩ := s; obtain ⟨hl, h⟩ := h; wp_walk; exact ⟨_, rfl, h⟩
section
variable {X : Cx} {ρ : Rho} {a b : Expr} {d : D} {pos : Pos}
theorem op_once : OpR X (binaryOp .Mult) (fun x y H Q => ∃ l v k, x = .ref l ∧ y = .int k ∧ SqT X.K H l [v] ∧ ((k = 1 ∧ Q (.ref l) H) ∨ (k = 0 ∧ ∀ p, H p = none → Q (.ref p) (upd H p (.tup []))))) := by
  intro pins s σ H x y v u Q I rx ry h
  obtain ⟨l, v0, k, rfl, rfl, hl, h⟩ := h
  cases (show v = Value.ref l from rx)
  obtain ⟨t, rfl⟩ := (show ∃ t, u = Value.int k t from ry)
  obtain ⟨its, rv, ⟨o, e, c, n, dt⟩, _⟩ := I.tuple hl
  obtain ⟨w, rfl, rw'⟩ := vals1 rv
  obtain ⟨cl, di, da, sl⟩ := o
  cases (show cl = _ from c)
  cases (show da = _ from dt)
  have T : s.TypeIs (.ref l) "tuple" := ⟨_, e, rfl⟩
  refine wpAny_binaryOp_repeat_ref (T := "tuple") (U := "int") (by decide) T (fun s' => typeIs_int s' k t) noFill_tuple_mul PySem.F.fills_int_mul PySem.F.slot_int_rmul repeat_tuple PySem.F.slot_int_index.lookup
    (call_meets PySem.F.slot_int_rmul (typeIs_int s k t) PySem.F.entry_int_rmul (PySem.F.args_int_rmul_2 _ _) (rmul_tuple k t l di #[w] n sl) ⟨e, rfl, T, ?_⟩)
  rcases h with ⟨rfl, q⟩ | ⟨rfl, q⟩
  · exact call_meets PySem.F.slot_tuple_mul T PySem.F.entry_tuple_mul (PySem.F.args_tuple_mul_2 _ _) (mul_tuple1 t l di w n sl) ⟨e, .ref l, H, I, rfl, q⟩
  · refine call_meets PySem.F.slot_tuple_mul T PySem.F.entry_tuple_mul (PySem.F.args_tuple_mul_2 _ _) (mul_tuple0 t l di w n sl) ⟨e, .ref s.heap.objs.size, upd H s.heap.objs.size (.tup []), ?_, rfl, q _ (I.hok.fresh (Nat.le_refl _))⟩
    exact I.laid (t' := s.toks) (fun b o e => Heap.get?_push_of_some _ e) (Nat.le_refl _) ⟨Nat.zero_le _, [], .nil, ⟨_, Heap.get?_push_size _ rfl, rfl, _, rfl⟩⟩
/-- (a,) * n, n being 0 or 1 -/
theorem ev_once {k : Int} {ys : List D} (ha : EvE X ρ a (.tup [d])) (hb : EvE X ρ b (.int k)) (hk : (k = 1 ∧ ys = [d]) ∨ (k = 0 ∧ ys = [])) : EvE X ρ (.BinOp a .Mult b pos) (.tup ys) :=
  .of (pe_op op_once pe_w pe_w) fun B F H σ Q kk q => two ha hb kk fun x y F' H' x' rx ry => by
    cases ry
    cases rx with
    | @tup l vs _ hf rl =>
      obtain ⟨v, rfl, rv⟩ := rl.one
      refine ⟨l, v, k, rfl, rfl, SqT.of (x'.sub _ _ hf), ?_⟩
      rcases hk with ⟨rfl, rfl⟩ | ⟨rfl, rfl⟩
      · exact .inl ⟨rfl, q _ F' H' x' (.tup hf (.cons rv .nil))⟩
      · exact .inr ⟨rfl, fun p hp => q _ _ _ (x'.grow hp) (.tup upd_same .nil)⟩
end
end L2.EV

set_option linter.all false
set_option autoImplicit false
set_option maxRecDepth 100000
set_option maxHeartbeats 4000000
namespace My
open PySem L2 L2.EV
def top (i : Nat) : Stmt := PySem.Challenge.pw_planestacks_k33_kinds_of_sayings.main.body.getD i (.Pass ⟨0, 0, 0, 0⟩)
abbrev s_length_of_rows : Stmt := top 1
abbrev N_length_of_rows : List Str := ["f"]
theorem sc_length_of_rows : FnScope N_length_of_rows ["f"] (defScope s_length_of_rows) := ⟨rfl, rfl, rfl, by decide +kernel, rfl, by decide +kernel, by decide +kernel⟩
abbrev s_letter_stands : Stmt := top 2
abbrev N_letter_stands : List Str := ["letter", "f"]
theorem sc_letter_stands : FnScope N_letter_stands ["letter", "f"] (defScope s_letter_stands) := ⟨rfl, rfl, rfl, by decide +kernel, rfl, by decide +kernel, by decide +kernel⟩
abbrev s_told_anew : Stmt := top 4
abbrev N_told_anew : List Str := ["thing"]
theorem sc_told_anew : FnScope N_told_anew ["thing"] (defScope s_told_anew) := ⟨rfl, rfl, rfl, by decide +kernel, rfl, by decide +kernel, by decide +kernel⟩
abbrev s_sayings_in : Stmt := top 7
abbrev N_sayings_in : List Str := ["S"]
theorem sc_sayings_in : FnScope N_sayings_in ["S"] (defScope s_sayings_in) := ⟨rfl, rfl, rfl, by decide +kernel, rfl, by decide +kernel, by decide +kernel⟩
abbrev s_parts_of : Stmt := top 8
abbrev N_parts_of : List Str := ["S", "stops", "parts", "waiting", "part"]
theorem sc_parts_of : FnScope N_parts_of ["S", "stops"] (defScope s_parts_of) := ⟨rfl, rfl, rfl, by decide +kernel, rfl, by decide +kernel, by decide +kernel⟩
abbrev s_boards_of : Stmt := top 9
abbrev N_boards_of : List Str := ["S", "boards", "part"]
theorem sc_boards_of : FnScope N_boards_of ["S"] (defScope s_boards_of) := ⟨rfl, rfl, rfl, by decide +kernel, rfl, by decide +kernel, by decide +kernel⟩
abbrev s_is_plain : Stmt := top 10
abbrev N_is_plain : List Str := ["S"]
theorem sc_is_plain : FnScope N_is_plain ["S"] (defScope s_is_plain) := ⟨rfl, rfl, rfl, by decide +kernel, rfl, by decide +kernel, by decide +kernel⟩
abbrev s_fits_over : Stmt := top 11
abbrev N_fits_over : List Str := ["part", "other"]
theorem sc_fits_over : FnScope N_fits_over ["part", "other"] (defScope s_fits_over) := ⟨rfl, rfl, rfl, by decide +kernel, rfl, by decide +kernel, by decide +kernel⟩
abbrev s_is_over : Stmt := top 12
abbrev N_is_over : List Str := ["S", "letter", "other"]
theorem sc_is_over : FnScope N_is_over ["S", "letter"] (defScope s_is_over) := ⟨rfl, rfl, rfl, by decide +kernel, rfl, by decide +kernel, by decide +kernel⟩
abbrev s_fits_closed : Stmt := top 13
abbrev N_fits_closed : List Str := ["part"]
theorem sc_fits_closed : FnScope N_fits_closed ["part"] (defScope s_fits_closed) := ⟨rfl, rfl, rfl, by decide +kernel, rfl, by decide +kernel, by decide +kernel⟩
abbrev s_is_closed : Stmt := top 14
abbrev N_is_closed : List Str := ["S"]
theorem sc_is_closed : FnScope N_is_closed ["S"] (defScope s_is_closed) := ⟨rfl, rfl, rfl, by decide +kernel, rfl, by decide +kernel, by decide +kernel⟩
abbrev s__law_cell : Stmt := top 16
abbrev N__law_cell : List Str := ["_law_script", "_law_k", "_law_state", "_law_cell_here"]
theorem sc__law_cell : FnScope N__law_cell ["_law_script", "_law_k"] (defScope s__law_cell) := ⟨rfl, rfl, rfl, by decide +kernel, rfl, by decide +kernel, by decide +kernel⟩
abbrev s__law_numbers : Stmt := top 17
abbrev N__law_numbers : List Str := ["_law_cell_here", "_law_many", "_law_found", "_law_state", "_law_digits", "_law_k"]
theorem sc__law_numbers : FnScope N__law_numbers ["_law_cell_here", "_law_many"] (defScope s__law_numbers) := ⟨rfl, rfl, rfl, by decide +kernel, rfl, by decide +kernel, by decide +kernel⟩
abbrev s__law_trim : Stmt := top 18
abbrev N__law_trim : List Str := ["_law_parts_here", "_law_found"]
theorem sc__law_trim : FnScope N__law_trim ["_law_parts_here"] (defScope s__law_trim) := ⟨rfl, rfl, rfl, by decide +kernel, rfl, by decide +kernel, by decide +kernel⟩
abbrev s__law_board_of : Stmt := top 19
abbrev N__law_board_of : List Str := ["_law_parts_here", "_law_rows", "_law_k"]
theorem sc__law_board_of : FnScope N__law_board_of ["_law_parts_here"] (defScope s__law_board_of) := ⟨rfl, rfl, rfl, by decide +kernel, rfl, by decide +kernel, by decide +kernel⟩
abbrev s__law_parts : Stmt := top 20
abbrev N__law_parts : List Str := ["_law_board_here", "_law_found", "_law_k", "_law_i"]
theorem sc__law_parts : FnScope N__law_parts ["_law_board_here"] (defScope s__law_parts) := ⟨rfl, rfl, rfl, by decide +kernel, rfl, by decide +kernel, by decide +kernel⟩
abbrev s__law_product : Stmt := top 21
abbrev N__law_product : List Str := ["_law_one", "_law_other", "_law_found", "_law_i", "_law_k", "_law_j", "_law_m"]
theorem sc__law_product : FnScope N__law_product ["_law_one", "_law_other"] (defScope s__law_product) := ⟨rfl, rfl, rfl, by decide +kernel, rfl, by decide +kernel, by decide +kernel⟩
abbrev s__law_line : Stmt := top 22
abbrev N__law_line : List Str := ["_law_xs"]
theorem sc__law_line : FnScope N__law_line ["_law_xs"] (defScope s__law_line) := ⟨rfl, rfl, rfl, by decide +kernel, rfl, by decide +kernel, by decide +kernel⟩
abbrev s__law_conic : Stmt := top 23
abbrev N__law_conic : List Str := ["_law_xs", "_law_size", "_law_found", "_law_spots", "_law_k"]
theorem sc__law_conic : FnScope N__law_conic ["_law_xs"] (defScope s__law_conic) := ⟨rfl, rfl, rfl, by decide +kernel, rfl, by decide +kernel, by decide +kernel⟩
abbrev s__law_board : Stmt := top 24
abbrev N__law_board : List Str := ["_law_cell_here", "_law_xs", "_law_way"]
theorem sc__law_board : FnScope N__law_board ["_law_cell_here"] (defScope s__law_board) := ⟨rfl, rfl, rfl, by decide +kernel, rfl, by decide +kernel, by decide +kernel⟩
abbrev s__law_pick : Stmt := top 25
abbrev N__law_pick : List Str := ["_law_state"]
theorem sc__law_pick : FnScope N__law_pick ["_law_state"] (defScope s__law_pick) := ⟨rfl, rfl, rfl, by decide +kernel, rfl, by decide +kernel, by decide +kernel⟩
abbrev s__law_is : Stmt := top 26
abbrev N__law_is : List Str := ["_law_state", "_law_boards_here", "_law_x", "_law_signs"]
theorem sc__law_is : FnScope N__law_is ["_law_state", "_law_boards_here"] (defScope s__law_is) := ⟨rfl, rfl, rfl, by decide +kernel, rfl, by decide +kernel, by decide +kernel⟩
abbrev s__law_said : Stmt := top 27
abbrev N__law_said : List Str := ["_law_state", "_law_boards_here", "_law_deep", "_law_x", "_law_one"]
theorem sc__law_said : FnScope N__law_said ["_law_state", "_law_boards_here", "_law_deep"] (defScope s__law_said) := ⟨rfl, rfl, rfl, by decide +kernel, rfl, by decide +kernel, by decide +kernel⟩
abbrev s__law_kind_board : Stmt := top 28
abbrev N__law_kind_board : List Str := ["_law_cell_here", "_law_way", "_law_parts_here", "_law_found", "_law_i", "_law_k"]
theorem sc__law_kind_board : FnScope N__law_kind_board ["_law_cell_here", "_law_way"] (defScope s__law_kind_board) := ⟨rfl, rfl, rfl, by decide +kernel, rfl, by decide +kernel, by decide +kernel⟩
abbrev s__law_some_boards : Stmt := top 29
abbrev N__law_some_boards : List Str := ["_law_script", "_law_at", "_law_many", "_law_found", "_law_k", "_law_cell_here"]
theorem sc__law_some_boards : FnScope N__law_some_boards ["_law_script", "_law_at", "_law_many"] (defScope s__law_some_boards) := ⟨rfl, rfl, rfl, by decide +kernel, rfl, by decide +kernel, by decide +kernel⟩
abbrev s__law_boards : Stmt := top 30
abbrev N__law_boards : List Str := ["_law_saying", "_law_found", "_law_part"]
theorem sc__law_boards : FnScope N__law_boards ["_law_saying"] (defScope s__law_boards) := ⟨rfl, rfl, rfl, by decide +kernel, rfl, by decide +kernel, by decide +kernel⟩
abbrev s__law_has : Stmt := top 31
abbrev N__law_has : List Str := ["_law_board_here", "_law_letter", "_law_spots"]
theorem sc__law_has : FnScope N__law_has ["_law_board_here", "_law_letter"] (defScope s__law_has) := ⟨rfl, rfl, rfl, by decide +kernel, rfl, by decide +kernel, by decide +kernel⟩
abbrev s__law_plain : Stmt := top 32
abbrev N__law_plain : List Str := ["_law_saying"]
theorem sc__law_plain : FnScope N__law_plain ["_law_saying"] (defScope s__law_plain) := ⟨rfl, rfl, rfl, by decide +kernel, rfl, by decide +kernel, by decide +kernel⟩
abbrev s__law_over : Stmt := top 33
abbrev N__law_over : List Str := ["_law_saying", "_law_letter", "_law_other"]
theorem sc__law_over : FnScope N__law_over ["_law_saying", "_law_letter"] (defScope s__law_over) := ⟨rfl, rfl, rfl, by decide +kernel, rfl, by decide +kernel, by decide +kernel⟩
abbrev s__law_closed : Stmt := top 34
abbrev N__law_closed : List Str := ["_law_saying"]
theorem sc__law_closed : FnScope N__law_closed ["_law_saying"] (defScope s__law_closed) := ⟨rfl, rfl, rfl, by decide +kernel, rfl, by decide +kernel, by decide +kernel⟩
abbrev s__law_kind : Stmt := top 35
abbrev N__law_kind : List Str := ["_law_state", "_law_boards_here", "_law_way", "_law_x", "_law_letter", "_law_one", "_law_plain_here", "_law_other", "_law_some"]
theorem sc__law_kind : FnScope N__law_kind ["_law_state", "_law_boards_here", "_law_way"] (defScope s__law_kind) := ⟨rfl, rfl, rfl, by decide +kernel, rfl, by decide +kernel, by decide +kernel⟩
abbrev s__law_wide : Stmt := top 36
abbrev N__law_wide : List Str := ["_law_xs", "_law_found", "_law_k", "_law_x", "_law_spots", "_law_signs", "_law_one", "_law_word"]
theorem sc__law_wide : FnScope N__law_wide ["_law_xs"] (defScope s__law_wide) := ⟨rfl, rfl, rfl, by decide +kernel, rfl, by decide +kernel, by decide +kernel⟩
abbrev s__law_right : Stmt := top 37
abbrev N__law_right : List Str := ["_law_saying", "_law_told", "_law_found", "_law_due"]
theorem sc__law_right : FnScope N__law_right ["_law_saying"] (defScope s__law_right) := ⟨rfl, rfl, rfl, by decide +kernel, rfl, by decide +kernel, by decide +kernel⟩
abbrev s_law : Stmt := top 38
abbrev N_law : List Str := ["_law_script", "_law_many", "_law_boards_here", "_law_cell_here", "_law_xs", "_law_saying", "_law_one"]
theorem sc_law : FnScope N_law ["_law_script"] (defScope s_law) := ⟨rfl, rfl, rfl, by decide +kernel, rfl, by decide +kernel, by decide +kernel⟩
theorem small {n : Nat} (h : n < 1000) : n < sizeLine := Nat.lt_trans h (by decide)
theorem take_snoc {α : Type} {xs : List α} {i : Nat} {x : α} (h : xs[i]? = some x) : xs.take (i + 1) = xs.take i ++ [x] := by
  rw [List.take_add_one, h]; rfl
def cellGo (s : Int) (xs : List Int) : Int := xs.foldl (fun s x => (s * 69621 + x) % 2147483647) s
def cellF (ns : List Int) (j : Int) : Int := if j < ns.length then ns.getD j.toNat 0 else cellGo (48271 * (j * j + 7 * j + 11) % 2147483647) (cutI ns none (some 3))
def C__law_cell (ds : List D) (d : D) : Prop := ∃ (ns : List Int) (j : Int), ds = [.scr ns, .int j] ∧ 0 ≤ j ∧ j < 1000 ∧ d = .int (cellF ns j)
theorem len__law_cell : ∀ ds d, C__law_cell ds d → ds.length = 2 := by rintro _ _ ⟨a, b, rfl, _⟩; rfl
def stF (s0 : Int) : Nat → Int
  | 0 => s0
  | i + 1 => (stF s0 i * (stF s0 i % 65521 + 40487) + 7 * (i : Int) + 5) % 1999999973
def dgF (d0 : Int) : Nat → Int
  | 0 => d0
  | i + 1 => dgF d0 i / 1000000
def itF (s0 d0 : Int) (i : Nat) : Int := if dgF d0 i > 0 then dgF d0 i % 1000000 else stF s0 (i + 1)
def seedF (c : Int) : Int := (c % 1999999973 + 31) * 765432101 % 1999999973
def digF (c : Int) : Int := if c < 0 ∨ c ≥ 10 ^ 18 then c.natAbs else 0
def numsF (c : Int) (n : Nat) : List Int := (List.range n).map (itF (seedF c) (digF c))
theorem numsF_len (c : Int) (n : Nat) : (numsF c n).length = n := by simp [numsF]
def C__law_numbers (ds : List D) (d : D) : Prop := ∃ (c : Int) (n : Nat), ds = [.int c, .int n] ∧ n < 1000 ∧ d = intsD (numsF c n)
theorem len__law_numbers : ∀ ds d, C__law_numbers ds d → ds.length = 2 := by rintro _ _ ⟨a, b, rfl, _⟩; rfl
theorem range_get {n i : Nat} {d : D} (h : (rangeD 0 n)[i]? = some d) : i < n ∧ d = .int (i : Int) := by
  unfold rangeD at h
  rw [List.getElem?_map] at h
  by_cases hi : i < n
  · rw [List.getElem?_range hi] at h
    cases h
    exact ⟨hi, by show D.int (0 + (i : Int)) = _; rw [Int.zero_add]⟩
  · rw [List.getElem?_eq_none (by simpa using hi)] at h; cases h
section
variable {P : Program} {w : World} {K : PySem.W.Frag} {mg : Str → Option Value} {base : Heap} {k : Nat} {X : Cx}
theorem b__law_cell (h : DefX P w K mg base k N__law_cell (defScope s__law_cell) X) (m_len : mg "len" = none) :
    ∀ ds d, C__law_cell ds d → EvSs X (ds.map Sl.val ++ List.replicate (N__law_cell.length - ds.length) Sl.un) (defBody s__law_cell) (.rt d) := by
  rintro ds d ⟨ns, j, rfl, h0, h1, rfl⟩
  have t := h.at'
  haveI := h.fnT
  have bl : Blt X (defScope s__law_cell) "len" (.builtin "len") := blt_of (by rw [h.mg']; exact m_len)
  show EvSs X [.val (.scr ns), .val (.int j), .un, .un] _ _
  by_cases hj : j < ns.length
  · refine es_ret (s_ifT (EvT.eq (et_lt (ev_name t 1 rfl) (ev_len t bl (EvE.qs (ev_name t 0 rfl)))) ?_) (es_one (s_ret (ev_ix (EvE.qs (ev_name t 0 rfl)) (ev_name t 1 rfl) ?_))))
    · rw [List.length_map]; exact decide_eq_true hj
    · have hn : j.toNat < ns.length := by omega
      rw [at_ints h0 rfl hn]
      unfold cellF
      rw [if_pos hj, List.getD_eq_getElem?_getD, List.getElem?_eq_getElem hn]; rfl
  · refine es_cons (s_ifF (EvT.eq (et_lt (ev_name t 1 rfl) (ev_len t bl (EvE.qs (ev_name t 0 rfl)))) ?_) es_nil) ?_
    · rw [List.length_map]; exact decide_eq_false hj
    refine es_cons (s_set t 2 (ev_modP (ev_mul ev_int (ev_add (ev_add (ev_mul (ev_name t 1 rfl) (ev_name t 1 rfl) (mul_left (by omega) (by omega))) (ev_mul ev_int (ev_name t 1 rfl) (mul_left (by decide) (by decide)))) ev_int) (mul_left (by decide) (by decide))) ev_int (by decide))) ?_
    refine es_cons (ρ' := [.val (.scr ns), .val (.int j), .val (.int (cellF ns j)), .un]) (s_for t (ei_lst (EvE.eq (EvN.toE (ev_cutL (EvE.qs (ev_name t 0 rfl)) ev_noPart (ev_part ev_int))) (by rw [cut_ints]))) ?_) (es_one (s_ret (ev_name t 2 rfl)))
    refine FRun.uptoE (fun i => [.val (.scr ns), .val (.int j), .val (.int (cellGo (48271 * (j * j + 7 * j + 11) % 2147483647) ((cutI ns none (some 3)).take i))), .un]) (fun i d hi => ?_) rfl ?_
    · rw [List.getElem?_map] at hi
      cases e : (cutI ns none (some 3))[i]? with
      | none => rw [e] at hi; cases hi
      | some x =>
        rw [e] at hi; cases hi
        refine ⟨_, eg_name t 3, EvSs.weak (es_one (s_set t 2 (ev_modP (ev_add (ev_mul (ev_name t 2 rfl) ev_int (mul_right (by decide) (by decide))) (ev_name t 3 rfl)) ev_int (by decide)))) ?_⟩
        have e2 : cellGo (48271 * (j * j + 7 * j + 11) % 2147483647) ((cutI ns none (some 3)).take (i + 1)) = (cellGo (48271 * (j * j + 7 * j + 11) % 2147483647) ((cutI ns none (some 3)).take i) * 69621 + x) % 2147483647 := by
          rw [take_snoc e]; unfold cellGo; rw [List.foldl_append]; rfl
        rw [e2]
        exact .keep (.keep (.keep (.forget .nil)))
    · rw [List.length_map, List.take_length]
      unfold cellF; rw [if_neg hj]
end
section
variable {P : Program} {w : World} {K : PySem.W.Frag} {mg : Str → Option Value} {base : Heap} {k : Nat} {X : Cx}
theorem b__law_numbers (h : DefX P w K mg base k N__law_numbers (defScope s__law_numbers) X) (m_range : mg "range" = none) (m_abs : mg "abs" = none) (m_int : mg "int" = none) :
    ∀ ds d, C__law_numbers ds d → EvSs X (ds.map Sl.val ++ List.replicate (N__law_numbers.length - ds.length) Sl.un) (defBody s__law_numbers) (.rt d) := by
  rintro ds d ⟨c, n, rfl, hn, rfl⟩
  have t := h.at'
  haveI := h.fnT
  have b1 : Blt X (defScope s__law_numbers) "range" (.type "range") := blt_of (by rw [h.mg']; exact m_range)
  have b2 : Blt X (defScope s__law_numbers) "abs" (.builtin "abs") := blt_of (by rw [h.mg']; exact m_abs)
  have b3 : Blt X (defScope s__law_numbers) "int" (.type "int") := blt_of (by rw [h.mg']; exact m_int)
  show EvSs X [.val (.int c), .val (.int n), .un, .un, .un, .un] _ _
  refine es_cons (s_setN t 2 (en_lst ea_nil)) ?_
  refine es_cons (s_set t 3 (ev_modP (ev_mul (ev_add (ev_modP (ev_name t 0 rfl) ev_int (by decide)) ev_int) ev_int (mul_right (by decide) (by decide))) ev_int (by decide))) ?_
  refine es_cons (s_set t 4 ev_int) ?_
  refine es_cons (ρ' := [.val (.int c), .val (.int n), .own [], .val (.int (seedF c)), .val (.int (digF c)), .un]) ?_ ?_
  · by_cases h1 : c < 0
    · refine s_ifT (EvW.toT (ew_orT (EvT.eq (et_lt (ev_name t 0 rfl) ev_int) (decide_eq_true h1)))) (EvSs.eq (es_one (s_set t 4 (ev_abs t b2 (ev_name t 0 rfl)))) ?_)
      have e : digF c = (c.natAbs : Int) := by unfold digF; rw [if_pos (.inl h1)]
      rw [e]; rfl
    · by_cases h2 : c ≥ 10 ^ 18
      · refine s_ifT (EvW.toT (ew_orF (EvT.eq (et_lt (ev_name t 0 rfl) ev_int) (decide_eq_false h1)) (ew_or1 (EvT.eq (et_ge (ev_name t 0 rfl) (ev_pow ev_int ev_int ⟨by decide, by decide, by decide⟩)) (decide_eq_true h2))))) (EvSs.eq (es_one (s_set t 4 (ev_abs t b2 (ev_name t 0 rfl)))) ?_)
        have e : digF c = (c.natAbs : Int) := by unfold digF; rw [if_pos (.inr h2)]
        rw [e]; rfl
      · refine s_ifF (EvW.toT (ew_orF (EvT.eq (et_lt (ev_name t 0 rfl) ev_int) (decide_eq_false h1)) (ew_or1 (EvT.eq (et_ge (ev_name t 0 rfl) (ev_pow ev_int ev_int ⟨by decide, by decide, by decide⟩)) (decide_eq_false h2))))) (EvSs.eq es_nil ?_)
        have e : digF c = 0 := by unfold digF; rw [if_neg (by rintro (z | z); exact h1 z; exact h2 z)]
        rw [e]; rfl
  refine es_cons (s_for t (ei_range1 t b1 (ev_name t 1 rfl) (by omega) (by omega)) (FRun.uptoE (ρ' := [.val (.int c), .val (.int n), .own ((numsF c n).map D.int), .val (.int (stF (seedF c) n)), .val (.int (dgF (digF c) n)), .un])
    (fun i => [.val (.int c), .val (.int n), .own ((numsF c i).map D.int), .val (.int (stF (seedF c) i)), .val (.int (dgF (digF c) i)), .un]) (fun i d hi => ?_) rfl ?_)) (es_freeze 2 rfl (es_one (s_ret (ev_name t 2 rfl))))
  · obtain ⟨hin, rfl⟩ := range_get hi
    have hi' : i < n := by simpa using hin
    refine ⟨_, eg_name t 5, EvSs.weak (es_cons (s_set t 3 (ev_modP (ev_add (ev_add (ev_mul (ev_name t 3 rfl) (ev_add (ev_modP (ev_name t 3 rfl) ev_int (by decide)) ev_int) (mul_right (by omega) (by omega))) (ev_mul ev_int (ev_name t 5 rfl) (mul_left (by decide) (by decide)))) ev_int) ev_int (by decide)))
      (es_cons (s_append t 2 rfl (d := .int (itF (seedF c) (digF c) i)) (ev_ix (EvN.toQ (en_lst (ea_cons (ev_name t 3 rfl) (ea_cons (ev_modP (ev_name t 4 rfl) ev_int (by decide)) ea_nil)))) (ev_intB t b3 (ev_gt (ev_name t 4 rfl) ev_int)) ?_) ?_)
      (es_one (s_set t 4 (ev_divP t (ev_name t 4 rfl) ev_int (by decide)))))) ?_⟩
    · by_cases hd : 0 < dgF (digF c) i
      · have e : itF (seedF c) (digF c) i = dgF (digF c) i % 1000000 := by unfold itF; rw [if_pos hd]
        rw [e, decide_eq_true hd]; rfl
      · have e : itF (seedF c) (digF c) i = stF (seedF c) (i + 1) := by unfold itF; rw [if_neg hd]
        rw [e, decide_eq_false hd]; rfl
    · rw [List.length_map, numsF_len]; exact small (by omega)
    · have e : numsF c (i + 1) = numsF c i ++ [itF (seedF c) (digF c) i] := by
        unfold numsF; rw [List.range_succ, List.map_append]; rfl
      rw [e, List.map_append]
      exact .keep (.keep (.keep (.keep (.keep (.forget .nil)))))
  · have e : (rangeD 0 (n : Int).toNat).length = n := by simp [rangeD]
    rw [e]
end
def trimI (xs : List Int) : List Int := (xs.reverse.dropWhile (· == 0)).reverse
theorem trim_zero (xs : List Int) : trimI (xs ++ [0]) = trimI xs := by simp [trimI]
theorem trim_last {a : Int} (xs : List Int) (h : a ≠ 0) : trimI (xs ++ [a]) = xs ++ [a] := by simp [trimI, h]
theorem trim_len (xs : List Int) : (trimI xs).length ≤ xs.length := by
  unfold trimI
  rw [List.length_reverse]
  have := (List.dropWhile_sublist (l := xs.reverse) (p := fun x => x == 0)).length_le
  rw [List.length_reverse] at this
  exact this
theorem trim_ok (xs : List Int) : trimI xs = [] ∨ ∃ ys a, trimI xs = ys ++ [a] ∧ a ≠ 0 := by
  induction h : xs.length generalizing xs with
  | zero => left; rw [List.eq_nil_of_length_eq_zero h]; rfl
  | succ n ih =>
    rcases List.eq_nil_or_concat xs with e | ⟨ys, y, e⟩
    · subst e; left; rfl
    · rw [List.concat_eq_append] at e
      subst e
      by_cases hy : y = 0
      · subst hy; rw [trim_zero]; exact ih ys (by simpa using h)
      · right; exact ⟨ys, y, trim_last ys hy, hy⟩
theorem trim_loop {X : Cx} {c : Expr} {body : List Stmt} (R : List Int → Rho) (h1 : EvT X (R []) c false) (h2 : ∀ ys a, (ys ++ [a]).length < 1000 → EvT X (R (ys ++ [a])) c (decide (a = 0))) (h3 : ∀ ys a, EvSs X (R (ys ++ [a])) body (.nx (R ys))) :
    ∀ (n : Nat) (ys : List Int), ys.length = n → ys.length < 1000 → ∃ m, WRun X c body m (R ys) (.nx (R (trimI ys))) := by
  intro n
  induction n with
  | zero => intro ys h _; rw [List.eq_nil_of_length_eq_zero h]; exact ⟨0, .stop h1⟩
  | succ n ih =>
    intro ys h hl
    rcases List.eq_nil_or_concat ys with e | ⟨zs, a, e⟩
    · subst e; exact ⟨0, .stop h1⟩
    · rw [List.concat_eq_append] at e
      subst e
      by_cases ha : a = 0
      · subst ha
        rw [trim_zero]
        have hz : zs.length = n := by simpa using h
        obtain ⟨m, q⟩ := ih zs hz (by omega)
        exact ⟨m + 1, .step (EvT.eq (h2 zs 0 hl) rfl) (h3 zs 0) q⟩
      · rw [trim_last zs ha]
        exact ⟨0, .stop (EvT.eq (h2 zs a hl) (decide_eq_false ha))⟩
def C__law_trim (ds : List D) (d : D) : Prop := ∃ xs : List Int, ds = [intsD xs] ∧ xs.length < 1000 ∧ d = rowD (trimI xs)
theorem len__law_trim : ∀ ds d, C__law_trim ds d → ds.length = 1 := by rintro _ _ ⟨a, rfl, _⟩; rfl
theorem getD_at {xs : List Int} {j : Nat} (h : j < xs.length) : xs.getD j 0 = xs[j] := by rw [List.getD_eq_getElem?_getD, List.getElem?_eq_getElem h]; rfl
theorem at_nat {xs : List Int} {n : Nat} (h : n < xs.length) : atI (xs.map D.int) (n : Int) = some (.int (xs.getD n 0)) := by
  rw [at_ints (by omega) (Int.toNat_natCast n) h, getD_at h]
section
variable {P : Program} {w : World} {K : PySem.W.Frag} {mg : Str → Option Value} {base : Heap} {k : Nat} {X : Cx}
theorem b__law_trim (h : DefX P w K mg base k N__law_trim (defScope s__law_trim) X) (m_list : mg "list" = none) (m_tuple : mg "tuple" = none) (m_len : mg "len" = none) :
    ∀ ds d, C__law_trim ds d → EvSs X (ds.map Sl.val ++ List.replicate (N__law_trim.length - ds.length) Sl.un) (defBody s__law_trim) (.rt d) := by
  rintro ds d ⟨xs, rfl, hl, rfl⟩
  have t := h.at'
  haveI := h.fnT
  have b1 : Blt X (defScope s__law_trim) "list" (.type "list") := blt_of (by rw [h.mg']; exact m_list)
  have b2 : Blt X (defScope s__law_trim) "tuple" (.type "tuple") := blt_of (by rw [h.mg']; exact m_tuple)
  have b3 : Blt X (defScope s__law_trim) "len" (.builtin "len") := blt_of (by rw [h.mg']; exact m_len)
  show EvSs X [.val (intsD xs), .un] _ _
  refine es_cons (s_setN t 1 (en_list t b1 (EvE.ql (ev_name t 0 rfl)))) ?_
  refine es_cons (s_while t (trim_loop (fun ys => [.val (intsD xs), .own (ys.map D.int)]) ?_ (fun ys a hy => ?_) (fun ys a => ?_) _ xs rfl hl)) (es_one (s_ret (ev_tuple t b2 (ev_own t 1 rfl))))
  · exact EvW.toT (ew_andF (et_neP t (EvQ.p (ev_own t 1 rfl)) (EvE.p (EvN.toE (en_lst ea_nil))) (shaped_lst []) (shaped_lst []) (by have := eqv_lst [] []; exact congrArg not this)))
  · refine EvW.toT (ew_andT (et_neP t (EvQ.p (ev_own t 1 rfl)) (EvE.p (EvN.toE (en_lst ea_nil))) (shaped_lst (ys ++ [a])) (shaped_lst []) (by have := eqv_lst (ys ++ [a]) []; rw [decide_eq_false (by simp)] at this; exact congrArg not this)) (ew_and1 (et_eqI (ev_ix (d := .int a) (ev_own t 1 rfl) (ev_sub (ev_len t b3 (ev_own t 1 rfl)) ev_int) ?_) ev_int)))
    rw [List.length_map, at_ints (n := ys.length) (by simp) (by simp) (by simp)]
    simp
  · refine EvSs.eq (es_one (s_pop t 1 rfl (by simp))) ?_
    rw [List.map_append]
    have e : (ys.map D.int ++ [a].map D.int).dropLast = ys.map D.int := by simp
    rw [e]; rfl
end
/-- rows end with no 0 -/
def RowOk (f : List Int) : Prop := f = [] ∨ ∃ ys a, f = ys ++ [a] ∧ a ≠ 0
theorem getD_over {g : List Int} {i : Nat} (h : g.length ≤ i) : g.getD i 0 = 0 := by rw [List.getD_eq_getElem?_getD, List.getElem?_eq_none h]; rfl
theorem trimOk (xs : List Int) : RowOk (trimI xs) := trim_ok xs
end My
set_option linter.all false
set_option autoImplicit false
set_option maxRecDepth 100000
set_option maxHeartbeats 4000000
namespace My
open PySem L2 L2.EV
/-! ### sums -/
def sumN : Nat → (Nat → Int) → Int
  | 0, _ => 0
  | n + 1, h => sumN n h + h n
theorem sumN_front (h : Nat → Int) : ∀ n, sumN (n + 1) h = h 0 + sumN n (fun i => h (i + 1))
  | 0 => by simp [sumN]
  | n + 1 => by
    rw [sumN, sumN_front h n, sumN]; omega
theorem sumN_congr {h g : Nat → Int} : ∀ n, (∀ i, i < n → h i = g i) → sumN n h = sumN n g
  | 0, _ => rfl
  | n + 1, e => by rw [sumN, sumN, sumN_congr n (fun i hi => e i (by omega)), e n (by omega)]
theorem sumN_zero : ∀ n, sumN n (fun _ => 0) = 0
  | 0 => rfl
  | n + 1 => by rw [sumN, sumN_zero n]; rfl
/-- a row against a weight -/
def rs : List Int → (Nat → Int) → Int
  | [], _ => 0
  | a :: f, ψ => a * ψ 0 + rs f (fun i => ψ (i + 1))
theorem rs_sum : ∀ (f : List Int) (n : Nat) (ψ : Nat → Int), f.length ≤ n → rs f ψ = sumN n (fun i => f.getD i 0 * ψ i)
  | [], n, ψ, _ => by
    exact ((sumN_congr (g := fun _ => 0) n fun i _ => by simp).trans (sumN_zero n)).symm
  | a :: f, 0, ψ, h => by simp at h
  | a :: f, n + 1, ψ, h => by
    rw [rs, sumN_front, rs_sum f n _ (by simpa using h)]
    rfl
theorem rs_get : ∀ (f : List Int) (i : Nat), rs f (fun j => if j = i then 1 else 0) = f.getD i 0
  | [], i => by simp [rs]
  | a :: f, 0 => by
    have e : rs f (fun j => if j + 1 = 0 then 1 else 0) = 0 := by
      have : (fun j : Nat => if j + 1 = 0 then (1 : Int) else 0) = fun _ => 0 := funext fun j => if_neg (by omega)
      rw [this, rs_sum f f.length _ (Nat.le_refl _)]
      exact (sumN_congr (g := fun _ => 0) _ fun i _ => by simp).trans (sumN_zero _)
    rw [rs, e]; simp
  | a :: f, i + 1 => by
    have e : (fun j : Nat => if j + 1 = i + 1 then (1 : Int) else 0) = fun j => if j = i then 1 else 0 := funext fun j => by
      by_cases h : j = i
      · rw [if_pos h, if_pos (by omega)]
      · rw [if_neg h, if_neg (by omega)]
    rw [rs, e, rs_get f i]; simp
theorem rs_zero (ψ : Nat → Int) (h : ∀ i, ψ i = 0) (f : List Int) : rs f ψ = 0 := by
  rw [rs_sum f f.length ψ (Nat.le_refl _)]
  exact (sumN_congr (g := fun _ => 0) _ fun i _ => by rw [h i]; simp).trans (sumN_zero _)
/-! ### boards -/
abbrev Bd := List (List Int)
def coef (b : Bd) (i k : Nat) : Int := (b.getD k []).getD i 0
def bs : Bd → (Nat → Nat → Int) → Int
  | [], _ => 0
  | r :: b, φ => rs r (fun i => φ i 0) + bs b (fun i k => φ i (k + 1))
def del2 (i k : Nat) : Nat → Nat → Int := fun a c => if a = i ∧ c = k then 1 else 0
theorem bs_zero : ∀ (b : Bd) (φ : Nat → Nat → Int), (∀ i k, φ i k = 0) → bs b φ = 0
  | [], _, _ => rfl
  | r :: b, φ, h => by rw [bs, rs_zero _ (fun i => h i 0), bs_zero b _ fun i k => h i (k + 1)]; rfl
theorem bs_get : ∀ (b : Bd) (i k : Nat), bs b (del2 i k) = coef b i k
  | [], i, k => by simp [bs, coef]
  | r :: b, i, 0 => by
    rw [bs, bs_zero b (fun a c => del2 i 0 a (c + 1)) fun a c => if_neg (by omega)]
    have e : (fun a : Nat => del2 i 0 a 0) = fun a => if a = i then 1 else 0 := funext fun a => by
      unfold del2
      by_cases h : a = i
      · rw [if_pos ⟨h, rfl⟩, if_pos h]
      · rw [if_neg (fun z => h z.1), if_neg h]
    rw [e, rs_get]; simp [coef]
  | r :: b, i, k + 1 => by
    have e : rs r (fun a => del2 i (k + 1) a 0) = 0 := rs_zero _ (fun a => if_neg (by omega)) r
    have e2 : (fun a c : Nat => del2 i (k + 1) a (c + 1)) = del2 i k := funext fun a => funext fun c => by
      unfold del2
      by_cases h : a = i ∧ c = k
      · rw [if_pos h, if_pos ⟨h.1, by omega⟩]
      · rw [if_neg h, if_neg (fun z => h ⟨z.1, by omega⟩)]
    rw [bs, e, e2, bs_get b i k]; simp [coef]
theorem bs_sum : ∀ (b : Bd) (n : Nat) (φ : Nat → Nat → Int), b.length ≤ n → bs b φ = sumN n (fun k => rs (b.getD k []) (fun i => φ i k))
  | [], n, φ, _ => by
    exact ((sumN_congr (g := fun _ => 0) n fun i _ => by simp [rs]).trans (sumN_zero n)).symm
  | r :: b, 0, φ, h => by simp at h
  | r :: b, n + 1, φ, h => by
    rw [bs, sumN_front, bs_sum b n _ (by simpa using h)]
    rfl
end My

set_option linter.all false
set_option autoImplicit false
set_option maxRecDepth 100000
set_option maxHeartbeats 4000000
namespace My
open PySem L2 L2.EV
abbrev boardD (b : Bd) : D := .tup (b.map rowD)
abbrev rowsD (b : Bd) : D := .lst (b.map rowD)
def trimB (xs : Bd) : Bd := (xs.reverse.dropWhile (· == [])).reverse
theorem trimB_zero (xs : Bd) : trimB (xs ++ [[]]) = trimB xs := by simp [trimB]
theorem trimB_last {a : List Int} (xs : Bd) (h : a ≠ []) : trimB (xs ++ [a]) = xs ++ [a] := by simp [trimB, h]
theorem trimB_len (xs : Bd) : (trimB xs).length ≤ xs.length := by
  unfold trimB
  rw [List.length_reverse]
  have := (List.dropWhile_sublist (l := xs.reverse) (p := fun x => x == [])).length_le
  rw [List.length_reverse] at this
  exact this
theorem trimB_ok (xs : Bd) : trimB xs = [] ∨ ∃ ys a, trimB xs = ys ++ [a] ∧ a ≠ [] := by
  induction h : xs.length generalizing xs with
  | zero => left; rw [List.eq_nil_of_length_eq_zero h]; rfl
  | succ n ih =>
    rcases List.eq_nil_or_concat xs with e | ⟨ys, y, e⟩
    · subst e; left; rfl
    · rw [List.concat_eq_append] at e
      subst e
      by_cases hy : y = []
      · subst hy; rw [trimB_zero]; exact ih ys (by simpa using h)
      · right; exact ⟨ys, y, trimB_last ys hy, hy⟩
theorem mem_trimB {xs : Bd} {x : List Int} (h : x ∈ trimB xs) : x ∈ xs := by
  unfold trimB at h
  rw [List.mem_reverse] at h
  have := (List.dropWhile_sublist (l := xs.reverse) (p := fun x => x == [])).subset h
  exact List.mem_reverse.mp this
theorem at_map {α : Type} {g : α → D} {xs : List α} {i : Int} {n : Nat} (h0 : 0 ≤ i) (hn : i.toNat = n) (h : n < xs.length) : atI (xs.map g) i = some (g xs[n]) := by
  rw [show i = ((n : Nat) : Int) by omega]
  have e : (xs.map g)[n]? = some (g xs[n]) := by rw [List.getElem?_map, List.getElem?_eq_getElem h]; rfl
  exact atI_nat e
def SmB (n : Nat) (f : Bd) : Prop := f.length < n ∧ ∀ r ∈ f, r.length < n
theorem getD_mem {xs : Bd} (i : Nat) : xs.getD i [] = [] ∨ xs.getD i [] ∈ xs := by
  rw [List.getD_eq_getElem?_getD]
  by_cases h : i < xs.length
  · right; rw [List.getElem?_eq_getElem h]; exact List.getElem_mem _
  · left; rw [List.getElem?_eq_none (by omega)]; rfl
theorem SmB.get {n : Nat} {f : Bd} (h : SmB n f) (h0 : 0 < n) (i : Nat) : (f.getD i []).length < n := by
  rcases getD_mem (xs := f) i with e | e
  · rw [e]; exact h0
  · exact h.2 _ e
section
variable {P : Program} {w : World} {K : PySem.W.Frag} {mg : Str → Option Value} {base : Heap} {k : Nat} {X : Cx}
end
/-- plain data: may be compared, equals itself -/
def Fn (n : Nat) (d : D) : Prop := (toP d).canLay0 = true ∧ (toP d).depth ≤ n ∧ (toP d).eqv (toP d) = true
theorem Fn.int (i : Int) : Fn 1 (.int i) := ⟨rfl, by simp [toP, PyData.depth], by simp [toP, PyData.eqv]⟩
theorem Fn.bl (b : Bool) : Fn 1 (.bl b) := ⟨rfl, by simp [toP, PyData.depth], by simp [toP, PyData.eqv]⟩
theorem Fn.all {n : Nat} : ∀ {xs : List D}, (∀ x ∈ xs, Fn n x) → PyData.canLayAll0 (toPs xs) = true ∧ PyData.depthAll (toPs xs) ≤ n ∧ PyData.eqvAll (toPs xs) (toPs xs) = true
  | [], _ => ⟨rfl, by simp [toPs, PyData.depthAll], by simp [toPs, PyData.eqvAll]⟩
  | x :: xs, h => by
    obtain ⟨a1, a2, a3⟩ := h x (by simp)
    obtain ⟨b1, b2, b3⟩ := Fn.all (xs := xs) fun y hy => h y (by simp [hy])
    refine ⟨?_, ?_, ?_⟩
    · simp only [toPs, PyData.canLayAll0, a1, b1]; rfl
    · simp only [toPs, PyData.depthAll]; omega
    · simp only [toPs, PyData.eqvAll, a3, b3]; rfl
theorem Fn.tup {n : Nat} {xs : List D} (h : ∀ x ∈ xs, Fn n x) : Fn (n + 1) (.tup xs) := by
  obtain ⟨b1, b2, b3⟩ := Fn.all h
  exact ⟨by simp only [toP, PyData.canLay0]; exact b1, by simp only [toP, PyData.depth]; omega, by simp only [toP, PyData.eqv]; exact b3⟩
theorem Fn.lst {n : Nat} {xs : List D} (h : ∀ x ∈ xs, Fn n x) : Fn (n + 1) (.lst xs) := by
  obtain ⟨b1, b2, b3⟩ := Fn.all h
  exact ⟨by simp only [toP, PyData.canLay0]; exact b1, by simp only [toP, PyData.depth]; omega, by simp only [toP, PyData.eqv]; exact b3⟩
theorem Fn.sh {n : Nat} {d : D} (h : Fn n d) (hn : n ≤ 64) : SeqAt.shaped (toP d) = true := by
  show ((toP d).canLay0 && decide ((toP d).depth ≤ 64)) = true
  rw [h.1, decide_eq_true (Nat.le_trans h.2.1 hn)]; rfl
theorem fn_row (r : List Int) : Fn 2 (rowD r) := Fn.tup fun x hx => by
  obtain ⟨i, _, rfl⟩ := List.mem_map.mp hx; exact Fn.int i
theorem fn_board (b : Bd) : Fn 3 (boardD b) := Fn.tup fun x hx => by
  obtain ⟨r, _, rfl⟩ := List.mem_map.mp hx; exact fn_row r
theorem fn_rows (b : Bd) : Fn 3 (rowsD b) := Fn.lst fun x hx => by
  obtain ⟨r, _, rfl⟩ := List.mem_map.mp hx; exact fn_row r
/-! two that are the same -/
section
variable {X : Cx} {ρ : Rho} {a b : Expr} {d : D} {pos : Pos} {N : List Str} {sc : Scope}
theorem et_same {n : Nat} (t : At X N sc) (f : Fn n d) (ha : EvE X ρ a d) (hb : EvE X ρ b d) (hn : n ≤ 64 := by decide) : EvT X ρ (.Compare a [.NotEq] [b] pos) false :=
  et_neP t ha.p hb.p (f.sh hn) (f.sh hn) (by rw [f.2.2]; rfl)
theorem ev_same {n : Nat} (t : At X N sc) (f : Fn n d) (ha : EvE X ρ a d) (hb : EvE X ρ b d) (hn : n ≤ 64 := by decide) : EvE X ρ (.Compare a [.Eq] [b] pos) (.bl true) :=
  ev_eqP t ha.p hb.p (f.sh hn) (f.sh hn) f.2.2
end
section
variable {P : Program} {w : World} {K : PySem.W.Frag} {mg : Str → Option Value} {base : Heap} {k : Nat} {X : Cx}
end
end My

set_option linter.all false
set_option autoImplicit false
set_option maxRecDepth 100000
set_option maxHeartbeats 4000000
namespace My
open PySem L2 L2.EV
/-! ### dicts of parts -/
abbrev nk (i k : Nat) : List Int := [(i : Int), (k : Int)]
theorem nk_inj {i k a c : Nat} (h : nk i k = nk a c) : i = a ∧ k = c := by
  have h1 := (List.cons.inj h).1
  have h2 := (List.cons.inj (List.cons.inj h).2).1
  omega
def ds : KVs → (Nat → Nat → Int) → Int
  | [], _ => 0
  | p :: r, φ => p.2 * φ (p.1.getD 0 0).toNat (p.1.getD 1 0).toNat + ds r φ
structure KOk (kvs : KVs) : Prop where
  keys : ∀ p ∈ kvs, ∃ i k : Nat, p.1 = nk i k
  nd : (kvs.map (·.1)).Nodup
theorem KOk.nil : KOk [] := ⟨fun _ h => (nomatch h), List.nodup_nil⟩
theorem valI_cons (p : List Int × Int) (r : KVs) (k : List Int) : valI (p :: r) k = if p.1 = k then some p.2 else valI r k := by
  unfold valI
  rw [List.find?_cons]
  by_cases h : p.1 = k
  · rw [if_pos h, decide_eq_true h]; rfl
  · rw [if_neg h, decide_eq_false h]
theorem valI_none {k : List Int} : ∀ {kvs : KVs}, (∀ p ∈ kvs, p.1 ≠ k) → valI kvs k = none
  | [], _ => rfl
  | p :: r, h => by rw [valI_cons, if_neg (h p (by simp)), valI_none fun q hq => h q (by simp [hq])]
theorem valI_mem {k : List Int} {v : Int} : ∀ {kvs : KVs}, (kvs.map (·.1)).Nodup → (k, v) ∈ kvs → valI kvs k = some v
  | [], _, h => nomatch h
  | p :: r, nd, h => by
    rw [List.map_cons, List.nodup_cons] at nd
    rw [valI_cons]
    rcases List.mem_cons.mp h with e | h
    · rw [← e, if_pos rfl]
    · have hm : k ∈ r.map (·.1) := List.mem_map.mpr ⟨_, h, rfl⟩
      rw [if_neg (fun z : p.1 = k => nd.1 (by rw [z]; exact hm)), valI_mem nd.2 h]
theorem valI_some {k : List Int} {v : Int} : ∀ {kvs : KVs}, valI kvs k = some v → (k, v) ∈ kvs
  | [], h => by cases h
  | p :: r, h => by
    rw [valI_cons] at h
    by_cases e : p.1 = k
    · rw [if_pos e] at h; cases h; rw [← e]; simp
    · rw [if_neg e] at h; simp [valI_some h]
theorem putI_mem {kvs : KVs} {k : List Int} {v : Int} {q : List Int × Int} (h : q ∈ putI kvs k v) : q = (k, v) ∨ q ∈ kvs := by
  unfold putI at h
  split at h
  · obtain ⟨p, hp, e⟩ := List.mem_map.mp h
    by_cases z : p.1 = k
    · rw [if_pos z] at e; left; rw [← e, z]
    · rw [if_neg z] at e; right; rw [← e]; exact hp
  · rcases List.mem_append.mp h with h | h
    · exact .inr h
    · exact .inl (List.mem_singleton.mp h)
theorem putI_keys {kvs : KVs} {k : List Int} {v : Int} : (putI kvs k v).map (·.1) = if (valI kvs k).isSome = true then kvs.map (·.1) else kvs.map (·.1) ++ [k] := by
  unfold putI
  split
  · rw [List.map_map]
    refine List.map_congr_left fun p _ => ?_
    show (if p.1 = k then (p.1, v) else p).1 = p.1
    split <;> rfl
  · rw [List.map_append]; rfl
theorem KOk.put {kvs : KVs} (h : KOk kvs) (i k : Nat) (v : Int) : KOk (putI kvs (nk i k) v) := by
  refine ⟨fun p hp => ?_, ?_⟩
  · rcases putI_mem hp with e | e
    · exact ⟨i, k, by rw [e]⟩
    · exact h.keys p e
  · rw [putI_keys]
    split
    · exact h.nd
    · rename_i hn
      refine List.nodup_append.mpr ⟨h.nd, by simp, fun a ha b hb e => hn ?_⟩
      rw [List.mem_singleton] at hb
      subst hb e
      obtain ⟨p, hp, e⟩ := List.mem_map.mp ha
      have : valI kvs p.1 = some p.2 := valI_mem h.nd hp
      rw [← e, this]; rfl
theorem ds_append (φ : Nat → Nat → Int) : ∀ (a b : KVs), ds (a ++ b) φ = ds a φ + ds b φ
  | [], b => by simp [ds]
  | p :: a, b => by rw [List.cons_append, ds, ds, ds_append φ a b]; omega
theorem ds_repl (φ : Nat → Nat → Int) (i k : Nat) (v : Int) : ∀ (kvs : KVs), (kvs.map (·.1)).Nodup → ds (kvs.map fun p => if p.1 = nk i k then (p.1, v) else p) φ = ds kvs φ + (match valI kvs (nk i k) with | some o => (v - o) * φ i k | none => 0)
  | [], _ => rfl
  | p :: r, nd => by
    rw [List.map_cons, List.nodup_cons] at nd
    rw [List.map_cons, ds, ds, ds_repl φ i k v r nd.2, valI_cons]
    by_cases e : p.1 = nk i k
    · rw [if_pos e, if_pos e, valI_none fun q hq z => nd.1 (by rw [e, ← z]; exact List.mem_map.mpr ⟨_, hq, rfl⟩)]
      have e1 : (p.1.getD 0 0).toNat = i := by rw [e]; simp
      have e2 : (p.1.getD 1 0).toNat = k := by rw [e]; simp
      simp only [e1, e2]
      rw [Int.sub_mul]; omega
    · rw [if_neg e, if_neg e]; omega
theorem ds_put {kvs : KVs} (h : KOk kvs) (i k : Nat) (v : Int) (φ : Nat → Nat → Int) : ds (putI kvs (nk i k) v) φ = ds kvs φ + (v - (valI kvs (nk i k)).getD 0) * φ i k := by
  unfold putI
  cases e : valI kvs (nk i k) with
  | none =>
    rw [if_neg (by simp), ds_append]
    show ds kvs φ + (v * φ i k + 0) = _
    simp
  | some o =>
    rw [if_pos (by rfl), ds_repl φ i k v kvs h.nd, e]; rfl
theorem ds_get {kvs : KVs} (h : KOk kvs) (i k : Nat) : ds kvs (del2 i k) = (valI kvs (nk i k)).getD 0 := by
  obtain ⟨hk, nd⟩ := h
  induction kvs with
  | nil => rfl
  | cons p r ih =>
    rw [List.map_cons, List.nodup_cons] at nd
    obtain ⟨a, c, e⟩ := hk p (by simp)
    have e1 : (p.1.getD 0 0).toNat = a := by rw [e]; simp
    have e2 : (p.1.getD 1 0).toNat = c := by rw [e]; simp
    have ih' := ih (fun q hq => hk q (by simp [hq])) nd.2
    rw [ds, ih', valI_cons, e1, e2]
    by_cases z : a = i ∧ c = k
    · have q : p.1 = nk i k := by rw [e, z.1, z.2]
      rw [if_pos q, valI_none fun x hx w => nd.1 (by rw [q, ← w]; exact List.mem_map.mpr ⟨_, hx, rfl⟩)]
      unfold del2
      rw [if_pos z]; simp
    · rw [if_neg (fun q => z (nk_inj (e.symm.trans q)))]
      unfold del2
      rw [if_neg z]; simp
/-- a dict's board -/
def boardOf (kvs : KVs) : Bd := trimB ((List.range 9).map fun k => trimI ((List.range 9).map fun i => (valI kvs (nk i k)).getD 0))
def BoardOk (b : Bd) : Prop := (b = [] ∨ ∃ ys a, b = ys ++ [a] ∧ a ≠ []) ∧ ∀ r ∈ b, RowOk r
theorem trimB_BoardOk {xs : Bd} (h : ∀ r ∈ xs, RowOk r) : BoardOk (trimB xs) := ⟨trimB_ok xs, fun r hr => h r (mem_trimB hr)⟩
theorem boardOf_ok (kvs : KVs) : BoardOk (boardOf kvs) := trimB_BoardOk fun r hr => by
  obtain ⟨k, _, rfl⟩ := List.mem_map.mp hr; exact trimOk _
/-! ### what the program's boards weigh -/
/-- up to n rows of up to n numbers -/
def Fit (n : Nat) (b : Bd) : Prop := b.length ≤ n ∧ ∀ k, (b.getD k []).length ≤ n
end My

set_option linter.all false
set_option autoImplicit false
set_option maxRecDepth 100000
set_option maxHeartbeats 4000000
namespace My
open PySem L2 L2.EV
/-! ### dicts as the laws make them -/
def VB (M : Nat) (kvs : KVs) : Prop := ∀ p ∈ kvs, p.2.natAbs ≤ M
def KIn (n : Nat) (kvs : KVs) : Prop := ∀ p ∈ kvs, ∃ i k : Nat, p.1 = nk i k ∧ i < n ∧ k < n
theorem putI_len (kvs : KVs) (k : List Int) (v : Int) : (putI kvs k v).length ≤ kvs.length + 1 := by
  unfold putI
  split
  · rw [List.length_map]; omega
  · rw [List.length_append, List.length_singleton]; omega
theorem VB.put {M : Nat} {kvs : KVs} (h : VB M kvs) {k : List Int} {v : Int} (hv : v.natAbs ≤ M) : VB M (putI kvs k v) := fun p hp => by
  rcases putI_mem hp with e | e
  · rw [e]; exact hv
  · exact h p e
theorem KIn.put {n : Nat} {kvs : KVs} (h : KIn n kvs) {i k : Nat} (hi : i < n) (hk : k < n) (v : Int) : KIn n (putI kvs (nk i k) v) := fun p hp => by
  rcases putI_mem hp with e | e
  · exact ⟨i, k, by rw [e], hi, hk⟩
  · exact h p e
def BB (M : Nat) (b : Bd) : Prop := ∀ i k, (coef b i k).natAbs ≤ M
/-- the parts of a board -/
def pIn (b : Bd) (k : Nat) (acc : KVs) : Nat → KVs
  | 0 => acc
  | i + 1 => putI (pIn b k acc i) (nk i k) ((b.getD k []).getD i 0)
def pOut (b : Bd) : Nat → KVs
  | 0 => []
  | k + 1 => pIn b k (pOut b k) (b.getD k []).length
def partsF (b : Bd) : KVs := pOut b b.length
theorem pIn_ok (b : Bd) (k : Nat) {acc : KVs} (h : KOk acc) (hb : ∀ p ∈ acc, ∃ a c : Nat, p.1 = nk a c ∧ c < k) (φ : Nat → Nat → Int) : ∀ i, KOk (pIn b k acc i) ∧ (∀ p ∈ pIn b k acc i, ∃ a c : Nat, p.1 = nk a c ∧ (c < k ∨ c = k ∧ a < i)) ∧ ds (pIn b k acc i) φ = ds acc φ + sumN i (fun a => (b.getD k []).getD a 0 * φ a k) ∧ (pIn b k acc i).length ≤ acc.length + i
  | 0 => ⟨h, fun p hp => let ⟨a, c, e, q⟩ := hb p hp; ⟨a, c, e, .inl q⟩, by simp [pIn, sumN], Nat.le_refl _⟩
  | i + 1 => by
    obtain ⟨h1, h2, h3, h4⟩ := pIn_ok b k h hb φ i
    refine ⟨h1.put _ _ _, fun p hp => ?_, ?_, ?_⟩
    · rcases putI_mem hp with e | e
      · exact ⟨i, k, by rw [e], .inr ⟨rfl, by omega⟩⟩
      · obtain ⟨a, c, e', q⟩ := h2 p e
        exact ⟨a, c, e', by omega⟩
    · have hn : valI (pIn b k acc i) (nk i k) = none := valI_none fun p hp e => by
        obtain ⟨a, c, e', q⟩ := h2 p hp
        have := nk_inj (e'.symm.trans e)
        omega
      rw [pIn, ds_put h1, h3, hn, sumN]
      simp; omega
    · have := putI_len (pIn b k acc i) (nk i k) ((b.getD k []).getD i 0)
      rw [pIn]; omega
theorem pOut_ok (b : Bd) (φ : Nat → Nat → Int) : ∀ k, KOk (pOut b k) ∧ (∀ p ∈ pOut b k, ∃ a c : Nat, p.1 = nk a c ∧ c < k) ∧ ds (pOut b k) φ = sumN k (fun c => rs (b.getD c []) (fun a => φ a c))
  | 0 => ⟨.nil, fun _ h => (nomatch h), rfl⟩
  | k + 1 => by
    obtain ⟨h1, h2, h3⟩ := pOut_ok b φ k
    obtain ⟨g1, g2, g3, _⟩ := pIn_ok b k h1 h2 φ (b.getD k []).length
    refine ⟨g1, fun p hp => ?_, ?_⟩
    · obtain ⟨a, c, e, q⟩ := g2 p hp
      exact ⟨a, c, e, by omega⟩
    · rw [pOut, g3, h3, sumN, rs_sum (b.getD k []) _ _ (Nat.le_refl _)]
theorem pOut_len (b : Bd) (h : SmB 100 b) : ∀ k, (pOut b k).length ≤ 100 * k
  | 0 => Nat.le_refl _
  | k + 1 => by
    obtain ⟨h1, h2, _⟩ := pOut_ok b (fun _ _ => 0) k
    obtain ⟨_, _, _, g⟩ := pIn_ok b k h1 h2 (fun _ _ => 0) (b.getD k []).length
    have := pOut_len b h k
    have := h.get (by omega) k
    rw [pOut]; omega
theorem parts_ok (b : Bd) : KOk (partsF b) := (pOut_ok b (fun _ _ => 0) b.length).1
theorem ds_parts (b : Bd) (φ : Nat → Nat → Int) : ds (partsF b) φ = bs b φ := by
  rw [bs_sum b b.length φ (Nat.le_refl _)]; exact (pOut_ok b φ b.length).2.2
theorem parts_len {b : Bd} (h : SmB 10 b) : (partsF b).length ≤ 1000 := by
  have := pOut_len b ⟨by have := h.1; omega, fun r hr => by have := h.2 r hr; omega⟩ b.length
  have := h.1
  unfold partsF; omega
/-- products of parts -/
abbrev addk (p q : List Int) : List Int := [p.getD 0 0 + q.getD 0 0, p.getD 1 0 + q.getD 1 0]
def prIn (p : List Int × Int) (acc B : KVs) : KVs := B.foldl (fun acc q => putI acc (addk p.1 q.1) ((valI acc (addk p.1 q.1)).getD 0 + p.2 * q.2)) acc
def prodF (A B : KVs) : KVs := A.foldl (fun acc p => prIn p acc B) []
theorem addk_nk (a c i k : Nat) : addk (nk a c) (nk i k) = nk (a + i) (c + k) := by simp [addk, nk]
theorem prIn_ok (a c : Nat) (v : Int) (φ : Nat → Nat → Int) : ∀ (B acc : KVs), KOk acc → (∀ p ∈ B, ∃ i k : Nat, p.1 = nk i k) → KOk (prIn (nk a c, v) acc B) ∧ ds (prIn (nk a c, v) acc B) φ = ds acc φ + v * ds B (fun i k => φ (a + i) (c + k)) ∧ (prIn (nk a c, v) acc B).length ≤ acc.length + B.length
  | [], acc, h, _ => ⟨h, by simp [prIn, ds], Nat.le_refl _⟩
  | (k, x) :: B, acc, h, hB => by
    obtain ⟨i, j, e⟩ := hB (k, x) (by simp)
    have e' : k = nk i j := e
    subst e'
    have ea : addk (nk a c) (nk i j) = nk (a + i) (c + j) := addk_nk a c i j
    obtain ⟨g1, g2, g3⟩ := prIn_ok a c v φ B (putI acc (nk (a + i) (c + j)) ((valI acc (nk (a + i) (c + j))).getD 0 + v * x)) (h.put _ _ _) fun p hp => hB p (by simp [hp])
    have e0 : prIn (nk a c, v) acc ((nk i j, x) :: B) = prIn (nk a c, v) (putI acc (nk (a + i) (c + j)) ((valI acc (nk (a + i) (c + j))).getD 0 + v * x)) B := by
      show prIn (nk a c, v) (putI acc (addk (nk a c) (nk i j)) ((valI acc (addk (nk a c) (nk i j))).getD 0 + v * x)) B = _
      rw [ea]
    rw [e0]
    refine ⟨g1, ?_, ?_⟩
    · rw [g2, ds_put h, ds]
      have e1 : (valI acc (nk (a + i) (c + j))).getD 0 + v * x - (valI acc (nk (a + i) (c + j))).getD 0 = v * x := by omega
      have e2 : ((nk i j).getD 0 0).toNat = i := by simp
      have e3 : ((nk i j).getD 1 0).toNat = j := by simp
      simp only [e2, e3]
      rw [e1, Int.mul_add, ← Int.mul_assoc]; omega
    · have := putI_len acc (nk (a + i) (c + j)) ((valI acc (nk (a + i) (c + j))).getD 0 + v * x)
      rw [List.length_cons]; omega
theorem prod_go (B : KVs) (hB : ∀ p ∈ B, ∃ i k : Nat, p.1 = nk i k) (φ : Nat → Nat → Int) : ∀ (A acc : KVs), KOk acc → (∀ p ∈ A, ∃ i k : Nat, p.1 = nk i k) → KOk (A.foldl (fun acc p => prIn p acc B) acc) ∧ ds (A.foldl (fun acc p => prIn p acc B) acc) φ = ds acc φ + ds A (fun i k => ds B (fun a c => φ (i + a) (k + c))) ∧ (A.foldl (fun acc p => prIn p acc B) acc).length ≤ acc.length + A.length * B.length
  | [], acc, h, _ => ⟨h, by simp [ds], by simp⟩
  | (k, v) :: A, acc, h, hA => by
    obtain ⟨a, c, e⟩ := hA (k, v) (by simp)
    have e' : k = nk a c := e
    subst e'
    obtain ⟨f1, f2, f3⟩ := prIn_ok a c v φ B acc h hB
    obtain ⟨g1, g2, g3⟩ := prod_go B hB φ A (prIn (nk a c, v) acc B) f1 fun p hp => hA p (by simp [hp])
    rw [List.foldl_cons]
    refine ⟨g1, ?_, ?_⟩
    · rw [g2, f2, ds]
      have e2 : ((nk a c).getD 0 0).toNat = a := by simp
      have e3 : ((nk a c).getD 1 0).toNat = c := by simp
      simp only [e2, e3]; omega
    · rw [List.length_cons, Nat.succ_mul]; omega
/-! ### what they come to -/
end My

set_option linter.all false
set_option autoImplicit false
set_option maxRecDepth 100000
set_option maxHeartbeats 4000000
namespace My
open PySem L2 L2.EV
theorem trimB_loop {X : Cx} {c : Expr} {body : List Stmt} (R : Bd → Rho) (h1 : EvT X (R []) c false) (h2 : ∀ ys a, EvT X (R (ys ++ [a])) c (decide (a = []))) (h3 : ∀ ys a, EvSs X (R (ys ++ [a])) body (.nx (R ys))) :
    ∀ (n : Nat) (ys : Bd), ys.length = n → ∃ m, WRun X c body m (R ys) (.nx (R (trimB ys))) := by
  intro n
  induction n with
  | zero => intro ys e; rw [List.eq_nil_of_length_eq_zero e]; exact ⟨0, .stop h1⟩
  | succ n ih =>
    intro ys e
    rcases List.eq_nil_or_concat ys with z | ⟨zs, a, z⟩
    · rw [z] at e; cases e
    · rw [List.concat_eq_append] at z
      subst z
      by_cases ha : a = []
      · obtain ⟨m, q⟩ := ih zs (by simpa using e)
        refine ⟨m + 1, .step (EvT.eq (h2 zs a) (decide_eq_true ha)) (h3 zs a) ?_⟩
        rw [ha, trimB_zero]; exact q
      · refine ⟨0, ?_⟩
        rw [trimB_last zs ha]
        exact .stop (EvT.eq (h2 zs a) (decide_eq_false ha))
def rowK (kvs : KVs) (k : Nat) : List Int := trimI ((List.range 9).map fun i => (valI kvs (nk i k)).getD 0)
def C__law_board_of (ds : List D) (d : D) : Prop := ∃ kvs : KVs, ds = [.dic kvs] ∧ d = boardD (boardOf kvs)
theorem len__law_board_of : ∀ ds d, C__law_board_of ds d → ds.length = 1 := by rintro _ _ ⟨a, rfl, _⟩; rfl
def C__law_parts (ds : List D) (kvs : KVs) : Prop := ∃ b : Bd, ds = [boardD b] ∧ SmB 100 b ∧ kvs = partsF b
theorem len__law_parts : ∀ ds d, C__law_parts ds d → ds.length = 1 := by rintro _ _ ⟨a, rfl, _⟩; rfl
def C__law_product (ds : List D) (kvs : KVs) : Prop := ∃ A B : KVs, ds = [.dic A, .dic B] ∧ KOk A ∧ KOk B ∧ A.length ≤ 1000 ∧ B.length ≤ 1000 ∧ VB (2 ^ 63) B ∧ kvs = prodF A B
theorem len__law_product : ∀ ds d, C__law_product ds d → ds.length = 2 := by rintro _ _ ⟨a, b, rfl, _⟩; rfl
def lineF (xs : List Int) : KVs := [(nk 0 0, xs.getD 0 0 % 11 - 5), (nk 1 0, xs.getD 1 0 % 7 - 3), (nk 0 1, xs.getD 2 0 % 5 - 2)]
def C__law_line (ds : List D) (kvs : KVs) : Prop := ∃ xs : List Int, ds = [intsD xs] ∧ 3 ≤ xs.length ∧ kvs = lineF xs
theorem len__law_line : ∀ ds d, C__law_line ds d → ds.length = 1 := by rintro _ _ ⟨a, rfl, _⟩; rfl
def spotF (k : Nat) : List Int := ([nk 0 0, nk 1 0, nk 0 1, nk 2 0, nk 1 1, nk 0 2] : List (List Int)).getD k []
def csizeF (xs : List Int) : Int := 1 + xs.getD 0 0 % 4
def conGo (xs : List Int) : Nat → KVs
  | 0 => []
  | k + 1 => if xs.getD (1 + k) 0 / 16 % 3 > 0 then putI (conGo xs k) (spotF k) (xs.getD (1 + k) 0 % (2 * csizeF xs + 1) - csizeF xs) else conGo xs k
def C__law_conic (ds : List D) (kvs : KVs) : Prop := ∃ xs : List Int, ds = [intsD xs] ∧ 7 ≤ xs.length ∧ kvs = conGo xs 6
theorem len__law_conic : ∀ ds d, C__law_conic ds d → ds.length = 1 := by rintro _ _ ⟨a, rfl, _⟩; rfl
theorem line_ok (xs : List Int) : KOk (lineF xs) ∧ KIn 2 (lineF xs) ∧ VB 5 (lineF xs) := by
  refine ⟨⟨fun p hp => ?_, by show [nk 0 0, nk 1 0, nk 0 1].Nodup; decide⟩, fun p hp => ?_, fun p hp => ?_⟩ <;>
  · unfold lineF at hp
    rcases List.mem_cons.mp hp with e | hp
    · subst e
      first
        | exact ⟨0, 0, rfl⟩
        | exact ⟨0, 0, rfl, by omega, by omega⟩
        | (show (xs.getD 0 0 % 11 - 5).natAbs ≤ 5; omega)
    · rcases List.mem_cons.mp hp with e | hp
      · subst e
        first
          | exact ⟨1, 0, rfl⟩
          | exact ⟨1, 0, rfl, by omega, by omega⟩
          | (show (xs.getD 1 0 % 7 - 3).natAbs ≤ 5; omega)
      · have e := List.mem_singleton.mp hp
        subst e
        first
          | exact ⟨0, 1, rfl⟩
          | exact ⟨0, 1, rfl, by omega, by omega⟩
          | (show (xs.getD 2 0 % 5 - 2).natAbs ≤ 5; omega)
theorem spot_nk {k : Nat} (h : k < 6) : ∃ a c : Nat, spotF k = nk a c ∧ a < 3 ∧ c < 3 := by
  match k, h with
  | 0, _ => exact ⟨0, 0, rfl, by omega, by omega⟩
  | 1, _ => exact ⟨1, 0, rfl, by omega, by omega⟩
  | 2, _ => exact ⟨0, 1, rfl, by omega, by omega⟩
  | 3, _ => exact ⟨2, 0, rfl, by omega, by omega⟩
  | 4, _ => exact ⟨1, 1, rfl, by omega, by omega⟩
  | 5, _ => exact ⟨0, 2, rfl, by omega, by omega⟩
theorem con_ok (xs : List Int) : ∀ k, k ≤ 6 → KIn 5 (conGo xs k) ∧ VB 1000000 (conGo xs k) ∧ (conGo xs k).length ≤ k
  | 0, _ => ⟨fun _ h => (nomatch h), fun _ h => (nomatch h), Nat.le_refl _⟩
  | k + 1, h => by
    obtain ⟨h1, h2, h3⟩ := con_ok xs k (by omega)
    obtain ⟨a, c, e, ha, hc⟩ := spot_nk (k := k) (by omega)
    rw [conGo]
    split
    · rw [e]
      have hs : 1 ≤ csizeF xs ∧ csizeF xs ≤ 4 := by unfold csizeF; omega
      refine ⟨h1.put (by omega) (by omega) _, h2.put ?_, ?_⟩
      · have := Int.emod_lt_of_pos (xs.getD (1 + k) 0) (show 0 < 2 * csizeF xs + 1 by omega)
        have := Int.emod_nonneg (xs.getD (1 + k) 0) (show 2 * csizeF xs + 1 ≠ 0 by omega)
        omega
      · have := putI_len (conGo xs k) (nk a c) (xs.getD (1 + k) 0 % (2 * csizeF xs + 1) - csizeF xs)
        omega
    · exact ⟨h1, h2, by omega⟩
/-- a board as the laws draw it -/
structure LB (b : Bd) : Prop where
  ok : BoardOk b
  fit : Fit 5 b
  bb : BB 1000000 b
section
variable {P : Program} {w : World} {K : PySem.W.Frag} {mg : Str → Option Value} {base : Heap} {k : Nat} {X : Cx}
theorem b__law_board_of (h : DefX P w K mg base k N__law_board_of (defScope s__law_board_of) X) (m_range : mg "range" = none) (m_tuple : mg "tuple" = none) (m_len : mg "len" = none) (c1 : Callee X "_law_trim" C__law_trim) :
    ∀ ds d, C__law_board_of ds d → EvSs X (ds.map Sl.val ++ List.replicate (N__law_board_of.length - ds.length) Sl.un) (defBody s__law_board_of) (.rt d) := by
  rintro ds d ⟨kvs, rfl, rfl⟩
  have t := h.at'
  haveI := h.fnT
  have b1 : Blt X (defScope s__law_board_of) "range" (.type "range") := blt_of (by rw [h.mg']; exact m_range)
  have b2 : Blt X (defScope s__law_board_of) "tuple" (.type "tuple") := blt_of (by rw [h.mg']; exact m_tuple)
  have b3 : Blt X (defScope s__law_board_of) "len" (.builtin "len") := blt_of (by rw [h.mg']; exact m_len)
  show EvSs X [.val (.dic kvs), .un, .un] _ _
  refine es_cons (s_setN t 1 (en_lst ea_nil)) ?_
  refine es_cons (ρ' := [.val (.dic kvs), .own (((List.range 9).map (rowK kvs)).map rowD), .un]) (s_for t (ei_range1 t b1 ev_int (by decide) (by decide)) (FRun.uptoE (fun i => [.val (.dic kvs), .own (((List.range i).map (rowK kvs)).map rowD), .un]) (fun i d hi => ?_) rfl ?_)) ?_
  · obtain ⟨hin, rfl⟩ := range_get hi
    refine ⟨_, eg_name t 2, EvSs.weak (es_one (s_append t 1 rfl (d := rowD (rowK kvs i)) (ev_call t c1 (ea_cons (d := intsD ((List.range 9).map fun j => (valI kvs (nk j i)).getD 0)) (EvE.eq (EvN.toE (en_comp (rs := (List.range 9).map fun j => D.int ((valI kvs (nk j i)).getD 0)) t (N__law_board_of ++ [("_law_i" : Str)]) (csc (by decide +kernel)) (ei_range1 t b1 ev_int (by decide) (by decide)) (by decide) fun X' cx => ?_)) (by show D.lst _ = D.lst _; rw [List.map_map]; rfl)) ea_nil) ⟨_, rfl, by simp, rfl⟩) ?_)) ?_⟩
    · exact CRun.gen (fun (j : Nat) => D.int (0 + (j : Int))) _ (fun (j : Nat) => [.val (.dic kvs), .own (((List.range i).map (rowK kvs)).map rowD), .val (.int (i : Int)), .val (.int (j : Int))]) _ _ (fun x hx => by rw [Int.zero_add]; exact egn_name cx.at' 3) (fun x hx y hy => by rw [Int.zero_add]; exact egn_name cx.at' 3) fun x hx =>
        ev_dget (k := nk x i) (n0 := 0) cx.at' (EvE.dr (ev_name cx.at' 0 rfl)) (ea_cons (ev_tup (ea_cons (ev_name cx.at' 3 rfl) (ea_cons (ev_name cx.at' 2 rfl) ea_nil))) (ea_cons ev_int ea_nil))
    · rw [List.length_map, List.length_map, List.length_range]; exact small (by simp at hin; omega)
    · rw [List.range_succ, List.map_append, List.map_append]
      exact .keep (.keep (.forget .nil))
  · rfl
  refine es_cons (s_while t (trimB_loop (fun ys => [.val (.dic kvs), .own (ys.map rowD), .un]) ?_ (fun ys a => ?_) (fun ys a => ?_) _ ((List.range 9).map (rowK kvs)) rfl)) (es_one (s_ret (ev_tuple t b2 (ev_own t 1 rfl))))
  · exact EvW.toT (ew_andF (et_neP t (EvQ.p (ev_own t 1 rfl)) (EvE.p (EvN.toE (en_lst ea_nil))) (shaped_lst []) (shaped_lst []) (by have := eqv_lst [] []; exact congrArg not this)))
  · refine EvW.toT (ew_andT (et_neP t (EvQ.p (ev_own t 1 rfl)) (EvE.p (EvN.toE (en_lst ea_nil))) ((fn_rows (ys ++ [a])).sh (by decide)) (shaped_lst []) ?_) (ew_and1 (et_eqP t (EvE.p (d := rowD a) (ev_ix (ev_own t 1 rfl) (ev_sub (ev_len t b3 (ev_own t 1 rfl)) ev_int) ?_)) (EvE.p (d := rowD []) (ev_tup ea_nil)) (shaped_row _) (shaped_row _) (eqv_row _ _))))
    · show (!(PyData.list (toPs ((ys ++ [a]).map rowD))).eqv (.list (toPs []))) = true
      rw [toPs_map]
      cases ys with
      | nil => simp [toPs, PyData.eqv, PyData.eqvAll]
      | cons r ys => simp [toPs, PyData.eqv, PyData.eqvAll]
    · rw [List.length_map, at_map (g := rowD) (n := ys.length) (by simp) (by simp) (by simp)]
      simp
  · refine EvSs.eq (es_one (s_pop t 1 rfl (by simp))) ?_
    rw [List.map_append]
    have e : (ys.map rowD ++ [a].map rowD).dropLast = ys.map rowD := by simp
    rw [e]; rfl
theorem bd__law_parts (h : DefX P w K mg base k N__law_parts (defScope s__law_parts) X) (m_range : mg "range" = none) (m_len : mg "len" = none) :
    ∀ ds d, C__law_parts ds d → EvSsD X (ds.map Sl.val ++ List.replicate (N__law_parts.length - ds.length) Sl.un) (defBody s__law_parts) d := by
  rintro ds d ⟨b, rfl, hb, rfl⟩
  have t := h.at'
  haveI := h.fnT
  have b1 : Blt X (defScope s__law_parts) "range" (.type "range") := blt_of (by rw [h.mg']; exact m_range)
  have b2 : Blt X (defScope s__law_parts) "len" (.builtin "len") := blt_of (by rw [h.mg']; exact m_len)
  have hl := hb.1
  show EvSsD X [.val (boardD b), .un, .un, .un] _ _
  refine esd_cons (s_setD t 1 ed_new) ?_
  refine esd_cons (ρ' := [.val (boardD b), .dct (partsF b), .un, .un]) (s_for t (ei_range1 t b1 (ev_len t b2 (EvE.qt (ev_name t 0 rfl))) (by omega) (by rw [List.length_map]; omega)) (FRun.uptoE (fun i => [.val (boardD b), .dct (pOut b i), .un, .un]) (fun i d hi => ?_) rfl ?_)) (esd_ret t 1 rfl)
  · obtain ⟨hin, rfl⟩ := range_get hi
    have hi' : i < b.length := by simpa using hin
    have er : atI (b.map rowD) (i : Int) = some (rowD (b.getD i [])) := by
      rw [at_map (g := rowD) (n := i) (by omega) (by omega) hi', List.getD_eq_getElem?_getD, List.getElem?_eq_getElem hi']; rfl
    have hr := hb.get (by omega) i
    refine ⟨_, eg_name t 2, EvSs.weak (ρ1 := [.val (boardD b), .dct (pOut b (i + 1)), .val (.int i), .un]) (es_one (s_for t (ei_range1 t b1 (ev_len t b2 (EvE.qt (ev_ix (EvE.qt (ev_name t 0 rfl)) (ev_name t 2 rfl) er))) (by omega) (by rw [List.length_map]; omega))
      (FRun.uptoE (fun j => [.val (boardD b), .dct (pIn b i (pOut b i) j), .val (.int i), .un]) (fun j d hj => ?_) rfl ?_))) (.keep (.keep (.forget (.keep .nil))))⟩
    · obtain ⟨hjn, rfl⟩ := range_get hj
      have hj' : j < (b.getD i []).length := by simpa using hjn
      obtain ⟨g1, g2, _⟩ := pOut_ok b (fun _ _ => 0) i
      obtain ⟨_, _, _, g3⟩ := pIn_ok b i g1 g2 (fun _ _ => 0) j
      have g4 := pOut_len b hb i
      refine ⟨_, eg_name t 3, EvSs.weak (es_one (s_asg t (ev_ix (EvE.qt (ev_ix (EvE.qt (ev_name t 0 rfl)) (ev_name t 2 rfl) er)) (ev_name t 3 rfl) (at_nat hj')) (eg_dput (k := nk j i) t 1 rfl (ev_tup (ea_cons (ev_name t 3 rfl) (ea_cons (ev_name t 2 rfl) ea_nil))) (by rw [lineN]; omega)))) (.keep (.keep (.keep (.forget .nil))))⟩
    · have e : (rangeD 0 (((b.getD i []).map D.int).length : Int).toNat).length = (b.getD i []).length := by simp [rangeD]
      rw [e]; rfl
  · have e : (rangeD 0 ((b.map rowD).length : Int).toNat).length = b.length := by simp [rangeD]
    rw [e]; rfl
theorem bd__law_product (h : DefX P w K mg base k N__law_product (defScope s__law_product) X) :
    ∀ ds d, C__law_product ds d → EvSsD X (ds.map Sl.val ++ List.replicate (N__law_product.length - ds.length) Sl.un) (defBody s__law_product) d := by
  rintro ds d ⟨A, B, rfl, hA, hB, lA, lB, vB, rfl⟩
  have t := h.at'
  haveI := h.fnT
  show EvSsD X [.val (.dic A), .val (.dic B), .un, .un, .un, .un, .un] _ _
  refine esd_cons (s_setD t 2 ed_new) ?_
  refine esd_cons (ρ' := [.val (.dic A), .val (.dic B), .dct (prodF A B), .un, .un, .un, .un]) (s_for t (ei_dic (ev_name t 0 rfl)) (FRun.uptoE (fun i => [.val (.dic A), .val (.dic B), .dct ((A.take i).foldl (fun acc p => prIn p acc B) []), .un, .un, .un, .un]) (fun i d hi => ?_) rfl ?_)) (esd_ret t 2 rfl)
  · rw [List.getElem?_map] at hi
    cases hp : A[i]? with
    | none => rw [hp] at hi; cases hi
    | some p =>
    rw [hp] at hi; cases hi
    obtain ⟨key, v⟩ := p
    have hm : (key, v) ∈ A := List.mem_of_getElem? hp
    obtain ⟨a, c, e⟩ := hA.keys _ hm
    have e' : key = nk a c := e
    subst e'
    have hv := valI_mem hA.nd hm
    have hilt : i < A.length := (List.getElem?_eq_some_iff.mp hp).1
    obtain ⟨f1, _, f3⟩ := prod_go B hB.keys (fun _ _ => 0) (A.take i) [] .nil (fun p hp => hA.keys p (List.mem_of_mem_take hp))
    have f3' : ((A.take i).foldl (fun acc p => prIn p acc B) []).length ≤ 1000 * 1000 := by
      have h1 : (A.take i).length ≤ 1000 := by rw [List.length_take]; omega
      have h2 := Nat.mul_le_mul h1 lB
      have h3 : ([] : KVs).length = 0 := rfl
      omega
    have et : A.take (i + 1) = A.take i ++ [(nk a c, v)] := take_snoc hp
    refine ⟨_, eg_tup2 t 3 4, EvSs.weak (ρ1 := [.val (.dic A), .val (.dic B), .dct ((A.take (i + 1)).foldl (fun acc p => prIn p acc B) []), .val (.int a), .val (.int c), .un, .un]) (es_one (s_for t (ei_dic (ev_name t 1 rfl))
      (FRun.uptoE (fun j => [.val (.dic A), .val (.dic B), .dct (prIn (nk a c, v) ((A.take i).foldl (fun acc p => prIn p acc B) []) (B.take j)), .val (.int a), .val (.int c), .un, .un]) (fun j d hj => ?_) rfl ?_))) (.keep (.keep (.keep (.forget (.forget (.keep (.keep .nil)))))))⟩
    · rw [List.getElem?_map] at hj
      cases hq : B[j]? with
      | none => rw [hq] at hj; cases hj
      | some q =>
      rw [hq] at hj; cases hj
      obtain ⟨key2, v2⟩ := q
      have hm2 : (key2, v2) ∈ B := List.mem_of_getElem? hq
      obtain ⟨a2, c2, e⟩ := hB.keys _ hm2
      have e' : key2 = nk a2 c2 := e
      subst e'
      have hv2 := valI_mem hB.nd hm2
      have hb2 := vB _ hm2
      have hb3 : v2.natAbs ≤ 2 ^ 63 := hb2
      have et2 : B.take (j + 1) = B.take j ++ [(nk a2 c2, v2)] := take_snoc hq
      obtain ⟨_, _, g3⟩ := prIn_ok a c v (fun _ _ => 0) (B.take j) _ f1 (fun p hp => hB.keys p (List.mem_of_mem_take hp))
      have g4 : (B.take j).length ≤ 1000 := by rw [List.length_take]; omega
      refine ⟨_, eg_tup2 t 5 6, EvSs.weak (es_one (s_asg t (ev_add (ev_dget (k := addk (nk a c) (nk a2 c2)) (n0 := 0) t (ev_dct t 2 rfl) (ea_cons (ev_tup (ea_cons (ev_add (ev_name t 3 rfl) (ev_name t 5 rfl)) (ea_cons (ev_add (ev_name t 4 rfl) (ev_name t 6 rfl)) ea_nil))) (ea_cons ev_int ea_nil)))
        (ev_mul (ev_dix (k := nk a c) t (EvE.dr (ev_name t 0 rfl)) (ev_tup (ea_cons (ev_name t 3 rfl) (ea_cons (ev_name t 4 rfl) ea_nil))) hv) (ev_dix (k := nk a2 c2) t (EvE.dr (ev_name t 1 rfl)) (ev_tup (ea_cons (ev_name t 5 rfl) (ea_cons (ev_name t 6 rfl) ea_nil))) hv2) (mul_right (by omega) (by omega))))
        (eg_dput (k := addk (nk a c) (nk a2 c2)) t 2 rfl (ev_tup (ea_cons (ev_add (ev_name t 3 rfl) (ev_name t 5 rfl)) (ea_cons (ev_add (ev_name t 4 rfl) (ev_name t 6 rfl)) ea_nil))) (by rw [lineN]; omega)))) ?_⟩
      rw [et2, show prIn (nk a c, v) ((A.take i).foldl (fun acc p => prIn p acc B) []) (B.take j ++ [(nk a2 c2, v2)]) = _ from List.foldl_append]
      exact .keep (.keep (.keep (.keep (.keep (.forget (.forget .nil))))))
    · rw [List.length_map, List.take_length, et, List.foldl_append]; rfl
  · rw [List.length_map, List.take_length]; rfl
end
end My

set_option linter.all false
set_option autoImplicit false
set_option maxRecDepth 100000
set_option maxHeartbeats 4000000
namespace My
open PySem L2 L2.EV
def wayK2 (xs : List Int) : KVs := [(nk 0 0, xs.getD 1 0 % 11 - 5), (nk 1 0, xs.getD 2 0 % 7 - 3), (nk 2 0, xs.getD 3 0 % 5 - 2)]
def wayK5 (xs : List Int) : KVs := [(nk 0 0, xs.getD 1 0 % 5 - 2), (nk 1 0, 1)]
def wayK6 (xs : List Int) : KVs := [(nk 0 0, 0 - xs.getD 1 0 % 10), (nk 2 0, 1 + xs.getD 2 0 % 2), (nk 0 2, 1 + xs.getD 3 0 % 2)]
def lbK (xs : List Int) : KVs :=
  if xs.getD 0 0 % 8 < 2 then conGo (cutI xs (some 1) none) 6
  else if xs.getD 0 0 % 8 = 2 then wayK2 xs
  else if xs.getD 0 0 % 8 = 3 then prodF (lineF (cutI xs (some 1) none)) (lineF (cutI xs (some 4) none))
  else if xs.getD 0 0 % 8 = 4 then prodF (lineF (cutI xs (some 1) none)) (lineF [xs.getD 1 0, xs.getD 2 0, xs.getD 3 0])
  else if xs.getD 0 0 % 8 = 5 then prodF (wayK5 xs) (lineF (cutI xs (some 4) none))
  else if xs.getD 0 0 % 8 = 6 then wayK6 xs
  else lineF (cutI xs (some 1) none)
def lbF (c : Int) : Bd := boardOf (lbK (numsF c 12))
theorem VB.mono {n m : Nat} {kvs : KVs} (h : VB n kvs) (q : n ≤ m) : VB m kvs := fun p hp => Nat.le_trans (h p hp) q
theorem wayK5_ok (xs : List Int) : KOk (wayK5 xs) ∧ KIn 2 (wayK5 xs) ∧ VB 5 (wayK5 xs) := by
  refine ⟨⟨fun p hp => ?_, by show [nk 0 0, nk 1 0].Nodup; decide⟩, fun p hp => ?_, fun p hp => ?_⟩ <;>
  · unfold wayK5 at hp
    rcases List.mem_cons.mp hp with e | hp
    · subst e
      first
        | exact ⟨0, 0, rfl⟩
        | exact ⟨0, 0, rfl, by omega, by omega⟩
        | (show (xs.getD 1 0 % 5 - 2).natAbs ≤ 5; omega)
    · have e := List.mem_singleton.mp hp
      subst e
      first
        | exact ⟨1, 0, rfl⟩
        | exact ⟨1, 0, rfl, by omega, by omega⟩
        | decide
def C__law_board (ds : List D) (d : D) : Prop := ∃ c : Int, ds = [.int c] ∧ d = boardD (lbF c)
theorem len__law_board : ∀ ds d, C__law_board ds d → ds.length = 1 := by rintro _ _ ⟨a, rfl, _⟩; rfl
theorem cut_from {xs : List Int} {n m : Nat} (h : xs.length = n) (hm : m ≤ n) : (cutI xs (some (m : Int)) none).length = n - m := by
  unfold cutI
  have e1 : HT.sIx xs.length 0 (some (m : Int)) = m := by simp only [HT.sIx]; split <;> omega
  have e2 : HT.sIx xs.length xs.length none = xs.length := by simp [HT.sIx]
  rw [List.length_take, List.length_drop, e1, e2, h]; omega
section
variable {P : Program} {w : World} {K : PySem.W.Frag} {mg : Str → Option Value} {base : Heap} {k : Nat} {X : Cx}
theorem bd__law_line (h : DefX P w K mg base k N__law_line (defScope s__law_line) X) :
    ∀ ds d, C__law_line ds d → EvSsD X (ds.map Sl.val ++ List.replicate (N__law_line.length - ds.length) Sl.un) (defBody s__law_line) d := by
  rintro ds d ⟨xs, rfl, hl, rfl⟩
  have t := h.at'
  haveI := h.fnT
  show EvSsD X [.val (intsD xs)] _ _
  refine esd_retE (EvDn.eq (ed_disp t (EvKs.cons (k := nk 0 0) (ev_tup (ea_cons ev_int (ea_cons ev_int ea_nil))) (ev_sub (ev_modP (i := xs.getD 0 0) (ev_ix (EvE.ql (ev_name t 0 rfl)) ev_int (at_nat (n := 0) (by omega))) ev_int (by decide)) ev_int)
    (EvKs.cons (k := nk 1 0) (ev_tup (ea_cons ev_int (ea_cons ev_int ea_nil))) (ev_sub (ev_modP (i := xs.getD 1 0) (ev_ix (EvE.ql (ev_name t 0 rfl)) ev_int (at_nat (n := 1) (by omega))) ev_int (by decide)) ev_int)
    (EvKs.cons (k := nk 0 1) (ev_tup (ea_cons ev_int (ea_cons ev_int ea_nil))) (ev_sub (ev_modP (i := xs.getD 2 0) (ev_ix (EvE.ql (ev_name t 0 rfl)) ev_int (at_nat (n := 2) (by omega))) ev_int (by decide)) ev_int) .nil)))) rfl)
end
end My

set_option linter.all false
set_option autoImplicit false
set_option maxRecDepth 100000
set_option maxHeartbeats 400000
namespace My
open PySem L2 L2.EV
def spotsD : List D := [.tup [.int 0, .int 0], .tup [.int 1, .int 0], .tup [.int 0, .int 1], .tup [.int 2, .int 0], .tup [.int 1, .int 1], .tup [.int 0, .int 2]]
theorem spotsD_at {i : Nat} (h : i < 6) : atI spotsD (i : Int) = some (.tup ((spotF i).map D.int)) := by
  match i, h with
  | 0, _ => rfl
  | 1, _ => rfl
  | 2, _ => rfl
  | 3, _ => rfl
  | 4, _ => rfl
  | 5, _ => rfl
section
variable {P : Program} {w : World} {K : PySem.W.Frag} {mg : Str → Option Value} {base : Heap} {k : Nat} {X : Cx}
theorem bd__law_conic (h : DefX P w K mg base k N__law_conic (defScope s__law_conic) X) (m_range : mg "range" = none) :
    ∀ ds d, C__law_conic ds d → EvSsD X (ds.map Sl.val ++ List.replicate (N__law_conic.length - ds.length) Sl.un) (defBody s__law_conic) d := by
  rintro ds d ⟨xs, rfl, hl, rfl⟩
  have t := h.at'
  haveI := h.fnT
  have b1 : Blt X (defScope s__law_conic) "range" (.type "range") := blt_of (by rw [h.mg']; exact m_range)
  show EvSsD X [.val (intsD xs), .un, .un, .un, .un] _ _
  have two : ∀ {ρ : Rho} {i j : Int} {pos p1 p2 : Pos} {x1 n1 n2 : Nat}, EvE X ρ (.Tuple [.Constant (.int i) n1 p1, .Constant (.int j) n2 p2] x1 pos) (.tup [.int i, .int j]) := ev_tup (ea_cons ev_int (ea_cons ev_int ea_nil))
  refine esd_cons (s_set (d := .int (csizeF xs)) t 1 (ev_add ev_int (ev_modP (i := xs.getD 0 0) (ev_ix (EvE.ql (ev_name t 0 rfl)) ev_int (at_nat (n := 0) (by omega))) ev_int (by decide)))) ?_
  refine esd_cons (s_setD t 2 ed_new) ?_
  refine esd_cons (ρ' := [.val (intsD xs), .val (.int (csizeF xs)), .dct [], .own spotsD, .un]) ?_ ?_
  · refine s_setN (xs := spotsD) t 3 ?_ (hs := ?_)
    · refine en_lst (ds := spotsD) ?_ (hl := by rw [lineN]; decide)
      refine ea_cons two ?_
      refine ea_cons two ?_
      refine ea_cons two ?_
      refine ea_cons two ?_
      refine ea_cons two ?_
      refine ea_cons two ?_
      exact ea_nil
    · rfl
  refine esd_cons (ρ' := [.val (intsD xs), .val (.int (csizeF xs)), .dct (conGo xs 6), .own spotsD, .un]) (s_for t (ei_range1 t b1 ev_int (by decide) (by decide)) (FRun.uptoE (fun i => [.val (intsD xs), .val (.int (csizeF xs)), .dct (conGo xs i), .own spotsD, .un]) (fun i d hi => ?_) rfl ?_)) (esd_ret t 2 rfl)
  rotate_left
  · have e : (rangeD 0 (6 : Int).toNat).length = 6 := by simp [rangeD]
    exact congrArg (fun n => [Sl.val (intsD xs), Sl.val (.int (csizeF xs)), Sl.dct (conGo xs n), Sl.own spotsD, Sl.un]) e
  obtain ⟨hin, rfl⟩ := range_get hi
  have hi' : i < 6 := by simpa using hin
  obtain ⟨_, _, l3⟩ := con_ok xs i (by omega)
  have hs : 1 ≤ csizeF xs ∧ csizeF xs ≤ 4 := by unfold csizeF; omega
  have e1 : (1 : Int) + (i : Int) = ((1 + i : Nat) : Int) := by omega
  have hx : atI (xs.map D.int) (1 + (i : Int)) = some (.int (xs.getD (1 + i) 0)) := by rw [e1]; exact at_nat (by omega)
  have hk : atI spotsD (i : Int) = some (.tup ((spotF i).map D.int)) := by
    exact spotsD_at hi'
  refine ⟨_, eg_name t 4, EvSs.weak (ρ1 := [.val (intsD xs), .val (.int (csizeF xs)), .dct (conGo xs (i + 1)), .own spotsD, .val (.int i)]) (es_one ?_) (.keep (.keep (.keep (.keep (.forget .nil)))))⟩
  by_cases hc : xs.getD (1 + i) 0 / 16 % 3 > 0
  · refine s_ifT (EvT.eq (et_gt (ev_modP (ev_divP (i := xs.getD (1 + i) 0) t (ev_ix (EvE.ql (ev_name t 0 rfl)) (ev_add ev_int (ev_name t 4 rfl)) hx) ev_int (by decide)) ev_int (by decide)) ev_int) (decide_eq_true hc)) (EvSs.eq (es_one (s_asg t (ev_sub (ev_modP (i := xs.getD (1 + i) 0) (ev_ix (EvE.ql (ev_name t 0 rfl)) (ev_add ev_int (ev_name t 4 rfl)) hx) (ev_add (ev_mul (i := 2) (j := csizeF xs) ev_int (ev_name t 1 rfl) (mul_left (by decide) (by decide))) ev_int) (by omega)) (ev_name t 1 rfl)) (eg_dput (k := spotF i) t 2 rfl (ev_ix (ev_own t 3 rfl) (ev_name t 4 rfl) hk) (by rw [lineN]; omega)))) ?_)
    rw [show conGo xs (i + 1) = _ from if_pos hc]; rfl
  · refine s_ifF (EvT.eq (et_gt (ev_modP (ev_divP (i := xs.getD (1 + i) 0) t (ev_ix (EvE.ql (ev_name t 0 rfl)) (ev_add ev_int (ev_name t 4 rfl)) hx) ev_int (by decide)) ev_int (by decide)) ev_int) (decide_eq_false hc)) (EvSs.eq es_nil ?_)
    rw [show conGo xs (i + 1) = conGo xs i from if_neg hc]; rfl
end
end My

set_option linter.all false
set_option autoImplicit false
set_option maxRecDepth 100000
set_option maxHeartbeats 8000000
namespace My
open PySem L2 L2.EV
section
variable {P : Program} {w : World} {K : PySem.W.Frag} {mg : Str → Option Value} {base : Heap} {k : Nat} {X : Cx}
theorem b__law_board (h : DefX P w K mg base k N__law_board (defScope s__law_board) X) (cN : Callee X "_law_numbers" C__law_numbers) (cB : Callee X "_law_board_of" C__law_board_of) (cL : CalleeD X "_law_line" C__law_line) (cC : CalleeD X "_law_conic" C__law_conic) (cP : CalleeD X "_law_product" C__law_product) :
    ∀ ds d, C__law_board ds d → EvSs X (ds.map Sl.val ++ List.replicate (N__law_board.length - ds.length) Sl.un) (defBody s__law_board) (.rt d) := by
  rintro ds d ⟨c, rfl, rfl⟩
  have t := h.at'
  haveI := h.fnT
  show EvSs X [.val (.int c), .un, .un] _ _
  refine es_cons (s_set (d := intsD (numsF c 12)) t 1 (ev_call t cN (ea_cons (ev_name t 0 rfl) (ea_cons ev_int ea_nil)) ⟨c, 12, rfl, by decide, rfl⟩)) ?_
  have hl : (numsF c 12).length = 12 := numsF_len c 12
  have e0 : lbF c = boardOf (lbK (numsF c 12)) := rfl
  rw [e0]
  generalize numsF c 12 = xs at hl
  have l1 : (cutI xs (some 1) none).length = 11 := cut_from (m := 1) hl (by omega)
  have l4 : (cutI xs (some 4) none).length = 8 := cut_from (m := 4) hl (by omega)
  have hv : ∀ n : Nat, n < 12 → atI (xs.map D.int) (n : Int) = some (.int (xs.getD n 0)) := fun n hn => at_nat (by omega)
  refine es_cons (s_set (d := .int (xs.getD 0 0 % 8)) t 2 (ev_modP (i := xs.getD 0 0) (ev_ix (EvE.ql (ev_name t 1 rfl)) ev_int (hv 0 (by omega))) ev_int (by decide))) ?_
  show EvSs X [.val (.int c), .val (intsD xs), .val (.int (xs.getD 0 0 % 8))] _ _
  have fin : ∀ {kvs : KVs}, lbK xs = kvs → C__law_board_of [.dic kvs] (boardD (boardOf (lbK xs))) := fun {kvs} e => ⟨kvs, rfl, by rw [e]⟩
  have s1 : ∀ {pos p2 p : Pos} {x1 : Nat}, EvE X [.val (.int c), .val (intsD xs), .val (.int (xs.getD 0 0 % 8))] (.Subscript (.Name "_law_xs" p) (.Slice (some (.Constant (.int 1) x1 p)) none none p2) pos) (intsD (cutI xs (some 1) none)) → True := fun _ => trivial
  clear s1
  by_cases h0 : xs.getD 0 0 % 8 < 2
  · refine es_ret (s_ifT (EvT.eq (et_lt (ev_name t 2 rfl) ev_int) (decide_eq_true h0)) (es_one (s_ret (ev_call t cB (ea_cons (EvDn.toE (ed_call t cC (ea_cons (d := intsD (cutI xs (some 1) none)) (EvE.eq (EvN.toE (ev_cutL (EvE.ql (ev_name t 1 rfl)) (ev_part ev_int) ev_noPart)) (by rw [cut_ints])) ea_nil) ⟨_, rfl, by omega, rfl⟩)) ea_nil) (fin ?_)))))
    unfold lbK; rw [if_pos h0]
  refine es_cons (s_ifF (EvT.eq (et_lt (ev_name t 2 rfl) ev_int) (decide_eq_false h0)) es_nil) ?_
  by_cases h2 : xs.getD 0 0 % 8 = 2
  · refine es_ret (s_ifT (EvT.eq (et_eqI (ev_name t 2 rfl) ev_int) (decide_eq_true h2)) (es_one (s_ret (ev_call t cB (ea_cons (d := .dic (wayK2 xs)) ?_ ea_nil) (fin ?_)))))
    · refine EvDn.toE (EvDn.eq (ed_disp t (EvKs.cons (k := nk 0 0) (ev_tup (ea_cons ev_int (ea_cons ev_int ea_nil))) (ev_sub (ev_modP (i := xs.getD 1 0) (ev_ix (EvE.ql (ev_name t 1 rfl)) ev_int (hv 1 (by omega))) ev_int (by decide)) ev_int)
        (EvKs.cons (k := nk 1 0) (ev_tup (ea_cons ev_int (ea_cons ev_int ea_nil))) (ev_sub (ev_modP (i := xs.getD 2 0) (ev_ix (EvE.ql (ev_name t 1 rfl)) ev_int (hv 2 (by omega))) ev_int (by decide)) ev_int)
        (EvKs.cons (k := nk 2 0) (ev_tup (ea_cons ev_int (ea_cons ev_int ea_nil))) (ev_sub (ev_modP (i := xs.getD 3 0) (ev_ix (EvE.ql (ev_name t 1 rfl)) ev_int (hv 3 (by omega))) ev_int (by decide)) ev_int) .nil)))) rfl)
    · unfold lbK; rw [if_neg h0, if_pos h2]
  refine es_cons (s_ifF (EvT.eq (et_eqI (ev_name t 2 rfl) ev_int) (decide_eq_false h2)) es_nil) ?_
  obtain ⟨a1, a2, a3⟩ := line_ok (cutI xs (some 1) none)
  obtain ⟨d1, d2, d3⟩ := line_ok (cutI xs (some 4) none)
  by_cases h3 : xs.getD 0 0 % 8 = 3
  · refine es_ret (s_ifT (EvT.eq (et_eqI (ev_name t 2 rfl) ev_int) (decide_eq_true h3)) (es_one (s_ret (ev_call t cB (ea_cons (EvDn.toE (ed_call t cP (ea_cons (EvDn.toE (ed_call t cL (ea_cons (d := intsD (cutI xs (some 1) none)) (EvE.eq (EvN.toE (ev_cutL (EvE.ql (ev_name t 1 rfl)) (ev_part ev_int) ev_noPart)) (by rw [cut_ints])) ea_nil) ⟨_, rfl, by omega, rfl⟩)) (ea_cons (EvDn.toE (ed_call t cL (ea_cons (d := intsD (cutI xs (some 4) none)) (EvE.eq (EvN.toE (ev_cutL (EvE.ql (ev_name t 1 rfl)) (ev_part ev_int) ev_noPart)) (by rw [cut_ints])) ea_nil) ⟨_, rfl, by omega, rfl⟩)) ea_nil)) ⟨_, _, rfl, a1, d1, (show (3 : Nat) ≤ 1000 by decide), (show (3 : Nat) ≤ 1000 by decide), d3.mono (by decide), rfl⟩)) ea_nil) (fin ?_)))))
    unfold lbK; rw [if_neg h0, if_neg h2, if_pos h3]
  refine es_cons (s_ifF (EvT.eq (et_eqI (ev_name t 2 rfl) ev_int) (decide_eq_false h3)) es_nil) ?_
  by_cases h4 : xs.getD 0 0 % 8 = 4
  · obtain ⟨g1, g2, g3⟩ := line_ok [xs.getD 1 0, xs.getD 2 0, xs.getD 3 0]
    refine es_ret (s_ifT (EvT.eq (et_eqI (ev_name t 2 rfl) ev_int) (decide_eq_true h4)) (es_one (s_ret (ev_call t cB (ea_cons (EvDn.toE (ed_call t cP (ea_cons (EvDn.toE (ed_call t cL (ea_cons (d := intsD (cutI xs (some 1) none)) (EvE.eq (EvN.toE (ev_cutL (EvE.ql (ev_name t 1 rfl)) (ev_part ev_int) ev_noPart)) (by rw [cut_ints])) ea_nil) ⟨_, rfl, by omega, rfl⟩)) (ea_cons (EvDn.toE (ed_call t cL (ea_cons (d := intsD [xs.getD 1 0, xs.getD 2 0, xs.getD 3 0]) (EvN.toE (en_lst (ea_cons (ev_ix (EvE.ql (ev_name t 1 rfl)) ev_int (hv 1 (by omega))) (ea_cons (ev_ix (EvE.ql (ev_name t 1 rfl)) ev_int (hv 2 (by omega))) (ea_cons (ev_ix (EvE.ql (ev_name t 1 rfl)) ev_int (hv 3 (by omega))) ea_nil))))) ea_nil) ⟨_, rfl, Nat.le_refl _, rfl⟩)) ea_nil)) ⟨_, _, rfl, a1, g1, (show (3 : Nat) ≤ 1000 by decide), (show (3 : Nat) ≤ 1000 by decide), g3.mono (by decide), rfl⟩)) ea_nil) (fin ?_)))))
    unfold lbK; rw [if_neg h0, if_neg h2, if_neg h3, if_pos h4]
  refine es_cons (s_ifF (EvT.eq (et_eqI (ev_name t 2 rfl) ev_int) (decide_eq_false h4)) es_nil) ?_
  by_cases h5 : xs.getD 0 0 % 8 = 5
  · obtain ⟨g1, g2, g3⟩ := wayK5_ok xs
    refine es_ret (s_ifT (EvT.eq (et_eqI (ev_name t 2 rfl) ev_int) (decide_eq_true h5)) (es_one (s_ret (ev_call t cB (ea_cons (EvDn.toE (ed_call t cP (ea_cons (d := .dic (wayK5 xs)) ?_ (ea_cons (EvDn.toE (ed_call t cL (ea_cons (d := intsD (cutI xs (some 4) none)) (EvE.eq (EvN.toE (ev_cutL (EvE.ql (ev_name t 1 rfl)) (ev_part ev_int) ev_noPart)) (by rw [cut_ints])) ea_nil) ⟨_, rfl, by omega, rfl⟩)) ea_nil)) ⟨_, _, rfl, g1, d1, (show (2 : Nat) ≤ 1000 by decide), (show (3 : Nat) ≤ 1000 by decide), d3.mono (by decide), rfl⟩)) ea_nil) (fin ?_)))))
    · refine EvDn.toE (EvDn.eq (ed_disp t (EvKs.cons (k := nk 0 0) (ev_tup (ea_cons ev_int (ea_cons ev_int ea_nil))) (ev_sub (ev_modP (i := xs.getD 1 0) (ev_ix (EvE.ql (ev_name t 1 rfl)) ev_int (hv 1 (by omega))) ev_int (by decide)) ev_int)
        (EvKs.cons (k := nk 1 0) (ev_tup (ea_cons ev_int (ea_cons ev_int ea_nil))) ev_int .nil))) rfl)
    · unfold lbK; rw [if_neg h0, if_neg h2, if_neg h3, if_neg h4, if_pos h5]
  refine es_cons (s_ifF (EvT.eq (et_eqI (ev_name t 2 rfl) ev_int) (decide_eq_false h5)) es_nil) ?_
  by_cases h6 : xs.getD 0 0 % 8 = 6
  · refine es_ret (s_ifT (EvT.eq (et_eqI (ev_name t 2 rfl) ev_int) (decide_eq_true h6)) (es_one (s_ret (ev_call t cB (ea_cons (d := .dic (wayK6 xs)) ?_ ea_nil) (fin ?_)))))
    · refine EvDn.toE (EvDn.eq (ed_disp t (EvKs.cons (k := nk 0 0) (ev_tup (ea_cons ev_int (ea_cons ev_int ea_nil))) (ev_sub ev_int (ev_modP (i := xs.getD 1 0) (ev_ix (EvE.ql (ev_name t 1 rfl)) ev_int (hv 1 (by omega))) ev_int (by decide)))
        (EvKs.cons (k := nk 2 0) (ev_tup (ea_cons ev_int (ea_cons ev_int ea_nil))) (ev_add ev_int (ev_modP (i := xs.getD 2 0) (ev_ix (EvE.ql (ev_name t 1 rfl)) ev_int (hv 2 (by omega))) ev_int (by decide)))
        (EvKs.cons (k := nk 0 2) (ev_tup (ea_cons ev_int (ea_cons ev_int ea_nil))) (ev_add ev_int (ev_modP (i := xs.getD 3 0) (ev_ix (EvE.ql (ev_name t 1 rfl)) ev_int (hv 3 (by omega))) ev_int (by decide))) .nil)))) rfl)
    · unfold lbK; rw [if_neg h0, if_neg h2, if_neg h3, if_neg h4, if_neg h5, if_pos h6]
  refine es_cons (s_ifF (EvT.eq (et_eqI (ev_name t 2 rfl) ev_int) (decide_eq_false h6)) es_nil) ?_
  refine es_one (s_ret (ev_call t cB (ea_cons (EvDn.toE (ed_call t cL (ea_cons (d := intsD (cutI xs (some 1) none)) (EvE.eq (EvN.toE (ev_cutL (EvE.ql (ev_name t 1 rfl)) (ev_part ev_int) ev_noPart)) (by rw [cut_ints])) ea_nil) ⟨_, rfl, by omega, rfl⟩)) ea_nil) (fin ?_)))
  unfold lbK; rw [if_neg h0, if_neg h2, if_neg h3, if_neg h4, if_neg h5, if_neg h6]
end
end My

set_option linter.all false
set_option autoImplicit false
set_option maxRecDepth 100000
set_option maxHeartbeats 4000000
namespace My
open PySem L2 L2.EV PyProof.Rows
theorem CRun.filt {X : Cx} {tg elt c : Expr} {α : Type} (g f : α → D) (p : α → Bool) (R : α → Rho) : ∀ (xs : List α) (ρ : Rho), (∀ x ∈ xs, EvGn X ρ tg (g x) (R x)) → (∀ x ∈ xs, ∀ y ∈ xs, EvGn X (R x) tg (g y) (R y)) → (∀ x ∈ xs, EvT X (R x) c (p x)) → (∀ x ∈ xs, EvE X (R x) elt (f x)) → CRun X tg elt [c] (xs.map g) ρ ((xs.filter p).map f)
  | [], ρ, _, _, _, _ => .nil
  | x :: xs, ρ, h1, h2, h3, h4 => by
    have ih := CRun.filt g f p R xs (R x) (fun y hy => h2 x (List.mem_cons_self ..) y (List.mem_cons_of_mem _ hy)) (fun y hy z hz => h2 y (List.mem_cons_of_mem _ hy) z (List.mem_cons_of_mem _ hz)) (fun y hy => h3 y (List.mem_cons_of_mem _ hy)) (fun y hy => h4 y (List.mem_cons_of_mem _ hy))
    have g1 := h1 x (List.mem_cons_self ..)
    have g3 := h3 x (List.mem_cons_self ..)
    cases hp : p x with
    | true =>
      rw [List.filter_cons_of_pos hp]
      exact .take g1 (.inr ⟨c, rfl, by rw [hp] at g3; exact g3⟩) (h4 x (List.mem_cons_self ..)) ih
    | false =>
      rw [List.filter_cons_of_neg (by rw [hp]; exact Bool.false_ne_true)]
      exact .skip g1 rfl (by rw [hp] at g3; exact g3) ih
def lenR (f : Bd) : Nat := (f.map List.length).foldl max 0
inductive Sy where
  | is (b : Bd) (s : List Int) | ng (a : Sy) | jn (w : Bool) (a b : Sy) | bn (w l : Bool) (a : Sy)
def jW : Bool → Str
  | true => "and"
  | false => "or"
def bW : Bool → Str
  | true => "some"
  | false => "all"
def lW : Bool → Str
  | true => "x"
  | false => "y"
def sD : Sy → D
  | .is b s => .tup [.str "is", boardD b, rowD s]
  | .ng a => .tup [.str "not", sD a]
  | .jn w a b => .tup [.str (jW w), sD a, sD b]
  | .bn w l a => .tup [.str (bW w), .str (lW l), sD a]
def hW : Sy → Str
  | .is _ _ => "is"
  | .ng _ => "not"
  | .jn w _ _ => jW w
  | .bn w _ _ => bW w
/-- what stands behind the word -/
def tlS : Sy → List D
  | .is b s => [boardD b, rowD s]
  | .ng a => [sD a]
  | .jn _ a b => [sD a, sD b]
  | .bn _ l a => [.str (lW l), sD a]
theorem sD_tup (s : Sy) : sD s = .tup (.str (hW s) :: tlS s) := by cases s <;> rfl
def kidS : Sy → List Sy
  | .is _ _ => []
  | .ng a => [a]
  | .jn _ a b => [a, b]
  | .bn _ _ a => [a]
def isB : Sy → Bool
  | .is _ _ => true
  | _ => false
def bnB : Sy → Bool
  | .bn _ _ _ => true
  | _ => false
def dS : Sy → Nat
  | .is _ _ => 0
  | .ng a => dS a + 1
  | .jn _ a b => max (dS a) (dS b) + 1
  | .bn _ _ a => dS a + 1
def cS : Sy → Nat
  | .is _ _ => 1
  | .ng a => cS a + 1
  | .jn _ a b => cS a + cS b + 1
  | .bn _ _ a => cS a + 1
def sumS (xs : List Sy) : Nat := (xs.map cS).sum
theorem sumS_app (xs ys : List Sy) : sumS (xs ++ ys) = sumS xs + sumS ys := by unfold sumS; rw [List.map_append, List.sum_append]
theorem sumS_rev (xs : List Sy) : sumS xs.reverse = sumS xs := by
  induction xs with
  | nil => rfl
  | cons x xs ih => rw [List.reverse_cons, sumS_app, ih]; unfold sumS; simp; omega
theorem sumS_one (s : Sy) : sumS [s] = cS s := by unfold sumS; simp
theorem cS_pos (s : Sy) : 0 < cS s := by cases s <;> simp [cS]
theorem len_sumS : ∀ xs : List Sy, xs.length ≤ sumS xs
  | [] => Nat.zero_le _
  | x :: xs => by
    have := len_sumS xs
    have := cS_pos x
    have e : sumS (x :: xs) = cS x + sumS xs := by unfold sumS; simp
    rw [List.length_cons, e]; omega
theorem kid_sum (s : Sy) : sumS (kidS s) < cS s := by
  cases s <;> simp [kidS, sumS, cS] <;> omega
theorem kid_d {s a : Sy} (h : a ∈ kidS s) : dS a < dS s := by
  cases s <;> simp [kidS, dS] at h ⊢
  · rw [h]; omega
  · rcases h with rfl | rfl <;> omega
  · rw [h]; omega
/-! words -/
theorem jW_f (w : Bool) : PyData.strOk (jW w) = true ∧ decide (jW w = ("is" : Str)) = false ∧ (decide (jW w = ("some" : Str)) || decide (jW w = ("all" : Str))) = false := by cases w <;> decide +kernel
theorem bW_f (w : Bool) : PyData.strOk (bW w) = true ∧ decide (bW w = ("is" : Str)) = false ∧ (decide (bW w = ("some" : Str)) || decide (bW w = ("all" : Str))) = true := by cases w <;> decide +kernel
theorem nW_f : PyData.strOk "not" = true ∧ decide (("not" : Str) = ("is" : Str)) = false ∧ (decide (("not" : Str) = ("some" : Str)) || decide (("not" : Str) = ("all" : Str))) = false := by decide +kernel
theorem iW_f : PyData.strOk "is" = true ∧ decide (("is" : Str) = ("is" : Str)) = true ∧ (decide (("is" : Str) = ("some" : Str)) || decide (("is" : Str) = ("all" : Str))) = false := by decide +kernel
theorem hW_ok : ∀ s : Sy, PyData.strOk (hW s) = true
  | .is _ _ => iW_f.1
  | .ng _ => nW_f.1
  | .jn w _ _ => (jW_f w).1
  | .bn w _ _ => (bW_f w).1
theorem hW_is : ∀ s : Sy, decide (hW s = ("is" : Str)) = isB s
  | .is _ _ => iW_f.2.1
  | .ng _ => nW_f.2.1
  | .jn w _ _ => (jW_f w).2.1
  | .bn w _ _ => (bW_f w).2.1
theorem hW_bn : ∀ s : Sy, (decide (hW s = ("some" : Str)) || decide (hW s = ("all" : Str))) = bnB s
  | .is _ _ => iW_f.2.2
  | .ng _ => nW_f.2.2
  | .jn w _ _ => (jW_f w).2.2
  | .bn w _ _ => (bW_f w).2.2
theorem lW_ok (l : Bool) : PyData.strOk (lW l) = true := by cases l <;> decide +kernel
theorem lW_x (l : Bool) : decide (lW l = ("x" : Str)) = l := by cases l <;> decide +kernel
theorem lW_y (l : Bool) : decide (lW l = ("y" : Str)) = !l := by cases l <;> decide +kernel
theorem lW_eq (l m : Bool) : decide (lW l = lW m) = (l == m) := by cases l <;> cases m <;> decide +kernel
/-! boards of sayings, in order -/
structure OkB (b : Bd) : Prop where
  ok : BoardOk b
  sm : SmB 10 b
def AllB : Sy → Prop
  | .is b s => OkB b ∧ s.length ≤ 2
  | .ng a => AllB a
  | .jn _ a b => AllB a ∧ AllB b
  | .bn _ _ a => AllB a
theorem kid_all {s a : Sy} (h : AllB s) (ha : a ∈ kidS s) : AllB a := by
  cases s <;> simp [kidS] at ha
  · subst ha; exact h
  · rcases ha with rfl | rfl
    · exact h.1
    · exact h.2
  · subst ha; exact h
structure OkS (s : Sy) : Prop where
  d : dS s ≤ 50
  c : cS s ≤ 1000
  b : AllB s
theorem OkS.kid {s a : Sy} (h : OkS s) (ha : a ∈ kidS s) : OkS a := by
  have h1 := kid_d ha
  have h2 := kid_sum s
  have h3 : cS a ≤ sumS (kidS s) := by
    obtain ⟨xs, ys, e⟩ := List.append_of_mem ha
    rw [e, sumS_app]
    have : sumS (a :: ys) = cS a + sumS ys := by unfold sumS; simp
    omega
  exact ⟨by have := h.d; omega, by have := h.c; omega, kid_all h.b ha⟩
theorem sD_fn : ∀ s : Sy, AllB s → Fn (dS s + 4) (sD s)
  | .is b s, _ => Fn.tup (n := 3) fun x hx => by
      simp at hx
      rcases hx with rfl | rfl | rfl
      · exact ⟨by decide +kernel, by simp [toP, PyData.depth], by simp [toP, PyData.eqv]⟩
      · exact fn_board b
      · have := fn_row s; exact ⟨this.1, by have := this.2.1; omega, this.2.2⟩
  | .ng a, h => Fn.tup (n := dS a + 4) fun x hx => by
      simp at hx
      rcases hx with rfl | rfl
      · exact ⟨by decide +kernel, by simp [toP, PyData.depth], by simp [toP, PyData.eqv]⟩
      · exact sD_fn a h
  | .jn w a b, h => Fn.tup (n := max (dS a) (dS b) + 4) fun x hx => by
      simp at hx
      rcases hx with rfl | rfl | rfl
      · exact ⟨by cases w <;> decide +kernel, by simp [toP, PyData.depth], by simp [toP, PyData.eqv]⟩
      · have := sD_fn a h.1; exact ⟨this.1, by have := this.2.1; omega, this.2.2⟩
      · have := sD_fn b h.2; exact ⟨this.1, by have := this.2.1; omega, this.2.2⟩
  | .bn w l a, h => Fn.tup (n := dS a + 4) fun x hx => by
      simp at hx
      rcases hx with rfl | rfl | rfl
      · exact ⟨by cases w <;> decide +kernel, by simp [toP, PyData.depth], by simp [toP, PyData.eqv]⟩
      · exact ⟨by cases l <;> decide +kernel, by simp [toP, PyData.depth], by simp [toP, PyData.eqv]⟩
      · exact sD_fn a h
/-! what the program tells -/
def preS (stop : Bool) : Sy → List Sy
  | .is b s => [.is b s]
  | .ng a => .ng a :: preS stop a
  | .jn w a b => .jn w a b :: (preS stop a ++ preS stop b)
  | .bn w l a => .bn w l a :: (if stop then [] else preS stop a)
theorem pre_kids (stop : Bool) (s : Sy) : preS stop s = s :: (if (stop && bnB s) = true then [] else (kidS s).flatMap (preS stop)) := by
  cases s <;> cases stop <;> simp [preS, bnB, kidS]
theorem pre_ok {s : Sy} (h : OkS s) (stop : Bool) : ∀ a ∈ preS stop s, OkS a := by
  induction s with
  | is b s => intro a ha; simp [preS] at ha; rw [ha]; exact h
  | ng a ih =>
    intro x hx
    simp [preS] at hx
    rcases hx with rfl | hx
    · exact h
    · exact ih (h.kid (by simp [kidS])) x hx
  | jn w a b ih1 ih2 =>
    intro x hx
    simp [preS] at hx
    rcases hx with rfl | hx | hx
    · exact h
    · exact ih1 (h.kid (by simp [kidS])) x hx
    · exact ih2 (h.kid (by simp [kidS])) x hx
  | bn w l a ih =>
    intro x hx
    cases stop <;> simp [preS] at hx
    · rcases hx with rfl | hx
      · exact h
      · exact ih (h.kid (by simp [kidS])) x hx
    · rw [hx]; exact h
def bdS : Sy → List Bd
  | .is b _ => [b]
  | .ng a => bdS a
  | .jn _ a b => bdS a ++ bdS b
  | .bn _ _ a => bdS a
def stepB (acc : List Bd) (b : Bd) : List Bd := if b ∈ acc then acc else acc ++ [b]
def uniqB (acc xs : List Bd) : List Bd := xs.foldl stepB acc
def lawB : Sy → List Bd
  | .is b _ => [b]
  | .ng a => lawB a
  | .jn _ a b => lawB a ++ (lawB b).filter (fun x => decide (x ∉ lawB a))
  | .bn _ _ a => lawB a
theorem uniq_app (acc xs ys : List Bd) : uniqB acc (xs ++ ys) = uniqB (uniqB acc xs) ys := by unfold uniqB; rw [List.foldl_append]
/-- what is not there yet of what is told once each -/
theorem uniq_filter : ∀ (xs acc acc2 : List Bd), uniqB acc xs = acc ++ (uniqB [] xs).filter (fun x => decide (x ∉ acc)) := by
  have key : ∀ (xs acc s : List Bd), uniqB (acc ++ s.filter (fun x => decide (x ∉ acc))) xs = acc ++ (uniqB s xs).filter (fun x => decide (x ∉ acc)) := by
    intro xs
    induction xs with
    | nil => intro acc s; rfl
    | cons x xs ih =>
      intro acc s
      show uniqB (stepB _ x) xs = acc ++ (uniqB (stepB s x) xs).filter _
      rw [← ih acc (stepB s x)]
      congr 1
      unfold stepB
      by_cases h1 : x ∈ acc
      · rw [if_pos (List.mem_append_left _ h1)]
        by_cases h2 : x ∈ s
        · rw [if_pos h2]
        · rw [if_neg h2, List.filter_append]; simp [h1]
      · by_cases h2 : x ∈ s
        · rw [if_pos h2, if_pos (List.mem_append_right _ (List.mem_filter.mpr ⟨h2, by simp [h1]⟩))]
        · rw [if_neg h2, if_neg (fun z => by
            rcases List.mem_append.mp z with q | q
            · exact h1 q
            · exact h2 (List.mem_filter.mp q).1), List.filter_append, ← List.append_assoc]
          simp [h1]
  intro xs acc acc2
  have := key xs acc []
  simpa using this
theorem law_uniq : ∀ s : Sy, lawB s = uniqB [] (bdS s)
  | .is b s => by simp [lawB, bdS, uniqB, stepB]
  | .ng a => law_uniq a
  | .jn w a b => by
    show lawB a ++ (lawB b).filter _ = uniqB [] (bdS a ++ bdS b)
    rw [uniq_app, uniq_filter (bdS b) (uniqB [] (bdS a)) [], ← law_uniq a, ← law_uniq b]
  | .bn w l a => law_uniq a
theorem pre_bds (s : Sy) : (preS false s).flatMap (fun p => match p with | .is b _ => [b] | _ => []) = bdS s := by
  induction s with
  | is b s => simp [preS, bdS]
  | ng a ih => simp only [preS, bdS, List.flatMap_cons]; rw [ih]; rfl
  | jn w a b ih1 ih2 => simp only [preS, bdS, List.flatMap_cons, List.flatMap_append]; rw [ih1, ih2]; rfl
  | bn w l a ih => simp only [preS, bdS, List.flatMap_cons]; rw [← ih]; rfl
/-! kinds -/
def stands (l : Bool) (b : Bd) : Bool := if l then decide (1 < lenR b) else decide (1 < b.length)
def plainS : Sy → Bool
  | .is _ _ => true
  | .ng a => plainS a
  | .jn _ a b => plainS a && plainS b
  | .bn _ _ _ => false
def fitO (o : Bool) : Sy → Bool
  | .is b _ => !stands o b
  | .bn _ l a => l == o && plainS a
  | _ => true
def overS (o : Bool) : Sy → Bool
  | .is b _ => !stands o b
  | .ng a => overS o a
  | .jn _ a b => overS o a && overS o b
  | .bn _ l a => l == o && plainS a
def fitC : Sy → Bool
  | .is b _ => !stands true b && !stands false b
  | .bn _ l a => overS (!l) a
  | _ => true
def closS : Sy → Bool
  | .is b _ => !stands true b && !stands false b
  | .ng a => closS a
  | .jn _ a b => closS a && closS b
  | .bn _ l a => overS (!l) a
theorem plain_pre : ∀ s : Sy, (!(preS false s).any bnB) = plainS s
  | .is b s => rfl
  | .ng a => by show (!(false || (preS false a).any bnB)) = plainS a; rw [Bool.false_or]; exact plain_pre a
  | .jn w a b => by
    show (!(false || (preS false a ++ preS false b).any bnB)) = (plainS a && plainS b)
    rw [Bool.false_or, List.any_append, Bool.not_or, plain_pre a, plain_pre b]
  | .bn w l a => by show (!(true || _)) = false; rfl
theorem over_pre (o : Bool) : ∀ s : Sy, (preS true s).all (fitO o) = overS o s
  | .is b s => by simp [preS, fitO, overS]
  | .ng a => by show (true && (preS true a).all (fitO o)) = overS o a; rw [Bool.true_and]; exact over_pre o a
  | .jn w a b => by
    show (true && (preS true a ++ preS true b).all (fitO o)) = (overS o a && overS o b)
    rw [Bool.true_and, List.all_append, over_pre o a, over_pre o b]
  | .bn w l a => by simp [preS, fitO, overS]
theorem clos_pre : ∀ s : Sy, (preS true s).all fitC = closS s
  | .is b s => by simp [preS, fitC, closS]
  | .ng a => by show (true && (preS true a).all fitC) = closS a; rw [Bool.true_and]; exact clos_pre a
  | .jn w a b => by
    show (true && (preS true a ++ preS true b).all fitC) = (closS a && closS b)
    rw [Bool.true_and, List.all_append, clos_pre a, clos_pre b]
  | .bn w l a => by simp [preS, fitC, closS]
end My

set_option linter.all false
set_option autoImplicit false
set_option maxRecDepth 100000
set_option maxHeartbeats 4000000
namespace My
open PySem L2 L2.EV PyProof.Rows
theorem foldl_max (l : List Nat) : ∀ a, a ≤ l.foldl max a ∧ (∀ x ∈ l, x ≤ l.foldl max a) ∧ (l.foldl max a = a ∨ l.foldl max a ∈ l) := by
  induction l with
  | nil => intro a; exact ⟨Nat.le_refl _, fun _ h => (nomatch h), .inl rfl⟩
  | cons y l ih =>
    intro a
    obtain ⟨h1, h2, h3⟩ := ih (max a y)
    rw [List.foldl_cons]
    refine ⟨by omega, fun x hx => ?_, ?_⟩
    · rcases List.mem_cons.mp hx with e | hx
      · subst e; omega
      · exact h2 x hx
    · rcases h3 with e | e
      · by_cases h : y ≤ a
        · left; rw [e]; omega
        · right; rw [e, show max a y = y by omega]; simp
      · right; simp [e]
theorem lenR_ge (f : Bd) (k : Nat) : (f.getD k []).length ≤ lenR f := by
  rcases getD_mem (xs := f) k with e | e
  · rw [e]; exact Nat.zero_le _
  · exact (foldl_max (f.map List.length) 0).2.1 _ (List.mem_map.mpr ⟨_, e, rfl⟩)
theorem lenR_is (f : Bd) : lenR f = 0 ∨ ∃ r ∈ f, r.length = lenR f := by
  rcases (foldl_max (f.map List.length) 0).2.2 with e | e
  · exact .inl e
  · obtain ⟨r, hr, e⟩ := List.mem_map.mp e; exact .inr ⟨r, hr, e⟩
theorem maxI_len (f : Bd) : maxI ((f.map List.length).map fun n : Nat => (n : Int)) = (lenR f : Int) := by
  unfold lenR
  have : ∀ (l : List Nat) (a : Nat), (l.map fun n : Nat => (n : Int)).foldl max (a : Int) = ((l.foldl max a : Nat) : Int) := by
    intro l
    induction l with
    | nil => intro a; rfl
    | cons y l ih =>
      intro a
      rw [List.map_cons, List.foldl_cons, List.foldl_cons, ← ih]
      congr 1; omega
  exact this _ 0
def C_length_of_rows (ds : List D) (d : D) : Prop := ∃ f : Bd, ds = [boardD f] ∧ SmB 1000 f ∧ d = .int (lenR f)
theorem len_length_of_rows : ∀ ds d, C_length_of_rows ds d → ds.length = 1 := by rintro _ _ ⟨a, rfl, _⟩; rfl
section
variable {P : Program} {w : World} {K : PySem.W.Frag} {mg : Str → Option Value} {base : Heap} {k : Nat} {X : Cx}
theorem b_length_of_rows (h : DefX P w K mg base k N_length_of_rows (defScope s_length_of_rows) X) (m_max : mg "max" = none) (m_len : mg "len" = none) :
    ∀ ds d, C_length_of_rows ds d → EvSs X (ds.map Sl.val ++ List.replicate (N_length_of_rows.length - ds.length) Sl.un) (defBody s_length_of_rows) (.rt d) := by
  rintro ds d ⟨f, rfl, hf, rfl⟩
  have t := h.at'
  have b1 : Blt X (defScope s_length_of_rows) "max" (.builtin "max") := blt_of (by rw [h.mg']; exact m_max)
  show EvSs X [.val (boardD f)] _ _
  refine es_one (s_ret (EvE.eq (ev_maxD (ns := (f.map List.length).map fun n : Nat => (n : Int)) t b1 (EvN.toQ (EvN.eq (en_comp (rs := f.map fun r => D.int (r.length : Int)) t ["f", "row"] (csc (by decide +kernel)) (ei_tup (ev_name t 0 rfl)) (by rw [List.length_map]; exact small hf.1) fun X' cx => ?_) ?_)) ?_) (by rw [maxI_len])))
  · exact CRun.gen rowD _ (fun r => [.val (boardD f), .val (rowD r)]) _ _ (fun x hx => egn_name cx.at' 1) (fun x hx y hy => egn_name cx.at' 1) fun x hx => EvE.eq (ev_len cx.at' (blt_of (by rw [cx.mg', h.mg']; exact m_len)) (EvE.qt (ev_name cx.at' 1 rfl))) (by rw [List.length_map])
  · rw [List.map_map, List.map_map]; rfl
  · intro n hn
    obtain ⟨m, _, rfl⟩ := List.mem_map.mp hn
    omega
end
def C_sayings_in (ds : List D) (r : D) : Prop := ∃ s : Sy, ds = [sD s] ∧ r = .lst ((kidS s).map sD)
theorem len_sayings_in : ∀ ds d, C_sayings_in ds d → ds.length = 1 := by rintro _ _ ⟨_, rfl, _⟩; rfl
abbrev BN : PyData := .tuple [.str "some", .str "all"]
def C_parts_of (K : PySem.W.Frag) (ds : List D) (r : D) : Prop := ∃ (s : Sy) (st : D) (stop : Bool), ds = [sD s, st] ∧ OkS s ∧ ((st = .tup [] ∧ stop = false) ∨ ∃ l, st = .adr l ∧ GP K (.ref l) BN ∧ stop = true) ∧ r = .lst ((preS stop s).map sD)
theorem len_parts_of {K : PySem.W.Frag} : ∀ ds d, C_parts_of K ds d → ds.length = 2 := by rintro _ _ ⟨_, _, _, rfl, _⟩; rfl
def TnD : Nat → D → Prop
  | 0, d => ∃ i, d = .int i
  | n + 1, d => (∃ i, d = .int i) ∨ ∃ xs, d = .tup xs ∧ xs.length < 1000 ∧ ∀ x ∈ xs, TnD n x
def C_told_anew : Nat → List D → D → Prop
  | 0, _, _ => False
  | n + 1, ds, r => ∃ d, ds = [d] ∧ TnD n d ∧ r = d
theorem len_told_anew : ∀ n ds d, C_told_anew n ds d → ds.length = 1
  | 0, _, _, h => h.elim
  | n + 1, _, _, ⟨_, h, _⟩ => by rw [h]; rfl
theorem tn_board {b : Bd} (h : SmB 10 b) : TnD 2 (boardD b) := .inr ⟨_, rfl, by rw [List.length_map]; have := h.1; omega, fun x hx => by
  obtain ⟨r, hr, rfl⟩ := List.mem_map.mp hx
  exact .inr ⟨_, rfl, by rw [List.length_map]; have := h.2 r hr; omega, fun y hy => by obtain ⟨i, _, rfl⟩ := List.mem_map.mp hy; exact ⟨i, rfl⟩⟩⟩
def C_boards_of (ds : List D) (r : D) : Prop := ∃ s : Sy, ds = [sD s] ∧ OkS s ∧ r = .tup ((uniqB [] (bdS s)).map boardD)
theorem len_boards_of : ∀ ds d, C_boards_of ds d → ds.length = 1 := by rintro _ _ ⟨_, rfl, _⟩; rfl
def CS (g : Sy → Bool) (ds : List D) (r : D) : Prop := ∃ s : Sy, ds = [sD s] ∧ OkS s ∧ r = .bl (g s)
theorem CS.len {g : Sy → Bool} : ∀ ds d, CS g ds d → ds.length = 1 := by rintro _ _ ⟨_, rfl, _⟩; rfl
abbrev C_is_plain := CS plainS
theorem len_is_plain : ∀ ds d, C_is_plain ds d → ds.length = 1 := CS.len
def CL (g : Bool → Sy → Bool) (ds : List D) (r : D) : Prop := ∃ (s : Sy) (l : Bool), ds = [sD s, .str (lW l)] ∧ OkS s ∧ r = .bl (g l s)
theorem CL.len {g : Bool → Sy → Bool} : ∀ ds d, CL g ds d → ds.length = 2 := by rintro _ _ ⟨_, _, rfl, _⟩; rfl
abbrev C_fits_over := CL fitO
theorem len_fits_over : ∀ ds d, C_fits_over ds d → ds.length = 2 := CL.len
abbrev C_is_over := CL (fun l s => overS (!l) s)
theorem len_is_over : ∀ ds d, C_is_over ds d → ds.length = 2 := CL.len
abbrev C_fits_closed := CS fitC
theorem len_fits_closed : ∀ ds d, C_fits_closed ds d → ds.length = 1 := CS.len
abbrev C_is_closed := CS closS
theorem len_is_closed : ∀ ds d, C_is_closed ds d → ds.length = 1 := CS.len
def C_letter_stands (ds : List D) (r : D) : Prop := ∃ (l : Bool) (b : Bd), ds = [.str (lW l), boardD b] ∧ SmB 1000 b ∧ r = .bl (stands l b)
theorem len_letter_stands : ∀ ds d, C_letter_stands ds d → ds.length = 2 := by rintro _ _ ⟨_, _, rfl, _⟩; rfl
theorem SmB.up {b : Bd} (h : SmB 10 b) {n : Nat} (hn : 10 ≤ n) : SmB n b := ⟨by have := h.1; omega, fun r hr => by have := h.2 r hr; omega⟩
section
variable {X : Cx} {ρ : Rho} {a : Expr} {pos p1 p2 p3 : Pos} {N : List Str} {sc : Scope} {s : Sy} {j : Nat}
/-- S[0] -/
theorem ev_word (ha : EvE X ρ a (sD s)) : EvE X ρ (.Subscript a (.Constant (.int 0) j p2) p3) (.str (hW s)) := by
  rw [sD_tup] at ha; exact ev_nth 0 ha ev_int rfl rfl
/-- S[i], i written, above 0 -/
theorem ev_at {d : D} (n : Nat) {i : Int} (ha : EvE X ρ a (sD s)) (hi : i = ((n + 1 : Nat) : Int)) (h : (tlS s)[n]? = some d) : EvE X ρ (.Subscript a (.Constant (.int i) j p2) p3) d := by
  rw [sD_tup] at ha; exact ev_nth (n + 1) ha ev_int hi (by rw [List.getElem?_cons_succ]; exact h)
end
section
variable {P : Program} {w : World} {K : PySem.W.Frag} {mg : Str → Option Value} {base : Heap} {k : Nat} {X : Cx}
theorem b_sayings_in (h : DefX P w K mg base k N_sayings_in (defScope s_sayings_in) X) (m_list : mg "list" = none) (g1 : Glb mg K "BINDERS" BN) :
    ∀ ds d, C_sayings_in ds d → EvSs X (ds.map Sl.val ++ List.replicate (N_sayings_in.length - ds.length) Sl.un) (defBody s_sayings_in) (.rt d) := by
  rintro ds r ⟨s, rfl, rfl⟩
  have t := h.at'
  haveI := h.fnT
  have b1 : Blt X (defScope s_sayings_in) "list" (.type "list") := blt_of (by rw [h.mg']; exact m_list)
  obtain ⟨l, gm, gk⟩ := g1
  show EvSs X [.val (sD s)] _ _
  refine es_if (EvT.eq (et_eqS t (ev_word (ev_name t 0 rfl)) ev_str (hW_ok s)) (hW_is s)) (fun z => ?_) (fun z => ?_)
  · cases s with
    | is b x => exact es_one (s_ret (EvN.toE (en_lst ea_nil)))
    | _ => cases z
  refine es_if (EvT.eq (et_inG t (ev_word (ev_name t 0 rfl)) (by rw [h.mg']; exact gm) (by rw [h.k']; exact gk) (hW_ok s)) (hW_bn s)) (fun v => ?_) (fun v => ?_)
  · cases s with
    | bn w x a => exact es_one (s_ret (EvN.toE (en_lst (ea_cons (ev_at (s := .bn w x a) 1 (ev_name t 0 rfl) rfl rfl) ea_nil))))
    | _ => cases v
  · have e : tlS s = (kidS s).map sD := by
      cases s with
      | is => cases z
      | bn => cases v
      | ng => rfl
      | jn => rfl
    rw [← e]
    refine es_one (s_ret (EvN.toE (en_list t b1 (EvE.qt (EvE.eq (ev_cutA (xs := .str (hW s) :: tlS s) (EvE.eq (ev_name t 0 rfl) (sD_tup s)) (ev_part ev_int) ev_noPart) (by rw [cut1]))))))
end
section
variable {P : Program} {w : World} {K : PySem.W.Frag} {mg : Str → Option Value} {base : Heap} {k : Nat} {X : Cx}
theorem b_told_anew (h : DefX P w K mg base k N_told_anew (defScope s_told_anew) X) (m_isinstance : mg "isinstance" = none) (m_tuple : mg "tuple" = none) (n : Nat) (c1 : Callee X "told_anew" (C_told_anew n)) :
    ∀ ds d, C_told_anew (n + 1) ds d → EvSs X (ds.map Sl.val ++ List.replicate (N_told_anew.length - ds.length) Sl.un) (defBody s_told_anew) (.rt d) := by
  rintro ds d ⟨_, rfl, hd, rfl⟩
  have t := h.at'
  haveI := h.fnT
  have b1 : Blt X (defScope s_told_anew) "isinstance" (.builtin "isinstance") := blt_of (by rw [h.mg']; exact m_isinstance)
  have b2 : Blt X (defScope s_told_anew) "tuple" (.type "tuple") := blt_of (by rw [h.mg']; exact m_tuple)
  show EvSs X [.val d] _ _
  have hi : (∃ i, d = .int i) ∨ ∃ m xs, n = m + 1 ∧ d = .tup xs ∧ xs.length < 1000 ∧ ∀ x ∈ xs, TnD m x := by
    cases n with
    | zero => exact .inl hd
    | succ m => rcases hd with q | ⟨xs, q⟩
                · exact .inl q
                · exact .inr ⟨m, xs, rfl, q⟩
  rcases hi with ⟨i, rfl⟩ | ⟨m, xs, rfl, rfl, hl, hx⟩
  · exact es_one (s_ret (ev_ifF (et_bl (ev_isi (d := .int i) t b1 b2 (ev_name t 0 rfl) rfl)) (ev_name t 0 rfl)))
  · refine es_one (s_ret (ev_ifT (et_bl (ev_isi (d := .tup xs) t b1 b2 (ev_name t 0 rfl) rfl)) (EvE.eq (ev_tuple t b2 (EvN.toQ (en_comp t ["thing", "part"] (csc (by decide +kernel)) (ei_tup (ev_name t 0 rfl)) (by rw [sizeLine_eq]; omega) fun X' cx => CRun.all (fun d => [.val (.tup xs), .val d]) (fun d => d) xs _ (fun d hd => egn_name cx.at' 1) (fun d hd e he => egn_name cx.at' 1) fun d hd => ev_call cx.at' (cx.callee c1) (ea_cons (ev_name cx.at' 1 rfl) ea_nil) ⟨d, rfl, hx d hd, rfl⟩))) (by rw [List.map_id']))))
end
section
variable {P : Program} {w : World} {K : PySem.W.Frag} {mg : Str → Option Value} {base : Heap} {k : Nat} {X : Cx}
theorem b_letter_stands (h : DefX P w K mg base k N_letter_stands (defScope s_letter_stands) X) (m_len : mg "len" = none) (c1 : Callee X "length_of_rows" C_length_of_rows) :
    ∀ ds d, C_letter_stands ds d → EvSs X (ds.map Sl.val ++ List.replicate (N_letter_stands.length - ds.length) Sl.un) (defBody s_letter_stands) (.rt d) := by
  rintro ds r ⟨l, b, rfl, hb, rfl⟩
  have t := h.at'
  haveI := h.fnT
  have b1 : Blt X (defScope s_letter_stands) "len" (.builtin "len") := blt_of (by rw [h.mg']; exact m_len)
  show EvSs X [.val (.str (lW l)), .val (boardD b)] _ _
  have e := lW_y l
  have T := fun {p1 p2 : Pos} {j : Nat} {p3 : Pos} => et_eqS (X := X) (ρ := [.val (.str (lW l)), .val (boardD b)]) (a := .Name "letter" p1) (b := .Constant (.str "y") j p2) (pos := p3) t (ev_name t 0 rfl) ev_str (lW_ok l)
  cases l with
  | true => exact es_one (s_ret (EvE.eq (ev_gt (ev_ifF (EvT.eq T e) (ev_call t c1 (ea_cons (ev_name t 1 rfl) ea_nil) ⟨b, rfl, hb, rfl⟩)) ev_int) (by show D.bl _ = D.bl (decide (1 < lenR b)); congr 1; exact decide_eq_decide.mpr (by omega))))
  | false => exact es_one (s_ret (EvE.eq (ev_gt (ev_ifT (EvT.eq T e) (ev_len t b1 (EvE.qt (ev_name t 1 rfl)))) ev_int) (by show D.bl _ = D.bl (decide (1 < b.length)); rw [List.length_map]; congr 1; exact decide_eq_decide.mpr (by omega))))
end
end My

set_option linter.all false
set_option autoImplicit false
set_option maxRecDepth 100000
set_option maxHeartbeats 4000000
namespace My
open PySem L2 L2.EV PyProof.Rows
theorem lastS (ws : List Sy) : ws = [] ∨ ∃ ys y, ws = ys ++ [y] := by
  cases h : ws.getLast? with
  | none => exact .inl (List.getLast?_eq_none_iff.mp h)
  | some y => obtain ⟨ys, e⟩ := List.getLast?_eq_some_iff.mp h; exact .inr ⟨ys, y, e⟩
theorem Fn.mono {n m : Nat} {d : D} (h : Fn n d) (q : n ≤ m) : Fn m d := ⟨h.1, Nat.le_trans h.2.1 q, h.2.2⟩
theorem OkS.fn {s : Sy} (h : OkS s) : Fn 54 (sD s) := (sD_fn s h.b).mono (by have := h.d; omega)
theorem ne_nil (xs : List D) : (!(PyData.list (toPs xs)).eqv (.list (toPs []))) = !decide (xs = []) := by
  cases xs with
  | nil => rfl
  | cons d ds => simp [toPs, PyData.eqv, PyData.eqvAll]
theorem pre_len (stop : Bool) : ∀ s : Sy, (preS stop s).length ≤ cS s
  | .is b s => Nat.le_refl _
  | .ng a => by have := pre_len stop a; simp [preS, cS]; omega
  | .jn w a b => by have := pre_len stop a; have := pre_len stop b; simp [preS, cS]; omega
  | .bn w l a => by
    have := pre_len stop a
    cases stop
    · simp [preS, cS]; exact this
    · simp [preS, cS]
section
variable {P : Program} {w : World} {K : PySem.W.Frag} {mg : Str → Option Value} {base : Heap} {k : Nat} {X : Cx}
theorem b_parts_of (h : DefX P w K mg base k N_parts_of (defScope s_parts_of) X) (c1 : Callee X "sayings_in" C_sayings_in) :
    ∀ ds d, C_parts_of K ds d → EvSs X (ds.map Sl.val ++ List.replicate (N_parts_of.length - ds.length) Sl.un) (defBody s_parts_of) (.rt d) := by
  rintro ds r ⟨s, st, stop, rfl, hs, hst, rfl⟩
  have t := h.at'
  haveI := h.fnT
  show EvSs X [.val (sD s), .val st, .un, .un, .un] _ _
  refine es_cons (s_parNN t 2 3 (en_lst ea_nil) (en_lst (ea_cons (ev_name t 0 rfl) ea_nil)) (by decide)) ?_
  show EvSs X [.val (sD s), .val st, .own [], .own [sD s], .un] _ _
  refine es_whileS (σ := List Sy × List Sy) t (fun z => [.val (sD s), .val st, .own (z.1.map sD), .own (z.2.map sD), .un]) (fun z => (∀ x ∈ z.2, OkS x) ∧ z.1.length + sumS z.2 ≤ 1000 ∧ z.1 ++ z.2.reverse.flatMap (preS stop) = preS stop s) (fun z => z.2 = [] ∧ z.1 = preS stop s) (fun z => sumS z.2) ([], [s])
    ⟨fun x hx => by rw [List.mem_singleton] at hx; rw [hx]; exact hs, by rw [sumS_one]; have := hs.c; simp; omega, by simp⟩ (fun z hI => ?_) (fun z hF => ?_)
  · obtain ⟨dn, ws⟩ := z
    obtain ⟨h1, h2, h3⟩ := hI
    dsimp only at h1 h2 h3 ⊢
    have fl : Fn 55 (.lst (ws.map sD)) := Fn.lst fun x hx => by obtain ⟨y, hy, rfl⟩ := List.mem_map.mp hx; exact (h1 y hy).fn
    have sh : SeqAt.shaped (if true = true then PyData.list (toPs (ws.map sD)) else .tuple (toPs (ws.map sD))) = true := fl.sh (by decide)
    have tst : ∀ {p1 p2 p3 : Pos}, EvT X [.val (sD s), .val st, .own (dn.map sD), .own (ws.map sD), .un] (.Compare (.Name "waiting" p1) [.NotEq] [.List [] p2] p3) (!decide (ws.map sD = [])) := et_neP t (EvQ.p (ev_own t 3 rfl)) (EvE.p (EvN.toE (en_lst ea_nil))) sh rfl (ne_nil _)
    rcases lastS ws with rfl | ⟨ys, y, rfl⟩
    · refine .inl ⟨EvT.eq tst rfl, rfl, ?_⟩
      simpa using h3
    refine .inr ⟨EvT.eq tst (by simp), ?_⟩
    have hy : OkS y := h1 y (by simp)
    rw [sumS_app, sumS_one] at h2
    have hk := kid_sum y
    have cy := cS_pos y
    have pk := pre_kids stop y
    refine .inr ⟨(dn ++ [y], ys ++ (if (stop && bnB y) = true then [] else (kidS y).reverse)), EvSs.weak (ρ1 := [.val (sD s), .val st, .own ((dn ++ [y]).map sD), .own ((ys ++ (if (stop && bnB y) = true then [] else (kidS y).reverse)).map sD), .val (sD y)]) ?_ (.keep (.keep (.keep (.keep (.forget .nil))))), ?_, ?_⟩
    rotate_left
    · dsimp only
      refine ⟨fun x hx => ?_, ?_, ?_⟩
      · rcases List.mem_append.mp hx with q | q
        · exact h1 x (List.mem_append_left _ q)
        · split at q
          · exact nomatch q
          · exact hy.kid (List.mem_reverse.mp q)
      · rw [List.length_append, List.length_singleton, sumS_app]
        split
        · have e0 : sumS [] = 0 := rfl
          rw [e0]; omega
        · rw [sumS_rev]; omega
      · rw [← h3, List.reverse_append, List.reverse_append, List.flatMap_append, List.flatMap_append, List.reverse_singleton, List.flatMap_singleton, pk, List.append_assoc]
        congr 1
        split
        · simp
        · simp
    · dsimp only
      rw [sumS_app, sumS_app, sumS_one]
      split
      · have e0 : sumS [] = 0 := rfl
        rw [e0]; omega
      · rw [sumS_rev]; omega
    rw [List.map_append, List.map_append]
    refine es_cons (s_setPop t 3 4 rfl (by decide)) (es_cons (s_append t 2 rfl (ev_name t 4 rfl) (by rw [List.length_map, sizeLine_eq]; omega)) ?_)
    show EvSs X [.val (sD s), .val st, .own (dn.map sD ++ [sD y]), .own (ys.map sD), .val (sD y)] _ _
    have hN' : ∀ {p1 p2 p3 p4 p5 : Pos} {j : Nat}, EvT X [.val (sD s), .val st, .own (dn.map sD ++ [sD y]), .own (ys.map sD), .val (sD y)] (.Compare (.Subscript (.Name "part" p1) (.Constant (.int 0) j p2) p3) [.NotIn] [.Name "stops" p4] p5) (!(stop && bnB y)) := fun {p1 p2 p3 p4 p5 j} => by
      rcases hst with ⟨rfl, rfl⟩ | ⟨l, rfl, gk, rfl⟩
      · exact et_ninT t (xs := []) (ev_word (ev_name t 4 rfl)) (ev_name t 1 rfl) (cl_str (hW_ok y)) (dpt_str _) rfl rfl
      · exact EvT.eq (et_ninP t (ev_word (ev_name t 4 rfl)).p (EvE.adrP (ev_name t 1 rfl) (by rw [h.k']; exact gk)) (cl_str (hW_ok y)) (dpt_str _) (by decide +kernel) rfl) (congrArg not ((any2 _ _ _).trans (hW_bn y)))
    cases hq : (stop && bnB y) with
    | true =>
      rw [if_pos rfl, List.append_nil]
      exact es_one (s_ifF (EvT.eq hN' (by rw [hq]; rfl)) es_nil)
    | false =>
      rw [if_neg Bool.false_ne_true, List.map_append, List.map_reverse]
      refine es_one (s_ifT (EvT.eq hN' (by rw [hq]; rfl)) (es_one (s_extend t 3 rfl (EvN.toE (en_revL (EvE.ql (ev_call t c1 (ea_cons (ev_name t 4 rfl) ea_nil) ⟨y, rfl, rfl⟩)) (ev_neg ev_int))) ?_)))
      have l1 := len_sumS ys
      have l2 := len_sumS (kidS y)
      rw [List.length_reverse, List.length_map, List.length_map, sizeLine_eq]; omega
  · obtain ⟨dn, ws⟩ := z
    obtain ⟨rfl, e⟩ := hF
    dsimp only at e ⊢
    subst e
    exact es_freeze 2 rfl (es_one (s_ret (ev_name t 2 rfl)))
end
end My

set_option linter.all false
set_option autoImplicit false
set_option maxRecDepth 100000
set_option maxHeartbeats 4000000
namespace My
open PySem L2 L2.EV PyProof.Rows
theorem eqvs_rows : ∀ f g : Bd, PyData.eqvAll (toPs (f.map rowD)) (toPs (g.map rowD)) = decide (f = g)
  | [], [] => by simp [toPs, PyData.eqvAll]
  | [], r :: g => by simp [toPs, PyData.eqvAll]
  | r :: f, [] => by simp [toPs, PyData.eqvAll]
  | r :: f, q :: g => by
    have e1 := eqv_row r q
    have e2 := eqvs_rows f g
    rw [List.map_cons, List.map_cons, toPs, toPs, PyData.eqvAll, e1, e2, ← Bool.decide_and]
    exact decide_eq_decide.mpr (by simp)
theorem eqv_board (f g : Bd) : (toP (boardD f)).eqv (toP (boardD g)) = decide (f = g) := eqvs_rows f g
theorem any_boards (acc : List Bd) (b : Bd) : ((toPs (acc.map boardD)).any fun y => PyData.eqv y (toP (boardD b))) = decide (b ∈ acc) := by
  induction acc with
  | nil => simp [toPs]
  | cons a acc ih =>
    rw [List.map_cons, toPs, List.any_cons, ih, eqv_board, ← Bool.decide_or]
    exact decide_eq_decide.mpr (by rw [List.mem_cons]; exact or_congr eq_comm Iff.rfl)
theorem cl_boards (acc : List Bd) : PyData.canLayAll0 (toPs (acc.map boardD)) = true := (Fn.all (n := 3) fun x hx => by obtain ⟨b, _, rfl⟩ := List.mem_map.mp hx; exact fn_board b).1
def bOf : Sy → List Bd
  | .is b _ => [b]
  | _ => []
theorem pre_bOf (s : Sy) : (preS false s).flatMap bOf = bdS s := pre_bds s
abbrev accB (ps : List Sy) : List Bd := uniqB [] (ps.flatMap bOf)
theorem acc_snoc (ps : List Sy) (p : Sy) : accB (ps ++ [p]) = uniqB (accB ps) (bOf p) := by
  show uniqB [] ((ps ++ [p]).flatMap bOf) = _
  rw [List.flatMap_append, List.flatMap_singleton, uniq_app]
theorem uniq_len : ∀ (xs acc : List Bd), (uniqB acc xs).length ≤ acc.length + xs.length
  | [], acc => Nat.le_refl _
  | x :: xs, acc => by
    have := uniq_len xs (stepB acc x)
    have h2 : (stepB acc x).length ≤ acc.length + 1 := by
      unfold stepB
      split
      · omega
      · rw [List.length_append]; simp
    show (uniqB (stepB acc x) xs).length ≤ _
    rw [List.length_cons]; omega
theorem flat_len : ∀ ps : List Sy, (ps.flatMap bOf).length ≤ ps.length
  | [] => Nat.le_refl _
  | p :: ps => by
    have := flat_len ps
    rw [List.flatMap_cons, List.length_append, List.length_cons]
    have : (bOf p).length ≤ 1 := by cases p <;> simp [bOf]
    omega
section
variable {P : Program} {w : World} {K : PySem.W.Frag} {mg : Str → Option Value} {base : Heap} {k : Nat} {X : Cx}
theorem b_boards_of (h : DefX P w K mg base k N_boards_of (defScope s_boards_of) X) (m_tuple : mg "tuple" = none) (c1 : Callee X "parts_of" (C_parts_of K)) (c2 : Callee X "told_anew" (C_told_anew 3)) :
    ∀ ds d, C_boards_of ds d → EvSs X (ds.map Sl.val ++ List.replicate (N_boards_of.length - ds.length) Sl.un) (defBody s_boards_of) (.rt d) := by
  rintro ds r ⟨s, rfl, hs, rfl⟩
  have t := h.at'
  haveI := h.fnT
  have b1 : Blt X (defScope s_boards_of) "tuple" (.type "tuple") := blt_of (by rw [h.mg']; exact m_tuple)
  show EvSs X [.val (sD s), .un, .un] _ _
  refine es_cons (s_setN t 1 (en_lst ea_nil)) ?_
  show EvSs X [.val (sD s), .own [], .un] _ _
  have hpl := pre_len false s
  have hc := hs.c
  refine es_cons (ρ' := [.val (sD s), .own ((uniqB [] (bdS s)).map boardD), .un]) (s_for t (ei_lst (ev_call t c1 (ea_cons (ev_name t 0 rfl) (ea_cons (ev_tup ea_nil) ea_nil)) ⟨s, .tup [], false, rfl, hs, .inl ⟨rfl, rfl⟩, rfl⟩)) (FRun.uptoE (fun j => [.val (sD s), .own ((accB ((preS false s).take j)).map boardD), .un]) (fun j d hj => ?_) rfl (by rw [List.length_map, List.take_length]; show [_, Sl.own ((uniqB [] ((preS false s).flatMap bOf)).map boardD), _] = _; rw [pre_bOf]))) ?_
  · rw [List.getElem?_map] at hj
    obtain ⟨p, hp, rfl⟩ := Option.map_eq_some_iff.mp hj
    have hjl : j < (preS false s).length := (List.getElem?_eq_some_iff.mp hp).1
    have pok : OkS p := pre_ok hs false p (List.mem_of_getElem? hp)
    have e1 : (preS false s).take (j + 1) = (preS false s).take j ++ [p] := by rw [List.take_succ, hp]; rfl
    have hal : (accB ((preS false s).take j)).length ≤ 1000 := by
      have a1 := uniq_len (((preS false s).take j).flatMap bOf) []
      have a2 := flat_len ((preS false s).take j)
      rw [List.length_take] at a2
      show (uniqB [] _).length ≤ _
      simp only [List.length_nil] at a1
      omega
    refine ⟨_, eg_name t 2, EvSs.weak (ρ1 := [.val (sD s), .own ((accB ((preS false s).take (j + 1))).map boardD), .val (sD p)]) ?_ (.keep (.keep (.forget .nil)))⟩
    rw [e1, acc_snoc]
    generalize accB ((preS false s).take j) = acc at hal
    show EvSs X [.val (sD s), .own (acc.map boardD), .val (sD p)] _ _
    cases p with
    | is b x =>
      have okb : OkB b := pok.b.1
      have fb := fn_board b
      have tst : ∀ {p1 p2 p3 p4 p5 p6 p7 p8 p9 pa pb : Pos} {j j2 j3 : Nat}, EvT X [.val (sD s), .own (acc.map boardD), .val (sD (.is b x))] (.BoolOp .And [.Compare (.Subscript (.Name "part" p1) (.Constant (.int 0) j p2) p3) [.Eq] [.Constant (.str "is") j2 p4] p5, .Compare (.Subscript (.Name "part" p6) (.Constant (.int 1) j3 p7) p8) [.NotIn] [.Name "boards" p9] pa] pb) (!decide (b ∈ acc)) := fun {p1 p2 p3 p4 p5 p6 p7 p8 p9 pa pb j j2 j3} =>
        EvT.eq (et_and2 (EvT.eq (et_eqS t (ev_word (ev_name t 2 rfl)) ev_str (hW_ok (.is b x))) (hW_is (.is b x))) fun _ => et_nin (r := !decide (b ∈ acc)) t (ev_at (s := .is b x) 0 (ev_name t 2 rfl) rfl rfl) 1 rfl fb.1 (by have := fb.2.1; omega) (cl_boards acc) (by rw [any_boards])) rfl
      by_cases hm : b ∈ acc
      · refine EvSs.eq (es_one (s_ifF (EvT.eq tst (by rw [decide_eq_true hm]; rfl)) es_nil)) ?_
        show _ = Out.nx [.val (sD s), .own ((uniqB acc [b]).map boardD), .val (sD (.is b x))]
        rw [show uniqB acc [b] = stepB acc b from rfl, show stepB acc b = acc from if_pos hm]
      · refine EvSs.eq (es_one (s_ifT (EvT.eq tst (by rw [decide_eq_false hm]; rfl)) (es_one (s_append t 1 rfl (ev_call t c2 (ea_cons (ev_at (s := .is b x) 0 (ev_name t 2 rfl) rfl rfl) ea_nil) ⟨boardD b, rfl, tn_board okb.sm, rfl⟩) (by rw [List.length_map, sizeLine_eq]; omega))))) ?_
        show _ = Out.nx [.val (sD s), .own ((uniqB acc [b]).map boardD), .val (sD (.is b x))]
        rw [show uniqB acc [b] = stepB acc b from rfl, show stepB acc b = acc ++ [b] from if_neg hm, List.map_append]; rfl
    | ng a => exact EvSs.eq (es_one (s_ifF (EvT.eq (et_and2 (v := true) (EvT.eq (et_eqS t (ev_word (ev_name t 2 rfl)) ev_str (hW_ok (.ng a))) (hW_is (.ng a))) fun z => by cases z) rfl) es_nil)) rfl
    | jn w a b => exact EvSs.eq (es_one (s_ifF (EvT.eq (et_and2 (v := true) (EvT.eq (et_eqS t (ev_word (ev_name t 2 rfl)) ev_str (hW_ok (.jn w a b))) (hW_is (.jn w a b))) fun z => by cases z) rfl) es_nil)) rfl
    | bn w l a => exact EvSs.eq (es_one (s_ifF (EvT.eq (et_and2 (v := true) (EvT.eq (et_eqS t (ev_word (ev_name t 2 rfl)) ev_str (hW_ok (.bn w l a))) (hW_is (.bn w l a))) fun z => by cases z) rfl) es_nil)) rfl
  exact es_one (s_ret (ev_tuple t b1 (ev_own t 1 rfl)))
end
theorem pre_small {s : Sy} (h : OkS s) (stop : Bool) : ((preS stop s).map sD).length < sizeLine := by
  have := pre_len stop s
  have := h.c
  rw [List.length_map, sizeLine_eq]; omega
theorem bls (g : Sy → Bool) (xs : List Sy) : xs.map (fun p => D.bl (g p)) = (xs.map g).map D.bl := by rw [List.map_map]; rfl
section
variable {P : Program} {w : World} {K : PySem.W.Frag} {mg : Str → Option Value} {base : Heap} {k : Nat} {X : Cx}
theorem b_is_plain (h : DefX P w K mg base k N_is_plain (defScope s_is_plain) X) (m_any : mg "any" = none) (c1 : Callee X "parts_of" (C_parts_of K)) (g1 : Glb mg K "BINDERS" BN) :
    ∀ ds d, C_is_plain ds d → EvSs X (ds.map Sl.val ++ List.replicate (N_is_plain.length - ds.length) Sl.un) (defBody s_is_plain) (.rt d) := by
  rintro ds r ⟨s, rfl, hs, rfl⟩
  have t := h.at'
  haveI := h.fnT
  have b1 : Blt X (defScope s_is_plain) "any" (.builtin "any") := blt_of (by rw [h.mg']; exact m_any)
  obtain ⟨l, gm, gk⟩ := g1
  show EvSs X [.val (sD s)] _ _
  refine es_one (s_ret (EvE.eq (ev_notV (ev_any (bs := (preS false s).map bnB) t b1 (EvN.toQ (EvN.eq (en_comp t ["S", "part"] (csc (by decide +kernel)) (ei_lst (ev_call t c1 (ea_cons (ev_name t 0 rfl) (ea_cons (ev_tup ea_nil) ea_nil)) ⟨s, .tup [], false, rfl, hs, .inl ⟨rfl, rfl⟩, rfl⟩)) (pre_small hs false) fun X' cx => CRun.gen sD (fun p => .bl (bnB p)) (fun p => [.val (sD s), .val (sD p)]) (preS false s) _ (fun p hp => egn_name cx.at' 1) (fun p hp q hq => egn_name cx.at' 1) fun p hp => EvE.eq (ev_inG cx.at' (ev_word (ev_name cx.at' 1 rfl)) (by rw [cx.mg', h.mg']; exact gm) (by rw [cx.k', h.k']; exact gk) (hW_ok p)) (congrArg D.bl (hW_bn p))) (bls _ _))))) ?_))
  rw [List.any_map, ← plain_pre s]; rfl
end
section
variable {P : Program} {w : World} {K : PySem.W.Frag} {mg : Str → Option Value} {base : Heap} {k : Nat} {X : Cx}
theorem b_fits_over (h : DefX P w K mg base k N_fits_over (defScope s_fits_over) X) (c1 : Callee X "letter_stands" C_letter_stands) (c2 : Callee X "is_plain" C_is_plain) (g1 : Glb mg K "BINDERS" BN) :
    ∀ ds d, C_fits_over ds d → EvSs X (ds.map Sl.val ++ List.replicate (N_fits_over.length - ds.length) Sl.un) (defBody s_fits_over) (.rt d) := by
  rintro ds r ⟨s, o, rfl, hs, rfl⟩
  have t := h.at'
  haveI := h.fnT
  obtain ⟨l, gm, gk⟩ := g1
  show EvSs X [.val (sD s), .val (.str (lW o))] _ _
  refine es_if (EvT.eq (et_eqS t (ev_word (ev_name t 0 rfl)) ev_str (hW_ok s)) (hW_is s)) (fun z => ?_) (fun z => ?_)
  · cases s with
    | is b x => exact es_one (s_ret (ev_notV (ev_call t c1 (ea_cons (ev_name t 1 rfl) (ea_cons (ev_at (s := .is b x) 0 (ev_name t 0 rfl) rfl rfl) ea_nil)) ⟨o, b, rfl, hs.b.1.sm.up (by decide), rfl⟩)))
    | _ => cases z
  have nb : ∀ {p1 p2 p3 p4 p5 : Pos} {j : Nat}, EvE X [.val (sD s), .val (.str (lW o))] (.Compare (.Subscript (.Name "part" p1) (.Constant (.int 0) j p2) p3) [.NotIn] [.Name "BINDERS" p4] p5) (.bl (!bnB s)) := EvE.eq (ev_ninP t (ev_word (ev_name t 0 rfl)).p (ev_globP t (by rw [h.mg']; exact gm) (by rw [h.k']; exact gk)) (cl_str (hW_ok s)) (dpt_str _) (by decide +kernel) rfl) (congrArg D.bl (congrArg not ((any2 _ _ _).trans (hW_bn s))))
  cases s with
  | is b x => cases z
  | ng a => exact es_one (s_ret (EvE.eq (ev_or2 (v := true) nb fun y => by cases y) rfl))
  | jn w a b => exact es_one (s_ret (EvE.eq (ev_or2 (v := true) nb fun y => by cases y) rfl))
  | bn w x a =>
    refine es_one (s_ret (EvE.eq (ev_or2 nb fun y => ev_and2 (ev_eqS t (ev_at (s := .bn w x a) 0 (ev_name t 0 rfl) rfl rfl) (ev_name t 1 rfl) (lW_ok x) (lW_ok o)) fun _ => ev_call t c2 (ea_cons (ev_at (s := .bn w x a) 1 (ev_name t 0 rfl) rfl rfl) ea_nil) ⟨a, rfl, hs.kid (by simp [kidS]), rfl⟩) ?_))
    rw [lW_eq]; rfl
end
section
variable {P : Program} {w : World} {K : PySem.W.Frag} {mg : Str → Option Value} {base : Heap} {k : Nat} {X : Cx}
theorem b_is_over (h : DefX P w K mg base k N_is_over (defScope s_is_over) X) (m_all : mg "all" = none) (c1 : Callee X "fits_over" C_fits_over) (c2 : Callee X "parts_of" (C_parts_of K)) (g1 : Glb mg K "BINDERS" BN) :
    ∀ ds d, C_is_over ds d → EvSs X (ds.map Sl.val ++ List.replicate (N_is_over.length - ds.length) Sl.un) (defBody s_is_over) (.rt d) := by
  rintro ds r ⟨s, l, rfl, hs, rfl⟩
  have t := h.at'
  haveI := h.fnT
  have b1 : Blt X (defScope s_is_over) "all" (.builtin "all") := blt_of (by rw [h.mg']; exact m_all)
  obtain ⟨ga, gm, gk⟩ := g1
  show EvSs X [.val (sD s), .val (.str (lW l)), .un] _ _
  refine es_cons (ρ' := [.val (sD s), .val (.str (lW l)), .val (.str (lW (!l)))]) ?_ ?_
  · have e := lW_x l
    cases l with
    | true => exact s_set t 2 (ev_ifT (EvT.eq (et_eqS t (ev_name t 1 rfl) ev_str (lW_ok true)) e) ev_str) (hs := (sww_eq (show X.env.scope = (dE (defScope s_is_over)).scope from t.eS)).trans rfl)
    | false => exact s_set t 2 (ev_ifF (EvT.eq (et_eqS t (ev_name t 1 rfl) ev_str (lW_ok false)) e) ev_str) (hs := (sww_eq (show X.env.scope = (dE (defScope s_is_over)).scope from t.eS)).trans rfl)
  refine es_one (s_ret (EvE.eq (ev_all (bs := (preS true s).map (fitO (!l))) t b1 (EvN.toQ (EvN.eq (en_comp t ["S", "letter", "other", "part"] (csc (by decide +kernel)) (ei_lst (ev_call t c2 (ea_cons (ev_name t 0 rfl) (ea_cons (ev_globA t (by rw [h.mg']; exact gm)) ea_nil)) ⟨s, .adr ga, true, rfl, hs, .inr ⟨ga, rfl, gk, rfl⟩, rfl⟩)) (pre_small hs true) fun X' cx => CRun.gen sD (fun p => .bl (fitO (!l) p)) (fun p => [.val (sD s), .val (.str (lW l)), .val (.str (lW (!l))), .val (sD p)]) (preS true s) _ (fun p hp => egn_name cx.at' 3) (fun p hp q hq => egn_name cx.at' 3) fun p hp => ev_call cx.at' (cx.callee c1) (ea_cons (ev_name cx.at' 3 rfl) (ea_cons (ev_name cx.at' 2 rfl) ea_nil)) ⟨p, !l, rfl, pre_ok hs true p hp, rfl⟩) (bls _ _)))) ?_))
  show _ = D.bl (overS (!l) s)
  rw [List.all_map, ← over_pre]; rfl
end
section
variable {P : Program} {w : World} {K : PySem.W.Frag} {mg : Str → Option Value} {base : Heap} {k : Nat} {X : Cx}
theorem b_fits_closed (h : DefX P w K mg base k N_fits_closed (defScope s_fits_closed) X) (c1 : Callee X "is_over" C_is_over) (c2 : Callee X "letter_stands" C_letter_stands) (g1 : Glb mg K "BINDERS" BN) :
    ∀ ds d, C_fits_closed ds d → EvSs X (ds.map Sl.val ++ List.replicate (N_fits_closed.length - ds.length) Sl.un) (defBody s_fits_closed) (.rt d) := by
  rintro ds r ⟨s, rfl, hs, rfl⟩
  have t := h.at'
  haveI := h.fnT
  obtain ⟨l, gm, gk⟩ := g1
  show EvSs X [.val (sD s)] _ _
  refine es_if (EvT.eq (et_eqS t (ev_word (ev_name t 0 rfl)) ev_str (hW_ok s)) (hW_is s)) (fun z => ?_) (fun z => ?_)
  · cases s with
    | is b x => exact es_one (s_ret (ev_and2 (ev_notV (ev_call t c2 (ea_cons ev_str (ea_cons (ev_at (s := .is b x) 0 (ev_name t 0 rfl) rfl rfl) ea_nil)) ⟨true, b, rfl, hs.b.1.sm.up (by decide), rfl⟩)) fun _ => ev_notV (ev_call t c2 (ea_cons ev_str (ea_cons (ev_at (s := .is b x) 0 (ev_name t 0 rfl) rfl rfl) ea_nil)) ⟨false, b, rfl, hs.b.1.sm.up (by decide), rfl⟩)))
    | _ => cases z
  have nb : ∀ {p1 p2 p3 p4 p5 : Pos} {j : Nat}, EvE X [.val (sD s)] (.Compare (.Subscript (.Name "part" p1) (.Constant (.int 0) j p2) p3) [.NotIn] [.Name "BINDERS" p4] p5) (.bl (!bnB s)) := EvE.eq (ev_ninP t (ev_word (ev_name t 0 rfl)).p (ev_globP t (by rw [h.mg']; exact gm) (by rw [h.k']; exact gk)) (cl_str (hW_ok s)) (dpt_str _) (by decide +kernel) rfl) (congrArg D.bl (congrArg not ((any2 _ _ _).trans (hW_bn s))))
  cases s with
  | is b x => cases z
  | ng a => exact es_one (s_ret (EvE.eq (ev_or2 (v := true) nb fun y => by cases y) rfl))
  | jn w a b => exact es_one (s_ret (EvE.eq (ev_or2 (v := true) nb fun y => by cases y) rfl))
  | bn w x a =>
    exact es_one (s_ret (EvE.eq (ev_or2 nb fun y => ev_call t c1 (ea_cons (ev_at (s := .bn w x a) 1 (ev_name t 0 rfl) rfl rfl) (ea_cons (ev_at (s := .bn w x a) 0 (ev_name t 0 rfl) rfl rfl) ea_nil)) ⟨a, x, rfl, hs.kid (by simp [kidS]), rfl⟩) rfl))
end
section
variable {P : Program} {w : World} {K : PySem.W.Frag} {mg : Str → Option Value} {base : Heap} {k : Nat} {X : Cx}
theorem b_is_closed (h : DefX P w K mg base k N_is_closed (defScope s_is_closed) X) (m_all : mg "all" = none) (c1 : Callee X "fits_closed" C_fits_closed) (c2 : Callee X "parts_of" (C_parts_of K)) (g1 : Glb mg K "BINDERS" BN) :
    ∀ ds d, C_is_closed ds d → EvSs X (ds.map Sl.val ++ List.replicate (N_is_closed.length - ds.length) Sl.un) (defBody s_is_closed) (.rt d) := by
  rintro ds r ⟨s, rfl, hs, rfl⟩
  have t := h.at'
  haveI := h.fnT
  have b1 : Blt X (defScope s_is_closed) "all" (.builtin "all") := blt_of (by rw [h.mg']; exact m_all)
  obtain ⟨ga, gm, gk⟩ := g1
  show EvSs X [.val (sD s)] _ _
  refine es_one (s_ret (EvE.eq (ev_all (bs := (preS true s).map fitC) t b1 (EvN.toQ (EvN.eq (en_comp t ["S", "part"] (csc (by decide +kernel)) (ei_lst (ev_call t c2 (ea_cons (ev_name t 0 rfl) (ea_cons (ev_globA t (by rw [h.mg']; exact gm)) ea_nil)) ⟨s, .adr ga, true, rfl, hs, .inr ⟨ga, rfl, gk, rfl⟩, rfl⟩)) (pre_small hs true) fun X' cx => CRun.gen sD (fun p => .bl (fitC p)) (fun p => [.val (sD s), .val (sD p)]) (preS true s) _ (fun p hp => egn_name cx.at' 1) (fun p hp q hq => egn_name cx.at' 1) fun p hp => ev_call cx.at' (cx.callee c1) (ea_cons (ev_name cx.at' 1 rfl) ea_nil) ⟨p, rfl, pre_ok hs true p hp, rfl⟩) (bls _ _)))) ?_))
  rw [List.all_map, ← clos_pre]; rfl
end
end My

set_option linter.all false
set_option autoImplicit false
set_option maxRecDepth 100000
set_option maxHeartbeats 4000000
namespace My
open PySem L2 L2.EV PyProof.Rows
def pickF (ns : List Int) : Int := ns.getLast?.getD 0
def S6r : List (List Int) := [[-1], [0], [1], [-1, 0], [0, 1], [-1, 1]]
def isS (bs : List Bd) (ns : List Int) : Sy := .is (bs.getD (pickF ns / 6 % (bs.length : Int)).toNat []) (S6r.getD (pickF ns % 6).toNat [])
def saidS (bs : List Bd) : Nat → List Int → Sy × List Int
  | 0, ns => (isS bs ns.dropLast, ns.dropLast.dropLast)
  | m + 1, ns =>
    if pickF ns % 6 = 0 then (isS bs ns.dropLast, ns.dropLast.dropLast)
    else if pickF ns % 6 = 1 then (.ng (saidS bs m ns.dropLast).1, (saidS bs m ns.dropLast).2)
    else if pickF ns % 6 < 4 then (.jn (decide (pickF ns % 2 = 0)) (saidS bs m ns.dropLast).1 (saidS bs m (saidS bs m ns.dropLast).2).1, (saidS bs m (saidS bs m ns.dropLast).2).2)
    else (.bn (decide (pickF ns % 2 = 0)) (decide (pickF ns / 6 % 2 = 0)) (saidS bs m ns.dropLast).1, (saidS bs m ns.dropLast).2)
abbrev iL (ns : List Int) : List D := ns.map D.int
def C__law_pick (ds xs : List D) (d : D) (xs' : List D) : Prop := ∃ ns : List Int, ds = [] ∧ xs = iL ns ∧ d = .int (pickF ns) ∧ xs' = iL ns.dropLast
theorem len__law_pick : ∀ ds xs d xs', C__law_pick ds xs d xs' → ds.length + 1 = 1 := by rintro _ _ _ _ ⟨_, rfl, _⟩; rfl
def C__law_is (ds xs : List D) (d : D) (xs' : List D) : Prop := ∃ (bs : List Bd) (ns : List Int), ds = [.lst (bs.map boardD)] ∧ bs ≠ [] ∧ bs.length ≤ 1000 ∧ xs = iL ns ∧ d = sD (isS bs ns) ∧ xs' = iL ns.dropLast
theorem len__law_is : ∀ ds xs d xs', C__law_is ds xs d xs' → ds.length + 1 = 2 := by rintro _ _ _ _ ⟨_, _, rfl, _⟩; rfl
def C__law_said : Nat → List D → List D → D → List D → Prop
  | 0, _, _, _, _ => False
  | n + 1, ds, xs, d, xs' => ∃ (bs : List Bd) (m : Nat) (ns : List Int), ds = [.lst (bs.map boardD), .int (m : Int)] ∧ m ≤ n ∧ bs ≠ [] ∧ bs.length ≤ 1000 ∧ xs = iL ns ∧ d = sD (saidS bs m ns).1 ∧ xs' = iL (saidS bs m ns).2
theorem len__law_said : ∀ n ds xs d xs', C__law_said n ds xs d xs' → ds.length + 1 = 3
  | 0, _, _, _, _, h => h.elim
  | n + 1, _, _, _, _, ⟨_, _, _, h, _⟩ => by rw [h]; rfl
theorem at6r (x : Int) : atI [rowD [-1], rowD [0], rowD [1], rowD [-1, 0], rowD [0, 1], rowD [-1, 1]] (x % 6) = some (rowD (S6r.getD (x % 6).toNat [])) := by
  have h : x % 6 = 0 ∨ x % 6 = 1 ∨ x % 6 = 2 ∨ x % 6 = 3 ∨ x % 6 = 4 ∨ x % 6 = 5 := by omega
  rcases h with e | e | e | e | e | e <;> rw [e] <;> rfl
theorem at2w {u v : Str} {f : Bool → Str} (hu : f true = u) (hv : f false = v) (i : Int) : atI [D.str u, .str v] (i % 2) = some (.str (f (decide (i % 2 = 0)))) := by
  have h : i % 2 = 0 ∨ i % 2 = 1 := by omega
  rcases h with e | e
  · rw [e, decide_eq_true rfl, hu]; rfl
  · rw [e, decide_eq_false (by omega), hv]; rfl
theorem atL {z : Str} {a b : Nat} {f : Bool → Str} (hz : z.cps.toList = [a, b]) (hu : f true = ⟨#[a]⟩) (hv : f false = ⟨#[b]⟩) (i : Int) : ∃ c, atI z.cps.toList (i % 2) = some c ∧ (⟨#[c]⟩ : Str) = f (decide (i % 2 = 0)) := by
  rw [hz]
  have h : i % 2 = 0 ∨ i % 2 = 1 := by omega
  rcases h with e | e
  · exact ⟨a, by rw [e]; rfl, by rw [e, decide_eq_true rfl, hu]⟩
  · exact ⟨b, by rw [e]; rfl, by rw [e, decide_eq_false (by omega), hv]⟩
section
variable {X : Cx} {ρ : Rho} {b : Expr} {pos p : Pos} {j : Nat}
/-- 'xy'[i % 2], 'yx'[i % 2] -/
theorem ev_xy {i : Int} (hb : EvE X ρ b (.int (i % 2))) (hs : PlainIx b := by intro _ _; rfl) : EvE X ρ (.Subscript (.Constant (.str "xy") j p) b pos) (.str (lW (decide (i % 2 = 0)))) := by
  obtain ⟨c, h1, h2⟩ := atL (z := "xy") (a := 120) (b := 121) (f := lW) (by decide +kernel) (by decide +kernel) (by decide +kernel) i
  exact EvE.eq (ev_ixS ev_str hb (by decide +kernel) h1 hs) (by rw [h2])
theorem ev_yx {i : Int} (hb : EvE X ρ b (.int (i % 2))) (hs : PlainIx b := by intro _ _; rfl) : EvE X ρ (.Subscript (.Constant (.str "yx") j p) b pos) (.str (lW (!decide (i % 2 = 0)))) := by
  obtain ⟨c, h1, h2⟩ := atL (z := "yx") (a := 121) (b := 120) (f := fun l => lW (!l)) (by decide +kernel) (by decide +kernel) (by decide +kernel) i
  exact EvE.eq (ev_ixS ev_str hb (by decide +kernel) h1 hs) (by rw [h2])
end
section
variable {P : Program} {w : World} {K : PySem.W.Frag} {mg : Str → Option Value} {base : Heap} {k : Nat} {X : Cx}
theorem bs__law_pick (h : DefX P w K mg base k N__law_pick (defScope s__law_pick) X)  :
    ∀ q ds xs d xs', C__law_pick ds xs d xs' → EvM X q (.val (.stt q) :: ds.map Sl.val ++ List.replicate (N__law_pick.length - (ds.length + 1)) Sl.un) (defBody s__law_pick) (.rt d) xs xs' := by
  rintro q ds xs d xs' ⟨ns, rfl, rfl, rfl, rfl⟩
  have t := h.at'
  haveI := h.fnT
  show EvM X q [.val (.stt q)] _ _ _ _
  rcases intsI ns with rfl | ⟨m, i, rfl⟩
  · exact m_end (m_ifT (tl_empty t 0 rfl (ns := []) rfl rfl) (m_one (m_retM (EvE.em ev_int))))
  · refine m_cons (m_ifF (tl_empty t 0 rfl (ns := m ++ [i]) rfl (by cases m <;> rfl)) m_nil) (m_one (m_retM (em_pop t 0 rfl ?_)))
    rw [List.dropLast_concat]
    show iL (m ++ [i]) = iL m ++ [.int (pickF (m ++ [i]))]
    unfold pickF iL
    rw [List.getLast?_concat, List.map_append]; rfl
end
section
variable {P : Program} {w : World} {K : PySem.W.Frag} {mg : Str → Option Value} {base : Heap} {k : Nat} {X : Cx}
theorem bs__law_is (h : DefX P w K mg base k N__law_is (defScope s__law_is) X) (m_len : mg "len" = none) (c1 : CalleeS X "_law_pick" C__law_pick) :
    ∀ q ds xs d xs', C__law_is ds xs d xs' → EvM X q (.val (.stt q) :: ds.map Sl.val ++ List.replicate (N__law_is.length - (ds.length + 1)) Sl.un) (defBody s__law_is) (.rt d) xs xs' := by
  rintro q ds xs d xs' ⟨bs, ns, rfl, hb, hb2, rfl, rfl, rfl⟩
  have t := h.at'
  haveI := h.fnT
  have b1 : Blt X (defScope s__law_is) "len" (.builtin "len") := blt_of (by rw [h.mg']; exact m_len)
  show EvM X q [.val (.stt q), .val (.lst (bs.map boardD)), .un, .un] _ _ _ _
  have hl : 0 < bs.length := List.length_pos_iff.mpr hb
  refine m_cons (m_setM t 2 (em_call t c1 (EvA.am (ea_cons (ev_name t 0 rfl) ea_nil)) ⟨ns, rfl, rfl, rfl, rfl⟩)) ?_
  refine m_cons (EvS.m (s_set t 3 (ev_ix (EvN.toQ (en_lst (ea_cons (ev_tup (ea_cons (ev_neg ev_int) ea_nil)) (ea_cons (ev_tup (ea_cons ev_int ea_nil)) (ea_cons (ev_tup (ea_cons ev_int ea_nil)) (ea_cons (ev_tup (ea_cons (ev_neg ev_int) (ea_cons ev_int ea_nil))) (ea_cons (ev_tup (ea_cons ev_int (ea_cons ev_int ea_nil))) (ea_cons (ev_tup (ea_cons (ev_neg ev_int) (ea_cons ev_int ea_nil))) ea_nil)))))))) (ev_modP (ev_name t 2 rfl) ev_int (by decide)) (at6r _)))) ?_
  refine EvSs.m (es_one (s_ret (ev_tup (ea_cons ev_str (ea_cons (ev_ix (EvE.ql (ev_name t 1 rfl)) (ev_modP (ev_divP t (ev_name t 2 rfl) ev_int (by decide)) (ev_len t b1 (EvE.ql (ev_name t 1 rfl))) (by rw [List.length_map]; omega)) ?_) (ea_cons (ev_name t 3 rfl) ea_nil))))))
  rw [at_mod (m := (bs.map boardD).length) rfl (by rw [List.length_map]; exact hl) (boardD []), List.length_map]
  congr 1
  rw [List.getD_eq_getElem?_getD, List.getD_eq_getElem?_getD, List.getElem?_map]
  cases bs[(pickF ns / 6 % (bs.length : Int)).toNat]? <;> rfl
end
section
variable {P : Program} {w : World} {K : PySem.W.Frag} {mg : Str → Option Value} {base : Heap} {k : Nat} {X : Cx}
theorem bs__law_said (h : DefX P w K mg base k N__law_said (defScope s__law_said) X) (c1 : CalleeS X "_law_pick" C__law_pick) (c2 : CalleeS X "_law_is" C__law_is) (n : Nat) (c3 : CalleeS X "_law_said" (C__law_said n)) :
    ∀ q ds xs d xs', C__law_said (n + 1) ds xs d xs' → EvM X q (.val (.stt q) :: ds.map Sl.val ++ List.replicate (N__law_said.length - (ds.length + 1)) Sl.un) (defBody s__law_said) (.rt d) xs xs' := by
  rintro q ds xs d xs' ⟨bs, m, ns, rfl, hm, hb, hb2, rfl, rfl, rfl⟩
  have t := h.at'
  haveI := h.fnT
  show EvM X q [.val (.stt q), .val (.lst (bs.map boardD)), .val (.int m), .un, .un] _ _ _ _
  refine m_cons (m_setM t 3 (em_call t c1 (EvA.am (ea_cons (ev_name t 0 rfl) ea_nil)) ⟨ns, rfl, rfl, rfl, rfl⟩)) ?_
  show EvM X q [.val (.stt q), .val (.lst (bs.map boardD)), .val (.int m), .val (.int (pickF ns)), .un] _ _ _ _
  have x6 : ∀ {p1 p2 p3 : Pos} {j : Nat}, EvE X [.val (.stt q), .val (.lst (bs.map boardD)), .val (.int m), .val (.int (pickF ns)), .un] (.BinOp (.Name "_law_x" p1) .Mod (.Constant (.int 6) j p2) p3) (.int (pickF ns % 6)) := ev_modP (ev_name t 3 rfl) ev_int (by decide)
  by_cases h0 : m = 0 ∨ pickF ns % 6 = 0
  · have e : saidS bs m ns = (isS bs ns.dropLast, ns.dropLast.dropLast) := by
      cases m with
      | zero => rfl
      | succ m => rcases h0 with z | z
                  · cases z
                  · show (if _ then _ else _) = _; rw [if_pos z]
    rw [e]
    refine m_end (m_ifT (EvT.l (EvT.eq (et_or2 (et_eqI (ev_name t 2 rfl) ev_int) fun _ => et_eqI x6 ev_int) ?_)) (m_one (m_retM (em_call t c2 (EvA.am (ea_cons (ev_name t 0 rfl) (ea_cons (ev_name t 1 rfl) ea_nil))) ⟨bs, ns.dropLast, rfl, hb, hb2, rfl, rfl, rfl⟩))))
    rcases h0 with z | z
    · subst z; rfl
    · rw [decide_eq_true z, Bool.or_true]
  obtain ⟨m, rfl⟩ : ∃ r, m = r + 1 := ⟨m - 1, by omega⟩
  have hx : ¬ pickF ns % 6 = 0 := fun z => h0 (.inr z)
  have dd : ∀ {p1 p2 p3 : Pos} {j : Nat} {s : Sl}, EvE X [.val (.stt q), .val (.lst (bs.map boardD)), .val (.int ((m + 1 : Nat) : Int)), .val (.int (pickF ns)), s] (.BinOp (.Name "_law_deep" p1) .Sub (.Constant (.int 1) j p2) p3) (.int (m : Nat)) := EvE.eq (ev_sub (ev_name t 2 rfl) ev_int) (by rw [show ((m + 1 : Nat) : Int) - 1 = (m : Nat) by omega])
  obtain ⟨n, rfl⟩ : ∃ r, n = r + 1 := ⟨n - 1, by omega⟩
  have cc : ∀ ms : List Int, C__law_said (n + 1) [.lst (bs.map boardD), .int (m : Int)] (iL ms) (sD (saidS bs m ms).1) (iL (saidS bs m ms).2) := fun ms => ⟨bs, m, ms, rfl, by omega, hb, hb2, rfl, rfl, rfl⟩
  refine m_cons (m_ifF (EvT.l (EvT.eq (et_or2 (et_eqI (ev_name t 2 rfl) ev_int) fun _ => et_eqI x6 ev_int) (by rw [decide_eq_false hx, decide_eq_false (by omega)]; rfl))) m_nil) ?_
  have call : ∀ (ms : List Int) {p1 p2 p3 p4 p5 p6 p7 : Pos} {j : Nat} {s : Sl}, EvEM X q [.val (.stt q), .val (.lst (bs.map boardD)), .val (.int ((m + 1 : Nat) : Int)), .val (.int (pickF ns)), s] (.Call (.Name "_law_said" p1) [.Name "_law_state" p2, .Name "_law_boards_here" p3, .BinOp (.Name "_law_deep" p4) .Sub (.Constant (.int 1) j p5) p6] [] p7) (sD (saidS bs m ms).1) (iL ms) (iL (saidS bs m ms).2) := fun ms => em_call t c3 (EvA.am (ea_cons (ev_name t 0 rfl) (ea_cons (ev_name t 1 rfl) (ea_cons dd ea_nil)))) (cc ms)
  show EvM X q _ _ (.rt (sD (if _ then _ else if _ then _ else if _ then _ else _ : Sy × List Int).1)) _ (iL (if _ then _ else if _ then _ else if _ then _ else _ : Sy × List Int).2)
  rw [if_neg hx]
  by_cases h1 : pickF ns % 6 = 1
  · rw [if_pos h1]
    exact m_end (m_ifT (EvT.l (EvT.eq (et_eqI x6 ev_int) (decide_eq_true h1))) (m_one (m_retM (em_tup (am_cons (EvE.em ev_str) (am_cons (call ns.dropLast) (EvA.am ea_nil)))))))
  rw [if_neg h1]
  refine m_cons (m_ifF (EvT.l (EvT.eq (et_eqI x6 ev_int) (decide_eq_false h1))) m_nil) ?_
  by_cases h4 : pickF ns % 6 < 4
  · rw [if_pos h4]
    refine m_end (m_ifT (EvT.l (EvT.eq (et_lt x6 ev_int) (decide_eq_true h4))) (m_cons (m_setM t 4 (call ns.dropLast)) (m_one (m_retM (em_tup (am_cons (EvE.em (ev_ix (EvN.toQ (en_lst (ea_cons ev_str (ea_cons ev_str ea_nil)))) (ev_modP (ev_name t 3 rfl) ev_int (by decide)) (at2w (f := jW) rfl rfl _))) (am_cons (EvE.em (ev_name t 4 rfl)) (am_cons (call _) (EvA.am ea_nil)))))))))
  rw [if_neg h4]
  refine m_cons (m_ifF (EvT.l (EvT.eq (et_lt x6 ev_int) (decide_eq_false h4))) m_nil) ?_
  exact m_one (m_retM (em_tup (am_cons (EvE.em (ev_ix (EvN.toQ (en_lst (ea_cons ev_str (ea_cons ev_str ea_nil)))) (ev_modP (ev_name t 3 rfl) ev_int (by decide)) (at2w (f := bW) rfl rfl _))) (am_cons (EvE.em (ev_xy (ev_modP (ev_divP t (ev_name t 3 rfl) ev_int (by decide)) ev_int (by decide)))) (am_cons (call _) (EvA.am ea_nil))))))
end
end My

set_option linter.all false
set_option autoImplicit false
set_option maxRecDepth 100000
set_option maxHeartbeats 4000000
namespace My
open PySem L2 L2.EV PyProof.Rows
def sel3 (a b c : Sy) (i : Int) : Sy := if i % 3 = 0 then a else if i % 3 = 1 then b else c
theorem at3 (a b c : Sy) (i : Int) : atI [sD a, sD b, sD c] (i % 3) = some (sD (sel3 a b c i)) := by
  have h : i % 3 = 0 ∨ i % 3 = 1 ∨ i % 3 = 2 := by omega
  unfold sel3
  rcases h with e | e | e
  · rw [if_pos e, e]; rfl
  · rw [if_neg (by omega), if_pos e, e]; rfl
  · rw [if_neg (by omega), if_neg (by omega), e]; rfl
def plS (bs : List Bd) (ns : List Int) : Sy := sel3 (isS bs ns.dropLast) (.ng (isS bs ns.dropLast)) (.jn true (isS bs ns.dropLast) (isS bs ns.dropLast.dropLast)) (pickF ns / 2)
def smS (bs : List Bd) (ns : List Int) : Sy := sel3 (plS bs ns) (.bn true (!decide (pickF ns % 2 = 0)) (plS bs ns)) (.jn false (.bn false (!decide (pickF ns % 2 = 0)) (plS bs ns)) (isS bs ns.dropLast.dropLast.dropLast)) (pickF ns / 6)
def kindS (bs : List Bd) (way : Nat) (ns : List Int) : Sy × List Int :=
  if way = 0 then saidS bs 4 ns
  else if way = 1 then (smS bs ns, ns.dropLast.dropLast.dropLast.dropLast)
  else (.jn true (.bn (decide (pickF ns / 18 % 2 = 0)) (decide (pickF ns % 2 = 0)) (smS bs ns)) (.ng (.bn true (decide (pickF ns / 36 % 2 = 0)) (plS bs ns))), ns.dropLast.dropLast.dropLast.dropLast)
def C__law_kind (ds xs : List D) (d : D) (xs' : List D) : Prop := ∃ (bs : List Bd) (way : Nat) (ns : List Int), ds = [.lst (bs.map boardD), .int (way : Int)] ∧ bs ≠ [] ∧ bs.length ≤ 1000 ∧ xs = iL ns ∧ d = sD (kindS bs way ns).1 ∧ xs' = iL (kindS bs way ns).2
theorem len__law_kind : ∀ ds xs d xs', C__law_kind ds xs d xs' → ds.length + 1 = 3 := by rintro _ _ _ _ ⟨_, _, _, rfl, _⟩; rfl
section
variable {P : Program} {w : World} {K : PySem.W.Frag} {mg : Str → Option Value} {base : Heap} {k : Nat} {X : Cx}
theorem bs__law_kind (h : DefX P w K mg base k N__law_kind (defScope s__law_kind) X) (c1 : CalleeS X "_law_pick" C__law_pick) (c2 : CalleeS X "_law_is" C__law_is) (c3 : CalleeS X "_law_said" (C__law_said 5)) :
    ∀ q ds xs d xs', C__law_kind ds xs d xs' → EvM X q (.val (.stt q) :: ds.map Sl.val ++ List.replicate (N__law_kind.length - (ds.length + 1)) Sl.un) (defBody s__law_kind) (.rt d) xs xs' := by
  rintro q ds xs d xs' ⟨bs, way, ns, rfl, hb, hb2, rfl, rfl, rfl⟩
  have t := h.at'
  haveI := h.fnT
  show EvM X q [.val (.stt q), .val (.lst (bs.map boardD)), .val (.int way), .un, .un, .un, .un, .un, .un] _ _ _ _
  by_cases h0 : way = 0
  · subst h0
    refine m_end (m_ifT (EvT.l (EvT.eq (et_eqI (ev_name t 2 rfl) ev_int) rfl)) (m_one (m_retM (em_call t c3 (EvA.am (ea_cons (ev_name t 0 rfl) (ea_cons (ev_name t 1 rfl) (ea_cons ev_int ea_nil)))) ⟨bs, 4, ns, rfl, Nat.le_refl _, hb, hb2, rfl, rfl, rfl⟩))))
  refine m_cons (m_ifF (EvT.l (EvT.eq (et_eqI (ev_name t 2 rfl) ev_int) (decide_eq_false (by omega)))) m_nil) ?_
  have ci : ∀ (ms : List Int) {p1 p2 p3 p4 : Pos} {ρ : Rho}, ρ[0]? = some (.val (.stt q)) → ρ[1]? = some (.val (.lst (bs.map boardD))) → EvEM X q ρ (.Call (.Name "_law_is" p1) [.Name "_law_state" p2, .Name "_law_boards_here" p3] [] p4) (sD (isS bs ms)) (iL ms) (iL ms.dropLast) := fun ms {p1 p2 p3 p4 ρ} r0 r1 => em_call t c2 (EvA.am (ea_cons (ev_name t 0 r0) (ea_cons (ev_name t 1 r1) ea_nil))) ⟨bs, ms, rfl, hb, hb2, rfl, rfl, rfl⟩
  refine m_cons (m_setM t 3 (em_call t c1 (EvA.am (ea_cons (ev_name t 0 rfl) ea_nil)) ⟨ns, rfl, rfl, rfl, rfl⟩)) ?_
  refine m_cons (EvS.m (s_set t 4 (ev_xy (ev_modP (ev_name t 3 rfl) ev_int (by decide))))) ?_
  refine m_cons (m_setM t 5 (ci ns.dropLast rfl rfl)) ?_
  refine m_cons (m_setM t 6 (d := sD (plS bs ns)) (em_ixL (em_lst (am_cons (EvE.em (ev_name t 5 rfl)) (am_cons (EvE.em (ev_tup (ea_cons ev_str (ea_cons (ev_name t 5 rfl) ea_nil)))) (am_cons (em_tup (am_cons (EvE.em ev_str) (am_cons (EvE.em (ev_name t 5 rfl)) (am_cons (ci ns.dropLast.dropLast rfl rfl) (EvA.am ea_nil))))) (EvA.am ea_nil))))) (EvE.em (ev_modP (ev_divP t (ev_name t 3 rfl) ev_int (by decide)) ev_int (by decide))) (at3 (isS bs ns.dropLast) (.ng (isS bs ns.dropLast)) (.jn true (isS bs ns.dropLast) (isS bs ns.dropLast.dropLast)) (pickF ns / 2)))) ?_
  refine m_cons (EvS.m (s_set t 7 (ev_yx (ev_modP (ev_name t 3 rfl) ev_int (by decide))))) ?_
  refine m_cons (m_setM t 8 (d := sD (smS bs ns)) (em_ixL (em_lst (am_cons (EvE.em (ev_name t 6 rfl)) (am_cons (EvE.em (ev_tup (ea_cons ev_str (ea_cons (ev_name t 7 rfl) (ea_cons (ev_name t 6 rfl) ea_nil))))) (am_cons (em_tup (am_cons (EvE.em ev_str) (am_cons (EvE.em (ev_tup (ea_cons ev_str (ea_cons (ev_name t 7 rfl) (ea_cons (ev_name t 6 rfl) ea_nil))))) (am_cons (ci ns.dropLast.dropLast.dropLast rfl rfl) (EvA.am ea_nil))))) (EvA.am ea_nil))))) (EvE.em (ev_modP (ev_divP t (ev_name t 3 rfl) ev_int (by decide)) ev_int (by decide))) (at3 (plS bs ns) (.bn true (!decide (pickF ns % 2 = 0)) (plS bs ns)) (.jn false (.bn false (!decide (pickF ns % 2 = 0)) (plS bs ns)) (isS bs ns.dropLast.dropLast.dropLast)) (pickF ns / 6)))) ?_
  show EvM X q [.val (.stt q), .val (.lst (bs.map boardD)), .val (.int way), .val (.int (pickF ns)), .val (.str (lW (decide (pickF ns % 2 = 0)))), .val (sD (isS bs ns.dropLast)), .val (sD (plS bs ns)), .val (.str (lW (!decide (pickF ns % 2 = 0)))), .val (sD (smS bs ns))] _ _ _ _
  unfold kindS
  rw [if_neg h0]
  by_cases h1 : way = 1
  · subst h1
    exact m_end (m_ifT (EvT.l (EvT.eq (et_eqI (ev_name t 2 rfl) ev_int) rfl)) (m_one (m_retM (EvE.em (ev_name t 8 rfl)))))
  rw [if_neg h1]
  refine m_cons (m_ifF (EvT.l (EvT.eq (et_eqI (ev_name t 2 rfl) ev_int) (decide_eq_false (by omega)))) m_nil) ?_
  refine m_one (m_retM (EvE.em ?_))
  refine ev_tup (ea_cons ev_str (ea_cons (d := sD (.bn (decide (pickF ns / 18 % 2 = 0)) (decide (pickF ns % 2 = 0)) (smS bs ns))) ?_ (ea_cons (d := sD (.ng (.bn true (decide (pickF ns / 36 % 2 = 0)) (plS bs ns)))) ?_ ea_nil)))
  · exact ev_tup (ea_cons (ev_ix (EvN.toQ (en_lst (ea_cons ev_str (ea_cons ev_str ea_nil)))) (ev_modP (ev_divP t (ev_name t 3 rfl) ev_int (by decide)) ev_int (by decide)) (at2w (f := bW) rfl rfl _)) (ea_cons (ev_name t 4 rfl) (ea_cons (ev_name t 8 rfl) ea_nil)))
  · exact ev_tup (ea_cons ev_str (ea_cons (ev_tup (ea_cons ev_str (ea_cons (ev_xy (ev_modP (ev_divP t (ev_name t 3 rfl) ev_int (by decide)) ev_int (by decide))) (ea_cons (ev_name t 6 rfl) ea_nil)))) ea_nil))
end
def r0F (x : Int) : List Int := if x % 9 = 4 then [] else [x % 9 - 4]
def spW (k : Nat) (x : Int) : KVs := if x % 4 = 0 then [([0, 1], 1 + (k : Int))] else if x % 4 = 1 then [([1, 0], 1 + (k : Int))] else if x % 4 = 2 then [([0, 0], 1 + (k : Int))] else [([1, 1], 1 + (k : Int))]
theorem at4 (k : Nat) (x : Int) : atI [D.dic [([0, 1], 1 + (k : Int))], .dic [([1, 0], 1 + (k : Int))], .dic [([0, 0], 1 + (k : Int))], .dic [([1, 1], 1 + (k : Int))]] (x % 4) = some (.dic (spW k x)) := by
  have h : x % 4 = 0 ∨ x % 4 = 1 ∨ x % 4 = 2 ∨ x % 4 = 3 := by omega
  unfold spW
  rcases h with e | e | e | e
  · rw [if_pos e, e]; rfl
  · rw [if_neg (by omega), if_pos e, e]; rfl
  · rw [if_neg (by omega), if_neg (by omega), if_pos e, e]; rfl
  · rw [if_neg (by omega), if_neg (by omega), if_neg (by omega), e]; rfl
def oneW (k : Nat) (x : Int) : Sy := .is (boardOf (spW k x)) (S6r.getD (x / 4 % 6).toNat [])
def wideS (xs : List Int) : Nat → Sy
  | 0 => .is [r0F (xs.getD 1 0), [1]] [0]
  | k + 1 => if xs.getD (k + 2) 0 / 48 % 2 = 0 then .jn (decide (xs.getD (k + 2) 0 / 24 % 2 = 0)) (wideS xs k) (oneW (k + 1) (xs.getD (k + 2) 0)) else .jn (decide (xs.getD (k + 2) 0 / 24 % 2 = 0)) (oneW (k + 1) (xs.getD (k + 2) 0)) (wideS xs k)
def C__law_wide (ds : List D) (r : D) : Prop := ∃ xs : List Int, ds = [intsD xs] ∧ xs.length = 42 ∧ r = sD (wideS xs (xs.getD 0 0 % 40).toNat)
theorem len__law_wide : ∀ ds d, C__law_wide ds d → ds.length = 1 := by rintro _ _ ⟨_, rfl, _⟩; rfl
section
variable {P : Program} {w : World} {K : PySem.W.Frag} {mg : Str → Option Value} {base : Heap} {k : Nat} {X : Cx}
theorem b__law_wide (h : DefX P w K mg base k N__law_wide (defScope s__law_wide) X) (m_range : mg "range" = none) (m_int : mg "int" = none) (c1 : Callee X "_law_board_of" C__law_board_of) :
    ∀ ds d, C__law_wide ds d → EvSs X (ds.map Sl.val ++ List.replicate (N__law_wide.length - ds.length) Sl.un) (defBody s__law_wide) (.rt d) := by
  rintro ds r ⟨xs, rfl, hl, rfl⟩
  have t := h.at'
  haveI := h.fnT
  have b1 : Blt X (defScope s__law_wide) "range" (.type "range") := blt_of (by rw [h.mg']; exact m_range)
  have b2 : Blt X (defScope s__law_wide) "int" (.type "int") := blt_of (by rw [h.mg']; exact m_int)
  show EvSs X [.val (intsD xs), .un, .un, .un, .un, .un, .un, .un] _ _
  have ix : ∀ (m : Nat) {i : Int} {ρ : Rho} {p1 p2 p3 : Pos} {j : Nat}, m < 42 → i = (m : Int) → ρ[0]? = some (.val (intsD xs)) → EvE X ρ (.Subscript (.Name "_law_xs" p1) (.Constant (.int i) j p2) p3) (.int (xs.getD m 0)) := fun m {i ρ p1 p2 p3 j} hm hi hr => ev_ix (EvE.ql (ev_name t 0 hr)) ev_int (by subst hi; exact at_nat (by omega))
  refine es_cons (s_set t 1 (d := sD (wideS xs 0)) ?_) ?_
  · refine ev_tup (ea_cons ev_str (ea_cons (d := boardD [r0F (xs.getD 1 0), [1]]) ?_ (ea_cons (ev_tup (ea_cons ev_int ea_nil)) ea_nil)))
    refine ev_tup (ea_cons (d := rowD (r0F (xs.getD 1 0))) ?_ (ea_cons (ev_tup (ea_cons ev_int ea_nil)) ea_nil))
    refine ev_once (ev_tup (ea_cons (ev_sub (ev_modP (ix 1 (by decide) rfl rfl) ev_int (by decide)) ev_int) ea_nil)) (ev_intB t b2 (ev_neI t (ev_modP (ix 1 (by decide) rfl rfl) ev_int (by decide)) ev_int)) ?_
    unfold r0F
    by_cases e : xs.getD 1 0 % 9 = 4
    · right; rw [if_pos e, decide_eq_true e]; exact ⟨rfl, rfl⟩
    · left; rw [if_neg e, decide_eq_false e]; exact ⟨rfl, rfl⟩
  have hn : (0 : Int) ≤ xs.getD 0 0 % 40 := by omega
  have hn2 : (xs.getD 0 0 % 40).toNat < 40 := by omega
  have e0 : ((((xs.getD 0 0 % 40).toNat : Nat) : Int)) = xs.getD 0 0 % 40 := Int.toNat_of_nonneg hn
  generalize hN : (xs.getD 0 0 % 40).toNat = n at hn2 e0 ⊢
  refine es_cons (ρ' := [.val (intsD xs), .val (sD (wideS xs n)), .un, .un, .un, .un, .un, .un]) (s_for t (ds := rangeD 1 n) (EvI.eq (ei_range2 t b1 ev_int (ev_add ev_int (ev_modP (ix 0 (by decide) rfl rfl) ev_int (by decide))) (by omega)) (by congr 1; omega)) (FRun.uptoE (fun j => [.val (intsD xs), .val (sD (wideS xs j)), .un, .un, .un, .un, .un, .un]) (fun j d hj => ?_) rfl (by simp [rangeD]))) (es_one (s_ret (ev_name t 1 rfl)))
  have hjn : j < n ∧ d = .int (1 + (j : Int)) := by
    unfold rangeD at hj
    rw [List.getElem?_map] at hj
    obtain ⟨i, hi, rfl⟩ := Option.map_eq_some_iff.mp hj
    rw [List.getElem?_eq_some_iff] at hi
    obtain ⟨h1, h2⟩ := hi
    rw [List.getElem_range] at h2
    rw [List.length_range] at h1
    exact ⟨h1, by rw [h2]⟩
  obtain ⟨hjn, rfl⟩ := hjn
  generalize hx : xs.getD (j + 2) 0 = x
  refine ⟨_, eg_name t 2, EvSs.weak (ρ1 := [.val (intsD xs), .val (sD (wideS xs (j + 1))), .val (.int (1 + (j : Int))), .val (.int x), .val (.dic (spW (j + 1) x)), .val (rowD (S6r.getD (x / 4 % 6).toNat [])), .val (sD (oneW (j + 1) x)), .val (.str (jW (decide (x / 24 % 2 = 0))))]) ?_ (.keep (.keep (.forget (.forget (.forget (.forget (.forget (.forget .nil))))))))⟩
  have k1 : ∀ {p1 p2 p3 : Pos} {i : Nat} {ρ : Rho}, ρ[2]? = some (.val (.int (1 + (j : Int)))) → EvE X ρ (.BinOp (.Constant (.int 1) i p1) .Add (.Name "_law_k" p2) p3) (.int (1 + ((j + 1 : Nat) : Int))) := fun {p1 p2 p3 i ρ} hr => EvE.eq (ev_add ev_int (ev_name t 2 hr)) (by rw [show (1 : Int) + (1 + (j : Int)) = 1 + ((j + 1 : Nat) : Int) by omega])
  refine es_cons (s_set t 3 (d := .int x) (ev_ix (EvE.ql (ev_name t 0 rfl)) (k1 rfl) (by rw [show (1 : Int) + ((j + 1 : Nat) : Int) = ((j + 2 : Nat) : Int) by omega, at_nat (by omega), hx]))) ?_
  refine es_cons (s_set t 4 (d := .dic (spW (j + 1) x)) (ev_ix (k := true) (EvN.toQ ?_) (ev_modP (ev_name t 3 rfl) ev_int (by decide)) (at4 (j + 1) x))) ?_
  · have dd : ∀ {a : Expr} {b : Expr} {p : Pos} {i k : Nat} {v : Int}, EvE X [.val (intsD xs), .val (sD (wideS xs j)), .val (.int (1 + (j : Int))), .val (.int x), .un, .un, .un, .un] a (.tup [.int i, .int k]) → EvE X [.val (intsD xs), .val (sD (wideS xs j)), .val (.int (1 + (j : Int))), .val (.int x), .un, .un, .un, .un] b (.int v) → EvE X [.val (intsD xs), .val (sD (wideS xs j)), .val (.int (1 + (j : Int))), .val (.int x), .un, .un, .un, .un] (.Dict [some a] [b] p) (.dic [([(i : Int), (k : Int)], v)]) := fun ha hb => EvDn.toE (ed_disp t (.cons (k := [_, _]) ha hb .nil) (h15 := Nat.le_of_ble_eq_true rfl))
    exact en_lst (ea_cons (dd (i := 0) (k := 1) (ev_tup (ea_cons ev_int (ea_cons ev_int ea_nil))) (k1 rfl)) (ea_cons (dd (i := 1) (k := 0) (ev_tup (ea_cons ev_int (ea_cons ev_int ea_nil))) (k1 rfl)) (ea_cons (dd (i := 0) (k := 0) (ev_tup (ea_cons ev_int (ea_cons ev_int ea_nil))) (k1 rfl)) (ea_cons (dd (i := 1) (k := 1) (ev_tup (ea_cons ev_int (ea_cons ev_int ea_nil))) (k1 rfl)) ea_nil))))
  refine es_cons (s_set t 5 (ev_ix (EvN.toQ (en_lst (ea_cons (ev_tup (ea_cons (ev_neg ev_int) ea_nil)) (ea_cons (ev_tup (ea_cons ev_int ea_nil)) (ea_cons (ev_tup (ea_cons ev_int ea_nil)) (ea_cons (ev_tup (ea_cons (ev_neg ev_int) (ea_cons ev_int ea_nil))) (ea_cons (ev_tup (ea_cons ev_int (ea_cons ev_int ea_nil))) (ea_cons (ev_tup (ea_cons (ev_neg ev_int) (ea_cons ev_int ea_nil))) ea_nil)))))))) (ev_modP (ev_divP t (ev_name t 3 rfl) ev_int (by decide)) ev_int (by decide)) (at6r _))) ?_
  refine es_cons (s_set t 6 (d := sD (oneW (j + 1) x)) (ev_tup (ea_cons ev_str (ea_cons (ev_call t c1 (ea_cons (ev_name t 4 rfl) ea_nil) ⟨_, rfl, rfl⟩) (ea_cons (ev_name t 5 rfl) ea_nil))))) ?_
  refine es_cons (s_set t 7 (ev_ix (EvN.toQ (en_lst (ea_cons ev_str (ea_cons ev_str ea_nil)))) (ev_modP (ev_divP t (ev_name t 3 rfl) ev_int (by decide)) ev_int (by decide)) (at2w (f := jW) rfl rfl _))) ?_
  show EvSs X [.val (intsD xs), .val (sD (wideS xs j)), .val (.int (1 + (j : Int))), .val (.int x), .val (.dic (spW (j + 1) x)), .val (rowD (S6r.getD (x / 4 % 6).toNat [])), .val (sD (oneW (j + 1) x)), .val (.str (jW (decide (x / 24 % 2 = 0))))] _ _
  refine es_one (s_set t 1 (d := sD (wideS xs (j + 1))) (ev_ix (xs := [sD (.jn (decide (x / 24 % 2 = 0)) (wideS xs j) (oneW (j + 1) x)), sD (.jn (decide (x / 24 % 2 = 0)) (oneW (j + 1) x) (wideS xs j))]) (EvN.toQ (en_lst (ea_cons (ev_tup (ea_cons (ev_name t 7 rfl) (ea_cons (ev_name t 1 rfl) (ea_cons (ev_name t 6 rfl) ea_nil)))) (ea_cons (ev_tup (ea_cons (ev_name t 7 rfl) (ea_cons (ev_name t 6 rfl) (ea_cons (ev_name t 1 rfl) ea_nil)))) ea_nil)))) (ev_modP (ev_divP t (ev_name t 3 rfl) ev_int (by decide)) ev_int (by decide)) ?_))
  rw [at2]
  congr 1
  show _ = sD (if _ then _ else _)
  rw [hx]
  split <;> rfl
end
end My

set_option linter.all false
set_option autoImplicit false
set_option maxRecDepth 100000
set_option maxHeartbeats 4000000
namespace My
open PySem L2 L2.EV PyProof.Rows
theorem boardOf_okB (kvs : KVs) : OkB (boardOf kvs) := ⟨boardOf_ok kvs, Nat.lt_of_le_of_lt (trimB_len _) (by simp), fun r hr => by
  obtain ⟨k, _, rfl⟩ := List.mem_map.mp (mem_trimB hr)
  exact Nat.lt_of_le_of_lt (trim_len _) (by simp)⟩
def cK (way : Int) (q : List Int) : Bool := (decide (way = 1) && decide (q = [0, 0])) || ((decide (way = 2) && decide (q.getD 1 0 = 0)) || ((decide (way = 3) && decide (q.getD 0 0 = 0)) || decide (3 < way)))
def kbK (way : Int) (kvs : KVs) : KVs := kvs.foldl (fun acc p => if cK way p.1 = true then putI acc p.1 p.2 else acc) []
def kbF (c way : Int) : Bd := boardOf (kbK way (partsF (lbF c)))
def C__law_kind_board (ds : List D) (r : D) : Prop := ∃ c way : Int, ds = [.int c, .int way] ∧ r = boardD (kbF c way)
theorem len__law_kind_board : ∀ ds d, C__law_kind_board ds d → ds.length = 2 := by rintro _ _ ⟨_, _, rfl, _⟩; rfl
theorem kb_len (way : Int) : ∀ (kvs acc : KVs), (kvs.foldl (fun acc p => if cK way p.1 = true then putI acc p.1 p.2 else acc) acc).length ≤ acc.length + kvs.length
  | [], acc => Nat.le_refl _
  | p :: kvs, acc => by
    have h1 := kb_len way kvs (if cK way p.1 = true then putI acc p.1 p.2 else acc)
    have h2 : (if cK way p.1 = true then putI acc p.1 p.2 else acc).length ≤ acc.length + 1 := by
      split
      · exact putI_len acc p.1 p.2
      · omega
    rw [List.foldl_cons, List.length_cons]; omega
theorem et_or4 {X : Cx} {ρ : Rho} {a b c d : Expr} {pos : Pos} {u v w z : Bool} (ha : EvT X ρ a u) (hb : EvT X ρ b v) (hc : EvT X ρ c w) (hd : EvT X ρ d z) : EvT X ρ (.BoolOp .Or [a, b, c, d] pos) (u || (v || (w || z))) := by
  cases u with
  | true => exact EvW.toT (ew_orT ha)
  | false => cases v with
    | true => exact EvW.toT (ew_orF ha (ew_orT hb))
    | false => cases w with
      | true => exact EvW.toT (ew_orF ha (ew_orF hb (ew_orT hc)))
      | false => exact EvW.toT (ew_orF ha (ew_orF hb (ew_orF hc (ew_or1 hd))))
theorem CompX.calleeD {X X' : Cx} {N' : List Str} {sc' : Scope} {ow : Str → Bool} {x : Str} {C : List D → KVs → Prop} (h : CompX X X' N' sc' ow) (c : CalleeD X x C) : CalleeD X' x C := by
  obtain ⟨f, fd, ps, k, F, r, m, kk, b⟩ := c
  exact ⟨f, fd, ps, k, by rw [h.prog, h.w', h.k', h.mg', h.base']; exact F, by rw [h.a']; exact r, by rw [h.mg']; exact m, by rw [h.k']; exact kk, by rw [h.k']; exact b⟩
section
variable {P : Program} {w : World} {K : PySem.W.Frag} {mg : Str → Option Value} {base : Heap} {k : Nat} {X : Cx}
theorem b__law_kind_board (h : DefX P w K mg base k N__law_kind_board (defScope s__law_kind_board) X) (c1 : CalleeD X "_law_parts" C__law_parts) (c2 : Callee X "_law_board_of" C__law_board_of) (c3 : Callee X "_law_board" C__law_board) :
    ∀ ds d, C__law_kind_board ds d → EvSs X (ds.map Sl.val ++ List.replicate (N__law_kind_board.length - ds.length) Sl.un) (defBody s__law_kind_board) (.rt d) := by
  rintro ds r ⟨cc, way, rfl, rfl⟩
  have t := h.at'
  haveI := h.fnT
  have ok : OkB (lbF cc) := boardOf_okB _
  have kok := parts_ok (lbF cc)
  have kl := parts_len ok.sm
  unfold kbF
  show EvSs X [.val (.int cc), .val (.int way), .un, .un, .un, .un] _ _
  refine es_cons (s_setD t 2 (ed_call t c1 (ea_cons (ev_call t c3 (ea_cons (ev_name t 0 rfl) ea_nil) ⟨cc, rfl, rfl⟩) ea_nil) ⟨lbF cc, rfl, ok.sm.up (by decide), rfl⟩)) ?_
  generalize partsF (lbF cc) = kvs at kok kl ⊢
  refine es_freezeD 2 rfl (es_cons (s_setD t 3 ed_new) ?_)
  show EvSs X [.val (.int cc), .val (.int way), .val (.dic kvs), .dct [], .un, .un] _ _
  refine es_cons (ρ' := [.val (.int cc), .val (.int way), .val (.dic kvs), .dct (kbK way kvs), .un, .un]) (s_for t (ei_dic (ev_name t 2 rfl)) (FRun.uptoE (fun j => [.val (.int cc), .val (.int way), .val (.dic kvs), .dct (kbK way (kvs.take j)), .un, .un]) (fun j d hj => ?_) rfl (by rw [List.length_map, List.take_length]))) (es_freezeD 3 rfl (es_one (s_ret (ev_call t c2 (ea_cons (ev_name t 3 rfl) ea_nil) ⟨_, rfl, rfl⟩))))
  rw [List.getElem?_map] at hj
  obtain ⟨p, hp, rfl⟩ := Option.map_eq_some_iff.mp hj
  have hjl : j < kvs.length := (List.getElem?_eq_some_iff.mp hp).1
  have hmem := List.mem_of_getElem? hp
  obtain ⟨i, k2, e⟩ := kok.keys p hmem
  obtain ⟨p1, v⟩ := p
  dsimp only at e
  subst e
  have hv : valI kvs (nk i k2) = some v := valI_mem kok.nd hmem
  have e1 : kbK way (kvs.take (j + 1)) = if cK way (nk i k2) = true then putI (kbK way (kvs.take j)) (nk i k2) v else kbK way (kvs.take j) := by
    unfold kbK
    rw [List.take_succ, hp, List.foldl_append]; rfl
  have hal : (kbK way (kvs.take j)).length ≤ 1000 := by
    have := kb_len way (kvs.take j) []
    rw [List.length_take] at this
    unfold kbK
    simp only [List.length_nil] at this
    omega
  rw [show keyD (nk i k2, v) = .tup [.int i, .int k2] from rfl]
  refine ⟨_, eg_tup2 t 4 5, EvSs.weak (ρ1 := [.val (.int cc), .val (.int way), .val (.dic kvs), .dct (kbK way (kvs.take (j + 1))), .val (.int i), .val (.int k2)]) ?_ (.keep (.keep (.keep (.keep (.forget (.forget .nil))))))⟩
  rw [e1]
  generalize kbK way (kvs.take j) = acc at hal
  show EvSs X [.val (.int cc), .val (.int way), .val (.dic kvs), .dct acc, .val (.int i), .val (.int k2)] _ _
  have tst := fun {p : Pos} {a b c d : Expr} (ha : EvT X [.val (.int cc), .val (.int way), .val (.dic kvs), .dct acc, .val (.int i), .val (.int k2)] a (decide (way = 1) && decide ((nk i k2) = [0, 0]))) (hb : EvT X [.val (.int cc), .val (.int way), .val (.dic kvs), .dct acc, .val (.int i), .val (.int k2)] b (decide (way = 2) && decide ((nk i k2).getD 1 0 = 0))) (hc : EvT X [.val (.int cc), .val (.int way), .val (.dic kvs), .dct acc, .val (.int i), .val (.int k2)] c (decide (way = 3) && decide ((nk i k2).getD 0 0 = 0))) (hd : EvT X [.val (.int cc), .val (.int way), .val (.dic kvs), .dct acc, .val (.int i), .val (.int k2)] d (decide (3 < way))) => (show EvT X [.val (.int cc), .val (.int way), .val (.dic kvs), .dct acc, .val (.int i), .val (.int k2)] (.BoolOp .Or [a, b, c, d] p) (cK way (nk i k2)) from et_or4 ha hb hc hd)
  by_cases hc : cK way (nk i k2) = true
  · rw [if_pos hc]
    refine es_one (s_ifT (EvT.eq (tst (et_and2 (et_eqI (ev_name t 1 rfl) ev_int) fun _ => et_eqP t (EvE.p (d := rowD (nk i k2)) (ev_tup (ea_cons (ev_name t 4 rfl) (ea_cons (ev_name t 5 rfl) ea_nil)))) (EvE.p (d := rowD [0, 0]) (ev_tup (ea_cons ev_int (ea_cons ev_int ea_nil)))) (shaped_row _) (shaped_row _) (eqv_row _ _)) (et_and2 (et_eqI (ev_name t 1 rfl) ev_int) fun _ => et_eqI (ev_name t 5 rfl) ev_int) (et_and2 (et_eqI (ev_name t 1 rfl) ev_int) fun _ => et_eqI (ev_name t 4 rfl) ev_int) (et_gt (ev_name t 1 rfl) ev_int)) hc) ?_)
    exact es_one (s_asg t (ev_dix t (EvE.dr (ev_name t 2 rfl)) (ev_tup (ea_cons (ev_name t 4 rfl) (ea_cons (ev_name t 5 rfl) ea_nil))) hv) (eg_dput (k := nk i k2) t 3 rfl (ev_tup (ea_cons (ev_name t 4 rfl) (ea_cons (ev_name t 5 rfl) ea_nil))) (by rw [lineN]; omega)))
  · rw [if_neg hc]
    exact es_one (s_ifF (EvT.eq (tst (et_and2 (et_eqI (ev_name t 1 rfl) ev_int) fun _ => et_eqP t (EvE.p (d := rowD (nk i k2)) (ev_tup (ea_cons (ev_name t 4 rfl) (ea_cons (ev_name t 5 rfl) ea_nil)))) (EvE.p (d := rowD [0, 0]) (ev_tup (ea_cons ev_int (ea_cons ev_int ea_nil)))) (shaped_row _) (shaped_row _) (eqv_row _ _)) (et_and2 (et_eqI (ev_name t 1 rfl) ev_int) fun _ => et_eqI (ev_name t 5 rfl) ev_int) (et_and2 (et_eqI (ev_name t 1 rfl) ev_int) fun _ => et_eqI (ev_name t 4 rfl) ev_int) (et_gt (ev_name t 1 rfl) ev_int)) (by simpa using hc)) es_nil)
end
def sbF (ns : List Int) : List Bd := (List.range 4).map fun (k : Nat) => kbF (cellF ns (1 + (k : Int))) (1 + (numsF (cellF ns (1 + (k : Int))) 15).getD 14 0 % 6)
def C__law_some_boards (ds : List D) (r : D) : Prop := ∃ ns : List Int, ds = [.scr ns, .int 1, .int 4] ∧ r = .lst ((sbF ns).map boardD)
theorem len__law_some_boards : ∀ ds d, C__law_some_boards ds d → ds.length = 3 := by rintro _ _ ⟨_, rfl, _⟩; rfl
section
variable {P : Program} {w : World} {K : PySem.W.Frag} {mg : Str → Option Value} {base : Heap} {k : Nat} {X : Cx}
theorem b__law_some_boards (h : DefX P w K mg base k N__law_some_boards (defScope s__law_some_boards) X) (m_range : mg "range" = none) (c1 : Callee X "_law_cell" C__law_cell) (c2 : Callee X "_law_kind_board" C__law_kind_board) (c3 : Callee X "_law_numbers" C__law_numbers) :
    ∀ ds d, C__law_some_boards ds d → EvSs X (ds.map Sl.val ++ List.replicate (N__law_some_boards.length - ds.length) Sl.un) (defBody s__law_some_boards) (.rt d) := by
  rintro ds r ⟨ns, rfl, rfl⟩
  have t := h.at'
  haveI := h.fnT
  have b1 : Blt X (defScope s__law_some_boards) "range" (.type "range") := blt_of (by rw [h.mg']; exact m_range)
  show EvSs X [.val (.scr ns), .val (.int 1), .val (.int 4), .un, .un, .un] _ _
  refine es_cons (s_setN t 3 (en_lst ea_nil)) ?_
  let f : Nat → Bd := fun k => kbF (cellF ns (1 + (k : Int))) (1 + (numsF (cellF ns (1 + (k : Int))) 15).getD 14 0 % 6)
  refine es_cons (ρ' := [.val (.scr ns), .val (.int 1), .val (.int 4), .own ((sbF ns).map boardD), .un, .un]) (s_for t (EvI.eq (ei_range1 t b1 (ev_name t 2 rfl) (by decide) (by decide)) (show _ = rangeD 0 4 from rfl)) (FRun.uptoE (fun j => [.val (.scr ns), .val (.int 1), .val (.int 4), .own (((List.range j).map f).map boardD), .un, .un]) (fun j d hj => ?_) rfl rfl)) (es_freeze 3 rfl (es_one (s_ret (ev_name t 3 rfl))))
  obtain ⟨hj4, rfl⟩ := range_get hj
  refine ⟨_, eg_name t 4, EvSs.weak (ρ1 := [.val (.scr ns), .val (.int 1), .val (.int 4), .own (((List.range (j + 1)).map f).map boardD), .val (.int j), .val (.int (cellF ns (1 + (j : Int))))]) ?_ (.keep (.keep (.keep (.keep (.forget (.forget .nil))))))⟩
  refine es_cons (s_set t 5 (ev_call t c1 (ea_cons (ev_name t 0 rfl) (ea_cons (ev_add (ev_name t 1 rfl) (ev_name t 4 rfl)) ea_nil)) ⟨ns, 1 + (j : Int), rfl, by omega, by omega, rfl⟩)) ?_
  refine es_one (EvS.eq (s_append t 3 rfl (d := boardD (f j)) (ev_call t c2 (ea_cons (ev_name t 5 rfl) (ea_cons (ev_add ev_int (ev_modP (ev_ix (EvE.ql (ev_call t c3 (ea_cons (ev_name t 5 rfl) (ea_cons ev_int ea_nil)) ⟨_, 15, rfl, by decide, rfl⟩)) ev_int (at_nat (n := 14) (by rw [numsF_len]; decide))) ev_int (by decide))) ea_nil)) ⟨_, _, rfl, rfl⟩) (by rw [List.length_map, List.length_map, List.length_range, sizeLine_eq]; omega)) ?_)
  rw [List.range_succ, List.map_append, List.map_append]; rfl
end
end My

set_option linter.all false
set_option autoImplicit false
set_option maxRecDepth 100000
set_option maxHeartbeats 4000000
namespace My
open PySem L2 L2.EV PyProof.Rows
/-! does a letter stand in a board -/
def hasF (l : Bool) (b : Bd) : Bool := ((partsF b).filter fun p => decide (p.2 ≠ 0)).any fun p => decide (0 < p.1.getD (if l then 0 else 1) 0)
theorem coef_val (b : Bd) (i k : Nat) : (valI (partsF b) (nk i k)).getD 0 = coef b i k := by
  rw [← ds_get (parts_ok b), ds_parts]
  exact bs_get b i k
theorem has_iff (l : Bool) (b : Bd) : hasF l b = true ↔ ∃ i k : Nat, coef b i k ≠ 0 ∧ 0 < (if l then i else k) := by
  unfold hasF
  rw [List.any_eq_true]
  constructor
  · rintro ⟨p, hp, hq⟩
    obtain ⟨hm, hn⟩ := List.mem_filter.mp hp
    obtain ⟨i, k, e⟩ := (parts_ok b).keys p hm
    have hv : valI (partsF b) (nk i k) = some p.2 := valI_mem (parts_ok b).nd (by rw [← e]; exact hm)
    refine ⟨i, k, ?_, ?_⟩
    · rw [← coef_val, hv]; exact of_decide_eq_true hn
    · have := of_decide_eq_true hq
      rw [e] at this
      cases l <;> simp at this ⊢ <;> omega
  · rintro ⟨i, k, hc, hl⟩
    rw [← coef_val] at hc
    cases hv : valI (partsF b) (nk i k) with
    | none => rw [hv] at hc; exact absurd rfl hc
    | some v =>
      rw [hv] at hc
      refine ⟨(nk i k, v), List.mem_filter.mpr ⟨valI_some hv, decide_eq_true hc⟩, decide_eq_true ?_⟩
      cases l <;> simp at hl ⊢ <;> omega
theorem row_last {r : List Int} (h : RowOk r) (hn : r ≠ []) : r.getD (r.length - 1) 0 ≠ 0 := by
  rcases h with e | ⟨ys, a, rfl, ha⟩
  · exact absurd e hn
  · rw [List.length_append, List.length_singleton, Nat.add_sub_cancel, List.getD_eq_getElem?_getD, List.getElem?_append_right (Nat.le_refl _), Nat.sub_self]
    exact ha
theorem has_stands (l : Bool) {b : Bd} (h : BoardOk b) : hasF l b = stands l b := by
  have key : hasF l b = true ↔ stands l b = true := by
    rw [has_iff]
    cases l with
    | true =>
      show (∃ i k : Nat, coef b i k ≠ 0 ∧ 0 < i) ↔ decide (1 < lenR b) = true
      rw [decide_eq_true_eq]
      constructor
      · rintro ⟨i, k, hc, hi⟩
        have h1 := lenR_ge b k
        rcases Nat.lt_or_ge i (b.getD k []).length with q | q
        · omega
        · exact absurd (getD_over q) hc
      · intro hl
        rcases lenR_is b with e | ⟨r, hr, e⟩
        · omega
        · obtain ⟨k, hk, rfl⟩ := List.getElem_of_mem hr
          have hne : b[k] ≠ [] := fun z => by rw [z] at e; simp at e; omega
          have := row_last (h.2 _ hr) hne
          refine ⟨b[k].length - 1, k, ?_, by omega⟩
          unfold coef
          rw [List.getD_eq_getElem?_getD (l := b), List.getElem?_eq_getElem hk]
          exact this
    | false =>
      show (∃ i k : Nat, coef b i k ≠ 0 ∧ 0 < k) ↔ decide (1 < b.length) = true
      rw [decide_eq_true_eq]
      constructor
      · rintro ⟨i, k, hc, hk⟩
        rcases Nat.lt_or_ge k b.length with q | q
        · omega
        · refine absurd ?_ hc
          unfold coef
          rw [List.getD_eq_getElem?_getD (l := b), List.getElem?_eq_none q]; rfl
      · intro hl
        rcases h.1 with e | ⟨ys, a, rfl, ha⟩
        · rw [e] at hl; simp at hl
        · have := row_last (h.2 a (by simp)) ha
          refine ⟨a.length - 1, ys.length, ?_, by simp at hl; omega⟩
          unfold coef
          rw [List.getD_eq_getElem?_getD (l := ys ++ [a]), List.getElem?_append_right (Nat.le_refl _), Nat.sub_self]
          exact this
  cases h1 : hasF l b <;> cases h2 : stands l b <;> simp_all
def C__law_has (ds : List D) (r : D) : Prop := ∃ (b : Bd) (l : Bool), ds = [boardD b, .str (lW l)] ∧ OkB b ∧ r = .bl (stands l b)
theorem len__law_has : ∀ ds d, C__law_has ds d → ds.length = 2 := by rintro _ _ ⟨_, _, rfl, _⟩; rfl
theorem occ_xy (l : Bool) : ∃ rest, Builtin.Str.occurrences "xy" (lW l) 0 (Str.length "xy") 1 = (if l then 0 else 1) :: rest := by
  cases l
  · exact ⟨[], by decide +kernel⟩
  · exact ⟨[], by decide +kernel⟩
section
variable {P : Program} {w : World} {K : PySem.W.Frag} {mg : Str → Option Value} {base : Heap} {k : Nat} {X : Cx}
theorem b__law_has (h : DefX P w K mg base k N__law_has (defScope s__law_has) X) (m_any : mg "any" = none) (c1 : CalleeD X "_law_parts" C__law_parts) :
    ∀ ds d, C__law_has ds d → EvSs X (ds.map Sl.val ++ List.replicate (N__law_has.length - ds.length) Sl.un) (defBody s__law_has) (.rt d) := by
  rintro ds r ⟨b, l, rfl, hb, rfl⟩
  have t := h.at'
  haveI := h.fnT
  have b1 : Blt X (defScope s__law_has) "any" (.builtin "any") := blt_of (by rw [h.mg']; exact m_any)
  have kl := parts_len hb.sm
  have kok := parts_ok b
  rw [← has_stands l hb.ok]
  show EvSs X [.val (boardD b), .val (.str (lW l)), .un] _ _
  refine es_cons (s_setComp (rs := ((partsF b).filter fun p => decide (p.2 ≠ 0)).map keyD) t 2 ["_law_board_here", "_law_letter", "_law_spots", "_law_spot"] (csc (by decide +kernel)) (ei_dic (EvDn.toE (ed_call t c1 (ea_cons (ev_name t 0 rfl) ea_nil) ⟨b, rfl, hb.sm.up (by decide), rfl⟩))) (by rw [List.length_map, sizeLine_eq]; omega) fun X' cx => CRun.filt keyD keyD (fun p => decide (p.2 ≠ 0)) (fun p => [.val (boardD b), .val (.str (lW l)), .un, .val (keyD p)]) (partsF b) _ (fun p hp => egn_name cx.at' 3) (fun p hp q hq => egn_name cx.at' 3) (fun p hp => EvT.eq (et_neI (ev_dix cx.at' (EvE.dr (EvDn.toE (ed_call cx.at' (CompX.calleeD cx c1) (ea_cons (ev_name cx.at' 0 rfl) ea_nil) ⟨b, rfl, hb.sm.up (by decide), rfl⟩))) (ev_name cx.at' 3 rfl) (valI_mem kok.nd hp)) ev_int) (by by_cases e : p.2 = 0 <;> simp [e])) fun p hp => ev_name cx.at' 3 rfl) (es_freeze 2 rfl ?_)
  show EvSs X [.val (boardD b), .val (.str (lW l)), .val (.lst (((partsF b).filter fun p => decide (p.2 ≠ 0)).map keyD))] _ _
  obtain ⟨rest, ho⟩ := occ_xy l
  unfold hasF
  have hk : ∀ p ∈ (partsF b).filter fun p => decide (p.2 ≠ 0), ∃ i k : Nat, p.1 = nk i k := fun p hp => kok.keys p (List.mem_filter.mp hp).1
  have hlen : ((partsF b).filter fun p => decide (p.2 ≠ 0)).length ≤ 1000 := Nat.le_trans (List.length_filter_le _ _) kl
  generalize (partsF b).filter (fun p => decide (p.2 ≠ 0)) = ps at hk hlen
  refine es_one (s_ret (EvE.eq (ev_any (bs := ps.map fun p => decide (0 < p.1.getD (if l then 0 else 1) 0)) t b1 (EvN.toQ (EvN.eq (en_comp t ["_law_board_here", "_law_letter", "_law_spots", "_law_spot"] (csc (by decide +kernel)) (ei_lst (ev_name t 2 rfl)) (by rw [List.length_map, sizeLine_eq]; omega) fun X' cx => CRun.gen keyD (fun p => .bl (decide (0 < p.1.getD (if l then 0 else 1) 0))) (fun p => [.val (boardD b), .val (.str (lW l)), .val (.lst (ps.map keyD)), .val (keyD p)]) ps _ (fun p hp => egn_name cx.at' 3) (fun p hp q hq => egn_name cx.at' 3) fun p hp => ?_) (by rw [List.map_map]; rfl)))) (by rw [List.any_map]; rfl)))
  obtain ⟨i, k2, e⟩ := hk p hp
  refine ev_gt (ev_ix (EvE.qt (xs := [.int i, .int k2]) (EvE.eq (ev_name cx.at' 3 rfl) (by show D.tup (p.1.map D.int) = _; rw [e]; rfl))) (ev_index ev_str (ev_name cx.at' 1 rfl) ho) ?_) ev_int
  rw [e]
  cases l <;> rfl
end
def C__law_plain : Nat → List D → D → Prop
  | 0, _, _ => False
  | n + 1, ds, r => ∃ s : Sy, ds = [sD s] ∧ OkS s ∧ dS s ≤ n ∧ r = .bl (plainS s)
theorem len__law_plain : ∀ n ds d, C__law_plain n ds d → ds.length = 1
  | 0, _, _, h => h.elim
  | n + 1, _, _, ⟨_, h, _⟩ => by rw [h]; rfl
def C__law_over : Nat → List D → D → Prop
  | 0, _, _ => False
  | n + 1, ds, r => ∃ (s : Sy) (l : Bool), ds = [sD s, .str (lW l)] ∧ OkS s ∧ dS s ≤ n ∧ r = .bl (overS (!l) s)
theorem len__law_over : ∀ n ds d, C__law_over n ds d → ds.length = 2
  | 0, _, _, h => h.elim
  | n + 1, _, _, ⟨_, _, h, _⟩ => by rw [h]; rfl
def C__law_closed : Nat → List D → D → Prop
  | 0, _, _ => False
  | n + 1, ds, r => ∃ s : Sy, ds = [sD s] ∧ OkS s ∧ dS s ≤ n ∧ r = .bl (closS s)
theorem len__law_closed : ∀ n ds d, C__law_closed n ds d → ds.length = 1
  | 0, _, _, h => h.elim
  | n + 1, _, _, ⟨_, h, _⟩ => by rw [h]; rfl
theorem tl_kids {s : Sy} (h1 : isB s = false) (h2 : bnB s = false) : tlS s = (kidS s).map sD := by
  cases s with
  | is => cases h1
  | bn => cases h2
  | ng => rfl
  | jn => rfl
theorem kid_small {s : Sy} (h : OkS s) : ((kidS s).map sD).length < sizeLine := by
  have := len_sumS (kidS s)
  have := kid_sum s
  have := h.c
  rw [List.length_map, sizeLine_eq]; omega
theorem kid_n {s a : Sy} {n : Nat} (hd : dS s ≤ n) (ha : a ∈ kidS s) : ∃ m, n = m + 1 ∧ dS a ≤ m := by
  have := kid_d ha
  exact ⟨n - 1, by omega, by omega⟩
section
variable {X : Cx} {ρ : Rho} {a : Expr} {p1 p2 p3 : Pos} {j : Nat} {s : Sy}
/-- S[1:] -/
theorem ev_tail (ha : EvE X ρ a (sD s)) : EvE X ρ (.Subscript a (.Slice (some (.Constant (.int 1) j p1)) none none p2) p3) (.tup (tlS s)) := by
  rw [sD_tup] at ha; exact EvE.eq (ev_cutA ha (ev_part ev_int) ev_noPart) (by rw [cut1])
end
section
variable {P : Program} {w : World} {K : PySem.W.Frag} {mg : Str → Option Value} {base : Heap} {k : Nat} {X : Cx}
theorem b__law_plain (h : DefX P w K mg base k N__law_plain (defScope s__law_plain) X) (m_all : mg "all" = none) (n : Nat) (c0 : Callee X "_law_plain" (C__law_plain n)) :
    ∀ ds d, C__law_plain (n + 1) ds d → EvSs X (ds.map Sl.val ++ List.replicate (N__law_plain.length - ds.length) Sl.un) (defBody s__law_plain) (.rt d) := by
  rintro ds r ⟨s, rfl, hs, hd, rfl⟩
  have t := h.at'
  haveI := h.fnT
  have b1 : Blt X (defScope s__law_plain) "all" (.builtin "all") := blt_of (by rw [h.mg']; exact m_all)
  show EvSs X [.val (sD s)] _ _
  refine es_if (EvT.eq (et_eqS t (ev_word (ev_name t 0 rfl)) ev_str (hW_ok s)) (hW_is s)) (fun z => ?_) (fun z => ?_)
  · cases s with
    | is b x => exact es_one (s_ret ev_bl)
    | _ => cases z
  have nb : ∀ {p1 p2 p3 p4 p5 p6 p7 : Pos} {j j2 j3 k : Nat}, EvE X [.val (sD s)] (.Compare (.Subscript (.Name "_law_saying" p1) (.Constant (.int 0) j p2) p3) [.NotIn] [.Tuple [.Constant (.str "some") j2 p4, .Constant (.str "all") j3 p5] k p6] p7) (.bl (!bnB s)) := EvE.eq (ev_ninP t (ev_word (ev_name t 0 rfl)).p (EvE.p (d := .tup [.str "some", .str "all"]) (ev_tup (ea_cons ev_str (ea_cons ev_str ea_nil)))) (cl_str (hW_ok s)) (dpt_str _) (by decide +kernel) rfl) (congrArg D.bl (congrArg not ((any2 _ _ _).trans (hW_bn s))))
  cases hb : bnB s with
  | true =>
    refine es_one (s_ret (EvE.eq (ev_and2 (v := true) nb fun y => by rw [hb] at y; cases y) ?_))
    rw [hb]
    cases s with
    | bn => rfl
    | _ => cases hb
  | false =>
    refine es_one (s_ret (EvE.eq (ev_and2 nb fun y => ev_all (bs := (kidS s).map plainS) t b1 (EvN.toQ (EvN.eq (en_comp t ["_law_saying", "_law_part"] (csc (by decide +kernel)) (EvI.eq (ei_tup (ev_tail (ev_name t 0 rfl))) (tl_kids z hb)) (kid_small hs) fun X' cx => CRun.gen sD (fun p => .bl (plainS p)) (fun p => [.val (sD s), .val (sD p)]) (kidS s) _ (fun p hp => egn_name cx.at' 1) (fun p hp q hq => egn_name cx.at' 1) fun p hp => ev_call cx.at' (cx.callee c0) (ea_cons (ev_name cx.at' 1 rfl) ea_nil) (by obtain ⟨m, e, hm⟩ := kid_n hd hp; subst e; exact ⟨p, rfl, hs.kid hp, hm, rfl⟩)) (bls _ _)))) ?_))
    rw [hb, List.all_map]
    cases s with
    | is => cases z
    | bn => cases hb
    | ng a => simp [kidS, plainS]
    | jn w a b => simp [kidS, plainS]
end
section
variable {P : Program} {w : World} {K : PySem.W.Frag} {mg : Str → Option Value} {base : Heap} {k : Nat} {X : Cx}
theorem b__law_over (h : DefX P w K mg base k N__law_over (defScope s__law_over) X) (m_all : mg "all" = none) (c1 : Callee X "_law_has" C__law_has) (c2 : Callee X "_law_plain" (C__law_plain 51)) (n : Nat) (c0 : Callee X "_law_over" (C__law_over n)) :
    ∀ ds d, C__law_over (n + 1) ds d → EvSs X (ds.map Sl.val ++ List.replicate (N__law_over.length - ds.length) Sl.un) (defBody s__law_over) (.rt d) := by
  rintro ds r ⟨s, l, rfl, hs, hd, rfl⟩
  have t := h.at'
  haveI := h.fnT
  have b1 : Blt X (defScope s__law_over) "all" (.builtin "all") := blt_of (by rw [h.mg']; exact m_all)
  show EvSs X [.val (sD s), .val (.str (lW l)), .un] _ _
  obtain ⟨rest, ho⟩ := occ_xy l
  refine es_cons (ρ' := [.val (sD s), .val (.str (lW l)), .val (.str (lW (!l)))]) (s_set t 2 (EvE.eq (ev_ixS (c := (if l then 121 else 120)) ev_str (ev_index ev_str (ev_name t 1 rfl) ho) (by decide +kernel) (by cases l <;> decide +kernel)) (by cases l <;> rfl))) ?_
  refine es_if (EvT.eq (et_eqS t (ev_word (ev_name t 0 rfl)) ev_str (hW_ok s)) (hW_is s)) (fun z => ?_) (fun z => ?_)
  · cases s with
    | is b x => exact es_one (s_ret (ev_notV (ev_call t c1 (ea_cons (ev_at (s := .is b x) 0 (ev_name t 0 rfl) rfl rfl) (ea_cons (ev_name t 2 rfl) ea_nil)) ⟨b, !l, rfl, hs.b.1, rfl⟩)))
    | _ => cases z
  refine es_if (EvT.eq (et_in2 t (ev_word (ev_name t 0 rfl)) (hW_ok s)) (hW_bn s)) (fun v => ?_) (fun v => ?_)
  · cases s with
    | bn w x a =>
      refine es_one (s_ret (EvE.eq (ev_and2 (ev_eqS t (ev_at (s := .bn w x a) 0 (ev_name t 0 rfl) rfl rfl) (ev_name t 2 rfl) (lW_ok x) (lW_ok (!l))) fun _ => ev_call t c2 (ea_cons (ev_at (s := .bn w x a) 1 (ev_name t 0 rfl) rfl rfl) ea_nil) ⟨a, rfl, hs.kid (by simp [kidS]), (hs.kid (s := .bn w x a) (a := a) (by simp [kidS])).d, rfl⟩) ?_))
      rw [lW_eq]; rfl
    | _ => cases v
  refine es_one (s_ret (EvE.eq (ev_all (bs := (kidS s).map (overS (!l))) t b1 (EvN.toQ (EvN.eq (en_comp t ["_law_saying", "_law_letter", "_law_other", "_law_part"] (csc (by decide +kernel)) (EvI.eq (ei_tup (ev_tail (ev_name t 0 rfl))) (tl_kids z v)) (kid_small hs) fun X' cx => CRun.gen sD (fun p => .bl (overS (!l) p)) (fun p => [.val (sD s), .val (.str (lW l)), .val (.str (lW (!l))), .val (sD p)]) (kidS s) _ (fun p hp => egn_name cx.at' 3) (fun p hp q hq => egn_name cx.at' 3) fun p hp => ev_call cx.at' (cx.callee c0) (ea_cons (ev_name cx.at' 3 rfl) (ea_cons (ev_name cx.at' 1 rfl) ea_nil)) (by obtain ⟨m, e, hm⟩ := kid_n hd hp; subst e; exact ⟨p, l, rfl, hs.kid hp, hm, rfl⟩)) (bls _ _)))) ?_))
  rw [List.all_map]
  cases s with
  | is => cases z
  | bn => cases v
  | ng a => simp [kidS, overS]
  | jn w a b => simp [kidS, overS]
end
section
variable {P : Program} {w : World} {K : PySem.W.Frag} {mg : Str → Option Value} {base : Heap} {k : Nat} {X : Cx}
theorem b__law_closed (h : DefX P w K mg base k N__law_closed (defScope s__law_closed) X) (m_all : mg "all" = none) (c1 : Callee X "_law_over" (C__law_over 51)) (c2 : Callee X "_law_has" C__law_has) (n : Nat) (c0 : Callee X "_law_closed" (C__law_closed n)) :
    ∀ ds d, C__law_closed (n + 1) ds d → EvSs X (ds.map Sl.val ++ List.replicate (N__law_closed.length - ds.length) Sl.un) (defBody s__law_closed) (.rt d) := by
  rintro ds r ⟨s, rfl, hs, hd, rfl⟩
  have t := h.at'
  haveI := h.fnT
  have b1 : Blt X (defScope s__law_closed) "all" (.builtin "all") := blt_of (by rw [h.mg']; exact m_all)
  show EvSs X [.val (sD s)] _ _
  refine es_if (EvT.eq (et_eqS t (ev_word (ev_name t 0 rfl)) ev_str (hW_ok s)) (hW_is s)) (fun z => ?_) (fun z => ?_)
  · cases s with
    | is b x => exact es_one (s_ret (ev_and2 (ev_notV (ev_call t c2 (ea_cons (ev_at (s := .is b x) 0 (ev_name t 0 rfl) rfl rfl) (ea_cons ev_str ea_nil)) ⟨b, true, rfl, hs.b.1, rfl⟩)) fun _ => ev_notV (ev_call t c2 (ea_cons (ev_at (s := .is b x) 0 (ev_name t 0 rfl) rfl rfl) (ea_cons ev_str ea_nil)) ⟨b, false, rfl, hs.b.1, rfl⟩)))
    | _ => cases z
  refine es_if (EvT.eq (et_in2 t (ev_word (ev_name t 0 rfl)) (hW_ok s)) (hW_bn s)) (fun v => ?_) (fun v => ?_)
  · cases s with
    | bn w x a => exact es_one (s_ret (ev_call t c1 (ea_cons (ev_at (s := .bn w x a) 1 (ev_name t 0 rfl) rfl rfl) (ea_cons (ev_at (s := .bn w x a) 0 (ev_name t 0 rfl) rfl rfl) ea_nil)) ⟨a, x, rfl, hs.kid (by simp [kidS]), (hs.kid (s := .bn w x a) (a := a) (by simp [kidS])).d, rfl⟩))
    | _ => cases v
  refine es_one (s_ret (EvE.eq (ev_all (bs := (kidS s).map closS) t b1 (EvN.toQ (EvN.eq (en_comp t ["_law_saying", "_law_part"] (csc (by decide +kernel)) (EvI.eq (ei_tup (ev_tail (ev_name t 0 rfl))) (tl_kids z v)) (kid_small hs) fun X' cx => CRun.gen sD (fun p => .bl (closS p)) (fun p => [.val (sD s), .val (sD p)]) (kidS s) _ (fun p hp => egn_name cx.at' 1) (fun p hp q hq => egn_name cx.at' 1) fun p hp => ev_call cx.at' (cx.callee c0) (ea_cons (ev_name cx.at' 1 rfl) ea_nil) (by obtain ⟨m, e, hm⟩ := kid_n hd hp; subst e; exact ⟨p, rfl, hs.kid hp, hm, rfl⟩)) (bls _ _)))) ?_))
  rw [List.all_map]
  cases s with
  | is => cases z
  | bn => cases v
  | ng a => simp [kidS, closS]
  | jn w a b => simp [kidS, closS]
end
end My

set_option linter.all false
set_option autoImplicit false
set_option maxRecDepth 100000
set_option maxHeartbeats 4000000
namespace My
open PySem L2 L2.EV PyProof.Rows
def C__law_boards : Nat → List D → D → Prop
  | 0, _, _ => False
  | n + 1, ds, r => ∃ s : Sy, ds = [sD s] ∧ OkS s ∧ dS s ≤ n ∧ r = .lst ((lawB s).map boardD)
theorem len__law_boards : ∀ n ds d, C__law_boards n ds d → ds.length = 1
  | 0, _, _, h => h.elim
  | n + 1, _, _, ⟨_, h, _⟩ => by rw [h]; rfl
/-- the parts behind the word: a saying, or a letter -/
def optS : Sy → List (Option Sy)
  | .is _ _ => []
  | .ng a => [some a]
  | .jn _ a b => [some a, some b]
  | .bn _ _ a => [none, some a]
def optD (l : Bool) : Option Sy → D
  | some a => sD a
  | none => .str (lW l)
def stL (acc : List Bd) : Option Sy → List Bd
  | some a => acc ++ (lawB a).filter (fun x => decide (x ∉ acc))
  | none => acc
theorem filt_nil (xs : List Bd) : xs.filter (fun x => decide (x ∉ ([] : List Bd))) = xs := by simp
theorem law_opt (s : Sy) (h : isB s = false) : (optS s).foldl stL [] = lawB s := by
  cases s with
  | is => cases h
  | ng a => show [] ++ (lawB a).filter _ = lawB a; rw [filt_nil]; rfl
  | jn w a b => show stL ([] ++ (lawB a).filter _) (some b) = _; rw [filt_nil]; rfl
  | bn w l a => show [] ++ (lawB a).filter (fun x => decide (x ∉ ([] : List Bd))) = lawB a; rw [filt_nil]; rfl
theorem tl_opt (s : Sy) (h : isB s = false) : ∃ l, tlS s = (optS s).map (optD l) := by
  cases s with
  | is => cases h
  | ng a => exact ⟨true, rfl⟩
  | jn w a b => exact ⟨true, rfl⟩
  | bn w l a => exact ⟨l, rfl⟩
theorem opt_kid {s a : Sy} (h : some a ∈ optS s) : a ∈ kidS s := by
  cases s <;> simp [optS, kidS] at h ⊢ <;> exact h
theorem opt_len (s : Sy) : (optS s).length ≤ 2 := by cases s <;> simp [optS]
theorem bd_len : ∀ s : Sy, (bdS s).length ≤ cS s
  | .is _ _ => Nat.le_refl _
  | .ng a => by have := bd_len a; simp [bdS, cS]; omega
  | .jn _ a b => by have := bd_len a; have := bd_len b; simp [bdS, cS]; omega
  | .bn _ _ a => by have := bd_len a; simp [bdS, cS]; omega
theorem law_len (s : Sy) : (lawB s).length ≤ cS s := by
  rw [law_uniq]
  have := uniq_len (bdS s) []
  have := bd_len s
  simp only [List.length_nil] at *
  omega
theorem stL_len (acc : List Bd) (o : Option Sy) (h : ∀ a, o = some a → cS a ≤ 1000) : (stL acc o).length ≤ acc.length + 1000 := by
  cases o with
  | none => show acc.length ≤ _; omega
  | some a =>
    show (acc ++ _).length ≤ _
    have h1 := List.length_filter_le (fun x => decide (x ∉ acc)) (lawB a)
    have h2 := law_len a
    have h3 := h a rfl
    rw [List.length_append]; omega
theorem fold_len : ∀ (os : List (Option Sy)) (acc : List Bd), (∀ a, some a ∈ os → cS a ≤ 1000) → (os.foldl stL acc).length ≤ acc.length + 1000 * os.length
  | [], acc, _ => by simp
  | o :: os, acc, h => by
    have h1 := fold_len os (stL acc o) fun a ha => h a (List.mem_cons_of_mem _ ha)
    have h2 := stL_len acc o fun a e => h a (by rw [← e]; exact List.mem_cons_self)
    rw [List.foldl_cons, List.length_cons]; omega
section
variable {P : Program} {w : World} {K : PySem.W.Frag} {mg : Str → Option Value} {base : Heap} {k : Nat} {X : Cx}
theorem b__law_boards (h : DefX P w K mg base k N__law_boards (defScope s__law_boards) X) (m_isinstance : mg "isinstance" = none) (m_tuple : mg "tuple" = none) (n : Nat) (c0 : Callee X "_law_boards" (C__law_boards n)) :
    ∀ ds d, C__law_boards (n + 1) ds d → EvSs X (ds.map Sl.val ++ List.replicate (N__law_boards.length - ds.length) Sl.un) (defBody s__law_boards) (.rt d) := by
  rintro ds r ⟨s, rfl, hs, hd, rfl⟩
  have t := h.at'
  haveI := h.fnT
  have b1 : Blt X (defScope s__law_boards) "isinstance" (.builtin "isinstance") := blt_of (by rw [h.mg']; exact m_isinstance)
  have b2 : Blt X (defScope s__law_boards) "tuple" (.type "tuple") := blt_of (by rw [h.mg']; exact m_tuple)
  show EvSs X [.val (sD s), .un, .un] _ _
  refine es_if (EvT.eq (et_eqS t (ev_word (ev_name t 0 rfl)) ev_str (hW_ok s)) (hW_is s)) (fun z => ?_) (fun z => ?_)
  · cases s with
    | is b x => exact es_one (s_ret (EvN.toE (en_lst (ea_cons (ev_at (s := .is b x) 0 (ev_name t 0 rfl) rfl rfl) ea_nil))))
    | _ => cases z
  refine es_cons (s_setN t 1 (en_lst ea_nil) (hs := (sww_eq (show X.env.scope = (dE (defScope s__law_boards)).scope from t.eS)).trans rfl)) ?_
  show EvSs X [.val (sD s), .own [], .un] _ _
  obtain ⟨l, el⟩ := tl_opt s z
  rw [← law_opt s z]
  have hc : ∀ a, some a ∈ optS s → cS a ≤ 1000 := fun a ha => (hs.kid (opt_kid ha)).c
  have hol := opt_len s
  refine es_cons (ρ' := [.val (sD s), .own (((optS s).foldl stL []).map boardD), .un]) (s_for t (EvI.eq (ei_tup (ev_tail (ev_name t 0 rfl))) el) (FRun.uptoE (fun j => [.val (sD s), .own ((((optS s).take j).foldl stL []).map boardD), .un]) (fun j d hj => ?_) rfl (by rw [List.length_map, List.take_length]))) (es_freeze 1 rfl (es_one (s_ret (ev_name t 1 rfl))))
  rw [List.getElem?_map] at hj
  obtain ⟨o, ho, rfl⟩ := Option.map_eq_some_iff.mp hj
  have hjl : j < (optS s).length := (List.getElem?_eq_some_iff.mp ho).1
  have hmem := List.mem_of_getElem? ho
  have e1 : ((optS s).take (j + 1)).foldl stL [] = stL (((optS s).take j).foldl stL []) o := by
    rw [List.take_succ, ho, List.foldl_append]; rfl
  have hal : (((optS s).take j).foldl stL []).length ≤ 2000 := by
    have := fold_len ((optS s).take j) [] fun a ha => hc a (List.mem_of_mem_take ha)
    rw [List.length_take] at this
    simp only [List.length_nil] at this
    omega
  refine ⟨_, eg_name t 2, EvSs.weak (ρ1 := [.val (sD s), .own ((((optS s).take (j + 1)).foldl stL []).map boardD), .val (optD l o)]) ?_ (.keep (.keep (.forget .nil)))⟩
  rw [e1]
  generalize ((optS s).take j).foldl stL [] = acc at hal
  show EvSs X [.val (sD s), .own (acc.map boardD), .val (optD l o)] _ _
  cases o with
  | none => exact es_one (s_ifF (EvT.eq (et_bl (ev_isi (d := .str (lW l)) t b1 b2 (ev_name t 2 rfl) rfl)) rfl) es_nil)
  | some a =>
    have ha := hs.kid (opt_kid hmem)
    obtain ⟨m, em, hm⟩ := kid_n hd (opt_kid hmem)
    have hll := law_len a
    have hac := ha.c
    refine es_one (s_ifT (EvT.eq (et_bl (ev_isi (d := .tup (.str (hW a) :: tlS a)) (k := true) t b1 b2 (EvE.eq (ev_name t 2 rfl) (sD_tup a)) rfl)) rfl) ?_)
    refine es_one (EvS.eq (s_extend t 1 rfl (ys := ((lawB a).filter fun x => decide (x ∉ acc)).map boardD) (EvN.toE (en_comp t ["_law_saying", "_law_found", "_law_part", "_law_board_here"] (csc (by decide +kernel)) (ei_lst (ev_call t c0 (ea_cons (ev_name t 2 rfl) ea_nil) (by subst em; exact ⟨a, rfl, ha, hm, rfl⟩))) (by rw [List.length_map, sizeLine_eq]; omega) fun X' cx => CRun.filt boardD boardD (fun x => decide (x ∉ acc)) (fun x => [.val (sD s), .own (acc.map boardD), .val (sD a), .val (boardD x)]) (lawB a) _ (fun p hp => egn_name cx.at' 3) (fun p hp q hq => egn_name cx.at' 3) (fun p hp => EvT.eq (et_nin (r := !decide (p ∈ acc)) cx.at' (ev_name cx.at' 3 rfl) 1 rfl (fn_board p).1 (by have := (fn_board p).2.1; omega) (cl_boards acc) (by rw [any_boards])) (by rw [decide_not])) fun p hp => ev_name cx.at' 3 rfl)) ?_) ?_)
    · have := List.length_filter_le (fun x => decide (x ∉ acc)) (lawB a)
      rw [List.length_map, List.length_map, sizeLine_eq]; omega
    · rw [← List.map_append]; rfl
end
def C__law_right (ds : List D) (r : D) : Prop := ∃ s : Sy, ds = [sD s] ∧ OkS s ∧ r = .bl true
theorem len__law_right : ∀ ds d, C__law_right ds d → ds.length = 1 := by rintro _ _ ⟨_, rfl, _⟩; rfl
section
variable {P : Program} {w : World} {K : PySem.W.Frag} {mg : Str → Option Value} {base : Heap} {k : Nat} {X : Cx}
theorem b__law_right (h : DefX P w K mg base k N__law_right (defScope s__law_right) X) (m_all : mg "all" = none) (m_isinstance : mg "isinstance" = none) (m_tuple : mg "tuple" = none) (m_list : mg "list" = none) (m_bool : mg "bool" = none) (c1 : Callee X "boards_of" C_boards_of) (c2 : Callee X "is_plain" C_is_plain) (c3 : Callee X "is_over" C_is_over) (c4 : Callee X "is_closed" C_is_closed) (c5 : Callee X "_law_plain" (C__law_plain 51)) (c6 : Callee X "_law_over" (C__law_over 51)) (c7 : Callee X "_law_closed" (C__law_closed 51)) (c8 : Callee X "_law_boards" (C__law_boards 51)) :
    ∀ ds d, C__law_right ds d → EvSs X (ds.map Sl.val ++ List.replicate (N__law_right.length - ds.length) Sl.un) (defBody s__law_right) (.rt d) := by
  rintro ds r ⟨s, rfl, hs, rfl⟩
  have t := h.at'
  haveI := h.fnT
  have b1 : Blt X (defScope s__law_right) "isinstance" (.builtin "isinstance") := blt_of (by rw [h.mg']; exact m_isinstance)
  have b2 : Blt X (defScope s__law_right) "tuple" (.type "tuple") := blt_of (by rw [h.mg']; exact m_tuple)
  have b3 : Blt X (defScope s__law_right) "list" (.type "list") := blt_of (by rw [h.mg']; exact m_list)
  have b4 : Blt X (defScope s__law_right) "all" (.builtin "all") := blt_of (by rw [h.mg']; exact m_all)
  show EvSs X [.val (sD s), .un, .un, .un] _ _
  have nm : ∀ {p : Pos} {ρ : Rho}, ρ[0]? = some (.val (sD s)) → EvE X ρ (.Name "_law_saying" p) (sD s) := fun hr => ev_name t 0 hr
  refine es_cons (s_set t 1 (ev_call t c1 (ea_cons (nm rfl) ea_nil) ⟨s, rfl, hs, rfl⟩)) ?_
  have fb : Fn 4 (.lst ((lawB s).map boardD)) := Fn.lst fun x hx => by obtain ⟨b, _, rfl⟩ := List.mem_map.mp hx; exact fn_board b
  refine es_cons (s_ifF (EvT.eq (et_or2 (et_not (et_bl (ev_isi (d := .tup ((uniqB [] (bdS s)).map boardD)) t b1 b2 (ev_name t 1 rfl) rfl))) fun _ => et_same t fb (EvE.eq (EvN.toE (en_list t b3 (EvE.qt (ev_name t 1 rfl)))) (by rw [law_uniq])) (ev_call t c8 (ea_cons (nm rfl) ea_nil) ⟨s, rfl, hs, hs.d, rfl⟩)) rfl) es_nil) ?_
  refine es_cons (s_setN t 2 (xs := [.bl (plainS s), .bl (overS false s), .bl (overS true s), .bl (closS s)]) (en_lst (ea_cons (ev_call t c2 (ea_cons (nm rfl) ea_nil) ⟨s, rfl, hs, rfl⟩) (ea_cons (ev_call t c3 (ea_cons (nm rfl) (ea_cons ev_str ea_nil)) ⟨s, true, rfl, hs, rfl⟩) (ea_cons (ev_call t c3 (ea_cons (nm rfl) (ea_cons ev_str ea_nil)) ⟨s, false, rfl, hs, rfl⟩) (ea_cons (ev_call t c4 (ea_cons (nm rfl) ea_nil) ⟨s, rfl, hs, rfl⟩) ea_nil)))))) (es_freeze 2 rfl ?_)
  refine es_cons (s_setN t 3 (xs := [.bl (plainS s), .bl (overS false s), .bl (overS true s), .bl (closS s)]) (en_lst (ea_cons (ev_call t c5 (ea_cons (nm rfl) ea_nil) ⟨s, rfl, hs, hs.d, rfl⟩) (ea_cons (ev_call t c6 (ea_cons (nm rfl) (ea_cons ev_str ea_nil)) ⟨s, true, rfl, hs, hs.d, rfl⟩) (ea_cons (ev_call t c6 (ea_cons (nm rfl) (ea_cons ev_str ea_nil)) ⟨s, false, rfl, hs, hs.d, rfl⟩) (ea_cons (ev_call t c7 (ea_cons (nm rfl) ea_nil) ⟨s, rfl, hs, hs.d, rfl⟩) ea_nil)))))) (es_freeze 3 rfl ?_)
  generalize plainS s = b1'
  generalize overS false s = b2'
  generalize overS true s = b3'
  generalize closS s = b4'
  have f4 : Fn 2 (.lst [.bl b1', .bl b2', .bl b3', .bl b4']) := Fn.lst fun x hx => by
    simp at hx
    rcases hx with rfl | rfl | rfl | rfl <;> exact Fn.bl _
  show EvSs X [.val (sD s), .val (.tup ((uniqB [] (bdS s)).map boardD)), .val (.lst [.bl b1', .bl b2', .bl b3', .bl b4']), .val (.lst [.bl b1', .bl b2', .bl b3', .bl b4'])] _ _
  generalize (uniqB [] (bdS s)).map boardD = ub
  exact es_one (s_ret (EvE.eq (ev_and2 (ev_same t f4 (ev_name t 2 rfl) (ev_name t 3 rfl)) fun _ => ev_all (bs := [b1', b2', b3', b4'].map fun _ => true) t b4 (EvN.toQ (EvN.eq (en_comp t ["_law_saying", "_law_told", "_law_found", "_law_due", "_law_one"] (csc (by decide +kernel)) (ei_lst (ev_name t 2 rfl)) (by rw [sizeLine_eq]; exact Nat.le_of_ble_eq_true rfl) fun X' cx => CRun.gen (xs := [b1', b2', b3', b4']) D.bl (fun _ => .bl true) (fun x => [.val (sD s), .val (.tup ub), .val (.lst [.bl b1', .bl b2', .bl b3', .bl b4']), .val (.lst [.bl b1', .bl b2', .bl b3', .bl b4']), .val (.bl x)]) _ (fun x hx => egn_name cx.at' 4) (fun x hx y hy => egn_name cx.at' 4) fun x hx => ev_isi (d := .bl x) cx.at' (cx.blt b1) (blt_of (by rw [cx.mg', h.mg']; exact m_bool)) (ev_name cx.at' 4 rfl) rfl) rfl))) rfl))
end
end My

set_option linter.all false
set_option autoImplicit false
set_option maxRecDepth 100000
set_option maxHeartbeats 4000000
namespace My
open PySem L2 L2.EV PyProof.Rows
structure SzS (s : Sy) (d c : Nat) : Prop where
  b : AllB s
  d : dS s ≤ d
  c : cS s ≤ c
theorem SzS.ok {s : Sy} {d c : Nat} (h : SzS s d c) (hd : d ≤ 50) (hc : c ≤ 1000) : OkS s := ⟨by have := h.d; omega, by have := h.c; omega, h.b⟩
theorem SzS.mono {s : Sy} {d c d' c' : Nat} (h : SzS s d c) (hd : d ≤ d') (hc : c ≤ c') : SzS s d' c' := ⟨h.b, by have := h.d; omega, by have := h.c; omega⟩
theorem SzS.ng {a : Sy} {d c : Nat} (h : SzS a d c) : SzS (.ng a) (d + 1) (c + 1) := ⟨h.b, by have := h.d; simp [dS]; omega, by have := h.c; simp [cS]; omega⟩
theorem SzS.jn {a b : Sy} {d c e : Nat} {w : Bool} (h : SzS a d c) (g : SzS b d e) : SzS (.jn w a b) (d + 1) (c + e + 1) := ⟨⟨h.b, g.b⟩, by have := h.d; have := g.d; simp [dS]; omega, by have := h.c; have := g.c; simp [cS]; omega⟩
theorem SzS.bn {a : Sy} {d c : Nat} {w l : Bool} (h : SzS a d c) : SzS (.bn w l a) (d + 1) (c + 1) := ⟨h.b, by have := h.d; simp [dS]; omega, by have := h.c; simp [cS]; omega⟩
theorem okB_nil : OkB [] := ⟨⟨.inl rfl, fun _ h => nomatch h⟩, by decide, fun _ h => nomatch h⟩
theorem s6_len (i : Nat) : (S6r.getD i []).length ≤ 2 := by
  rw [List.getD_eq_getElem?_getD]
  cases e : S6r[i]? with
  | none => simp
  | some r =>
    have hm := List.mem_of_getElem? e
    have h : S6r.all (fun r => decide (r.length ≤ 2)) = true := by decide +kernel
    exact of_decide_eq_true (List.all_eq_true.mp h r hm)
theorem is_sz {bs : List Bd} (hb : ∀ b ∈ bs, OkB b) (ns : List Int) : SzS (isS bs ns) 0 1 := by
  refine ⟨⟨?_, s6_len _⟩, Nat.le_refl _, Nat.le_refl _⟩
  rw [List.getD_eq_getElem?_getD]
  cases e : bs[(pickF ns / 6 % (bs.length : Int)).toNat]? with
  | none => exact okB_nil
  | some b => exact hb b (List.mem_of_getElem? e)
theorem said_sz {bs : List Bd} (hb : ∀ b ∈ bs, OkB b) : ∀ (m : Nat) (ns : List Int), SzS (saidS bs m ns).1 m (2 ^ (m + 1) - 1)
  | 0, ns => (is_sz hb _).mono (Nat.le_refl _) (by decide)
  | m + 1, ns => by
    have h0 := (is_sz hb ns.dropLast)
    have h1 := said_sz hb m ns.dropLast
    have h2 := said_sz hb m (saidS bs m ns.dropLast).2
    have hp : 1 ≤ 2 ^ (m + 1) := Nat.one_le_two_pow
    have e2 : 2 ^ (m + 1 + 1) = 2 * 2 ^ (m + 1) := by rw [Nat.pow_succ]; omega
    rw [e2]
    show SzS (if _ then _ else if _ then _ else if _ then _ else _ : Sy × List Int).1 _ _
    by_cases q0 : pickF ns % 6 = 0
    · rw [if_pos q0]; exact h0.mono (by omega) (by omega)
    rw [if_neg q0]
    by_cases q1 : pickF ns % 6 = 1
    · rw [if_pos q1]; exact h1.ng.mono (by omega) (by omega)
    rw [if_neg q1]
    by_cases q4 : pickF ns % 6 < 4
    · rw [if_pos q4]; exact (h1.jn h2).mono (by omega) (by omega)
    rw [if_neg q4]
    exact h1.bn.mono (by omega) (by omega)
theorem sel_sz {a b c : Sy} {d e : Nat} (ha : SzS a d e) (hb : SzS b d e) (hc : SzS c d e) (i : Int) : SzS (sel3 a b c i) d e := by
  unfold sel3
  split
  · exact ha
  · split
    · exact hb
    · exact hc
theorem kind_sz {bs : List Bd} (hb : ∀ b ∈ bs, OkB b) (way : Nat) (ns : List Int) : SzS (kindS bs way ns).1 6 100 := by
  have i1 := is_sz hb ns.dropLast
  have i2 := is_sz hb ns.dropLast.dropLast
  have i3 := is_sz hb ns.dropLast.dropLast.dropLast
  have hp : SzS (plS bs ns) 1 3 := sel_sz (i1.mono (by omega) (by omega)) (i1.ng.mono (by omega) (by omega)) ((i1.jn i2).mono (by omega) (by omega)) _
  have hs : SzS (smS bs ns) 3 6 := sel_sz (hp.mono (by omega) (by omega)) (hp.bn.mono (by omega) (by omega)) ((hp.bn.jn (i3.mono (by omega) (Nat.le_refl _))).mono (by omega) (by omega)) _
  unfold kindS
  split
  · exact (said_sz hb 4 ns).mono (by omega) (by decide)
  · split
    · exact hs.mono (by omega) (by omega)
    · exact ((hs.bn (w := decide (pickF ns / 18 % 2 = 0)) (l := decide (pickF ns % 2 = 0))).jn (w := true) (((hp.bn (w := true) (l := decide (pickF ns / 36 % 2 = 0))).ng).mono (d' := 4) (by omega) (Nat.le_refl _))).mono (by omega) (by omega)
theorem r0_ok (x : Int) : OkB [r0F x, [1]] := by
  have hr : r0F x = [] ∨ ∃ a, r0F x = [a] ∧ a ≠ 0 := by
    unfold r0F
    by_cases e : x % 9 = 4
    · rw [if_pos e]; exact .inl rfl
    · rw [if_neg e]; exact .inr ⟨_, rfl, by omega⟩
  have hl : (r0F x).length ≤ 1 := by rcases hr with e | ⟨a, e, _⟩ <;> rw [e] <;> simp
  refine ⟨⟨.inr ⟨[r0F x], [1], rfl, by simp⟩, fun r hm => ?_⟩, by show 2 < 10; decide, fun r hm => ?_⟩
  · simp at hm
    rcases hm with rfl | rfl
    · rcases hr with e | ⟨a, e, ha⟩
      · exact .inl e
      · exact .inr ⟨[], a, e, ha⟩
    · exact .inr ⟨[], 1, rfl, by decide⟩
  · simp at hm
    rcases hm with rfl | rfl
    · omega
    · simp
theorem wide_sz (xs : List Int) : ∀ n, SzS (wideS xs n) n (2 * n + 1)
  | 0 => ⟨⟨r0_ok _, by simp⟩, Nat.le_refl _, Nat.le_refl _⟩
  | n + 1 => by
    have h := wide_sz xs n
    have ho : SzS (oneW (n + 1) (xs.getD (n + 2) 0)) n 1 := ⟨⟨boardOf_okB _, s6_len _⟩, Nat.zero_le _, Nat.le_refl _⟩
    show SzS (if _ then _ else _) _ _
    split
    · exact (h.jn ho).mono (by omega) (by omega)
    · exact (ho.jn h).mono (by omega) (by omega)
def C_law (ds : List D) (d : D) : Prop := ∃ ns : List Int, ds = [.scr ns] ∧ ns.length ≤ 63 ∧ d = .bl true
theorem len_law : ∀ ds d, C_law ds d → ds.length = 1 := by rintro _ _ ⟨_, rfl, _⟩; rfl
theorem law_true (ns : List Int) (h : ns.length ≤ 63) : C_law [.scr ns] (.bl true) := ⟨ns, rfl, h, rfl⟩
theorem cut_drop {xs : List Int} {n : Nat} : EV.cutD (xs.map D.int) (some (n : Int)) none = (xs.drop n).map D.int := by rw [cutFrom, List.map_drop]
section
variable {P : Program} {w : World} {K : PySem.W.Frag} {mg : Str → Option Value} {base : Heap} {k : Nat} {X : Cx}
theorem b_law (h : DefX P w K mg base k N_law (defScope s_law) X) (cW : Callee X "_law_wide" C__law_wide) (cB : Callee X "_law_some_boards" C__law_some_boards) (cN : Callee X "_law_numbers" C__law_numbers) (cK : CalleeS X "_law_kind" C__law_kind) (cC : Callee X "_law_cell" C__law_cell) (cR : Callee X "_law_right" C__law_right) :
    ∀ ds d, C_law ds d → EvSs X (ds.map Sl.val ++ List.replicate (N_law.length - ds.length) Sl.un) (defBody s_law) (.rt d) := by
  rintro ds d ⟨ns, rfl, hn, rfl⟩
  have t := h.at'
  haveI := h.fnT
  show EvSs X [.val (.scr ns), .un, .un, .un, .un, .un, .un] _ _
  refine es_cons (s_set t 1 (ev_call t cW (ea_cons (ev_call t cN (ea_cons (ev_call t cC (ea_cons (ev_name t 0 rfl) (ea_cons ev_int ea_nil)) ⟨ns, 14, rfl, by decide, by decide, rfl⟩) (ea_cons ev_int ea_nil)) ⟨cellF ns 14, 42, rfl, by decide, rfl⟩) ea_nil) ⟨numsF (cellF ns 14) 42, rfl, numsF_len _ _, rfl⟩)) ?_
  have hw := wide_sz (numsF (cellF ns 14) 42) ((numsF (cellF ns 14) 42).getD 0 0 % 40).toNat
  have hw2 : ((numsF (cellF ns 14) 42).getD 0 0 % 40).toNat ≤ 39 := by omega
  generalize wideS (numsF (cellF ns 14) 42) ((numsF (cellF ns 14) 42).getD 0 0 % 40).toNat = m at hw ⊢
  have ok1 : OkS m := hw.ok (by omega) (by omega)
  have ok2 : OkS (.ng m) := hw.ng.ok (by omega) (by omega)
  refine es_cons (s_ifF (EvT.eq (et_or2 (et_not (et_bl (ev_call t cR (ea_cons (ev_name t 1 rfl) ea_nil) ⟨m, rfl, ok1, rfl⟩))) fun _ => et_not (et_bl (ev_call t cR (ea_cons (ev_tup (ea_cons ev_str (ea_cons (ev_name t 1 rfl) ea_nil))) ea_nil) ⟨.ng m, rfl, ok2, rfl⟩))) rfl) es_nil) ?_
  refine es_cons (s_set t 2 (ev_call t cB (ea_cons (ev_name t 0 rfl) (ea_cons ev_int (ea_cons ev_int ea_nil))) ⟨ns, rfl, rfl⟩)) ?_
  have hb : ∀ b ∈ sbF ns, OkB b := fun b hb => by
    obtain ⟨k, _, rfl⟩ := List.mem_map.mp hb
    exact boardOf_okB _
  have hbl : (sbF ns).length = 4 := by simp [sbF]
  generalize sbF ns = bs at hb hbl ⊢
  have hbn : bs ≠ [] := fun z => by rw [z] at hbl; cases hbl
  show EvSs X [.val (.scr ns), .val (sD m), .val (.lst (bs.map boardD)), .un, .un, .un, .un] _ _
  have hz := cutI_len ns (some 5) (some 14)
  refine es_cons (s_for t (ds := ((cellF ns 0) :: cutI ns (some 5) (some 14)).map D.int) (ei_lst (EvE.eq (EvN.toE (en_cat (EvN.toE (en_lst (ea_cons (ev_call t cC (ea_cons (ev_name t 0 rfl) (ea_cons ev_int ea_nil)) ⟨ns, 0, rfl, by decide, by decide, rfl⟩) ea_nil))) (EvE.eq (EvN.toE (ev_cutL (EvE.qs (ev_name t 0 rfl)) (ev_part ev_int) (ev_part ev_int))) (by rw [cut_ints])) ?_)) rfl)) (FRun.same [.val (.scr ns), .val (sD m), .val (.lst (bs.map boardD)), .un, .un, .un, .un] _ fun d hd => ?_)) (es_one (s_ret ev_bl))
  · have := lineN; simp; omega
  obtain ⟨cc, _, rfl⟩ := List.mem_map.mp hd
  have hxl : (numsF cc 60).length = 60 := numsF_len _ _
  have hk := kind_sz hb ((numsF cc 60).getD 0 0 % 3).toNat ((numsF cc 60).drop 2)
  refine ⟨_, eg_name t 3, EvSs.weak (ρ1 := [.val (.scr ns), .val (sD m), .val (.lst (bs.map boardD)), .val (.int cc), .val (intsD (numsF cc 60)), .val (sD (kindS bs ((numsF cc 60).getD 0 0 % 3).toNat ((numsF cc 60).drop 2)).1), .un]) ?_ (.keep (.keep (.keep (.forget (.forget (.forget (.keep .nil)))))))⟩
  refine es_cons (s_set t 4 (ev_call t cN (ea_cons (ev_name t 3 rfl) (ea_cons ev_int ea_nil)) ⟨cc, 60, rfl, by decide, rfl⟩)) ?_
  refine es_cons (s_set t 5 (d := sD (kindS bs ((numsF cc 60).getD 0 0 % 3).toNat ((numsF cc 60).drop 2)).1) (ev_callS t cK (EvN.eq (ev_cutL (EvE.ql (ev_name t 4 rfl)) (ev_part ev_int) ev_noPart) (cut_drop (n := 2))) (ea_cons (ev_name t 2 rfl) (ea_cons (EvE.eq (ev_modP (ev_ix (EvE.ql (ev_name t 4 rfl)) ev_int (at_nat (n := 0) (by rw [hxl]; decide))) ev_int (by decide)) (show _ = D.int ((((numsF cc 60).getD 0 0 % 3).toNat : Nat) : Int) by rw [Int.toNat_of_nonneg (by omega)])) ea_nil)) ⟨bs, _, (numsF cc 60).drop 2, rfl, hbn, by omega, rfl, rfl, rfl⟩)) ?_
  generalize (kindS bs ((numsF cc 60).getD 0 0 % 3).toNat ((numsF cc 60).drop 2)).1 = s at hk ⊢
  generalize numsF cc 60 = xs0
  show EvSs X [.val (.scr ns), .val (sD m), .val (.lst (bs.map boardD)), .val (.int cc), .val (intsD xs0), .val (sD s), .un] _ _
  refine es_one (s_for t (ds := [s, .ng s, .jn false s s].map sD) (ei_lst (EvN.toE (en_lst (ea_cons (ev_name t 5 rfl) (ea_cons (ev_tup (ea_cons ev_str (ea_cons (ev_name t 5 rfl) ea_nil))) (ea_cons (ev_tup (ea_cons ev_str (ea_cons (ev_name t 5 rfl) (ea_cons (ev_name t 5 rfl) ea_nil)))) ea_nil)))))) (FRun.same _ _ fun d hd => ?_))
  obtain ⟨z, hz2, rfl⟩ := List.mem_map.mp hd
  have okz : OkS z := by
    simp at hz2
    rcases hz2 with rfl | rfl | rfl
    · exact hk.ok (by omega) (by omega)
    · exact hk.ng.ok (by omega) (by omega)
    · exact (hk.jn hk).ok (by omega) (by omega)
  exact ⟨_, eg_name t 6, EvSs.weak (ρ1 := [.val (.scr ns), .val (sD m), .val (.lst (bs.map boardD)), .val (.int cc), .val (intsD xs0), .val (sD s), .val (sD z)]) (es_one (s_ifF (EvT.eq (et_not (et_bl (ev_call t cR (ea_cons (ev_name t 6 rfl) ea_nil) ⟨z, rfl, okz, rfl⟩))) rfl) es_nil)) (.keep (.keep (.keep (.keep (.keep (.keep (.forget .nil)))))))⟩
end
end My

set_option linter.all false
set_option autoImplicit false
set_option maxRecDepth 100000
set_option Elab.async false
namespace My
open PySem L2 L2.EV PyProof.Rows
theorem bind1 {fd : FuncData} {ps : List Str} {us : List Value} (h : us.length = 1) (k : ∀ a0, bindArgs fd ⟨[a0], []⟩ = pure (ps.zip [a0])) : bindArgs fd ⟨us, []⟩ = pure (ps.zip us) := match us, h with | [a0], _ => k a0
theorem bind2 {fd : FuncData} {ps : List Str} {us : List Value} (h : us.length = 2) (k : ∀ a0 a1, bindArgs fd ⟨[a0, a1], []⟩ = pure (ps.zip [a0, a1])) : bindArgs fd ⟨us, []⟩ = pure (ps.zip us) := match us, h with | [a0, a1], _ => k a0 a1
theorem bind3 {fd : FuncData} {ps : List Str} {us : List Value} (h : us.length = 3) (k : ∀ a0 a1 a2, bindArgs fd ⟨[a0, a1, a2], []⟩ = pure (ps.zip [a0, a1, a2])) : bindArgs fd ⟨us, []⟩ = pure (ps.zip us) := match us, h with | [a0, a1, a2], _ => k a0 a1 a2
set_option maxHeartbeats 4000000 in
theorem all_mk {l : PySem.W.OpenLaw} {w : World} {K : PySem.W.Frag} {h : Heap} {mg : Str → Option Value} {fa f1 f2 f3 f4 f5 f6 f7 f8 f9 f10 f11 f12 f13 f14 f15 f16 f17 f18 f19 f20 f21 f22 f23 f24 f25 f26 f27 f28 f29 f30 f31 f32 f33 f34 : Addr} (ht : l.prog.given.tree = none) (X : K.In h) (G : h.Ns mainGlobals mg) (hfa : mg "law" = some (.ref fa))
    {od1 an1 od2 an2 od3 an3 od4 an4 od5 an5 od6 an6 od7 an7 od8 an8 od9 an9 od10 an10 od11 an11 od12 an12 od13 an13 od14 an14 od15 an15 od16 an16 od17 an17 od18 an18 od19 an19 od20 an20 od21 an21 od22 an22 od23 an23 od24 an24 od25 an25 od26 an26 od27 an27 od28 an28 od29 an29 od30 an30 od31 an31 od32 an32 od33 an33 od34 an34 : Option Addr} {sl1 sl2 sl3 sl4 sl5 sl6 sl7 sl8 sl9 sl10 sl11 sl12 sl13 sl14 sl15 sl16 sl17 sl18 sl19 sl20 sl21 sl22 sl23 sl24 sl25 sl26 sl27 sl28 sl29 sl30 sl31 sl32 sl33 sl34 : Array (Option Value)} {oc1 kV1 dc1 pm1 cd1 ct1 oc2 kV2 dc2 pm2 cd2 ct2 oc3 kV3 dc3 pm3 cd3 ct3 oc4 kV4 dc4 pm4 cd4 ct4 oc5 kV5 dc5 pm5 cd5 ct5 oc6 kV6 dc6 pm6 cd6 ct6 oc7 kV7 dc7 pm7 cd7 ct7 oc8 kV8 dc8 pm8 cd8 ct8 oc9 kV9 dc9 pm9 cd9 ct9 oc10 kV10 dc10 pm10 cd10 ct10 oc11 kV11 dc11 pm11 cd11 ct11 oc12 kV12 dc12 pm12 cd12 ct12 oc13 kV13 dc13 pm13 cd13 ct13 oc14 kV14 dc14 pm14 cd14 ct14 oc15 kV15 dc15 pm15 cd15 ct15 oc16 kV16 dc16 pm16 cd16 ct16 oc17 kV17 dc17 pm17 cd17 ct17 oc18 kV18 dc18 pm18 cd18 ct18 oc19 kV19 dc19 pm19 cd19 ct19 oc20 kV20 dc20 pm20 cd20 ct20 oc21 kV21 dc21 pm21 cd21 ct21 oc22 kV22 dc22 pm22 cd22 ct22 oc23 kV23 dc23 pm23 cd23 ct23 oc24 kV24 dc24 pm24 cd24 ct24 oc25 kV25 dc25 pm25 cd25 ct25 oc26 kV26 dc26 pm26 cd26 ct26 oc27 kV27 dc27 pm27 cd27 ct27 oc28 kV28 dc28 pm28 cd28 ct28 oc29 kV29 dc29 pm29 cd29 ct29 oc30 kV30 dc30 pm30 cd30 ct30 oc31 kV31 dc31 pm31 cd31 ct31 oc32 kV32 dc32 pm32 cd32 ct32 oc33 kV33 dc33 pm33 cd33 ct33 oc34 kV34 dc34 pm34 cd34 ct34 : Value}
    (a1 : PySem.W.nsIn K mainGlobals "length_of_rows" = some (some (.ref f1))) (l1 : K.lookup f1 = some ⟨oc1, od1, .func (PySem.W.fnOf "length_of_rows" "length_of_rows" (defArgs s_length_of_rows) (defBody s_length_of_rows) (defScope s_length_of_rows) .none kV1 dc1 pm1 an1 cd1 ct1), sl1⟩) (c1 : PySem.W.codeIn K cd1 "length_of_rows" = true) (k1 : PySem.W.keepIn K (.ref f1) = true)
    (a2 : PySem.W.nsIn K mainGlobals "letter_stands" = some (some (.ref f2))) (l2 : K.lookup f2 = some ⟨oc2, od2, .func (PySem.W.fnOf "letter_stands" "letter_stands" (defArgs s_letter_stands) (defBody s_letter_stands) (defScope s_letter_stands) .none kV2 dc2 pm2 an2 cd2 ct2), sl2⟩) (c2 : PySem.W.codeIn K cd2 "letter_stands" = true) (k2 : PySem.W.keepIn K (.ref f2) = true)
    (a3 : PySem.W.nsIn K mainGlobals "told_anew" = some (some (.ref f3))) (l3 : K.lookup f3 = some ⟨oc3, od3, .func (PySem.W.fnOf "told_anew" "told_anew" (defArgs s_told_anew) (defBody s_told_anew) (defScope s_told_anew) .none kV3 dc3 pm3 an3 cd3 ct3), sl3⟩) (c3 : PySem.W.codeIn K cd3 "told_anew" = true) (k3 : PySem.W.keepIn K (.ref f3) = true)
    (a4 : PySem.W.nsIn K mainGlobals "sayings_in" = some (some (.ref f4))) (l4 : K.lookup f4 = some ⟨oc4, od4, .func (PySem.W.fnOf "sayings_in" "sayings_in" (defArgs s_sayings_in) (defBody s_sayings_in) (defScope s_sayings_in) .none kV4 dc4 pm4 an4 cd4 ct4), sl4⟩) (c4 : PySem.W.codeIn K cd4 "sayings_in" = true) (k4 : PySem.W.keepIn K (.ref f4) = true)
    (a5 : PySem.W.nsIn K mainGlobals "parts_of" = some (some (.ref f5))) (l5 : K.lookup f5 = some ⟨oc5, od5, .func (PySem.W.fnOf "parts_of" "parts_of" (defArgs s_parts_of) (defBody s_parts_of) (defScope s_parts_of) .none kV5 dc5 pm5 an5 cd5 ct5), sl5⟩) (c5 : PySem.W.codeIn K cd5 "parts_of" = true) (k5 : PySem.W.keepIn K (.ref f5) = true)
    (a6 : PySem.W.nsIn K mainGlobals "boards_of" = some (some (.ref f6))) (l6 : K.lookup f6 = some ⟨oc6, od6, .func (PySem.W.fnOf "boards_of" "boards_of" (defArgs s_boards_of) (defBody s_boards_of) (defScope s_boards_of) .none kV6 dc6 pm6 an6 cd6 ct6), sl6⟩) (c6 : PySem.W.codeIn K cd6 "boards_of" = true) (k6 : PySem.W.keepIn K (.ref f6) = true)
    (a7 : PySem.W.nsIn K mainGlobals "is_plain" = some (some (.ref f7))) (l7 : K.lookup f7 = some ⟨oc7, od7, .func (PySem.W.fnOf "is_plain" "is_plain" (defArgs s_is_plain) (defBody s_is_plain) (defScope s_is_plain) .none kV7 dc7 pm7 an7 cd7 ct7), sl7⟩) (c7 : PySem.W.codeIn K cd7 "is_plain" = true) (k7 : PySem.W.keepIn K (.ref f7) = true)
    (a8 : PySem.W.nsIn K mainGlobals "fits_over" = some (some (.ref f8))) (l8 : K.lookup f8 = some ⟨oc8, od8, .func (PySem.W.fnOf "fits_over" "fits_over" (defArgs s_fits_over) (defBody s_fits_over) (defScope s_fits_over) .none kV8 dc8 pm8 an8 cd8 ct8), sl8⟩) (c8 : PySem.W.codeIn K cd8 "fits_over" = true) (k8 : PySem.W.keepIn K (.ref f8) = true)
    (a9 : PySem.W.nsIn K mainGlobals "is_over" = some (some (.ref f9))) (l9 : K.lookup f9 = some ⟨oc9, od9, .func (PySem.W.fnOf "is_over" "is_over" (defArgs s_is_over) (defBody s_is_over) (defScope s_is_over) .none kV9 dc9 pm9 an9 cd9 ct9), sl9⟩) (c9 : PySem.W.codeIn K cd9 "is_over" = true) (k9 : PySem.W.keepIn K (.ref f9) = true)
    (a10 : PySem.W.nsIn K mainGlobals "fits_closed" = some (some (.ref f10))) (l10 : K.lookup f10 = some ⟨oc10, od10, .func (PySem.W.fnOf "fits_closed" "fits_closed" (defArgs s_fits_closed) (defBody s_fits_closed) (defScope s_fits_closed) .none kV10 dc10 pm10 an10 cd10 ct10), sl10⟩) (c10 : PySem.W.codeIn K cd10 "fits_closed" = true) (k10 : PySem.W.keepIn K (.ref f10) = true)
    (a11 : PySem.W.nsIn K mainGlobals "is_closed" = some (some (.ref f11))) (l11 : K.lookup f11 = some ⟨oc11, od11, .func (PySem.W.fnOf "is_closed" "is_closed" (defArgs s_is_closed) (defBody s_is_closed) (defScope s_is_closed) .none kV11 dc11 pm11 an11 cd11 ct11), sl11⟩) (c11 : PySem.W.codeIn K cd11 "is_closed" = true) (k11 : PySem.W.keepIn K (.ref f11) = true)
    (a12 : PySem.W.nsIn K mainGlobals "_law_cell" = some (some (.ref f12))) (l12 : K.lookup f12 = some ⟨oc12, od12, .func (PySem.W.fnOf "_law_cell" "_law_cell" (defArgs s__law_cell) (defBody s__law_cell) (defScope s__law_cell) .none kV12 dc12 pm12 an12 cd12 ct12), sl12⟩) (c12 : PySem.W.codeIn K cd12 "_law_cell" = true) (k12 : PySem.W.keepIn K (.ref f12) = true)
    (a13 : PySem.W.nsIn K mainGlobals "_law_numbers" = some (some (.ref f13))) (l13 : K.lookup f13 = some ⟨oc13, od13, .func (PySem.W.fnOf "_law_numbers" "_law_numbers" (defArgs s__law_numbers) (defBody s__law_numbers) (defScope s__law_numbers) .none kV13 dc13 pm13 an13 cd13 ct13), sl13⟩) (c13 : PySem.W.codeIn K cd13 "_law_numbers" = true) (k13 : PySem.W.keepIn K (.ref f13) = true)
    (a14 : PySem.W.nsIn K mainGlobals "_law_trim" = some (some (.ref f14))) (l14 : K.lookup f14 = some ⟨oc14, od14, .func (PySem.W.fnOf "_law_trim" "_law_trim" (defArgs s__law_trim) (defBody s__law_trim) (defScope s__law_trim) .none kV14 dc14 pm14 an14 cd14 ct14), sl14⟩) (c14 : PySem.W.codeIn K cd14 "_law_trim" = true) (k14 : PySem.W.keepIn K (.ref f14) = true)
    (a15 : PySem.W.nsIn K mainGlobals "_law_board_of" = some (some (.ref f15))) (l15 : K.lookup f15 = some ⟨oc15, od15, .func (PySem.W.fnOf "_law_board_of" "_law_board_of" (defArgs s__law_board_of) (defBody s__law_board_of) (defScope s__law_board_of) .none kV15 dc15 pm15 an15 cd15 ct15), sl15⟩) (c15 : PySem.W.codeIn K cd15 "_law_board_of" = true) (k15 : PySem.W.keepIn K (.ref f15) = true)
    (a16 : PySem.W.nsIn K mainGlobals "_law_parts" = some (some (.ref f16))) (l16 : K.lookup f16 = some ⟨oc16, od16, .func (PySem.W.fnOf "_law_parts" "_law_parts" (defArgs s__law_parts) (defBody s__law_parts) (defScope s__law_parts) .none kV16 dc16 pm16 an16 cd16 ct16), sl16⟩) (c16 : PySem.W.codeIn K cd16 "_law_parts" = true) (k16 : PySem.W.keepIn K (.ref f16) = true)
    (a17 : PySem.W.nsIn K mainGlobals "_law_product" = some (some (.ref f17))) (l17 : K.lookup f17 = some ⟨oc17, od17, .func (PySem.W.fnOf "_law_product" "_law_product" (defArgs s__law_product) (defBody s__law_product) (defScope s__law_product) .none kV17 dc17 pm17 an17 cd17 ct17), sl17⟩) (c17 : PySem.W.codeIn K cd17 "_law_product" = true) (k17 : PySem.W.keepIn K (.ref f17) = true)
    (a18 : PySem.W.nsIn K mainGlobals "_law_line" = some (some (.ref f18))) (l18 : K.lookup f18 = some ⟨oc18, od18, .func (PySem.W.fnOf "_law_line" "_law_line" (defArgs s__law_line) (defBody s__law_line) (defScope s__law_line) .none kV18 dc18 pm18 an18 cd18 ct18), sl18⟩) (c18 : PySem.W.codeIn K cd18 "_law_line" = true) (k18 : PySem.W.keepIn K (.ref f18) = true)
    (a19 : PySem.W.nsIn K mainGlobals "_law_conic" = some (some (.ref f19))) (l19 : K.lookup f19 = some ⟨oc19, od19, .func (PySem.W.fnOf "_law_conic" "_law_conic" (defArgs s__law_conic) (defBody s__law_conic) (defScope s__law_conic) .none kV19 dc19 pm19 an19 cd19 ct19), sl19⟩) (c19 : PySem.W.codeIn K cd19 "_law_conic" = true) (k19 : PySem.W.keepIn K (.ref f19) = true)
    (a20 : PySem.W.nsIn K mainGlobals "_law_board" = some (some (.ref f20))) (l20 : K.lookup f20 = some ⟨oc20, od20, .func (PySem.W.fnOf "_law_board" "_law_board" (defArgs s__law_board) (defBody s__law_board) (defScope s__law_board) .none kV20 dc20 pm20 an20 cd20 ct20), sl20⟩) (c20 : PySem.W.codeIn K cd20 "_law_board" = true) (k20 : PySem.W.keepIn K (.ref f20) = true)
    (a21 : PySem.W.nsIn K mainGlobals "_law_pick" = some (some (.ref f21))) (l21 : K.lookup f21 = some ⟨oc21, od21, .func (PySem.W.fnOf "_law_pick" "_law_pick" (defArgs s__law_pick) (defBody s__law_pick) (defScope s__law_pick) .none kV21 dc21 pm21 an21 cd21 ct21), sl21⟩) (c21 : PySem.W.codeIn K cd21 "_law_pick" = true) (k21 : PySem.W.keepIn K (.ref f21) = true)
    (a22 : PySem.W.nsIn K mainGlobals "_law_is" = some (some (.ref f22))) (l22 : K.lookup f22 = some ⟨oc22, od22, .func (PySem.W.fnOf "_law_is" "_law_is" (defArgs s__law_is) (defBody s__law_is) (defScope s__law_is) .none kV22 dc22 pm22 an22 cd22 ct22), sl22⟩) (c22 : PySem.W.codeIn K cd22 "_law_is" = true) (k22 : PySem.W.keepIn K (.ref f22) = true)
    (a23 : PySem.W.nsIn K mainGlobals "_law_said" = some (some (.ref f23))) (l23 : K.lookup f23 = some ⟨oc23, od23, .func (PySem.W.fnOf "_law_said" "_law_said" (defArgs s__law_said) (defBody s__law_said) (defScope s__law_said) .none kV23 dc23 pm23 an23 cd23 ct23), sl23⟩) (c23 : PySem.W.codeIn K cd23 "_law_said" = true) (k23 : PySem.W.keepIn K (.ref f23) = true)
    (a24 : PySem.W.nsIn K mainGlobals "_law_kind_board" = some (some (.ref f24))) (l24 : K.lookup f24 = some ⟨oc24, od24, .func (PySem.W.fnOf "_law_kind_board" "_law_kind_board" (defArgs s__law_kind_board) (defBody s__law_kind_board) (defScope s__law_kind_board) .none kV24 dc24 pm24 an24 cd24 ct24), sl24⟩) (c24 : PySem.W.codeIn K cd24 "_law_kind_board" = true) (k24 : PySem.W.keepIn K (.ref f24) = true)
    (a25 : PySem.W.nsIn K mainGlobals "_law_some_boards" = some (some (.ref f25))) (l25 : K.lookup f25 = some ⟨oc25, od25, .func (PySem.W.fnOf "_law_some_boards" "_law_some_boards" (defArgs s__law_some_boards) (defBody s__law_some_boards) (defScope s__law_some_boards) .none kV25 dc25 pm25 an25 cd25 ct25), sl25⟩) (c25 : PySem.W.codeIn K cd25 "_law_some_boards" = true) (k25 : PySem.W.keepIn K (.ref f25) = true)
    (a26 : PySem.W.nsIn K mainGlobals "_law_boards" = some (some (.ref f26))) (l26 : K.lookup f26 = some ⟨oc26, od26, .func (PySem.W.fnOf "_law_boards" "_law_boards" (defArgs s__law_boards) (defBody s__law_boards) (defScope s__law_boards) .none kV26 dc26 pm26 an26 cd26 ct26), sl26⟩) (c26 : PySem.W.codeIn K cd26 "_law_boards" = true) (k26 : PySem.W.keepIn K (.ref f26) = true)
    (a27 : PySem.W.nsIn K mainGlobals "_law_has" = some (some (.ref f27))) (l27 : K.lookup f27 = some ⟨oc27, od27, .func (PySem.W.fnOf "_law_has" "_law_has" (defArgs s__law_has) (defBody s__law_has) (defScope s__law_has) .none kV27 dc27 pm27 an27 cd27 ct27), sl27⟩) (c27 : PySem.W.codeIn K cd27 "_law_has" = true) (k27 : PySem.W.keepIn K (.ref f27) = true)
    (a28 : PySem.W.nsIn K mainGlobals "_law_plain" = some (some (.ref f28))) (l28 : K.lookup f28 = some ⟨oc28, od28, .func (PySem.W.fnOf "_law_plain" "_law_plain" (defArgs s__law_plain) (defBody s__law_plain) (defScope s__law_plain) .none kV28 dc28 pm28 an28 cd28 ct28), sl28⟩) (c28 : PySem.W.codeIn K cd28 "_law_plain" = true) (k28 : PySem.W.keepIn K (.ref f28) = true)
    (a29 : PySem.W.nsIn K mainGlobals "_law_over" = some (some (.ref f29))) (l29 : K.lookup f29 = some ⟨oc29, od29, .func (PySem.W.fnOf "_law_over" "_law_over" (defArgs s__law_over) (defBody s__law_over) (defScope s__law_over) .none kV29 dc29 pm29 an29 cd29 ct29), sl29⟩) (c29 : PySem.W.codeIn K cd29 "_law_over" = true) (k29 : PySem.W.keepIn K (.ref f29) = true)
    (a30 : PySem.W.nsIn K mainGlobals "_law_closed" = some (some (.ref f30))) (l30 : K.lookup f30 = some ⟨oc30, od30, .func (PySem.W.fnOf "_law_closed" "_law_closed" (defArgs s__law_closed) (defBody s__law_closed) (defScope s__law_closed) .none kV30 dc30 pm30 an30 cd30 ct30), sl30⟩) (c30 : PySem.W.codeIn K cd30 "_law_closed" = true) (k30 : PySem.W.keepIn K (.ref f30) = true)
    (a31 : PySem.W.nsIn K mainGlobals "_law_kind" = some (some (.ref f31))) (l31 : K.lookup f31 = some ⟨oc31, od31, .func (PySem.W.fnOf "_law_kind" "_law_kind" (defArgs s__law_kind) (defBody s__law_kind) (defScope s__law_kind) .none kV31 dc31 pm31 an31 cd31 ct31), sl31⟩) (c31 : PySem.W.codeIn K cd31 "_law_kind" = true) (k31 : PySem.W.keepIn K (.ref f31) = true)
    (a32 : PySem.W.nsIn K mainGlobals "_law_wide" = some (some (.ref f32))) (l32 : K.lookup f32 = some ⟨oc32, od32, .func (PySem.W.fnOf "_law_wide" "_law_wide" (defArgs s__law_wide) (defBody s__law_wide) (defScope s__law_wide) .none kV32 dc32 pm32 an32 cd32 ct32), sl32⟩) (c32 : PySem.W.codeIn K cd32 "_law_wide" = true) (k32 : PySem.W.keepIn K (.ref f32) = true)
    (a33 : PySem.W.nsIn K mainGlobals "_law_right" = some (some (.ref f33))) (l33 : K.lookup f33 = some ⟨oc33, od33, .func (PySem.W.fnOf "_law_right" "_law_right" (defArgs s__law_right) (defBody s__law_right) (defScope s__law_right) .none kV33 dc33 pm33 an33 cd33 ct33), sl33⟩) (c33 : PySem.W.codeIn K cd33 "_law_right" = true) (k33 : PySem.W.keepIn K (.ref f33) = true)
    (a34 : PySem.W.nsIn K mainGlobals "law" = some (some (.ref f34))) (l34 : K.lookup f34 = some ⟨oc34, od34, .func (PySem.W.fnOf "law" "law" (defArgs s_law) (defBody s_law) (defScope s_law) .none kV34 dc34 pm34 an34 cd34 ct34), sl34⟩) (c34 : PySem.W.codeIn K cd34 "law" = true) (k34 : PySem.W.keepIn K (.ref f34) = true)
    (z_max : PySem.W.nsIn K mainGlobals "max" = some none)
    (z_len : PySem.W.nsIn K mainGlobals "len" = some none)
    (z_isinstance : PySem.W.nsIn K mainGlobals "isinstance" = some none)
    (z_tuple : PySem.W.nsIn K mainGlobals "tuple" = some none)
    (z_list : PySem.W.nsIn K mainGlobals "list" = some none)
    (z_any : PySem.W.nsIn K mainGlobals "any" = some none)
    (z_all : PySem.W.nsIn K mainGlobals "all" = some none)
    (z_range : PySem.W.nsIn K mainGlobals "range" = some none)
    (z_abs : PySem.W.nsIn K mainGlobals "abs" = some none)
    (z_int : PySem.W.nsIn K mainGlobals "int" = some none)
    (z_bool : PySem.W.nsIn K mainGlobals "bool" = some none)
    {g_BINDERS : Addr} {go_BINDERS : Option Addr} {gi_BINDERS : Array Value} {gn_BINDERS : Nat} {gs_BINDERS : Array (Option Value)}
    (ga_BINDERS : PySem.W.nsIn K mainGlobals "BINDERS" = some (some (.ref g_BINDERS))) (gl_BINDERS : K.lookup g_BINDERS = some ⟨.type "tuple", go_BINDERS, .seq gi_BINDERS gn_BINDERS, gs_BINDERS⟩) (gp_BINDERS : GPs K gi_BINDERS.toList [.str "some", .str "all"])
    : ∃ fd : FuncData, (∀ (s : Shared) (v : Value), BindsTo s fd ⟨[v], []⟩ [("_law_script", v)]) ∧ ∀ base : Heap, K.In base → base.Ns mainGlobals mg → FnOk l.prog w K mg base CX0 158 fa fd ["_law_script"] (spC K C_law) := by
  have e := hfa.symm.trans (PySem.W.mg_of X G a34)
  cases e
  have m_max := PySem.W.mg_none_of X G z_max
  have m_len := PySem.W.mg_none_of X G z_len
  have m_isinstance := PySem.W.mg_none_of X G z_isinstance
  have m_tuple := PySem.W.mg_none_of X G z_tuple
  have m_list := PySem.W.mg_none_of X G z_list
  have m_any := PySem.W.mg_none_of X G z_any
  have m_all := PySem.W.mg_none_of X G z_all
  have m_range := PySem.W.mg_none_of X G z_range
  have m_abs := PySem.W.mg_none_of X G z_abs
  have m_int := PySem.W.mg_none_of X G z_int
  have m_bool := PySem.W.mg_none_of X G z_bool
  have F1 := fun_mk (st := s_length_of_rows) l1 c1 k1
  have m1 := PySem.W.mg_of X G a1
  have bd1 := F1.binds (ps := ["f"]) fun _ _ _ _ _ _ us hl => bind1 hl fun _ => rfl
  have F2 := fun_mk (st := s_letter_stands) l2 c2 k2
  have m2 := PySem.W.mg_of X G a2
  have bd2 := F2.binds (ps := ["letter", "f"]) fun _ _ _ _ _ _ us hl => bind2 hl fun _ _ => rfl
  have F3 := fun_mk (st := s_told_anew) l3 c3 k3
  have m3 := PySem.W.mg_of X G a3
  have bd3 := F3.binds (ps := ["thing"]) fun _ _ _ _ _ _ us hl => bind1 hl fun _ => rfl
  have F4 := fun_mk (st := s_sayings_in) l4 c4 k4
  have m4 := PySem.W.mg_of X G a4
  have bd4 := F4.binds (ps := ["S"]) fun _ _ _ _ _ _ us hl => bind1 hl fun _ => rfl
  have F5 := fun_mk (st := s_parts_of) l5 c5 k5
  have m5 := PySem.W.mg_of X G a5
  have bd5 := F5.binds (ps := ["S", "stops"]) fun _ _ _ _ _ _ us hl => bind2 hl fun _ _ => rfl
  have F6 := fun_mk (st := s_boards_of) l6 c6 k6
  have m6 := PySem.W.mg_of X G a6
  have bd6 := F6.binds (ps := ["S"]) fun _ _ _ _ _ _ us hl => bind1 hl fun _ => rfl
  have F7 := fun_mk (st := s_is_plain) l7 c7 k7
  have m7 := PySem.W.mg_of X G a7
  have bd7 := F7.binds (ps := ["S"]) fun _ _ _ _ _ _ us hl => bind1 hl fun _ => rfl
  have F8 := fun_mk (st := s_fits_over) l8 c8 k8
  have m8 := PySem.W.mg_of X G a8
  have bd8 := F8.binds (ps := ["part", "other"]) fun _ _ _ _ _ _ us hl => bind2 hl fun _ _ => rfl
  have F9 := fun_mk (st := s_is_over) l9 c9 k9
  have m9 := PySem.W.mg_of X G a9
  have bd9 := F9.binds (ps := ["S", "letter"]) fun _ _ _ _ _ _ us hl => bind2 hl fun _ _ => rfl
  have F10 := fun_mk (st := s_fits_closed) l10 c10 k10
  have m10 := PySem.W.mg_of X G a10
  have bd10 := F10.binds (ps := ["part"]) fun _ _ _ _ _ _ us hl => bind1 hl fun _ => rfl
  have F11 := fun_mk (st := s_is_closed) l11 c11 k11
  have m11 := PySem.W.mg_of X G a11
  have bd11 := F11.binds (ps := ["S"]) fun _ _ _ _ _ _ us hl => bind1 hl fun _ => rfl
  have F12 := fun_mk (st := s__law_cell) l12 c12 k12
  have m12 := PySem.W.mg_of X G a12
  have bd12 := F12.binds (ps := ["_law_script", "_law_k"]) fun _ _ _ _ _ _ us hl => bind2 hl fun _ _ => rfl
  have F13 := fun_mk (st := s__law_numbers) l13 c13 k13
  have m13 := PySem.W.mg_of X G a13
  have bd13 := F13.binds (ps := ["_law_cell_here", "_law_many"]) fun _ _ _ _ _ _ us hl => bind2 hl fun _ _ => rfl
  have F14 := fun_mk (st := s__law_trim) l14 c14 k14
  have m14 := PySem.W.mg_of X G a14
  have bd14 := F14.binds (ps := ["_law_parts_here"]) fun _ _ _ _ _ _ us hl => bind1 hl fun _ => rfl
  have F15 := fun_mk (st := s__law_board_of) l15 c15 k15
  have m15 := PySem.W.mg_of X G a15
  have bd15 := F15.binds (ps := ["_law_parts_here"]) fun _ _ _ _ _ _ us hl => bind1 hl fun _ => rfl
  have F16 := fun_mk (st := s__law_parts) l16 c16 k16
  have m16 := PySem.W.mg_of X G a16
  have bd16 := F16.binds (ps := ["_law_board_here"]) fun _ _ _ _ _ _ us hl => bind1 hl fun _ => rfl
  have F17 := fun_mk (st := s__law_product) l17 c17 k17
  have m17 := PySem.W.mg_of X G a17
  have bd17 := F17.binds (ps := ["_law_one", "_law_other"]) fun _ _ _ _ _ _ us hl => bind2 hl fun _ _ => rfl
  have F18 := fun_mk (st := s__law_line) l18 c18 k18
  have m18 := PySem.W.mg_of X G a18
  have bd18 := F18.binds (ps := ["_law_xs"]) fun _ _ _ _ _ _ us hl => bind1 hl fun _ => rfl
  have F19 := fun_mk (st := s__law_conic) l19 c19 k19
  have m19 := PySem.W.mg_of X G a19
  have bd19 := F19.binds (ps := ["_law_xs"]) fun _ _ _ _ _ _ us hl => bind1 hl fun _ => rfl
  have F20 := fun_mk (st := s__law_board) l20 c20 k20
  have m20 := PySem.W.mg_of X G a20
  have bd20 := F20.binds (ps := ["_law_cell_here"]) fun _ _ _ _ _ _ us hl => bind1 hl fun _ => rfl
  have F21 := fun_mk (st := s__law_pick) l21 c21 k21
  have m21 := PySem.W.mg_of X G a21
  have bd21 := F21.binds (ps := ["_law_state"]) fun _ _ _ _ _ _ us hl => bind1 hl fun _ => rfl
  have F22 := fun_mk (st := s__law_is) l22 c22 k22
  have m22 := PySem.W.mg_of X G a22
  have bd22 := F22.binds (ps := ["_law_state", "_law_boards_here"]) fun _ _ _ _ _ _ us hl => bind2 hl fun _ _ => rfl
  have F23 := fun_mk (st := s__law_said) l23 c23 k23
  have m23 := PySem.W.mg_of X G a23
  have bd23 := F23.binds (ps := ["_law_state", "_law_boards_here", "_law_deep"]) fun _ _ _ _ _ _ us hl => bind3 hl fun _ _ _ => rfl
  have F24 := fun_mk (st := s__law_kind_board) l24 c24 k24
  have m24 := PySem.W.mg_of X G a24
  have bd24 := F24.binds (ps := ["_law_cell_here", "_law_way"]) fun _ _ _ _ _ _ us hl => bind2 hl fun _ _ => rfl
  have F25 := fun_mk (st := s__law_some_boards) l25 c25 k25
  have m25 := PySem.W.mg_of X G a25
  have bd25 := F25.binds (ps := ["_law_script", "_law_at", "_law_many"]) fun _ _ _ _ _ _ us hl => bind3 hl fun _ _ _ => rfl
  have F26 := fun_mk (st := s__law_boards) l26 c26 k26
  have m26 := PySem.W.mg_of X G a26
  have bd26 := F26.binds (ps := ["_law_saying"]) fun _ _ _ _ _ _ us hl => bind1 hl fun _ => rfl
  have F27 := fun_mk (st := s__law_has) l27 c27 k27
  have m27 := PySem.W.mg_of X G a27
  have bd27 := F27.binds (ps := ["_law_board_here", "_law_letter"]) fun _ _ _ _ _ _ us hl => bind2 hl fun _ _ => rfl
  have F28 := fun_mk (st := s__law_plain) l28 c28 k28
  have m28 := PySem.W.mg_of X G a28
  have bd28 := F28.binds (ps := ["_law_saying"]) fun _ _ _ _ _ _ us hl => bind1 hl fun _ => rfl
  have F29 := fun_mk (st := s__law_over) l29 c29 k29
  have m29 := PySem.W.mg_of X G a29
  have bd29 := F29.binds (ps := ["_law_saying", "_law_letter"]) fun _ _ _ _ _ _ us hl => bind2 hl fun _ _ => rfl
  have F30 := fun_mk (st := s__law_closed) l30 c30 k30
  have m30 := PySem.W.mg_of X G a30
  have bd30 := F30.binds (ps := ["_law_saying"]) fun _ _ _ _ _ _ us hl => bind1 hl fun _ => rfl
  have F31 := fun_mk (st := s__law_kind) l31 c31 k31
  have m31 := PySem.W.mg_of X G a31
  have bd31 := F31.binds (ps := ["_law_state", "_law_boards_here", "_law_way"]) fun _ _ _ _ _ _ us hl => bind3 hl fun _ _ _ => rfl
  have F32 := fun_mk (st := s__law_wide) l32 c32 k32
  have m32 := PySem.W.mg_of X G a32
  have bd32 := F32.binds (ps := ["_law_xs"]) fun _ _ _ _ _ _ us hl => bind1 hl fun _ => rfl
  have F33 := fun_mk (st := s__law_right) l33 c33 k33
  have m33 := PySem.W.mg_of X G a33
  have bd33 := F33.binds (ps := ["_law_saying"]) fun _ _ _ _ _ _ us hl => bind1 hl fun _ => rfl
  have F34 := fun_mk (st := s_law) l34 c34 k34
  have m34 := PySem.W.mg_of X G a34
  refine ⟨PySem.W.fnOf "law" "law" (defArgs s_law) (defBody s_law) (defScope s_law) .none kV34 dc34 pm34 an34 cd34 ct34, fun s v => .of_eq rfl, fun base KB _ => ?_⟩
  have ok1 : FnOk l.prog w K mg base CX0 1 _ _ _ (spC K C_length_of_rows) := fn_ev ht F1 sc_length_of_rows len_length_of_rows fun XX hX => b_length_of_rows hX m_max m_len 
  have ok2 : FnOk l.prog w K mg base CX0 2 _ _ _ (spC K C_letter_stands) := fn_ev ht F2 sc_letter_stands len_letter_stands fun XX hX => b_letter_stands hX m_len (hX.callee ok1 (by decide) m1 k1 bd1)
  have okr3 : ∀ n, FnOk l.prog w K mg base CX0 (n + 1) f3 (PySem.W.fnOf "told_anew" "told_anew" (defArgs s_told_anew) (defBody s_told_anew) (defScope s_told_anew) .none kV3 dc3 pm3 an3 cd3 ct3) ["thing"] (spC K (C_told_anew n)) := fun n => by induction n with | zero => exact fn_ev ht F3 sc_told_anew (len_told_anew 0) (fun XX hX ds d z => z.elim) | succ n ih => exact fn_ev ht F3 sc_told_anew (len_told_anew (n + 1)) (fun XX hX => b_told_anew hX m_isinstance m_tuple  n (hX.callee ih (by omega) m3 k3 bd3))
  have ok3 : FnOk l.prog w K mg base CX0 4 _ _ _ (spC K (C_told_anew 3)) := okr3 3
  have ok4 : FnOk l.prog w K mg base CX0 1 _ _ _ (spC K C_sayings_in) := fn_ev ht F4 sc_sayings_in len_sayings_in fun XX hX => b_sayings_in hX m_list  ⟨g_BINDERS, PySem.W.mg_of X G ga_BINDERS, .tup gl_BINDERS rfl rfl gp_BINDERS⟩
  have ok5 : FnOk l.prog w K mg base CX0 2 _ _ _ (spC K (C_parts_of K)) := fn_ev ht F5 sc_parts_of len_parts_of fun XX hX => b_parts_of hX  (hX.callee ok4 (by decide) m4 k4 bd4)
  have ok6 : FnOk l.prog w K mg base CX0 5 _ _ _ (spC K C_boards_of) := fn_ev ht F6 sc_boards_of len_boards_of fun XX hX => b_boards_of hX m_tuple (hX.callee ok5 (by decide) m5 k5 bd5) (hX.callee ok3 (by decide) m3 k3 bd3)
  have ok7 : FnOk l.prog w K mg base CX0 3 _ _ _ (spC K C_is_plain) := fn_ev ht F7 sc_is_plain len_is_plain fun XX hX => b_is_plain hX m_any (hX.callee ok5 (by decide) m5 k5 bd5) ⟨g_BINDERS, PySem.W.mg_of X G ga_BINDERS, .tup gl_BINDERS rfl rfl gp_BINDERS⟩
  have ok8 : FnOk l.prog w K mg base CX0 4 _ _ _ (spC K C_fits_over) := fn_ev ht F8 sc_fits_over len_fits_over fun XX hX => b_fits_over hX  (hX.callee ok2 (by decide) m2 k2 bd2) (hX.callee ok7 (by decide) m7 k7 bd7) ⟨g_BINDERS, PySem.W.mg_of X G ga_BINDERS, .tup gl_BINDERS rfl rfl gp_BINDERS⟩
  have ok9 : FnOk l.prog w K mg base CX0 5 _ _ _ (spC K C_is_over) := fn_ev ht F9 sc_is_over len_is_over fun XX hX => b_is_over hX m_all (hX.callee ok8 (by decide) m8 k8 bd8) (hX.callee ok5 (by decide) m5 k5 bd5) ⟨g_BINDERS, PySem.W.mg_of X G ga_BINDERS, .tup gl_BINDERS rfl rfl gp_BINDERS⟩
  have ok10 : FnOk l.prog w K mg base CX0 6 _ _ _ (spC K C_fits_closed) := fn_ev ht F10 sc_fits_closed len_fits_closed fun XX hX => b_fits_closed hX  (hX.callee ok9 (by decide) m9 k9 bd9) (hX.callee ok2 (by decide) m2 k2 bd2) ⟨g_BINDERS, PySem.W.mg_of X G ga_BINDERS, .tup gl_BINDERS rfl rfl gp_BINDERS⟩
  have ok11 : FnOk l.prog w K mg base CX0 7 _ _ _ (spC K C_is_closed) := fn_ev ht F11 sc_is_closed len_is_closed fun XX hX => b_is_closed hX m_all (hX.callee ok10 (by decide) m10 k10 bd10) (hX.callee ok5 (by decide) m5 k5 bd5) ⟨g_BINDERS, PySem.W.mg_of X G ga_BINDERS, .tup gl_BINDERS rfl rfl gp_BINDERS⟩
  have ok12 : FnOk l.prog w K mg base CX0 1 _ _ _ (spC K C__law_cell) := fn_ev ht F12 sc__law_cell len__law_cell fun XX hX => b__law_cell hX m_len 
  have ok13 : FnOk l.prog w K mg base CX0 1 _ _ _ (spC K C__law_numbers) := fn_ev ht F13 sc__law_numbers len__law_numbers fun XX hX => b__law_numbers hX m_range m_abs m_int 
  have ok14 : FnOk l.prog w K mg base CX0 1 _ _ _ (spC K C__law_trim) := fn_ev ht F14 sc__law_trim len__law_trim fun XX hX => b__law_trim hX m_list m_tuple m_len 
  have ok15 : FnOk l.prog w K mg base CX0 2 _ _ _ (spC K C__law_board_of) := fn_ev ht F15 sc__law_board_of len__law_board_of fun XX hX => b__law_board_of hX m_range m_tuple m_len (hX.callee ok14 (by decide) m14 k14 bd14)
  have okd16 : FnOk l.prog w K mg base CX0 1 _ _ _ (spD K C__law_parts) := fn_evD ht F16 sc__law_parts len__law_parts fun XX hX => bd__law_parts hX m_range m_len 
  have okd17 : FnOk l.prog w K mg base CX0 1 _ _ _ (spD K C__law_product) := fn_evD ht F17 sc__law_product len__law_product fun XX hX => bd__law_product hX  
  have okd18 : FnOk l.prog w K mg base CX0 1 _ _ _ (spD K C__law_line) := fn_evD ht F18 sc__law_line len__law_line fun XX hX => bd__law_line hX  
  have okd19 : FnOk l.prog w K mg base CX0 1 _ _ _ (spD K C__law_conic) := fn_evD ht F19 sc__law_conic len__law_conic fun XX hX => bd__law_conic hX m_range 
  have ok20 : FnOk l.prog w K mg base CX0 3 _ _ _ (spC K C__law_board) := fn_ev ht F20 sc__law_board len__law_board fun XX hX => b__law_board hX  (hX.callee ok13 (by decide) m13 k13 bd13) (hX.callee ok15 (by decide) m15 k15 bd15) (hX.calleeD okd18 (by decide) m18 k18 bd18) (hX.calleeD okd19 (by decide) m19 k19 bd19) (hX.calleeD okd17 (by decide) m17 k17 bd17)
  have oks21 : FnOk l.prog w K mg base CX0 1 _ _ _ (spS K C__law_pick) := fn_evS ht F21 sc__law_pick len__law_pick fun XX hX => bs__law_pick hX  
  have oks22 : FnOk l.prog w K mg base CX0 2 _ _ _ (spS K C__law_is) := fn_evS ht F22 sc__law_is len__law_is fun XX hX => bs__law_is hX m_len (hX.calleeS oks21 (by decide) m21 k21 bd21)
  have okr23 : ∀ n, FnOk l.prog w K mg base CX0 (n + 3) f23 (PySem.W.fnOf "_law_said" "_law_said" (defArgs s__law_said) (defBody s__law_said) (defScope s__law_said) .none kV23 dc23 pm23 an23 cd23 ct23) ["_law_state", "_law_boards_here", "_law_deep"] (spS K (C__law_said n)) := fun n => by induction n with | zero => exact fn_evS ht F23 sc__law_said (len__law_said 0) (fun XX hX q ds xs d xs' z => z.elim) | succ n ih => exact fn_evS ht F23 sc__law_said (len__law_said (n + 1)) (fun XX hX => bs__law_said hX  (hX.calleeS oks21 (by omega) m21 k21 bd21) (hX.calleeS oks22 (by omega) m22 k22 bd22) n (hX.calleeS ih (by omega) m23 k23 bd23))
  have oks23 : FnOk l.prog w K mg base CX0 8 _ _ _ (spS K (C__law_said 5)) := okr23 5
  have ok24 : FnOk l.prog w K mg base CX0 4 _ _ _ (spC K C__law_kind_board) := fn_ev ht F24 sc__law_kind_board len__law_kind_board fun XX hX => b__law_kind_board hX  (hX.calleeD okd16 (by decide) m16 k16 bd16) (hX.callee ok15 (by decide) m15 k15 bd15) (hX.callee ok20 (by decide) m20 k20 bd20)
  have ok25 : FnOk l.prog w K mg base CX0 5 _ _ _ (spC K C__law_some_boards) := fn_ev ht F25 sc__law_some_boards len__law_some_boards fun XX hX => b__law_some_boards hX m_range (hX.callee ok12 (by decide) m12 k12 bd12) (hX.callee ok24 (by decide) m24 k24 bd24) (hX.callee ok13 (by decide) m13 k13 bd13)
  have okr26 : ∀ n, FnOk l.prog w K mg base CX0 (n + 1) f26 (PySem.W.fnOf "_law_boards" "_law_boards" (defArgs s__law_boards) (defBody s__law_boards) (defScope s__law_boards) .none kV26 dc26 pm26 an26 cd26 ct26) ["_law_saying"] (spC K (C__law_boards n)) := fun n => by induction n with | zero => exact fn_ev ht F26 sc__law_boards (len__law_boards 0) (fun XX hX ds d z => z.elim) | succ n ih => exact fn_ev ht F26 sc__law_boards (len__law_boards (n + 1)) (fun XX hX => b__law_boards hX m_isinstance m_tuple  n (hX.callee ih (by omega) m26 k26 bd26))
  have ok26 : FnOk l.prog w K mg base CX0 52 _ _ _ (spC K (C__law_boards 51)) := okr26 51
  have ok27 : FnOk l.prog w K mg base CX0 2 _ _ _ (spC K C__law_has) := fn_ev ht F27 sc__law_has len__law_has fun XX hX => b__law_has hX m_any (hX.calleeD okd16 (by decide) m16 k16 bd16)
  have okr28 : ∀ n, FnOk l.prog w K mg base CX0 (n + 1) f28 (PySem.W.fnOf "_law_plain" "_law_plain" (defArgs s__law_plain) (defBody s__law_plain) (defScope s__law_plain) .none kV28 dc28 pm28 an28 cd28 ct28) ["_law_saying"] (spC K (C__law_plain n)) := fun n => by induction n with | zero => exact fn_ev ht F28 sc__law_plain (len__law_plain 0) (fun XX hX ds d z => z.elim) | succ n ih => exact fn_ev ht F28 sc__law_plain (len__law_plain (n + 1)) (fun XX hX => b__law_plain hX m_all  n (hX.callee ih (by omega) m28 k28 bd28))
  have ok28 : FnOk l.prog w K mg base CX0 52 _ _ _ (spC K (C__law_plain 51)) := okr28 51
  have okr29 : ∀ n, FnOk l.prog w K mg base CX0 (n + 53) f29 (PySem.W.fnOf "_law_over" "_law_over" (defArgs s__law_over) (defBody s__law_over) (defScope s__law_over) .none kV29 dc29 pm29 an29 cd29 ct29) ["_law_saying", "_law_letter"] (spC K (C__law_over n)) := fun n => by induction n with | zero => exact fn_ev ht F29 sc__law_over (len__law_over 0) (fun XX hX ds d z => z.elim) | succ n ih => exact fn_ev ht F29 sc__law_over (len__law_over (n + 1)) (fun XX hX => b__law_over hX m_all (hX.callee ok27 (by omega) m27 k27 bd27) (hX.callee ok28 (by omega) m28 k28 bd28) n (hX.callee ih (by omega) m29 k29 bd29))
  have ok29 : FnOk l.prog w K mg base CX0 104 _ _ _ (spC K (C__law_over 51)) := okr29 51
  have okr30 : ∀ n, FnOk l.prog w K mg base CX0 (n + 105) f30 (PySem.W.fnOf "_law_closed" "_law_closed" (defArgs s__law_closed) (defBody s__law_closed) (defScope s__law_closed) .none kV30 dc30 pm30 an30 cd30 ct30) ["_law_saying"] (spC K (C__law_closed n)) := fun n => by induction n with | zero => exact fn_ev ht F30 sc__law_closed (len__law_closed 0) (fun XX hX ds d z => z.elim) | succ n ih => exact fn_ev ht F30 sc__law_closed (len__law_closed (n + 1)) (fun XX hX => b__law_closed hX m_all (hX.callee ok29 (by omega) m29 k29 bd29) (hX.callee ok27 (by omega) m27 k27 bd27) n (hX.callee ih (by omega) m30 k30 bd30))
  have ok30 : FnOk l.prog w K mg base CX0 156 _ _ _ (spC K (C__law_closed 51)) := okr30 51
  have oks31 : FnOk l.prog w K mg base CX0 9 _ _ _ (spS K C__law_kind) := fn_evS ht F31 sc__law_kind len__law_kind fun XX hX => bs__law_kind hX  (hX.calleeS oks21 (by decide) m21 k21 bd21) (hX.calleeS oks22 (by decide) m22 k22 bd22) (hX.calleeS oks23 (by decide) m23 k23 bd23)
  have ok32 : FnOk l.prog w K mg base CX0 3 _ _ _ (spC K C__law_wide) := fn_ev ht F32 sc__law_wide len__law_wide fun XX hX => b__law_wide hX m_range m_int (hX.callee ok15 (by decide) m15 k15 bd15)
  have ok33 : FnOk l.prog w K mg base CX0 157 _ _ _ (spC K C__law_right) := fn_ev ht F33 sc__law_right len__law_right fun XX hX => b__law_right hX m_all m_isinstance m_tuple m_list m_bool (hX.callee ok6 (by decide) m6 k6 bd6) (hX.callee ok7 (by decide) m7 k7 bd7) (hX.callee ok9 (by decide) m9 k9 bd9) (hX.callee ok11 (by decide) m11 k11 bd11) (hX.callee ok28 (by decide) m28 k28 bd28) (hX.callee ok29 (by decide) m29 k29 bd29) (hX.callee ok30 (by decide) m30 k30 bd30) (hX.callee ok26 (by decide) m26 k26 bd26)
  have ok34 : FnOk l.prog w K mg base CX0 158 _ _ _ (spC K C_law) := fn_ev ht F34 sc_law len_law fun XX hX => b_law hX  (hX.callee ok32 (by decide) m32 k32 bd32) (hX.callee ok25 (by decide) m25 k25 bd25) (hX.callee ok13 (by decide) m13 k13 bd13) (hX.calleeS oks31 (by decide) m31 k31 bd31) (hX.callee ok12 (by decide) m12 k12 bd12) (hX.callee ok33 (by decide) m33 k33 bd33)
  exact ok34
theorem walk {l : PySem.W.OpenLaw} {q : Program} {loose : List Str} {XP : (Str → Option Value) → Heap → Prop} {YP : World → Heap → Prop} {d : DefRec} {K : Params → PySem.W.Frag} (hq : importsNone q = true) (hn : l.most = some 63) (hdf : d.params.defaults = [])
    (hY : ∀ (w : World) (h : Heap), YP w h → (K w.params).In h)
    (F : ∀ (w : World) (mg : Str → Option Value) (fa : Addr) (h : Heap), (K w.params).In h → h.Ns mainGlobals mg → mg d.name = some (.ref fa) →
      ∃ fd : FuncData, (∀ (s : Shared) (u : Value), BindsTo s fd ⟨[u], []⟩ [("_law_script", u)]) ∧ ∀ base : Heap, (K w.params).In base → base.Ns mainGlobals mg → FnOk l.prog w (K w.params) mg base CX0 158 fa fd ["_law_script"] (spC (K w.params) C_law)) :
    PySem.W.WalkO q loose XP YP l.row.toRowW d [] (fun f vs => PySem.call f vs) :=
  L2.walk_of (n := 63) (k := 158) (x := "_law_script") (CX := fun _ => CX0) (sp := fun w => spC (K w.params) C_law) hq hn (by decide) hdf ⟨rfl, by decide, by decide⟩ hY F (fun _ H a ns hl hO hS => ⟨H, [.scr ns], .bl true, .refl _, .cons (.scr hS) .nil, law_true ns hl, fun v F' H' x r => by cases r; rfl⟩) fun _ _ _ _ _ z => z

end My
open PySem PySem.W PyProof.Rows
set_option maxRecDepth 100000 in
set_option maxHeartbeats 0 in
theorem PySem.Challenge.cw_planestacks_k33_kinds_of_sayings_holds : PySem.Challenge.rw_planestacks_k33_kinds_of_sayings.Holds := by
  w_on; o_law; k_head; (case hw => w_witness2)
  k_fill
  refine My.walk (l := PySem.Challenge.rw_planestacks_k33_kinds_of_sayings) (by decide +kernel) rfl rfl (fun w h Y => PySem.W.kIn_of Y) ?F
  case F =>
    intro w mg fa h KX G hmg
    refine' My.all_mk rfl KX G hmg ?a1 ?l1 ?c1 ?k1 ?a2 ?l2 ?c2 ?k2 ?a3 ?l3 ?c3 ?k3 ?a4 ?l4 ?c4 ?k4 ?a5 ?l5 ?c5 ?k5 ?a6 ?l6 ?c6 ?k6 ?a7 ?l7 ?c7 ?k7 ?a8 ?l8 ?c8 ?k8 ?a9 ?l9 ?c9 ?k9 ?a10 ?l10 ?c10 ?k10 ?a11 ?l11 ?c11 ?k11 ?a12 ?l12 ?c12 ?k12 ?a13 ?l13 ?c13 ?k13 ?a14 ?l14 ?c14 ?k14 ?a15 ?l15 ?c15 ?k15 ?a16 ?l16 ?c16 ?k16 ?a17 ?l17 ?c17 ?k17 ?a18 ?l18 ?c18 ?k18 ?a19 ?l19 ?c19 ?k19 ?a20 ?l20 ?c20 ?k20 ?a21 ?l21 ?c21 ?k21 ?a22 ?l22 ?c22 ?k22 ?a23 ?l23 ?c23 ?k23 ?a24 ?l24 ?c24 ?k24 ?a25 ?l25 ?c25 ?k25 ?a26 ?l26 ?c26 ?k26 ?a27 ?l27 ?c27 ?k27 ?a28 ?l28 ?c28 ?k28 ?a29 ?l29 ?c29 ?k29 ?a30 ?l30 ?c30 ?k30 ?a31 ?l31 ?c31 ?k31 ?a32 ?l32 ?c32 ?k32 ?a33 ?l33 ?c33 ?k33 ?a34 ?l34 ?c34 ?k34 ?z_max ?z_len ?z_isinstance ?z_tuple ?z_list ?z_any ?z_all ?z_range ?z_abs ?z_int ?z_bool ?ga_BINDERS ?gl_BINDERS ?gp_BINDERS
    (case a1 => k_is)
    (case l1 => k_is)
    (case c1 => k_is)
    (case k1 => k_is)
    (case a2 => k_is)
    (case l2 => k_is)
    (case c2 => k_is)
    (case k2 => k_is)
    (case a3 => k_is)
    (case l3 => k_is)
    (case c3 => k_is)
    (case k3 => k_is)
    (case a4 => k_is)
    (case l4 => k_is)
    (case c4 => k_is)
    (case k4 => k_is)
    (case a5 => k_is)
    (case l5 => k_is)
    (case c5 => k_is)
    (case k5 => k_is)
    (case a6 => k_is)
    (case l6 => k_is)
    (case c6 => k_is)
    (case k6 => k_is)
    (case a7 => k_is)
    (case l7 => k_is)
    (case c7 => k_is)
    (case k7 => k_is)
    (case a8 => k_is)
    (case l8 => k_is)
    (case c8 => k_is)
    (case k8 => k_is)
    (case a9 => k_is)
    (case l9 => k_is)
    (case c9 => k_is)
    (case k9 => k_is)
    (case a10 => k_is)
    (case l10 => k_is)
    (case c10 => k_is)
    (case k10 => k_is)
    (case a11 => k_is)
    (case l11 => k_is)
    (case c11 => k_is)
    (case k11 => k_is)
    (case a12 => k_is)
    (case l12 => k_is)
    (case c12 => k_is)
    (case k12 => k_is)
    (case a13 => k_is)
    (case l13 => k_is)
    (case c13 => k_is)
    (case k13 => k_is)
    (case a14 => k_is)
    (case l14 => k_is)
    (case c14 => k_is)
    (case k14 => k_is)
    (case a15 => k_is)
    (case l15 => k_is)
    (case c15 => k_is)
    (case k15 => k_is)
    (case a16 => k_is)
    (case l16 => k_is)
    (case c16 => k_is)
    (case k16 => k_is)
    (case a17 => k_is)
    (case l17 => k_is)
    (case c17 => k_is)
    (case k17 => k_is)
    (case a18 => k_is)
    (case l18 => k_is)
    (case c18 => k_is)
    (case k18 => k_is)
    (case a19 => k_is)
    (case l19 => k_is)
    (case c19 => k_is)
    (case k19 => k_is)
    (case a20 => k_is)
    (case l20 => k_is)
    (case c20 => k_is)
    (case k20 => k_is)
    (case a21 => k_is)
    (case l21 => k_is)
    (case c21 => k_is)
    (case k21 => k_is)
    (case a22 => k_is)
    (case l22 => k_is)
    (case c22 => k_is)
    (case k22 => k_is)
    (case a23 => k_is)
    (case l23 => k_is)
    (case c23 => k_is)
    (case k23 => k_is)
    (case a24 => k_is)
    (case l24 => k_is)
    (case c24 => k_is)
    (case k24 => k_is)
    (case a25 => k_is)
    (case l25 => k_is)
    (case c25 => k_is)
    (case k25 => k_is)
    (case a26 => k_is)
    (case l26 => k_is)
    (case c26 => k_is)
    (case k26 => k_is)
    (case a27 => k_is)
    (case l27 => k_is)
    (case c27 => k_is)
    (case k27 => k_is)
    (case a28 => k_is)
    (case l28 => k_is)
    (case c28 => k_is)
    (case k28 => k_is)
    (case a29 => k_is)
    (case l29 => k_is)
    (case c29 => k_is)
    (case k29 => k_is)
    (case a30 => k_is)
    (case l30 => k_is)
    (case c30 => k_is)
    (case k30 => k_is)
    (case a31 => k_is)
    (case l31 => k_is)
    (case c31 => k_is)
    (case k31 => k_is)
    (case a32 => k_is)
    (case l32 => k_is)
    (case c32 => k_is)
    (case k32 => k_is)
    (case a33 => k_is)
    (case l33 => k_is)
    (case c33 => k_is)
    (case k33 => k_is)
    (case a34 => k_is)
    (case l34 => k_is)
    (case c34 => k_is)
    (case k34 => k_is)
    (case z_max => k_is)
    (case z_len => k_is)
    (case z_isinstance => k_is)
    (case z_tuple => k_is)
    (case z_list => k_is)
    (case z_any => k_is)
    (case z_all => k_is)
    (case z_range => k_is)
    (case z_abs => k_is)
    (case z_int => k_is)
    (case z_bool => k_is)
    (case ga_BINDERS => k_is)
    (case gl_BINDERS => k_is)
    (case gp_BINDERS => refine' (.cons (.str _ _) (.cons (.str _ _) .nil)))


