import PyProof.Rows.All
import Wide.All
import OpenK.AllK
import Wide.FinOn
import Lean
import PyProof.EqAt
import PyProof.EqKinds
import PyProof.TupleCall
import PySem.Challenge.RW_planestacks_k28_whole_values_go_along
set_option Elab.async false
set_option linter.all false
set_option maxRecDepth 100000
/-! THE HAND LAYER, for ints, bools, texts, own classes, LISTS and tuples (index, slices, in, append, pop ..), calls, loops. Paste it whole ahead of your own text; what your proof does not reach may be deleted. -/
namespace L2
open PySem PySem.Spec PyProof.Rows

/-- a key: an int or a str -/
abbrev Key := Sum Int Str
def keyIs : Key → Value → Bool
  | .inl k, v => Value.isInt k v
  | .inr x, v => Value.isStrOf x v
def keyH (w : World) : Key → Int
  | .inl k => hashInt k
  | .inr x => hashStr w x
theorem keyIs_shape : ∀ {k : Key} {v : Value}, keyIs k v = true → (∃ i t, k = Sum.inl i ∧ v = Value.int i t) ∨ (∃ x t, k = Sum.inr x ∧ v = Value.str x t)
  | .inl i, v, h => by
    obtain ⟨t, e⟩ := Value.isInt_shape (k := i) (v := v) h
    exact .inl ⟨i, t, rfl, e⟩
  | .inr x, v, h => by
    obtain ⟨t, e⟩ := Value.isStrOf_shape (x := x) (v := v) h
    exact .inr ⟨x, t, rfl, e⟩
theorem key_ll (a b : Int) : decide ((Sum.inl a : Key) = Sum.inl b) = (a == b) := by
  by_cases e : a = b
  · subst e; simp
  · have h : ¬ (Sum.inl a : Key) = Sum.inl b := fun q => e (Sum.inl.inj q)
    rw [decide_eq_false h]
    exact (beq_eq_false_iff_ne.mpr e).symm
theorem key_rr (a b : Str) : decide ((Sum.inr a : Key) = Sum.inr b) = decide (a = b) := by
  by_cases e : a = b
  · subst e; simp
  · have h : ¬ (Sum.inr a : Key) = Sum.inr b := fun q => e (Sum.inr.inj q)
    rw [decide_eq_false h, decide_eq_false e]
theorem key_lr (a : Int) (b : Str) : decide ((Sum.inl a : Key) = Sum.inr b) = false := decide_eq_false (fun q => nomatch q)
theorem key_rl (a : Str) (b : Int) : decide ((Sum.inr a : Key) = Sum.inl b) = false := decide_eq_false (fun q => nomatch q)

def mixKind (prog : Program) (w : World) : PySem.KeyKind prog w Key where
  is := keyIs
  hash := keyH w
  inj := fun v a b ha hb => by
    rcases keyIs_shape ha with ⟨i, t, rfl, rfl⟩ | ⟨x, t, rfl, rfl⟩
    · rcases keyIs_shape hb with ⟨j, u, rfl, e⟩ | ⟨y, u, rfl, e⟩
      · injection e with e1 _; rw [e1]
      · exact nomatch e
    · rcases keyIs_shape hb with ⟨j, u, rfl, e⟩ | ⟨y, u, rfl, e⟩
      · exact nomatch e
      · injection e with e1 _; rw [e1]
  byValue := fun k v h => by
    rcases keyIs_shape h with ⟨i, t, rfl, rfl⟩ | ⟨x, t, rfl, rfl⟩ <;> rfl
  pyHash := fun hv h => by
    rcases keyIs_shape hv with ⟨i, t, rfl, rfl⟩ | ⟨x, t, rfl, rfl⟩
    · exact wpAny_pyHash_int h
    · exact wpAny_pyHash_str h
  eqBool := fun hu hv h => by
    rcases keyIs_shape hu with ⟨i, t, rfl, rfl⟩ | ⟨x, t, rfl, rfl⟩
    · rcases keyIs_shape hv with ⟨j, u, rfl, rfl⟩ | ⟨y, u, rfl, rfl⟩
      · rw [key_ll] at h; exact wpAny_eqBool_int h
      · rw [key_lr] at h; exact SeqAt.EqAt.int_str i t y u _ _ _ _ h
    · rcases keyIs_shape hv with ⟨j, u, rfl, rfl⟩ | ⟨y, u, rfl, rfl⟩
      · rw [key_rl] at h; exact SeqAt.EqAt.str_int x t j u _ _ _ _ h
      · rw [key_rr] at h; exact wpAny_eqBool_str h
  «strs» := fun k x t v h => by
    rcases keyIs_shape h with ⟨i, u, rfl, e⟩ | ⟨y, u, rfl, e⟩
    · exact nomatch e
    · injection e with e1 _
      subst e1
      cases v <;> rfl

end L2

namespace L2
open PySem PySem.Spec PyProof.Rows

/-- a value, without the heap -/
inductive V where
  | non | bl (b : Bool) | int (i : Int) | str (x : Str) | byt (b : Array UInt8) | flt (b : UInt64) | ref (a : Addr) | ty (n : String)
  deriving DecidableEq

def RelV : V → Value → Prop
  | .non, u => u = Value.none
  | .bl b, u => u = Value.bool b
  | .int i, u => ∃ t, u = Value.int i t
  | .str x, u => ∃ t, u = Value.str x t
  | .byt b, u => ∃ t, u = Value.bytes b t
  | .flt b, u => ∃ t, u = Value.float b t
  | .ref a, u => u = Value.ref a
  | .ty n, u => u = Value.type n

abbrev Vals : List V → List Value → Prop := Paired RelV
theorem Vals.length {xs : List V} {us : List Value} (r : Vals xs us) : xs.length = us.length := Paired.length r
theorem Vals.get : ∀ {xs : List V} {us : List Value} {i : Nat} {x : V}, Vals xs us → xs[i]? = some x → ∃ u, us[i]? = some u ∧ RelV x u
  | _, _, _, _, .nil, e => by simp at e
  | _, _, 0, _, .cons r _, e => by simp at e; subst e; exact ⟨_, rfl, r⟩
  | _, _, i + 1, x, .cons _ t, e => by
    obtain ⟨u, h1, h2⟩ := Vals.get (i := i) (x := x) t (by simpa using e)
    exact ⟨u, by simpa using h1, h2⟩
theorem Vals.set {x : V} {u : Value} (r : RelV x u) : ∀ {xs : List V} {us : List Value} (i : Nat), Vals xs us → Vals (xs.set i x) (us.set i u)
  | _, _, _, .nil => .nil
  | _, _, 0, .cons _ t => .cons r t
  | _, _, i + 1, .cons q t => .cons q (Vals.set r i t)
theorem Vals.append : ∀ {xs ys : List V} {us ws : List Value}, Vals xs us → Vals ys ws → Vals (xs ++ ys) (us ++ ws)
  | _, _, _, _, .nil, s => s
  | _, _, _, _, .cons r t, s => .cons r (Vals.append t s)
theorem Vals.take : ∀ {xs : List V} {us : List Value} (n : Nat), Vals xs us → Vals (xs.take n) (us.take n)
  | _, _, 0, _ => .nil
  | _, _, _ + 1, .nil => .nil
  | _, _, n + 1, .cons r t => .cons r (Vals.take n t)
theorem Vals.drop : ∀ {xs : List V} {us : List Value} (n : Nat), Vals xs us → Vals (xs.drop n) (us.drop n)
  | _, _, 0, r => r
  | _, _, _ + 1, .nil => .nil
  | _, _, n + 1, .cons _ t => Vals.drop n t
def RelO : Option V → Option Value → Prop
  | some v, some u => RelV v u
  | none, none => True
  | _, _ => False
def KV {κ : Type} : List (κ × V) → List (κ × Value) → Prop := Paired fun (p : κ × V) (q : κ × Value) => p.1 = q.1 ∧ RelV p.2 q.2

/-- a key of a dict (00_mix): an int or a text -/
def kV : Key → V
  | .inl i => .int i
  | .inr x => .str x

/-- what stands at a tracked address -/
inductive HO where
  /-- a list -/
  | lst (xs : List V)
  /-- a tuple (never changes) -/
  | tup (xs : List V)
  /-- a dict whose keys are ints and texts; one whose keys are tuples of ints and texts (the empty one is both) -/
  | dK (kvs : List (Key × V)) | dT (kvs : List (List Key × V))
  /-- a set of ints: its members, its size -/
  | set (S : Int → Bool) (n : Nat)
  /-- an instance of the class at C, its dict at dx, its attributes -/
  | ins (C dx : Addr) (fs : List (Str × V))
  /-- the dict of the instance at x -/
  | own (x : Addr)
  /-- the dict of an exception -/
  | xd (fs : List (Str × V))
  /-- a bound method, f of x -/
  | met (f x : Addr)
  /-- a range object lo, lo + 1, .. below hi -/
  | rng (lo hi : Int)
  /-- a thing that is known to the object (the script; a dict while a loop walks it): read, never written while it is so -/
  | frz (o : Obj) (u : HO)
  /-- a code object's table -/
  | tbl (ps : Array Value)
  /-- any other thing, by what is true of its one object (a def of one's own: SetO a S n := HO.ext fun h => ..) -/
  | ext (φ : Heap → Prop)

abbrev Hp := Addr → Option HO
def upd (H : Hp) (a : Addr) (o : HO) : Hp := fun b => if b = a then some o else H b
theorem upd_same {H : Hp} {a : Addr} {o : HO} : upd H a o a = some o := by unfold upd; rw [if_pos rfl]
theorem upd_ne {H : Hp} {a b : Addr} {o : HO} (h : b ≠ a) : upd H a o b = H b := by unfold upd; rw [if_neg h]
theorem upd_upd {H : Hp} {a : Addr} {o u : HO} : upd (upd H a o) a u = upd H a u := by
  funext b; unfold upd; split <;> rfl
theorem ne_of_none {H : Hp} {a b : Addr} {o : HO} (h : H a = some o) (h' : H b = none) : a ≠ b := by
  intro e; subst e; rw [h] at h'; cases h'

section
variable (P : Program) (w : World)
def ObjOk (H : Hp) (h : Heap) (a : Addr) : HO → Prop
  | .lst xs => xs.length ≤ sizeLine ∧ ∃ (its : List Value) (n : Nat), Vals xs its ∧ h.get? a = some { cls := .type "list", data := .seq its.toArray n }
  | .tup xs => xs.length ≤ sizeLine ∧ ∃ its : List Value, Vals xs its ∧ IsTup h a its.toArray
  | .dK kvs => kvs.length ≤ sizeLine ∧ (a == sysModules) = false ∧ ∃ vs, KV kvs vs ∧ h.DictOf (mixKind P w) a vs
  | .dT kvs => kvs.length ≤ sizeLine ∧ (a == sysModules) = false ∧ ∃ xs : List (List Key × Addr × Value),
      Paired (fun (p : List Key × V) (q : List Key × Addr × Value) => p.1 = q.1 ∧ H q.2.1 = some (.tup (p.1.map kV)) ∧ RelV p.2 q.2.2) kvs xs ∧
      ∃ o es ep, h.get? a = some o ∧ o.ExactDict ∧ o.data = .dict es ep ∧ es.toList = xs.map (entryOfKey (tupleKind (mixKind P w))) ∧ (xs.map (·.1)).Nodup
  | .set S n => h.SetOf (intKind P w) a S n
  | .ins C dx fs => H dx = some (.own a) ∧ fs.length ≤ 1000 ∧ dx ≠ a ∧ h.get? a = some (PySem.W.instObj C dx) ∧
      ∃ mA, h.Ns1 dx mA ∧ (∀ f, RelO (fs.lookup f) (mA f)) ∧ PySem.Within mA (fs.map (·.1))
  | .own _ => ∃ o, h.get? a = some o
  | .xd fs => ∃ mA, h.Ns1 a mA ∧ ∀ f, RelO (fs.lookup f) (mA f)
  | .rng lo hi => ∃ t u v, h.get? a = some { cls := .type "range", data := .fields #[.int lo t, .int hi u, .int 1 v] }
  | .frz o u => h.get? a = some o ∧ ObjOk H h a u
  | .tbl ps => h.get? a = some { cls := .none, data := .fields ps }
  | .met f x => h.get? a = some (PySem.W.methodObj (.ref f) (.ref x))
  | .ext φ => φ h ∧ (∃ o, h.get? a = some o) ∧ ∀ h1 h2 : Heap, φ h1 → (∀ o, h1.get? a = some o → h2.get? a = some o) → φ h2
/-- the abstract heap is held -/
def HOk (H : Hp) (h : Heap) : Prop := ∀ a o, H a = some o → ObjOk P w H h a o
end

section
variable {P : Program} {w : World} {H H' : Hp} {h h' : Heap} {a : Addr} {o : HO}
theorem ObjOk.lt (x : ObjOk P w H h a o) : a < h.objs.size := by
  cases o with
  | lst xs => obtain ⟨_, _, _, _, e⟩ := x; exact Heap.lt_size e
  | tup xs => obtain ⟨_, _, _, p⟩ := x; exact p.lt
  | dK kvs => obtain ⟨_, _, _, _, o, _, _, e, _⟩ := x; exact Heap.lt_size e
  | dT kvs => obtain ⟨_, _, _, _, o, _, _, e, _⟩ := x; exact Heap.lt_size e
  | set S n => obtain ⟨o, _, _, _, e, _⟩ := x; exact Heap.lt_size e
  | ins C dx fs => obtain ⟨_, _, _, e, _⟩ := x; exact Heap.lt_size e
  | own y => obtain ⟨_, e⟩ := x; exact Heap.lt_size e
  | xd fs => obtain ⟨_, ⟨_, _, _, e, _⟩, _⟩ := x; exact Heap.lt_size e
  | rng lo hi => obtain ⟨_, _, _, e⟩ := x; exact Heap.lt_size e
  | frz ob u => obtain ⟨e, _⟩ := x; exact Heap.lt_size e
  | tbl ps => exact Heap.lt_size (show h.get? a = some _ from x)
  | met f y => exact Heap.lt_size (show h.get? a = some _ from x)
  | ext φ => obtain ⟨_, ⟨_, e⟩, _⟩ := x; exact Heap.lt_size e
theorem Paired.mapP {α β : Type} {F G : α → β → Prop} : ∀ {l₁ : List α} {l₂ : List β}, Paired F l₁ l₂ → (∀ a b, F a b → G a b) → Paired G l₁ l₂
  | _, _, .nil, _ => .nil
  | _, _, .cons r t, f => .cons (f _ _ r) (Paired.mapP t f)
/-- what an object's description leans on: its own object, its own dict, the tuples -/
theorem ObjOk.stay (x : ObjOk P w H h a o) (k : ∀ b u, (b = a ∨ H b = some (.own a)) → h.get? b = some u → h'.get? b = some u)
    (ho : ∀ b, H b = some (.own a) → H' b = some (.own a)) (ht : ∀ b xs, H b = some (.tup xs) → H' b = some (.tup xs)) : ObjOk P w H' h' a o := by
  induction o with
  | lst xs => obtain ⟨z, its, n, r, e⟩ := x; exact ⟨z, its, n, r, k _ _ (.inl rfl) e⟩
  | tup xs => obtain ⟨z, its, r, ob, e, c⟩ := x; exact ⟨z, its, r, ob, k _ _ (.inl rfl) e, c⟩
  | dK kvs => obtain ⟨z, y, vs, r, ob, es, ep, e, c⟩ := x; exact ⟨z, y, vs, r, ob, es, ep, k _ _ (.inl rfl) e, c⟩
  | dT kvs =>
    obtain ⟨z, y, xs, r, ob, es, ep, e, c⟩ := x
    exact ⟨z, y, xs, Paired.mapP r fun p q z => ⟨z.1, ht _ _ z.2.1, z.2.2⟩, ob, es, ep, k _ _ (.inl rfl) e, c⟩
  | set S n => obtain ⟨ob, es, ep, t, e, c⟩ := x; exact ⟨ob, es, ep, t, k _ _ (.inl rfl) e, c⟩
  | ins C dx fs =>
    obtain ⟨d, z, ne, e, mA, ⟨od, es, ep, e2, c⟩, r⟩ := x
    exact ⟨ho _ d, z, ne, k _ _ (.inl rfl) e, mA, ⟨od, es, ep, k _ _ (.inr d) e2, c⟩, r⟩
  | own y => obtain ⟨ob, e⟩ := x; exact ⟨ob, k _ _ (.inl rfl) e⟩
  | xd fs => obtain ⟨mA, ⟨od, es, ep, e, c⟩, r⟩ := x; exact ⟨mA, ⟨od, es, ep, k _ _ (.inl rfl) e, c⟩, r⟩
  | rng lo hi => obtain ⟨t, u, v, e⟩ := x; exact ⟨t, u, v, k _ _ (.inl rfl) e⟩
  | frz ob u ih => obtain ⟨e, q⟩ := x; exact ⟨k _ _ (.inl rfl) e, ih q⟩
  | tbl ps =>
    have e : h.get? a = some { cls := .none, data := .fields ps } := x
    show h'.get? a = some { cls := .none, data := .fields ps }
    exact k a _ (.inl rfl) e
  | met f y =>
    have e : h.get? a = some (PySem.W.methodObj (.ref f) (.ref y)) := x
    show h'.get? a = some (PySem.W.methodObj (.ref f) (.ref y))
    exact k a _ (.inl rfl) e
  | ext φ => obtain ⟨p, ⟨o, e⟩, st⟩ := x; exact ⟨st _ _ p fun o q => k _ _ (.inl rfl) q, ⟨o, k _ _ (.inl rfl) e⟩, st⟩
theorem HOk.lt (x : HOk P w H h) (e : H a = some o) : a < h.objs.size := (x a o e).lt
theorem HOk.fresh (x : HOk P w H h) (e : h.objs.size ≤ a) : H a = none := by
  cases q : H a with
  | none => rfl
  | some u => exact absurd (Nat.lt_of_lt_of_le (x.lt q) e) (Nat.lt_irrefl _)
/-- every object of the heap is kept -/
theorem HOk.kept (x : HOk P w H h) (k : ∀ b u, h.get? b = some u → h'.get? b = some u) : HOk P w H h' := fun a o e =>
  (x a o e).stay (fun b u _ q => k b u q) (fun _ q => q) fun _ _ q => q
/-- a new object is laid and tracked -/
theorem HOk.laid (x : HOk P w H h) (k : ∀ b u, h.get? b = some u → h'.get? b = some u) (hp : h.objs.size ≤ a) (new : ObjOk P w (upd H a o) h' a o) : HOk P w (upd H a o) h' := fun b u e => by
  have hn := x.fresh hp
  by_cases hb : b = a
  · subst hb; rw [upd_same] at e; cases e; exact new
  · rw [upd_ne hb] at e
    exact (x b u e).stay (fun c v _ q => k c v q) (fun c q => by rw [upd_ne (ne_of_none q hn)]; exact q) fun c xs q => by rw [upd_ne (ne_of_none q hn)]; exact q
end

/-- what may be read as u: it is u, or a known u -/
def Rd (H : Hp) (a : Addr) (u : HO) : Prop := H a = some u ∨ ∃ o, H a = some (.frz o u)
theorem Rd.ok {P : Program} {w : World} {H : Hp} {h : Heap} {a : Addr} {u : HO} (r : Rd H a u) (x : HOk P w H h) : ObjOk P w H h a u := by
  rcases r with r | ⟨o, r⟩
  · exact x a u r
  · obtain ⟨_, q⟩ := x a _ r
    exact q
/-- what may be written -/
def Mut : Option HO → Prop
  | some (.lst _) => True
  | some (.dK _) => True
  | some (.dT _) => True
  | some (.set _ _) => True
  | some (.ins _ _ _) => True
  | some (.ext _) => True
  | _ => False
section
variable {P : Program} {w : World} {H : Hp} {h h' : Heap} {x e : Addr} {o' : HO}
/-- the object at e is changed: x itself, or the dict of the instance x -/
theorem HOk.write (ok : HOk P w H h) (mu : Mut (H x)) (he : e = x ∨ H e = some (.own x)) (k : ∀ b u, b ≠ e → h.get? b = some u → h'.get? b = some u) (heo : ∃ u, h'.get? e = some u)
    (new : ObjOk P w (upd H x o') h' x o') : HOk P w (upd H x o') h' := fun b u q => by
  have nown : ∀ c y, H c = some (.own y) → c ≠ x := fun c y r z => by subst z; rw [r] at mu; exact mu
  have ntup : ∀ c xs, H c = some (.tup xs) → c ≠ x := fun c xs r z => by subst z; rw [r] at mu; exact mu
  by_cases hb : b = x
  · subst hb; rw [upd_same] at q; cases q; exact new
  · rw [upd_ne hb] at q
    by_cases hbe : b = e
    · have q' : H b = some (.own x) := by
        rcases he with z | z
        · exact absurd (hbe.trans z) hb
        · rw [hbe]; exact z
      rw [q] at q'; cases q'
      obtain ⟨v, hv⟩ := heo
      exact ⟨v, by rw [hbe]; exact hv⟩
    · refine (ok b u q).stay (fun c v hc r => k c v ?_ r) (fun c r => by rw [upd_ne (nown c b r)]; exact r) fun c xs r => by rw [upd_ne (ntup c xs r)]; exact r
      rcases hc with rfl | hc
      · exact hbe
      · rintro rfl
        rcases he with z | z
        · exact nown c b hc z
        · rw [hc] at z; cases z; exact hb rfl
end

/-! ### kept unless tracked; of the frames at fs (the callers') the slots may change (an exception that passes writes there); of the records at ex (iterators) nothing is said -/
structure Un (fs ex : List Addr) (H H' : Hp) (h h' : Heap) : Prop where
  keep : ∀ b o, h.get? b = some o → H b = none → b ∉ fs → b ∉ ex → h'.get? b = some o
  slot : ∀ b o, h.get? b = some o → H b = none → b ∈ fs → b ∉ ex → ∃ sl, h'.get? b = some { o with slots := sl }
  free : ∀ b o, h.get? b = some o → H b = none → b ∉ ex → H' b = none
  there : ∀ b o, h.get? b = some o → b ∉ ex → ∃ o', h'.get? b = some o'
  tups : ∀ b xs, H b = some (.tup xs) → H' b = some (.tup xs)
  frzs : ∀ b o u, H b = some (.frz o u) → H' b = some (.frz o u)
  tbls : ∀ b ps, H b = some (.tbl ps) → ∃ more, H' b = some (.tbl (ps ++ more))
section
variable {fs fs' ex ex' : List Addr} {H H1 H2 : Hp} {h h1 h2 h' : Heap} {a x e : Addr} {o : HO}
theorem Un.any (u : Un fs ex H H1 h h1) {b : Addr} {ob : Obj} (q : h.get? b = some ob) (n : H b = none) (hx : b ∉ ex) : ∃ sl, h1.get? b = some { ob with slots := sl } := by
  by_cases hb : b ∈ fs
  · exact u.slot b ob q n hb hx
  · exact ⟨ob.slots, u.keep b ob q n hb hx⟩
theorem Un.kept (k : ∀ b u, h.get? b = some u → h'.get? b = some u) : Un fs ex H H h h' :=
  ⟨fun b ob q _ _ _ => k b ob q, fun b ob q _ _ _ => ⟨ob.slots, k b ob q⟩, fun _ _ _ n _ => n, fun b ob q _ => ⟨ob, k b ob q⟩, fun _ _ q => q, fun _ _ _ q => q, fun _ ps q => ⟨#[], by rw [q]; simp⟩⟩
theorem Un.refl : Un fs ex H H h h := Un.kept fun _ _ q => q
theorem Un.laid (k : ∀ b u, h.get? b = some u → h'.get? b = some u) (hp : h.objs.size ≤ a) (hn : H a = none) : Un fs ex H (upd H a o) h h' where
  keep := fun b u q _ _ _ => k b u q
  slot := fun b u q _ _ _ => ⟨u.slots, k b u q⟩
  free := fun b u q n _ => by rw [upd_ne (Nat.ne_of_lt (Nat.lt_of_lt_of_le (Heap.lt_size q) hp))]; exact n
  there := fun b u q _ => ⟨u, k b u q⟩
  tups := fun b xs q => by rw [upd_ne (ne_of_none q hn)]; exact q
  frzs := fun b u xs q => by rw [upd_ne (ne_of_none q hn)]; exact q
  tbls := fun b ps q => ⟨#[], by rw [upd_ne (ne_of_none q hn), q]; simp⟩
theorem Un.write (mu : Mut (H x)) (he : e = x ∨ H e = some (.own x)) (k : ∀ b u, b ≠ e → h.get? b = some u → h'.get? b = some u) (heo : ∃ u, h'.get? e = some u) : Un fs ex H (upd H x o) h h' := by
  have hx : ∀ b, H b = none → b ≠ x := fun b n z => by subst z; rw [n] at mu; exact mu
  have hb : ∀ b, H b = none → b ≠ e := fun b n z => by
    subst z
    rcases he with r | r
    · exact hx b n r
    · rw [n] at r; cases r
  have hm : ∀ b u, H b = some u → ¬ Mut (some u) → b ≠ x := fun b u q nm z => by subst z; rw [q] at mu; exact nm mu
  refine ⟨fun b u q n _ _ => k b u (hb b n) q, fun b u q n _ _ => ⟨u.slots, k b u (hb b n) q⟩, fun b u q n _ => by rw [upd_ne (hx b n)]; exact n, fun b u q _ => ?_,
    fun b xs q => by rw [upd_ne (hm b _ q fun z => z)]; exact q, fun b u xs q => by rw [upd_ne (hm b _ q fun z => z)]; exact q, fun b ps q => ⟨#[], by rw [upd_ne (hm b _ q fun z => z), q]; simp⟩⟩
  by_cases hbe : b = e
  · subst hbe; exact heo
  · exact ⟨u, k b u hbe q⟩
end

/-! ### the heap without what is tracked -/
def trk (h : Heap) (H : Hp) : List Addr := (List.range h.objs.size).filter fun a => (H a).isSome
def hidT (h : Heap) (H : Hp) : Heap := PySem.W.hideAll h (trk h H)
theorem hidT_size (h : Heap) (H : Hp) : (hidT h H).objs.size = h.objs.size := PySem.W.hideAll_size _ _
theorem hidT_get {h : Heap} {H : Hp} {b : Addr} {o : Obj} (e : h.get? b = some o) (n : H b = none) : (hidT h H).get? b = some o :=
  PySem.W.hideAll_get _ e fun hm => by
    have q : (H b).isSome = true := (List.mem_filter.mp hm).2
    rw [n] at q; simp at q
theorem of_hidT {h : Heap} {H : Hp} {b : Addr} {o : Obj} (e : (hidT h H).get? b = some o) : h.get? b = some o ∧ H b = none := by
  have e' : h.get? b = some o := PySem.W.of_hideAll (trk h H) e
  refine ⟨e', ?_⟩
  cases q : H b with
  | none => rfl
  | some x =>
    have hm : b ∈ trk h H := List.mem_filter.mpr ⟨List.mem_range.mpr (Heap.lt_size e'), by simp [q]⟩
    have z : (hidT h H).get? b = none := PySem.W.hideAll_none (trk h H) hm
    rw [z] at e; cases e

/-! ### OpenK's ledger, filled with every new object but one -/
def allNews (g h : Heap) (L : Addr) : List (Addr × Obj) := (List.range h.objs.size).filterMap fun a => if a = L ∨ (g.get? a).isSome = true then none else (h.get? a).map fun o => (a, o)
def rest (g h : Heap) (L d : Addr) : List (Addr × Obj) := (allNews g h L).filter fun p => decide (p.1 ≠ d)
end L2

namespace L2
open PySem PySem.Spec PyProof.Rows

/-- the module's facts, over the base: the heap at the law's entry without what is tracked there -/
structure Mod (K : PySem.W.Frag) (mg : Str → Option Value) (base : Heap) : Prop where
  kin : K.In base
  glob : base.Ns mainGlobals mg
  blt : ∃ mb, base.Ns builtinsNs mb ∧ ∀ x : Str, x ≠ "__name__" → mb x = bootBuiltins x
  nolimit : base.NoLimit
  seer : base.NoSeer

/-- the context: a def's body (or a comprehension's block) running. base: fixed through the whole law; s₀, H₀: the entry; outer: the frames whose slots others may change (a def's callers); stack: all frames that run;
   ex: iterators that were made ahead of the entry and are walked here (a comprehension's); fn: the names whose cells were made at the entry (a def: all; a comprehension's block: its own); calm: not within an except suite; pn: pins that every state bears; xe: what is wanted of an exception that leaves the code -/
structure Cx where
  prog : Program
  w : World
  K : PySem.W.Frag
  mg : Str → Option Value
  base : Heap
  A : Around
  N : List Str
  s₀ : Shared
  H₀ : Hp
  env : Env
  outer : List Env
  stack : List Env
  ex : List Addr
  fn : Str → Bool
  calm : Bool
  pn : List (Addr × Obj)
  xe : Value → Shared → Prop
/-- the callers' frames -/
def frs (l : List Env) : List Addr := l.filterMap (·.frame)
abbrev Cx.fs (X : Cx) : List Addr := frs X.outer

def Vis (sc : Scope) (x : Str) : Prop := sc.names.lookup x = some .local ∨ sc.names.lookup x = some .cell ∨ sc.names.lookup x = some .free
def Loc (sc : Scope) (x : Str) : Prop := sc.names.lookup x = some .local ∨ sc.names.lookup x = some .cell
def Look (env : Env) (h : Heap) (m : Str → Option Value) (x : Str) (u : Value) : Prop :=
  (env.kindOf x = some .local ∧ m x = some u) ∨ ((env.kindOf x = some .cell ∨ env.kindOf x = some .free) ∧ ∃ c, env.cells.lookup x = some c ∧ h.IsCell c (some u))

structure Cx.Ok (X : Cx) : Prop where
  mod : Mod X.K X.mg X.base
  kind : X.env.scope.kind = .function
  glob : X.env.globals = mainGlobals
  blt : X.env.builtins = builtinsNs
  above : X.s₀.heap.objs.size ≤ X.env.locals
  inj : ∀ x y c, X.env.cells.lookup x = some c → X.env.cells.lookup y = some c → x = y
  has : ∀ x, (X.env.kindOf x = some .cell ∨ X.env.kindOf x = some .free) → ∃ c, X.env.cells.lookup x = some c
  cab : ∀ x c, X.fn x = true → X.env.cells.lookup x = some c → X.s₀.heap.objs.size ≤ c
  hd : X.calm = true → X.A.handled = none
  frames : X.A.frames = some X.stack
  stk : X.stack = X.outer ∨ (X.stack = X.env :: X.outer ∧ X.env.frame = some X.env.locals)
  exf : ∀ b ∈ X.ex, b ≠ X.env.locals ∧ ∀ x c, X.env.cells.lookup x = some c → c ≠ b
  bs : ∀ b o, X.base.get? b = some o → X.s₀.heap.get? b = some o ∧ X.H₀ b = none
  bsz : X.base.objs.size ≤ X.s₀.heap.objs.size
  noex : ∀ b o, X.base.get? b = some o → b ∉ X.ex
  exfs : ∀ b ∈ X.ex, b ∉ X.fs
  funs : X.s₀.heap.FunFrames X.base X.outer
  frf : ∀ b ∈ X.fs, X.H₀ b = none

structure Inv (X : Cx) (pins : List (Addr × Obj)) (σ : List (Option V)) (H : Hp) (s : Shared) : Prop where
  ok : X.Ok
  os : s.os = X.s₀.os
  bare : AllBare s.gens
  base : Un X.fs X.ex X.H₀ H X.s₀.heap s.heap
  loc : ∃ m, s.heap.Ns X.env.locals m ∧ ∀ (i : Nat) (x : Str) (v : V), X.N[i]? = some x → σ[i]? = some (some v) → Vis X.env.scope x → ∃ u, RelV v u ∧ Look X.env s.heap m x u
  cell : ∀ x c, X.env.cells.lookup x = some c → ∃ v, s.heap.IsCell c v
  free : H X.env.locals = none
  freeC : ∀ x c, X.env.cells.lookup x = some c → H c = none
  pin : ∀ p ∈ X.pn ++ pins, s.heap.get? p.1 = some p.2 ∧ H p.1 = none ∧ p.1 ≠ X.env.locals ∧ p.1 ∉ X.fs ∧ ∀ v, p.2.data ≠ .cell v
  hok : HOk X.prog X.w H s.heap
  len : σ.length = X.N.length

section
variable {X : Cx} {pins : List (Addr × Obj)} {σ : List (Option V)} {H H' : Hp} {s : Shared} {h' : Heap}

theorem Cx.Ok.nofr (ok : X.Ok) {b : Addr} {o : Obj} (e : X.base.get? b = some o) : b ∉ X.fs := fun hb => by
  have := (ok.funs.mem hb).1
  rw [e] at this; cases this
theorem Inv.bs (I : Inv X pins σ H s) : ∀ b o, X.base.get? b = some o → s.heap.get? b = some o ∧ H b = none := fun b o e =>
  ⟨I.base.keep b o (I.ok.bs b o e).1 (I.ok.bs b o e).2 (I.ok.nofr e) (I.ok.noex b o e), I.base.free b o (I.ok.bs b o e).1 (I.ok.bs b o e).2 (I.ok.noex b o e)⟩
theorem Inv.bk (I : Inv X pins σ H s) : ∀ b o, X.base.get? b = some o → s.heap.get? b = some o := fun b o e => (I.bs b o e).1
theorem Inv.mod (I : Inv X pins σ H s) : Mod X.K X.mg X.base := I.ok.mod
theorem Inv.kIn (I : Inv X pins σ H s) : X.K.In s.heap := I.ok.mod.kin.keeps I.bk
theorem Inv.nolimit (I : Inv X pins σ H s) : s.heap.NoLimit := I.ok.mod.nolimit.keeps I.bk
theorem Inv.lt (I : Inv X pins σ H s) : X.env.locals < s.heap.objs.size := let ⟨_, hn, _⟩ := I.loc; hn.lt
theorem Inv.sz (I : Inv X pins σ H s) : X.s₀.heap.objs.size ≤ s.heap.objs.size := Nat.le_trans I.ok.above (Nat.le_of_lt I.lt)
theorem Inv.nofs (I : Inv X pins σ H s) {a : Addr} (h : s.heap.objs.size ≤ a) : a ∉ X.fs := fun hb => by
  obtain ⟨_, o, ho, _⟩ := I.ok.funs.mem hb
  exact absurd (Nat.lt_of_lt_of_le (Heap.lt_size ho) (Nat.le_trans I.sz h)) (Nat.lt_irrefl _)
theorem Inv.cne (I : Inv X pins σ H s) : ∀ x c, X.env.cells.lookup x = some c → c ≠ X.env.locals := fun x c e z => by
  obtain ⟨v, o, ho, hd⟩ := I.cell x c e
  obtain ⟨m, ⟨o', es, ep, ho', hd', _⟩, _⟩ := I.loc
  rw [z, ho'] at ho; cases ho; rw [hd'] at hd; cases hd
theorem Inv.funs (I : Inv X pins σ H s) : s.heap.FunFrames X.base X.outer := by
  have all : ∀ (l : List Env), (∀ b ∈ frs l, b ∈ X.fs) → X.s₀.heap.FunFrames X.base l → s.heap.FunFrames X.base l := by
    intro l
    induction l with
    | nil => intro _ _; trivial
    | cons env r ih =>
      intro hs hl
      obtain ⟨hk, ⟨L, o, hf, hn, ho, hd⟩, hr⟩ := hl
      have hL : L ∈ X.fs := hs L (by unfold frs; rw [List.filterMap_cons, hf]; exact List.mem_cons_self)
      obtain ⟨sl, e⟩ := I.base.slot L o ho (I.ok.frf L hL) hL fun z => I.ok.exfs L z hL
      exact ⟨hk, ⟨L, _, hf, hn, e, hd⟩, ih (fun b hb => hs b (by unfold frs; rw [List.filterMap_cons, hf]; exact List.mem_cons_of_mem _ hb)) hr⟩
  exact all X.outer (fun _ hb => hb) I.ok.funs

/-- the frames that run, for a call -/
theorem Inv.stack (I : Inv X pins σ H s) : s.heap.FunFrames X.base X.stack := by
  rcases I.ok.stk with e | ⟨e, hf⟩
  · rw [e]; exact I.funs
  · rw [e]
    obtain ⟨m, hn, _⟩ := I.loc
    refine .cons (by rw [I.ok.kind]; decide) hf hn ?_ I.funs
    exact Heap.get?_none_of_le (Nat.le_trans I.ok.bsz I.ok.above)
theorem Inv.stkSub (I : Inv X pins σ H s) : ∀ b ∈ frs X.stack, b ∈ X.env.locals :: X.fs := fun b hb => by
  rcases I.ok.stk with e | ⟨e, hf⟩
  · rw [e] at hb; exact List.mem_cons_of_mem _ hb
  · rw [e] at hb
    unfold frs at hb
    rw [List.filterMap_cons, hf] at hb
    exact hb
theorem Inv.stkFree (I : Inv X pins σ H s) : ∀ b ∈ frs X.stack, H b = none := fun b hb => by
  rcases List.mem_cons.mp (I.stkSub b hb) with e | hb
  · rw [e]; exact I.free
  · obtain ⟨_, o, ho, _⟩ := I.ok.funs.mem hb
    exact I.base.free b o ho (I.ok.frf b hb) fun z => I.ok.exfs b z hb

/-- THE STEP: the untracked objects but the frame and the records at ch are kept (the callers' frames up to slots), the frame's map is kept, the new abstract heap is held -/
theorem Inv.step {g' : Array GenState} {t' : Nat} {d' : Drawn} {ch : List Addr} (I : Inv X pins σ H s)
    (hch : ∀ b ∈ ch, (b ∈ X.ex ∨ X.s₀.heap.objs.size ≤ b) ∧ b ≠ X.env.locals ∧ (∀ x c, X.env.cells.lookup x = some c → c ≠ b) ∧ ∀ p ∈ X.pn ++ pins, p.1 ≠ b)
    (keep : ∀ b o, b ≠ X.env.locals → b ∉ X.fs → b ∉ ch → s.heap.get? b = some o → H b = none → h'.get? b = some o)
    (slot : ∀ b o, b ≠ X.env.locals → b ∈ X.fs → b ∉ ch → s.heap.get? b = some o → H b = none → ∃ sl, h'.get? b = some { o with slots := sl }) (free : ∀ b o, b ∉ ch → s.heap.get? b = some o → H b = none → H' b = none)
    (there : ∀ b o, b ∉ ch → s.heap.get? b = some o → ∃ o', h'.get? b = some o')
    (tups : ∀ b xs, H b = some (.tup xs) → H' b = some (.tup xs)) (frzs : ∀ b o u, H b = some (.frz o u) → H' b = some (.frz o u)) (tbls : ∀ b ps, H b = some (.tbl ps) → ∃ more, H' b = some (.tbl (ps ++ more)))
    (ns : ∀ m, s.heap.Ns X.env.locals m → h'.Ns X.env.locals m) (hok : HOk X.prog X.w H' h') (hg : AllBare g') :
    Inv X pins σ H' { s with heap := h', gens := g', drawn := d', toks := t' } := by
  have neL : ∀ b o, X.s₀.heap.get? b = some o → b ≠ X.env.locals := fun b o e => Nat.ne_of_lt (Nat.lt_of_lt_of_le (Heap.lt_size e) I.ok.above)
  have neC : ∀ b o, X.s₀.heap.get? b = some o → b ∉ X.ex → b ∉ ch := fun b o e hx hb => by
    rcases (hch b hb).1 with z | z
    · exact hx z
    · exact absurd (Nat.lt_of_lt_of_le (Heap.lt_size e) z) (Nat.lt_irrefl _)
  have cellK : ∀ x c, X.env.cells.lookup x = some c → ∀ v, s.heap.IsCell c v → h'.IsCell c v := fun x c e v ⟨o, ho, hd⟩ => by
    have nch : c ∉ ch := fun z => (hch c z).2.2.1 x c e rfl
    by_cases hc : c ∈ X.fs
    · obtain ⟨sl, q⟩ := slot c o (I.cne x c e) hc nch ho (I.freeC x c e)
      exact ⟨_, q, hd⟩
    · exact ⟨o, keep c o (I.cne x c e) hc nch ho (I.freeC x c e), hd⟩
  refine ⟨I.ok, I.os, hg, ⟨fun b o e n hb hx => ?_, fun b o e n hb hx => ?_, fun b o e n hx => ?_, fun b o e hx => ?_, fun b xs e => tups b xs (I.base.tups b xs e), fun b o xs e => frzs b o xs (I.base.frzs b o xs e), fun b ps e => ?_⟩, ?_, fun x c e => ?_, ?_, fun x c e => ?_, fun p hp => ?_, hok, I.len⟩
  · exact keep b o (neL b o e) hb (neC b o e hx) (I.base.keep b o e n hb hx) (I.base.free b o e n hx)
  · obtain ⟨sl, e1⟩ := I.base.slot b o e n hb hx
    obtain ⟨sl', e2⟩ := slot b _ (neL b o e) hb (neC b o e hx) e1 (I.base.free b o e n hx)
    exact ⟨sl', e2⟩
  · obtain ⟨o', e1⟩ := I.base.there b o e hx
    exact free b o' (neC b o e hx) e1 (I.base.free b o e n hx)
  · obtain ⟨o', e1⟩ := I.base.there b o e hx
    exact there b o' (neC b o e hx) e1
  · obtain ⟨m1, e1⟩ := I.base.tbls b ps e
    obtain ⟨m2, e2⟩ := tbls b _ e1
    exact ⟨m1 ++ m2, by rw [e2, Array.append_assoc]⟩
  · obtain ⟨m, hn, hl⟩ := I.loc
    refine ⟨m, ns m hn, fun i x v e1 e2 e3 => ?_⟩
    obtain ⟨u, r, l⟩ := hl i x v e1 e2 e3
    refine ⟨u, r, ?_⟩
    rcases l with l | ⟨k, c, e, z⟩
    · exact .inl l
    · exact .inr ⟨k, c, e, cellK x c e _ z⟩
  · obtain ⟨v, z⟩ := I.cell x c e
    exact ⟨v, cellK x c e v z⟩
  · obtain ⟨m, ⟨o, _, _, ho, _⟩, _⟩ := I.loc
    exact free _ o (fun z => (hch _ z).2.1 rfl) ho I.free
  · obtain ⟨v, o, ho, hd⟩ := I.cell x c e
    exact free c o (fun z => (hch c z).2.2.1 x c e rfl) ho (I.freeC x c e)
  · obtain ⟨e, n, ne, nf, d⟩ := I.pin p hp
    have nch : p.1 ∉ ch := fun z => (hch p.1 z).2.2.2 p hp rfl
    exact ⟨keep p.1 p.2 ne nf nch e n, free p.1 p.2 nch e n, ne, nf, d⟩
/-- .. where the frame's own object is kept too -/
theorem Inv.un {t' : Nat} (I : Inv X pins σ H s) (u : Un X.fs [] H H' s.heap h') (hok : HOk X.prog X.w H' h') : Inv X pins σ H' { s with heap := h', toks := t' } := by
  obtain ⟨m, ⟨o, es, ep, ho, r⟩, _⟩ := id I.loc
  obtain ⟨sl, hL⟩ := u.any ho I.free (by simp)
  exact I.step (g' := s.gens) (d' := s.drawn) (ch := []) (fun _ z => nomatch z) (fun b o _ hb _ e n => u.keep b o e n hb (by simp)) (fun b o _ hb _ e n => u.slot b o e n hb (by simp)) (fun b o _ e n => u.free b o e n (by simp)) (fun b o _ e => u.there b o e (by simp)) u.tups u.frzs u.tbls (fun m' hm => by
    obtain ⟨o', es', ep', ho', r'⟩ := hm
    rw [ho] at ho'; cases ho'
    exact ⟨_, es', ep', hL, r'⟩) hok I.bare
/-- behind a call (or a comprehension's block): the slots of this frame may have changed too, the records at ch may have turned -/
theorem Inv.call {g' : Array GenState} {t' : Nat} {d' : Drawn} {ch : List Addr} (I : Inv X pins σ H s) (u : Un (frs X.stack) ch H H' s.heap h') (hok : HOk X.prog X.w H' h') (hg : AllBare g')
    (hch : ∀ b ∈ ch, (b ∈ X.ex ∨ X.s₀.heap.objs.size ≤ b) ∧ b ≠ X.env.locals ∧ (∀ x c, X.env.cells.lookup x = some c → c ≠ b) ∧ ∀ p ∈ X.pn ++ pins, p.1 ≠ b) :
    Inv X pins σ H' { s with heap := h', gens := g', drawn := d', toks := t' } := by
  obtain ⟨m, ⟨o, es, ep, ho, r⟩, _⟩ := id I.loc
  obtain ⟨sl, hL⟩ := u.any ho I.free fun z => (hch _ z).2.1 rfl
  exact I.step (ch := ch) hch (fun b o hL hb hc e n => u.keep b o e n (fun z => (List.mem_cons.mp (I.stkSub b z)).elim hL hb) hc) (fun b o _ _ hc e n => u.any e n hc) (fun b o hc e n => u.free b o e n hc) (fun b o hc e => u.there b o e hc) u.tups u.frzs u.tbls (fun m' hm => by
    obtain ⟨o', es', ep', ho', r'⟩ := hm
    rw [ho] at ho'; cases ho'
    exact ⟨_, es', ep', hL, r'⟩) hok hg
/-- an untracked record of ours (an iterator) has turned -/
theorem Inv.turned {t' : Nat} {it : Addr} (I : Inv X pins σ H s) (k : ∀ b o, b ≠ it → s.heap.get? b = some o → h'.get? b = some o) (hn : H it = none) (hL : it ≠ X.env.locals)
    (h1 : it ∈ X.ex ∨ X.s₀.heap.objs.size ≤ it) (h2 : ∀ x c, X.env.cells.lookup x = some c → c ≠ it) (h3 : ∀ p ∈ X.pn ++ pins, p.1 ≠ it) : Inv X pins σ H { s with heap := h', toks := t' } := by
  have nit : ∀ b u, H b = some u → b ≠ it := fun b u e z => by rw [z, hn] at e; cases e
  refine I.step (g' := s.gens) (d' := s.drawn) (ch := [it]) (fun b hb => ?_) (fun b o _ _ hc e _ => k b o (fun z => hc (by simp [z])) e) (fun b o _ _ hc e _ => ⟨o.slots, k b o (fun z => hc (by simp [z])) e⟩) (fun _ _ _ _ n => n)
    (fun b o hc e => ⟨o, k b o (fun z => hc (by simp [z])) e⟩) (fun _ _ e => e) (fun _ _ _ e => e) (fun b ps e => ⟨#[], by rw [e]; simp⟩) (fun m hm => ?_) (fun b u e => ?_) I.bare
  · have e : b = it := by simpa using hb
    subst e
    exact ⟨h1, hL, h2, h3⟩
  · obtain ⟨o, es, ep, ho, r⟩ := hm
    exact ⟨o, es, ep, k _ o (Ne.symm hL) ho, r⟩
  · refine (I.hok b u e).stay (fun c v hc q => k c v ?_ q) (fun _ q => q) fun _ _ q => q
    rcases hc with z | z
    · rw [z]; exact nit b u e
    · exact nit c _ z
theorem Inv.tok (I : Inv X pins σ H s) (t : Nat) : Inv X pins σ H { s with toks := t } := I.un (h' := s.heap) (t' := t) Un.refl I.hok
/-- all objects kept -/
theorem Inv.kept {t' : Nat} (I : Inv X pins σ H s) (k : ∀ b u, s.heap.get? b = some u → h'.get? b = some u) : Inv X pins σ H { s with heap := h', toks := t' } := I.un (Un.kept k) (I.hok.kept k)
/-- a new object laid and tracked -/
theorem Inv.laid {a : Addr} {o : HO} {t' : Nat} (I : Inv X pins σ H s) (k : ∀ b u, s.heap.get? b = some u → h'.get? b = some u) (hp : s.heap.objs.size ≤ a) (new : ObjOk X.prog X.w (upd H a o) h' a o) :
    Inv X pins σ (upd H a o) { s with heap := h', toks := t' } := I.un (Un.laid k hp (I.hok.fresh hp)) (I.hok.laid k hp new)
/-- an object written -/
theorem Inv.write {x e : Addr} {o : HO} {t' : Nat} (I : Inv X pins σ H s) (mu : Mut (H x)) (he : e = x ∨ H e = some (.own x)) (k : ∀ b u, b ≠ e → s.heap.get? b = some u → h'.get? b = some u) (heo : ∃ u, h'.get? e = some u)
    (new : ObjOk X.prog X.w (upd H x o) h' x o) : Inv X pins σ (upd H x o) { s with heap := h', toks := t' } := I.un (Un.write mu he k heo) (I.hok.write mu he k heo new)
theorem Inv.pins_of {pins' : List (Addr × Obj)} (I : Inv X pins σ H s) (h : ∀ p ∈ pins', s.heap.get? p.1 = some p.2 ∧ H p.1 = none ∧ p.1 ≠ X.env.locals ∧ p.1 ∉ X.fs ∧ ∀ v, p.2.data ≠ .cell v) : Inv X pins' σ H s :=
  ⟨I.ok, I.os, I.bare, I.base, I.loc, I.cell, I.free, I.freeC, fun p hp => (List.mem_append.mp hp).elim (fun z => I.pin p (List.mem_append_left _ z)) (h p), I.hok, I.len⟩

theorem nodup_ix {N : List Str} (hN : N.Nodup) {i j : Nat} {x : Str} (a : N[i]? = some x) (b : N[j]? = some x) : i = j := by
  obtain ⟨h1, e1⟩ := List.getElem?_eq_some_iff.mp a
  obtain ⟨h2, e2⟩ := List.getElem?_eq_some_iff.mp b
  exact (List.getElem_inj hN).mp (e1.trans e2.symm)

/-- a name is stored; what changed -/
theorem store_ok2 {M : Model} {A : Around} {E : Value → Shared → Prop} {i : Nat} {x : Str} {v : V} {u : Value} {Q : Unit → Shared → Prop} (I : Inv X pins σ H s) (hN : X.N.Nodup) (hi : X.N[i]? = some x) (hx : Loc X.env.scope x) (r : RelV v u)
    (h : ∀ s', Inv X pins (σ.set i (some v)) H s' → (∃ a, Heap.SameBut a s.heap s'.heap ∧ (a = X.env.locals ∨ X.env.cells.lookup x = some a)) → Q () s') (hf : X.fn x = true ∨ X.env.scope.names.lookup x = some .local := by first | exact .inl rfl | exact .inr rfl | assumption) : wpAny M A (storeName X.env x u) Q E s := by
  obtain ⟨m, hn, hl⟩ := id I.loc
  have hcls : (X.env.scope.kind == .class || (X.env.scope.kind == .module && X.env.locals != X.env.globals)) = false := by rw [I.ok.kind]; rfl
  have hiσ : i < σ.length := by rw [I.len]; exact (List.getElem?_eq_some_iff.mp hi).1
  have cne := I.cne
  have tracked : ∀ {a : Addr} {h' : Heap}, (∃ o, s.heap.get? a = some o ∧ H a = none) → Heap.SameBut a s.heap h' → HOk X.prog X.w H h' := fun {a h'} ha hs b ob e => by
    obtain ⟨_, _, hfree⟩ := ha
    refine (I.hok b ob e).stay (fun c w' hc q => (hs.2 c ?_).trans q) (fun _ q => q) fun _ _ q => q
    rintro rfl
    rcases hc with rfl | hc
    · rw [hfree] at e; cases e
    · rw [hfree] at hc; cases hc
  rcases hx with hk | hk
  · refine wpAny_storeName_local hk hn (fun h' hn' hs => ?_) hcls
    obtain ⟨oL, _, _, hoL, _⟩ := id hn
    refine h _ ⟨I.ok, I.os, I.bare, ⟨fun b o e n hb hx => ?_, fun b o e n hb hx => ?_, I.base.free, fun b o e hx => ?_, I.base.tups, I.base.frzs, I.base.tbls⟩, ⟨_, hn', fun j y v' e1 e2 e3 => ?_⟩, fun y c e => ?_, I.free, I.freeC, fun p hp => ?_, tracked ⟨oL, hoL, I.free⟩ hs, by simpa using I.len⟩ ⟨_, hs, .inl rfl⟩
    · exact (hs.2 b (Nat.ne_of_lt (Nat.lt_of_lt_of_le (Heap.lt_size e) I.ok.above))).trans (I.base.keep b o e n hb hx)
    · obtain ⟨sl, e1⟩ := I.base.slot b o e n hb hx
      exact ⟨sl, (hs.2 b (Nat.ne_of_lt (Nat.lt_of_lt_of_le (Heap.lt_size e) I.ok.above))).trans e1⟩
    · obtain ⟨o', e1⟩ := I.base.there b o e hx
      exact ⟨o', (hs.2 b (Nat.ne_of_lt (Nat.lt_of_lt_of_le (Heap.lt_size e) I.ok.above))).trans e1⟩
    · by_cases hj : j = i
      · subst hj
        rw [hi] at e1; cases e1
        rw [List.getElem?_set_self hiσ] at e2
        cases e2
        exact ⟨u, r, .inl ⟨hk, by simp⟩⟩
      · rw [List.getElem?_set_ne (Ne.symm hj)] at e2
        obtain ⟨u', r', q⟩ := hl j y v' e1 e2 e3
        refine ⟨u', r', ?_⟩
        rcases q with ⟨k, e⟩ | ⟨k, c, e, z⟩
        · refine .inl ⟨k, ?_⟩
          have : y ≠ x := fun e => hj (nodup_ix hN e1 (e ▸ hi))
          simp [this, e]
        · exact .inr ⟨k, c, e, z.sameBut hs (cne y c e)⟩
    · obtain ⟨w', z⟩ := I.cell y c e
      exact ⟨w', z.sameBut hs (cne y c e)⟩
    · obtain ⟨e, n, ne, nf, d⟩ := I.pin p hp
      exact ⟨(hs.2 p.1 ne).trans e, n, ne, nf, d⟩
  · have hfn : X.fn x = true := by
      rcases hf with z | z
      · exact z
      · rw [z] at hk; cases hk
    obtain ⟨c, hc⟩ := I.ok.has x (.inl hk)
    obtain ⟨w', z⟩ := I.cell x c hc
    refine wpAny_storeName_cell I.ok.kind hk hc z (fun h' hc' hs => ?_)
    obtain ⟨oc, hoc, hocd⟩ := id z
    refine h { s with heap := h' } ⟨I.ok, I.os, I.bare, ⟨fun b o e n hb hx => ?_, fun b o e n hb hx => ?_, I.base.free, fun b o e hx => ?_, I.base.tups, I.base.frzs, I.base.tbls⟩, ⟨m, hn.sameBut hs (Ne.symm (cne x c hc)), fun j y v' e1 e2 e3 => ?_⟩, fun y c' e => ?_, I.free, I.freeC, fun p hp => ?_, tracked ⟨oc, hoc, I.freeC x c hc⟩ hs, by simpa using I.len⟩ ⟨c, hs, .inr hc⟩
    · exact (hs.2 b (Nat.ne_of_lt (Nat.lt_of_lt_of_le (Heap.lt_size e) (I.ok.cab x c hfn hc)))).trans (I.base.keep b o e n hb hx)
    · obtain ⟨sl, e1⟩ := I.base.slot b o e n hb hx
      exact ⟨sl, (hs.2 b (Nat.ne_of_lt (Nat.lt_of_lt_of_le (Heap.lt_size e) (I.ok.cab x c hfn hc)))).trans e1⟩
    · obtain ⟨o', e1⟩ := I.base.there b o e hx
      exact ⟨o', (hs.2 b (Nat.ne_of_lt (Nat.lt_of_lt_of_le (Heap.lt_size e) (I.ok.cab x c hfn hc)))).trans e1⟩
    · by_cases hj : j = i
      · subst hj
        rw [hi] at e1; cases e1
        rw [List.getElem?_set_self hiσ] at e2
        cases e2
        exact ⟨u, r, .inr ⟨.inl hk, c, hc, hc'⟩⟩
      · rw [List.getElem?_set_ne (Ne.symm hj)] at e2
        obtain ⟨u', r', q⟩ := hl j y v' e1 e2 e3
        refine ⟨u', r', ?_⟩
        rcases q with q | ⟨k, c', e, z'⟩
        · exact .inl q
        · refine .inr ⟨k, c', e, z'.sameBut hs ?_⟩
          rintro rfl
          exact hj (nodup_ix hN e1 (I.ok.inj _ _ _ e hc ▸ hi))
    · by_cases hcc : c' = c
      · subst hcc; exact ⟨_, hc'⟩
      · obtain ⟨w2, z2⟩ := I.cell y c' e
        exact ⟨w2, z2.sameBut hs hcc⟩
    · obtain ⟨e, n, ne, nf, d⟩ := I.pin p hp
      refine ⟨(hs.2 p.1 ?_).trans e, n, ne, nf, d⟩
      intro q
      rw [q, hoc] at e
      have q' : oc = p.2 := Option.some.inj e
      exact d w' (by rw [← q']; exact hocd)
theorem store_ok {M : Model} {A : Around} {E : Value → Shared → Prop} {i : Nat} {x : Str} {v : V} {u : Value} {Q : Unit → Shared → Prop} (I : Inv X pins σ H s) (hN : X.N.Nodup) (hi : X.N[i]? = some x) (hx : Loc X.env.scope x) (r : RelV v u)
    (h : ∀ s', Inv X pins (σ.set i (some v)) H s' → Q () s') (hf : X.fn x = true ∨ X.env.scope.names.lookup x = some .local := by first | exact .inl rfl | exact .inr rfl | assumption) : wpAny M A (storeName X.env x u) Q E s :=
  store_ok2 I hN hi hx r (fun s' I' _ => h s' I') hf
/-- behind a call or a block, the state as it is -/
theorem Inv.call' {s' : Shared} {ch : List Addr} (I : Inv X pins σ H s) (ho : s'.os = s.os) (u : Un (frs X.stack) ch H H' s.heap s'.heap) (hok : HOk X.prog X.w H' s'.heap) (hg : AllBare s'.gens)
    (hch : ∀ b ∈ ch, (b ∈ X.ex ∨ X.s₀.heap.objs.size ≤ b) ∧ b ≠ X.env.locals ∧ (∀ x c, X.env.cells.lookup x = some c → c ≠ b) ∧ ∀ p ∈ X.pn ++ pins, p.1 ≠ b) : Inv X pins σ H' s' := by
  obtain ⟨h', g', d', t', o'⟩ := s'
  have e : o' = s.os := ho
  subst e
  exact I.call (g' := g') (t' := t') (d' := d') u hok hg hch
end

/-! ### the judgements -/
/-- an exception: its class, its own dict's address (where it has one), the abstract heap behind it -/
abbrev XK := Value → Option Addr → Hp → Prop
abbrev St := List (Option V)
abbrev VK := V → Hp → Prop
/-- an expression's reading; a test's; an argument list's -/
abbrev TE := St → Hp → VK → Prop
abbrev TT := St → Hp → (Bool → Hp → Prop) → Prop
abbrev TA := St → Hp → (List V → Hp → Prop) → Prop
/-- what is wanted behind a statement -/
structure Ends where
  nx : St → Hp → Prop
  rt : VK
  bk : St → Hp → Prop := fun _ _ => False
  ct : St → Hp → Prop := fun _ _ => False
abbrev TS := Ends → St → Hp → Prop

def EP (X : Cx) (pins : List (Addr × Obj)) (σ : St) (Q : VK) (u : Value) (s' : Shared) : Prop := ∃ v H', Inv X pins σ H' s' ∧ RelV v u ∧ Q v H'
def TP (X : Cx) (pins : List (Addr × Obj)) (σ : St) (Q : Bool → Hp → Prop) (b : Bool) (s' : Shared) : Prop := ∃ H', Inv X pins σ H' s' ∧ Q b H'
def AP (X : Cx) (pins : List (Addr × Obj)) (σ : St) (Q : List V → Hp → Prop) (us : List Value) (s' : Shared) : Prop := ∃ vs H', Inv X pins σ H' s' ∧ Vals vs us ∧ Q vs H'
def SP (X : Cx) (pins : List (Addr × Obj)) (D : Ends) (f : Flow) (s' : Shared) : Prop :=
  match f with
  | .next => ∃ σ' H', Inv X pins σ' H' s' ∧ D.nx σ' H'
  | .brk => ∃ σ' H', Inv X pins σ' H' s' ∧ D.bk σ' H'
  | .cont => ∃ σ' H', Inv X pins σ' H' s' ∧ D.ct σ' H'
  | .ret u => ∃ v σ' H', Inv X pins σ' H' s' ∧ RelV v u ∧ D.rt v H'

def PE (X : Cx) (e : Expr) (t : TE) : Prop :=
  ∀ (pins : List (Addr × Obj)) (s : Shared) (σ : St) (H : Hp) (Q : VK), Inv X pins σ H s → t σ H Q → wpAny (model X.prog X.w) X.A (eval e X.env) (EP X pins σ Q) X.xe s
def PT (X : Cx) (e : Expr) (t : TT) : Prop :=
  ∀ (pins : List (Addr × Obj)) (s : Shared) (σ : St) (H : Hp) (Q : Bool → Hp → Prop), Inv X pins σ H s → t σ H Q → wpAny (model X.prog X.w) X.A (isTrue e X.env (eval e X.env)) (TP X pins σ Q) X.xe s
/-- a test whatever its 'whole' is (and, or) -/
def PW (X : Cx) (e : Expr) (t : TT) : Prop :=
  ∀ (whole : Sem Value) (pins : List (Addr × Obj)) (s : Shared) (σ : St) (H : Hp) (Q : Bool → Hp → Prop), Inv X pins σ H s → t σ H Q → wpAny (model X.prog X.w) X.A (isTrue e X.env whole) (TP X pins σ Q) X.xe s
/-- an argument list (no star), from the left -/
def PA (X : Cx) (es : List Expr) (t : TA) : Prop :=
  ∀ (pos : Pos) (pins : List (Addr × Obj)) (s : Shared) (σ : St) (H : Hp) (Q : List V → Hp → Prop), Inv X pins σ H s → t σ H Q → wpAny (model X.prog X.w) X.A (spliced (backTo pos (starEach es X.env))) (AP X pins σ Q) X.xe s
def PS (X : Cx) (st : Stmt) (t : TS) : Prop :=
  ∀ (pins : List (Addr × Obj)) (s : Shared) (σ : St) (H : Hp) (D : Ends), Inv X pins σ H s → t D σ H → wpAny (model X.prog X.w) X.A (exec st X.env) (SP X pins D) X.xe s
def PSs (X : Cx) (st : List Stmt) (t : TS) : Prop :=
  ∀ (pins : List (Addr × Obj)) (s : Shared) (σ : St) (H : Hp) (D : Ends), Inv X pins σ H s → t D σ H → wpAny (model X.prog X.w) X.A (execs st X.env) (SP X pins D) X.xe s
/-- weaken the end -/
theorem thn {α : Type} {t : Sem α} {Q Q' : α → Shared → Prop} {M : Model} {A : Around} {E : Value → Shared → Prop} {s : Shared} (h : wpAny M A t Q E s) (hQ : ∀ a s, Q a s → Q' a s) : wpAny M A t Q' E s := wpAny_mono h hQ fun _ _ x => x
end L2

namespace L2
open PySem PySem.Spec PyProof.Rows
section
variable {X : Cx}

/-- two expressions in a row -/
theorem bin {a b : Expr} {ta tb : TE} (ha : PE X a ta) (hb : PE X b tb) {pins : List (Addr × Obj)} {s : Shared} {σ : St} {H : Hp} {R : V → V → Hp → Prop} (I : Inv X pins σ H s) (h : ta σ H fun x H1 => tb σ H1 fun y H2 => R x y H2)
    {α : Type} {Q : α → Shared → Prop} {f : Value → Value → Sem α}
    (hf : ∀ v u s2 x y H2, Inv X pins σ H2 s2 → RelV x v → RelV y u → R x y H2 → wpAny (model X.prog X.w) X.A (f v u) Q X.xe s2) :
    wpAny (model X.prog X.w) X.A (eval a X.env) (fun v s₁ => wpAny (model X.prog X.w) X.A (eval b X.env) (fun u s₂ => wpAny (model X.prog X.w) X.A (f v u) Q X.xe s₂) X.xe s₁) X.xe s := by
  refine thn (ha pins s σ H _ I h) fun v s1 ⟨x, H1, I1, r1, q1⟩ => ?_
  refine thn (hb pins s1 σ H1 _ I1 q1) fun u s2 ⟨y, H2, I2, r2, q2⟩ => ?_
  exact hf v u s2 x y H2 I2 r1 r2 q2

/-! ### names and constants -/
def tVar (i : Nat) : TE := fun σ H Q => ∃ v, σ[i]? = some (some v) ∧ Q v H
def tC (v : V) : TE := fun _ H Q => Q v H
theorem pe_var {i : Nat} {x : Str} {pos : Pos} (hN : X.N[i]? = some x) (hv : Vis X.env.scope x) (hd : (x == ("__debug__" : Str)) = false := by decide) (hcd : (x == ("__classdict__" : Str)) = false := by decide) : PE X (.Name x pos) (tVar i) := by
  intro pins s σ H Q I h
  obtain ⟨v, e, h⟩ := h
  obtain ⟨m, hn, hl⟩ := I.loc
  obtain ⟨u, r, l⟩ := hl i x v hN e hv
  have fin : EP X pins σ Q u s := ⟨v, H, I, r, h⟩
  rcases l with ⟨hk, hm⟩ | ⟨hk, c, hc, hcell⟩
  · exact wpAny_Name (wpAny_loadName_local I.ok.kind hk hn hm fin) hd
  · rcases hk with hk | hk
    · exact wpAny_Name (wpAny_loadName_cell I.ok.kind hk hc hcell fin) hd
    · exact wpAny_Name (wpAny_loadName_free I.ok.kind hk hc hcell fin hcd) hd
theorem pe_int {i j pos} : PE X (.Constant (.int i) j pos) (tC (.int i)) := fun _ _ _ H _ I h => wpAny_Constant_int ⟨.int i, H, I.tok _, ⟨_, rfl⟩, h⟩
theorem pe_bl {b j pos} : PE X (.Constant (.bool b) j pos) (tC (.bl b)) := fun _ _ _ H _ I h => Constant_bool ⟨.bl b, H, I, rfl, h⟩
/-- a global name of the def -/
def Gl (X : Cx) (x : Str) : Prop := X.env.kindOf x = some .globalImplicit
theorem ld_glob {E : Value → Shared → Prop} {pins : List (Addr × Obj)} {s : Shared} {σ : St} {H : Hp} {x : Str} {u : Value} {pos : Pos} {Q : Value → Shared → Prop} (I : Inv X pins σ H s) (hg : Gl X x) (hm : X.mg x = some u) (h : Q u s)
    (hd : (x == ("__debug__" : Str)) = false := by decide) : wpAny (model X.prog X.w) X.A (eval (.Name x pos) X.env) Q E s :=
  Calls.Name_function_global I.ok.kind hg (Calls.loadGlobal_global (by rw [I.ok.glob]; exact I.mod.glob.keeps I.bk) hm h) hd
theorem ld_blt {E : Value → Shared → Prop} {pins : List (Addr × Obj)} {s : Shared} {σ : St} {H : Hp} {x : Str} {u : Value} {pos : Pos} {Q : Value → Shared → Prop} (I : Inv X pins σ H s) (hg : Gl X x) (hm : X.mg x = none) (hv : bootBuiltins x = some u) (h : Q u s)
    (hn : x ≠ "__name__" := by decide) (hd : (x == ("__debug__" : Str)) = false := by decide) : wpAny (model X.prog X.w) X.A (eval (.Name x pos) X.env) Q E s := by
  obtain ⟨mb, h1, h2⟩ := I.mod.blt
  exact Calls.Name_function_global I.ok.kind hg (Calls.loadGlobal_builtin (by rw [I.ok.glob]; exact I.mod.glob.keeps I.bk) hm (by rw [I.ok.blt]; exact h1.keeps I.bk) ((h2 x hn).trans hv) h) hd
/-! ### arithmetic -/
/-- two ints -/
def t2I (ta tb : TE) (k : Int → Int → Hp → Prop) : St → Hp → Prop := fun σ H => ta σ H fun x H1 => tb σ H1 fun y H2 => ∃ i j, x = .int i ∧ y = .int j ∧ k i j H2
def tAdd (ta tb : TE) : TE := fun σ H Q => t2I ta tb (fun i j H2 => Q (.int (i + j)) H2) σ H
def tSub (ta tb : TE) : TE := fun σ H Q => t2I ta tb (fun i j H2 => Q (.int (i - j)) H2) σ H
/-- the left factor below 2^64 -/
def tMul (ta tb : TE) : TE := fun σ H Q => t2I ta tb (fun i j H2 => (-(2 ^ 64) < i ∧ i < 2 ^ 64) ∧ Q (.int (i * j)) H2) σ H
variable {a b : Expr} {ta tb : TE} {pos : Pos}
/-! ### comparisons -/
def PC (X : Cx) (op : CmpOp) (a b : Expr) (t : TE) : Prop :=
  ∀ (pins : List (Addr × Obj)) (s : Shared) (σ : St) (H : Hp) (Q : VK), Inv X pins σ H s → t σ H Q →
    wpAny (model X.prog X.w) X.A (eval a X.env) (fun v s₁ => wpAny (model X.prog X.w) X.A (eval b X.env) (fun u s₂ => wpAny (model X.prog X.w) X.A (compareOp op v u) (EP X pins σ Q) X.xe s₂) X.xe s₁) X.xe s
theorem nobehind (b : Expr) {op : CmpOp} (h : op ≠ .In) (h2 : op ≠ .NotIn) : behindInMarks op b = false := by
  have e1 : (op == CmpOp.In) = false := by cases op <;> first | rfl | exact absurd rfl h
  have e2 : (op == CmpOp.NotIn) = false := by cases op <;> first | rfl | exact absurd rfl h2
  cases b <;> simp [behindInMarks, e1, e2]
def tCmp (p : Int → Int → Bool) (ta tb : TE) : TE := fun σ H Q => t2I ta tb (fun i j H2 => Q (.bl (p i j)) H2) σ H
abbrev tLt : TE → TE → TE := tCmp fun i j => decide (i < j)
abbrev tLe : TE → TE → TE := tCmp fun i j => decide (i ≤ j)
abbrev tGt : TE → TE → TE := tCmp fun i j => decide (j < i)
abbrev tGe : TE → TE → TE := tCmp fun i j => decide (j ≤ i)
abbrev tEqI : TE → TE → TE := tCmp fun i j => decide (i = j)
abbrev tNeI : TE → TE → TE := tCmp fun i j => !decide (i = j)
/-- is None -/
def tIsN (ta : TE) : TE := fun σ H Q => ta σ H fun x H1 => Q (.bl (decide (x = .non))) H1
def tNotN (ta : TE) : TE := fun σ H Q => ta σ H fun x H1 => Q (.bl (!decide (x = .non))) H1
/-- a comparison as a value, as a test -/
def tB (t : TE) : TT := fun σ H Q => t σ H fun x H1 => ∃ c, x = .bl c ∧ Q c H1
theorem pt_cmp {op : CmpOp} {t : TE} (h : PC X op a b t) (h1 : behindInMarks op b = false := by first | exact nobehind _ (by decide) (by decide) | rfl) : PT X (.Compare a [op] [b] pos) (tB t) := by
  intro pins s σ H Q I hw
  refine wpAny_isTrue_Compare1 (thn (h pins s σ H _ I hw) fun v s1 h1 => thn h1 fun u s2 h2 => thn h2 fun c s3 ⟨x, H1, I1, r1, q1⟩ => ?_) h1
  obtain ⟨d, rfl, q⟩ := q1
  cases r1
  exact wpAny_truthy_bool ⟨H1, I1, q⟩
/-- an expression whose value is a bool, as a test -/
theorem pt_val {e : Expr} {t : TE} (h : PE X e t) (he : ∀ whole, isTrue e X.env whole = (do let v ← whole; standAt e.pos; holding [v] (truthy v)) := by intro _; rfl) : PT X e (tB t) := by
  intro pins s σ H Q I hw
  refine isTrue_plain (thn (h pins s σ H _ I hw) fun v s1 ⟨x, H1, I1, r1, q1⟩ => ?_) (he _)
  obtain ⟨d, rfl, q⟩ := q1
  cases r1
  exact wpAny_truthy_bool ⟨H1, I1, q⟩

/-! ### and, or, not -/
variable {tA tB' : TT} {rest : List Expr}
def tAnd (t u : TT) : TT := fun σ H Q => t σ H fun c H1 => if c = true then u σ H1 Q else Q false H1
def tOr (t u : TT) : TT := fun σ H Q => t σ H fun c H1 => if c = true then Q true H1 else u σ H1 Q
def tNot (t : TT) : TT := fun σ H Q => t σ H fun c H1 => Q (!c) H1
theorem pw_and1 (ha : PT X a tA) : PW X (.BoolOp .And [a] pos) tA := by
  intro wh pins s σ H Q I h
  refine isTrue_and (thn (ha pins s σ H Q I h) fun c s1 e => ?_)
  cases c with
  | true => exact isTrue_and_nil e
  | false => exact e
theorem pw_or1 (ha : PT X a tA) : PW X (.BoolOp .Or [a] pos) tA := by
  intro wh pins s σ H Q I h
  refine isTrue_or (thn (ha pins s σ H Q I h) fun c s1 e => ?_)
  cases c with
  | false => exact isTrue_or_nil e
  | true => exact e
theorem pw_and (ha : PT X a tA) (hb : PW X (.BoolOp .And (b :: rest) pos) tB') : PW X (.BoolOp .And (a :: b :: rest) pos) (tAnd tA tB') := by
  intro wh pins s σ H Q I h
  refine isTrue_and (thn (ha pins s σ H _ I h) fun c s1 ⟨H1, I1, q1⟩ => ?_)
  cases c with
  | true => exact hb wh pins s1 σ H1 Q I1 q1
  | false => exact ⟨H1, I1, q1⟩
theorem pw_or (ha : PT X a tA) (hb : PW X (.BoolOp .Or (b :: rest) pos) tB') : PW X (.BoolOp .Or (a :: b :: rest) pos) (tOr tA tB') := by
  intro wh pins s σ H Q I h
  refine isTrue_or (thn (ha pins s σ H _ I h) fun c s1 ⟨H1, I1, q1⟩ => ?_)
  cases c with
  | true => exact ⟨H1, I1, q1⟩
  | false => exact hb wh pins s1 σ H1 Q I1 q1
theorem pt_not (ha : PT X a tA) : PT X (.UnaryOp .Not a pos) (tNot tA) := by
  intro pins s σ H Q I h
  exact isTrue_not (ha pins s σ H (fun c H1 => Q (!c) H1) I h)
/-- .. as values (bools) -/
def tAndV (ta tb : TE) : TE := fun σ H Q => ta σ H fun x H1 => ∃ c, x = .bl c ∧ if c = true then tb σ H1 Q else Q (.bl false) H1
def tOrV (ta tb : TE) : TE := fun σ H Q => ta σ H fun x H1 => ∃ c, x = .bl c ∧ if c = true then Q (.bl true) H1 else tb σ H1 Q
def tNotV (ta : TE) : TE := fun σ H Q => ta σ H fun x H1 => ∃ c, x = .bl c ∧ Q (.bl (!c)) H1
/-- a if t else b -/
def tIf (t : TT) (ta tb : TE) : TE := fun σ H Q => t σ H fun c H1 => if c = true then ta σ H1 Q else tb σ H1 Q
theorem pe_ifExp {c : Expr} (hc : PT X c tA) (ha : PE X a ta) (hb : PE X b tb) : PE X (.IfExp c a b pos) (tIf tA ta tb) := by
  intro pins s σ H Q I h
  refine wpAny_IfExp (thn (hc pins s σ H _ I h) fun d s1 ⟨H1, I1, q1⟩ => ?_)
  cases d with
  | true => exact ha pins s1 σ H1 Q I1 q1
  | false => exact hb pins s1 σ H1 Q I1 q1
end
end L2

namespace L2
open PySem PySem.Spec PyProof.Rows

/-! ### a list, a tuple that is read: tracked, frozen, or an object of the module -/
def SqL (K : PySem.W.Frag) (H : Hp) (a : Addr) (xs : List V) : Prop :=
  Rd H a (.lst xs) ∨
    ∃ (o : Obj) (its : Array Value) (n : Nat), K.lookup a = some o ∧ o.cls = .type "list" ∧ o.dict = none ∧ o.data = .seq its n ∧ its.size ≤ sizeLine ∧ Vals xs its.toList
def SqT (K : PySem.W.Frag) (H : Hp) (a : Addr) (xs : List V) : Prop :=
  Rd H a (.tup xs) ∨
    ∃ (o : Obj) (its : Array Value) (n : Nat), K.lookup a = some o ∧ o.cls = .type "tuple" ∧ o.data = .seq its n ∧ its.size ≤ sizeLine ∧ Vals xs its.toList
def absV : Value → Option V
  | .none => some .non
  | .bool b => some (.bl b)
  | .int i _ => some (.int i)
  | .str x _ => some (.str x)
  | .bytes b _ => some (.byt b)
  | .float b _ => some (.flt b)
  | .ref a => some (.ref a)
  | .type n => some (.ty n)
  | _ => none
theorem RelV.abs {x : V} {u : Value} (r : RelV x u) : absV u = some x := by
  cases x with
  | non => cases r; rfl
  | bl _ => cases r; rfl
  | int _ => obtain ⟨t, rfl⟩ := r; rfl
  | str _ => obtain ⟨t, rfl⟩ := r; rfl
  | byt _ => obtain ⟨t, rfl⟩ := r; rfl
  | flt _ => obtain ⟨t, rfl⟩ := r; rfl
  | ref _ => cases r; rfl
  | ty _ => cases r; rfl
theorem RelV.inj {x y : V} {u : Value} (r : RelV x u) (q : RelV y u) : x = y := Option.some.inj (r.abs.symm.trans q.abs)
theorem Vals.inj : ∀ {xs ys : List V} {us : List Value}, Vals xs us → Vals ys us → xs = ys
  | _, _, _, .nil, .nil => rfl
  | _, _, _, .cons r t, .cons r' t' => by rw [r.inj r', Vals.inj t t']
section
variable {X : Cx} {pins : List (Addr × Obj)} {σ : St} {H : Hp} {s : Shared} {a : Addr} {xs ys : List V}
theorem SqL.of {K : PySem.W.Frag} (h : H a = some (.lst xs)) : SqL K H a xs := .inl (.inl h)
theorem SqT.of {K : PySem.W.Frag} (h : H a = some (.tup xs)) : SqT K H a xs := .inl (.inl h)
theorem Inv.list (I : Inv X pins σ H s) (h : SqL X.K H a xs) : ∃ its : List Value, Vals xs its ∧ PlainL s.heap a its.toArray ∧ xs.length ≤ sizeLine := by
  rcases h with h | ⟨o, its, n, hk, hc, hd, hs, hz, r⟩
  · obtain ⟨z, its, n, r, e⟩ := h.ok I.hok
    exact ⟨its, r, ⟨_, n, e, rfl, rfl, rfl⟩, z⟩
  · refine ⟨its.toList, r, ⟨o, n, I.kIn a o hk, hc, hd, by simpa using hs⟩, ?_⟩
    have e := r.length
    simp only [Array.length_toList] at e
    omega
theorem Inv.tuple (I : Inv X pins σ H s) (h : SqT X.K H a xs) : ∃ its : List Value, Vals xs its ∧ IsTup s.heap a its.toArray ∧ xs.length ≤ sizeLine := by
  rcases h with h | ⟨o, its, n, hk, hc, hs, hz, r⟩
  · obtain ⟨z, its, r, p⟩ := h.ok I.hok
    exact ⟨its, r, p, z⟩
  · refine ⟨its.toList, r, ⟨o, I.kIn a o hk, hc, n, by simpa using hs⟩, ?_⟩
    have e := r.length
    simp only [Array.length_toList] at e
    omega
theorem Inv.list_inj (I : Inv X pins σ H s) (h : SqL X.K H a xs) (h' : SqL X.K H a ys) : xs = ys := by
  obtain ⟨its, r, ⟨o, n, e, _, _, d⟩, _⟩ := I.list h
  obtain ⟨its', r', ⟨o', n', e', _, _, d'⟩, _⟩ := I.list h'
  rw [e] at e'; cases e'
  rw [d] at d'
  injection d' with d1 _
  have : its = its' := by simpa using congrArg Array.toList d1
  subst this
  exact r.inj r'
theorem Inv.tuple_inj (I : Inv X pins σ H s) (h : SqT X.K H a xs) (h' : SqT X.K H a ys) : xs = ys := by
  obtain ⟨its, r, ⟨o, e, _, n, d⟩, _⟩ := I.tuple h
  obtain ⟨its', r', ⟨o', e', _, n', d'⟩, _⟩ := I.tuple h'
  rw [e] at e'; cases e'
  rw [d] at d'
  injection d' with d1 _
  have : its = its' := by simpa using congrArg Array.toList d1
  subst this
  exact r.inj r'
end

/-! ### another wish about exceptions -/
abbrev Cx.wish (X : Cx) (E : Value → Shared → Prop) : Cx := { X with xe := E }
/-- no exception leaves -/
abbrev Cx.nox (X : Cx) : Cx := X.wish fun _ _ => False
theorem Cx.Ok.wish {X : Cx} (ok : X.Ok) (E : Value → Shared → Prop) : (X.wish E).Ok :=
  ⟨ok.mod, ok.kind, ok.glob, ok.blt, ok.above, ok.inj, ok.has, ok.cab, ok.hd, ok.frames, ok.stk, ok.exf, ok.bs, ok.bsz, ok.noex, ok.exfs, ok.funs, ok.frf⟩
theorem Cx.Ok.unwish {X : Cx} {E : Value → Shared → Prop} (ok : (X.wish E).Ok) : X.Ok :=
  ⟨ok.mod, ok.kind, ok.glob, ok.blt, ok.above, ok.inj, ok.has, ok.cab, ok.hd, ok.frames, ok.stk, ok.exf, ok.bs, ok.bsz, ok.noex, ok.exfs, ok.funs, ok.frf⟩
section
variable {X : Cx} {pins : List (Addr × Obj)} {σ : St} {H : Hp} {s : Shared} {E : Value → Shared → Prop}
theorem Inv.wish (I : Inv X pins σ H s) (E : Value → Shared → Prop) : Inv (X.wish E) pins σ H s := ⟨I.ok.wish E, I.os, I.bare, I.base, I.loc, I.cell, I.free, I.freeC, I.pin, I.hok, I.len⟩
theorem Inv.unwish (I : Inv (X.wish E) pins σ H s) : Inv X pins σ H s := ⟨I.ok.unwish, I.os, I.bare, I.base, I.loc, I.cell, I.free, I.freeC, I.pin, I.hok, I.len⟩
theorem SP.unwish {D : Ends} {f : Flow} {s' : Shared} (h : SP (X.wish E) pins D f s') : SP X pins D f s' := by
  cases f with
  | next => obtain ⟨σ', H', I, q⟩ := h; exact ⟨σ', H', I.unwish, q⟩
  | brk => obtain ⟨σ', H', I, q⟩ := h; exact ⟨σ', H', I.unwish, q⟩
  | cont => obtain ⟨σ', H', I, q⟩ := h; exact ⟨σ', H', I.unwish, q⟩
  | ret u => obtain ⟨v, σ', H', I, r, q⟩ := h; exact ⟨v, σ', H', I.unwish, r, q⟩
theorem PSs.nox {st : List Stmt} {t : TS} (h : PSs X.nox st t) : PSs X st t := fun pins s σ H D I hw =>
  wpAny_mono (h pins s σ H D (I.wish _) hw) (fun _ _ q => q.unwish) fun _ _ z => False.elim z
end

/-! ### blocks and small statements -/
section
variable {X : Cx} {st : Stmt} {rest : List Stmt} {t u : TS} {e : Expr} {te : TE} {pos : Pos}
def tNext : TS := fun D σ H => D.nx σ H
def tSeq (t u : TS) : TS := fun D σ H => t { D with nx := u D } σ H
theorem pss_nil : PSs X [] tNext := fun _ _ σ H _ I h => wpAny_execs_nil ⟨σ, H, I, h⟩
theorem pss_cons (h1 : PS X st t) (h2 : PSs X rest u) : PSs X (st :: rest) (tSeq t u) := by
  intro pins s σ H D I h
  refine wpAny_execs_cons (thn (h1 pins s σ H { D with nx := u D } I h) fun f s1 q => ?_)
  cases f with
  | next =>
    obtain ⟨σ', H', I', q⟩ := q
    exact h2 pins s1 σ' H' D I' q
  | ret v => exact q
  | brk => exact q
  | cont => exact q
theorem pss_one (h1 : PS X st t) : PSs X [st] t := by
  intro pins s σ H D I h
  refine wpAny_execs_cons (thn (h1 pins s σ H D I h) fun f s1 q => ?_)
  cases f with
  | next => exact wpAny_execs_nil q
  | ret v => exact q
  | brk => exact q
  | cont => exact q
def tBreak : TS := fun D σ H => D.bk σ H
def tCont : TS := fun D σ H => D.ct σ H
/-- in a def's body nothing is shown -/
theorem Inv.quiet {pins : List (Addr × Obj)} {σ : St} {H : Hp} {s : Shared} (I : Inv X pins σ H s) : interactive X.env = false := by simp [interactive, I.ok.kind]
/-- an expression whose value is dropped -/
def tDrop (te : TE) : TS := fun D σ H => te σ H fun _ H1 => D.nx σ H1
theorem ps_expr (he : PE X e te) (hs : swapsWith e none pos.line X.env = pure false := by rfl) : PS X (.Expr e pos) (tDrop te) := by
  intro pins s σ H D I h
  exact wpAny_Expr_any (thn (he pins s σ H _ I h) fun v s1 ⟨x, H1, I1, r1, q1⟩ => ⟨σ, H1, I1, q1⟩) I.quiet hs
def tRet (te : TE) : TS := fun D σ H => te σ H D.rt
theorem ps_ret (he : PE X e te) : PS X (.Return (some e) pos) (tRet te) := by
  intro pins s σ H D I h
  exact wpAny_Return_some (thn (he pins s σ H _ I h) fun v s1 ⟨x, H1, I1, r1, q1⟩ => ⟨x, σ, H1, I1, r1, q1⟩)
def tRetN : TS := fun D _ H => D.rt .non H
def tIfS (c : TT) (t u : TS) : TS := fun D σ H => c σ H fun b H1 => if b = true then t D σ H1 else u D σ H1
theorem ps_if {c : Expr} {a b : List Stmt} {tc : TT} (hc : PT X c tc) (ha : PSs X a t) (hb : PSs X b u) : PS X (.If c a b pos) (tIfS tc t u) := by
  intro pins s σ H D I h
  refine wpAny_If (thn (hc pins s σ H _ I h) fun d s1 ⟨H1, I1, q1⟩ => ?_)
  cases d with
  | true => exact ha pins s1 σ H1 D I1 q1
  | false => exact hb pins s1 σ H1 D I1 q1
/-- code that the proof never comes to -/
def tNever : TS := fun _ _ _ => False
end

/-! ### targets -/
abbrev TG := V → St → Hp → (St → Hp → Prop) → Prop
abbrev TGs := List V → St → Hp → (St → Hp → Prop) → Prop
def PG (X : Cx) (target : Expr) (t : TG) : Prop :=
  ∀ (pins : List (Addr × Obj)) (s : Shared) (σ : St) (H : Hp) (v : V) (u : Value) (Q : St → Hp → Prop), Inv X pins σ H s → RelV v u → t v σ H Q →
    wpAny (model X.prog X.w) X.A (assign target X.env u) (fun _ s' => ∃ σ' H', Inv X pins σ' H' s' ∧ Q σ' H') X.xe s
/-- several targets, one after another -/
def PGs (X : Cx) (ts : List Expr) (t : TGs) : Prop :=
  ∀ (pins : List (Addr × Obj)) (s : Shared) (σ : St) (H : Hp) (vs : List V) (us : List Value) (Q : St → Hp → Prop), Inv X pins σ H s → Vals vs us → t vs σ H Q →
    wpAny (model X.prog X.w) X.A (assignInOrder ((assignEach ts X.env).map (·.2)) us) (fun _ s' => ∃ σ' H', Inv X pins σ' H' s' ∧ Q σ' H') X.xe s
/-- o[i] = v, by values -/
abbrev TSet := V → V → V → Hp → (Hp → Prop) → Prop
def PSet (X : Cx) (t : TSet) : Prop :=
  ∀ (pins : List (Addr × Obj)) (s : Shared) (σ : St) (H : Hp) (o i v : V) (ov iv u : Value) (Q : Hp → Prop), Inv X pins σ H s → RelV o ov → RelV i iv → RelV v u → t o i v H Q →
    wpAny (model X.prog X.w) X.A (setItem ov iv u) (fun _ s' => ∃ H', Inv X pins σ H' s' ∧ Q H') X.xe s
/-- a op= b, by values -/
abbrev TIp := V → V → Hp → VK → Prop
def PIp (X : Cx) (op : Operator) (t : TIp) : Prop :=
  ∀ (pins : List (Addr × Obj)) (s : Shared) (σ : St) (H : Hp) (x y : V) (v u : Value) (Q : VK), Inv X pins σ H s → RelV x v → RelV y u → t x y H Q →
    wpAny (model X.prog X.w) X.A (inplaceOp op v u) (EP X pins σ Q) X.xe s
section
variable {X : Cx} {pos : Pos}
def gName (i : Nat) : TG := fun v σ H Q => Q (σ.set i (some v)) H
theorem pg_name {i : Nat} {x : Str} (hN : X.N.Nodup) (hi : X.N[i]? = some x) (hx : Loc X.env.scope x) (hf : X.fn x = true ∨ X.env.scope.names.lookup x = some .local := by first | exact .inl rfl | exact .inr rfl | assumption) : PG X (.Name x pos) (gName i) := by
  intro pins s σ H v u Q I r h
  exact wpAny_assign_Name (store_ok I hN hi hx r (fun s' I' => ⟨_, H, I', h⟩) hf)
def gNil : TGs := fun vs σ H Q => vs = [] ∧ Q σ H
def gCons (t : TG) (u : TGs) : TGs := fun vs σ H Q => ∃ v r, vs = v :: r ∧ t v σ H fun σ' H' => u r σ' H' Q
theorem pgs_nil : PGs X [] gNil := by
  intro pins s σ H vs us Q I r h
  obtain ⟨e, h⟩ := h
  subst e
  cases r
  exact assignInOrder_nil ⟨σ, H, I, h⟩
theorem pgs_cons {e : Expr} {es : List Expr} {t : TG} {u : TGs} (h1 : PG X e t) (h2 : PGs X es u)
    (hs : (assignEach (e :: es) X.env).map (·.2) = assign e X.env :: (assignEach es X.env).map (·.2) := by rfl) : PGs X (e :: es) (gCons t u) := by
  intro pins s σ H vs us Q I r h
  obtain ⟨v, vr, e1, h⟩ := h
  subst e1
  cases r with
  | cons r rr =>
    rw [hs]
    refine assignInOrder_cons (thn (h1 pins s σ H _ _ _ I r h) fun _ s1 ⟨σ1, H1, I1, q1⟩ => ?_)
    exact h2 pins s1 σ1 H1 _ _ Q I1 rr q1
/-- (a, b, ..) = a tuple of that length -/
def gTup (K : PySem.W.Frag) (n : Nat) (t : TGs) : TG := fun v σ H Q => ∃ a xs, v = .ref a ∧ SqT K H a xs ∧ xs.length = n ∧ t xs σ H Q
theorem pg_tup {es : List Expr} {k : Nat} {t : TGs} {n : Nat} (hc : X.calm = true) (h : PGs X es t)
    (hn : (assignEach es X.env).length = n := by rfl) (hst : (assignEach es X.env).findIdx? (·.1) = none := by rfl) : PG X (.Tuple es k pos) (gTup X.K n t) := by
  intro pins s σ H v u Q I r hw
  obtain ⟨a, xs, e1, hq, hl, hw⟩ := hw
  subst e1
  cases r
  obtain ⟨its, rv, ht, hz⟩ := I.tuple hq
  refine assign_Tuple_tuple (I.ok.hd hc) ht (by simp [hn, ← hl, rv.length]) hst fun h' hx => ?_
  have I1 : Inv X pins σ H { s with heap := h' } := I.kept (t' := s.toks) fun b o e => hx b o (Nat.ne_of_lt (Heap.lt_size e)) e
  exact h pins _ σ H xs _ Q I1 (by simpa using rv) hw
/-- o[i] = .. -/
def gSub (to ti : TE) (t : TSet) : TG := fun v σ H Q => to σ H fun o H1 => ti σ H1 fun i H2 => t o i v H2 fun H3 => Q σ H3
theorem pg_sub {o i : Expr} {to ti : TE} {t : TSet} (ho : PE X o to) (hi : PE X i ti) (hs : PSet X t)
    (ha : ∀ v, assign (.Subscript o i pos) X.env v = (do
      let ov ← holding [v] (eval o X.env)
      let iv ← holding [v, ov] (eval i X.env)
      standAt pos
      holding [v, ov, iv] (setItem ov iv v)
      release [v, ov, iv] []) := by intro _; rfl) : PG X (.Subscript o i pos) (gSub to ti t) := by
  intro pins s σ H v u Q I r h
  rw [ha]
  refine wpAny_bind (wpAny_holding (thn (ho pins s σ H _ I h) fun ov s1 ⟨x, H1, I1, r1, q1⟩ => ?_))
  refine wpAny_bind (wpAny_holding (thn (hi pins s1 σ H1 _ I1 q1) fun iv s2 ⟨y, H2, I2, r2, q2⟩ => ?_))
  refine wpAny_bind (wpAny_standAt (wpAny_bind (wpAny_holding (thn (hs pins s2 σ H2 x y v ov iv u _ I2 r1 r2 r q2) fun _ s3 ⟨H3, I3, q3⟩ => ?_))))
  exact wpAny_release ⟨σ, H3, I3, q3⟩
/-- target = value -/
def tAsg (te : TE) (g : TG) : TS := fun D σ H => te σ H fun x H1 => g x σ H1 D.nx
theorem ps_asg {tg e : Expr} {te : TE} {g : TG} (he : PE X e te) (hg : PG X tg g) (hs : swapsWithSole [tg] e pos.line X.env = pure false := by rfl) (hw : swappedStores [tg] e X.env = pure none := by rfl)
    (h1 : (assignEach [tg] X.env).map (·.2) = [assign tg X.env] := by rfl) : PS X (.Assign [tg] e pos) (tAsg te g) := by
  intro pins s σ H D I h
  refine wpAny_Assign_stores (thn (he pins s σ H _ I h) fun v s1 ⟨x, H1, I1, r1, q1⟩ => ?_) hs hw
  rw [h1]
  exact thn (hg pins s1 σ H1 x v _ I1 r1 q1) fun _ s2 q => q
/-- name = value -/
theorem ps_set {i : Nat} {x : Str} {e : Expr} {te : TE} {pos' : Pos} (hN : X.N.Nodup) (hi : X.N[i]? = some x) (hx : Loc X.env.scope x) (he : PE X e te) (hs : swapsWith e (some (.Name x pos')) pos.line X.env = pure false := by rfl) (hf : X.fn x = true ∨ X.env.scope.names.lookup x = some .local := by first | exact .inl rfl | exact .inr rfl | assumption) :
    PS X (.Assign [.Name x pos'] e pos) (tAsg te (gName i)) := by
  intro pins s σ H D I h
  refine wpAny_Assign_Name (thn (he pins s σ H _ I h) fun v s1 ⟨y, H1, I1, r1, q1⟩ => ?_) hs
  exact store_ok I1 hN hi hx r1 (fun s2 I2 => ⟨_, H1, I2, q1⟩) hf
/-- a, b = x, y with plain local names: stored from the right; the pair itself is not tracked (the opening rows as in PyProof/Rows/TupAssign.lean:23) -/
def tPar (i j : Nat) (ta : TA) : TS := fun D σ H => ta σ H fun vs H1 => ∃ v w, vs = [v, w] ∧ D.nx ((σ.set i (some v)).set j (some w)) H1
theorem ps_par {i j : Nat} {x y : Str} {a b : Expr} {ta : TA} {px py pt : Pos} {kt k2 pt2} (hc : X.calm = true) (hN : X.N.Nodup) (hi : X.N[i]? = some x) (hj : X.N[j]? = some y) (hij : i ≠ j)
    (hx : X.env.scope.names.lookup x = some .local) (hy : X.env.scope.names.lookup y = some .local) (ha : PA X [a, b] ta)
    (hw : swappedStores [.Tuple [.Name x px, .Name y py] kt pt] (.Tuple [a, b] k2 pt2) X.env = pure (some [x, y]))
    (hs : swapsWithSole [.Tuple [.Name x px, .Name y py] kt pt] (.Tuple [a, b] k2 pt2) pos.line X.env = pure false := by rfl) :
    PS X (.Assign [.Tuple [.Name x px, .Name y py] kt pt] (.Tuple [a, b] k2 pt2) pos) (tPar i j ta) := by
  intro pins s σ H D I h
  rw [exec_Assign_arm]
  refine wpAny_bind (wpAny_standAt ?_)
  rw [hs]
  refine wpAny_bind (wpAny_pure ?_)
  rw [if_neg (by decide)]
  refine wpAny_bind (Tuple_ (thn (ha _ pins s σ H _ I h) fun us s1 ⟨vs, H1, I1, r1, q1⟩ => ?_))
  obtain ⟨v, w, e1, q1⟩ := q1
  subst e1
  obtain ⟨u1, u2, rfl, rv, rw'⟩ : ∃ u1 u2, us = [u1, u2] ∧ RelV v u1 ∧ RelV w u2 := by
    cases r1 with
    | cons p q =>
      cases q with
      | cons p' q' =>
        cases q'
        exact ⟨_, _, rfl, p, p'⟩
  refine wpAny_newObj_type ?_ (by show 2 ≤ sizeLine; decide)
  have I2 : Inv X pins σ H1 { s1 with heap := s1.heap.push { cls := .type "tuple", data := .seq [u1, u2].toArray } } := I1.kept (t' := s1.toks) fun b o e => Heap.get?_push_of_some _ e
  rw [hw]
  refine wpAny_bind (wpAny_pure ?_)
  show wpAny (model X.prog X.w) X.A (do rule "assign.swapped-stores"; let items ← unpackItems (.ref s1.heap.objs.size) 2 none; assignInOrder [fun v => bindName X.env y v, fun v => bindName X.env x v] items.reverse; pure Flow.next) _ _ _
  refine wpAny_bind (wpAny_rule (wpAny_bind (unpackItems_tuple (items := #[u1, u2]) (I.ok.hd hc) (IsTup.new s1.heap _) fun h' hx' => ?_)))
  have I3 := I2.kept (h' := h') (t' := s1.toks) fun b o e => hx' b o (Nat.ne_of_lt (Heap.lt_size e)) e
  show wpAny _ _ (assignInOrder [fun v => bindName X.env y v, fun v => bindName X.env x v] [u2, u1] >>= fun _ => pure Flow.next) _ _ _
  refine wpAny_bind (assignInOrder_cons (wpAny_bindName (store_ok I3 hN hj (.inl hy) rw' (fun s2 I4 => ?_) (.inr hy))))
  refine assignInOrder_cons (wpAny_bindName (store_ok I4 hN hi (.inl hx) rv (fun s3 I5 => assignInOrder_nil (wpAny_pure ?_)) (.inr hx)))
  rw [List.set_comm _ _ (Ne.symm hij)] at I5
  exact ⟨_, H1, I5, q1⟩
/-- name op= e -/
def tAug (i : Nat) (te : TE) (ti : TIp) : TS := fun D σ H => ∃ x, σ[i]? = some (some x) ∧ te σ H fun y H1 => ti x y H1 fun z H2 => D.nx (σ.set i (some z)) H2
theorem ps_aug {i : Nat} {x : Str} {e : Expr} {te : TE} {op : Operator} {ti : TIp} {pos' : Pos} (hN : X.N.Nodup) (hi : X.N[i]? = some x) (hx : Loc X.env.scope x) (he : PE X e te) (ho : PIp X op ti) (hf : X.fn x = true ∨ X.env.scope.names.lookup x = some .local := by first | exact .inl rfl | exact .inr rfl | assumption) :
    PS X (.AugAssign (.Name x pos') op e pos) (tAug i te ti) := by
  intro pins s σ H D I h
  obtain ⟨v, e1, h⟩ := h
  obtain ⟨m, hn, hl⟩ := I.loc
  have vis : Vis X.env.scope x := by rcases hx with k | k; exact .inl k; exact .inr (.inl k)
  obtain ⟨u, r, l⟩ := hl i x v hi e1 vis
  refine wpAny_AugAssign_Name ?_
  have go : wpAny (model X.prog X.w) X.A (eval e X.env) (fun w s₂ => wpAny (model X.prog X.w) X.A (inplaceOp op u w) (fun r s₃ => wpAny (model X.prog X.w) X.A (storeName X.env x r) (fun _ => SP X pins D .next) X.xe s₃) X.xe s₂) X.xe s := by
    refine thn (he pins s σ H _ I h) fun w s1 ⟨y, H1, I1, r1, q1⟩ => ?_
    refine thn (ho pins s1 σ H1 v y u w _ I1 r r1 q1) fun z s2 ⟨zv, H2, I2, r2, q2⟩ => ?_
    exact store_ok I2 hN hi hx r2 (fun s3 I3 => ⟨_, H2, I3, q2⟩) hf
  rcases l with ⟨hk, hm⟩ | ⟨hk, c, hc, hcell⟩
  · exact wpAny_loadName_local I.ok.kind hk hn hm go
  · rcases hk with hk | hk
    · exact wpAny_loadName_cell I.ok.kind hk hc hcell go
    · rcases hx with k | k
      · have : X.env.scope.names.lookup x = some .free := hk
        rw [k] at this; cases this
      · have : X.env.scope.names.lookup x = some .free := hk
        rw [k] at this; cases this
/-- o[i] op= e -/
def tAugS (to ti te : TE) (tget : V → V → Hp → VK → Prop) (tip : TIp) (tset : TSet) : TS := fun D σ H => to σ H fun o H1 => ti σ H1 fun i H2 => tget o i H2 fun x H3 => te σ H3 fun y H4 => tip x y H4 fun z H5 => tset o i z H5 fun H6 => D.nx σ H6
/-- o[i], by values -/
def PGet (X : Cx) (t : V → V → Hp → VK → Prop) : Prop :=
  ∀ (pins : List (Addr × Obj)) (s : Shared) (σ : St) (H : Hp) (o i : V) (ov iv : Value) (Q : VK), Inv X pins σ H s → RelV o ov → RelV i iv → t o i H Q →
    wpAny (model X.prog X.w) X.A (getItem ov iv) (EP X pins σ Q) X.xe s
theorem ps_augS {o i e : Expr} {to ti te : TE} {tget : V → V → Hp → VK → Prop} {tip : TIp} {tset : TSet} {op : Operator} {tpos : Pos} (ho : PE X o to) (hi : PE X i ti) (hg : PGet X tget) (he : PE X e te) (hp : PIp X op tip) (hs : PSet X tset)
    (ha : ∀ ov iv new, augStore i ov iv new = (do holding [new, ov, iv] (setItem ov iv new); release [new, ov, iv] []; pure .next) := by intros; rfl) : PS X (.AugAssign (.Subscript o i tpos) op e pos) (tAugS to ti te tget tip tset) := by
  intro pins s σ H D I h
  refine wpAny_AugAssign_SubscriptAny (thn (ho pins s σ H _ I h) fun ov s1 ⟨x1, H1, I1, r1, q1⟩ => ?_) ha
  refine thn (hi pins s1 σ H1 _ I1 q1) fun iv s2 ⟨x2, H2, I2, r2, q2⟩ => ?_
  refine thn (hg pins s2 σ H2 x1 x2 ov iv _ I2 r1 r2 q2) fun old s3 ⟨x3, H3, I3, r3, q3⟩ => ?_
  refine thn (he pins s3 σ H3 _ I3 q3) fun v s4 ⟨x4, H4, I4, r4, q4⟩ => ?_
  refine thn (hp pins s4 σ H4 x3 x4 old v _ I4 r3 r4 q4) fun new s5 ⟨x5, H5, I5, r5, q5⟩ => ?_
  exact thn (hs pins s5 σ H5 x1 x2 x5 ov iv new _ I5 r1 r2 r5 q5) fun _ s6 ⟨H6, I6, q6⟩ => ⟨σ, H6, I6, q6⟩
/-- ints -/
def ipI (f : Int → Int → Int) : TIp := fun x y H Q => ∃ i j, x = .int i ∧ y = .int j ∧ Q (.int (f i j)) H
end

/-! ### while -/
section
variable {X : Cx} {pos : Pos}
/-- the invariant W with its measure -/
def tWhile (c : TT) (tb : TS) : TS := fun D σ H => ∃ W : Nat → St → Hp → Prop, (∃ m, W m σ H) ∧ ∀ m σ H, W m σ H →
  c σ H fun b H1 => if b = true then ∃ N : St → Hp → Prop, (∀ σ' H', N σ' H' → ∃ m', m' < m ∧ W m' σ' H') ∧ tb { D with nx := N, ct := N, bk := D.nx } σ H1 else D.nx σ H1
theorem ps_while {c : Expr} {body : List Stmt} {tc : TT} {tb : TS} (hp : PassesOwn (model X.prog X.w) X.A X.env X.xe) (hc : PT X c tc) (hb : PSs X body tb) : PS X (.While c body [] pos) (tWhile tc tb) := by
  intro pins s σ H D I h
  obtain ⟨W, ⟨m0, w0⟩, turn⟩ := h
  refine wpAny_While (codeAny_whileLoop (fun n s' => ∃ σ' H', Inv X pins σ' H' s' ∧ W n σ' H') ?_ m0 ⟨σ, H, I, w0⟩)
  rintro n s1 ⟨σ1, H1, I1, w1⟩
  refine wpAny_passesOwn hp (thn (hc pins s1 σ1 H1 _ I1 (turn n σ1 H1 w1)) fun b s2 ⟨H2, I2, q2⟩ => ?_)
  cases b with
  | true =>
    obtain ⟨N, hN, q2⟩ := q2
    rw [if_pos rfl]
    refine wpAny_passesOwn hp (thn (hb pins s2 σ1 H2 _ I2 q2) fun f s3 q3 => ?_)
    cases f with
    | next =>
      obtain ⟨σ3, H3, I3, n3⟩ := q3
      obtain ⟨m', hm, w3⟩ := hN σ3 H3 n3
      exact ⟨m', hm, σ3, H3, I3, w3⟩
    | cont =>
      obtain ⟨σ3, H3, I3, n3⟩ := q3
      obtain ⟨m', hm, w3⟩ := hN σ3 H3 n3
      exact ⟨m', hm, σ3, H3, I3, w3⟩
    | brk => exact q3
    | ret v => exact q3
  | false =>
    rw [if_neg Bool.false_ne_true]
    exact wpAny_execs_nil ⟨σ1, H2, I2, q2⟩
end

/-! ### what a loop or a comprehension walks -/
/-- at turn i: it yields x (the heap may grow), or it stops -/
structure It where
  go : Nat → Hp → Prop
  yld : Nat → Hp → V → Hp → Prop
  stop : Nat → Hp → Prop
  hot : Prop
/-- an exception is being handled that stands known and bears no other one -/
def HotX (X : Cx) : Prop := ∃ (ea : Addr) (oe : Obj) (u : HO) (vs : Array Value), X.A.handled = some (.ref ea) ∧ X.H₀ ea = some (.frz oe u) ∧ oe.data = .fields vs ∧ vs[2]? = some .none
/-- the iterator's own objects may turn: they are not the frame's, not pinned, younger than the entry (or a comprehension's own) -/
def FpOk (X : Cx) (pins : List (Addr × Obj)) (H : Hp) (b : Addr) : Prop :=
  H b = none ∧ b ≠ X.env.locals ∧ b ∉ X.fs ∧ (b ∈ X.ex ∨ X.s₀.heap.objs.size ≤ b) ∧ (∀ x c, X.env.cells.lookup x = some c → c ≠ b) ∧ ∀ p ∈ X.pn ++ pins, p.1 ≠ b
theorem Inv.fpOk {X : Cx} {pins : List (Addr × Obj)} {σ : St} {H H' : Hp} {s : Shared} {b : Addr} (I : Inv X pins σ H s) (hb : s.heap.objs.size ≤ b) (hn : H' b = none) : FpOk X pins H' b := by
  refine ⟨hn, Nat.ne_of_gt (Nat.lt_of_lt_of_le I.lt hb), I.nofs hb, .inr (Nat.le_trans I.sz hb), fun x c e z => ?_, fun p hp z => ?_⟩
  · obtain ⟨v, q⟩ := I.cell x c e
    exact absurd (Nat.lt_of_lt_of_le q.lt (by rw [z]; exact hb)) (Nat.lt_irrefl _)
  · exact absurd (Nat.lt_of_lt_of_le (Heap.lt_size (I.pin p hp).1) (by rw [z]; exact hb)) (Nat.lt_irrefl _)
structure Turn (P : Program) (w : World) (K : PySem.W.Frag) (tg : Expr) (J : It) (fp : List Addr) (it : Addr) (tn : Nat → Heap → Prop) : Prop where
  mem : it ∈ fp
  obj : ∀ i h, tn i h → ∀ b ∈ fp, ∃ o, h.get? b = some o ∧ ∀ v, o.data ≠ .cell v
  keep : ∀ i h h', tn i h → (∀ b ∈ fp, ∀ o, h.get? b = some o → h'.get? b = some o) → tn i h'
  item : ∀ (X : Cx), X.prog = P → X.w = w → X.K = K → (X.calm = true ∨ (J.hot ∧ HotX X)) → ∀ (i : Nat) (pins : List (Addr × Obj)) (s : Shared) (σ : St) (H : Hp) (E : Value → Shared → Prop), Inv X pins σ H s → (∀ b ∈ fp, FpOk X pins H b) → tn i s.heap → J.go i H →
    wpAny (model P w) X.A (pyNext (.ref it)) (fun r s1 => ∃ u, r = some u ∧
      wpAny (model P w) X.A (letOwnedTupleGo tg (.ref it) u) (fun _ s2 => ∃ x H', Inv X pins σ H' s2 ∧ RelV x u ∧ J.yld i H x H' ∧ tn (i + 1) s2.heap ∧ ∀ b ∈ fp, H' b = none) E s1) E s
  done : ∀ (X : Cx), X.prog = P → X.w = w → X.K = K → (X.calm = true ∨ (J.hot ∧ HotX X)) → ∀ (i : Nat) (pins : List (Addr × Obj)) (s : Shared) (σ : St) (H : Hp) (E : Value → Shared → Prop), Inv X pins σ H s → (∀ b ∈ fp, FpOk X pins H b) → tn i s.heap → J.stop i H →
    wpAny (model P w) X.A (pyNext (.ref it)) (fun r s1 => r = none ∧ Inv X pins σ H s1) E s
  self : ∀ (A : Around) (i : Nat) (s : Shared) (Q : Value → Shared → Prop) (E : Value → Shared → Prop), tn i s.heap → Q (.ref it) s → wpAny (model P w) A (pyIter (.ref it)) Q E s
abbrev TI := St → Hp → (It → Hp → Prop) → Prop
/-- an iterator has come -/
def PIE (X : Cx) (pins : List (Addr × Obj)) (σ : St) (tg : Expr) (R : It → Hp → Prop) (itv : Value) (s2 : Shared) : Prop :=
  ∃ (it : Addr) (fp : List Addr) (tn : Nat → Heap → Prop) (J : It) (H' : Hp), itv = .ref it ∧ Inv X pins σ H' s2 ∧ Turn X.prog X.w X.K tg J fp it tn ∧ tn 0 s2.heap ∧ (∀ b ∈ fp, FpOk X pins H' b) ∧ R J H'
def PI (X : Cx) (tg iter : Expr) (wi : TI) : Prop :=
  ∀ (pins : List (Addr × Obj)) (s : Shared) (σ : St) (H : Hp) (R : It → Hp → Prop), Inv X pins σ H s → wi σ H R →
    wpAny (model X.prog X.w) X.A (eval iter X.env) (fun v s1 => wpAny (model X.prog X.w) X.A (pyIter v) (PIE X pins σ tg R) X.xe s1) X.xe s

/-- the step ahead of the store is nothing for an iterator that keeps no tuple -/
theorem go_of {M : Model} {A : Around} {E : Value → Shared → Prop} {s : Shared} {tg : Expr} {it : Addr} {u : Value} {o : Obj} {n : String} {vs : Array Value} {Q : Unit → Shared → Prop} (ho : s.heap.get? it = some o) (hc : o.cls = .type n) (hd : o.data = .fields vs)
    (hn : ["enumerate", "zip", "dict_itemiterator", "dict_reverseitemiterator", "odict_iterator", "itertools.zip_longest", "itertools.pairwise"].contains n = false) (hQ : Q () s) : wpAny M A (letOwnedTupleGo tg (.ref it) u) Q E s := by
  unfold letOwnedTupleGo
  cases tg <;> first
    | exact wpAny_pure hQ
    | (cases u <;> first
        | exact wpAny_pure hQ
        | (refine wpAny_bind (wpAny_load ho ?_)
           rw [hc, hd]
           show wpAny M A (if (["enumerate", "zip", "dict_itemiterator", "dict_reverseitemiterator", "odict_iterator", "itertools.zip_longest", "itertools.pairwise"].contains n && vs[0]? == some (rawInt _)) = true then _ else _) Q E s
           rw [if_neg (by intro h; rw [hn, Bool.false_and] at h; cases h)]
           exact wpAny_pure hQ))

/-- the list at a, as it stands at each turn (a loop may append to it) -/
def Itl (K : PySem.W.Frag) (a : Addr) : It :=
  ⟨fun i H => ∃ xs x, SqL K H a xs ∧ xs[i]? = some x, fun i H x H' => H' = H ∧ ∀ xs, SqL K H a xs → xs[i]? = some x, fun i H => ∃ xs, SqL K H a xs ∧ xs.length ≤ i, False⟩
def Itt (K : PySem.W.Frag) (a : Addr) : It :=
  ⟨fun i H => ∃ xs x, SqT K H a xs ∧ xs[i]? = some x, fun i H x H' => H' = H ∧ ∀ xs, SqT K H a xs → xs[i]? = some x, fun i H => ∃ xs, SqT K H a xs ∧ xs.length ≤ i, False⟩
/-- lo, lo + 1, .. (n of them) -/
def Itr (lo : Int) (n : Nat) : It := ⟨fun i _ => i < n, fun i H x H' => H' = H ∧ x = .int (lo + i), fun i _ => n ≤ i, True⟩
theorem turn_list {P : Program} {w : World} {K : PySem.W.Frag} {tg : Expr} (a it : Addr) : Turn P w K tg (Itl K a) [it] it (fun i h => h.IsListIter it a i) where
  mem := by simp
  obj := fun i h st b hb => by
    have e : b = it := by simpa using hb
    subst e
    obtain ⟨o, e, c, d⟩ := st
    exact ⟨o, e, fun v z => by rw [d] at z; cases z⟩
  keep := fun i h h' st k => st.at fun o e => k it (by simp) o e
  item := by
    intro X hP hw hK hc i pins s σ H E I hf st hg
    subst hP hw hK
    replace hc := hc.resolve_right fun z => z.1
    obtain ⟨xs, x, hq, hx⟩ := hg
    obtain ⟨its, rv, p, hz⟩ := I.list hq
    obtain ⟨u, hu, ru⟩ := rv.get hx
    obtain ⟨f0, f1, f2, f3, f4, f5⟩ := hf it (by simp)
    refine wpAny_pyNext_list_item st p.isList (x := u) (by simpa using hu) fun h' st' sb => ?_
    have I1 : Inv X pins σ H { s with heap := h' } := I.turned (t' := s.toks) (fun b o hb e => (sb.2 b hb).trans e) f0 f1 f3 f4 f5
    obtain ⟨o, e, c, d⟩ := id st'
    exact ⟨u, rfl, go_of (s := { s with heap := h' }) e c d (by decide) ⟨x, H, I1, ru, ⟨rfl, fun ys hy => by rw [I.list_inj hy hq]; exact hx⟩, st', fun b hb => (hf b hb).1⟩⟩
  done := by
    intro X hP hw hK hc i pins s σ H E I hf st hg
    subst hP hw hK
    replace hc := hc.resolve_right fun z => z.1
    obtain ⟨xs, hq, hx⟩ := hg
    obtain ⟨its, rv, p, hz⟩ := I.list hq
    obtain ⟨f0, f1, f2, f3, f4, f5⟩ := hf it (by simp)
    have hl := rv.length
    exact wpAny_pyNext_list_end (I.ok.hd hc) st p.isList (by simp; omega) fun h' eb => ⟨rfl, I.turned (t' := s.toks) (fun b o hb e => eb b o hb e) f0 f1 f3 f4 f5⟩
  self := fun _ _ _ _ _ st h => wpAny_pyIter_listiter st h
theorem turn_tuple {P : Program} {w : World} {K : PySem.W.Frag} {tg : Expr} (a it : Addr) : Turn P w K tg (Itt K a) [it] it (fun i h => h.IsTupleIter it a i) where
  mem := by simp
  obj := fun i h st b hb => by
    have e : b = it := by simpa using hb
    subst e
    obtain ⟨o, e, c, d⟩ := st
    exact ⟨o, e, fun v z => by rw [d] at z; cases z⟩
  keep := fun i h h' st k => st.at fun o e => k it (by simp) o e
  item := by
    intro X hP hw hK hc i pins s σ H E I hf st hg
    subst hP hw hK
    replace hc := hc.resolve_right fun z => z.1
    obtain ⟨xs, x, hq, hx⟩ := hg
    obtain ⟨its, rv, p, hz⟩ := I.tuple hq
    obtain ⟨u, hu, ru⟩ := rv.get hx
    obtain ⟨f0, f1, f2, f3, f4, f5⟩ := hf it (by simp)
    refine wpAny_pyNext_tuple_item st (show s.heap.IsTuple a its.toArray from p) (x := u) (by simpa using hu) fun h' st' sb => ?_
    have I1 : Inv X pins σ H { s with heap := h' } := I.turned (t' := s.toks) (fun b o hb e => (sb.2 b hb).trans e) f0 f1 f3 f4 f5
    obtain ⟨o, e, c, d⟩ := id st'
    exact ⟨u, rfl, go_of (s := { s with heap := h' }) e c d (by decide) ⟨x, H, I1, ru, ⟨rfl, fun ys hy => by rw [I.tuple_inj hy hq]; exact hx⟩, st', fun b hb => (hf b hb).1⟩⟩
  done := by
    intro X hP hw hK hc i pins s σ H E I hf st hg
    subst hP hw hK
    replace hc := hc.resolve_right fun z => z.1
    obtain ⟨xs, hq, hx⟩ := hg
    obtain ⟨its, rv, p, hz⟩ := I.tuple hq
    obtain ⟨f0, f1, f2, f3, f4, f5⟩ := hf it (by simp)
    have hl := rv.length
    exact wpAny_pyNext_tuple_end (I.ok.hd hc) st (show s.heap.IsTuple a its.toArray from p) (by simp; omega) fun h' eb => ⟨rfl, I.turned (t' := s.toks) (fun b o hb e => eb b o hb e) f0 f1 f3 f4 f5⟩
  self := fun _ _ _ _ _ st h => wpAny_pyIter_tupleiter st h
theorem entry_unchain : entryFor table "proto.unchain" = some Builtin.«proto.unchain» := entryFor_of_tree (by kernel_rfl)
/-- a range's end while an exception is handled -/
theorem range_end_hot {prog : Program} {w : World} {A : Around} {E : Value → Shared → Prop} {s : Shared} {it ea : Addr} {x left step : Int} {oe : Obj} {vs : Array Value} {Q : Option Value → Shared → Prop} (hh : A.handled = some (.ref ea)) (he : s.heap.get? ea = some oe) (hd : oe.data = .fields vs) (h2 : vs[2]? = some .none)
    (hit : IsRangeIter s.heap it x left step) (hleft : left ≤ 0) (hQ : ∀ h', Heap.ExtBut it s.heap h' → Q none { s with heap := h' }) : wpAny (model prog w) A (pyNext (.ref it)) Q E s := by
  have hT : s.TypeIs (.ref it) "range_iterator" := ⟨_, hit, rfl⟩
  unfold pyNext
  refine wpAny_bind (wpAny_attempt (wpAny_callSpecial?_slot (name := Str.ofString "__next__") hT F.slot_range_iterator_next (wpAny_call_entry F.slot_range_iterator_next hT F.entry_range_iterator_next ?_ (F.args_range_iterator_next_1 _))))
  show wpAny _ _ (field (.ref it) 0 >>= _) _ _ s
  refine wpAny_bind (wpAny_field hit rfl (x := rawInt x) rfl ?_)
  show wpAny _ _ (field (.ref it) 1 >>= _) _ _ s
  refine wpAny_bind (wpAny_field hit rfl (x := rawInt left) rfl ?_)
  show wpAny _ _ (field (.ref it) 2 >>= _) _ _ s
  refine wpAny_bind (wpAny_field hit rfl (x := rawInt step) rfl ?_)
  show wpAny _ _ (if left ≤ 0 then _ else _) _ _ s
  rw [if_pos hleft]
  refine wpAny_bind (wpAny_rule (wpAny_bind ?_))
  show wpAny _ _ (newExc (.type "StopIteration") [] >>= _) _ _ _
  refine wpAny_bind ?_
  simp only [newExc, newTuple]
  refine wpAny_bind (wpAny_newObj_type ?_ (by size_fits))
  refine wpAny_bind (m := firstArgMember _ _) (wpAny_of_eq (a := Value.none) (by first | rfl | (simp only [firstArgMember]; rfl)) ?_)
  refine wpAny_newObj_type ?_ (by size_fits)
  have hlt : ea < s.heap.objs.size := Heap.lt_size he
  simp only [raiseNew]
  refine wpAny_bind (wpAny_handled ?_)
  rw [show A.in1.handled = some (.ref ea) from hh]
  dsimp only
  have ne : (Value.ref ea != Value.ref (s.heap.push { cls := .type "tuple", data := .seq ([] : List Value).toArray }).objs.size) = true := by
    rw [Heap.size_push]
    have : ea ≠ s.heap.objs.size + 1 := Nat.ne_of_lt (Nat.lt_succ_of_lt hlt)
    simp [this]
  rw [if_pos ne]
  have he' : ((s.heap.push { cls := .type "tuple", data := .seq ([] : List Value).toArray }).push { cls := .type "StopIteration", data := .fields (#[.ref s.heap.objs.size, .none, .none, .none, .bool false, Value.none] ++ ownMembersOf (.type "StopIteration") []) }).get? ea = some oe := Heap.get?_push_of_some _ (Heap.get?_push_of_some _ he)
  refine wpAny_bind (wpAny_holding (wpAny_runValue (codeAny_builtin entry_unchain ?_)))
  unfold Builtin.«proto.unchain»
  dsimp only
  refine wpAny_bind (wpAny_field he' hd h2 ?_)
  rw [if_pos (by decide)]
  refine wpAny_pure ?_
  dsimp only
  refine wpAny_bind ?_
  simp only [updateField]
  refine wpAny_bind (wpAny_load (Heap.get?_push_size _ rfl) ?_)
  dsimp only
  rw [if_pos (by rw [Array.size_append]; show 2 < 6 + _; omega)]
  refine wpAny_update (Heap.get?_push_size _ rfl) ?_
  refine wpAny_throw ?_
  refine wpAny_bind (wpAny_isInstance (T := "StopIteration") (b := true) ⟨_, Heap.get?_update_self _ (Heap.get?_push_size _ rfl) rfl, rfl⟩ isSubtype_stop ?_)
  refine wpAny_pure (hQ _ fun b o hb q => ?_)
  have hb2 : b < s.heap.objs.size := Heap.lt_size q
  rw [Heap.get?_update_other _ _ (by rw [Heap.size_push]; exact Nat.ne_of_gt (Nat.lt_succ_of_lt hb2))]
  exact Heap.get?_push_of_some _ (Heap.get?_push_of_some _ q)
theorem turn_range {P : Program} {w : World} {K : PySem.W.Frag} {tg : Expr} (it : Addr) (lo : Int) (n : Nat) : Turn P w K tg (Itr lo n) [it] it (fun i h => IsRangeIter h it (lo + (i : Nat) * 1) ((n : Int) - (i : Nat)) 1) where
  mem := by simp
  obj := fun i h st b hb => by
    have e : b = it := by simpa using hb
    subst e
    exact ⟨_, st, fun v z => by
      have z' : Data.fields _ = Data.cell v := z
      cases z'⟩
  keep := fun i h h' st k => k it (by simp) _ st
  item := by
    intro X hP hw hK hc i pins s σ H E I hf st hg
    subst hP hw hK
    obtain ⟨f0, f1, f2, f3, f4, f5⟩ := hf it (by simp)
    refine wpAny_pyNext_range_item st (by have : i < n := hg; omega) fun h' st' sb => ?_
    have I1 : Inv X pins σ H { s with heap := h', toks := s.toks + 1 } := I.turned (fun b o hb e => (sb.2 b hb).trans e) f0 f1 f3 f4 f5
    have e1 : lo + (i : Nat) * 1 + 1 = lo + ((i + 1 : Nat) : Int) * 1 := by omega
    have e2 : (n : Int) - (i : Nat) - 1 = (n : Int) - ((i + 1 : Nat) : Int) := by omega
    rw [e1, e2] at st'
    refine ⟨_, rfl, go_of (s := { s with heap := h', toks := s.toks + 1 }) (n := "range_iterator") st' rfl rfl (by decide) ⟨.int (lo + i), H, I1, ⟨s.toks, ?_⟩, ⟨rfl, rfl⟩, st', fun b hb => (hf b hb).1⟩⟩
    rw [Int.mul_one]
  done := by
    intro X hP hw hK hc i pins s σ H E I hf st hg
    subst hP hw hK
    obtain ⟨f0, f1, f2, f3, f4, f5⟩ := hf it (by simp)
    rcases hc with hc | ⟨_, ea, oe, u, vs, k1, k2, k3, k4⟩
    rotate_left
    · obtain ⟨ho, _⟩ := (show ObjOk X.prog X.w H s.heap ea (.frz oe u) from I.hok ea _ (I.base.frzs ea oe u k2))
      exact range_end_hot k1 ho k3 k4 st (by have : n ≤ i := hg; omega) fun h' eb => ⟨rfl, I.turned (t' := s.toks) (fun b o hb e => eb b o hb e) f0 f1 f3 f4 f5⟩
    exact wpAny_pyNext_range_end (I.ok.hd hc) st (by have : n ≤ i := hg; omega) fun h' eb => ⟨rfl, I.turned (t' := s.toks) (fun b o hb e => eb b o hb e) f0 f1 f3 f4 f5⟩
  self := fun _ _ _ _ _ st h => wpAny_pyIter_rangeiter st h
end L2

namespace L2
open PySem PySem.Spec PyProof.Rows
section
variable {X : Cx} {tg : Expr}
def iList (K : PySem.W.Frag) (tl : TE) : TI := fun σ H R => tl σ H fun x H1 => ∃ a, x = .ref a ∧ (∃ xs, SqL K H1 a xs) ∧ R (Itl K a) H1
def iTup (K : PySem.W.Frag) (tl : TE) : TI := fun σ H R => tl σ H fun x H1 => ∃ a, x = .ref a ∧ (∃ xs, SqT K H1 a xs) ∧ R (Itt K a) H1
theorem pi_list {l : Expr} {tl : TE} (hl : PE X l tl) : PI X tg l (iList X.K tl) := by
  intro pins s σ H R I h
  refine thn (hl pins s σ H _ I h) fun v s1 ⟨x, H1, I1, r1, q1⟩ => ?_
  obtain ⟨a, e, ⟨xs, hq⟩, q⟩ := q1
  subst e
  cases r1
  obtain ⟨its, rv, p, hz⟩ := I1.list hq
  refine wpAny_pyIter_list p.isList ?_
  refine ⟨s1.heap.objs.size, [s1.heap.objs.size], _, _, H1, rfl, I1.kept (t' := s1.toks) fun b o e => Heap.get?_push_of_some _ e, turn_list a _, ⟨_, Heap.get?_push_size _ rfl, rfl, rfl⟩, fun b hb => ?_, q⟩
  have e : b = s1.heap.objs.size := by simpa using hb
  subst e
  exact I1.fpOk (Nat.le_refl _) (I1.hok.fresh (Nat.le_refl _))
theorem pi_tup {l : Expr} {tl : TE} (hl : PE X l tl) : PI X tg l (iTup X.K tl) := by
  intro pins s σ H R I h
  refine thn (hl pins s σ H _ I h) fun v s1 ⟨x, H1, I1, r1, q1⟩ => ?_
  obtain ⟨a, e, ⟨xs, hq⟩, q⟩ := q1
  subst e
  cases r1
  obtain ⟨its, rv, p, hz⟩ := I1.tuple hq
  refine wpAny_pyIter_tuple (show s1.heap.IsTuple a its.toArray from p) ?_
  refine ⟨s1.heap.objs.size, [s1.heap.objs.size], _, _, H1, rfl, I1.kept (t' := s1.toks) fun b o e => Heap.get?_push_of_some _ e, turn_tuple a _, ⟨_, Heap.get?_push_size _ rfl, rfl, rfl⟩, fun b hb => ?_, q⟩
  have e : b = s1.heap.objs.size := by simpa using hb
  subst e
  exact I1.fpOk (Nat.le_refl _) (I1.hok.fresh (Nat.le_refl _))
/-- a range object just made, walked -/
theorem range_it {pins : List (Addr × Obj)} {σ : St} {H : Hp} {s : Shared} {R : It → Hp → Prop} {E : Value → Shared → Prop} {lo hi : Int} {t u v : Tok} {tk : Nat} (I : Inv X pins σ H s) (h1 : -(2 ^ 62) ≤ lo) (h2 : lo < 2 ^ 62) (h3 : -(2 ^ 62) ≤ hi) (h4 : hi < 2 ^ 62)
    (q : R (Itr lo (hi - lo).toNat) H) : wpAny (model X.prog X.w) X.A (pyIter (.ref s.heap.objs.size)) (PIE X pins σ tg R) E { s with heap := s.heap.push { cls := .type "range", data := .fields #[.int lo t, .int hi u, .int 1 v] }, toks := tk } := by
  refine wpAny_pyIter_range (IsRange.new ..) (small_one h1 h2 h3 h4) ?_
  have I1 : Inv X pins σ H { s with heap := s.heap.push { cls := .type "range", data := .fields #[.int lo t, .int hi u, .int 1 v] }, toks := tk } := I.kept fun b o e => Heap.get?_push_of_some _ e
  refine ⟨(s.heap.push { cls := .type "range", data := .fields #[.int lo t, .int hi u, .int 1 v] }).objs.size, [(s.heap.push { cls := .type "range", data := .fields #[.int lo t, .int hi u, .int 1 v] }).objs.size], _, _, H, rfl,
    I1.kept (t' := tk) fun b o e => Heap.get?_push_of_some _ e, turn_range _ lo (hi - lo).toNat, ?_, fun b hb => ?_, q⟩
  · have e1 : lo + ((0 : Nat) : Int) * 1 = lo := by simp
    have e2 : (((hi - lo).toNat : Nat) : Int) - ((0 : Nat) : Int) = Builtin.Range.rangeSize lo hi 1 := by rw [rangeSize_one]; split <;> omega
    show IsRangeIter _ _ (lo + ((0 : Nat) : Int) * 1) ((((hi - lo).toNat : Nat) : Int) - ((0 : Nat) : Int)) 1
    rw [e1, e2]
    exact Heap.get?_push_size _ rfl
  · have e : b = (s.heap.push { cls := .type "range", data := .fields #[.int lo t, .int hi u, .int 1 v] }).objs.size := by simpa using hb
    subst e
    exact I1.fpOk (Nat.le_refl _) (I1.hok.fresh (Nat.le_refl _))
def iRng1 (ta : TA) : TI := fun σ H R => ta σ H fun vs H1 => ∃ j : Int, vs = [.int j] ∧ -(2 ^ 62) ≤ j ∧ j < 2 ^ 62 ∧ R (Itr 0 j.toNat) H1
def iRng2 (ta : TA) : TI := fun σ H R => ta σ H fun vs H1 => ∃ i j : Int, vs = [.int i, .int j] ∧ (-(2 ^ 62) ≤ i ∧ i < 2 ^ 62 ∧ -(2 ^ 62) ≤ j ∧ j < 2 ^ 62) ∧ R (Itr i (j - i).toNat) H1
theorem pi_range1 {a : Expr} {ta : TA} {p pos : Pos} (hg : Gl X "range") (hm : X.mg "range" = none) (ha : PA X [a] ta) (hs : starEach [a] X.env = [(false, eval a X.env)] := by rfl) : PI X tg (.Call (.Name "range" p) [a] [] pos) (iRng1 ta) := by
  intro pins s σ H R I h
  refine Call_ (ld_blt I hg hm boot_range (PyProof.Rows.callWith_type1 (thn (ha pos pins s σ H _ I h) fun us s1 ⟨vs, H1, I1, r1, q1⟩ => ?_) hs rfl))
  obtain ⟨j, e, q1, q2, q⟩ := q1
  subst e
  cases r1 with
  | cons r rr =>
    cases rr
    obtain ⟨t, rfl⟩ := r
    exact call_range_1 (range_it I1 (by omega) (by omega) q1 q2 (by simpa using q))
theorem pi_range2 {a b : Expr} {ta : TA} {p pos : Pos} (hg : Gl X "range") (hm : X.mg "range" = none) (ha : PA X [a, b] ta) (hs : starEach [a, b] X.env = [(false, eval a X.env), (false, eval b X.env)] := by rfl) (hs2 : starEach [b] X.env = [(false, eval b X.env)] := by rfl) :
    PI X tg (.Call (.Name "range" p) [a, b] [] pos) (iRng2 ta) := by
  intro pins s σ H R I h
  refine Call_ (ld_blt I hg hm boot_range (PyProof.Rows.callWith_type1 (thn (ha pos pins s σ H _ I h) fun us s1 ⟨vs, H1, I1, r1, q1⟩ => ?_) (by rw [hs, hs2]) (by rw [hs2]; rfl)))
  obtain ⟨i, j, e, ⟨q1, q2, q3, q4⟩, q⟩ := q1
  subst e
  cases r1 with
  | cons r rr =>
    cases rr with
    | cons r' rr =>
      cases rr
      obtain ⟨t, rfl⟩ := r
      obtain ⟨t', rfl⟩ := r'
      exact call_range_2 (range_it I1 q1 q2 q3 q4 q)

/-! ### for -/
/-- W: the invariant by the turn and a measure; N: what the body is to reach -/
def tFor (wi : TI) (g : TG) (tb : TS) : TS := fun D σ H => wi σ H fun J H1 => ∃ W : Nat → Nat → St → Hp → Prop, (∃ m, W 0 m σ H1) ∧ ∀ i m σ H, W i m σ H →
  (J.stop i H ∧ D.nx σ H) ∨ (J.go i H ∧ ∃ N : St → Hp → Prop, (∀ σ' H', N σ' H' → ∃ m', m' < m ∧ W (i + 1) m' σ' H') ∧ ∀ x H', J.yld i H x H' → g x σ H' fun σ2 H2 => tb { D with nx := N, ct := N, bk := D.nx } σ2 H2)
/-- the records at fp as they stand -/
def pinsAt (fp : List Addr) (h : Heap) : List (Addr × Obj) := fp.filterMap fun b => (h.get? b).map fun o => (b, o)
theorem mem_pinsAt {fp : List Addr} {h : Heap} {b : Addr} {o : Obj} (hb : b ∈ fp) (e : h.get? b = some o) : (b, o) ∈ pinsAt fp h := List.mem_filterMap.mpr ⟨b, hb, by rw [e]; rfl⟩
theorem of_pinsAt {fp : List Addr} {h : Heap} {p : Addr × Obj} (hp : p ∈ pinsAt fp h) : p.1 ∈ fp ∧ h.get? p.1 = some p.2 := by
  obtain ⟨b, hb, e⟩ := List.mem_filterMap.mp hp
  cases q : h.get? b with
  | none => rw [q] at e; cases e
  | some o =>
    rw [q] at e
    have e' : (b, o) = p := Option.some.inj e
    subst e'
    exact ⟨hb, q⟩
theorem Inv.pinned {pins : List (Addr × Obj)} {σ : St} {H : Hp} {s : Shared} {fp : List Addr} (I : Inv X pins σ H s) (hf : ∀ b ∈ fp, FpOk X pins H b) (ho : ∀ b ∈ fp, ∃ o, s.heap.get? b = some o ∧ ∀ v, o.data ≠ .cell v) : Inv X (pins ++ pinsAt fp s.heap) σ H s :=
  I.pins_of fun p hp => (List.mem_append.mp hp).elim (fun z => I.pin p (List.mem_append_right _ z)) fun z => by
    obtain ⟨hb, e⟩ := of_pinsAt z
    obtain ⟨f0, f1, f2, _⟩ := hf p.1 hb
    obtain ⟨o, e', d⟩ := ho p.1 hb
    rw [e] at e'; cases e'
    exact ⟨e, f0, f1, f2, d⟩
theorem Inv.unpinned {pins pl : List (Addr × Obj)} {σ : St} {H : Hp} {s : Shared} (I : Inv X (pins ++ pl) σ H s) : Inv X pins σ H s := I.pins_of fun p hp => I.pin p (List.mem_append_right _ (List.mem_append_left _ hp))
theorem ps_for {iter : Expr} {body : List Stmt} {wi : TI} {g : TG} {tb : TS} {pos : Pos} (hp : PassesOwn (model X.prog X.w) X.A X.env X.xe) (hc : X.calm = true) (hi : PI X tg iter wi) (hg : PG X tg g) (hb : PSs X body tb)
    (hs : ∀ x, foldedSetIterable iter X.env x = pure x := by intro _; rfl) : PS X (.For tg iter body [] pos) (tFor wi g tb) := by
  intro pins s σ H D I h
  refine wpAny_For (thn (hi pins s σ H _ I h) fun v s1 h1 => thn h1 fun itv s2 h2 => ?_) hs
  obtain ⟨it, fp, tn, J, H2, e, I2, T, st2, f2, W, ⟨m0, w0⟩, turn⟩ := h2
  subst e
  -- what stays true of the iterator's objects through the loop
  have stat : ∀ {H' : Hp}, (∀ b ∈ fp, H' b = none) → ∀ b ∈ fp, FpOk X pins H' b := fun hn b hb => ⟨hn b hb, (f2 b hb).2⟩
  refine codeAny_forLoop_any (fun n s' => ∃ i σ' H', Inv X pins σ' H' s' ∧ tn i s'.heap ∧ (∀ b ∈ fp, H' b = none) ∧ W i n σ' H') ?_ m0 ⟨0, σ, H2, I2, st2, fun b hb => (f2 b hb).1, w0⟩
  rintro n s3 ⟨i, σ3, H3, I3, st3, fr3, w3⟩
  rcases turn i n σ3 H3 w3 with ⟨stop, qn⟩ | ⟨go, N, hN, step⟩
  · refine wpAny_passesOwn hp (thn (T.done X rfl rfl rfl (.inl hc) i pins s3 σ3 H3 X.xe I3 (stat fr3) st3 stop) fun r s4 ⟨hr, I4⟩ => ?_)
    subst hr
    exact wpAny_execs_nil ⟨σ3, H3, I4, qn⟩
  · refine wpAny_passesOwn hp (thn (T.item X rfl rfl rfl (.inl hc) i pins s3 σ3 H3 X.xe I3 (stat fr3) st3 go) fun r s4 ⟨u, hr, h4⟩ => ?_)
    subst hr
    refine wpAny_passesOwn hp (thn h4 fun _ s5 ⟨x, H5, I5, r5, y5, st5, fr5⟩ => ?_)
    have I5' := I5.pinned (stat fr5) (T.obj _ _ st5)
    refine wpAny_passesOwn hp (thn (hg _ s5 σ3 H5 x u _ I5' r5 (step x H5 y5)) fun _ s6 ⟨σ6, H6, I6, q6⟩ => ?_)
    refine wpAny_passesOwn hp (thn (hb _ s6 σ6 H6 _ I6 q6) fun f s7 q7 => ?_)
    have again : ∀ {σ7 : St} {H7 : Hp}, Inv X (pins ++ pinsAt fp s5.heap) σ7 H7 s7 → N σ7 H7 → ∃ m, m < n ∧ ∃ i σ' H', Inv X pins σ' H' s7 ∧ tn i s7.heap ∧ (∀ b ∈ fp, H' b = none) ∧ W i m σ' H' := fun {σ7 H7} I7 n7 => by
      obtain ⟨m', hm, w7⟩ := hN σ7 H7 n7
      refine ⟨m', hm, i + 1, σ7, H7, I7.unpinned, T.keep _ _ _ st5 fun b hb o e => (I7.pin (b, o) (List.mem_append_right _ (List.mem_append_right _ (mem_pinsAt hb e)))).1, fun b hb => ?_, w7⟩
      obtain ⟨o, e, d⟩ := T.obj _ _ st5 b hb
      exact (I7.pin (b, o) (List.mem_append_right _ (List.mem_append_right _ (mem_pinsAt hb e)))).2.1
    cases f with
    | next => obtain ⟨σ7, H7, I7, n7⟩ := q7; exact again I7 n7
    | cont => obtain ⟨σ7, H7, I7, n7⟩ := q7; exact again I7 n7
    | brk => obtain ⟨σ7, H7, I7, q7⟩ := q7; exact ⟨σ7, H7, I7.unpinned, q7⟩
    | ret v => obtain ⟨x7, σ7, H7, I7, r7, q7⟩ := q7; exact ⟨x7, σ7, H7, I7.unpinned, r7, q7⟩
end

/-! ### the forms one uses -/
end L2

namespace L2
open PySem PySem.Spec PyProof.Rows

abbrev R2 := V → V → Hp → VK → Prop
/-- a two-place operation on values: f is binaryOp op, inplaceOp op or compareOp op -/
def OpR (X : Cx) (f : Value → Value → Sem Value) (r : R2) : Prop :=
  ∀ (pins : List (Addr × Obj)) (s : Shared) (σ : St) (H : Hp) (x y : V) (v u : Value) (Q : VK), Inv X pins σ H s → RelV x v → RelV y u → r x y H Q →
    wpAny (model X.prog X.w) X.A (f v u) (EP X pins σ Q) X.xe s
/-- a one-place operation -/
def UnR (X : Cx) (f : Value → Sem Value) (r : V → Hp → VK → Prop) : Prop :=
  ∀ (pins : List (Addr × Obj)) (s : Shared) (σ : St) (H : Hp) (x : V) (v : Value) (Q : VK), Inv X pins σ H s → RelV x v → r x H Q →
    wpAny (model X.prog X.w) X.A (f v) (EP X pins σ Q) X.xe s
/-- a call of a value that is known (a builtin, a type) with values -/
def CallR (X : Cx) (f : Value) (r : List V → Hp → VK → Prop) : Prop :=
  ∀ (pins : List (Addr × Obj)) (s : Shared) (σ : St) (H : Hp) (xs : List V) (us : List Value) (Q : VK), Inv X pins σ H s → Vals xs us → r xs H Q →
    wpAny (model X.prog X.w) X.A (call f us) (EP X pins σ Q) X.xe s
/-- a value's truth -/
def TruR (X : Cx) (r : V → Hp → (Bool → Hp → Prop) → Prop) : Prop :=
  ∀ (pins : List (Addr × Obj)) (s : Shared) (σ : St) (H : Hp) (x : V) (v : Value) (Q : Bool → Hp → Prop), Inv X pins σ H s → RelV x v → r x H Q →
    wpAny (model X.prog X.w) X.A (truthy v) (TP X pins σ Q) X.xe s

def tOp (r : R2) (ta tb : TE) : TE := fun σ H Q => ta σ H fun x H1 => tb σ H1 fun y H2 => r x y H2 Q
def tUn (r : V → Hp → VK → Prop) (ta : TE) : TE := fun σ H Q => ta σ H fun x H1 => r x H1 Q
/-- ints in, under C, and a value out -/
def rI (C : Int → Int → Prop) (g : Int → Int → V) : R2 := fun x y H Q => ∃ i j, x = .int i ∧ y = .int j ∧ C i j ∧ Q (g i j) H
def rI0 (g : Int → Int → V) : R2 := fun x y H Q => ∃ i j, x = .int i ∧ y = .int j ∧ Q (g i j) H
def rU (g : Int → V) : V → Hp → VK → Prop := fun x H Q => ∃ i, x = .int i ∧ Q (g i) H

section
variable {X : Cx} {a b c : Expr} {ta tb tc : TE} {pos : Pos}

theorem binT (ha : PE X a ta) (hb : PE X b tb) {pins : List (Addr × Obj)} {s : Shared} {σ : St} {H : Hp} {R : V → V → Hp → Prop} (I : Inv X pins σ H s)
    (h : ta σ H fun x H1 => tb σ H1 fun y H2 => R x y H2) {Q : Value → Shared → Prop} {f : Value → Value → Sem Value}
    (hf : ∀ v u s2 x y H2, Inv X pins σ H2 s2 → RelV x v → RelV y u → R x y H2 → wpAny (model X.prog X.w) X.A (f v u) Q X.xe s2) :
    wpAny (model X.prog X.w) X.A (eval a X.env) (fun v s₁ => wpAny (model X.prog X.w) X.A (eval b X.env) (fun u s₂ => wpAny (model X.prog X.w) X.A (f v u) Q X.xe s₂) X.xe s₁) X.xe s := by
  refine thn (ha pins s σ H _ I h) fun v s1 ⟨x, H1, I1, r1, q1⟩ => ?_
  refine thn (hb pins s1 σ H1 _ I1 q1) fun u s2 ⟨y, H2, I2, r2, q2⟩ => ?_
  exact hf v u s2 x y H2 I2 r1 r2 q2

theorem pe_op {op : Operator} {r : R2} (ho : OpR X (binaryOp op) r) (ha : PE X a ta) (hb : PE X b tb) : PE X (.BinOp a op b pos) (tOp r ta tb) := by
  intro pins s σ H Q I h
  exact wpAny_BinOp (binT ha hb I h fun v u s2 x y H2 I2 rx ry q => ho pins s2 σ H2 x y v u Q I2 rx ry q)
theorem pe_un {op : UnaryOp} {r : V → Hp → VK → Prop} (ho : UnR X (unaryOp op) r) (ha : PE X a ta) : PE X (.UnaryOp op a pos) (tUn r ta) := by
  intro pins s σ H Q I h
  exact UnaryOp_ (thn (ha pins s σ H _ I h) fun v s1 ⟨x, H1, I1, r1, q1⟩ => ho pins s1 σ H1 x v Q I1 r1 q1)
/-! ### ints -/
theorem opI {f : Value → Value → Sem Value} {C : Int → Int → Prop} {g : Int → Int → Int}
    (rule : ∀ (i j : Int) (t u : Tok) (s : Shared) (Q : Value → Shared → Prop) (E : Value → Shared → Prop), C i j → Q (.int (g i j) s.toks) { s with toks := s.toks + 1 } → wpAny (model X.prog X.w) X.A (f (.int i t) (.int j u)) Q E s) :
    OpR X f (rI C fun i j => .int (g i j)) := by
  intro pins s σ H x y v u Q I rx ry h
  obtain ⟨i, j, rfl, rfl, hc, q⟩ := h
  obtain ⟨t, rfl⟩ := rx
  obtain ⟨t', rfl⟩ := ry
  exact rule i j t t' s _ _ hc ⟨.int (g i j), H, I.tok _, ⟨_, rfl⟩, q⟩
theorem opI0 {f : Value → Value → Sem Value} {g : Int → Int → Int}
    (rule : ∀ (i j : Int) (t u : Tok) (s : Shared) (Q : Value → Shared → Prop) (E : Value → Shared → Prop), Q (.int (g i j) s.toks) { s with toks := s.toks + 1 } → wpAny (model X.prog X.w) X.A (f (.int i t) (.int j u)) Q E s) :
    OpR X f (rI0 fun i j => .int (g i j)) := by
  intro pins s σ H x y v u Q I rx ry h
  obtain ⟨i, j, rfl, rfl, q⟩ := h
  obtain ⟨t, rfl⟩ := rx
  obtain ⟨t', rfl⟩ := ry
  exact rule i j t t' s _ _ ⟨.int (g i j), H, I.tok _, ⟨_, rfl⟩, q⟩
theorem opB0 {f : Value → Value → Sem Value} {g : Int → Int → Bool}
    (rule : ∀ (i j : Int) (t u : Tok) (s : Shared) (Q : Value → Shared → Prop) (E : Value → Shared → Prop), Q (.bool (g i j)) s → wpAny (model X.prog X.w) X.A (f (.int i t) (.int j u)) Q E s) :
    OpR X f (rI0 fun i j => .bl (g i j)) := by
  intro pins s σ H x y v u Q I rx ry h
  obtain ⟨i, j, rfl, rfl, q⟩ := h
  obtain ⟨t, rfl⟩ := rx
  obtain ⟨t', rfl⟩ := ry
  exact rule i j t t' s _ _ ⟨.bl (g i j), H, I, rfl, q⟩

def CDiv (i j : Int) : Prop := 0 < j ∧ j < 1073741824
def CDivN (i j : Int) : Prop := j ≠ 0 ∧ j.natAbs < 1073741824
def CPow (i j : Int) : Prop := 0 ≤ j ∧ j ≤ 1000000 ∧ i.natAbs < 2 ^ 64
def CMul (i j : Int) : Prop := (-(2 ^ 64) < i ∧ i < 2 ^ 64) ∨ (-(2 ^ 64) < j ∧ j < 2 ^ 64)
theorem op_add : OpR X (binaryOp .Add) (rI0 fun i j => .int (i + j)) := opI0 fun _ _ _ _ _ _ _ q => add_int q
theorem op_sub : OpR X (binaryOp .Sub) (rI0 fun i j => .int (i - j)) := opI0 fun _ _ _ _ _ _ _ q => sub_int q
/-- % by a positive divisor of any size -/
theorem op_mod : OpR X (binaryOp .Mod) (rI (fun _ j => 0 < j) fun i j => .int (i % j)) := opI fun i j _ _ _ _ _ hc q => by
  have h1 : (0 : Int) < j := hc
  exact mod_int' (by omega) (by rw [Int.fmod_eq_emod_of_nonneg i (by omega)]; exact q)
theorem op_pow : OpR X (binaryOp .Pow) (rI CPow fun i j => .int (i ^ j.toNat)) := opI fun _ _ _ _ _ _ _ hc q => pow_int_small hc.1 hc.2.1 hc.2.2 q
theorem unI {f : Value → Sem Value} {g : Int → Int}
    (rule : ∀ (i : Int) (t : Tok) (s : Shared) (Q : Value → Shared → Prop) (E : Value → Shared → Prop), Q (.int (g i) s.toks) { s with toks := s.toks + 1 } → wpAny (model X.prog X.w) X.A (f (.int i t)) Q E s) :
    UnR X f (rU fun i => .int (g i)) := by
  intro pins s σ H x v Q I rx h
  obtain ⟨i, rfl, q⟩ := h
  obtain ⟨t, rfl⟩ := rx
  exact rule i t s _ _ ⟨.int (g i), H, I.tok _, ⟨_, rfl⟩, q⟩
theorem un_neg : UnR X (unaryOp .USub) (rU fun i => .int (-i)) := unI fun _ _ _ _ _ q => neg_int q
/-! ### bools among ints: n += (a < b) -/
end

/-! ### comparisons -/
/-- the scalars that == tells apart as data does -/
def scal : V → V → Bool
  | .non, .non => true | .non, .int _ => true | .int _, .non => true | .non, .bl _ => true | .bl _, .non => true | .non, .str _ => true | .str _, .non => true
  | .int _, .int _ => true | .bl _, .bl _ => true | .str _, .str _ => true | .byt _, .byt _ => true
  | .int _, .str _ => true | .str _, .int _ => true | .bl _, .str _ => true | .str _, .bl _ => true
  | _, _ => false
def rEq : R2 := fun x y H Q => scal x y = true ∧ Q (.bl (decide (x = y))) H
def rNe : R2 := fun x y H Q => scal x y = true ∧ Q (.bl (!decide (x = y))) H

theorem dec_int {i j : Int} : decide (V.int i = V.int j) = (i == j) := by
  rw [Bool.eq_iff_iff]
  simp
theorem dec_bl {i j : Bool} : decide (V.bl i = V.bl j) = (i == j) := by
  rw [Bool.eq_iff_iff]
  simp
theorem dec_str {i j : Str} : decide (V.str i = V.str j) = (i == j) := by
  rw [Bool.eq_iff_iff]
  simp
theorem dec_byt {i j : Array UInt8} : decide (V.byt i = V.byt j) = (i.toList == j.toList) := by
  rw [Bool.eq_iff_iff]
  cases i
  cases j
  simp

section
variable {X : Cx} {a b c : Expr} {ta tb tc : TE} {pos : Pos}
theorem fin_bl {pins : List (Addr × Obj)} {σ : St} {H : Hp} {s : Shared} {Q : VK} {k k' : Bool} (I : Inv X pins σ H s) (q : Q (.bl k) H) (e : k = k') : EP X pins σ Q (.bool k') s := by
  subst e
  exact ⟨.bl k, H, I, rfl, q⟩
theorem op_eq : OpR X (compareOp .Eq) rEq := by
  intro pins s σ H x y v u Q I rx ry h
  obtain ⟨hs, q⟩ := h
  cases x with
  | non =>
    cases rx
    cases y with
    | non => cases ry; exact PySem.EqNone.eq_none_none (fin_bl I q (by simp))
    | bl j => cases ry; exact PySem.EqNone.eq_none_bool (fin_bl I q (by simp))
    | int j => obtain ⟨t', rfl⟩ := ry; exact PySem.EqNone.eq_none_int (fin_bl I q (by simp))
    | str j => obtain ⟨t', rfl⟩ := ry; exact PySem.EqNone.eq_none_str (fin_bl I q (by simp))
    | _ => exact absurd (show false = true from hs) Bool.false_ne_true
  | bl i =>
    cases rx
    cases y with
    | non => cases ry; exact PySem.EqNone.eq_bool_none (fin_bl I q (by simp))
    | bl j => cases ry; exact eq_bool (fin_bl I q dec_bl)
    | str j => obtain ⟨t', rfl⟩ := ry; exact PySem.EqMixed.eq_bool_str (fin_bl I q (by simp))
    | _ => exact absurd (show false = true from hs) Bool.false_ne_true
  | int i =>
    obtain ⟨t, rfl⟩ := rx
    cases y with
    | non => cases ry; exact PySem.EqNone.eq_int_none (fin_bl I q (by simp))
    | int j => obtain ⟨t', rfl⟩ := ry; exact eq_int (fin_bl I q dec_int)
    | str j => obtain ⟨t', rfl⟩ := ry; exact PySem.EqMixed.eq_int_str (fin_bl I q (by simp))
    | _ => exact absurd (show false = true from hs) Bool.false_ne_true
  | str i =>
    obtain ⟨t, rfl⟩ := rx
    cases y with
    | non => cases ry; exact PySem.EqNone.eq_str_none (fin_bl I q (by simp))
    | bl j => cases ry; exact PySem.EqMixed.eq_str_bool (fin_bl I q (by simp))
    | int j => obtain ⟨t', rfl⟩ := ry; exact PySem.EqMixed.eq_str_int (fin_bl I q (by simp))
    | str j => obtain ⟨t', rfl⟩ := ry; exact eq_str (fin_bl I q dec_str)
    | _ => exact absurd (show false = true from hs) Bool.false_ne_true
  | byt i =>
    obtain ⟨t, rfl⟩ := rx
    cases y with
    | byt j => obtain ⟨t', rfl⟩ := ry; exact PySem.W.eq_bytes (fin_bl I q dec_byt)
    | _ => exact absurd (show false = true from hs) Bool.false_ne_true
  | _ => cases y <;> exact absurd (show false = true from hs) Bool.false_ne_true
theorem op_lt : OpR X (compareOp .Lt) (rI0 fun i j => .bl (decide (i < j))) := opB0 fun _ _ _ _ _ _ _ q => lt_int q
theorem op_gt : OpR X (compareOp .Gt) (rI0 fun i j => .bl (decide (j < i))) := opB0 fun _ _ _ _ _ _ _ q => gt_int q
theorem op_ge : OpR X (compareOp .GtE) (rI0 fun i j => .bl (decide (j ≤ i))) := opB0 fun _ _ _ _ _ _ _ q => ge_int q
/-- is, is not of two objects that are tracked lists or instances -/
def isObj : HO → Bool
  | .lst _ => true
  | .ins _ _ _ => true
  | _ => false
theorem nomark (b : Expr) {op : CmpOp} (h : op ≠ .In := by decide) (h2 : op ≠ .NotIn := by decide) : behindInMarks op b = false := by
  have e1 : (op == CmpOp.In) = false := by cases op <;> first | rfl | exact absurd rfl h
  have e2 : (op == CmpOp.NotIn) = false := by cases op <;> first | rfl | exact absurd rfl h2
  cases b <;> simp [behindInMarks, e1, e2]
/-- a comparison as a value; hm: nomark b, or (for in, not in) by with_unfolding_all rfl -/
theorem pe_cmpR {op : CmpOp} {r : R2} (ho : OpR X (compareOp op) r) (ha : PE X a ta) (hb : PE X b tb) (hm : behindInMarks op b = false) : PE X (.Compare a [op] [b] pos) (tOp r ta tb) := by
  intro pins s σ H Q I h
  exact wpAny_Compare1 (binT ha hb I h fun v u s2 x y H2 I2 rx ry q => ho pins s2 σ H2 x y v u Q I2 rx ry q) hm
/-- a reading of a value as a test -/
def tTest (t : TE) : TT := fun σ H Q => t σ H fun x H' => ∃ k, x = .bl k ∧ Q k H'
theorem pt_cmpR {op : CmpOp} {r : R2} (ho : OpR X (compareOp op) r) (ha : PE X a ta) (hb : PE X b tb) (hm : behindInMarks op b = false) : PT X (.Compare a [op] [b] pos) (tTest (tOp r ta tb)) := by
  intro pins s σ H Q I h
  refine wpAny_isTrue_Compare1 (thn (ha pins s σ H _ I h) fun v s1 ⟨x, H1, I1, r1, q1⟩ => thn (hb pins s1 σ H1 _ I1 q1) fun u s2 ⟨y, H2, I2, r2, q2⟩ =>
    thn (ho pins s2 σ H2 x y v u _ I2 r1 r2 q2) fun c s3 ⟨z, H3, I3, r3, k, e, q3⟩ => ?_) hm
  subst e
  cases r3
  exact wpAny_truthy_bool ⟨H3, I3, q3⟩
/-- a op1 b op2 c -/
def tChain (r r' : R2) (ta tb tc : TE) : TE := fun σ H Q => ta σ H fun x H1 => tb σ H1 fun y H2 => r x y H2 fun z H3 => ∃ k, z = .bl k ∧
  (if k = true then tc σ H3 fun w' H4 => r' y w' H4 Q else Q (.bl false) H3)
/-! ### truth -/
/-- a value's truth by the abstract heap -/
def TruV (K : PySem.W.Frag) (x : V) (H : Hp) (k : Bool) : Prop :=
  match x with
  | .non => k = false
  | .bl b => k = b
  | .int i => k = (i != 0)
  | .str y => y.length ≤ sizeLine ∧ k = ((y.length : Int) != 0)
  | .byt y => y.size ≤ sizeLine ∧ k = ((y.size : Int) != 0)
  | .ref p => (∃ xs, SqL K H p xs ∧ k = !xs.isEmpty) ∨ (∃ xs, SqT K H p xs ∧ k = !xs.isEmpty) ∨ ∃ kvs, H p = some (.dK kvs) ∧ k = !kvs.isEmpty
  | _ => False
theorem isEmpty_kv {κ : Type} {kvs : List (κ × V)} {vs : List (κ × Value)} (r : KV kvs vs) : (!vs.isEmpty) = !kvs.isEmpty := by
  cases r <;> rfl
theorem isEmpty_of {xs : List V} {its : List Value} (r : Vals xs its) : (!its.toArray.isEmpty) = !xs.isEmpty := by
  cases r <;> simp
theorem line63 : (sizeLine : Nat) < 2 ^ 63 := by rw [sizeLine_eq]; decide
theorem tru_ok : TruR X (fun x H Q => ∃ k, TruV X.K x H k ∧ Q k H) := by
  intro pins s σ H x v Q I rx h
  obtain ⟨k, e, q⟩ := h
  have hl := line63
  have hs : sizeLine = 16777216 := sizeLine_eq
  cases x with
  | non =>
    cases rx
    have e' : k = false := e
    subst e'
    exact truthy_none ⟨H, I, q⟩
  | bl b =>
    cases rx
    have e' : k = b := e
    subst e'
    exact wpAny_truthy_bool ⟨H, I, q⟩
  | int i =>
    obtain ⟨t, rfl⟩ := rx
    have e' : k = (i != 0) := e
    subst e'
    exact PySem.P.truthy_int ⟨H, I, q⟩
  | str y =>
    obtain ⟨t, rfl⟩ := rx
    obtain ⟨hy, e'⟩ : y.length ≤ sizeLine ∧ k = ((y.length : Int) != 0) := e
    subst e'
    exact PySem.P.truthy_str (by omega) ⟨H, I.tok _, q⟩
  | byt y =>
    obtain ⟨t, rfl⟩ := rx
    obtain ⟨hy, e'⟩ : y.size ≤ sizeLine ∧ k = ((y.size : Int) != 0) := e
    subst e'
    exact PySem.W.truthy_bytes (by omega) ⟨H, I.tok _, q⟩
  | ref p =>
    cases rx
    have e' : (∃ xs, SqL X.K H p xs ∧ k = !xs.isEmpty) ∨ (∃ xs, SqT X.K H p xs ∧ k = !xs.isEmpty) ∨ ∃ kvs, H p = some (.dK kvs) ∧ k = !kvs.isEmpty := e
    rcases e' with ⟨xs, hx, e'⟩ | ⟨xs, hx, e'⟩ | ⟨kvs, hx, e'⟩
    · subst e'
      obtain ⟨its, r, pl, hz⟩ := I.list hx
      have hlen := r.length
      exact wpAny_truthy_list pl.isList (by simp only [List.size_toArray]; omega) ⟨H, I.tok _, by rw [isEmpty_of r]; exact q⟩
    · subst e'
      obtain ⟨its, r, pl, hz⟩ := I.tuple hx
      have hlen := r.length
      exact truthy_tuple pl (by simp only [List.size_toArray]; omega) ⟨H, I.tok _, by rw [isEmpty_of r]; exact q⟩
    · subst e'
      obtain ⟨hz, hS, vs, r, m⟩ : kvs.length ≤ sizeLine ∧ (p == sysModules) = false ∧ ∃ vs, KV kvs vs ∧ s.heap.DictOf (mixKind X.prog X.w) p vs := I.hok p _ hx
      have hlen : kvs.length = vs.length := Paired.length r
      exact wpAny_truthy_dict hS m (by omega) ⟨H, I.tok _, by rw [isEmpty_kv r]; exact q⟩
  | _ => exact (show False from e).elim
/-- any expression whose test is its value's truth (a name, a call, a subscript, a field ..: he by fun _ => rfl) -/
theorem pt_truth (ha : PE X a ta) (he : ∀ whole, isTrue a X.env whole = (do let v ← whole; standAt a.pos; holding [v] (truthy v))) :
    PT X a (fun σ H Q => ta σ H fun x H' => ∃ k, TruV X.K x H' k ∧ Q k H') := by
  intro pins s σ H Q I h
  exact isTrue_plain (thn (ha pins s σ H _ I h) fun v s1 ⟨x, H1, I1, r1, q1⟩ => tru_ok pins s1 σ H1 x v Q I1 r1 q1) (he _)

/-! ### strs and bytes -/
def PlainIxT (b : Expr) : Prop := ∀ o i, subscripted b false o i = operate [o, i] (getItem o i)
/-! ### scalar builtins, by CallR -/
theorem vals1 {x : V} {us : List Value} (r : Vals [x] us) : ∃ u, us = [u] ∧ RelV x u := by
  cases r with
  | cons r1 r2 => cases r2; exact ⟨_, rfl, r1⟩
theorem vals2 {x y : V} {us : List Value} (r : Vals [x, y] us) : ∃ u w', us = [u, w'] ∧ RelV x u ∧ RelV y w' := by
  cases r with
  | cons r1 r2 =>
    cases r2 with
    | cons r3 r4 => cases r4; exact ⟨_, _, rfl, r1, r3⟩
theorem call_abs : CallR X (.builtin "abs") (fun xs H Q => ∃ i, xs = [.int i] ∧ Q (.int (if i < 0 then -i else i)) H) := by
  intro pins s σ H xs us Q I r h
  obtain ⟨i, rfl, q⟩ := h
  obtain ⟨u, rfl, t, rfl⟩ := vals1 r
  exact call_abs_int fun u tk => ⟨.int (if i < 0 then -i else i), H, I.tok _, ⟨_, rfl⟩, q⟩
theorem call_max2 (hc : X.calm = true) : CallR X (.builtin "max") (fun xs H Q => ∃ i j, xs = [.int i, .int j] ∧ Q (.int (if j > i then j else i)) H) := by
  intro pins s σ H xs us Q I r h
  obtain ⟨i, j, rfl, q⟩ := h
  obtain ⟨u, w', rfl, ⟨t, rfl⟩, ⟨t', rfl⟩⟩ := vals2 r
  refine max_two_ints (I.ok.hd hc) fun h' tk k => ⟨_, H, I.kept k, ?_, q⟩
  by_cases hj : j > i
  · rw [if_pos hj, if_pos hj]; exact ⟨_, rfl⟩
  · rw [if_neg hj, if_neg hj]; exact ⟨_, rfl⟩
theorem call_int1 : CallR X (.type "int") (fun xs H Q => (∃ i, xs = [.int i] ∧ Q (.int i) H) ∨ ∃ k, xs = [.bl k] ∧ Q (.int (if k then 1 else 0)) H) := by
  intro pins s σ H xs us Q I r h
  rcases h with ⟨i, rfl, q⟩ | ⟨k, rfl, q⟩
  · obtain ⟨u, rfl, t, rfl⟩ := vals1 r
    exact call_int_int ⟨.int i, H, I, ⟨_, rfl⟩, q⟩
  · obtain ⟨u, rfl, r1⟩ := vals1 r
    cases r1
    exact call_int_bool ⟨.int (if k then 1 else 0), H, I.tok _, ⟨_, rfl⟩, q⟩
/-- len of a str, a bytes, a list, a tuple -/
def LenV (K : PySem.W.Frag) (x : V) (H : Hp) (n : Nat) : Prop :=
  match x with
  | .str y => y.length ≤ sizeLine ∧ n = y.length
  | .byt y => y.size ≤ sizeLine ∧ n = y.size
  | .ref p => (∃ xs, SqL K H p xs ∧ n = xs.length) ∨ ∃ xs, SqT K H p xs ∧ n = xs.length
  | _ => False
end
end L2

namespace L2
open PySem PySem.Spec PyProof.Rows

/-! ### an instance, its attributes a map -/
structure ObjM (h : Heap) (x dx C : Addr) (mA : Str → Option Value) : Prop where
  obj : h.get? x = some (PySem.W.instObj C dx)
  ns : h.Ns1 dx mA
  ne : dx ≠ x

section
variable {prog : Program} {w : World} {A : Around} {E : Value → Shared → Prop} {s : Shared} {K : PySem.W.Frag} {x dx C f : Addr} {mA : Str → Option Value} {name : Str} {v : Value}

end

/-! ### the attributes as a list of pairs -/
def putF (f : Str) (v : V) : List (Str × V) → List (Str × V)
  | [] => [(f, v)]
  | (g, x) :: r => if g = f then (g, v) :: r else (g, x) :: putF f v r
section
variable {P : Program} {w : World} {H H' : Hp} {h h' : Heap} {a C dx : Addr} {fs fs' : List (Str × V)}
end

/-! ### what of the text a class must have -/
structure Cls (K : PySem.W.Frag) (C : Addr) : Prop where
  pg : PySem.W.plainGet K C Str.empty = true
  hd : PySem.W.hasDictIn K C = true
  po : PySem.W.plainOver K C = true
  sa : PySem.W.findIn K (.ref C) "__setattr__" = some (some (.builtin "object.__setattr__"))
/-- no class of it has the name -/
def NoAttr (K : PySem.W.Frag) (C : Addr) (f : Str) : Prop := PySem.W.findIn K (.ref C) f = some none
/-- a constant of the class -/
structure Con (K : PySem.W.Frag) (C : Addr) (f : Str) (v : V) (u : Value) : Prop where
  at_ : PySem.W.findIn K (.ref C) f = some (some u)
  rel : RelV v u
  get : PySem.W.specialIn K u "__get__" = some none
  cp : PySem.W.copiedNames.contains f = false
/-- a method: a plain def of the class or of one above it -/
structure Meth (K : PySem.W.Frag) (C : Addr) (m : Str) (f : Addr) : Prop where
  at_ : PySem.W.findIn K (.ref C) m = some (some (.ref f))
  fn : PySem.W.isFn K (.ref f) = true
  kp : PySem.W.keepIn K (.ref f) = true

section
variable {X : Cx} {pins : List (Addr × Obj)} {σ : St} {H : Hp} {s : Shared} {a C dx : Addr} {fs : List (Str × V)} {f : Str} {v : V} {A : Around} {E : Value → Shared → Prop}

end

/-! ### readings and rules -/
/-- e.f, an attribute of the instance -/
def tFld (K : PySem.W.Frag) (ta : TE) (f : Str) : TE := fun σ H Q => ta σ H fun x H1 => ∃ a C dx fs v, x = .ref a ∧ H1 a = some (.ins C dx fs) ∧ Cls K C ∧ NoAttr K C f ∧ fs.lookup f = some v ∧ Q v H1
/-- e.f, a constant of the class -/
def tCon (K : PySem.W.Frag) (ta : TE) (f : Str) : TE := fun σ H Q => ta σ H fun x H1 => ∃ a C dx fs v u, x = .ref a ∧ H1 a = some (.ins C dx fs) ∧ Cls K C ∧ Con K C f v u ∧ fs.lookup f = none ∧ Q v H1
/-- e.f = value -/
def sFld (K : PySem.W.Frag) (ta tv : TE) (f : Str) : TS := fun D σ H => tv σ H fun y H1 => ta σ H1 fun x H2 => ∃ a C dx fs, x = .ref a ∧ H2 a = some (.ins C dx fs) ∧ Cls K C ∧ NoAttr K C f ∧ fs.length < 1000 ∧
  D.nx σ (upd H2 a (.ins C dx (putF f y fs)))
/-- an augmented operator on two values -/
def InOp (X : Cx) (op : Operator) (rd : V → V → Hp → VK → Prop) : Prop :=
  ∀ (pins : List (Addr × Obj)) (s : Shared) (σ : St) (H : Hp) (x y : V) (u v : Value) (Q : VK), Inv X pins σ H s → RelV x u → RelV y v → rd x y H Q → wpAny (model X.prog X.w) X.A (inplaceOp op u v) (EP X pins σ Q) X.xe s
/-- e.f op= value -/
def sFldAug (K : PySem.W.Frag) (ta tv : TE) (rd : V → V → Hp → VK → Prop) (f : Str) : TS := fun D σ H => ta σ H fun x H1 => ∃ a C dx fs v, x = .ref a ∧ H1 a = some (.ins C dx fs) ∧ Cls K C ∧ NoAttr K C f ∧ fs.lookup f = some v ∧
  tv σ H1 fun y H2 => rd v y H2 fun z H3 => ∃ dx' fs', H3 a = some (.ins C dx' fs') ∧ fs'.length < 1000 ∧ D.nx σ (upd H3 a (.ins C dx' (putF f z fs')))

section
variable {X : Cx} {o e value : Expr} {f : Str} {pos pos' tpos : Pos} {ta tv : TE}
def rAdd : V → V → Hp → VK → Prop := fun x y H Q => ∃ i j, x = .int i ∧ y = .int j ∧ Q (.int (i + j)) H
def rSub : V → V → Hp → VK → Prop := fun x y H Q => ∃ i j, x = .int i ∧ y = .int j ∧ Q (.int (i - j)) H
end

/-! ### isinstance -/
section
variable {X : Cx} {pins : List (Addr × Obj)} {σ : St} {H : Hp} {s : Shared} {A : Around} {E : Value → Shared → Prop} {Q : Value → Shared → Prop} {c : Value} {b : Bool}
/-- the type of a value, as the fragment's deciders take it; for an instance its class -/
inductive TyOf (K : PySem.W.Frag) (H : Hp) : V → Value → Prop where
  | non : TyOf K H .non (.type "NoneType")
  | bl (x : Bool) : TyOf K H (.bl x) (.type "bool")
  | int (i : Int) : TyOf K H (.int i) (.type "int")
  | str (x : Str) : TyOf K H (.str x) (.type "str")
  | flt (x : UInt64) : TyOf K H (.flt x) (.type "float")
  | lst {a : Addr} {xs : List V} (e : H a = some (.lst xs)) : TyOf K H (.ref a) (.type "list")
  | frz {a : Addr} {o : Obj} {xs : List V} (e : H a = some (.frz o (.lst xs))) : TyOf K H (.ref a) (.type "list")
  | tup {a : Addr} {xs : List V} (e : H a = some (.tup xs)) : TyOf K H (.ref a) (.type "tuple")
  | dK {a : Addr} {kvs : List (Key × V)} (e : H a = some (.dK kvs)) : TyOf K H (.ref a) (.type "dict")
  | dT {a : Addr} {kvs : List (List Key × V)} (e : H a = some (.dT kvs)) : TyOf K H (.ref a) (.type "dict")
  | ins {a C dx : Addr} {fs : List (Str × V)} (e : H a = some (.ins C dx fs)) (cl : Cls K C) (ha : PySem.W.findIn K (.ref C) "__class__" = some (some (.builtin "object.__class__")))
      (hn : PySem.W.specialIn K (.builtin "object.__class__") "__get__" = some (some (.builtin "getset_descriptor.__get__"))) (htk : PySem.W.takesIn K (.builtin "object.__class__") = some true)
      (hm : PySem.W.mroIn K C (.type "object") = some true) : TyOf K H (.ref a) (.ref C)
end
end L2

namespace L2
open PySem PySem.Spec PyProof.Rows

/-! ### room -/
structure Room (k : Nat) (A : Around) : Prop where
  hd : A.handled = none
  dp : A.depth + 3 * k + 105 < recursionLimit
  un : A.units + 16 * k + 200 < cLine
theorem Room.mono {j k : Nat} {A : Around} (r : Room k A) (h : j ≤ k) : Room j A := ⟨r.hd, by have := r.dp; omega, by have := r.un; omega⟩
theorem Room.deeper {k : Nat} {A : Around} (r : Room (k + 1) A) (env : Env) : Room k (A.deeper env) :=
  ⟨r.hd, by have := r.dp; show A.depth + 1 + 3 * k + 105 < _; omega, by have := r.un; show A.units + 3 + 16 * k + 200 < _; omega⟩
theorem Room.dp100 {k : Nat} {A : Around} (r : Room k A) : A.depth + 100 < recursionLimit := by have := r.dp; omega
theorem Room.depth {k : Nat} {A : Around} (r : Room k A) : A.depth < recursionLimit := by have := r.dp; omega
theorem Room.units {k : Nat} {A : Around} (r : Room k A) : A.units + 64 < cLine := by have := r.un; omega
/-! ### argument lists and displays -/
def tNil : TA := fun _ H Q => Q [] H
def tCons (ta : TE) (tr : TA) : TA := fun σ H Q => ta σ H fun x H1 => tr σ H1 fun xs H2 => Q (x :: xs) H2
section
variable {X : Cx} {e : Expr} {es : List Expr} {te : TE} {t : TA} {pos : Pos}
theorem pa_nil : PA X [] tNil := fun _ _ _ _ H Q I h => Calls.spliced_nil ⟨[], H, I, .nil, h⟩
theorem pa_cons (ha : PE X e te) (hr : PA X es t) (hs : starEach (e :: es) X.env = (false, eval e X.env) :: starEach es X.env := by rfl) : PA X (e :: es) (tCons te t) := by
  intro pos pins s σ H Q I h
  rw [hs]
  show wpAny _ _ (spliced ((false, eval e X.env) :: backTo pos (starEach es X.env))) _ _ s
  refine Calls.spliced_cons (thn (ha pins s σ H _ I h) fun u s1 ⟨x, H1, I1, r1, q1⟩ => ?_)
  exact thn (hr pos pins s1 σ H1 _ I1 q1) fun us s2 ⟨xs, H2, I2, r2, q2⟩ => ⟨x :: xs, H2, I2, .cons r1 r2, q2⟩

/-- a tuple, a list of written items -/
def tTup (t : TA) : TE := fun σ H Q => t σ H fun xs H1 => xs.length ≤ sizeLine ∧ ∀ p, H1 p = none → Q (.ref p) (upd H1 p (.tup xs))
def tLst (t : TA) : TE := fun σ H Q => t σ H fun xs H1 => xs.length ≤ sizeLine ∧ ∀ p, H1 p = none → Q (.ref p) (upd H1 p (.lst xs))
theorem pe_tup {x1} (h : PA X es t) : PE X (.Tuple es x1 pos) (tTup t) := by
  intro pins s σ H Q I hq
  refine wpAny_Tuple_spliced (thn (h pos pins s σ H _ I hq) fun us s1 ⟨xs, H1, I1, r, z, q⟩ => ⟨by rw [← r.length]; exact z, ?_⟩)
  have hf : H1 s1.heap.objs.size = none := I1.hok.fresh (Nat.le_refl _)
  refine ⟨.ref s1.heap.objs.size, upd H1 s1.heap.objs.size (.tup xs), I1.laid (t' := s1.toks) (fun b u e => Heap.get?_push_of_some _ e) (Nat.le_refl _) ?_, rfl, q _ hf⟩
  exact ⟨z, us, r, ⟨_, Heap.get?_push_size _ rfl, rfl, _, rfl⟩⟩
theorem pe_lst (h : PA X es t) : PE X (.List es pos) (tLst t) := by
  intro pins s σ H Q I hq
  refine wpAny_List_spliced (thn (h pos pins s σ H _ I hq) fun us s1 ⟨xs, H1, I1, r, z, q⟩ => ⟨by rw [← r.length]; exact z, ?_⟩)
  have hf : H1 s1.heap.objs.size = none := I1.hok.fresh (Nat.le_refl _)
  refine ⟨.ref s1.heap.objs.size, upd H1 s1.heap.objs.size (.lst xs), I1.laid (t' := s1.toks) (fun b u e => Heap.get?_push_of_some _ e) (Nat.le_refl _) ?_, rfl, q _ hf⟩
  exact ⟨z, us, 0, r, Heap.get?_push_size _ rfl⟩
end

/-! ### what a def promises -/
/-- a def's promise: the bound arguments in the parameters' order, the heap, the wanted end, the wanted exception -/
abbrev Sp := List V → Hp → VK → XK → Prop
/-- how an exception lies behind a call (file 08 gives it): the callers' frames, abstract heap and state ahead of the call, the wish, the exception, the state -/
abbrev CXT := List Env → Hp → Shared → XK → Value → Shared → Prop

/-- the state at a call -/
structure Env0 (P : Program) (w : World) (K : PySem.W.Frag) (mg : Str → Option Value) (base : Heap) (A : Around) (outer : List Env) (s : Shared) (H : Hp) : Prop where
  frames : A.frames = some outer
  mod : Mod K mg base
  bs : ∀ b o, base.get? b = some o → s.heap.get? b = some o ∧ H b = none
  bsz : base.objs.size ≤ s.heap.objs.size
  funs : s.heap.FunFrames base outer
  frf : ∀ b ∈ frs outer, H b = none
  hok : HOk P w H s.heap
  bare : AllBare s.gens
/-- a call's end -/
def CE (outer : List Env) (P : Program) (w : World) (H : Hp) (s : Shared) (Q : VK) (u : Value) (s' : Shared) : Prop :=
  ∃ v H', s'.os = s.os ∧ AllBare s'.gens ∧ Un (frs outer) [] H H' s.heap s'.heap ∧ HOk P w H' s'.heap ∧ RelV v u ∧ Q v H'
def CR (CX : CXT) (outer : List Env) (P : Program) (w : World) (H : Hp) (s : Shared) (Q : VK) (E : XK) (r : Result) (s' : Shared) : Prop :=
  match r with
  | .ok (.ret u) => CE outer P w H s Q u s'
  | .ok _ => False
  | .error e => CX outer H s E e s'
structure FnOk (P : Program) (w : World) (K : PySem.W.Frag) (mg : Str → Option Value) (base : Heap) (CX : CXT) (k : Nat) (f : Addr) (fd : FuncData) (ps : List Str) (sp : Sp) : Prop where
  len : ∀ vs H Q E, sp vs H Q E → vs.length = ps.length
  run : ∀ (A : Around) (outer : List Env) (s : Shared) (H : Hp) (args : Args) (us : List Value) (vs : List V) (Q : VK) (E : XK), Room k A → Env0 P w K mg base A outer s H → BindsTo s fd args (ps.zip us) → Vals vs us → sp vs H Q E →
    codeAny (model P w) A (.call (.ref f) args) (CR CX outer P w H s Q E) s
section
variable {X : Cx} {pins : List (Addr × Obj)} {σ : St} {H : Hp} {s s' : Shared}
/-- from a body: what a callee wants -/
theorem Inv.env0 (I : Inv X pins σ H s) : Env0 X.prog X.w X.K X.mg X.base X.A X.stack s H :=
  ⟨I.ok.frames, I.ok.mod, I.bs, Nat.le_trans I.ok.bsz I.sz, I.stack, I.stkFree, I.hok, I.bare⟩
/-- behind a call -/
theorem Inv.after {Q : VK} {u : Value} (I : Inv X pins σ H s) (h : CE X.stack X.prog X.w H s Q u s') : EP X pins σ Q u s' := by
  obtain ⟨v, H', os, bare, un, hok, r, q⟩ := h
  obtain ⟨hh, g, d, t, os'⟩ := s'
  obtain rfl : os' = s.os := os
  exact ⟨v, H', I.call (h' := hh) (g' := g) (d' := d) (t' := t) (ch := []) un hok bare (fun b z => absurd z (by simp)), r, q⟩
end

/-! ### calls -/
/-- f(..): the written arguments, then the defaults dvs; E: what is wanted of an exception -/
def tCall (sp : Sp) (dvs : List V) (E : XK) (t : TA) : TE := fun σ H Q => t σ H fun vs H1 => sp (vs ++ dvs) H1 Q E
/-- o.m(..) of an instance of the class at C -/
def tMeth (C : Addr) (m : Str) (sp : Sp) (dvs : List V) (E : XK) (ta : TE) (t : TA) : TE := fun σ H Q => ta σ H fun x H1 => ∃ a dx fs, x = .ref a ∧ H1 a = some (.ins C dx fs) ∧ fs.lookup m = none ∧
  t σ H1 fun vs H2 => sp (x :: (vs ++ dvs)) H2 Q E
/-- C(..): a new instance and its dict, then __init__ -/
def tMake (C : Addr) (sp : Sp) (dvs : List V) (E : XK) (t : TA) : TE := fun σ H Q => t σ H fun vs H1 => ∀ x dx, H1 x = none → H1 dx = none → dx ≠ x →
  sp (.ref x :: (vs ++ dvs)) (upd (upd H1 dx (.own x)) x (.ins C dx [])) (fun v H2 => v = .non ∧ Q (.ref x) H2) E

/-- how the parameters are bound: us the positional arguments, kw the keywords' values by name, ds the defaults that fill up -/
def Binds (K : PySem.W.Frag) (fd : FuncData) (ps : List Str) (ds : List Value) : Prop :=
  ∀ (s : Shared) (us : List Value), K.In s.heap → (us ++ ds).length = ps.length → BindsTo s fd ⟨us, []⟩ (ps.zip (us ++ ds))
/-- every parameter is given -/
theorem Binds.all {K : PySem.W.Frag} {fd : FuncData} {ps : List Str} (h : ∀ us : List Value, us.length = ps.length → bindArgs fd ⟨us, []⟩ = pure (ps.zip us)) : Binds K fd ps [] := fun s us _ hl => by
  rw [List.append_nil] at hl ⊢
  exact .of_eq (h us hl)

/-- an exception of a callee reaches what this body wants of exceptions -/
def Passes (CX : CXT) (X : Cx) (E : XK) : Prop := ∀ (pins : List (Addr × Obj)) (σ : St) (H : Hp) (s : Shared) (e : Value) (s' : Shared), Inv X pins σ H s → CX X.stack H s E e s' → X.xe e s'

section
variable {X : Cx} {CX : CXT} {k : Nat} {f C : Addr} {fd : FuncData} {ps : List Str} {sp : Sp} {dvs : List V} {ds : List Value} {E : XK} {x m : Str} {p pos apos : Pos} {e o : Expr} {es : List Expr} {ta : TE} {t : TA}

/-- the callee runs -/
theorem run_fn {pins : List (Addr × Obj)} {σ : St} {H : Hp} {s : Shared} {Q : VK} {us : List Value} {vs : List V} (F : FnOk X.prog X.w X.K X.mg X.base CX k f fd ps sp) (hr : Room k X.A) (hb : Binds X.K fd ps ds) (hd : Vals dvs ds) (hx : Passes CX X E)
    (I : Inv X pins σ H s) (r : Vals vs us) (h : sp (vs ++ dvs) H Q E) : wpAny (model X.prog X.w) X.A (call (.ref f) us) (EP X pins σ Q) X.xe s := by
  have r2 : Vals (vs ++ dvs) (us ++ ds) := r.append hd
  have hl : (us ++ ds).length = ps.length := by rw [← r2.length]; exact F.len _ _ _ _ h
  refine wpAny_call (codeAny_mono (F.run X.A X.stack s H ⟨us, []⟩ (us ++ ds) (vs ++ dvs) Q E hr I.env0 (hb s us I.kIn hl) r2 h) fun r s' hq => ?_)
  cases r with
  | error e => exact hx pins σ H s e s' I hq
  | ok fl =>
    cases fl with
    | ret u => exact I.after hq
    | next => exact False.elim hq
    | brk => exact False.elim hq
    | cont => exact False.elim hq

theorem pe_call (F : FnOk X.prog X.w X.K X.mg X.base CX k f fd ps sp) (hr : Room k X.A) (hg : Gl X x) (hm : X.mg x = some (.ref f)) (hk : PySem.W.keepIn X.K (.ref f) = true) (hb : Binds X.K fd ps ds) (hd : Vals dvs ds) (hx : Passes CX X E)
    (ha : PA X (e :: es) t) (hdb : (x == ("__debug__" : Str)) = false := by decide) (he : starEach (e :: es) X.env = (false, eval e X.env) :: starEach es X.env := by rfl) (hpl : (backTo pos (starEach es X.env)).any (·.1) = false := by rfl) :
    PE X (.Call (.Name x p) (e :: es) [] pos) (tCall sp dvs E t) := by
  intro pins s σ H Q I h
  refine wpAny_Call_Name_kw (ld_glob I hg hm ?_ hdb)
  refine PySem.W.callWith_K (h₀ := X.base) I.ok.mod.kin hk (thn (ha pos pins s σ H _ I h) fun us s1 ⟨vs, H1, I1, r, q⟩ => ⟨I1.kIn, ?_⟩) he hpl
  exact run_fn F hr hb hd hx I1 r q
/-- what a class must have to be made -/
structure Mk (K : PySem.W.Frag) (C f : Addr) : Prop where
  makes : PySem.W.makesIn K C = true
  init : PySem.W.findIn K (.ref C) "__init__" = some (some (.ref f))
  fn : PySem.W.isFn K (.ref f) = true
  kp : PySem.W.keepIn K (.ref C) = true

end

/-! ### keywords -/
/-- the values of the keywords, from the left -/
def PK (X : Cx) (kws : List Keyword) (t : TA) : Prop :=
  ∀ (pos : Pos) (pins : List (Addr × Obj)) (s : Shared) (σ : St) (H : Hp) (Q : List V → Hp → Prop), Inv X pins σ H s → t σ H Q → wpAny (model X.prog X.w) X.A (evalAll ((backToKw pos (keywordEach kws X.env)).map (·.2))) (AP X pins σ Q) X.xe s
section
variable {X : Cx} {CX : CXT} {k : Nat} {f C : Addr} {fd : FuncData} {ps ks : List Str} {sp : Sp} {E : XK} {x m : Str} {p pos apos kpos : Pos} {e o : Expr} {es : List Expr} {kws : List Keyword} {te ta : TE} {t tk : TA} {nm : Option Str}
/-- how a call with keywords binds: g puts the positional values us and the keywords' values ws (names ks) in the parameters' order, defaults among them -/
structure KBinds (K : PySem.W.Frag) (fd : FuncData) (ps ks : List Str) (g : List Value → List Value → List Value) (gV : List V → List V → List V) : Prop where
  to : ∀ (s : Shared) (us ws : List Value), K.In s.heap → (g us ws).length = ps.length → BindsTo s fd ⟨us, ks.zip ws⟩ (ps.zip (g us ws))
  rel : ∀ {vs : List V} {us : List Value} {zs : List V} {ws : List Value}, Vals vs us → Vals zs ws → Vals (gV vs zs) (g us ws)
def tCallK (sp : Sp) (gV : List V → List V → List V) (E : XK) (t tk : TA) : TE := fun σ H Q => t σ H fun vs H1 => tk σ H1 fun zs H2 => sp (gV vs zs) H2 Q E
variable {g : List Value → List Value → List Value} {gV : List V → List V → List V}
end

/-! ### a def's body keeps its promise -/
/-- names: the parameters first -/
structure FnScope (N P : List Str) (sc : Scope) : Prop where
  kind : sc.kind = .function
  co : sc.isCoroutine = false
  gen : sc.isGenerator = false
  nd : N.Nodup
  pre : N.take P.length = P
  par : ∀ x ∈ P, sc.names.lookup x = some .local ∨ sc.names.lookup x = some .cell
  nofree : ∀ y ∈ sc.names, y.2 ≠ .free

theorem bindL_out {kindOf : Str → Option NameKind} {x : Str} : ∀ {binds : List (Str × Value)} {m : Str → Option Value}, (∀ v, (x, v) ∉ binds) → bindL kindOf binds m x = m x
  | [], _, _ => rfl
  | (n, v) :: r, m, h => by
    unfold bindL
    rw [bindL_out fun w hw => h w (List.mem_cons_of_mem _ hw)]
    split
    · have : x ≠ n := by rintro rfl; exact h v List.mem_cons_self
      simp [this]
    · rfl
theorem bindC_out {kindOf : Str → Option NameKind} {x : Str} : ∀ {binds : List (Str × Value)} {m : Str → Option Value}, (∀ v, (x, v) ∉ binds) → bindC kindOf binds m x = m x
  | [], _, _ => rfl
  | (n, v) :: r, m, h => by
    unfold bindC
    rw [bindC_out fun w hw => h w (List.mem_cons_of_mem _ hw)]
    split
    · rfl
    · have : x ≠ n := by rintro rfl; exact h v List.mem_cons_self
      simp [this]
theorem bindL_get {kindOf : Str → Option NameKind} {x : Str} {v : Value} : ∀ {P : List Str} {vs : List Value} {i : Nat} {m : Str → Option Value}, P.Nodup → P[i]? = some x → vs[i]? = some v → kindOf x = some .local →
    bindL kindOf (P.zip vs) m x = some v
  | [], _, _, _, _, h, _, _ => by simp at h
  | _ :: _, [], _, _, _, _, h, _ => by simp at h
  | p :: P, w :: vs, 0, m, nd, h1, h2, hk => by
    simp at h1 h2; subst h1; subst h2
    show bindL kindOf ((p, w) :: P.zip vs) m p = _
    unfold bindL
    rw [bindL_out fun v hv => (List.nodup_cons.mp nd).1 (List.of_mem_zip hv).1, if_pos hk]
    simp
  | p :: P, w :: vs, i + 1, m, nd, h1, h2, hk => by
    show bindL kindOf ((p, w) :: P.zip vs) m x = _
    unfold bindL
    exact bindL_get (i := i) (List.nodup_cons.mp nd).2 (by simpa using h1) (by simpa using h2) hk
theorem bindC_get {kindOf : Str → Option NameKind} {x : Str} {v : Value} : ∀ {P : List Str} {vs : List Value} {i : Nat} {m : Str → Option Value}, P.Nodup → P[i]? = some x → vs[i]? = some v → kindOf x ≠ some .local →
    bindC kindOf (P.zip vs) m x = some v
  | [], _, _, _, _, h, _, _ => by simp at h
  | _ :: _, [], _, _, _, _, h, _ => by simp at h
  | p :: P, w :: vs, 0, m, nd, h1, h2, hk => by
    simp at h1 h2; subst h1; subst h2
    show bindC kindOf ((p, w) :: P.zip vs) m p = _
    unfold bindC
    rw [bindC_out fun v hv => (List.nodup_cons.mp nd).1 (List.of_mem_zip hv).1, if_neg hk]
    simp
  | p :: P, w :: vs, i + 1, m, nd, h1, h2, hk => by
    show bindC kindOf ((p, w) :: P.zip vs) m x = _
    unfold bindC
    exact bindC_get (i := i) (List.nodup_cons.mp nd).2 (by simpa using h1) (by simpa using h2) hk

/-- the names' values at the entry -/
def start (N : List Str) (vs : List V) : St := vs.map some ++ List.replicate (N.length - vs.length) none

/-- the context of a def's body, at its entry; an exception leaves the frame, then lies as CX says -/
def cxOf (CX : CXT) (P : Program) (w : World) (K : PySem.W.Frag) (mg : Str → Option Value) (base : Heap) (N : List Str) (qual : Str) (scope : Scope) (f : Addr) (cd : Value) (A : Around) (outer : List Env) (s : Shared) (H : Hp) (E : XK) : Cx where
  prog := P
  w := w
  K := K
  mg := mg
  base := base
  A := A.deeper (envOfC qual scope s.heap.objs.size f cd)
  N := N
  s₀ := s
  H₀ := H
  env := envOfC qual scope s.heap.objs.size f cd
  outer := outer
  stack := envOfC qual scope s.heap.objs.size f cd :: outer
  ex := []
  calm := true
  fn := fun _ => true
  pn := []
  xe := fun e s' => wpAny (model P w) (A.deeper (envOfC qual scope s.heap.objs.size f cd)) (leaving (envOfC qual scope s.heap.objs.size f cd) e) (fun _ s'' => CX outer H s E e s'') (fun e' s'' => CX outer H s E e' s'') s'

theorem cell_has {sc : Scope} {n : Nat} {x : Str} (h : sc.names.lookup x = some .cell) : ∃ c, (cellsFrom n sc.names []).lookup x = some c := by
  have q := PySem.W.cellsFrom_some sc.names n [] (.inl h)
  exact Option.isSome_iff_exists.mp q

theorem inv_start {CX : CXT} {P : Program} {w : World} {K : PySem.W.Frag} {mg : Str → Option Value} {base : Heap} {N ps : List Str} {qual : Str} {scope : Scope} {f : Addr} {cd : Value} {A : Around} {outer : List Env} {s s1 : Shared} {H : Hp} {E : XK} {us : List Value} {vs : List V}
    (S : FnScope N ps scope) (hd : A.handled = none) (e0 : Env0 P w K mg base A outer s H) (hl : vs.length = ps.length) (r : Vals vs us)
    (x : InCallC s s.heap.objs.size (bindL (envOfC qual scope s.heap.objs.size f cd).kindOf (ps.zip us) fun _ => none) (cellsFrom (s.heap.objs.size + 1) scope.names []) (bindC (envOfC qual scope s.heap.objs.size f cd).kindOf (ps.zip us) fun _ => none) s1) :
    Inv (cxOf CX P w K mg base N qual scope f cd A outer s H E) [] (start N vs) H s1 := by
  have hpl : ps.length ≤ N.length := by have := congrArg List.length S.pre; rw [List.length_take] at this; omega
  obtain ⟨h1, tk, rfl, hk⟩ := x.done
  have noA : ∀ b : Addr, b ∉ (cxOf CX P w K mg base N qual scope f cd A outer s H E).ex := fun b z => absurd (show b ∈ ([] : List Addr) from z) (by simp)
  refine ⟨⟨e0.mod, S.kind, rfl, rfl, Nat.le_refl _, fun y z c h1 h2 => ?_, fun y hy => ?_, fun y c _ h => ?_, fun _ => hd, Around.frames_deeper e0.frames, .inr ⟨rfl, rfl⟩, fun b z => absurd z (noA b), e0.bs, e0.bsz, fun b _ _ => noA b, fun b z => absurd z (noA b), e0.funs, e0.frf⟩,
    rfl, e0.bare, Un.kept hk, ⟨_, x.toInCall.ns, fun i y v h1 h2 h3 => ?_⟩, fun y c h => ⟨_, x.cell y c h⟩, e0.hok.fresh (Nat.le_refl _), fun y c h => ?_, fun p hp => absurd (show p ∈ ([] : List (Addr × Obj)) from hp) (by simp), e0.hok.kept hk, ?_⟩
  · exact name_of_addr x.apart (PySem.mem_of_lookup h1) (PySem.mem_of_lookup h2)
  · have hy : scope.names.lookup y = some .cell ∨ scope.names.lookup y = some .free := hy
    rcases hy with hy | hy
    · exact cell_has hy
    · exact absurd rfl (S.nofree _ (PySem.mem_of_lookup hy))
  · exact Nat.le_of_lt (x.above y c (PySem.mem_of_lookup h))
  · have hi : i < vs.length := by
      unfold start at h2
      by_cases hi : i < vs.length
      · exact hi
      · rw [List.getElem?_append_right (by simpa using hi)] at h2
        rw [List.getElem?_replicate] at h2
        split at h2 <;> cases h2
    have ha : vs[i]? = some v := by
      unfold start at h2
      rw [List.getElem?_append_left (by simpa using hi), List.getElem?_map] at h2
      cases e : vs[i]? with
      | none => rw [e] at h2; cases h2
      | some a => rw [e] at h2; cases h2; rfl
    obtain ⟨u, hu, rv⟩ := r.get ha
    have hp : ps[i]? = some y := by
      rw [← S.pre, List.getElem?_take_of_lt (by omega)]; exact h1
    have ndP : ps.Nodup := by rw [← S.pre]; exact S.nd.sublist (List.take_sublist _ _)
    refine ⟨u, rv, ?_⟩
    rcases S.par y (List.mem_of_getElem? hp) with k | k
    · exact .inl ⟨k, bindL_get ndP hp hu k⟩
    · obtain ⟨c, e⟩ := cell_has (n := s.heap.objs.size + 1) k
      refine .inr ⟨.inl k, c, e, ?_⟩
      have q := x.cell y c e
      rw [bindC_get ndP hp hu (by show scope.names.lookup y ≠ _; rw [k]; decide)] at q
      exact q
  · exact e0.hok.fresh (Nat.le_of_lt (x.above y c (PySem.mem_of_lookup h)))
  · unfold start
    show _ = N.length
    rw [List.length_append, List.length_map, List.length_replicate]
    omega

/-- THE RULE: a def (or a method) of the text, by its body. The body's reading t is chosen for each entry; it is run at the parameters' values -/
theorem fn_of {CX : CXT} {P : Program} {w : World} {K : PySem.W.Frag} {mg : Str → Option Value} {base : Heap} {k : Nat} {f : Addr} {name qual : Str} {params : Arguments} {body : List Stmt} {scope : Scope} {dV kV doc pm cdv ct oc : Value} {an od : Option Addr}
    {osl : Array (Option Value)} {N ps : List Str} {sp : Sp} (lk : K.lookup f = some ⟨oc, od, .func (PySem.W.fnOf name qual params body scope dV kV doc pm an cdv ct), osl⟩) (hcd : PySem.W.codeIn K cdv qual = true) (S : FnScope N ps scope)
    (len : ∀ vs H Q E, sp vs H Q E → vs.length = ps.length)
    (hbody : ∀ (A : Around) (outer : List Env) (s : Shared) (H : Hp) (vs : List V) (Q : VK) (E : XK), Room k (A.deeper (envOfC qual scope s.heap.objs.size f cdv)) → sp vs H Q E →
      ∃ t, PSs (cxOf CX P w K mg base N qual scope f cdv A outer s H E) body t ∧ t { nx := fun _ H' => Q .non H', rt := Q } (start N vs) H) :
    FnOk P w K mg base CX (k + 1) f (PySem.W.fnOf name qual params body scope dV kV doc pm an cdv ct) ps sp := by
  refine ⟨len, fun A outer s H args us vs Q E hr e0 hb r hsp => ?_⟩
  have hl := len _ _ _ _ hsp
  have KX : K.In s.heap := e0.mod.kin.keeps fun b o e => (e0.bs b o e).1
  have lim : s.heap.NoLimit := e0.mod.nolimit.keeps fun b o e => (e0.bs b o e).1
  have hkind : ∀ y ∈ ps.zip us, scope.names.lookup y.1 = some .local ∨ (scope.names.lookup y.1 = some .cell ∧ ((cellsFrom (s.heap.objs.size + 1) scope.names []).lookup y.1).isSome = true) := fun ⟨n, v⟩ hy => by
    rcases S.par n (List.of_mem_zip hy).1 with q | q
    · exact .inl q
    · exact .inr ⟨q, PySem.W.cellsFrom_some _ _ _ (.inl q)⟩
  refine codeAny_call_function hr.depth (KX _ _ lk) rfl S.co S.gen rfl (PySem.W.codeRec_of KX hcd) (hb _ _ _ _ ?_)
  refine wpAny_newFunctionEnv_cells S.kind hkind fun env he s1 x => ?_
  subst he
  refine ⟨lim.keeps x.toInCall.keep, codeAny_func ?_⟩
  obtain ⟨t, ht, hq⟩ := hbody A outer s H vs Q E (hr.deeper _) hsp
  have I : Inv (cxOf CX P w K mg base N qual scope f cdv A outer s H E) [] (start N vs) H s1 := inv_start S hr.hd e0 hl r x
  refine wpAny_mono (ht [] s1 (start N vs) H _ I hq) (fun fl s' hs => ?_) fun e s' hs => hs
  have fin : ∀ {σ' : St} {H' : Hp} {v : V} {u : Value}, Inv (cxOf CX P w K mg base N qual scope f cdv A outer s H E) [] σ' H' s' → RelV v u → Q v H' → CE outer P w H s Q u s' :=
    fun {σ' H' v u} J rv q => ⟨v, H', J.os, J.bare, J.base, J.hok, rv, q⟩
  cases fl with
  | ret u =>
    obtain ⟨v, σ', H', J, rv, q⟩ := hs
    exact fin J rv q
  | next =>
    obtain ⟨σ', H', J, q⟩ := hs
    exact fin (v := V.non) (u := Value.none) J rfl q
  | brk =>
    obtain ⟨_, _, _, q⟩ := hs
    exact False.elim q
  | cont =>
    obtain ⟨_, _, _, q⟩ := hs
    exact False.elim q
end L2

namespace L2
open PySem PySem.Spec PyProof.Rows
section
variable {X : Cx} {x : Str} {p pos : Pos} {e : Expr} {es : List Expr} {t : TA} {id T : String} {r : List V → Hp → VK → Prop}

def tCB (r : List V → Hp → VK → Prop) (t : TA) : TE := fun σ H Q => t σ H fun vs H1 => r vs H1 Q
/-- f(e, ..), f a built-in function -/
theorem pe_callB (hc : CallR X (.builtin id) r) (hg : Gl X x) (hm : X.mg x = none) (hv : bootBuiltins x = some (.builtin id)) (ha : PA X (e :: es) t) (hn : x ≠ "__name__" := by decide) (hdb : (x == ("__debug__" : Str)) = false := by decide)
    (he : starEach (e :: es) X.env = (false, eval e X.env) :: starEach es X.env := by rfl) (hpl : (backTo pos (starEach es X.env)).any (·.1) = false := by rfl) : PE X (.Call (.Name x p) (e :: es) [] pos) (tCB r t) := by
  intro pins s σ H Q I h
  refine wpAny_Call_Name_kw (ld_blt I hg hm hv ?_ hn hdb)
  exact PyProof.Rows.callWith_builtin1 (thn (ha pos pins s σ H _ I h) fun us s1 ⟨vs, H1, I1, r1, q1⟩ => hc pins s1 σ H1 vs us Q I1 r1 q1) he hpl
/-- T(e, ..), T a built-in type -/
theorem pe_callTy (hc : CallR X (.type T) r) (hg : Gl X x) (hm : X.mg x = none) (hv : bootBuiltins x = some (.type T)) (ha : PA X (e :: es) t) (hn : x ≠ "__name__" := by decide) (hdb : (x == ("__debug__" : Str)) = false := by decide)
    (he : starEach (e :: es) X.env = (false, eval e X.env) :: starEach es X.env := by rfl) (hpl : (backTo pos (starEach es X.env)).any (·.1) = false := by rfl) : PE X (.Call (.Name x p) (e :: es) [] pos) (tCB r t) := by
  intro pins s σ H Q I h
  refine wpAny_Call_Name_kw (ld_blt I hg hm hv ?_ hn hdb)
  exact PyProof.Rows.callWith_type1 (thn (ha pos pins s σ H _ I h) fun us s1 ⟨vs, H1, I1, r1, q1⟩ => hc pins s1 σ H1 vs us Q I1 r1 q1) he hpl
end
end L2

namespace HT
open PySem PyProof.Rows

/-- t < u of tuples of ints -/
def lexLt : List Int → List Int → Bool
  | [], [] => false
  | [], _ :: _ => true
  | _ :: _, [] => false
  | x :: xs, y :: ys => if x = y then lexLt xs ys else decide (x < y)
section
open PySem.SeqAt
open PySem.AutoSeq1 (wpAny_loadPart')
open PySem.MeetsSeq PySem.MeetsSeq2 PySem.MeetsSeq3

end

section
variable {prog : Program} {w : World} {A : Around} {E : Value → Shared → Prop} {s : Shared}

/-! ### t[a:b], not the whole -/
/-- a slice's bound as a place among n (d where it is left out) -/
def sIx (n d : Nat) : Option Int → Nat
  | none => d
  | some v => if v < 0 then (v + (n : Int)).toNat else min v.toNat n
end
end HT

namespace L2
open PySem PySem.Spec PyProof.Rows

/-! ### the parts of a slice -/
abbrev TO := St → Hp → (Option Int → Hp → Prop) → Prop
/-- a slice's part (left out, or an int) -/
def PO (X : Cx) (e : Option Expr) (t : TO) : Prop :=
  ∀ (pins : List (Addr × Obj)) (s : Shared) (σ : St) (H : Hp) (Q : Option Int → Hp → Prop), Inv X pins σ H s → t σ H Q →
    wpAny (model X.prog X.w) X.A (evalPart e X.env) (fun u s' => ∃ o H', Inv X pins σ H' s' ∧ IsPart u o ∧ Q o H') X.xe s
def tNoPart : TO := fun _ H Q => Q none H
def tPart (t : TE) : TO := fun σ H Q => t σ H fun x H1 => ∃ i, x = .int i ∧ Q (some i) H1

section
variable {X : Cx} {e : Expr} {te : TE} {lo hi : Option Expr} {tl th : TO} {pos p2 : Pos}

theorem po_none : PO X none tNoPart := by
  intro pins s σ H Q I h
  rw [evalPart_none]
  exact wpAny_pure ⟨none, H, I, .none, h⟩
theorem po_some (h : PE X e te) : PO X (some e) (tPart te) := by
  intro pins s σ H Q I hw
  rw [evalPart_some]
  refine thn (h pins s σ H _ I hw) fun u s1 ⟨x, H1, I1, r1, q1⟩ => ?_
  obtain ⟨i, rfl, q⟩ := q1
  obtain ⟨t, rfl⟩ := r1
  exact ⟨some i, H1, I1, .int i t, q⟩

/-- what a slice of a value is, by values: the slice object stands at sl -/
def SlR (X : Cx) (r : V → Option Int → Option Int → Hp → VK → Prop) : Prop :=
  ∀ (pins : List (Addr × Obj)) (s : Shared) (σ : St) (H : Hp) (x : V) (v vl vu : Value) (lo hi : Option Int) (sl : Addr) (Q : VK), Inv X pins σ H s → RelV x v → s.heap.IsSliceOf sl vl vu .none → IsPart vl lo → IsPart vu hi → r x lo hi H Q →
    ∃ T id, typeLookup (.type T) "__getitem__" = pure (some (.builtin id)) ∧ s.TypeIs v T ∧ wpAny (model X.prog X.w) X.A (getItem v (.ref sl)) (EP X pins σ Q) X.xe s
def tSl (r : V → Option Int → Option Int → Hp → VK → Prop) (te : TE) (tl th : TO) : TE := fun σ H Q => te σ H fun x H1 => tl σ H1 fun l H2 => th σ H2 fun u H3 => r x l u H3 Q
/-- a[lo:hi], any a -/
theorem pe_slice {r : V → Option Int → Option Int → Hp → VK → Prop} (hr : SlR X r) (he : PE X e te) (hl : PO X lo tl) (hu : PO X hi th) : PE X (.Subscript e (.Slice lo hi none p2) pos) (tSl r te tl th) := by
  intro pins s σ H Q I h
  refine Subscript_ (thn (he pins s σ H _ I h) fun v s1 ⟨x, H1, I1, r1, q1⟩ => ?_)
  refine wpAny_Slice (thn (hl pins s1 σ H1 _ I1 q1) fun vl s2 ⟨l, H2, I2, pl, q2⟩ => thn (hu pins s2 σ H2 _ I2 q2) fun vu s3 ⟨u, H3, I3, pu, q3⟩ => ?_)
  rw [evalPart_none]
  refine wpAny_pure ?_
  have I4 : Inv X pins σ H3 { s3 with heap := s3.heap.push { cls := .type "slice", data := .fields #[vl, vu, .none] } } := I3.kept (t' := s3.toks) fun b ob q => Heap.get?_push_of_some _ q
  obtain ⟨T, id, hT, ht, hg⟩ := hr pins { s3 with heap := s3.heap.push { cls := .type "slice", data := .fields #[vl, vu, .none] } } σ H3 x v vl vu l u s3.heap.objs.size Q I4 r1 (Heap.IsSliceOf.new ..) pl pu q3
  show wpAny (model X.prog X.w) X.A (subscriptTail e (.Slice lo hi none p2) v (.ref s3.heap.objs.size)) (EP X pins σ Q) X.xe { s3 with heap := s3.heap.push { cls := .type "slice", data := .fields #[vl, vu, .none] } }
  exact tail_any (ops := [.ref s3.heap.objs.size, v]) ht hT hg (by with_unfolding_all rfl)

/-- the items of xs[lo:hi] -/
def cutV (xs : List V) (lo hi : Option Int) : List V := (xs.drop (HT.sIx xs.length 0 lo)).take (HT.sIx xs.length xs.length hi - HT.sIx xs.length 0 lo)
theorem cutV_length (xs : List V) (lo hi : Option Int) : (cutV xs lo hi).length ≤ xs.length := by
  unfold cutV
  rw [List.length_take, List.length_drop]
  omega
/-- t[lo:hi], not the whole of it (the whole would be t itself) -/
def rSlT (K : PySem.W.Frag) : V → Option Int → Option Int → Hp → VK → Prop := fun x lo hi H Q => ∃ a xs, x = .ref a ∧ SqT K H a xs ∧
  ¬ (HT.sIx xs.length 0 lo = 0 ∧ HT.sIx xs.length xs.length hi = xs.length) ∧ ∀ p, H p = none → Q (.ref p) (upd H p (.tup (cutV xs lo hi)))
/-! ### t < u, t + u -/
def rLtT (K : PySem.W.Frag) : R2 := fun x y H Q => ∃ a b ns ms, x = .ref a ∧ y = .ref b ∧ SqT K H a (ns.map V.int) ∧ SqT K H b (ms.map V.int) ∧ Q (.bl (HT.lexLt ns ms)) H
/-- t + u, t not empty: u empty gives t itself -/
def rCatT (K : PySem.W.Frag) : R2 := fun x y H Q => ∃ a b xs ys, x = .ref a ∧ y = .ref b ∧ SqT K H a xs ∧ SqT K H b ys ∧ xs ≠ [] ∧ xs.length + ys.length ≤ sizeLine ∧
  (ys = [] → Q (.ref a) H) ∧ (ys ≠ [] → ∀ p, H p = none → Q (.ref p) (upd H p (.tup (xs ++ ys))))
end
end L2

namespace L2
open PySem PySem.Spec PyProof.Rows

/-! ### places -/
/-- the place that an index of any sign means -/
def ixN (n : Nat) (i : Int) : Option Nat := if 0 ≤ i then (if i < n then some i.toNat else none) else if -(n : Int) ≤ i then some (i + n).toNat else none
def atI {α : Type} (xs : List α) (i : Int) : Option α := (ixN xs.length i).bind fun j => xs[j]?
theorem ixN_seq {n : Nat} {i : Int} {j : Nat} (h : ixN n i = some j) : seqIndex? i n = some j ∧ j < n ∧ -(n : Int) ≤ i ∧ i < n := by
  unfold ixN at h
  by_cases h0 : 0 ≤ i
  · rw [if_pos h0] at h
    by_cases h1 : i < n
    · rw [if_pos h1] at h
      have e : i.toNat = j := Option.some.inj h
      exact ⟨by rw [seqIndex_of h0 h1, e], by omega, by omega, h1⟩
    · rw [if_neg h1] at h; cases h
  · rw [if_neg h0] at h
    by_cases h1 : -(n : Int) ≤ i
    · rw [if_pos h1] at h
      have e : (i + n).toNat = j := Option.some.inj h
      exact ⟨by rw [seqIndex_neg (by omega) h1, e], by omega, h1, by omega⟩
    · rw [if_neg h1] at h; cases h
theorem atI_get {α : Type} {xs : List α} {i : Int} {v : α} (h : atI xs i = some v) : ∃ j, seqIndex? i xs.length = some j ∧ xs[j]? = some v ∧ j < xs.length ∧ -(xs.length : Int) ≤ i ∧ i < xs.length := by
  unfold atI at h
  cases e : ixN xs.length i with
  | none => rw [e] at h; cases h
  | some j =>
    rw [e] at h
    obtain ⟨h1, h2, h3, h4⟩ := ixN_seq e
    exact ⟨j, h1, h, h2, h3, h4⟩
theorem atI_nat {α : Type} {xs : List α} {j : Nat} {v : α} (h : xs[j]? = some v) : atI xs (j : Int) = some v := by
  have hj : j < xs.length := (List.getElem?_eq_some_iff.mp h).1
  have e : ixN xs.length (j : Int) = some j := by
    unfold ixN
    rw [if_pos (by omega), if_pos (by omega)]; simp
  unfold atI; rw [e]; exact h
/-! ### what may be subscripted -/
/-- what stands as an index of a plain subscript -/
def PlainIx (b : Expr) : Prop := ∀ o i, subscripted b false o i = operate [o, i] (getItem o i)
/-- a subscript by values -/
def IxR (X : Cx) (r : R2) : Prop :=
  ∀ (value slice : Expr) (pins : List (Addr × Obj)) (s : Shared) (σ : St) (H : Hp) (x y : V) (v u : Value) (Q : VK), Inv X pins σ H s → RelV x v → RelV y u → r x y H Q →
    subscripted slice false v u = operate [v, u] (getItem v u) → wpAny (model X.prog X.w) X.A (subscriptTail value slice v u) (EP X pins σ Q) X.xe s
/-- a call of a builtin's method by values: the receiver, the arguments -/
def MtR (X : Cx) (id : String) (r : V → List V → Hp → VK → Prop) : Prop :=
  ∀ (pins : List (Addr × Obj)) (s : Shared) (σ : St) (H : Hp) (x : V) (xs : List V) (v : Value) (us : List Value) (Q : VK), Inv X pins σ H s → RelV x v → Vals xs us → r x xs H Q →
    wpAny (model X.prog X.w) X.A (call (.builtin id) (v :: us)) (EP X pins σ Q) X.xe s
section
variable {X : Cx} {a b : Expr} {ta tb : TE} {pos : Pos}
/-- a[b] -/
theorem pe_ix {r : R2} (hr : IxR X r) (ha : PE X a ta) (hb : PE X b tb) (hs : PlainIx b) : PE X (.Subscript a b pos) (tOp r ta tb) := by
  intro pins s σ H Q I h
  exact Subscript_ (binT ha hb I h fun v u s2 x y H2 I2 rx ry q => hr a b pins s2 σ H2 x y v u Q I2 rx ry q (hs _ _))

def rIxL (K : PySem.W.Frag) : R2 := fun x y H Q => ∃ p xs i v, x = .ref p ∧ y = .int i ∧ SqL K H p xs ∧ atI xs i = some v ∧ Q v H
def rIxT (K : PySem.W.Frag) : R2 := fun x y H Q => ∃ p xs i v, x = .ref p ∧ y = .int i ∧ SqT K H p xs ∧ atI xs i = some v ∧ Q v H
def rIxS : R2 := fun x y H Q => ∃ z i c, x = .str z ∧ y = .int i ∧ z.length ≤ sizeLine ∧ atI z.cps.toList i = some c ∧ Q (.str ⟨#[c]⟩) H
theorem ix_list : IxR X (rIxL X.K) := by
  intro value slice pins s σ H x y v u Q I rx ry h hs
  obtain ⟨p, xs, i, z, rfl, rfl, hq, he, q⟩ := h
  cases rx
  obtain ⟨t, rfl⟩ := ry
  obtain ⟨its, r, pl, hz⟩ := I.list hq
  obtain ⟨j, h1, h2, h3, h4, h5⟩ := atI_get he
  obtain ⟨w, ew, rw'⟩ := r.get h2
  have hl := r.length
  have hn := line63
  have fin : EP X pins σ Q w s := ⟨z, H, I, rw', q⟩
  by_cases h0 : 0 ≤ i
  · have hj : i.toNat = j := by
      rw [seqIndex_of h0 h5] at h1
      exact Option.some.inj h1
    exact item_listR pl.isList h0 (by omega) (by rw [hj]; simpa using ew) fin hs
  · have hj : (i + (its.toArray.size : Int)).toNat = j := by
      rw [seqIndex_neg (by omega) h4] at h1
      rw [List.size_toArray, ← hl]
      exact Option.some.inj h1
    exact subscriptTail_builtinR (x := w) pl.isList.typeIs slot_list_getitem.lookup
      (wpAny_getItem_list_neg (Q := fun r s' => r = w ∧ EP X pins σ Q r s') pl.isList (by omega) (by rw [List.size_toArray] <;> omega) (by omega) (by rw [hj]; simpa using ew) ⟨rfl, fin⟩) hs
theorem ix_tup : IxR X (rIxT X.K) := by
  intro value slice pins s σ H x y v u Q I rx ry h hs
  obtain ⟨p, xs, i, z, rfl, rfl, hq, he, q⟩ := h
  cases rx
  obtain ⟨t, rfl⟩ := ry
  obtain ⟨its, r, pl, hz⟩ := I.tuple hq
  obtain ⟨j, h1, h2, h3, h4, h5⟩ := atI_get he
  obtain ⟨w, ew, rw'⟩ := r.get h2
  have hl := r.length
  have hn := line63
  have fin : EP X pins σ Q w s := ⟨z, H, I, rw', q⟩
  exact subscriptTail_builtinR (x := w) pl.typeIs slot_tuple_getitem.lookup
    (getItem_tuple (j := j) (Q := fun r s' => r = w ∧ EP X pins σ Q r s') pl (by omega) (by omega) (by rw [List.size_toArray, ← hl]; exact h1) (by simpa using ew) ⟨rfl, fin⟩) hs
/-- list, tuple or str -/
def rIx (K : PySem.W.Frag) : R2 := fun x y H Q => rIxL K x y H Q ∨ rIxT K x y H Q ∨ rIxS x y H Q
/-! ### xs[i] = v, any sign -/
/-- the list's object behind a store -/
theorem mapSeq_set (its : List Value) (n j : Nat) (u : Value) : Obj.mapSeq (·.setIfInBounds j u) { cls := .type "list", data := .seq its.toArray n } = { cls := .type "list", data := .seq (its.set j u).toArray n } := by
  simp [Obj.mapSeq]
theorem Inv.lst {pins : List (Addr × Obj)} {σ : St} {H : Hp} {s : Shared} {p : Addr} {xs : List V} (I : Inv X pins σ H s) (h : H p = some (.lst xs)) :
    ∃ (its : List Value) (n : Nat), Vals xs its ∧ s.heap.get? p = some { cls := .type "list", data := .seq its.toArray n } ∧ xs.length ≤ sizeLine := by
  obtain ⟨z, its, n, r, e⟩ := I.hok p _ h
  exact ⟨its, n, r, e, z⟩
/-- the list at p is written by an update of its object -/
theorem Inv.lstUpd {pins : List (Addr × Obj)} {σ : St} {H : Hp} {s : Shared} {p : Addr} {xs ys : List V} {its its' : List Value} {n n' : Nat} {f : Obj → Obj} (I : Inv X pins σ H s) (h : H p = some (.lst xs))
    (ho : s.heap.get? p = some { cls := .type "list", data := .seq its.toArray n }) (hf : f { cls := .type "list", data := .seq its.toArray n } = { cls := .type "list", data := .seq its'.toArray n' }) (r : Vals ys its') (hz : ys.length ≤ sizeLine) (t : Nat) :
    Inv X pins σ (upd H p (.lst ys)) { s with heap := s.heap.update p f, toks := t } := by
  have e : (s.heap.update p f).get? p = some { cls := .type "list", data := .seq its'.toArray n' } := by
    rw [Heap.get?_update_self f ho (by rw [hf] <;> rfl), hf]
  refine I.write (x := p) (e := p) (by rw [h]; trivial) (.inl rfl) (fun b u hb q => (Heap.get?_update_other _ _ (Ne.symm hb)).trans q) ⟨_, e⟩ ?_
  exact ⟨hz, its', n', r, e⟩
def rSetL : V → V → V → Hp → (Hp → Prop) → Prop := fun o i v H Q => ∃ p xs k j, o = .ref p ∧ i = .int k ∧ H p = some (.lst xs) ∧ ixN xs.length k = some j ∧ Q (upd H p (.lst (xs.set j v)))
theorem set_list : PSet X rSetL := by
  intro pins s σ H o i v ov iv u Q I ro ri rv h
  obtain ⟨p, xs, k, j, rfl, rfl, hp, hj, q⟩ := h
  cases ro
  obtain ⟨t, rfl⟩ := ri
  obtain ⟨its, n, r, ho, hz⟩ := I.lst hp
  obtain ⟨h1, h2, h3, h4⟩ := ixN_seq hj
  have hl := r.length
  have hn := line63
  have I' : Inv X pins σ (upd H p (.lst (xs.set j v))) { s with heap := s.heap.update p (Obj.mapSeq (·.setIfInBounds j u)) } :=
    I.lstUpd hp ho (mapSeq_set its n j u) (r.set rv j) (by rw [List.length_set]; exact hz) s.toks
  by_cases h0 : 0 ≤ k
  · have hk : k.toNat = j := by
      rw [seqIndex_of h0 h4] at h1
      exact Option.some.inj h1
    exact PySem.W.ki_setAt ho h0 (by omega) (by rw [List.size_toArray, ← hl]; exact h4) (by rw [hk]; exact ⟨_, I', q⟩)
  · have hk : (k + (its.toArray.size : Int)).toNat = j := by
      rw [seqIndex_neg (by omega) h3] at h1
      rw [List.size_toArray, ← hl]
      exact Option.some.inj h1
    exact PySem.W.ki_setBack ho (by omega) (by rw [List.size_toArray, ← hl]; exact h3) (by omega) (by rw [hk]; exact ⟨_, I', q⟩)

/-! ### slices -/
theorem slice_bounds (lo hi : Option Int) (n : Nat) : (sliceBounds lo hi none n).1 = ((HT.sIx n 0 lo : Nat) : Int) ∧ (sliceBounds lo hi none n).2.1 = ((HT.sIx n n hi : Nat) : Int) ∧ (sliceBounds lo hi none n).2.2 = 1 := by
  refine ⟨?_, ?_, rfl⟩
  · cases lo with
    | none => simp [sliceBounds, HT.sIx]
    | some i =>
      simp only [sliceBounds, HT.sIx, Option.getD_none, show (1 : Int) > 0 by decide, if_true]
      by_cases h : i < 0
      · simp only [h, if_true] <;> omega
      · simp only [h, if_false] <;> omega
  · cases hi with
    | none => simp [sliceBounds, HT.sIx]
    | some i =>
      simp only [sliceBounds, HT.sIx, Option.getD_none, show (1 : Int) > 0 by decide, if_true]
      by_cases h : i < 0
      · simp only [h, if_true] <;> omega
      · simp only [h, if_false] <;> omega
theorem slicePick_cut (its : List Value) (lo hi : Option Int) : slicePick its.toArray lo hi none = ((its.drop (HT.sIx its.length 0 lo)).take (HT.sIx its.length its.length hi - HT.sIx its.length 0 lo)).toArray := by
  obtain ⟨h1, h2, h3⟩ := slice_bounds lo hi its.toArray.size
  unfold slicePick
  rw [h1, h2, h3]
  simp only [sliceRange_one, pick_run, List.size_toArray] <;> rfl
/-- xs[lo:hi] of a list: a new list -/
def rSlL (K : PySem.W.Frag) : V → Option Int → Option Int → Hp → VK → Prop := fun x lo hi H Q => ∃ a xs, x = .ref a ∧ SqL K H a xs ∧ ∀ p, H p = none → Q (.ref p) (upd H p (.lst (cutV xs lo hi)))
theorem sl_list : SlR X (rSlL X.K) := by
  intro pins s σ H x v vl vu lo hi sl Q I rx hs pl pu h
  obtain ⟨a, xs, rfl, hx, q⟩ := h
  cases rx
  obtain ⟨its, r, ht, hz⟩ := I.list hx
  have hlen := r.length
  refine ⟨"list", _, slot_list_getitem.lookup, ht.isList.typeIs, ?_⟩
  refine wpAny_getItem_list_slice ht.isList hs pl pu .none (by simp) ?_ (by rw [List.size_toArray] <;> omega)
  rw [slicePick_cut, ← hlen]
  refine ⟨.ref s.heap.objs.size, _, I.laid (t' := s.toks) (o := .lst (cutV xs lo hi)) (fun b ob q => Heap.get?_push_of_some _ q) (Nat.le_refl _) ?_, rfl, q _ (I.hok.fresh (Nat.le_refl _))⟩
  exact ⟨Nat.le_trans (cutV_length xs lo hi) hz, _, 0, (r.drop (HT.sIx xs.length 0 lo)).take (HT.sIx xs.length xs.length hi - HT.sIx xs.length 0 lo), Heap.get?_push_size _ rfl⟩

/-! ### in, not in: flat items -/
def flatV : V → Bool
  | .non => true
  | .bl _ => true
  | .int _ => true
  | .str _ => true
  | _ => false
/-- == of flat values -/
def eqV : V → V → Bool
  | .non, .non => true
  | .bl a, .bl b => a == b
  | .bl a, .int b => (if a then 1 else 0) == b
  | .int a, .bl b => a == (if b then 1 else 0)
  | .int a, .int b => a == b
  | .str a, .str b => a == b
  | _, _ => false
/-- the items' answers, read off the values (a value's own answer does not lean on its token) -/
def eqU (x : V) (u : Value) : Bool := match u with
  | .none => eqV .non x
  | .bool b => eqV (.bl b) x
  | .int i _ => eqV (.int i) x
  | .str z _ => eqV (.str z) x
  | _ => false
def inV (x : V) (xs : List V) : Bool := xs.any fun y => eqV y x
/-- x in a list or tuple of flat items -/
def rIn (K : PySem.W.Frag) (neg : Bool) : R2 := fun x y H Q => ∃ p xs, y = .ref p ∧ (SqL K H p xs ∨ SqT K H p xs) ∧ flatV x = true ∧ xs.all flatV = true ∧ Q (.bl (if neg then !inV x xs else inV x xs)) H
/-! ### len, list(x), tuple(x) of any list or tuple that is read -/
theorem call_len_seq : CallR X (.builtin "len") (fun xs H Q => ∃ p ys, xs = [.ref p] ∧ (SqL X.K H p ys ∨ SqT X.K H p ys) ∧ Q (.int ys.length) H) := by
  intro pins s σ H xs us Q I r h
  obtain ⟨p, ys, rfl, hq, q⟩ := h
  obtain ⟨u, rfl, rx⟩ := vals1 r
  cases rx
  have hn := line63
  rcases hq with hq | hq
  · obtain ⟨its, r', pl, hz⟩ := I.list hq
    have hlen := r'.length
    exact Calls.call_len_list pl.isList (by simp only [List.size_toArray] <;> omega) ⟨.int ys.length, H, I.tok _, ⟨s.toks + 1, by rw [List.size_toArray, hlen]⟩, q⟩
  · obtain ⟨its, r', pl, hz⟩ := I.tuple hq
    have hlen := r'.length
    exact len_tuple pl (by simp only [List.size_toArray] <;> omega) ⟨.int ys.length, H, I.tok _, ⟨s.toks + 1, by rw [List.size_toArray, hlen]⟩, q⟩
theorem call_list_of : CallR X (.type "list") (fun xs H Q => ∃ p ys, xs = [.ref p] ∧ (SqL X.K H p ys ∨ SqT X.K H p ys) ∧ ∀ l, H l = none → Q (.ref l) (upd H l (.lst ys))) := by
  intro pins s σ H xs us Q I r h
  obtain ⟨p, ys, rfl, hq, q⟩ := h
  obtain ⟨u, rfl, rx⟩ := vals1 r
  cases rx
  have fin : ∀ (its : List Value), Vals ys its → ys.length ≤ sizeLine → ∀ (h' : Heap) (c' : Nat), (∀ b o', s.heap.get? b = some o' → h'.get? b = some o') →
      h'.get? s.heap.objs.size = some { cls := .type "list", dict := none, data := .seq its.toArray c', slots := #[] } → EP X pins σ Q (.ref s.heap.objs.size) { s with heap := h' } := fun its r' hz h' c' kp e =>
    ⟨.ref s.heap.objs.size, _, I.laid (t' := s.toks) kp (Nat.le_refl _) (show ObjOk X.prog X.w _ h' _ (.lst ys) from ⟨hz, its, c', r', e⟩), rfl, q _ (I.hok.fresh (Nat.le_refl _))⟩
  rcases hq with hq | hq
  · obtain ⟨its, r', pl, hz⟩ := I.list hq
    have hlen := r'.length
    obtain ⟨o, ho, hc, n, hd⟩ := pl.isList
    exact call_list_seq p (.inl rfl) ho hc hd (fun h' c' kp e => fin its r' hz h' c' kp e) (by simp only [List.size_toArray] <;> omega)
  · obtain ⟨its, r', pl, hz⟩ := I.tuple hq
    have hlen := r'.length
    obtain ⟨o, ho, hc, n, hd⟩ := pl
    exact call_list_seq p (.inr rfl) ho hc hd (fun h' c' kp e => fin its r' hz h' c' kp e) (by simp only [List.size_toArray] <;> omega)
theorem call_tuple_of : CallR X (.type "tuple") (fun xs H Q => ∃ p ys, xs = [.ref p] ∧ ((SqL X.K H p ys ∧ ∀ l, H l = none → Q (.ref l) (upd H l (.tup ys))) ∨ (SqT X.K H p ys ∧ Q (.ref p) H))) := by
  intro pins s σ H xs us Q I r h
  obtain ⟨p, ys, rfl, h⟩ := h
  obtain ⟨u, rfl, rx⟩ := vals1 r
  cases rx
  rcases h with ⟨hq, q⟩ | ⟨hq, q⟩
  · obtain ⟨its, r', pl, hz⟩ := I.list hq
    have hlen := r'.length
    refine call_tuple_list pl.isList (fun h' kp => ?_) (by simp only [List.size_toArray] <;> omega)
    have I1 : Inv X pins σ H { s with heap := h' } := I.kept (t' := s.toks) kp
    have I2 : Inv X pins σ (upd H h'.objs.size (.tup ys)) { s with heap := h'.push { cls := .type "tuple", data := .seq its.toArray } } :=
      I1.laid (t' := s.toks) (fun b o e => Heap.get?_push_of_some _ e) (Nat.le_refl _) (show ObjOk X.prog X.w _ _ _ (.tup ys) from ⟨hz, its, r', IsTup.new _ _⟩)
    exact ⟨.ref h'.objs.size, _, I2, rfl, q _ (I1.hok.fresh (Nat.le_refl _))⟩
  · obtain ⟨its, r', pl, hz⟩ := I.tuple hq
    exact call_tuple_same pl ⟨.ref p, H, I, rfl, q⟩

/-! ### the call of a builtin's method: o.m(..) -/
/-- the value is of that builtin type -/
def tyV (K : PySem.W.Frag) (T : String) (x : V) (H : Hp) : Prop := match x with
  | .str _ => T = "str"
  | .int _ => T = "int"
  | .ref p => (T = "list" ∧ ∃ xs, SqL K H p xs) ∨ (T = "tuple" ∧ ∃ o, K.lookup p = some o ∧ o.cls = .type "tuple" ∧ o.dict = none) ∨
      (T = "dict" ∧ ((∃ kvs, H p = some (.dK kvs)) ∨ ∃ kvs, H p = some (.dT kvs))) ∨ (T = "set" ∧ ∃ S n, H p = some (.set S n))
  | _ => False
theorem tyV_is {pins : List (Addr × Obj)} {σ : St} {H : Hp} {s : Shared} {T : String} {x : V} {v : Value} (I : Inv X pins σ H s) (r : RelV x v) (ty : tyV X.K T x H) :
    s.TypeIs v T ∧ ∀ a, v = .ref a → ∃ ob, s.heap.get? a = some ob ∧ ob.dict = none := by
  cases x with
  | str z =>
    obtain ⟨t, rfl⟩ := r
    cases (show T = "str" from ty)
    exact ⟨typeIs_str s z t, fun _ e => nomatch e⟩
  | int i =>
    obtain ⟨t, rfl⟩ := r
    cases (show T = "int" from ty)
    exact ⟨typeIs_int s i t, fun _ e => nomatch e⟩
  | ref p =>
    cases r
    rcases ty with ⟨rfl, xs, hq⟩ | ⟨rfl, o, hk, hc, hd⟩ | ⟨rfl, hk⟩ | ⟨rfl, S, n, hk⟩
    · obtain ⟨its, _, pl, _⟩ := I.list hq
      refine ⟨pl.isList.typeIs, fun a e => ?_⟩
      cases e
      obtain ⟨o, n, e, c, hd, _⟩ := pl
      exact ⟨o, e, hd⟩
    · refine ⟨⟨o, I.kIn p o hk, hc⟩, fun a e => ?_⟩
      cases e
      exact ⟨o, I.kIn _ o hk, hd⟩
    · have z : ∃ o, s.heap.get? p = some o ∧ o.ExactDict := by
        rcases hk with ⟨kvs, hk⟩ | ⟨kvs, hk⟩
        · obtain ⟨_, _, _, _, o, _, _, e, ex, _⟩ := I.hok p _ hk
          exact ⟨o, e, ex⟩
        · obtain ⟨_, _, _, _, o, _, _, e, ex, _⟩ := I.hok p _ hk
          exact ⟨o, e, ex⟩
      obtain ⟨o, e, ex⟩ := z
      refine ⟨⟨o, e, ex.1⟩, fun a e2 => ?_⟩
      cases e2
      exact ⟨o, e, ex.2.1⟩
    · obtain ⟨o, _, _, _, e, ex, _⟩ := I.hok p _ hk
      refine ⟨⟨o, e, ex.1⟩, fun a e2 => ?_⟩
      cases e2
      exact ⟨o, e, ex.2.1⟩
  | _ => exact False.elim ty
def tBM0 (K : PySem.W.Frag) (T : String) (r : V → List V → Hp → VK → Prop) (to : TE) : TE := fun σ H Q => to σ H fun x H1 => tyV K T x H1 ∧ r x [] H1 Q
def tBM (K : PySem.W.Frag) (T : String) (r : V → List V → Hp → VK → Prop) (to : TE) (t : TA) : TE := fun σ H Q => to σ H fun x H1 => tyV K T x H1 ∧ t σ H1 fun xs H2 => r x xs H2 Q
variable {o e : Expr} {es : List Expr} {to : TE} {t : TA} {name : Str} {apos cpos : Pos} {T id : String} {r : V → List V → Hp → VK → Prop}
theorem pe_bm0 (pa : PlainAttrs T) (slot : Slot T name id) (hty : typeOf (.builtin id) = pure (.type "method_descriptor")) (hm : MtR X id r) (ho : PE X o to)
    (hbase : attributeBase o name X.env (eval o X.env) = eval o X.env := by rfl) (hline : (apos.endLine == cpos.line) = true := by rfl) : PE X (.Call (.Attribute o name apos) [] [] cpos) (tBM0 X.K T r to) := by
  intro pins s σ H Q I h
  refine wpAny_Call_method0_late hbase hline (thn (ho pins s σ H _ I h) fun v s1 ⟨x, H1, I1, r1, ty, q1⟩ => ?_)
  obtain ⟨h1, h2⟩ := tyV_is I1 r1 ty
  exact ⟨T, id, pa, slot, hty, h1, h2, Calls.callWith_builtin rfl (PySem.evalArgs_none (hm pins s1 σ H1 x [] v [] Q I1 r1 .nil q1))⟩
theorem pe_bm (pa : PlainAttrs T) (slot : Slot T name id) (hty : typeOf (.builtin id) = pure (.type "method_descriptor")) (hm : MtR X id r) (ho : PE X o to) (ha : PA X (e :: es) t)
    (hbase : attributeBase o name X.env (eval o X.env) = eval o X.env := by rfl)
    (hfew : ((backTo cpos (starEach (e :: es) X.env)).all (fun x => !x.1) && (backToKw cpos (keywordEach [] X.env)).all (fun x => x.1.isSome)
      && decide ((e :: es).length + ([] : List Keyword).length + (if ([] : List Keyword).isEmpty then 0 else 1) < 30)) = true := by rfl)
    (hline : (apos.endLine == cpos.line) = true := by rfl) (hs : starEach (e :: es) X.env = (false, eval e X.env) :: starEach es X.env := by rfl) (hplain : (backTo cpos (starEach es X.env)).any (·.1) = false := by rfl) :
    PE X (.Call (.Attribute o name apos) (e :: es) [] cpos) (tBM X.K T r to t) := by
  intro pins s σ H Q I h
  refine wpAny_Call_method_late hbase hfew hline rfl (thn (ho pins s σ H _ I h) fun v s1 ⟨x, H1, I1, r1, ty, q1⟩ => ?_)
  obtain ⟨h1, h2⟩ := tyV_is I1 r1 ty
  refine ⟨T, id, pa, slot, hty, h1, h2, ?_⟩
  have hA := ha cpos pins s1 σ H1 _ I1 q1
  rw [hs] at hA ⊢
  refine Calls.callWith_builtin (by show (false || (backTo cpos (starEach es X.env)).any (·.1)) = false; rw [hplain] <;> rfl) (Calls.evalArgs_plain ?_)
  exact thn hA fun us s2 ⟨vs, H2, I2, r2, q2⟩ => hm pins s2 σ H2 x vs v us Q I2 r1 r2 q2
/- xs.append(e), list.index on a module's tuple .. are MtR facts of 06m -/
end
end L2

namespace L2
open PySem PySem.Spec PyProof.Rows

def MtM (X : Cx) (id : String) (r : V → List V → Hp → VK → Prop) : Prop :=
  ∀ (pins : List (Addr × Obj)) (s : Shared) (σ : St) (H : Hp) (x : V) (xs : List V) (v : Value) (us : List Value) (Q : VK), Inv X pins σ H s → RelV x v → Vals xs us → r x xs H Q →
    wpAny (model X.prog X.w) X.A (call (.builtin id) (v :: us)) (EP X pins σ Q) X.xe s

/-! ### lists of values -/
theorem Vals.one : ∀ {x : V} {us : List Value}, Vals [x] us → ∃ u, us = [u] ∧ RelV x u
  | _, _, .cons r .nil => ⟨_, rfl, r⟩
theorem Vals.zero : ∀ {us : List Value}, Vals [] us → us = []
  | _, .nil => rfl
theorem Vals.dropLast {xs : List V} {us : List Value} (h : Vals xs us) : Vals xs.dropLast us.dropLast := by
  induction h with
  | nil => exact .nil
  | cons r t ih =>
    cases t with
    | nil => exact .nil
    | cons q t' => exact .cons r ih
theorem Vals.rep {xs : List V} {us : List Value} (h : Vals xs us) : ∀ k : Nat, Vals (List.replicate k xs).flatten (List.replicate k us).flatten
  | 0 => .nil
  | k + 1 => by
    rw [List.replicate_succ, List.replicate_succ, List.flatten_cons, List.flatten_cons]
    exact Vals.append h (Vals.rep h k)
theorem erase_last {α : Type} (l : List α) : l.eraseIdx (l.length - 1) = l.dropLast := by
  induction l with
  | nil => rfl
  | cons a r ih =>
    cases r with
    | nil => rfl
    | cons b r =>
      have e : (a :: b :: r).length - 1 = ((b :: r).length - 1) + 1 := by
        have h1 : (a :: b :: r).length = r.length + 2 := rfl
        have h2 : (b :: r).length = r.length + 1 := rfl
        omega
      rw [e, List.eraseIdx_cons_succ, ih]
      all_goals rfl
theorem foldl_rep (its : List Value) : ∀ (k : Nat) (acc : List Value),
    List.foldl (fun x1 x2 => x1 ++ x2) acc.toArray (List.replicate k its.toArray) = (acc ++ (List.replicate k its).flatten).toArray
  | 0, acc => by simp
  | k + 1, acc => by
    have e : acc.toArray ++ its.toArray = (acc ++ its).toArray := by simp
    have e2 : (acc ++ its) ++ (List.replicate k its).flatten = acc ++ (List.replicate (k + 1) its).flatten := by
      rw [List.replicate_succ, List.flatten_cons, List.append_assoc]
    rw [← e2, ← foldl_rep its k (acc ++ its), ← e, List.replicate_succ, List.foldl_cons]

section
variable {X : Cx} {pins : List (Addr × Obj)} {σ : St} {H : Hp} {s : Shared} {l b : Addr} {xs ys zs : List V}

/-! ### the two steps: a tracked list is rewritten, a new list is laid -/
theorem Inv.lset {its its' : List Value} {n : Nat} {f : Array Value → Array Value} {t' : Nat} (I : Inv X pins σ H s) (hH : H l = some (.lst xs))
    (e : s.heap.get? l = some { cls := .type "list", data := .seq its.toArray n }) (hf : f its.toArray = its'.toArray) (hv : Vals ys its') (hz : ys.length ≤ sizeLine) :
    Inv X pins σ (upd H l (.lst ys)) { s with heap := s.heap.update l (Obj.mapSeq f), toks := t' } := by
  have q := PySem.IsL.update e f
  rw [hf] at q
  refine I.write (x := l) (e := l) (by rw [hH]; exact trivial) (.inl rfl) (fun b' u hb hu => (Heap.get?_update_other s.heap (Obj.mapSeq f) (Ne.symm hb)).trans hu) ⟨_, q⟩ ?_
  exact ⟨hz, its', _, hv, q⟩
theorem Inv.lnew {its : List Value} {t' : Nat} (I : Inv X pins σ H s) (hv : Vals ys its) (hz : ys.length ≤ sizeLine) :
    Inv X pins σ (upd H s.heap.objs.size (.lst ys)) { s with heap := s.heap.push { cls := .type "list", data := .seq its.toArray }, toks := t' } :=
  I.laid (fun _ _ q => Heap.get?_push_of_some _ q) (Nat.le_refl _) ⟨hz, its, 0, hv, Heap.get?_push_size _ rfl⟩
theorem Inv.fresh (I : Inv X pins σ H s) : H s.heap.objs.size = none := I.hok.fresh (Nat.le_refl _)
theorem Inv.lstM (I : Inv X pins σ H s) (hH : H l = some (.lst xs)) : xs.length ≤ sizeLine ∧ ∃ (its : List Value) (n : Nat), Vals xs its ∧ xs.length = its.length ∧ s.heap.get? l = some { cls := .type "list", data := .seq its.toArray n } := by
  obtain ⟨z, its, n, r, e⟩ := I.hok l _ hH
  exact ⟨z, its, n, r, r.length, e⟩

theorem notLongL {n : Nat} (h : n ≤ sizeLine) : Builtin.List.listTooLong n = false := by
  unfold Builtin.List.listTooLong
  exact decide_eq_false (by omega)
end

section
variable {X : Cx}

/-! ### methods -/
def rAppend : V → List V → Hp → VK → Prop := fun x vs H Q => ∃ l xs y, x = .ref l ∧ vs = [y] ∧ H l = some (.lst xs) ∧ xs.length < sizeLine ∧ Q .non (upd H l (.lst (xs ++ [y])))
theorem mt_append : MtM X "list.append" rAppend := by
  intro pins s σ H x vs v us Q I rx rv h
  obtain ⟨l, xs, y, rfl, rfl, hH, hz, q⟩ := h
  cases rx
  obtain ⟨u, rfl, ru⟩ := rv.one
  obtain ⟨z, its, n, r, hl, e⟩ := I.lstM hH
  refine call_meets F.slot_list_append ⟨_, e, rfl⟩ F.entry_list_append (F.args_list_append_2 _ _) (PySem.list_append l its.toArray n u (by rw [List.size_toArray]; omega)) ⟨e, ?_⟩
  refine ⟨.non, _, I.lset (its' := its ++ [u]) hH e (by simp) (r.append (.cons ru .nil)) ?_, rfl, q⟩
  rw [List.length_append, List.length_singleton]
  omega

def rExtend : V → List V → Hp → VK → Prop := fun x vs H Q => ∃ l b xs zs, x = .ref l ∧ vs = [.ref b] ∧ H l = some (.lst xs) ∧ H b = some (.lst zs) ∧ xs.length + zs.length ≤ sizeLine ∧ Q .non (upd H l (.lst (xs ++ zs)))
def rPop : V → List V → Hp → VK → Prop := fun x vs H Q => ∃ l xs y, x = .ref l ∧ vs = [] ∧ H l = some (.lst xs) ∧ xs[xs.length - 1]? = some y ∧ Q y (upd H l (.lst xs.dropLast))
theorem mt_pop : MtM X "list.pop" rPop := by
  intro pins s σ H x vs v us Q I rx rv h
  obtain ⟨l, xs, y, rfl, rfl, hH, hy, q⟩ := h
  cases rx
  have hus := rv.zero
  subst hus
  obtain ⟨z, its, n, r, hl, e⟩ := I.lstM hH
  obtain ⟨u, hu, ru⟩ := r.get hy
  have hy' : its.toArray[its.toArray.size - 1]? = some u := by
    show its.toArray[its.length - 1]? = some u
    rw [← Array.getElem?_toList, ← hl]
    exact hu
  refine call_meets F.slot_list_pop ⟨_, e, rfl⟩ F.entry_list_pop (F.args_list_pop_1 _) (MeetsSeq.list_pop_last l its.toArray n u hy' (by rw [List.size_toArray]; omega)) ⟨e, ?_⟩
  refine ⟨y, _, I.lset (its' := its.dropLast) hH e ?_ r.dropLast ?_, ru, q⟩
  · show its.toArray.eraseIdxIfInBounds (its.toArray.size - 1) = its.dropLast.toArray
    rw [List.size_toArray, List.eraseIdxIfInBounds_toArray, erase_last]
  · rw [List.length_dropLast]
    omega

def rPopAt : V → List V → Hp → VK → Prop := fun x vs H Q => ∃ l xs i k y, x = .ref l ∧ vs = [.int i] ∧ H l = some (.lst xs) ∧ -(2 ^ 63) ≤ i ∧ i < 2 ^ 63 ∧ seqIndex? i xs.length = some k ∧ xs[k]? = some y ∧ Q y (upd H l (.lst (xs.eraseIdx k)))
def rReverse : V → List V → Hp → VK → Prop := fun x vs H Q => ∃ l xs, x = .ref l ∧ vs = [] ∧ H l = some (.lst xs) ∧ Q .non (upd H l (.lst xs.reverse))
def rClear : V → List V → Hp → VK → Prop := fun x vs H Q => ∃ l xs, x = .ref l ∧ vs = [] ∧ H l = some (.lst xs) ∧ Q .non (upd H l (.lst []))
/-! ### list + list, list += list, list * int -/
def rCat : R2 := fun x y H Q => ∃ l b xs zs, x = .ref l ∧ y = .ref b ∧ H l = some (.lst xs) ∧ H b = some (.lst zs) ∧ xs.length + zs.length ≤ sizeLine ∧ ∀ p, H p = none → Q (.ref p) (upd H p (.lst (xs ++ zs)))
/-- a list times an int (a negative one is nothing) -/
def rRep : R2 := fun x y H Q => ∃ l k xs, x = .ref l ∧ y = .int k ∧ H l = some (.lst xs) ∧ -(2 ^ 63) ≤ k ∧ k < 2 ^ 63 ∧ xs.length * k.toNat ≤ sizeLine ∧
  ∀ p, H p = none → Q (.ref p) (upd H p (.lst (List.replicate k.toNat xs).flatten))
theorem len_rep {α : Type} (xs : List α) (k : Nat) : (List.replicate k xs).flatten.length = k * xs.length := by
  induction k with
  | zero => simp
  | succ k ih => rw [List.replicate_succ, List.flatten_cons, List.length_append, ih, Nat.succ_mul, Nat.add_comm]
theorem op_rep : OpR X (binaryOp .Mult) rRep := by
  intro pins s σ H x y v u Q I rx ry h
  obtain ⟨l, k, xs, rfl, rfl, hH, h1, h2, hz, q⟩ := h
  cases rx
  obtain ⟨t, rfl⟩ := ry
  obtain ⟨z, its, n, r, hl, e⟩ := I.lstM hH
  have hlen : its.toArray.size * k.toNat ≤ sizeLine := by rw [List.size_toArray, ← hl]; exact hz
  have hcap : ¬ its.toArray.size * k.toNat > (2 ^ 63 - 1) / 8 := by
    have : (sizeLine : Nat) ≤ (2 ^ 63 - 1) / 8 := by decide
    omega
  have hfit : ¬ (!Builtin.List.listFitsIndex k) = true := by
    rw [fitsIndex_both h1 h2]
    exact Bool.false_ne_true
  have hlong : ¬ Builtin.List.listTooLong (its.toArray.size * k.toNat) = true := by
    rw [notLongL hlen]
    exact Bool.false_ne_true
  have hnew : List.foldl (fun x1 x2 => x1 ++ x2) #[] (List.replicate (if its.toArray.isEmpty = true then 0 else k.toNat) its.toArray) = (List.replicate k.toNat its).flatten.toArray := by
    have f0 : ∀ m : Nat, List.foldl (fun x1 x2 => x1 ++ x2) #[] (List.replicate m its.toArray) = (List.replicate m its).flatten.toArray := fun m => by
      have := foldl_rep its m []
      rw [List.nil_append] at this
      exact this
    rw [f0]
    cases its with
    | nil => simp
    | cons a r' => rw [if_neg (by simp)]
  refine wpAny_binaryOp_repeat_ref (T := "list") (U := "int") (by decide) ⟨_, e, rfl⟩ (fun s' => typeIs_int s' k t) noFill_list_mul F.fills_int_mul F.slot_int_rmul repeat_list F.slot_int_index.lookup
    (call_meets F.slot_int_rmul (typeIs_int s k t) F.entry_int_rmul (F.args_int_rmul_2 _ _) (int___rmul___int_list k t l its.toArray n)
      ⟨e, rfl, ⟨_, e, rfl⟩, call_meets F.slot_list_mul ⟨_, e, rfl⟩ F.entry_list_mul (F.args_list_mul_2 _ _) (AutoListH.list___mul___list_int_3 l its.toArray n k t hfit hcap hlong) ⟨e, ?_⟩⟩)
  rw [hnew]
  exact ⟨.ref _, _, I.lnew (t' := s.toks) (r.rep k.toNat) (by rw [len_rep, Nat.mul_comm]; exact hz), rfl, q _ I.fresh⟩

/-! ### del xs[i] -/
end

/-! ### xs[a:b] = ys -/
section
variable {prog : Program} {w : World} {A : Around} {E : Value → Shared → Prop} {s : Shared}
end

section
variable {X : Cx}
end
end L2

namespace Att
open PySem PySem.W PySem.Calls PyProof.Rows

/-! ### the script -/
theorem ints_of_wellAll {P : Params} {h : Heap} : ∀ (ns : List Int) (vs : List Value), WellAll P h vs (ns.map WData.int) → IntsAre vs ns := by
  intro ns
  induction ns with
  | nil =>
    intro vs w
    rw [List.map_nil] at w
    cases w
    exact .nil
  | cons n ns ih =>
    intro vs w
    rw [List.map_cons] at w
    cases w with
    | cons a b =>
      cases a
      exact .cons _ _ (ih _ b)

theorem script_of {l : OpenLaw} {n : Nat} (hn : l.most = some n) {P : Params} {h : Heap} {args : List WData} {vals : List Value}
    (hpre : l.row.toRowW.claim.pre args = true) (hwl : WellAll P h vals args) :
    ∃ a vs ns, vals = [Value.ref a] ∧ args = [WData.list (ns.map WData.int)] ∧ h.get? a = some { cls := .type "list", data := .seq vs.toArray } ∧ IntsAre vs ns ∧ ns.length ≤ n := by
  have hsh : WShape.hasAll [] args [.list .int] = true := (pre_splitW hpre).1
  have hc : l.pre.holds [] { args := args } = true := (pre_splitW hpre).2
  obtain ⟨d, r, rfl, h1, h2⟩ := hasAllW_cons hsh
  obtain rfl := hasAllW_nil h2
  obtain ⟨xs, rfl, h3⟩ := hasW_list h1
  obtain ⟨ns, rfl⟩ := items_int h3
  have hlen : ns.length ≤ n := by
    unfold OpenLaw.pre at hc
    have h4 : (WTm.not (.lt (.lit (.int (n : Int))) (.len (.arg 0)))).holds [] { args := [.list (ns.map .int)] } = true := by
      have h4 := (holds_andW hc).1
      rw [hn] at h4
      exact h4
    have h5 := condW_of h4 (w_not (w_lt w_lit (w_len_list (w_arg rfl))))
    rw [List.length_map] at h5
    refine Nat.le_of_not_lt fun q => ?_
    have q' : (n : Int) < ((ns.length : Nat) : Int) := by omega
    first
      | (rw [decide_eq_true q'] at h5; exact absurd h5 (by decide))
      | (simp at h5; omega)
  cases hwl with
  | cons w1 w2 =>
    cases w2
    cases w1 with
    | list ho hall => exact ⟨_, _, ns, rfl, rfl, ho, ints_of_wellAll ns _ hall, hlen⟩

theorem post_true (l : OpenLaw) (args : List WData) : l.row.toRowW.claim.post args (.bool true) args = true :=
  postW_of (r := l.row.toRowW) (X := (true == true))
    (show WShape.has [] (.bool true) .bool = true by first | rfl | decide | simp [WShape.has, WShape.arms, WShape.armsAll])
    (show (WTm.eq .res (.lit (.bool true))).value [] { args := args, res := some (.bool true), after := args } = some (.bool (true == true)) from w_eq_bool (w_res rfl) w_lit) rfl

/-! ### the attachment: holds_open's last premise (the goal 'hc' behind k_head) from a wpAny of the law's body -/
/-- the same from a codeAny of the CALL (for a layer whose function contracts speak of calls) -/
theorem attach_call {l : OpenLaw} {n : Nat} {q : Program} {loose : List Str} {XP : (Str → Option Value) → Heap → Prop} {YP : World → Heap → Prop} {d : DefRec}
    (hn : l.most = some n) (hdf : d.params.defaults = [])
    (call : ∀ (w : World) (s₀ s₁ : Shared) (mg mb : Str → Option Value) (fa : Addr) (o : Obj) (pm cd doc : Value) (a : Addr) (vs : List Value) (ns : List Int),
      Ground q loose [] XP w s₀ mg mb s₁.heap → YP w s₁.heap →
      s₁.heap.get? fa = some o → o.data = .func (docDef d.name d.params d.body d.scope pm cd doc) → s₁.heap.CodeRec cd d.name → mg d.name = some (.ref fa) →
      s₁.heap.get? a = some { cls := .type "list", data := .seq vs.toArray } → IntsAre vs ns → ns.length ≤ n → s₁.gens = #[] →
      codeAny (model l.prog w) callerA (.call (.ref fa) ⟨[.ref a], []⟩) (fun r s' => r = .ok (.ret (.bool true)) ∧ OldK s₁.heap s'.heap ∧ s'.os = s₁.os ∧ AllBare s'.gens) s₁) :
    WalkO q loose XP YP l.row.toRowW d [] (fun f vs => PySem.call f vs) := by
  intro w s₀ s₁ mg mb G Y fa o pm cd doc dV kV ho hd hcd hD hmg hg args vals as hpre hlay hrd hwl hlo
  obtain rfl : dV = .none := Dflts.none hD hdf
  obtain rfl : kV = .none := Dflts.noKw hD
  obtain ⟨a, vs, ns, rfl, rfl, hobj, hints, hlen⟩ := script_of hn hpre hwl
  refine enter_call (codeAny_mono (call w s₀ s₁ mg mb fa o pm cd doc a vs ns G Y ho (fd_plain hd) hcd hmg hobj hints hlen hg) fun r s' hq => ?_)
  obtain ⟨rfl, h2, h3, h4⟩ := hq
  exact ⟨.inl ⟨.bool true, .bool true, [], rfl, fun _ => rfl, .bool true, post_true l _, fun _ => ⟨List.Pairwise.nil, fun _ hm => (nomatch hm)⟩⟩, h2, h3, h4⟩

/-! ### rules over ANY heap (no ledger) from facts about the written part K: the library's own take a ledger (News) for what they write -/
section
variable {prog : Program} {w : World} {A : Around} {E : Value → Shared → Prop} {s : Shared} {K : Frag}

/-! the whole heap as the ledger: makes every rule that writes through a ledger a rule over any heap -/
def noObjs (h : Heap) : Heap := { h with objs := #[] }
def ledger (h : Heap) (L d : Addr) : List (Addr × Obj) := (List.range h.objs.size).filterMap fun a => if a = L ∨ a = d then none else (h.get? a).map fun o => (a, o)
end
end Att

namespace L2
open PySem PySem.Spec PyProof.Rows

theorem vals_ints : ∀ {vs : List Value} {ns : List Int}, IntsAre vs ns → Vals (ns.map V.int) vs
  | _, _, .nil => .nil
  | _, _, .cons n t h => .cons ⟨t, rfl⟩ (vals_ints h)

/-- nothing is tracked but the script, known to the object (or it is an object of the module) -/
def Only (H : Hp) : Prop := ∀ b, H b = none ∨ ∃ o xs, H b = some (.frz o (.lst xs))

/-- THE HEAD: the law's promise, at the heap behind the top. F, the promise of the law's def, may use that base is part of the heap (so K.In base, base.Ns mainGlobals mg stand in Mod) -/
theorem law_call {P : Program} {w : World} {K : PySem.W.Frag} {mg mb : Str → Option Value} {CX : CXT} {k : Nat} {fa a : Addr} {fd : FuncData} {x : Str} {sp : Sp} {s₁ : Shared} {vs : List Value} {ns : List Int}
    (KX : K.In s₁.heap) (hns : s₁.heap.Ns mainGlobals mg) (hb : s₁.heap.Ns builtinsNs mb) (hbb : ∀ x : Str, x ≠ "__name__" → mb x = bootBuiltins x) (hlim : s₁.heap.NoLimit) (hseer : s₁.heap.NoSeer) (hg : s₁.gens = #[])
    (ha : s₁.heap.get? a = some { cls := .type "list", data := .seq vs.toArray }) (hi : IntsAre vs ns) (hl : ns.length ≤ sizeLine) (hr : Room k callerA)
    (F : ∀ base : Heap, K.In base → base.Ns mainGlobals mg → FnOk P w K mg base CX k fa fd [x] sp) (hbind : ∀ (s : Shared) (u : Value), BindsTo s fd ⟨[u], []⟩ [(x, u)])
    (hsp : ∀ H : Hp, Only H → SqL K H a (ns.map V.int) → sp [.ref a] H (fun v _ => v = .bl true) fun _ _ _ => False)
    (hCX : ∀ H e s', CX [] H s₁ (fun _ _ _ => False) e s' → False) :
    codeAny (model P w) callerA (.call (.ref fa) ⟨[.ref a], []⟩) (fun r s' => r = .ok (.ret (.bool true)) ∧ OldK s₁.heap s'.heap ∧ s'.os = s₁.os ∧ AllBare s'.gens) s₁ := by
  have rv := vals_ints hi
  have lenV := hi.length
  -- from an abstract heap in which nothing but the script may be tracked
  have core : ∀ H : Hp, Only H → SqL K H a (ns.map V.int) → HOk P w H s₁.heap → (∀ b, H b ≠ none → b = a) → (H a ≠ none → K.lookup a = none) →
      codeAny (model P w) callerA (.call (.ref fa) ⟨[.ref a], []⟩) (fun r s' => r = .ok (.ret (.bool true)) ∧ OldK s₁.heap s'.heap ∧ s'.os = s₁.os ∧ AllBare s'.gens) s₁ := by
    intro H hO hS hok hA hK
    have base_of : ∀ {b : Addr} {o : Obj}, s₁.heap.get? b = some o → H b = none → (hidT s₁.heap H).get? b = some o := fun e n => hidT_get e n
    have noA : ∀ {b : Addr} {o : Obj} {es : Array DictEntry} {ep : Nat}, s₁.heap.get? b = some o → o.data = .dict es ep → H b = none := fun {b o es ep} e d => by
      cases q : H b with
      | none => rfl
      | some u =>
        have e' : b = a := hA b (by rw [q]; simp)
        subst e'
        rw [ha] at e; cases e
        have d' : Data.seq vs.toArray _ = Data.dict es ep := d
        cases d'
    have nsK : ∀ {b : Addr} {m : Str → Option Value}, s₁.heap.Ns b m → (hidT s₁.heap H).Ns b m := fun {b m} ⟨o, es, ep, e, d, r⟩ => ⟨o, es, ep, base_of e (noA e d), d, r⟩
    have hKb : K.In (hidT s₁.heap H) := fun b o e => base_of (KX b o e) (by
      cases q : H b with
      | none => rfl
      | some u =>
        have e' : b = a := hA b (by rw [q]; simp)
        subst e'
        rw [hK (by rw [q]; simp)] at e; cases e)
    have hSeer : (hidT s₁.heap H).NoSeer := {
      statics := let ⟨mc, a1, b1⟩ := hseer.statics; ⟨mc, nsK a1, b1⟩
      mods := let ⟨mc, a1, b1⟩ := hseer.mods; ⟨mc, nsK a1, b1⟩
      imp := let ⟨mc, a1, b1⟩ := hseer.imp; ⟨mc, nsK a1, b1⟩
      main := let ⟨mg', bm, ob, a1, b1, c1, d1, e1⟩ := hseer.main; ⟨mg', bm, ob, nsK a1, b1, base_of c1 (by
        cases q : H bm with
        | none => rfl
        | some u =>
          have e' : bm = a := hA bm (by rw [q]; simp)
          subst e'
          rw [ha] at c1; cases c1
          injection d1 with d2
          exact absurd d2 (by decide)), d1, e1⟩ }
    have hM : Mod K mg (hidT s₁.heap H) := ⟨hKb, nsK hns, ⟨mb, nsK hb, hbb⟩, let ⟨mc, h1, h2⟩ := hlim; ⟨mc, nsK h1, h2⟩, hSeer⟩
    have e0 : Env0 P w K mg (hidT s₁.heap H) callerA [] s₁ H := ⟨rfl, hM, fun b o e => of_hidT e, Nat.le_of_eq (hidT_size _ _), trivial, fun b hb => absurd (show b ∈ ([] : List Addr) from hb) (by simp), hok, .of_eq hg⟩
    refine codeAny_mono ((F _ hKb (nsK hns)).run callerA [] s₁ H ⟨[.ref a], []⟩ [.ref a] [.ref a] _ _ hr e0 (hbind s₁ (.ref a)) (.cons rfl .nil) (hsp H hO hS)) fun r s' h => ?_
    cases r with
    | error e => exact (hCX H e s' h).elim
    | ok fl =>
      cases fl with
      | next => exact False.elim h
      | brk => exact False.elim h
      | cont => exact False.elim h
      | ret u =>
        obtain ⟨v, H', os, bare, un, hok', r', q⟩ := h
        have q' : v = .bl true := q
        subst q'
        obtain rfl : u = Value.bool true := r'
        refine ⟨rfl, OldK.of_keep fun b o e => ?_, os, bare⟩
        cases q : H b with
        | none => exact un.keep b o e q (by intro z; exact absurd (show b ∈ ([] : List Addr) from z) (by simp)) (by simp)
        | some u =>
          rcases hO b with z | ⟨ob, xs, z⟩
          · rw [q] at z; cases z
          · have z2 := un.frzs b ob _ z
            obtain ⟨e1, _⟩ := hok b _ z
            obtain ⟨e2, _⟩ := hok' b _ z2
            rw [e] at e1; cases e1
            exact e2
  cases hk : K.lookup a with
  | some o =>
    -- the script is one of the module's own objects
    have e := KX a o hk
    rw [ha] at e
    cases e
    refine core (fun _ => none) (fun _ => .inl rfl) (.inr ⟨_, vs.toArray, _, hk, rfl, rfl, rfl, by rw [List.size_toArray, lenV]; exact hl, by simpa using rv⟩) (fun b u z => by have z' : (none : Option HO) = some u := z; cases z') (fun b z => absurd rfl z) fun z => absurd rfl z
  | none =>
    refine core (fun b => if b = a then some (.frz { cls := .type "list", data := .seq vs.toArray } (.lst (ns.map V.int))) else none) (fun b => ?_) (.inl (.inr ⟨{ cls := .type "list", data := .seq vs.toArray }, if_pos rfl⟩)) (fun b u z => ?_) (fun b z => ?_) fun _ => hk
    · by_cases hb : b = a
      · exact .inr ⟨_, _, if_pos hb⟩
      · exact .inl (if_neg hb)
    · by_cases hb : b = a
      · have z' := (if_pos hb).symm.trans z
        cases z'
        subst hb
        exact ⟨ha, by rw [List.length_map]; exact hl, vs, _, rv, ha⟩
      · have z' := (if_neg hb).symm.trans z
        cases z'
    · by_cases hb : b = a
      · exact hb
      · exact absurd (if_neg hb) z
end L2

namespace L2
open PySem PySem.Spec PyProof.Rows

abbrev KOf {K : PySem.W.Frag} {h : Heap} (_ : K.In h) : PySem.W.Frag := K

/-- the goal that k_head leaves (case hc), from the law's promise. F gives the function object fd (K's own) once, then the promise over every base -/
theorem walk_of {l : PySem.W.OpenLaw} {n k : Nat} {q : Program} {loose : List Str} {XP : (Str → Option Value) → Heap → Prop} {YP : World → Heap → Prop} {d : DefRec} {K : Params → PySem.W.Frag} {CX : World → CXT} {sp : World → Sp} {x : Str}
    (hq : importsNone q = true) (hn : l.most = some n) (hn2 : n ≤ sizeLine) (hdf : d.params.defaults = []) (hr : Room k callerA)
    (hY : ∀ (w : World) (h : Heap), YP w h → (K w.params).In h)
    (F : ∀ (w : World) (mg : Str → Option Value) (fa : Addr) (h : Heap), (K w.params).In h → h.Ns mainGlobals mg → mg d.name = some (.ref fa) →
      ∃ fd : FuncData, (∀ (s : Shared) (u : Value), BindsTo s fd ⟨[u], []⟩ [(x, u)]) ∧
        ∀ base : Heap, (K w.params).In base → base.Ns mainGlobals mg → FnOk l.prog w (K w.params) mg base (CX w) k fa fd [x] (sp w))
    (hsp : ∀ (w : World) (H : Hp) (a : Addr) (ns : List Int), ns.length ≤ n → Only H → SqL (K w.params) H a (ns.map V.int) → sp w [.ref a] H (fun v _ => v = .bl true) fun _ _ _ => False)
    (hCX : ∀ (w : World) (H : Hp) (s : Shared) (e : Value) (s' : Shared), CX w [] H s (fun _ _ _ => False) e s' → False) :
    PySem.W.WalkO q loose XP YP l.row.toRowW d [] (fun f vs => PySem.call f vs) := by
  refine Att.attach_call hn hdf fun w s₀ s₁ mg mb fa o pm cd doc a vs ns G Y ho hd hcd hmg hobj hints hlen hg => ?_
  have KX := hY w _ Y
  obtain ⟨fd, hb, hF⟩ := F w mg fa _ KX G.T.g hmg
  exact law_call KX G.T.g G.T.b G.T.builtins G.T.nolimit (G.T.seer hq) hg hobj hints (Nat.le_trans hlen hn2) hr hF hb (fun H hO hS => hsp w H a ns hlen hO hS) fun H e s' => hCX w H s₁ e s'
end L2

/- THE LAST THEOREM (shape; LID, My.* are yours):
   My.Adr: a structure of the addresses that your layer names (classes, functions); My.Txt K t: a structure (Prop) of the equations over K;
   My.txt_mk : {K} {implicit addresses ..} (e1 : nsIn K mainGlobals "law" = some (some (.ref f))) (e2 : K.lookup f = some ⟨oc, od, .func (fnOf "law" "law" params body scope dV kV doc pm an cdv ct), sl⟩) (e3 : codeIn K cdv "law" = true) .. : ∃ t, My.Txt K t

(the tactic k_is has no namespace: write k_is) -/

/-! SHORT WORDS over the layer: a def of the text, its body, what a loop and a test want. -/
namespace L2
open PySem PySem.Spec PyProof.Rows

/-! ### the text by places -/
/-- the j-th statement of a class's body -/
def inClass (s : Stmt) (j : Nat) : Stmt := match s with
  | .ClassDef _ _ _ body _ _ _ _ _ _ _ => body.getD j (.Pass ⟨0, 0, 0, 0⟩)
  | _ => .Pass ⟨0, 0, 0, 0⟩
def defArgs (s : Stmt) : Arguments := match s with
  | .FunctionDef _ a _ _ _ _ _ _ _ _ => a
  | _ => { posonlyargs := [], args := [], vararg := none, kwonlyargs := [], kw_defaults := [], kwarg := none, defaults := [] }
def defBody (s : Stmt) : List Stmt := match s with
  | .FunctionDef _ _ b _ _ _ _ _ _ _ => b
  | _ => []
def defScope (s : Stmt) : Scope := match s with
  | .FunctionDef _ _ _ _ _ _ sc _ _ _ => sc
  | _ => { kind := .function, names := [], isGenerator := false, isCoroutine := false }

/-! ### no exception leaves a def -/
abbrev CX0 : CXT := fun _ _ _ _ _ _ => False
abbrev E0 : XK := fun _ _ _ => False
theorem pass0 {X : Cx} : Passes CX0 X E0 := fun _ _ _ _ _ _ _ h => h.elim

/-! ### a def (or method) of the text as it stands behind the top -/
structure Fun (K : PySem.W.Frag) (x qual : Str) (st : Stmt) (f : Addr) (fd : FuncData) : Prop where
  ex : ∃ (oc : Value) (od : Option Addr) (kV doc pm : Value) (an : Option Addr) (cdv ct : Value) (osl : Array (Option Value)),
    fd = PySem.W.fnOf x qual (defArgs st) (defBody st) (defScope st) .none kV doc pm an cdv ct ∧ K.lookup f = some ⟨oc, od, .func fd, osl⟩ ∧ PySem.W.codeIn K cdv qual = true
  kp : PySem.W.keepIn K (.ref f) = true
section
variable {P : Program} {w : World} {K : PySem.W.Frag} {mg : Str → Option Value} {base : Heap}
/-- THE RULE for a def: its body as a term of rules, and the reading of that term -/
theorem Fun.ok {x qual : Str} {st : Stmt} {f : Addr} {fd : FuncData} {N ps : List Str} {k : Nat} {sp : Sp} (F : Fun K x qual st f fd) (S : FnScope N ps (defScope st)) (len : ∀ vs H Q E, sp vs H Q E → vs.length = ps.length)
    (hbody : ∀ (cdv : Value) (A : Around) (outer : List Env) (s : Shared) (H : Hp) (vs : List V) (Q : VK) (E : XK), Room k (A.deeper (envOfC qual (defScope st) s.heap.objs.size f cdv)) → sp vs H Q E →
      ∃ t, PSs (cxOf CX0 P w K mg base N qual (defScope st) f cdv A outer s H E).nox (defBody st) t ∧ t { nx := fun _ H' => Q .non H', rt := Q } (start N vs) H) : FnOk P w K mg base CX0 (k + 1) f fd ps sp := by
  obtain ⟨oc, od, kV, doc, pm, an, cdv, ct, osl, rfl, lk, hcd⟩ := F.ex
  refine fn_of lk hcd S len fun A outer s H vs Q E hr hsp => ?_
  obtain ⟨t, h, q⟩ := hbody cdv A outer s H vs Q E hr hsp
  exact ⟨t, h.nox, q⟩
/-- how its arguments bind (no defaults): h is «fun _ _ _ _ _ _ us hl => match us, hl with | [_, _], _ => rfl», one _ a parameter -/
theorem Fun.binds {x qual : Str} {st : Stmt} {f : Addr} {fd : FuncData} {ps : List Str} (F : Fun K x qual st f fd)
    (h : ∀ (kV doc pm : Value) (an : Option Addr) (cdv ct : Value) (us : List Value), us.length = ps.length → bindArgs (PySem.W.fnOf x qual (defArgs st) (defBody st) (defScope st) .none kV doc pm an cdv ct) ⟨us, []⟩ = pure (ps.zip us)) : Binds K fd ps [] := by
  obtain ⟨oc, od, kV, doc, pm, an, cdv, ct, osl, rfl, lk, hcd⟩ := F.ex
  exact .all (h kV doc pm an cdv ct)
theorem fun_mk {x qual : Str} {st : Stmt} {f : Addr} {oc : Value} {od an : Option Addr} {osl : Array (Option Value)} {kV doc pm cdv ct : Value} (l : K.lookup f = some ⟨oc, od, .func (PySem.W.fnOf x qual (defArgs st) (defBody st) (defScope st) .none kV doc pm an cdv ct), osl⟩)
    (c : PySem.W.codeIn K cdv qual = true) (k : PySem.W.keepIn K (.ref f) = true) : Fun K x qual st f (PySem.W.fnOf x qual (defArgs st) (defBody st) (defScope st) .none kV doc pm an cdv ct) := ⟨⟨oc, od, kV, doc, pm, an, cdv, ct, osl, rfl, l, c⟩, k⟩
end
/-! ### expressions in short: the name that stands in the i-th slot -/
section
variable {X : Cx}
theorem pv (i : Nat) {x : Str} {pos : Pos} (hN : X.N[i]? = some x := by rfl) (hv : Vis X.env.scope x := by first | exact Or.inl rfl | exact Or.inr (Or.inl rfl) | exact Or.inr (Or.inr rfl)) (hd : (x == ("__debug__" : Str)) = false := by decide)
    (hcd : (x == ("__classdict__" : Str)) = false := by decide) : PE X (.Name x pos) (tVar i) := pe_var hN hv hd hcd
end

/-! ### tests -/
/-! ### heaps -/
/-- all that was tracked is as it was -/
def Same (H H' : Hp) : Prop := ∀ b o, H b = some o → H' b = some o
theorem Same.refl (H : Hp) : Same H H := fun _ _ h => h
theorem Same.trans {H H1 H2 : Hp} (a : Same H H1) (b : Same H1 H2) : Same H H2 := fun c o h => b c o (a c o h)
theorem Same.free {H H' : Hp} (e : Same H H') {l : Addr} (h : H' l = Option.none) : H l = Option.none := by
  cases q : H l with
  | none => rfl
  | some o =>
    rw [e l o q] at h
    cases h
theorem Same.seq {K : PySem.W.Frag} {H H' : Hp} {a : Addr} {xs : List V} (e : Same H H') (h : SqL K H a xs) : SqL K H' a xs := by
  rcases h with (h | ⟨o, h⟩) | h
  · exact .inl (.inl (e _ _ h))
  · exact .inl (.inr ⟨o, e _ _ h⟩)
  · exact .inr h

end L2

set_option linter.all false
set_option maxRecDepth 100000
/-! Plain data over the abstract heap: a frozen part F of the heap bears the values, lists of a def's own stand outside of it. -/
namespace L2.EV
open PySem PySem.Spec PyProof.Rows

inductive D where
  | non | bl (b : Bool) | int (i : Int) | str (x : Str) | tup (xs : List D) | lst (xs : List D) | scr (ns : List Int) | exc (C : Addr) | exh (C ea : Addr) | dic (kvs : List (List Int × Int))

/-- an exception of the class at C stands there, and bears no other one -/
def excAt (a C : Addr) : Heap → Prop := fun h => ∃ ob vs, h.get? a = some ob ∧ ob.cls = .ref C ∧ ob.data = .fields vs ∧ vs[2]? = some .none

/-- the object of a dict whose keys are tuples of ints at known addresses and whose values are ints -/
def dcObj (o : Obj) (xs : List (List Int × Addr × Int)) : Prop := o.ExactDict ∧ ∃ (es : Array DictEntry) (ep : Nat) (ys : List (List Int × Addr × Value)), o.data = .dict es ep ∧ (∀ (P : Program) (w : World), es.toList = ys.map (entryOfKey (tupleKind (intKind P w)))) ∧
  Paired (fun (x : List Int × Addr × Int) (y : List Int × Addr × Value) => y.1 = x.1 ∧ y.2.1 = x.2.1 ∧ RelV (.int x.2.2) y.2.2) xs ys ∧ (ys.map (·.1)).Nodup
def dcAt (a : Addr) (xs : List (List Int × Addr × Int)) : Heap → Prop := fun h => xs.length ≤ sizeLine ∧ (a == sysModules) = false ∧ ∃ o, h.get? a = some o ∧ dcObj o xs
/-- what it means: its keys stand frozen -/
def DicR (F : Hp) (kvs : List (List Int × Int)) (xs : List (List Int × Addr × Int)) : Prop := kvs = xs.map (fun x => (x.1, x.2.2)) ∧ ∀ x ∈ xs, F x.2.1 = some (.tup (x.1.map V.int))
theorem DicR.mono {F F' : Hp} {kvs : List (List Int × Int)} {xs : List (List Int × Addr × Int)} (h : Same F F') (r : DicR F kvs xs) : DicR F' kvs xs := ⟨r.1, fun x hx => h _ _ (r.2 x hx)⟩

mutual
inductive Rep (K : PySem.W.Frag) (F : Hp) : V → D → Prop where
  | non : Rep K F .non .non
  | bl (b : Bool) : Rep K F (.bl b) (.bl b)
  | int (i : Int) : Rep K F (.int i) (.int i)
  | str (x : Str) : Rep K F (.str x) (.str x)
  | tup {a : Addr} {vs : List V} {ds : List D} : F a = some (.tup vs) → RepL K F vs ds → Rep K F (.ref a) (.tup ds)
  | lst {a : Addr} {vs : List V} {ds : List D} : F a = some (.lst vs) → RepL K F vs ds → Rep K F (.ref a) (.lst ds)
  | scr {a : Addr} {ns : List Int} : SqL K F a (ns.map V.int) → Rep K F (.ref a) (.scr ns)
  | exc {a C : Addr} {ob : Obj} : F a = some (.frz ob (.ext (excAt a C))) → Rep K F (.ref a) (.exc C)
  | exh {a C : Addr} {ob : Obj} : F a = some (.frz ob (.ext (excAt a C))) → Rep K F (.ref a) (.exh C a)
  | dic {a : Addr} {ob : Obj} {kvs : List (List Int × Int)} {xs : List (List Int × Addr × Int)} : F a = some (.frz ob (.ext (dcAt a xs))) → DicR F kvs xs → Rep K F (.ref a) (.dic kvs)
inductive RepL (K : PySem.W.Frag) (F : Hp) : List V → List D → Prop where
  | nil : RepL K F [] []
  | cons {v : V} {d : D} {vs : List V} {ds : List D} : Rep K F v d → RepL K F vs ds → RepL K F (v :: vs) (d :: ds)
end

section
variable {K : PySem.W.Frag} {F F' : Hp}
mutual
theorem Rep.mono (h : Same F F') : ∀ {v : V} {d : D}, Rep K F v d → Rep K F' v d
  | _, _, .non => .non
  | _, _, .bl b => .bl b
  | _, _, .int i => .int i
  | _, _, .str x => .str x
  | _, _, .tup e r => .tup (h _ _ e) (RepL.mono h r)
  | _, _, .lst e r => .lst (h _ _ e) (RepL.mono h r)
  | _, _, .scr e => .scr (h.seq e)
  | _, _, .exc e => .exc (h _ _ e)
  | _, _, .exh e => .exh (h _ _ e)
  | _, _, .dic e r => .dic (h _ _ e) (r.mono h)
theorem RepL.mono (h : Same F F') : ∀ {vs : List V} {ds : List D}, RepL K F vs ds → RepL K F' vs ds
  | _, _, .nil => .nil
  | _, _, .cons r t => .cons (Rep.mono h r) (RepL.mono h t)
end
theorem RepL.length : ∀ {vs : List V} {ds : List D}, RepL K F vs ds → vs.length = ds.length
  | _, _, .nil => rfl
  | _, _, .cons _ t => congrArg Nat.succ (RepL.length t)
theorem RepL.get : ∀ {vs : List V} {ds : List D} {i : Nat} {d : D}, RepL K F vs ds → ds[i]? = some d → ∃ v, vs[i]? = some v ∧ Rep K F v d
  | _, _, _, _, .nil, e => by simp at e
  | _, _, 0, _, .cons r _, e => by simp at e; subst e; exact ⟨_, rfl, r⟩
  | _, _, i + 1, d, .cons _ t, e => by
    obtain ⟨v, h1, h2⟩ := RepL.get (i := i) (d := d) t (by simpa using e)
    exact ⟨v, by simpa using h1, h2⟩
theorem RepL.append : ∀ {vs us : List V} {ds es : List D}, RepL K F vs ds → RepL K F us es → RepL K F (vs ++ us) (ds ++ es)
  | _, _, _, _, .nil, s => s
  | _, _, _, _, .cons r t, s => .cons r (RepL.append t s)
theorem RepL.take : ∀ {vs : List V} {ds : List D} (n : Nat), RepL K F vs ds → RepL K F (vs.take n) (ds.take n)
  | _, _, 0, _ => .nil
  | _, _, _ + 1, .nil => .nil
  | _, _, n + 1, .cons r t => .cons r (RepL.take n t)
theorem RepL.drop : ∀ {vs : List V} {ds : List D} (n : Nat), RepL K F vs ds → RepL K F (vs.drop n) (ds.drop n)
  | _, _, 0, r => r
  | _, _, _ + 1, .nil => .nil
  | _, _, n + 1, .cons _ t => RepL.drop n t
theorem RepL.set {v : V} {d : D} (r : Rep K F v d) : ∀ {vs : List V} {ds : List D} (i : Nat), RepL K F vs ds → RepL K F (vs.set i v) (ds.set i d)
  | _, _, _, .nil => .nil
  | _, _, 0, .cons _ t => .cons r t
  | _, _, i + 1, .cons q t => .cons q (RepL.set r i t)
theorem RepL.dropLast {vs : List V} {ds : List D} (h : RepL K F vs ds) : RepL K F vs.dropLast ds.dropLast := by
  rw [List.dropLast_eq_take, List.dropLast_eq_take, h.length]
  exact h.take _
theorem RepL.reverse : ∀ {vs : List V} {ds : List D}, RepL K F vs ds → RepL K F vs.reverse ds.reverse
  | _, _, .nil => .nil
  | _, _, .cons r t => by rw [List.reverse_cons, List.reverse_cons]; exact RepL.append (RepL.reverse t) (.cons r .nil)
theorem RepL.rep {vs : List V} {ds : List D} (h : RepL K F vs ds) : ∀ k : Nat, RepL K F (List.replicate k vs).flatten (List.replicate k ds).flatten
  | 0 => .nil
  | k + 1 => by
    rw [List.replicate_succ, List.replicate_succ, List.flatten_cons, List.flatten_cons]
    exact RepL.append h (RepL.rep h k)
theorem RepL.ints : ∀ ns : List Int, RepL K F (ns.map V.int) (ns.map D.int)
  | [] => .nil
  | n :: ns => .cons (.int n) (RepL.ints ns)
theorem RepL.of_ints : ∀ {ns : List Int} {vs : List V}, RepL K F vs (ns.map D.int) → vs = ns.map V.int
  | [], _, h => by cases h; rfl
  | n :: ns, _, h => by
    cases h with
    | cons r t => cases r; rw [List.map_cons, RepL.of_ints t]
end

/-- what stood at the def's entry -/
structure B0 where
  F : Hp
  H : Hp

structure Ext (B : B0) (F H : Hp) : Prop where
  sub : Same F H
  sh : Same B.H H
  sf : Same B.F F
  nw : ∀ a, F a ≠ none → B.F a ≠ none ∨ B.H a = none

/-- a name's state: nothing known, a value, a list of the def's own that it may change -/
inductive Sl where
  | un | val (d : D) | own (xs : List D) | dct (kvs : List (List Int × Int))

/-- dicts of the def's own -/
structure DOk (B : B0) (F H : Hp) (σ : St) (ρ : List Sl) : Prop where
  dcts : ∀ (i : Nat) kvs, ρ[i]? = some (.dct kvs) → ∃ a es, σ[i]? = some (some (.ref a)) ∧ H a = some (.ext (dcAt a es)) ∧ F a = none ∧ B.H a = none ∧ DicR F kvs es
  distD : ∀ (i j : Nat) xs ys a, ρ[i]? = some (.dct xs) → ρ[j]? = some (.dct ys) → σ[i]? = some (some (.ref a)) → σ[j]? = some (some (.ref a)) → i = j
theorem DOk.to {B : B0} {F F' H H' : Hp} {σ σ' : St} {ρ ρ' : List Sl} (k : DOk B F H σ ρ) (hF : Same F F') (hH : ∀ a φ, H a = some (.ext φ) → F a = none → B.H a = none → H' a = some (.ext φ) ∧ F' a = none)
    (hρ : ∀ (i : Nat) kvs, ρ'[i]? = some (.dct kvs) → ρ[i]? = some (.dct kvs) ∧ σ'[i]? = σ[i]?) : DOk B F' H' σ' ρ' := by
  refine ⟨fun i kvs e => ?_, fun i j xs ys a e1 e2 e3 e4 => ?_⟩
  · obtain ⟨q, z⟩ := hρ i kvs e
    obtain ⟨a, es, h1, h2, h3, h4, h5⟩ := k.dcts i kvs q
    obtain ⟨g1, g2⟩ := hH a _ h2 h3 h4
    exact ⟨a, es, z.trans h1, g1, g2, h4, h5.mono hF⟩
  · obtain ⟨q1, z1⟩ := hρ i xs e1
    obtain ⟨q2, z2⟩ := hρ j ys e2
    exact k.distD i j xs ys a q1 q2 (z1 ▸ e3) (z2 ▸ e4)
theorem set_dct {σ : St} {ρ : List Sl} {i : Nat} {v : Option V} {s : Sl} (hs : ∀ kvs, s ≠ .dct kvs) (j : Nat) (kvs : List (List Int × Int)) (h : (ρ.set i s)[j]? = some (.dct kvs)) : ρ[j]? = some (.dct kvs) ∧ (σ.set i v)[j]? = σ[j]? := by
  by_cases e : i = j
  · subst e
    rw [List.getElem?_set_self'] at h
    cases z : ρ[i]? with
    | none => rw [z] at h; cases h
    | some w => rw [z] at h; exact absurd (Option.some.inj h) (hs kvs)
  · rw [List.getElem?_set_ne e] at h ⊢
    exact ⟨h, rfl⟩
theorem set_dct' {σ : St} {ρ : List Sl} {i : Nat} {s : Sl} (hs : ∀ kvs, s ≠ .dct kvs) (j : Nat) (kvs : List (List Int × Int)) (h : (ρ.set i s)[j]? = some (.dct kvs)) : ρ[j]? = some (.dct kvs) ∧ σ[j]? = σ[j]? :=
  ⟨(set_dct (σ := []) (v := none) hs j kvs h).1, rfl⟩

structure Ok (K : PySem.W.Frag) (B : B0) (F H : Hp) (σ : St) (ρ : List Sl) : Prop extends Ext B F H where
  len : σ.length = ρ.length
  vals : ∀ (i : Nat) d, ρ[i]? = some (.val d) → ∃ v, σ[i]? = some (some v) ∧ Rep K F v d
  owns : ∀ (i : Nat) xs, ρ[i]? = some (.own xs) → ∃ a vs, σ[i]? = some (some (.ref a)) ∧ H a = some (.lst vs) ∧ F a = none ∧ B.H a = none ∧ RepL K F vs xs
  dist : ∀ (i j : Nat) xs ys a, ρ[i]? = some (.own xs) → ρ[j]? = some (.own ys) → σ[i]? = some (some (.ref a)) → σ[j]? = some (some (.ref a)) → i = j
  dic : DOk B F H σ ρ

theorem upd_sameOf {H : Hp} {p : Addr} {o : HO} (h : H p = none) : Same H (upd H p o) := fun b u q => by rw [upd_ne (ne_of_none q h)]; exact q
theorem upd_mono {F H : Hp} {p : Addr} {o : HO} (h : Same F H) : Same (upd F p o) (upd H p o) := fun b u q => by
  by_cases hb : b = p
  · subst hb; rw [upd_same] at q ⊢; exact q
  · rw [upd_ne hb] at q ⊢; exact h b u q

section
variable {K : PySem.W.Frag} {B : B0} {F H F' H' : Hp} {σ : St} {ρ : List Sl} {p : Addr} {o : HO}
theorem Ext.refl (h : Same F H) : Ext ⟨F, H⟩ F H := ⟨h, .refl _, .refl _, fun a q => .inl q⟩
theorem Ext.trans (x : Ext B F H) (y : Ext ⟨F, H⟩ F' H') : Ext B F' H' :=
  ⟨y.sub, x.sh.trans y.sh, x.sf.trans y.sf, fun a q => by
    rcases y.nw a q with z | z
    · exact x.nw a z
    · exact .inr (x.sh.free z)⟩
/-- a new object of the frozen part -/
theorem Ext.grow (x : Ext B F H) (hp : H p = none) : Ext B (upd F p o) (upd H p o) :=
  ⟨upd_mono x.sub, x.sh.trans (upd_sameOf hp), x.sf.trans (upd_sameOf (x.sub.free hp)), fun a q => by
    by_cases h : a = p
    · subst h; exact .inr (x.sh.free hp)
    · rw [upd_ne h] at q; exact x.nw a q⟩
/-- the heap goes on as Ext says -/
theorem Ok.ext (k : Ok K B F H σ ρ) (y : Ext ⟨F, H⟩ F' H') : Ok K B F' H' σ ρ := by
  refine ⟨k.toExt.trans y, k.len, fun i d e => ?_, fun i xs e => ?_, k.dist, k.dic.to y.sf (fun a φ e1 e2 e3 => ⟨y.sh _ _ e1, ?_⟩) fun _ _ e => ⟨e, rfl⟩⟩
  rotate_left 2
  · cases q : F' a with
    | none => rfl
    | some u =>
      rcases y.nw a (by rw [q]; exact fun z => nomatch z) with z | z
      · exact absurd e2 z
      · have z' : H a = none := z
        rw [e1] at z'; cases z'
  · obtain ⟨v, h1, h2⟩ := k.vals i d e
    exact ⟨v, h1, h2.mono y.sf⟩
  · obtain ⟨a, vs, h1, h2, h3, h4, h5⟩ := k.owns i xs e
    refine ⟨a, vs, h1, y.sh _ _ h2, ?_, h4, h5.mono y.sf⟩
    cases q : F' a with
    | none => rfl
    | some u =>
      rcases y.nw a (by rw [q]; exact fun z => nomatch z) with z | z
      · exact absurd h3 z
      · have z' : H a = none := z
        rw [h2] at z'; cases z'
/-- a new object outside of the frozen part -/
theorem Ok.growH (k : Ok K B F H σ ρ) (hp : H p = none) : Ok K B F (upd H p o) σ ρ :=
  k.ext ⟨k.sub.trans (upd_sameOf hp), upd_sameOf hp, .refl _, fun a q => .inl q⟩
/-- p stands in no own name -/
def NoOwn (σ : St) (ρ : List Sl) (p : Addr) : Prop := ∀ (i : Nat) xs, ρ[i]? = some (.own xs) → σ[i]? ≠ some (some (.ref p))
theorem Ok.noOwn (k : Ok K B F H σ ρ) (hp : H p = none) : NoOwn σ ρ p := fun i xs e q => by
  obtain ⟨a, vs, h1, h2, _⟩ := k.owns i xs e
  rw [h1] at q
  cases q
  rw [hp] at h2; cases h2
/-- a name is stored: a value -/
theorem Ok.setVal {v : V} {d : D} (k : Ok K B F H σ ρ) (i : Nat) (r : Rep K F v d) : Ok K B F H (σ.set i (some v)) (ρ.set i (.val d)) := by
  refine ⟨k.toExt, by rw [List.length_set, List.length_set, k.len], fun j e q => ?_, fun j xs q => ?_, fun j l xs ys a q1 q2 q3 q4 => ?_, k.dic.to (.refl _) (fun _ _ e1 e2 _ => ⟨e1, e2⟩) (set_dct fun _ z => nomatch z)⟩
  · by_cases h : i = j
    · subst h
      rw [List.getElem?_set_self'] at q
      cases z : ρ[i]? with
      | none => rw [z] at q; cases q
      | some w =>
        rw [z] at q; cases q
        have hi : i < σ.length := by rw [k.len]; exact (List.getElem?_eq_some_iff.mp z).1
        exact ⟨v, by rw [List.getElem?_set_self hi], r⟩
    · rw [List.getElem?_set_ne h] at q ⊢
      exact k.vals j e q
  · by_cases h : i = j
    · subst h
      rw [List.getElem?_set_self'] at q
      cases z : ρ[i]? with
      | none => rw [z] at q; cases q
      | some w => rw [z] at q; cases q
    · rw [List.getElem?_set_ne h] at q ⊢
      exact k.owns j xs q
  · have n1 : i ≠ j := by
      rintro rfl
      rw [List.getElem?_set_self'] at q1
      cases z : ρ[i]? with
      | none => rw [z] at q1; cases q1
      | some w => rw [z] at q1; cases q1
    have n2 : i ≠ l := by
      rintro rfl
      rw [List.getElem?_set_self'] at q2
      cases z : ρ[i]? with
      | none => rw [z] at q2; cases q2
      | some w => rw [z] at q2; cases q2
    rw [List.getElem?_set_ne n1] at q1 q3
    rw [List.getElem?_set_ne n2] at q2 q4
    exact k.dist j l xs ys a q1 q2 q3 q4
/-- a name is stored: a new list of one's own -/
theorem Ok.setOwn {vs : List V} {ds : List D} (k : Ok K B F H σ ρ) (i : Nat) (hp : H p = some (.lst vs)) (hf : F p = none) (hb : B.H p = none) (hn : NoOwn σ ρ p) (r : RepL K F vs ds) :
    Ok K B F H (σ.set i (some (.ref p))) (ρ.set i (.own ds)) := by
  refine ⟨k.toExt, by rw [List.length_set, List.length_set, k.len], fun j e q => ?_, fun j xs q => ?_, fun j l xs ys a q1 q2 q3 q4 => ?_, k.dic.to (.refl _) (fun _ _ e1 e2 _ => ⟨e1, e2⟩) (set_dct fun _ z => nomatch z)⟩
  · by_cases h : i = j
    · subst h
      rw [List.getElem?_set_self'] at q
      cases z : ρ[i]? with
      | none => rw [z] at q; cases q
      | some w => rw [z] at q; cases q
    · rw [List.getElem?_set_ne h] at q ⊢
      exact k.vals j e q
  · by_cases h : i = j
    · subst h
      rw [List.getElem?_set_self'] at q
      cases z : ρ[i]? with
      | none => rw [z] at q; cases q
      | some w =>
        rw [z] at q; cases q
        have hi : i < σ.length := by rw [k.len]; exact (List.getElem?_eq_some_iff.mp z).1
        exact ⟨p, vs, by rw [List.getElem?_set_self hi], hp, hf, hb, r⟩
    · rw [List.getElem?_set_ne h] at q ⊢
      exact k.owns j xs q
  · by_cases n1 : i = j
    · by_cases n2 : i = l
      · exact n1.symm.trans n2
      · subst n1
        rw [List.getElem?_set_ne n2] at q2 q4
        have hi : i < σ.length := by
          have := (List.getElem?_eq_some_iff.mp q3).1
          rw [List.length_set] at this; exact this
        rw [List.getElem?_set_self hi] at q3
        cases q3
        exact absurd q4 (hn l ys q2)
    · by_cases n2 : i = l
      · subst n2
        rw [List.getElem?_set_ne n1] at q1 q3
        have hi : i < σ.length := by
          have := (List.getElem?_eq_some_iff.mp q4).1
          rw [List.length_set] at this; exact this
        rw [List.getElem?_set_self hi] at q4
        cases q4
        exact absurd q3 (hn j xs q1)
      · rw [List.getElem?_set_ne n1] at q1 q3
        rw [List.getElem?_set_ne n2] at q2 q4
        exact k.dist j l xs ys a q1 q2 q3 q4
/-- a list of one's own is changed -/
theorem Ok.chgOwn {vs ws : List V} {xs ds : List D} {i : Nat} (k : Ok K B F H σ ρ) (hi : ρ[i]? = some (.own xs)) (hs : σ[i]? = some (some (.ref p))) (r : RepL K F ws ds) :
    Ok K B F (upd H p (.lst ws)) σ (ρ.set i (.own ds)) := by
  obtain ⟨a, us, h1, h2, h3, h4, h5⟩ := k.owns i xs hi
  rw [h1] at hs
  cases hs
  have hlt : i < ρ.length := (List.getElem?_eq_some_iff.mp hi).1
  refine ⟨⟨fun b u q => ?_, fun b u q => ?_, k.sf, k.nw⟩, by rw [List.length_set, k.len], fun j e q => ?_, fun j ys q => ?_, fun j l ys zs b q1 q2 q3 q4 => ?_, k.dic.to (.refl _) (fun b φ e1 e2 _ => ⟨by rw [upd_ne (fun z => by subst z; rw [h2] at e1; cases e1)]; exact e1, e2⟩) (set_dct' fun _ z => nomatch z)⟩
  · have ne : b ≠ p := fun z => by subst z; rw [h3] at q; cases q
    rw [upd_ne ne]; exact k.sub b u q
  · have ne : b ≠ p := fun z => by subst z; rw [h4] at q; cases q
    rw [upd_ne ne]; exact k.sh b u q
  · by_cases h : i = j
    · subst h
      rw [List.getElem?_set_self hlt] at q; cases q
    · rw [List.getElem?_set_ne h] at q
      exact k.vals j e q
  · by_cases h : i = j
    · subst h
      rw [List.getElem?_set_self hlt] at q; cases q
      exact ⟨p, ws, h1, upd_same, h3, h4, r⟩
    · rw [List.getElem?_set_ne h] at q
      obtain ⟨b, us', g1, g2, g3, g4, g5⟩ := k.owns j ys q
      have ne : b ≠ p := fun z => by subst z; exact h (k.dist i j xs ys b hi q h1 g1)
      exact ⟨b, us', g1, by rw [upd_ne ne]; exact g2, g3, g4, g5⟩
  · have own : ∀ (m : Nat) ys, (ρ.set i (.own ds))[m]? = some (.own ys) → ∃ zs, ρ[m]? = some (.own zs) := fun m ys q => by
      by_cases h : i = m
      · subst h; exact ⟨xs, hi⟩
      · rw [List.getElem?_set_ne h] at q; exact ⟨ys, q⟩
    obtain ⟨y1, z1⟩ := own j ys q1
    obtain ⟨y2, z2⟩ := own l zs q2
    exact k.dist j l _ _ b z1 z2 q3 q4
/-- the i-th name, a list of one's own, is frozen -/
theorem Ok.freezeAt {xs : List D} {i : Nat} (k : Ok K B F H σ ρ) (hi : ρ[i]? = some (.own xs)) : ∃ F', Same F F' ∧ Ok K B F' H σ (ρ.set i (.val (.lst xs))) := by
  obtain ⟨a, us, h1, h2, h3, h4, h5⟩ := k.owns i xs hi
  have hlt : i < ρ.length := (List.getElem?_eq_some_iff.mp hi).1
  have sf : Same F (upd F a (.lst us)) := upd_sameOf h3
  have nown : ∀ (j : Nat) ys, (ρ.set i (.val (.lst xs)))[j]? = some (.own ys) → i ≠ j ∧ ρ[j]? = some (.own ys) := fun j ys q => by
    by_cases h : i = j
    · subst h; rw [List.getElem?_set_self hlt] at q; cases q
    · rw [List.getElem?_set_ne h] at q; exact ⟨h, q⟩
  refine ⟨upd F a (.lst us), sf, ⟨fun b u q => ?_, k.sh, k.sf.trans sf, fun b q => ?_⟩, by rw [List.length_set, k.len], fun j e q => ?_, fun j ys q => ?_, fun j l ys zs b q1 q2 q3 q4 => ?_, k.dic.to sf (fun b φ e1 e2 _ => ⟨e1, by rw [upd_ne (fun z => by subst z; rw [h2] at e1; cases e1)]; exact e2⟩) (set_dct' fun _ z => nomatch z)⟩
  · by_cases h : b = a
    · subst h; rw [upd_same] at q; cases q; exact h2
    · rw [upd_ne h] at q; exact k.sub b u q
  · by_cases h : b = a
    · subst h; exact .inr h4
    · rw [upd_ne h] at q; exact k.nw b q
  · by_cases h : i = j
    · subst h
      rw [List.getElem?_set_self hlt] at q; cases q
      exact ⟨_, h1, .lst upd_same (h5.mono sf)⟩
    · rw [List.getElem?_set_ne h] at q
      obtain ⟨v, g1, g2⟩ := k.vals j e q
      exact ⟨v, g1, g2.mono sf⟩
  · obtain ⟨h, q⟩ := nown j ys q
    obtain ⟨b, us', g1, g2, g3, g4, g5⟩ := k.owns j ys q
    have ne : b ≠ a := fun z => by subst z; exact h (k.dist i j xs ys b hi q h1 g1)
    exact ⟨b, us', g1, g2, by rw [upd_ne ne]; exact g3, g4, g5.mono sf⟩
  · exact k.dist j l _ _ b (nown j ys q1).2 (nown l zs q2).2 q3 q4
end
end L2.EV

set_option linter.all false
set_option autoImplicit false
set_option maxRecDepth 100000
namespace L2.EV
open PySem PySem.Spec PyProof.Rows

/-! ### what an expression, a test, a statement is worth: the plain wish itself -/
def wE (X : Cx) (e : Expr) : TE := fun σ H Q => ∀ (pins : List (Addr × Obj)) (s : Shared), Inv X pins σ H s → wpAny (model X.prog X.w) X.A (eval e X.env) (EP X pins σ Q) X.xe s
def wT (X : Cx) (e : Expr) : TT := fun σ H Q => ∀ (pins : List (Addr × Obj)) (s : Shared), Inv X pins σ H s → wpAny (model X.prog X.w) X.A (isTrue e X.env (eval e X.env)) (TP X pins σ Q) X.xe s
def wW (X : Cx) (e : Expr) : TT := fun σ H Q => ∀ (whole : Sem Value) (pins : List (Addr × Obj)) (s : Shared), Inv X pins σ H s → wpAny (model X.prog X.w) X.A (isTrue e X.env whole) (TP X pins σ Q) X.xe s
def wA (X : Cx) (es : List Expr) : TA := fun σ H Q => ∀ (pos : Pos) (pins : List (Addr × Obj)) (s : Shared), Inv X pins σ H s → wpAny (model X.prog X.w) X.A (spliced (backTo pos (starEach es X.env))) (AP X pins σ Q) X.xe s
def wS (X : Cx) (st : Stmt) : TS := fun D σ H => ∀ (pins : List (Addr × Obj)) (s : Shared), Inv X pins σ H s → wpAny (model X.prog X.w) X.A (exec st X.env) (SP X pins D) X.xe s
def wSs (X : Cx) (st : List Stmt) : TS := fun D σ H => ∀ (pins : List (Addr × Obj)) (s : Shared), Inv X pins σ H s → wpAny (model X.prog X.w) X.A (execs st X.env) (SP X pins D) X.xe s
def wO (X : Cx) (e : Option Expr) : TO := fun σ H Q => ∀ (pins : List (Addr × Obj)) (s : Shared), Inv X pins σ H s → wpAny (model X.prog X.w) X.A (evalPart e X.env) (fun u s' => ∃ o H', Inv X pins σ H' s' ∧ IsPart u o ∧ Q o H') X.xe s
def wG (X : Cx) (e : Expr) : TG := fun v σ H Q => ∀ (pins : List (Addr × Obj)) (s : Shared) (u : Value), Inv X pins σ H s → RelV v u → wpAny (model X.prog X.w) X.A (assign e X.env u) (fun _ s' => ∃ σ' H', Inv X pins σ' H' s' ∧ Q σ' H') X.xe s
section
variable {X : Cx} {e : Expr} {es : List Expr} {st : Stmt} {sts : List Stmt} {oe : Option Expr}
theorem pe_w : PE X e (wE X e) := fun pins s _ _ _ I h => h pins s I
theorem pt_w : PT X e (wT X e) := fun pins s _ _ _ I h => h pins s I
theorem pw_w : PW X e (wW X e) := fun wh pins s _ _ _ I h => h wh pins s I
theorem pa_w : PA X es (wA X es) := fun pos pins s _ _ _ I h => h pos pins s I
theorem ps_w : PS X st (wS X st) := fun pins s _ _ _ I h => h pins s I
theorem pss_w : PSs X sts (wSs X sts) := fun pins s _ _ _ I h => h pins s I
theorem po_w : PO X oe (wO X oe) := fun pins s _ _ _ I h => h pins s I
theorem pg_w : PG X e (wG X e) := fun pins s _ _ _ u _ I r h => h pins s u I r
end

/-! ### the judgements -/
abbrev Rho := List Sl
def EvE (X : Cx) (ρ : Rho) (e : Expr) (d : D) : Prop := ∀ (B : B0) (F H : Hp) (σ : St) (Q : VK), Ok X.K B F H σ ρ →
  (∀ v F' H', Ext ⟨F, H⟩ F' H' → Rep X.K F' v d → Q v H') → wE X e σ H Q
/-- a list that is new -/
def EvN (X : Cx) (ρ : Rho) (e : Expr) (xs : List D) : Prop := ∀ (B : B0) (F H : Hp) (σ : St) (Q : VK), Ok X.K B F H σ ρ →
  (∀ p vs F' H', Ext ⟨F, H⟩ F' H' → H p = none → H' p = some (.lst vs) → F' p = none → RepL X.K F' vs xs → Q (.ref p) H') → wE X e σ H Q
/-- a list (true) or a tuple (false) that is read -/
def SqB (K : PySem.W.Frag) (k : Bool) (H : Hp) (a : Addr) (vs : List V) : Prop := if k = true then SqL K H a vs else SqT K H a vs
def EvQ (X : Cx) (ρ : Rho) (e : Expr) (k : Bool) (xs : List D) : Prop := ∀ (B : B0) (F H : Hp) (σ : St) (Q : VK), Ok X.K B F H σ ρ →
  (∀ a vs F' H', Ext ⟨F, H⟩ F' H' → SqB X.K k H' a vs → RepL X.K F' vs xs → Q (.ref a) H') → wE X e σ H Q
def EvT (X : Cx) (ρ : Rho) (e : Expr) (b : Bool) : Prop := ∀ (B : B0) (F H : Hp) (σ : St) (Q : Bool → Hp → Prop), Ok X.K B F H σ ρ →
  (∀ F' H', Ext ⟨F, H⟩ F' H' → Q b H') → wT X e σ H Q
def EvW (X : Cx) (ρ : Rho) (e : Expr) (b : Bool) : Prop := ∀ (B : B0) (F H : Hp) (σ : St) (Q : Bool → Hp → Prop), Ok X.K B F H σ ρ →
  (∀ F' H', Ext ⟨F, H⟩ F' H' → Q b H') → wW X e σ H Q
/-- no starred argument -/
def Pl (e : Expr) : Prop := ∀ (es : List Expr) (env : Env), starEach (e :: es) env = (false, eval e env) :: starEach es env
def PlA : List Expr → Prop
  | [] => True
  | e :: es => Pl e ∧ PlA es
theorem PlA.any {env : Env} {pos : Pos} : ∀ {es : List Expr}, PlA es → (backTo pos (starEach es env)).any (·.1) = false
  | [], _ => rfl
  | e :: es, h => by
    rw [h.1 es env]
    show (false || (backTo pos (starEach es env)).any (·.1)) = false
    rw [PlA.any h.2]; rfl
def EvA (X : Cx) (ρ : Rho) (es : List Expr) (ds : List D) : Prop := PlA es ∧ ∀ (B : B0) (F H : Hp) (σ : St) (Q : List V → Hp → Prop), Ok X.K B F H σ ρ →
  (∀ vs F' H', Ext ⟨F, H⟩ F' H' → RepL X.K F' vs ds → Q vs H') → wA X es σ H Q
def EvO (X : Cx) (ρ : Rho) (e : Option Expr) (o : Option Int) : Prop := ∀ (B : B0) (F H : Hp) (σ : St) (Q : Option Int → Hp → Prop), Ok X.K B F H σ ρ →
  (∀ F' H', Ext ⟨F, H⟩ F' H' → Q o H') → wO X e σ H Q

inductive Out where
  | nx (ρ : Rho) | rt (d : D)
def Post (K : PySem.W.Frag) (B : B0) (F₀ : Hp) (E : Ends) : Out → Prop
  | .nx ρ => ∀ F H σ, Ok K B F H σ ρ → Same F₀ F → E.nx σ H
  | .rt d => ∀ v F H, Ext B F H → Rep K F v d → E.rt v H
theorem Post.later {K : PySem.W.Frag} {B : B0} {F₀ F₁ : Hp} {E : Ends} {o : Out} (h : Post K B F₀ E o) (s : Same F₀ F₁) : Post K B F₁ E o := by
  cases o with
  | nx ρ => exact fun F H σ k s' => h F H σ k (s.trans s')
  | rt d => exact h
def EvS (X : Cx) (ρ : Rho) (st : Stmt) (o : Out) : Prop := ∀ (B : B0) (F H : Hp) (σ : St) (E : Ends), Ok X.K B F H σ ρ → Post X.K B F E o → wS X st E σ H
def EvSs (X : Cx) (ρ : Rho) (sts : List Stmt) (o : Out) : Prop := ∀ (B : B0) (F H : Hp) (σ : St) (E : Ends), Ok X.K B F H σ ρ → Post X.K B F E o → wSs X sts E σ H
/-- a value is bound to a target -/
def EvG (X : Cx) (ρ : Rho) (tg : Expr) (d : D) (ρ' : Rho) : Prop := ∀ (B : B0) (F H : Hp) (σ : St) (v : V) (Q : St → Hp → Prop), Ok X.K B F H σ ρ → Rep X.K F v d →
  (∀ F' H' σ', Ok X.K B F' H' σ' ρ' → Same F F' → Q σ' H') → wG X tg v σ H Q

/-- a value is bound to names that are no lists of one's own; the heap stays -/
def EvGn (X : Cx) (ρ : Rho) (tg : Expr) (d : D) (ρ' : Rho) : Prop := ∀ (B : B0) (F H : Hp) (σ : St) (v : V) (Q : St → Hp → Prop), Ok X.K B F H σ ρ → Rep X.K F v d →
  (∀ σ', Ok X.K B F H σ' ρ' → (∀ p, NoOwn σ ρ p → NoOwn σ' ρ' p) → Q σ' H) → wG X tg v σ H Q
theorem Ext.t {F H F' H' F2 H2 : Hp} (x : Ext ⟨F, H⟩ F' H') (y : Ext ⟨F', H'⟩ F2 H2) : Ext ⟨F, H⟩ F2 H2 := x.trans y
section
variable {X : Cx} {ρ : Rho} {e a b c : Expr} {d : D} {pos : Pos}
theorem EvE.of {t : TE} (h : PE X e t) (r : ∀ (B : B0) (F H : Hp) (σ : St) (Q : VK), Ok X.K B F H σ ρ → (∀ v F' H', Ext ⟨F, H⟩ F' H' → Rep X.K F' v d → Q v H') → t σ H Q) : EvE X ρ e d :=
  fun B F H σ Q k q pins s I => h pins s σ H Q I (r B F H σ Q k q)
theorem EvN.of {t : TE} {xs : List D} (h : PE X e t) (r : ∀ (B : B0) (F H : Hp) (σ : St) (Q : VK), Ok X.K B F H σ ρ →
    (∀ p vs F' H', Ext ⟨F, H⟩ F' H' → H p = none → H' p = some (.lst vs) → F' p = none → RepL X.K F' vs xs → Q (.ref p) H') → t σ H Q) : EvN X ρ e xs :=
  fun B F H σ Q k q pins s I => h pins s σ H Q I (r B F H σ Q k q)
theorem EvQ.of {t : TE} {k : Bool} {xs : List D} (h : PE X e t) (r : ∀ (B : B0) (F H : Hp) (σ : St) (Q : VK), Ok X.K B F H σ ρ →
    (∀ a vs F' H', Ext ⟨F, H⟩ F' H' → SqB X.K k H' a vs → RepL X.K F' vs xs → Q (.ref a) H') → t σ H Q) : EvQ X ρ e k xs :=
  fun B F H σ Q k q pins s I => h pins s σ H Q I (r B F H σ Q k q)
theorem EvT.of {t : TT} {b : Bool} (h : PT X e t) (r : ∀ (B : B0) (F H : Hp) (σ : St) (Q : Bool → Hp → Prop), Ok X.K B F H σ ρ → (∀ F' H', Ext ⟨F, H⟩ F' H' → Q b H') → t σ H Q) : EvT X ρ e b :=
  fun B F H σ Q k q pins s I => h pins s σ H Q I (r B F H σ Q k q)
theorem EvW.of {t : TT} {b : Bool} (h : PW X e t) (r : ∀ (B : B0) (F H : Hp) (σ : St) (Q : Bool → Hp → Prop), Ok X.K B F H σ ρ → (∀ F' H', Ext ⟨F, H⟩ F' H' → Q b H') → t σ H Q) : EvW X ρ e b :=
  fun B F H σ Q k q wh pins s I => h wh pins s σ H Q I (r B F H σ Q k q)
theorem EvS.of {st : Stmt} {o : Out} {t : TS} (h : PS X st t) (r : ∀ (B : B0) (F H : Hp) (σ : St) (E : Ends), Ok X.K B F H σ ρ → Post X.K B F E o → t E σ H) : EvS X ρ st o :=
  fun B F H σ E k q pins s I => h pins s σ H E I (r B F H σ E k q)
theorem EvSs.of {sts : List Stmt} {o : Out} {t : TS} (h : PSs X sts t) (r : ∀ (B : B0) (F H : Hp) (σ : St) (E : Ends), Ok X.K B F H σ ρ → Post X.K B F E o → t E σ H) : EvSs X ρ sts o :=
  fun B F H σ E k q pins s I => h pins s σ H E I (r B F H σ E k q)
theorem EvG.of {ρ' : Rho} {t : TG} (h : PG X e t) (r : ∀ (B : B0) (F H : Hp) (σ : St) (v : V) (Q : St → Hp → Prop), Ok X.K B F H σ ρ → Rep X.K F v d → (∀ F' H' σ', Ok X.K B F' H' σ' ρ' → Same F F' → Q σ' H') → t v σ H Q) : EvG X ρ e d ρ' :=
  fun B F H σ v Q k rv q pins s u I ru => h pins s σ H v u Q I ru (r B F H σ v Q k rv q)

theorem EvGn.of {ρ' : Rho} {t : TG} (h : PG X e t) (r : ∀ (B : B0) (F H : Hp) (σ : St) (v : V) (Q : St → Hp → Prop), Ok X.K B F H σ ρ → Rep X.K F v d → (∀ σ', Ok X.K B F H σ' ρ' → (∀ p, NoOwn σ ρ p → NoOwn σ' ρ' p) → Q σ' H) → t v σ H Q) : EvGn X ρ e d ρ' :=
  fun B F H σ v Q k rv q pins s u I ru => h pins s σ H v u Q I ru (r B F H σ v Q k rv q)
theorem NoOwn.setVal {σ : St} {ρ : Rho} {p : Addr} (h : NoOwn σ ρ p) (i : Nat) (v : Option V) (d : D) : NoOwn (σ.set i v) (ρ.set i (.val d)) p := fun j xs e q => by
  by_cases hj : i = j
  · subst hj
    rw [List.getElem?_set_self'] at e
    cases z : ρ[i]? with
    | none => rw [z] at e; cases e
    | some w => rw [z] at e; cases e
  · rw [List.getElem?_set_ne hj] at e q
    exact h j xs e q

/-! ### from one judgement to another -/
theorem Ext.freeze {F H F' H' : Hp} {p : Addr} {vs : List V} (x : Ext ⟨F, H⟩ F' H') (h0 : H p = none) (hp : H' p = some (.lst vs)) (hf : F' p = none) : Ext ⟨F, H⟩ (upd F' p (.lst vs)) H' :=
  ⟨fun b u q => by
    by_cases h : b = p
    · subst h; rw [upd_same] at q; cases q; exact hp
    · rw [upd_ne h] at q; exact x.sub b u q, x.sh, x.sf.trans (upd_sameOf hf), fun a q => by
    by_cases h : a = p
    · subst h; exact .inr h0
    · rw [upd_ne h] at q; exact x.nw a q⟩
theorem EvN.toE {xs : List D} (h : EvN X ρ e xs) : EvE X ρ e (.lst xs) := fun B F H σ Q k q =>
  h B F H σ Q k fun p vs F' H' x h0 hp hf r => q _ _ _ (x.freeze h0 hp hf) (.lst upd_same (r.mono (upd_sameOf hf)))
theorem SqB.mono {K : PySem.W.Frag} {k : Bool} {H H' : Hp} {a : Addr} {vs : List V} (s : Same H H') (h : SqB K k H a vs) : SqB K k H' a vs := by
  cases k with
  | true => exact s.seq h
  | false =>
    have h' : SqT K H a vs := h
    show SqT K H' a vs
    rcases h' with (h | ⟨o, h⟩) | h
    · exact .inl (.inl (s _ _ h))
    · exact .inl (.inr ⟨o, s _ _ h⟩)
    · exact .inr h
theorem EvE.ql {xs : List D} (h : EvE X ρ e (.lst xs)) : EvQ X ρ e true xs := fun B F H σ Q k q =>
  h B F H σ Q k fun v F' H' x r => by
    cases r with
    | lst hf rl => exact q _ _ _ _ x (show SqL _ _ _ _ from SqL.of (x.sub _ _ hf)) rl
theorem EvE.qt {xs : List D} (h : EvE X ρ e (.tup xs)) : EvQ X ρ e false xs := fun B F H σ Q k q =>
  h B F H σ Q k fun v F' H' x r => by
    cases r with
    | tup hf rl => exact q _ _ _ _ x (show SqT _ _ _ _ from SqT.of (x.sub _ _ hf)) rl
theorem EvE.qs {ns : List Int} (h : EvE X ρ e (.scr ns)) : EvQ X ρ e true (ns.map D.int) := fun B F H σ Q k q =>
  h B F H σ Q k fun v F' H' x r => by
    cases r with
    | scr hs => exact q _ _ _ _ x (show SqL _ _ _ _ from x.sub.seq hs) (RepL.ints ns)
theorem EvN.toQ {xs : List D} (h : EvN X ρ e xs) : EvQ X ρ e true xs := h.toE.ql

/-! ### names -/
structure At (X : Cx) (N : List Str) (sc : Scope) : Prop where
  eN : X.N = N
  eS : X.env.scope = sc
  calm : X.calm = true
  nd : X.N.Nodup
  nox : X.xe = fun _ _ => False
  un : X.A.units + 64 < cLine
  dp : X.A.depth + 100 < recursionLimit
  tree : X.prog.given.tree = none
  fr : ∃ env l, X.stack = env :: l ∧ env.scope.isGenerator = false ∧ env.scope.isCoroutine = false ∧ env.builtins = builtinsNs ∧ env.globals = mainGlobals
/-- At, but perhaps within an except suite, or called from there -/
structure At0 (X : Cx) (N : List Str) (sc : Scope) : Prop where
  eN : X.N = N
  eS : X.env.scope = sc
  nd : X.N.Nodup
  nox : X.xe = fun _ _ => False
  un : X.A.units + 64 < cLine
  dp : X.A.depth + 100 < recursionLimit
  tree : X.prog.given.tree = none
  fr : ∃ env l, X.stack = env :: l ∧ env.scope.isGenerator = false ∧ env.scope.isCoroutine = false ∧ env.builtins = builtinsNs ∧ env.globals = mainGlobals
theorem At.z {X : Cx} {N : List Str} {sc : Scope} (t : At X N sc) : At0 X N sc := ⟨t.eN, t.eS, t.nd, t.nox, t.un, t.dp, t.tree, t.fr⟩
theorem At0.at {X : Cx} {N : List Str} {sc : Scope} (t : At0 X N sc) (h : X.calm = true) : At X N sc := ⟨t.eN, t.eS, h, t.nd, t.nox, t.un, t.dp, t.tree, t.fr⟩
/-- an exception is handled here; H: now -/
def HotH (A : Around) (H : Hp) : Prop := ∃ (ea : Addr) (oe : Obj) (u : HO) (vs : Array Value), A.handled = some (.ref ea) ∧ H ea = some (.frz oe u) ∧ oe.data = .fields vs ∧ vs[2]? = some .none
/-- a def's own body: all its cells are its own -/
class FnT (X : Cx) : Prop where
  fn : ∀ x, X.fn x = true

variable {N : List Str} {sc : Scope}
theorem At.pass (a : At X N sc) : PassesOwn (model X.prog X.w) X.A X.env X.xe := by rw [a.nox]; exact PassesOwn.never
def VisS (sc : Scope) (x : Str) : Bool := match sc.names.lookup x with
  | some .local => true
  | some .cell => true
  | some .free => true
  | _ => false
def LocS (sc : Scope) (x : Str) : Bool := match sc.names.lookup x with
  | some .local => true
  | some .cell => true
  | _ => false
theorem vis_of {x : Str} (h : VisS sc x = true) : Vis sc x := by
  unfold VisS at h
  cases e : sc.names.lookup x with
  | none => rw [e] at h; cases h
  | some k =>
    rw [e] at h
    cases k <;> first | exact .inl e | exact .inr (.inl e) | exact .inr (.inr e) | cases h
theorem loc_of {x : Str} (h : LocS sc x = true) : Loc sc x := by
  unfold LocS at h
  cases e : sc.names.lookup x with
  | none => rw [e] at h; cases h
  | some k =>
    rw [e] at h
    cases k <;> first | exact .inl e | exact .inr e | cases h
def NameOk (x : Str) : Bool := !(x == ("__debug__" : Str)) && !(x == ("__classdict__" : Str))
theorem pvAt (t : At X N sc) {i : Nat} {x : Str} (hN : N[i]? = some x) (hv : VisS sc x = true) (hx : NameOk x = true) : PE X (.Name x pos) (tVar i) := by
  unfold NameOk at hx
  rw [Bool.and_eq_true, Bool.not_eq_true', Bool.not_eq_true'] at hx
  exact pe_var (by rw [t.eN]; exact hN) (by rw [t.eS]; exact vis_of hv) hx.1 hx.2
theorem ev_name (t : At X N sc) (i : Nat) {x : Str} (hr : ρ[i]? = some (.val d)) (hN : N[i]? = some x := by rfl) (hv : VisS sc x = true := by rfl) (hx : NameOk x = true := by rfl) : EvE X ρ (.Name x pos) d :=
  .of (pvAt t hN hv hx) fun B F H σ Q k q => by
    obtain ⟨v, h1, h2⟩ := k.vals i d hr
    exact ⟨v, h1, q v F H (.refl k.sub) h2⟩
theorem ev_own (t : At X N sc) (i : Nat) {x : Str} {xs : List D} (hr : ρ[i]? = some (.own xs)) (hN : N[i]? = some x := by rfl) (hv : VisS sc x = true := by rfl) (hx : NameOk x = true := by rfl) : EvQ X ρ (.Name x pos) true xs :=
  .of (pvAt t hN hv hx) fun B F H σ Q k q => by
    obtain ⟨p, vs, h1, h2, h3, h4, h5⟩ := k.owns i xs hr
    exact ⟨_, h1, q p vs F H (.refl k.sub) (show SqL _ _ _ _ from SqL.of h2) h5⟩
theorem ev_int {i : Int} {j : Nat} : EvE X ρ (.Constant (.int i) j pos) (.int i) := .of pe_int fun B F H σ Q k q => q _ F H (.refl k.sub) (.int i)
theorem ev_bl {b : Bool} {j : Nat} : EvE X ρ (.Constant (.bool b) j pos) (.bl b) := .of pe_bl fun B F H σ Q k q => q _ F H (.refl k.sub) (.bl b)
/-! ### operations -/
/-- two operands -/
theorem two {da db : D} (ha : EvE X ρ a da) (hb : EvE X ρ b db) {B : B0} {F H : Hp} {σ : St} {R : V → V → Hp → Prop} (k : Ok X.K B F H σ ρ)
    (h : ∀ x y F' H', Ext ⟨F, H⟩ F' H' → Rep X.K F' x da → Rep X.K F' y db → R x y H') : wE X a σ H fun x H1 => wE X b σ H1 fun y H2 => R x y H2 :=
  ha B F H σ _ k fun x F1 H1 x1 r1 => hb B F1 H1 σ _ (k.ext x1) fun y F2 H2 x2 r2 => h x y F2 H2 (x1.t x2) (r1.mono x2.sf) r2
theorem ev_binI {op : Operator} {i j m : Int} {C : Int → Int → Prop} {g : Int → Int → Int} (ho : OpR X (binaryOp op) (rI C fun i j => .int (g i j))) (ha : EvE X ρ a (.int i)) (hb : EvE X ρ b (.int j)) (hc : C i j) (hm : g i j = m) :
    EvE X ρ (.BinOp a op b pos) (.int m) :=
  .of (pe_op ho pe_w pe_w) fun B F H σ Q k q => two ha hb k fun x y F' H' x' rx ry => by
    cases rx; cases ry; subst hm
    exact ⟨i, j, rfl, rfl, hc, q _ F' H' x' (.int _)⟩
theorem ev_binI0 {op : Operator} {i j m : Int} {g : Int → Int → Int} (ho : OpR X (binaryOp op) (rI0 fun i j => .int (g i j))) (ha : EvE X ρ a (.int i)) (hb : EvE X ρ b (.int j)) (hm : g i j = m) :
    EvE X ρ (.BinOp a op b pos) (.int m) :=
  .of (pe_op ho pe_w pe_w) fun B F H σ Q k q => two ha hb k fun x y F' H' x' rx ry => by
    cases rx; cases ry; subst hm
    exact ⟨i, j, rfl, rfl, q _ F' H' x' (.int _)⟩
theorem ev_add {i j : Int} (ha : EvE X ρ a (.int i)) (hb : EvE X ρ b (.int j)) : EvE X ρ (.BinOp a .Add b pos) (.int (i + j)) := ev_binI0 op_add ha hb rfl
theorem ev_sub {i j : Int} (ha : EvE X ρ a (.int i)) (hb : EvE X ρ b (.int j)) : EvE X ρ (.BinOp a .Sub b pos) (.int (i - j)) := ev_binI0 op_sub ha hb rfl
theorem op_mulK : OpR X (binaryOp .Mult) (rI IntMulOk fun i j => .int (i * j)) := opI fun _ _ _ _ _ _ _ hc q => mul_int q hc
theorem At.pylong (t : At X N sc) {pins : List (Addr × Obj)} {σ : St} {H : Hp} {s : Shared} (I : Inv X pins σ H s) : PylongRoom (model X.prog X.w) X.A s := by
  obtain ⟨env, l, h1, h2, h3, h4, h5⟩ := t.fr
  exact PylongRoom.of I.nolimit t.dp (SeerAt.of (I.ok.mod.seer.keeps I.bk) t.tree (by rw [I.ok.frames, h1]) h2 h3 h4 h5)
theorem op_divK (t : At X N sc) : OpR X (binaryOp .FloorDiv) (rI (fun _ j => j ≠ 0) fun i j => .int (i.fdiv j)) := by
  intro pins s σ H x y v u Q I rx ry h
  obtain ⟨i, j, rfl, rfl, hc, q⟩ := h
  obtain ⟨t1, rfl⟩ := rx
  obtain ⟨t2, rfl⟩ := ry
  exact floordiv_int hc ⟨.int (i.fdiv j), H, I.tok _, ⟨_, rfl⟩, q⟩ (.inr (t.pylong I))
theorem ev_mul {i j : Int} (ha : EvE X ρ a (.int i)) (hb : EvE X ρ b (.int j)) (hc : IntMulOk i j) : EvE X ρ (.BinOp a .Mult b pos) (.int (i * j)) := ev_binI op_mulK ha hb hc rfl
theorem ev_div (t : At X N sc) {i j : Int} (ha : EvE X ρ a (.int i)) (hb : EvE X ρ b (.int j)) (h0 : j ≠ 0) : EvE X ρ (.BinOp a .FloorDiv b pos) (.int (i.fdiv j)) := ev_binI (op_divK t) ha hb h0 rfl
theorem ev_divP (t : At X N sc) {i j : Int} (ha : EvE X ρ a (.int i)) (hb : EvE X ρ b (.int j)) (h0 : 0 < j) : EvE X ρ (.BinOp a .FloorDiv b pos) (.int (i / j)) :=
  ev_binI (op_divK t) ha hb (by omega) (Int.fdiv_eq_ediv_of_nonneg i (by omega))
theorem ev_modP {i j : Int} (ha : EvE X ρ a (.int i)) (hb : EvE X ρ b (.int j)) (h0 : 0 < j) : EvE X ρ (.BinOp a .Mod b pos) (.int (i % j)) := ev_binI op_mod ha hb h0 rfl
theorem ev_pow {i j : Int} (ha : EvE X ρ a (.int i)) (hb : EvE X ρ b (.int j)) (h0 : CPow i j) : EvE X ρ (.BinOp a .Pow b pos) (.int (i ^ j.toNat)) := ev_binI op_pow ha hb h0 rfl
theorem ev_neg {i : Int} (ha : EvE X ρ a (.int i)) : EvE X ρ (.UnaryOp .USub a pos) (.int (-i)) :=
  .of (pe_un un_neg pe_w) fun B F H σ Q k q => ha B F H σ _ k fun x F' H' x' rx => by
    cases rx
    exact ⟨i, rfl, q _ F' H' x' (.int _)⟩

/-! ### comparisons of ints -/
theorem ev_cmpI {op : CmpOp} {i j : Int} {g : Int → Int → Bool} (ho : OpR X (compareOp op) (rI0 fun i j => .bl (g i j))) (ha : EvE X ρ a (.int i)) (hb : EvE X ρ b (.int j)) (hm : behindInMarks op b = false) : EvE X ρ (.Compare a [op] [b] pos) (.bl (g i j)) :=
  .of (pe_cmpR ho pe_w pe_w hm) fun B F H σ Q k q => two ha hb k fun x y F' H' x' rx ry => by
    cases rx; cases ry
    exact ⟨i, j, rfl, rfl, q _ F' H' x' (.bl _)⟩
theorem ev_gt {i j : Int} (ha : EvE X ρ a (.int i)) (hb : EvE X ρ b (.int j)) : EvE X ρ (.Compare a [.Gt] [b] pos) (.bl (decide (j < i))) := ev_cmpI op_gt ha hb (nobehind _ (by decide) (by decide))
end
end L2.EV

set_option linter.all false
set_option autoImplicit false
set_option maxRecDepth 100000
namespace L2.EV
open PySem PySem.Spec PyProof.Rows

/-! ### equality: what is read as plain data -/
mutual
def toP : D → PyData
  | .non => .none
  | .bl b => .bool b
  | .int i => .int i
  | .str x => .str x
  | .tup xs => .tuple (toPs xs)
  | .lst xs => .list (toPs xs)
  | .scr ns => .list (ns.map PyData.int)
  | .exc _ => .dict []
  | .exh _ _ => .dict []
  | .dic _ => .dict []
def toPs : List D → List PyData
  | [] => []
  | d :: ds => toP d :: toPs ds
end
theorem toPs_map (xs : List D) : toPs xs = xs.map toP := by
  induction xs with
  | nil => rfl
  | cons d ds ih => rw [toPs, ih, List.map_cons]
theorem toPs_ints (ns : List Int) : toPs (ns.map D.int) = ns.map PyData.int := by
  rw [toPs_map, List.map_map]; rfl
section
variable {X : Cx} {pins : List (Addr × Obj)} {σ : St} {F H : Hp} {s : Shared}
theorem readsInts : ∀ {ns : List Int} {us : List Value}, Vals (ns.map V.int) us → ∃ as, ReadsAll s.heap us (ns.map PyData.int) as
  | [], _, r => by cases r; exact ⟨_, .nil⟩
  | n :: ns, _, r => by
    rw [List.map_cons] at r
    cases r with
    | cons r1 r2 =>
      obtain ⟨as, h⟩ := readsInts r2
      obtain ⟨t, rfl⟩ := r1
      exact ⟨_, .cons (Reads.int n t) h⟩
mutual
theorem Rep.reads (I : Inv X pins σ H s) (sub : Same F H) : ∀ {v : V} {d : D} {u : Value}, Rep X.K F v d → RelV v u → (toP d).canLay0 = true → ∃ as, Reads s.heap u (toP d) as
  | _, _, u, .non, r, hs => by cases (show u = Value.none from r); exact ⟨_, Reads.none⟩
  | _, _, u, .bl b, r, hs => by cases (show u = Value.bool b from r); exact ⟨_, Reads.bool b⟩
  | _, _, u, .int i, r, hs => by obtain ⟨t, e⟩ := (show ∃ t, u = Value.int i t from r); cases e; exact ⟨_, Reads.int i t⟩
  | _, _, u, .str x, r, hs => by obtain ⟨t, e⟩ := (show ∃ t, u = Value.str x t from r); cases e; exact ⟨_, Reads.str x t⟩
  | _, _, u, .tup (a := a) h rl, r, hs => by
    cases (show u = Value.ref a from r)
    obtain ⟨its, rv, p, _⟩ := I.tuple (SqT.of (sub _ _ h))
    obtain ⟨o, e, c, n, dt⟩ := p
    obtain ⟨as, ra⟩ := RepL.reads I sub rl rv (by simpa [toP, PyData.canLay0] using hs)
    exact ⟨_, Reads.tuple e c dt (by simpa using ra)⟩
  | _, _, u, .lst (a := a) h rl, r, hs => by
    cases (show u = Value.ref a from r)
    obtain ⟨its, rv, p, _⟩ := I.list (SqL.of (sub _ _ h))
    obtain ⟨o, e, c, n, dt⟩ := p.isList
    obtain ⟨as, ra⟩ := RepL.reads I sub rl rv (by simpa [toP, PyData.canLay0] using hs)
    exact ⟨_, Reads.list e c dt (by simpa using ra)⟩
  | _, _, u, .exc h, r, hs => by simp [toP, PyData.canLay0] at hs
  | _, _, u, .exh h, r, hs => by simp [toP, PyData.canLay0] at hs
  | _, _, u, .dic h _, r, hs => by simp [toP, PyData.canLay0] at hs
  | _, _, u, .scr (a := a) h, r, hs => by
    cases (show u = Value.ref a from r)
    obtain ⟨its, rv, p, _⟩ := I.list (sub.seq h)
    obtain ⟨o, e, c, n, dt⟩ := p.isList
    obtain ⟨as, ra⟩ := readsInts (s := s) rv
    exact ⟨_, Reads.list e c dt (by simpa using ra)⟩
theorem RepL.reads (I : Inv X pins σ H s) (sub : Same F H) : ∀ {vs : List V} {ds : List D} {us : List Value}, RepL X.K F vs ds → Vals vs us → PyData.canLayAll0 (toPs ds) = true → ∃ as, ReadsAll s.heap us (toPs ds) as
  | _, _, _, .nil, r, hs => by cases r; exact ⟨_, .nil⟩
  | _, _, _, .cons r1 r2, r, hs => by
    cases r with
    | cons q1 q2 =>
      rw [toPs, PyData.canLayAll0, Bool.and_eq_true] at hs
      have hs2 := hs
      obtain ⟨as, h1⟩ := Rep.reads I sub r1 q1 hs2.1
      obtain ⟨bs, h2⟩ := RepL.reads I sub r2 q2 hs2.2
      exact ⟨_, .cons h1 h2⟩
end
theorem SqB.reads {k : Bool} {a : Addr} {vs : List V} {xs : List D} (I : Inv X pins σ H s) (sub : Same F H) (h : SqB X.K k H a vs) (r : RepL X.K F vs xs) (hs : (if k = true then PyData.list (toPs xs) else .tuple (toPs xs)).canLay0 = true) : ∃ as, Reads s.heap (.ref a) (if k = true then PyData.list (toPs xs) else .tuple (toPs xs)) as := by
  cases k with
  | true =>
    obtain ⟨its, rv, p, _⟩ := I.list (show SqL _ _ _ _ from h)
    obtain ⟨o, e, c, n, dt⟩ := p.isList
    obtain ⟨as, ra⟩ := RepL.reads I sub r rv (by simpa [PyData.canLay0] using hs)
    exact ⟨_, Reads.list e c dt (by simpa using ra)⟩
  | false =>
    obtain ⟨its, rv, p, _⟩ := I.tuple (show SqT _ _ _ _ from h)
    obtain ⟨o, e, c, n, dt⟩ := p
    obtain ⟨as, ra⟩ := RepL.reads I sub r rv (by simpa [PyData.canLay0] using hs)
    exact ⟨_, Reads.tuple e c dt (by simpa using ra)⟩
end
/-- read as p, now and later -/
def RdP (X : Cx) (H : Hp) (v : V) (p : PyData) : Prop := p.canLay0 = true → ∀ (H' : Hp), Same H H' → ∀ (pins : List (Addr × Obj)) (σ : St) (s : Shared) (u : Value), Inv X pins σ H' s → RelV v u → ∃ as, Reads s.heap u p as
def EvP (X : Cx) (ρ : Rho) (e : Expr) (p : PyData) : Prop := ∀ (B : B0) (F H : Hp) (σ : St) (Q : VK), Ok X.K B F H σ ρ → (∀ v F' H', Ext ⟨F, H⟩ F' H' → RdP X H' v p → Q v H') → wE X e σ H Q
section
variable {X : Cx} {ρ : Rho} {e a b c : Expr} {d : D} {pos : Pos} {N : List Str} {sc : Scope}
theorem EvE.p (h : EvE X ρ e d) : EvP X ρ e (toP d) := fun B F H σ Q k q => h B F H σ Q k fun v F' H' x r => q v F' H' x fun hs H2 s2 pins σ s u I ru => r.reads I (x.sub.trans s2) ru hs
theorem EvQ.p {k : Bool} {xs : List D} (h : EvQ X ρ e k xs) : EvP X ρ e (if k = true then PyData.list (toPs xs) else .tuple (toPs xs)) := fun B F H σ Q k' q => h B F H σ Q k' fun a vs F' H' x hs r => q _ F' H' x fun hc H2 s2 pins σ s u I ru => by
  cases (show u = Value.ref a from ru)
  exact SqB.reads I (x.sub.trans s2) (hs.mono s2) r hc
theorem rd_eq (t : At X N sc) {p q : PyData} (sp : SeqAt.shaped p = true) (sq : SeqAt.shaped q = true) : OpR X (compareOp .Eq) (fun x y H Q => RdP X H x p ∧ RdP X H y q ∧ Q (.bl (p.eqv q)) H) := by
  intro pins s σ H x y v u Q I rx ry h
  obtain ⟨h1, h2, h3⟩ := h
  obtain ⟨as, r1⟩ := h1 (SeqAt.canLay_of_shaped sp) H (.refl _) pins σ s v I rx
  obtain ⟨bs, r2⟩ := h2 (SeqAt.canLay_of_shaped sq) H (.refl _) pins σ s u I ry
  exact eq_dataH r1 r2 sp sq t.un ⟨.bl _, H, I, rfl, h3⟩
theorem rd_ne (t : At X N sc) {p q : PyData} (sp : SeqAt.shaped p = true) (sq : SeqAt.shaped q = true) : OpR X (compareOp .NotEq) (fun x y H Q => RdP X H x p ∧ RdP X H y q ∧ Q (.bl (!p.eqv q)) H) := by
  intro pins s σ H x y v u Q I rx ry h
  obtain ⟨h1, h2, h3⟩ := h
  obtain ⟨as, r1⟩ := h1 (SeqAt.canLay_of_shaped sp) H (.refl _) pins σ s v I rx
  obtain ⟨bs, r2⟩ := h2 (SeqAt.canLay_of_shaped sq) H (.refl _) pins σ s u I ry
  exact ne_dataH r1 r2 sp sq t.un ⟨.bl _, H, I, rfl, h3⟩
theorem RdP.mono {H H' : Hp} {v : V} {p : PyData} (h : RdP X H v p) (s : Same H H') : RdP X H' v p := fun hc H2 s2 => h hc H2 (s.trans s2)
theorem twoP {p q : PyData} (ha : EvP X ρ a p) (hb : EvP X ρ b q) {B : B0} {F H : Hp} {σ : St} {R : V → V → Hp → Prop} (k : Ok X.K B F H σ ρ)
    (h : ∀ x y F' H', Ext ⟨F, H⟩ F' H' → RdP X H' x p → RdP X H' y q → R x y H') : wE X a σ H fun x H1 => wE X b σ H1 fun y H2 => R x y H2 :=
  ha B F H σ _ k fun x F1 H1 x1 r1 => hb B F1 H1 σ _ (k.ext x1) fun y F2 H2 x2 r2 => h x y F2 H2 (x1.t x2) (r1.mono x2.sh) r2
theorem ev_eqP (t : At X N sc) {p q : PyData} (ha : EvP X ρ a p) (hb : EvP X ρ b q) (sp : SeqAt.shaped p = true) (sq : SeqAt.shaped q = true) {r : Bool} (hr : p.eqv q = r) : EvE X ρ (.Compare a [.Eq] [b] pos) (.bl r) :=
  .of (pe_cmpR (rd_eq t sp sq) pe_w pe_w (nobehind _ (by decide) (by decide))) fun B F H σ Q k q => twoP ha hb k fun x y F' H' x' rx ry => ⟨rx, ry, by rw [hr]; exact q _ F' H' x' (.bl r)⟩
/-! ### items, slices -/
theorem RepL.at {K : PySem.W.Frag} {F : Hp} {vs : List V} {xs : List D} {i : Int} {d : D} (r : RepL K F vs xs) (h : atI xs i = some d) : ∃ v, atI vs i = some v ∧ Rep K F v d := by
  unfold atI at h ⊢
  rw [r.length]
  cases e : ixN xs.length i with
  | none => rw [e] at h; cases h
  | some j =>
    rw [e] at h
    obtain ⟨v, h1, h2⟩ := r.get h
    exact ⟨v, h1, h2⟩
theorem qe {k : Bool} {xs : List D} {db : D} (ha : EvQ X ρ a k xs) (hb : EvE X ρ b db) {B : B0} {F H : Hp} {σ : St} {R : V → V → Hp → Prop} (k' : Ok X.K B F H σ ρ)
    (h : ∀ l vs y F' H', Ext ⟨F, H⟩ F' H' → SqB X.K k H' l vs → RepL X.K F' vs xs → Rep X.K F' y db → R (.ref l) y H') : wE X a σ H fun x H1 => wE X b σ H1 fun y H2 => R x y H2 :=
  ha B F H σ _ k' fun l vs F1 H1 x1 s1 r1 => hb B F1 H1 σ _ (k'.ext x1) fun y F2 H2 x2 r2 => h l vs y F2 H2 (x1.t x2) (s1.mono x2.sh) (r1.mono x2.sf) r2
theorem ev_ix {k : Bool} {xs : List D} {i : Int} (ha : EvQ X ρ a k xs) (hb : EvE X ρ b (.int i)) (h : atI xs i = some d) (hs : PlainIx b := by intro _ _; rfl) : EvE X ρ (.Subscript a b pos) d := by
  cases k with
  | true =>
    exact .of (pe_ix ix_list pe_w pe_w hs) fun B F H σ Q k' q => qe ha hb k' fun l vs y F' H' x' sl rl ry => by
      cases ry
      obtain ⟨v, h1, h2⟩ := rl.at h
      exact ⟨l, vs, i, v, rfl, rfl, sl, h1, q v F' H' x' h2⟩
  | false =>
    exact .of (pe_ix ix_tup pe_w pe_w hs) fun B F H σ Q k' q => qe ha hb k' fun l vs y F' H' x' sl rl ry => by
      cases ry
      obtain ⟨v, h1, h2⟩ := rl.at h
      exact ⟨l, vs, i, v, rfl, rfl, sl, h1, q v F' H' x' h2⟩
theorem ev_noPart : EvO X ρ none none := fun B F H σ Q k q pins s I => po_none pins s σ H Q I (q F H (.refl k.sub))
theorem ev_part {i : Int} (h : EvE X ρ e (.int i)) : EvO X ρ (some e) (some i) := fun B F H σ Q k q pins s I => po_some pe_w pins s σ H Q I (h B F H σ _ k fun v F' H' x r => by
  cases r
  exact ⟨i, rfl, q F' H' x⟩)
def cutD (xs : List D) (lo hi : Option Int) : List D := (xs.drop (HT.sIx xs.length 0 lo)).take (HT.sIx xs.length xs.length hi - HT.sIx xs.length 0 lo)
theorem RepL.cut {K : PySem.W.Frag} {F : Hp} {vs : List V} {xs : List D} (r : RepL K F vs xs) (lo hi : Option Int) : RepL K F (cutV vs lo hi) (cutD xs lo hi) := by
  unfold cutV cutD
  rw [r.length]
  exact (r.drop _).take _
/-- xs[lo:hi] of a list: a new list -/
theorem ev_cutL {xs : List D} {lo hi : Option Expr} {l h : Option Int} {p2 : Pos} (ha : EvQ X ρ a true xs) (hl : EvO X ρ lo l) (hh : EvO X ρ hi h) : EvN X ρ (.Subscript a (.Slice lo hi none p2) pos) (cutD xs l h) :=
  .of (pe_slice sl_list pe_w po_w po_w) fun B F H σ Q k q => ha B F H σ _ k fun p vs F1 H1 x1 s1 r1 => hl B F1 H1 σ _ (k.ext x1) fun F2 H2 x2 => hh B F2 H2 σ _ (k.ext (x1.t x2)) fun F3 H3 x3 => by
    have x := x1.t (x2.t x3)
    refine ⟨p, vs, rfl, (s1.mono x2.sh).mono x3.sh, fun l' hl' => ?_⟩
    have r3 := (r1.mono x2.sf).mono x3.sf
    exact q l' _ F3 _ ⟨x.sub.trans (upd_sameOf hl'), x.sh.trans (upd_sameOf hl'), x.sf, x.nw⟩ (x.sh.free hl') upd_same (x.sub.free hl') (r3.cut l h)
/-! ### arguments, displays -/
theorem ea_nil : EvA X ρ [] [] := ⟨trivial, fun B F H σ Q k q pos pins s I => pa_nil pos pins s σ H Q I (q [] F H (.refl k.sub) .nil)⟩
theorem ea_cons {es : List Expr} {ds : List D} (h1 : EvE X ρ e d) (h2 : EvA X ρ es ds) (hs : Pl e := by intro _ _; rfl) : EvA X ρ (e :: es) (d :: ds) :=
  ⟨⟨hs, h2.1⟩, fun B F H σ Q k q pos pins s I => pa_cons pe_w pa_w (hs _ _) pos pins s σ H Q I (h1 B F H σ _ k fun v F1 H1 x1 r1 => h2.2 B F1 H1 σ _ (k.ext x1) fun vs F2 H2 x2 r2 => q _ F2 H2 (x1.t x2) (.cons (r1.mono x2.sf) r2))⟩
theorem ev_tup {es : List Expr} {ds : List D} {x1 : Nat} (h : EvA X ρ es ds) (hl : ds.length ≤ sizeLine := by exact Nat.le_of_ble_eq_true rfl) : EvE X ρ (.Tuple es x1 pos) (.tup ds) :=
  .of (pe_tup pa_w) fun B F H σ Q k q => h.2 B F H σ _ k fun vs F' H' x r => ⟨by rw [r.length]; exact hl, fun p hp => q _ _ _ (x.grow hp) (.tup upd_same (r.mono (upd_sameOf (x.sub.free hp))))⟩
theorem en_lst {es : List Expr} {ds : List D} (h : EvA X ρ es ds) (hl : ds.length ≤ sizeLine := by exact Nat.le_of_ble_eq_true rfl) : EvN X ρ (.List es pos) ds :=
  .of (pe_lst pa_w) fun B F H σ Q k q => h.2 B F H σ _ k fun vs F' H' x r => ⟨by rw [r.length]; exact hl, fun p hp => q p vs F' _ ⟨x.sub.trans (upd_sameOf hp), x.sh.trans (upd_sameOf hp), x.sf, x.nw⟩ (x.sh.free hp) upd_same (x.sub.free hp) r⟩

/-! ### list + list, list * int -/
theorem en_rep {xs : List D} {n : Int} (ha : EvE X ρ a (.lst xs)) (hb : EvE X ρ b (.int n)) (h1 : -(2 ^ 63) ≤ n) (h2 : n < 2 ^ 63) (hz : xs.length * n.toNat ≤ sizeLine) : EvN X ρ (.BinOp a .Mult b pos) (List.replicate n.toNat xs).flatten :=
  .of (pe_op op_rep pe_w pe_w) fun B F H σ Q k q => two ha hb k fun x y F' H' x' rx ry => by
    cases rx with
    | lst g1 r1 =>
      cases ry
      refine ⟨_, n, _, rfl, rfl, x'.sub _ _ g1, h1, h2, by rw [r1.length]; exact hz, fun p hp => ?_⟩
      exact q p _ F' _ ⟨x'.sub.trans (upd_sameOf hp), x'.sh.trans (upd_sameOf hp), x'.sf, x'.nw⟩ (x'.sh.free hp) upd_same (x'.sub.free hp) (r1.rep _)

/-! ### and, or, not, if -/
theorem ew_and1 {r : Bool} (ha : EvT X ρ a r) : EvW X ρ (.BoolOp .And [a] pos) r := .of (pw_and1 pt_w) fun B F H σ Q k q => ha B F H σ Q k q
theorem ew_or1 {r : Bool} (ha : EvT X ρ a r) : EvW X ρ (.BoolOp .Or [a] pos) r := .of (pw_or1 pt_w) fun B F H σ Q k q => ha B F H σ Q k q
theorem ew_andT {rest : List Expr} {r : Bool} (ha : EvT X ρ a true) (hb : EvW X ρ (.BoolOp .And (b :: rest) pos) r) : EvW X ρ (.BoolOp .And (a :: b :: rest) pos) r :=
  .of (pw_and pt_w pw_w) fun B F H σ Q k q => ha B F H σ _ k fun F1 H1 x1 => by rw [if_pos rfl]; exact hb B F1 H1 σ _ (k.ext x1) fun F2 H2 x2 => q F2 H2 (x1.t x2)
theorem ew_andF {rest : List Expr} (ha : EvT X ρ a false) : EvW X ρ (.BoolOp .And (a :: b :: rest) pos) false :=
  .of (pw_and pt_w pw_w) fun B F H σ Q k q => ha B F H σ _ k fun F1 H1 x1 => by rw [if_neg Bool.false_ne_true]; exact q F1 H1 x1
theorem ew_orF {rest : List Expr} {r : Bool} (ha : EvT X ρ a false) (hb : EvW X ρ (.BoolOp .Or (b :: rest) pos) r) : EvW X ρ (.BoolOp .Or (a :: b :: rest) pos) r :=
  .of (pw_or pt_w pw_w) fun B F H σ Q k q => ha B F H σ _ k fun F1 H1 x1 => by rw [if_neg Bool.false_ne_true]; exact hb B F1 H1 σ _ (k.ext x1) fun F2 H2 x2 => q F2 H2 (x1.t x2)
theorem ew_orT {rest : List Expr} (ha : EvT X ρ a true) : EvW X ρ (.BoolOp .Or (a :: b :: rest) pos) true :=
  .of (pw_or pt_w pw_w) fun B F H σ Q k q => ha B F H σ _ k fun F1 H1 x1 => by rw [if_pos rfl]; exact q F1 H1 x1
theorem EvW.toT {r : Bool} (h : EvW X ρ e r) : EvT X ρ e r := fun B F H σ Q k q pins s I => h B F H σ Q k q _ pins s I
theorem et_not {r : Bool} (ha : EvT X ρ a r) : EvT X ρ (.UnaryOp .Not a pos) (!r) := .of (pt_not pt_w) fun B F H σ Q k q => ha B F H σ _ k q
theorem ev_ifT (hc : EvT X ρ c true) (ha : EvE X ρ a d) : EvE X ρ (.IfExp c a b pos) d :=
  .of (pe_ifExp pt_w pe_w pe_w) fun B F H σ Q k q => hc B F H σ _ k fun F1 H1 x1 => by rw [if_pos rfl]; exact ha B F1 H1 σ _ (k.ext x1) fun v F2 H2 x2 r2 => q v F2 H2 (x1.t x2) r2
theorem ev_ifF (hc : EvT X ρ c false) (hb : EvE X ρ b d) : EvE X ρ (.IfExp c a b pos) d :=
  .of (pe_ifExp pt_w pe_w pe_w) fun B F H σ Q k q => hc B F H σ _ k fun F1 H1 x1 => by rw [if_neg Bool.false_ne_true]; exact hb B F1 H1 σ _ (k.ext x1) fun v F2 H2 x2 r2 => q v F2 H2 (x1.t x2) r2
/-- a test whose value is an int, a list -/
theorem et_int {i : Int} (ha : EvE X ρ e (.int i)) (he : ∀ whole, isTrue e X.env whole = (do let v ← whole; standAt e.pos; holding [v] (truthy v)) := by intro _; rfl) : EvT X ρ e (i != 0) :=
  .of (pt_truth pe_w he) fun B F H σ Q k q => ha B F H σ _ k fun v F1 H1 x1 r => by
    cases r
    exact ⟨_, rfl, q F1 H1 x1⟩
theorem et_bl {r : Bool} (ha : EvE X ρ e (.bl r)) (he : ∀ whole, isTrue e X.env whole = (do let v ← whole; standAt e.pos; holding [v] (truthy v)) := by intro _; rfl) : EvT X ρ e r :=
  .of (pt_val pe_w he) fun B F H σ Q k q => ha B F H σ _ k fun v F1 H1 x1 rv => by
    cases rv
    exact ⟨r, rfl, q F1 H1 x1⟩
end
end L2.EV

set_option linter.all false
set_option autoImplicit false
set_option maxRecDepth 100000
namespace L2.EV
open PySem PySem.Spec PyProof.Rows
section
variable {X : Cx} {ρ : Rho} {e a b c : Expr} {d : D} {pos : Pos} {N : List Str} {sc : Scope}
/-! ### comparisons as tests -/
theorem et_cmp {op : CmpOp} {r : R2} {da db : D} {k : Bool} (ho : OpR X (compareOp op) r) (ha : EvE X ρ a da) (hb : EvE X ρ b db) (hm : behindInMarks op b = false)
    (hr : ∀ (F H : Hp) x y (Q : VK), Rep X.K F x da → Rep X.K F y db → Q (.bl k) H → r x y H Q) : EvT X ρ (.Compare a [op] [b] pos) k :=
  .of (pt_cmpR ho pe_w pe_w hm) fun B F H σ Q k' q => two ha hb k' fun x y F' H' x' rx ry => hr F' H' x y _ rx ry ⟨k, rfl, q F' H' x'⟩
theorem et_lt {i j : Int} (ha : EvE X ρ a (.int i)) (hb : EvE X ρ b (.int j)) : EvT X ρ (.Compare a [.Lt] [b] pos) (decide (i < j)) := et_cmp op_lt ha hb (nobehind _ (by decide) (by decide)) fun F H x y Q rx ry q => by cases rx; cases ry; exact ⟨i, j, rfl, rfl, q⟩
theorem et_gt {i j : Int} (ha : EvE X ρ a (.int i)) (hb : EvE X ρ b (.int j)) : EvT X ρ (.Compare a [.Gt] [b] pos) (decide (j < i)) := et_cmp op_gt ha hb (nobehind _ (by decide) (by decide)) fun F H x y Q rx ry q => by cases rx; cases ry; exact ⟨i, j, rfl, rfl, q⟩
theorem et_ge {i j : Int} (ha : EvE X ρ a (.int i)) (hb : EvE X ρ b (.int j)) : EvT X ρ (.Compare a [.GtE] [b] pos) (decide (j ≤ i)) := et_cmp op_ge ha hb (nobehind _ (by decide) (by decide)) fun F H x y Q rx ry q => by cases rx; cases ry; exact ⟨i, j, rfl, rfl, q⟩
theorem dec_intD {i j : Int} : decide (V.int i = V.int j) = decide (i = j) := by rw [dec_int, Bool.beq_eq_decide_eq]
theorem et_eqI {i j : Int} (ha : EvE X ρ a (.int i)) (hb : EvE X ρ b (.int j)) : EvT X ρ (.Compare a [.Eq] [b] pos) (decide (i = j)) := et_cmp op_eq ha hb (nobehind _ (by decide) (by decide)) fun F H x y Q rx ry q => by
  cases rx; cases ry; exact ⟨rfl, by rw [dec_intD]; exact q⟩
theorem et_eqP (t : At X N sc) {p q : PyData} (ha : EvP X ρ a p) (hb : EvP X ρ b q) (sp : SeqAt.shaped p = true) (sq : SeqAt.shaped q = true) {r : Bool} (hr : p.eqv q = r) : EvT X ρ (.Compare a [.Eq] [b] pos) r :=
  .of (pt_cmpR (rd_eq t sp sq) pe_w pe_w (nobehind _ (by decide) (by decide))) fun B F H σ Q k q => twoP ha hb k fun x y F' H' x' rx ry => ⟨rx, ry, r, by rw [hr], q F' H' x'⟩
theorem et_neP (t : At X N sc) {p q : PyData} (ha : EvP X ρ a p) (hb : EvP X ρ b q) (sp : SeqAt.shaped p = true) (sq : SeqAt.shaped q = true) {r : Bool} (hr : (!p.eqv q) = r) : EvT X ρ (.Compare a [.NotEq] [b] pos) r :=
  .of (pt_cmpR (rd_ne t sp sq) pe_w pe_w (nobehind _ (by decide) (by decide))) fun B F H σ Q k q => twoP ha hb k fun x y F' H' x' rx ry => ⟨rx, ry, r, by rw [hr], q F' H' x'⟩

/-! ### built-ins -/
/-- the name means the built-in -/
structure Blt (X : Cx) (sc : Scope) (x : Str) (u : Value) : Prop where
  g : sc.names.lookup x = some .globalImplicit
  m : X.mg x = none
  v : bootBuiltins x = some u
  n : x ≠ "__name__"
  d : (x == ("__debug__" : Str)) = false
theorem gl_of (t : At X N sc) {x : Str} (h : sc.names.lookup x = some .globalImplicit) : Gl X x := by
  show X.env.scope.names.lookup x = _
  rw [t.eS]; exact h
variable {x : Str} {p : Pos} {es : List Expr} {ds : List D}
theorem ev_callB (t : At X N sc) {id : String} {r : List V → Hp → VK → Prop} (bl : Blt X sc x (.builtin id)) (hc : CallR X (.builtin id) r) (ha : EvA X ρ (e :: es) ds)
    (hr : ∀ (F H : Hp) vs (Q : VK), Same F H → RepL X.K F vs ds → (∀ v F' H', Ext ⟨F, H⟩ F' H' → Rep X.K F' v d → Q v H') → r vs H Q) : EvE X ρ (.Call (.Name x p) (e :: es) [] pos) d :=
  .of (pe_callB hc (gl_of t bl.g) bl.m bl.v pa_w bl.n bl.d (ha.1.1 _ _) (PlA.any ha.1.2)) fun B F H σ Q k q => ha.2 B F H σ _ k fun vs F' H' x' rv => hr F' H' vs Q x'.sub rv fun v F2 H2 x2 r2 => q v F2 H2 (x'.t x2) r2
theorem ev_callTy (t : At X N sc) {T : String} {r : List V → Hp → VK → Prop} (bl : Blt X sc x (.type T)) (hc : CallR X (.type T) r) (ha : EvA X ρ (e :: es) ds)
    (hr : ∀ (F H : Hp) vs (Q : VK), Same F H → RepL X.K F vs ds → (∀ v F' H', Ext ⟨F, H⟩ F' H' → Rep X.K F' v d → Q v H') → r vs H Q) : EvE X ρ (.Call (.Name x p) (e :: es) [] pos) d :=
  .of (pe_callTy hc (gl_of t bl.g) bl.m bl.v pa_w bl.n bl.d (ha.1.1 _ _) (PlA.any ha.1.2)) fun B F H σ Q k q => ha.2 B F H σ _ k fun vs F' H' x' rv => hr F' H' vs Q x'.sub rv fun v F2 H2 x2 r2 => q v F2 H2 (x'.t x2) r2
theorem RepL.one {K : PySem.W.Frag} {F : Hp} {vs : List V} {d : D} (h : RepL K F vs [d]) : ∃ v, vs = [v] ∧ Rep K F v d := by
  cases h with
  | cons r t => cases t; exact ⟨_, rfl, r⟩
theorem RepL.two {K : PySem.W.Frag} {F : Hp} {vs : List V} {d e : D} (h : RepL K F vs [d, e]) : ∃ v u, vs = [v, u] ∧ Rep K F v d ∧ Rep K F u e := by
  cases h with
  | cons r t => obtain ⟨u, rfl, q⟩ := t.one; exact ⟨_, _, rfl, r, q⟩
/-- one argument that is a sequence -/
theorem ev_len (t : At X N sc) {k : Bool} {xs : List D} (bl : Blt X sc x (.builtin "len")) (ha : EvQ X ρ e k xs) (hpe : Pl e := by intro _ _; rfl) : EvE X ρ (.Call (.Name x p) [e] [] pos) (.int xs.length) :=
  .of (pe_callB call_len_seq (gl_of t bl.g) bl.m bl.v (pa_cons pe_w pa_nil (hpe _ _)) bl.n bl.d (hpe _ _) rfl) fun B F H σ Q k' q => ha B F H σ _ k' fun l vs F' H' x' sl rl => by
    refine ⟨l, vs, rfl, ?_, ?_⟩
    · cases k with
      | true => exact .inl sl
      | false => exact .inr sl
    · rw [rl.length]; exact q _ F' H' x' (.int _)
theorem ev_abs (t : At X N sc) {i : Int} (bl : Blt X sc x (.builtin "abs")) (ha : EvE X ρ e (.int i)) (hpe : Pl e := by intro _ _; rfl) : EvE X ρ (.Call (.Name x p) [e] [] pos) (.int i.natAbs) :=
  ev_callB t bl call_abs (ea_cons ha ea_nil hpe) fun F H vs Q sub r q => by
    obtain ⟨v, rfl, rv⟩ := r.one
    cases rv
    have e : (if i < 0 then -i else i) = (i.natAbs : Int) := by split <;> omega
    exact ⟨i, rfl, by rw [e]; exact q _ F H (.refl sub) (.int _)⟩
theorem ev_max2 (t : At X N sc) {i j : Int} (bl : Blt X sc x (.builtin "max")) (ha : EvE X ρ a (.int i)) (hb : EvE X ρ b (.int j)) (hpa : Pl a := by intro _ _; rfl) (hpb : Pl b := by intro _ _; rfl) : EvE X ρ (.Call (.Name x p) [a, b] [] pos) (.int (max i j)) :=
  ev_callB t bl (call_max2 t.calm) (ea_cons ha (ea_cons hb ea_nil hpb) hpa) fun F H vs Q sub r q => by
    obtain ⟨v, u, rfl, rv, ru⟩ := r.two
    cases rv; cases ru
    have e : (if j > i then j else i) = max i j := by split <;> omega
    exact ⟨i, j, rfl, by rw [e]; exact q _ F H (.refl sub) (.int _)⟩
theorem ev_intB (t : At X N sc) {k : Bool} (bl : Blt X sc x (.type "int")) (ha : EvE X ρ e (.bl k)) (hpe : Pl e := by intro _ _; rfl) : EvE X ρ (.Call (.Name x p) [e] [] pos) (.int (if k then 1 else 0)) :=
  ev_callTy t bl call_int1 (ea_cons ha ea_nil hpe) fun F H vs Q sub r q => by
    obtain ⟨v, rfl, rv⟩ := r.one
    cases rv
    exact .inr ⟨k, rfl, q _ F H (.refl sub) (.int _)⟩
/-- list(xs) -/
theorem en_list (t : At X N sc) {k : Bool} {xs : List D} (bl : Blt X sc x (.type "list")) (ha : EvQ X ρ e k xs) (hpe : Pl e := by intro _ _; rfl) : EvN X ρ (.Call (.Name x p) [e] [] pos) xs :=
  .of (pe_callTy call_list_of (gl_of t bl.g) bl.m bl.v (pa_cons pe_w pa_nil (hpe _ _)) bl.n bl.d (hpe _ _) rfl) fun B F H σ Q k' q => ha B F H σ _ k' fun l vs F' H' x' sl rl => by
    refine ⟨l, vs, rfl, ?_, fun p hp => ?_⟩
    · cases k with
      | true => exact .inl sl
      | false => exact .inr sl
    · exact q p vs F' _ ⟨x'.sub.trans (upd_sameOf hp), x'.sh.trans (upd_sameOf hp), x'.sf, x'.nw⟩ (x'.sh.free hp) upd_same (x'.sub.free hp) rl
/-- tuple(xs) of a list -/
theorem ev_tuple (t : At X N sc) {xs : List D} (bl : Blt X sc x (.type "tuple")) (ha : EvQ X ρ e true xs) (hpe : Pl e := by intro _ _; rfl) : EvE X ρ (.Call (.Name x p) [e] [] pos) (.tup xs) :=
  .of (pe_callTy call_tuple_of (gl_of t bl.g) bl.m bl.v (pa_cons pe_w pa_nil (hpe _ _)) bl.n bl.d (hpe _ _) rfl) fun B F H σ Q k' q => ha B F H σ _ k' fun l vs F' H' x' sl rl => by
    refine ⟨l, vs, rfl, .inl ⟨sl, fun p hp => ?_⟩⟩
    exact q _ _ _ (x'.grow hp) (.tup upd_same (rl.mono (upd_sameOf (x'.sub.free hp))))
/-- isinstance(x, T), T a built-in type -/
def tyD : D → Value
  | .non => .type "NoneType" | .bl _ => .type "bool" | .int _ => .type "int" | .str _ => .type "str" | .tup _ => .type "tuple" | .lst _ => .type "list" | .scr _ => .type "list" | .exc C => .ref C | .exh C _ => .ref C | .dic _ => .type "dict"
/-! ### own defs -/
/-- what a def promises: for these data that datum, all else as it was -/
def spC (K : PySem.W.Frag) (C : List D → D → Prop) : Sp := fun vs H Q _ => ∃ F ds d, Same F H ∧ RepL K F vs ds ∧ C ds d ∧ ∀ v F' H', Ext ⟨F, H⟩ F' H' → Rep K F' v d → Q v H'
def Callee (X : Cx) (x : Str) (C : List D → D → Prop) : Prop := ∃ (f : Addr) (fd : FuncData) (ps : List Str) (k : Nat), FnOk X.prog X.w X.K X.mg X.base CX0 k f fd ps (spC X.K C) ∧ Room k X.A ∧ X.mg x = some (.ref f) ∧ PySem.W.keepIn X.K (.ref f) = true ∧ Binds X.K fd ps []
theorem ev_call (t : At X N sc) {C : List D → D → Prop} (h : Callee X x C) (ha : EvA X ρ (e :: es) ds) (hC : C ds d) (hg : sc.names.lookup x = some .globalImplicit := by rfl) (hdb : (x == ("__debug__" : Str)) = false := by rfl) : EvE X ρ (.Call (.Name x p) (e :: es) [] pos) d := by
  obtain ⟨f, fd, ps, k, F, hr, hm, hk, hb⟩ := h
  have pz : Passes CX0 X E0 := pass0
  refine .of (pe_call F hr (gl_of t hg) hm hk hb .nil pz pa_w hdb (ha.1.1 _ _) (PlA.any ha.1.2)) fun B F' H σ Q k' q => ha.2 B F' H σ _ k' fun vs F1 H1 x1 r1 => ?_
  refine ⟨F1, ds, d, x1.sub, by rw [List.append_nil]; exact r1, hC, fun v F2 H2 x2 r2 => q v F2 H2 (x1.t x2) r2⟩

/-- an environment by its scope alone -/
def dE (sc : Scope) : Env := { scope := sc, locals := 0, globals := 0, cells := [], qual := "", func := none, code := .none, frame := none, builtins := 0 }
theorem swst_eq {ts : List Expr} {v : Expr} {env env' : Env} (h : env.scope = env'.scope) : swappedStores ts v env = swappedStores ts v env' := by
  unfold swappedStores Env.blockKind Env.kindOf
  rw [h]
theorem sww_eq {v : Expr} {tg : Option Expr} {n : Nat} {env env' : Env} (h : env.scope = env'.scope) : swapsWith v tg n env = swapsWith v tg n env' := by
  unfold swapsWith Env.blockKind Env.kindOf
  rw [h]
/-! ### statements -/
variable {st : Stmt} {rest : List Stmt} {o : Out} {ρ' : Rho}
theorem es_nil : EvSs X ρ [] (.nx ρ) := .of pss_nil fun B F H σ E k q => q F H σ k (.refl _)
theorem es_cons (h1 : EvS X ρ st (.nx ρ')) (h2 : EvSs X ρ' rest o) : EvSs X ρ (st :: rest) o :=
  .of (pss_cons ps_w pss_w) fun B F H σ E k q => h1 B F H σ _ k fun F1 H1 σ1 k1 s1 => h2 B F1 H1 σ1 E k1 (q.later s1)
theorem es_ret (h1 : EvS X ρ st (.rt d)) : EvSs X ρ (st :: rest) (.rt d) :=
  .of (pss_cons ps_w pss_w) fun B F H σ E k q => h1 B F H σ _ k q
theorem es_one (h1 : EvS X ρ st o) : EvSs X ρ [st] o := .of (pss_one ps_w) fun B F H σ E k q => h1 B F H σ E k q
/-- a list of one's own is frozen ahead of a statement -/
theorem es_freeze {xs : List D} (i : Nat) (hi : ρ[i]? = some (.own xs)) (h : EvSs X (ρ.set i (.val (.lst xs))) rest o) : EvSs X ρ rest o := fun B F H σ E k q => by
  obtain ⟨F', sf, k'⟩ := k.freezeAt hi
  exact h B F' H σ E k' (q.later sf)
theorem s_ret (h : EvE X ρ e d) : EvS X ρ (.Return (some e) pos) (.rt d) :=
  .of (ps_ret pe_w) fun B F H σ E k q => h B F H σ _ k fun v F' H' x r => q v F' H' (k.toExt.trans x) r
theorem s_ifT {ss us : List Stmt} (hc : EvT X ρ c true) (h : EvSs X ρ ss o) : EvS X ρ (.If c ss us pos) o :=
  .of (ps_if pt_w pss_w pss_w) fun B F H σ E k q => hc B F H σ _ k fun F1 H1 x1 => by rw [if_pos rfl]; exact h B F1 H1 σ E (k.ext x1) (q.later x1.sf)
theorem s_ifF {ss us : List Stmt} (hc : EvT X ρ c false) (h : EvSs X ρ us o) : EvS X ρ (.If c ss us pos) o :=
  .of (ps_if pt_w pss_w pss_w) fun B F H σ E k q => hc B F H σ _ k fun F1 H1 x1 => by rw [if_neg Bool.false_ne_true]; exact h B F1 H1 σ E (k.ext x1) (q.later x1.sf)
theorem hfT [FnT X] {x : Str} : X.fn x = true ∨ X.env.scope.names.lookup x = some .local := .inl (FnT.fn x)
theorem At.loc (t : At X N sc) {x : Str} (hx : LocS sc x = true) : Loc X.env.scope x := by rw [t.eS]; exact loc_of hx
theorem At.ix (t : At X N sc) {i : Nat} {x : Str} (h : N[i]? = some x) : X.N[i]? = some x := by rw [t.eN]; exact h
/-- name = value -/
theorem s_set [FnT X] (t : At X N sc) (i : Nat) {pos' : Pos} (h : EvE X ρ e d) (hi : N[i]? = some x := by rfl) (hx : LocS sc x = true := by rfl) (hs : swapsWith e (some (.Name x pos')) pos.line X.env = pure false := by rfl) :
    EvS X ρ (.Assign [.Name x pos'] e pos) (.nx (ρ.set i (.val d))) :=
  .of (ps_set (i := i) t.nd (t.ix hi) (t.loc hx) pe_w hs hfT) fun B F H σ E k q => h B F H σ _ k fun v F' H' x' r => q F' H' _ ((k.ext x').setVal i r) x'.sf
theorem s_setN [FnT X] (t : At X N sc) (i : Nat) {pos' : Pos} {xs : List D} (h : EvN X ρ e xs) (hi : N[i]? = some x := by rfl) (hx : LocS sc x = true := by rfl) (hs : swapsWith e (some (.Name x pos')) pos.line X.env = pure false := by rfl) :
    EvS X ρ (.Assign [.Name x pos'] e pos) (.nx (ρ.set i (.own xs))) :=
  .of (ps_set (i := i) t.nd (t.ix hi) (t.loc hx) pe_w hs hfT) fun B F H σ E k q => h B F H σ _ k fun p vs F' H' x' h0 hp hf r =>
    q F' H' _ ((k.ext x').setOwn i hp hf (k.sh.free h0) (k.noOwn h0) r) x'.sf
/-- name op= value, ints -/
theorem s_augI [FnT X] (t : At X N sc) (i : Nat) {op : Operator} {g : Int → Int → Int} {C : Int → Int → Prop} {n m : Int} {pos' : Pos} (ho : OpR X (inplaceOp op) (rI C fun i j => .int (g i j))) (hr : ρ[i]? = some (.val (.int n))) (h : EvE X ρ e (.int m)) (hc : C n m) (hi : N[i]? = some x := by rfl) (hx : LocS sc x = true := by rfl) :
    EvS X ρ (.AugAssign (.Name x pos') op e pos) (.nx (ρ.set i (.val (.int (g n m))))) :=
  .of (ps_aug (i := i) t.nd (t.ix hi) (t.loc hx) pe_w (show PIp X op (rI C fun i j => .int (g i j)) from ho) hfT) fun B F H σ E k q => by
    obtain ⟨v, h1, h2⟩ := k.vals i _ hr
    cases h2
    exact ⟨_, h1, h B F H σ _ k fun v F' H' x' r => by
      cases r
      exact ⟨n, m, rfl, rfl, hc, q F' H' _ ((k.ext x').setVal i (.int _)) x'.sf⟩⟩
theorem iop_addC : OpR X (inplaceOp .Add) (rI (fun _ _ => True) fun i j => .int (i + j)) := opI fun _ _ _ _ _ _ _ _ q => iadd_int q
theorem iop_subC : OpR X (inplaceOp .Sub) (rI (fun _ _ => True) fun i j => .int (i - j)) := opI fun _ _ _ _ _ _ _ _ q => isub_int q
theorem iop_mulC : OpR X (inplaceOp .Mult) (rI IntMulOk fun i j => .int (i * j)) := opI fun _ _ _ _ _ _ _ hc q => imul_int q hc
theorem s_augSub [FnT X] (t : At X N sc) (i : Nat) {n m : Int} {pos' : Pos} (hr : ρ[i]? = some (.val (.int n))) (h : EvE X ρ e (.int m)) (hi : N[i]? = some x := by rfl) (hx : LocS sc x = true := by rfl) :
    EvS X ρ (.AugAssign (.Name x pos') .Sub e pos) (.nx (ρ.set i (.val (.int (n - m))))) := s_augI t i iop_subC hr h trivial hi hx
theorem s_augMul [FnT X] (t : At X N sc) (i : Nat) {n m : Int} {pos' : Pos} (hr : ρ[i]? = some (.val (.int n))) (h : EvE X ρ e (.int m)) (hc : IntMulOk n m) (hi : N[i]? = some x := by rfl) (hx : LocS sc x = true := by rfl) :
    EvS X ρ (.AugAssign (.Name x pos') .Mult e pos) (.nx (ρ.set i (.val (.int (n * m))))) := s_augI t i iop_mulC hr h hc hi hx
/-- a, b = x, y: names that are local, stored from the right -/
theorem s_par (t : At X N sc) (i j : Nat) {y : Str} {u v : D} {px py pt : Pos} {kt k2 : Nat} {pt2 : Pos} (h1 : EvE X ρ a u) (h2 : EvE X ρ b v) (hij : i ≠ j) (hi : N[i]? = some x := by rfl) (hj : N[j]? = some y := by rfl)
    (hx : sc.names.lookup x = some .local := by rfl) (hy : sc.names.lookup y = some .local := by rfl)
    (hw : swappedStores [.Tuple [.Name x px, .Name y py] kt pt] (.Tuple [a, b] k2 pt2) (dE sc) = pure (some [x, y]) := by rfl)
    (hs : swapsWithSole [.Tuple [.Name x px, .Name y py] kt pt] (.Tuple [a, b] k2 pt2) pos.line X.env = pure false := by rfl)
    (hs1 : starEach [a, b] X.env = (false, eval a X.env) :: starEach [b] X.env := by rfl) (hs2 : starEach [b] X.env = (false, eval b X.env) :: starEach [] X.env := by rfl) :
    EvS X ρ (.Assign [.Tuple [.Name x px, .Name y py] kt pt] (.Tuple [a, b] k2 pt2) pos) (.nx ((ρ.set i (.val u)).set j (.val v))) :=
  .of (ps_par (i := i) (j := j) t.calm t.nd (t.ix hi) (t.ix hj) hij (by rw [t.eS]; exact hx) (by rw [t.eS]; exact hy) (pa_cons pe_w (pa_cons pe_w pa_nil hs2) hs1) ((swst_eq (show X.env.scope = (dE sc).scope from t.eS)).trans hw) hs) fun B F H σ E k q =>
    h1 B F H σ _ k fun v1 F1 H1 x1 r1 => h2 B F1 H1 σ _ (k.ext x1) fun v2 F2 H2 x2 r2 => ⟨v1, v2, rfl, q F2 H2 _ (((k.ext (x1.t x2)).setVal i (r1.mono x2.sf)).setVal j r2) (x1.t x2).sf⟩

/-! ### targets -/
theorem eg_name [FnT X] (t : At X N sc) (i : Nat) (hi : N[i]? = some x := by rfl) (hx : LocS sc x = true := by rfl) : EvG X ρ (.Name x pos) d (ρ.set i (.val d)) :=
  .of (pg_name (i := i) t.nd (t.ix hi) (t.loc hx) hfT) fun B F H σ v Q k r q => q F H _ (k.setVal i r) (.refl _)
theorem eg_tup2 [FnT X] (t : At X N sc) (i j : Nat) {y : Str} {u v : D} {px py : Pos} {kt : Nat} (hi : N[i]? = some x := by rfl) (hj : N[j]? = some y := by rfl) (hx : LocS sc x = true := by rfl) (hy : LocS sc y = true := by rfl) :
    EvG X ρ (.Tuple [.Name x px, .Name y py] kt pos) (.tup [u, v]) ((ρ.set i (.val u)).set j (.val v)) :=
  .of (pg_tup t.calm (pgs_cons (pg_name (i := i) t.nd (t.ix hi) (t.loc hx) hfT) (pgs_cons (pg_name (i := j) t.nd (t.ix hj) (t.loc hy) hfT) pgs_nil))) fun B F H σ w Q k r q => by
    cases r with
    | tup h rl =>
      obtain ⟨v1, v2, rfl, r1, r2⟩ := rl.two
      exact ⟨_, _, rfl, SqT.of (k.sub _ _ h), rfl, _, _, rfl, _, _, rfl, rfl, q F H _ ((k.setVal i r1).setVal j r2) (.refl _)⟩
theorem egn_name (t : At X N sc) (i : Nat) (hi : N[i]? = some x := by rfl) (hx : sc.names.lookup x = some .local := by rfl) : EvGn X ρ (.Name x pos) d (ρ.set i (.val d)) :=
  .of (pg_name (i := i) t.nd (t.ix hi) (by rw [t.eS]; exact .inl hx) (by rw [t.eS]; exact .inr hx)) fun B F H σ v Q k r q => q _ (k.setVal i r) fun p h => h.setVal i _ d
/-- a target of several names = value -/
theorem s_asg (t : At X N sc) {tg : Expr} (h : EvE X ρ e d) (hg : EvG X ρ tg d ρ') (hs : swapsWithSole [tg] e pos.line X.env = pure false := by rfl) (hw : swappedStores [tg] e (dE sc) = pure none := by rfl)
    (h1 : (assignEach [tg] X.env).map (·.2) = [assign tg X.env] := by rfl) : EvS X ρ (.Assign [tg] e pos) (.nx ρ') :=
  .of (ps_asg pe_w pg_w hs ((swst_eq (show X.env.scope = (dE sc).scope from t.eS)).trans hw) h1) fun B F H σ E k q => h B F H σ _ k fun v F1 H1 x1 r1 => hg B F1 H1 σ v _ (k.ext x1) r1 fun F2 H2 σ2 k2 s2 => q F2 H2 σ2 k2 (x1.sf.trans s2)

/-! ### a list of one's own, changed -/
theorem own_wE (t : At X N sc) {i : Nat} {xs : List D} (hr : ρ[i]? = some (.own xs)) (hN : N[i]? = some x) (hv : VisS sc x = true) (hx : NameOk x = true) {B : B0} {F H : Hp} {σ : St} {Q : VK} (k : Ok X.K B F H σ ρ)
    (h : ∀ p vs, σ[i]? = some (some (.ref p)) → H p = some (.lst vs) → RepL X.K F vs xs → Q (.ref p) H) : wE X (.Name x pos) σ H Q := fun pins s I => by
  obtain ⟨p, vs, h1, h2, h3, h4, h5⟩ := k.owns i xs hr
  exact pvAt t hN hv hx pins s σ H Q I ⟨_, h1, h p vs h1 h2 h5⟩
theorem s_append (t : At X N sc) (i : Nat) {xs : List D} {apos cpos : Pos} {y : Str} (hr : ρ[i]? = some (.own xs)) (h : EvE X ρ e d) (hz : xs.length < sizeLine) (hN : N[i]? = some y := by rfl) (hv : VisS sc y = true := by rfl) (hx : NameOk y = true := by rfl)
    (hs : starEach [e] X.env = (false, eval e X.env) :: starEach [] X.env := by rfl) (hline : (apos.endLine == cpos.line) = true := by rfl) (hpl : (backTo cpos (starEach [] X.env)).any (·.1) = false := by rfl)
    (hfew : ((backTo cpos (starEach [e] X.env)).all (fun x => !x.1) && (backToKw cpos (keywordEach [] X.env)).all (fun x => x.1.isSome) && decide (([e] : List Expr).length + ([] : List Keyword).length + (if ([] : List Keyword).isEmpty then 0 else 1) < 30)) = true := by rfl)
    (hsw : swapsWith (.Call (.Attribute (.Name y p) "append" apos) [e] [] cpos) none pos.line X.env = pure false := by rfl) :
    EvS X ρ (.Expr (.Call (.Attribute (.Name y p) "append" apos) [e] [] cpos) pos) (.nx (ρ.set i (.own (xs ++ [d])))) :=
  .of (ps_expr (pe_bm PySem.F.plainAttrs_list PySem.F.slot_list_append PySem.F.type_list_append mt_append pe_w (pa_cons pe_w pa_nil hs) rfl hfew hline hs hpl) hsw) fun B F H σ E k q =>
    own_wE t hr hN hv hx k fun l vs h1 h2 h3 => ⟨.inl ⟨rfl, _, SqL.of h2⟩, h B F H σ _ k fun v F' H' x' r => by
      have k' := k.ext x'
      have h2' := x'.sh _ _ h2
      refine ⟨l, vs, v, rfl, rfl, h2', by rw [h3.length]; exact hz, ?_⟩
      exact q F' _ _ (k'.chgOwn (vs := vs) hr h1 ((h3.mono x'.sf).append (.cons r .nil))) x'.sf⟩
theorem s_pop (t : At X N sc) (i : Nat) {xs : List D} {apos cpos : Pos} {y : Str} (hr : ρ[i]? = some (.own xs)) (hz : xs ≠ []) (hN : N[i]? = some y := by rfl) (hv : VisS sc y = true := by rfl) (hx : NameOk y = true := by rfl)
    (hline : (apos.endLine == cpos.line) = true := by rfl) (hsw : swapsWith (.Call (.Attribute (.Name y p) "pop" apos) [] [] cpos) none pos.line X.env = pure false := by rfl) :
    EvS X ρ (.Expr (.Call (.Attribute (.Name y p) "pop" apos) [] [] cpos) pos) (.nx (ρ.set i (.own xs.dropLast))) :=
  .of (ps_expr (pe_bm0 PySem.F.plainAttrs_list PySem.F.slot_list_pop PySem.F.type_list_pop mt_pop pe_w rfl hline) hsw) fun B F H σ E k q =>
    own_wE t hr hN hv hx k fun l vs h1 h2 h3 => ⟨.inl ⟨rfl, _, SqL.of h2⟩, by
      have hl := h3.length
      have hne : vs ≠ [] := fun z => hz (List.eq_nil_of_length_eq_zero (by rw [← hl, z]; rfl))
      obtain ⟨w, hw⟩ : ∃ w, vs[vs.length - 1]? = some w := ⟨vs[vs.length - 1]'(by have := List.length_pos_iff.mpr hne; omega), List.getElem?_eq_getElem _⟩
      exact ⟨l, vs, w, rfl, rfl, h2, hw, q F _ _ (k.chgOwn (vs := vs) hr h1 h3.dropLast) (.refl _)⟩⟩
/-- xs[i] = v -/
theorem eg_item (t : At X N sc) (i : Nat) {xs : List D} {n : Int} {j : Nat} {y : Str} (hr : ρ[i]? = some (.own xs)) (h : EvE X ρ b (.int n)) (hj : ixN xs.length n = some j) (hN : N[i]? = some y := by rfl) (hv : VisS sc y = true := by rfl) (hx : NameOk y = true := by rfl)
    (ha : ∀ v, assign (.Subscript (.Name y p) b pos) X.env v = (do
      let ov ← holding [v] (eval (.Name y p) X.env)
      let iv ← holding [v, ov] (eval b X.env)
      standAt pos
      holding [v, ov, iv] (setItem ov iv v)
      release [v, ov, iv] []) := by intro _; rfl) : EvG X ρ (.Subscript (.Name y p) b pos) d (ρ.set i (.own (xs.set j d))) :=
  .of (pg_sub pe_w pe_w set_list ha) fun B F H σ v Q k r q =>
    own_wE t hr hN hv hx k fun l vs h1 h2 h3 => h B F H σ _ k fun w F' H' x' rw' => by
      cases rw'
      have h2' := x'.sh _ _ h2
      refine ⟨l, vs, n, j, rfl, rfl, h2', by rw [h3.length]; exact hj, ?_⟩
      exact q F' _ _ ((k.ext x').chgOwn (vs := vs) hr h1 ((h3.mono x'.sf).set (r.mono x'.sf) j)) x'.sf
/-- xs[i] op= v, ints -/
theorem get_listK : PGet X (rIxL X.K) := by
  intro pins s σ H o i ov iv Q I ro ri h
  obtain ⟨p, xs, n, z, rfl, rfl, hq, he, q⟩ := h
  cases ro
  obtain ⟨t, rfl⟩ := ri
  obtain ⟨its, r, pl, hz⟩ := I.list hq
  obtain ⟨j, h1, h2, h3, h4, h5⟩ := atI_get he
  obtain ⟨w, ew, rw'⟩ := r.get h2
  have hl := r.length
  have hn := line63
  have fin : EP X pins σ Q w s := ⟨z, H, I, rw', q⟩
  by_cases h0 : 0 ≤ n
  · have hj : n.toNat = j := by
      rw [seqIndex_of h0 h5] at h1
      exact Option.some.inj h1
    exact wpAny_getItem_list pl.isList h0 (by omega) (by rw [hj]; simpa using ew) fin
  · have hj : (n + (its.toArray.size : Int)).toNat = j := by
      rw [seqIndex_neg (by omega) h4] at h1
      rw [List.size_toArray, ← hl]
      exact Option.some.inj h1
    exact wpAny_getItem_list_neg pl.isList (by omega) (by rw [List.size_toArray] <;> omega) (by omega) (by rw [hj]; simpa using ew) fin
theorem s_augItem (t : At X N sc) (i : Nat) {op : Operator} {g : Int → Int → Int} {C : Int → Int → Prop} {xs : List D} {n u m : Int} {j : Nat} {y : Str} {tpos : Pos} (ho : OpR X (inplaceOp op) (rI C fun i j => .int (g i j))) (hr : ρ[i]? = some (.own xs))
    (hb : EvE X ρ b (.int n)) (hj : ixN xs.length n = some j) (hu : xs[j]? = some (.int u)) (he : EvE X ρ e (.int m)) (hc : C u m) (hN : N[i]? = some y := by rfl) (hv : VisS sc y = true := by rfl) (hx : NameOk y = true := by rfl)
    (ha : ∀ ov iv new, augStore b ov iv new = (do holding [new, ov, iv] (setItem ov iv new); release [new, ov, iv] []; pure .next) := by intros; rfl) :
    EvS X ρ (.AugAssign (.Subscript (.Name y p) b tpos) op e pos) (.nx (ρ.set i (.own (xs.set j (.int (g u m)))))) :=
  .of (ps_augS pe_w pe_w get_listK pe_w (show PIp X op (rI C fun i j => .int (g i j)) from ho) set_list ha) fun B F H σ E k q =>
    own_wE t hr hN hv hx k fun l vs h1 h2 h3 => hb B F H σ _ k fun w F1 H1 x1 rw' => by
      cases rw'
      have h21 := x1.sh _ _ h2
      have hat : atI xs n = some (.int u) := by unfold atI; rw [hj]; exact hu
      obtain ⟨w, hw1, hw2⟩ := (h3.mono x1.sf).at hat
      cases hw2
      refine ⟨l, vs, n, _, rfl, rfl, SqL.of h21, hw1, he B F1 H1 σ _ (k.ext x1) fun w F2 H2 x2 rw2 => ?_⟩
      cases rw2
      have h22 := x2.sh _ _ h21
      refine ⟨u, m, rfl, rfl, hc, l, vs, n, j, rfl, rfl, h22, by rw [h3.length]; exact hj, ?_⟩
      exact q F2 _ _ ((k.ext (x1.t x2)).chgOwn (vs := vs) hr h1 (((h3.mono x1.sf).mono x2.sf).set (.int _) j)) (x1.t x2).sf
end
end L2.EV

set_option linter.all false
set_option autoImplicit false
set_option maxRecDepth 100000
namespace L2.EV
open PySem PySem.Spec PyProof.Rows

/-! ### what a loop walks -/
def wI (X : Cx) (tg e : Expr) : TI := fun σ H R => ∀ (pins : List (Addr × Obj)) (s : Shared), Inv X pins σ H s →
  wpAny (model X.prog X.w) X.A (eval e X.env) (fun v s1 => wpAny (model X.prog X.w) X.A (pyIter v) (PIE X pins σ tg R) X.xe s1) X.xe s
theorem pi_w {X : Cx} {tg e : Expr} : PI X tg e (wI X tg e) := fun pins s _ _ _ I h => h pins s I
/-- the iterator yields just these, while the frozen part stands -/
def ItOk (K : PySem.W.Frag) (J : It) (F : Hp) (ds : List D) : Prop := ∀ (i : Nat) (F2 H2 : Hp), Same F F2 → Same F2 H2 →
  (∀ d, ds[i]? = some d → J.go i H2 ∧ ∀ x H', J.yld i H2 x H' → ∃ F', Ext ⟨F2, H2⟩ F' H' ∧ Rep K F' x d) ∧ (ds.length ≤ i → J.stop i H2)
def EvI (X : Cx) (ρ : Rho) (tg e : Expr) (ds : List D) : Prop := ∀ (B : B0) (F H : Hp) (σ : St) (R : It → Hp → Prop), Ok X.K B F H σ ρ →
  (∀ J F' H', Ext ⟨F, H⟩ F' H' → ItOk X.K J F' ds → R J H') → wI X tg e σ H R
section
variable {X : Cx} {ρ : Rho} {tg e a b c : Expr} {d : D} {pos : Pos} {N : List Str} {sc : Scope} {ds : List D}
theorem EvI.of {t : TI} (h : PI X tg e t) (r : ∀ (B : B0) (F H : Hp) (σ : St) (R : It → Hp → Prop), Ok X.K B F H σ ρ → (∀ J F' H', Ext ⟨F, H⟩ F' H' → ItOk X.K J F' ds → R J H') → t σ H R) : EvI X ρ tg e ds :=
  fun B F H σ R k q pins s I => h pins s σ H R I (r B F H σ R k q)
/-- the i-th item that the rule asks of any list that stands there -/
theorem itl_ok' {K : PySem.W.Frag} {F : Hp} {l : Addr} {vs : List V} (hs : ∀ H, Same F H → SqL K H l vs) (r : RepL K F vs ds) : ItOk K (Itl K l) F ds := fun i F2 H2 s1 s2 =>
  ⟨fun d hd => by
    obtain ⟨v, hv, rv⟩ := r.get hd
    have sq := hs H2 (s1.trans s2)
    refine ⟨⟨vs, v, sq, hv⟩, fun x H' y => ?_⟩
    obtain ⟨rfl, y⟩ := y
    have e := y vs sq
    rw [hv] at e; cases e
    exact ⟨F2, .refl s2, rv.mono s1⟩, fun h => ⟨vs, hs H2 (s1.trans s2), by rw [r.length]; exact h⟩⟩
theorem itt_ok {K : PySem.W.Frag} {F : Hp} {l : Addr} {vs : List V} (hs : ∀ H, Same F H → SqT K H l vs) (r : RepL K F vs ds) : ItOk K (Itt K l) F ds := fun i F2 H2 s1 s2 =>
  ⟨fun d hd => by
    obtain ⟨v, hv, rv⟩ := r.get hd
    have sq := hs H2 (s1.trans s2)
    refine ⟨⟨vs, v, sq, hv⟩, fun x H' y => ?_⟩
    obtain ⟨rfl, y⟩ := y
    have e := y vs sq
    rw [hv] at e; cases e
    exact ⟨F2, .refl s2, rv.mono s1⟩, fun h => ⟨vs, hs H2 (s1.trans s2), by rw [r.length]; exact h⟩⟩
theorem ei_lst (h : EvE X ρ e (.lst ds)) : EvI X ρ tg e ds := .of (pi_list pe_w) fun B F H σ R k q => h B F H σ _ k fun v F' H' x r => by
  cases r with
  | lst hf rl => exact ⟨_, rfl, ⟨_, SqL.of (x.sub _ _ hf)⟩, q _ F' H' x (itl_ok' (fun H2 s2 => SqL.of (s2 _ _ hf)) rl)⟩
theorem ei_tup (h : EvE X ρ e (.tup ds)) : EvI X ρ tg e ds := .of (pi_tup pe_w) fun B F H σ R k q => h B F H σ _ k fun v F' H' x r => by
  cases r with
  | tup hf rl => exact ⟨_, rfl, ⟨_, SqT.of (x.sub _ _ hf)⟩, q _ F' H' x (itt_ok (fun H2 s2 => SqT.of (s2 _ _ hf)) rl)⟩
/-- lo, lo + 1, .. -/
def rangeD (lo : Int) (n : Nat) : List D := (List.range n).map fun (i : Nat) => D.int (lo + (i : Int))
theorem itr_ok {K : PySem.W.Frag} {F : Hp} {lo : Int} {n : Nat} : ItOk K (Itr lo n) F (rangeD lo n) := fun i F2 H2 s1 s2 =>
  ⟨fun d hd => by
    unfold rangeD at hd
    rw [List.getElem?_map] at hd
    have hi : i < n := by
      by_cases h : i < n
      · exact h
      · rw [List.getElem?_eq_none (by simpa using h)] at hd; cases hd
    rw [List.getElem?_range hi] at hd
    cases hd
    refine ⟨hi, fun x H' y => ?_⟩
    obtain ⟨rfl, rfl⟩ := y
    exact ⟨F2, .refl s2, .int _⟩, fun h => by
      have h' : n ≤ i := by simpa [rangeD] using h
      exact h'⟩
theorem ei_range1 (t : At X N sc) {j : Int} {p : Pos} (bl : Blt X sc "range" (.type "range")) (h : EvE X ρ a (.int j)) (h1 : -(2 ^ 62) ≤ j) (h2 : j < 2 ^ 62) (hs : Pl a := by intro _ _; rfl) : EvI X ρ tg (.Call (.Name "range" p) [a] [] pos) (rangeD 0 j.toNat) :=
  .of (pi_range1 (gl_of t bl.g) bl.m (pa_cons pe_w pa_nil (hs _ _)) (hs _ _)) fun B F H σ R k q => h B F H σ _ k fun v F' H' x r => by
    cases r
    exact ⟨j, rfl, h1, h2, q _ F' H' x itr_ok⟩
theorem ei_range2 (t : At X N sc) {i j : Int} {p : Pos} (bl : Blt X sc "range" (.type "range")) (ha : EvE X ρ a (.int i)) (hb : EvE X ρ b (.int j)) (hc : -(2 ^ 62) ≤ i ∧ i < 2 ^ 62 ∧ -(2 ^ 62) ≤ j ∧ j < 2 ^ 62) (hsa : Pl a := by intro _ _; rfl) (hsb : Pl b := by intro _ _; rfl) :
    EvI X ρ tg (.Call (.Name "range" p) [a, b] [] pos) (rangeD i (j - i).toNat) :=
  .of (pi_range2 (gl_of t bl.g) bl.m (pa_cons pe_w (pa_cons pe_w pa_nil (hsb _ _)) (hsa _ _)) (by rw [hsa, hsb]; rfl) (hsb _ _)) fun B F H σ R k q => ha B F H σ _ k fun v F1 H1 x1 r1 => hb B F1 H1 σ _ (k.ext x1) fun w F2 H2 x2 r2 => by
    cases r1; cases r2
    exact ⟨i, j, rfl, hc, q _ F2 H2 (x1.t x2) itr_ok⟩

/-! ### for -/
inductive FRun (X : Cx) (tg : Expr) (body : List Stmt) : List D → Rho → Out → Prop where
  | nil {ρ : Rho} : FRun X tg body [] ρ (.nx ρ)
  | cons {d : D} {ds : List D} {ρ ρ1 ρ2 : Rho} {o : Out} : EvG X ρ tg d ρ1 → EvSs X ρ1 body (.nx ρ2) → FRun X tg body ds ρ2 o → FRun X tg body (d :: ds) ρ o
  | ret {d r : D} {ds : List D} {ρ ρ1 : Rho} : EvG X ρ tg d ρ1 → EvSs X ρ1 body (.rt r) → FRun X tg body (d :: ds) ρ (.rt r)
theorem drop_cons {α : Type} {xs ys : List α} {x : α} {i : Nat} (h : xs.drop i = x :: ys) : xs[i]? = some x ∧ xs.drop (i + 1) = ys ∧ i < xs.length := by
  have hi : i < xs.length := by
    by_cases q : i < xs.length
    · exact q
    · rw [List.drop_eq_nil_of_le (by omega)] at h; cases h
  have e := List.drop_eq_getElem_cons hi
  rw [h] at e
  injection e with e1 e2
  exact ⟨by rw [List.getElem?_eq_getElem hi, e1], e2.symm, hi⟩
theorem s_for (t : At X N sc) {body : List Stmt} {o : Out} (hi : EvI X ρ tg e ds) (h : FRun X tg body ds ρ o) (hs : ∀ x, foldedSetIterable e X.env x = pure x := by intro _; rfl) : EvS X ρ (.For tg e body [] pos) o :=
  .of (ps_for t.pass t.calm pi_w pg_w pss_w hs) fun B F H σ E k q => hi B F H σ _ k fun J F1 H1 x1 J1 => by
    refine ⟨fun i m σ H => ∃ ρ' F', Ok X.K B F' H σ ρ' ∧ Same F1 F' ∧ FRun X tg body (ds.drop i) ρ' o ∧ m = ds.length - i, ⟨ds.length, ρ, F1, k.ext x1, .refl _, by simpa using h, by simp⟩, ?_⟩
    rintro i m σ H ⟨ρ', F', k', sf, run, rfl⟩
    have q' : Post X.K B F' E o := q.later (x1.sf.trans sf)
    have J2 := J1 i F' H sf k'.sub
    generalize e1 : ds.drop i = rest at run
    cases run with
    | nil =>
      have hl : ds.length ≤ i := by
        have := congrArg List.length e1
        rw [List.length_drop, List.length_nil] at this
        omega
      exact .inl ⟨J2.2 hl, q' F' H σ k' (.refl _)⟩
    | @cons d0 ds0 ρ0 ρ1 ρ2 o0 g b r =>
      obtain ⟨hd, hr, hlt⟩ := drop_cons e1
      obtain ⟨go, yl⟩ := J2.1 _ hd
      refine .inr ⟨go, fun σ' H' => ∃ F'', Ok X.K B F'' H' σ' ρ2 ∧ Same F1 F'', fun σ' H' ⟨F'', k'', s''⟩ => ⟨ds.length - (i + 1), by omega, _, F'', k'', s'', by rw [hr]; exact r, rfl⟩, fun x H' y => ?_⟩
      obtain ⟨F2, x2, rx⟩ := yl x H' y
      refine g B F2 H' σ x _ (k'.ext x2) rx fun F3 H3 σ3 k3 s3 => b B F3 H3 σ3 _ k3 fun F4 H4 σ4 k4 s4 => ⟨F4, k4, sf.trans (x2.sf.trans (s3.trans s4))⟩
    | ret g b =>
      obtain ⟨hd, hr, hlt⟩ := drop_cons e1
      obtain ⟨go, yl⟩ := J2.1 _ hd
      refine .inr ⟨go, fun _ _ => False, fun σ' H' z => z.elim, fun x H' y => ?_⟩
      obtain ⟨F2, x2, rx⟩ := yl x H' y
      exact g B F2 H' σ x _ (k'.ext x2) rx fun F3 H3 σ3 k3 s3 => b B F3 H3 σ3 _ k3 q
/-- the loop by the state behind each turn -/
theorem FRun.of (body : List Stmt) (R : Nat → Rho) : ∀ (ds : List D) (i : Nat), (∀ (j : Nat) d, ds[j]? = some d → ∃ ρ1, EvG X (R (i + j)) tg d ρ1 ∧ EvSs X ρ1 body (.nx (R (i + j + 1)))) → FRun X tg body ds (R i) (.nx (R (i + ds.length)))
  | [], i, _ => .nil
  | d :: ds, i, h => by
    obtain ⟨ρ1, h1, h2⟩ := h 0 d rfl
    refine .cons h1 h2 ?_
    have r := FRun.of body R ds (i + 1) fun j e he => by
      have := h (j + 1) e (by simpa using he)
      rw [show i + 1 + j = i + (j + 1) by omega]
      exact this
    rw [show i + (d :: ds).length = i + 1 + ds.length by simp; omega]
    exact r

/-! ### while -/
inductive WRun (X : Cx) (c : Expr) (body : List Stmt) : Nat → Rho → Out → Prop where
  | stop {ρ : Rho} : EvT X ρ c false → WRun X c body 0 ρ (.nx ρ)
  | step {n : Nat} {ρ ρ1 : Rho} {o : Out} : EvT X ρ c true → EvSs X ρ body (.nx ρ1) → WRun X c body n ρ1 o → WRun X c body (n + 1) ρ o
  | ret {ρ : Rho} {r : D} : EvT X ρ c true → EvSs X ρ body (.rt r) → WRun X c body 0 ρ (.rt r)
theorem s_while (t : At X N sc) {body : List Stmt} {o : Out} (h : ∃ n, WRun X c body n ρ o) : EvS X ρ (.While c body [] pos) o :=
  .of (ps_while t.pass pt_w pss_w) fun B F H σ E k q => by
    obtain ⟨n, h⟩ := h
    refine ⟨fun m σ H => ∃ ρ' F', Ok X.K B F' H σ ρ' ∧ Same F F' ∧ WRun X c body m ρ' o, ⟨n, ρ, F, k, .refl _, h⟩, ?_⟩
    rintro m σ H ⟨ρ', F', k', sf, run⟩
    cases run with
    | stop hc =>
      refine hc B F' H σ _ k' fun F1 H1 x1 => ?_
      rw [if_neg Bool.false_ne_true]
      exact q F1 H1 σ (k'.ext x1) (sf.trans x1.sf)
    | @step n0 ρ0 ρ1 o0 hc hb r =>
      refine hc B F' H σ _ k' fun F1 H1 x1 => ?_
      rw [if_pos rfl]
      exact ⟨fun σ' H' => ∃ F'', Ok X.K B F'' H' σ' ρ1 ∧ Same F F'', fun σ' H' ⟨F'', k'', s''⟩ => ⟨_, Nat.lt_succ_self _, _, F'', k'', s'', r⟩, hb B F1 H1 σ _ (k'.ext x1) fun F2 H2 σ2 k2 s2 => ⟨F2, k2, sf.trans (x1.sf.trans s2)⟩⟩
    | ret hc hb =>
      refine hc B F' H σ _ k' fun F1 H1 x1 => ?_
      rw [if_pos rfl]
      exact ⟨fun _ _ => False, fun σ' H' z => z.elim, hb B F1 H1 σ _ (k'.ext x1) q⟩

/-! ### a def -/
/-- the context of a def's body -/
def CxD (P : Program) (w : World) (K : PySem.W.Frag) (mg : Str → Option Value) (base : Heap) (N : List Str) (qual : Str) (sc : Scope) (f : Addr) (cdv : Value) (A : Around) (outer : List Env) (s : Shared) (H : Hp) (E : XK) : Cx :=
  (cxOf CX0 P w K mg base N qual sc f cdv A outer s H E).nox
structure DefX (P : Program) (w : World) (K : PySem.W.Frag) (mg : Str → Option Value) (base : Heap) (k : Nat) (N : List Str) (sc : Scope) (X : Cx) : Prop where
  at' : At X N sc
  prog : X.prog = P
  w' : X.w = w
  k' : X.K = K
  mg' : X.mg = mg
  base' : X.base = base
  room : Room k X.A
  fnT : FnT X
  stk : X.stack = X.env :: X.outer ∧ X.env.frame = some X.env.locals
theorem ok_start {K : PySem.W.Frag} {F H : Hp} {vs : List V} (sub : Same F H) (r : RepL K F vs ds) (n : Nat) : Ok K ⟨F, H⟩ F H (vs.map some ++ List.replicate n none) (ds.map Sl.val ++ List.replicate n Sl.un) := by
  have hl := r.length
  have own : ∀ (i : Nat) xs, (ds.map Sl.val ++ List.replicate n Sl.un)[i]? ≠ some (.own xs) := fun i xs h => by
    by_cases hi : i < ds.length
    · rw [List.getElem?_append_left (by simpa using hi), List.getElem?_map] at h
      cases e : ds[i]? with
      | none => rw [e] at h; cases h
      | some d => rw [e] at h; cases h
    · rw [List.getElem?_append_right (by simpa using hi), List.getElem?_replicate] at h
      split at h <;> cases h
  have ownD : ∀ (i : Nat) xs, (ds.map Sl.val ++ List.replicate n Sl.un)[i]? ≠ some (.dct xs) := fun i xs h => by
    by_cases hi : i < ds.length
    · rw [List.getElem?_append_left (by simpa using hi), List.getElem?_map] at h
      cases e : ds[i]? with
      | none => rw [e] at h; cases h
      | some d => rw [e] at h; cases h
    · rw [List.getElem?_append_right (by simpa using hi), List.getElem?_replicate] at h
      split at h <;> cases h
  refine ⟨.refl sub, by simp [hl], fun i d h => ?_, fun i xs h => absurd h (own i xs), fun i j xs ys a h => absurd h (own i xs), ⟨fun i kvs h => absurd h (ownD i kvs), fun i j xs ys a h => absurd h (ownD i xs)⟩⟩
  by_cases hi : i < ds.length
  · rw [List.getElem?_append_left (by simpa using hi), List.getElem?_map] at h
    cases e : ds[i]? with
    | none => rw [e] at h; cases h
    | some d' =>
      rw [e] at h; cases h
      obtain ⟨v, hv, rv⟩ := r.get e
      exact ⟨v, by rw [List.getElem?_append_left (by rw [List.length_map]; omega), List.getElem?_map, hv]; rfl, rv⟩
  · rw [List.getElem?_append_right (by simpa using hi), List.getElem?_replicate] at h
    split at h <;> cases h
theorem fn_ev {P : Program} (htree : P.given.tree = none) {w : World} {K : PySem.W.Frag} {mg : Str → Option Value} {base : Heap} {x qual : Str} {st : Stmt} {f : Addr} {fd : FuncData} {N ps : List Str} {k : Nat} {C : List D → D → Prop} (F : Fun K x qual st f fd) (S : FnScope N ps (defScope st))
    (len : ∀ ds d, C ds d → ds.length = ps.length)
    (body : ∀ X, DefX P w K mg base k N (defScope st) X → ∀ ds d, C ds d → EvSs X (ds.map Sl.val ++ List.replicate (N.length - ds.length) Sl.un) (defBody st) (.rt d)) : FnOk P w K mg base CX0 (k + 1) f fd ps (spC K C) := by
  refine F.ok S (fun vs H Q E h => ?_) (fun cdv A outer s H vs Q E hr h => ?_)
  · obtain ⟨F', ds, d, sub, r, hC, q⟩ := h
    rw [r.length]; exact len ds d hC
  · obtain ⟨F', ds, d, sub, r, hC, q⟩ := h
    refine ⟨_, pss_w, ?_⟩
    have hx : DefX P w K mg base k N (defScope st) (cxOf CX0 P w K mg base N qual (defScope st) f cdv A outer s H E).nox :=
      ⟨⟨rfl, rfl, rfl, S.nd, rfl, hr.units, hr.dp100, htree, ⟨_, _, rfl, S.gen, S.co, rfl, rfl⟩⟩, rfl, rfl, rfl, rfl, rfl, hr, ⟨fun _ => rfl⟩, rfl, rfl⟩
    have hb := body _ hx ds d hC
    have hk : Ok K ⟨F', H⟩ F' H (start N vs) (ds.map Sl.val ++ List.replicate (N.length - ds.length) Sl.un) := by
      unfold start
      rw [r.length]
      exact ok_start sub r _
    exact hb ⟨F', H⟩ F' H _ _ hk fun v F2 H2 x2 r2 => q v F2 H2 x2 r2
theorem DefX.callee {P : Program} {w : World} {K : PySem.W.Frag} {mg : Str → Option Value} {base : Heap} {k j : Nat} {f : Addr} {fd : FuncData} {ps : List Str} {x : Str} {C : List D → D → Prop} (h : DefX P w K mg base k N sc X)
    (F : FnOk P w K mg base CX0 j f fd ps (spC K C)) (hj : j ≤ k) (hm : mg x = some (.ref f)) (hk : PySem.W.keepIn K (.ref f) = true) (hb : Binds K fd ps []) : Callee X x C := by
  obtain ⟨h0, rfl, rfl, rfl, rfl, rfl, hr, _⟩ := h
  exact ⟨f, fd, ps, j, F, hr.mono hj, hm, hk, hb⟩
end
end L2.EV

set_option linter.all false
set_option autoImplicit false
set_option maxRecDepth 100000
namespace L2.EV
open PySem PySem.Spec PyProof.Rows

/-! ### comprehensions -/
/-- the scope of a comprehension's block: what the def around has in a cell is a cell there -/
def relS (scope sc : Scope) : Scope := { scope with names := scope.names.map fun (n, k) => if (k == .free && sc.kind == .function && sc.names.lookup n == some .cell) then (n, .cell) else (n, k) }
theorem rel_eq {scope : Scope} {env : Env} {sc : Scope} (h : env.scope = sc) : relabel scope env = relS scope sc := by subst h; rfl

/-- the cells that a block takes over -/
theorem clos_of (env : Env) : ∀ (names : List (Str × NameKind)) (cs : List (Str × Addr)), (∀ n, (n, NameKind.free) ∈ names → ∃ c, env.cells.lookup n = some c) →
    (∀ n c, cs.lookup n = some c → env.cells.lookup n = some c) →
    ∃ cl : List (Str × Addr), (forIn (m := Sem) names cs fun (x : Str × NameKind) r => if x.2 == .free then do let c ← cellOf env x.1; pure (ForInStep.yield ((x.1, c) :: r)) else pure (ForInStep.yield r)) = pure cl ∧
      (∀ n c, cl.lookup n = some c → env.cells.lookup n = some c) ∧ (∀ n, (n, NameKind.free) ∈ names → ∃ c, cl.lookup n = some c) ∧ (∀ n c, cs.lookup n = some c → ∃ c', cl.lookup n = some c')
  | [], cs, _, h => ⟨cs, rfl, h, (fun n hn => nomatch hn), fun n c e => ⟨c, e⟩⟩
  | (n, k) :: r, cs, hf, h => by
    rw [List.forIn_cons]
    by_cases hk : k = .free
    · subst hk
      obtain ⟨c, hc⟩ := hf n List.mem_cons_self
      have hcell : cellOf env n = pure c := by unfold cellOf; rw [hc]
      have h' : ∀ m c', ((n, c) :: cs).lookup m = some c' → env.cells.lookup m = some c' := fun m c' e => by
        rw [List.lookup_cons] at e
        cases hm : m == n with
        | true => rw [hm] at e; cases e; rw [eq_of_beq hm]; exact hc
        | false => rw [hm] at e; exact h m c' e
      obtain ⟨cl, e1, e2, e3, e4⟩ := clos_of env r ((n, c) :: cs) (fun m hm => hf m (List.mem_cons_of_mem _ hm)) h'
      refine ⟨cl, ?_, e2, fun m hm => ?_, fun m c' e => ?_⟩
      · show ((do let c ← cellOf env n; pure (ForInStep.yield ((n, c) :: cs))) >>= _ : Sem (List (Str × Addr))) = _
        rw [hcell]
        exact e1
      · rcases List.mem_cons.mp hm with z | z
        · cases z
          exact e4 n c (by rw [List.lookup_cons, beq_self_eq_true])
        · exact e3 m z
      · by_cases hm : m = n
        · subst hm; exact e4 m c (by rw [List.lookup_cons, beq_self_eq_true])
        · exact e4 m c' (by rw [List.lookup_cons, beq_eq_false_iff_ne.mpr hm]; exact e)
    · have hb : (k == NameKind.free) = false := beq_eq_false_iff_ne.mpr hk
      obtain ⟨cl, e1, e2, e3, e4⟩ := clos_of env r cs (fun m hm => hf m (List.mem_cons_of_mem _ hm)) h
      refine ⟨cl, ?_, e2, fun m hm => ?_, e4⟩
      · show ((if (k == NameKind.free) = true then _ else pure (ForInStep.yield cs)) >>= _ : Sem (List (Str × Addr))) = _
        rw [hb, if_neg Bool.false_ne_true]
        exact e1
      · rcases List.mem_cons.mp hm with z | z
        · cases z; exact absurd rfl hk
        · exact e3 m z
theorem closure_of {env : Env} {scope : Scope} (hf : ∀ n, (n, NameKind.free) ∈ scope.names → ∃ c, env.cells.lookup n = some c) :
    ∃ cl : List (Str × Addr), closureFor scope env = pure cl ∧ (∀ n c, cl.lookup n = some c → env.cells.lookup n = some c) ∧ (∀ n, (n, NameKind.free) ∈ scope.names → ∃ c, cl.lookup n = some c) := by
  obtain ⟨cl, e1, e2, e3, _⟩ := clos_of env scope.names [] hf (fun n c e => nomatch e)
  refine ⟨cl, ?_, e2, e3⟩
  show (forIn (m := Sem) scope.names ([] : List (Str × Addr)) (fun (x : Str × NameKind) r => if x.2 == .free then do let c ← cellOf env x.1; pure (ForInStep.yield ((x.1, c) :: r)) else pure (ForInStep.yield r)) >>= fun s => pure s) = pure cl
  rw [e1]; rfl

/-- what must hold of the block's scope: captured names are cells of the def around, its own names are local -/
structure CScope (N : List Str) (sc : Scope) (N' : List Str) (scope : Scope) : Prop where
  kind : scope.kind = .function
  cells : ∀ y ∈ scope.names, y.2 = .cell → scope.names.lookup y.1 = some .cell
  names : ∀ y ∈ scope.names, y.2 = .local → scope.names.lookup y.1 = some .local
  free : ∀ y ∈ scope.names, y.2 = .free → sc.names.lookup y.1 = some .cell
  fun' : sc.kind = .function
  nd : N'.Nodup
  old : ∀ (i : Nat) x, i < N.length → N'[i]? = some x → VisS (relS scope sc) x = true → N[i]? = some x ∧ scope.names.lookup x = some .free
  len : N.length ≤ N'.length

/-- a name of the block's own that a block within takes -/
def ownS (scope : Scope) (x : Str) : Bool := match scope.names.lookup x with
  | some .cell => true
  | _ => false
/-- the cells of a block: those that it takes, and new ones of its own -/
structure FC (names : List (Str × NameKind)) (cells : List (Str × Addr)) (n : Nat) (cl : List (Str × Addr)) (h : Heap) : Prop where
  look : ∀ m c, cl.lookup m = some c → (cells.lookup m = some c ∧ ¬ (m, NameKind.cell) ∈ names) ∨ (n ≤ c ∧ (m, NameKind.cell) ∈ names ∧ h.IsCell c none)
  has : ∀ m, ((m, NameKind.cell) ∈ names ∨ ∃ c, cells.lookup m = some c) → ∃ c, cl.lookup m = some c
  inj : ∀ x y c, n ≤ c → cl.lookup x = some c → cl.lookup y = some c → x = y
theorem forIn_cells {M : Model} {A : Around} {E : Value → Shared → Prop} : ∀ (names : List (Str × NameKind)) (cells : List (Str × Addr)) (s : Shared) (Q : List (Str × Addr) → Shared → Prop), (∀ m c, cells.lookup m = some c → c < s.heap.objs.size) →
    (∀ cl h, (∀ b o, s.heap.get? b = some o → h.get? b = some o) → FC names cells s.heap.objs.size cl h → Q cl { s with heap := h }) →
    wpAny M A (forIn names cells fun x __s => match x with
      | (name, kind) => if (kind == NameKind.cell) = true then do
          let a ← alloc { cls := Value.type "cell", data := Data.cell none }
          pure (ForInStep.yield ((name, a) :: __s))
        else pure (ForInStep.yield __s)) Q E s
  | [], cells, s, Q, hb, q => by
    refine wpAny_pure (q cells s.heap (fun _ _ e => e) ⟨fun m c e => .inl ⟨e, fun z => nomatch z⟩, fun m hm => hm.elim (fun z => nomatch z) id, fun x y c hc e _ => absurd (hb x c e) (Nat.not_lt_of_le hc)⟩)
  | (name, kind) :: rest, cells, s, Q, hb, q => by
    rw [List.forIn_cons]
    by_cases hk : kind = .cell
    · subst hk
      refine wpAny_bind ?_
      show wpAny M A (alloc _ >>= _) _ _ s
      refine wpAny_bind (wpAny_alloc (wpAny_pure ?_))
      have hsz : (s.heap.push { cls := Value.type "cell", data := Data.cell none }).objs.size = s.heap.objs.size + 1 := by rw [Heap.size_push]
      refine forIn_cells rest _ _ _ (fun m c e => ?_) fun cl h kp f => q cl h (fun b o e => kp b o (Heap.get?_push_of_some _ e)) ⟨fun m c e => ?_, fun m hm => f.has m ?_, fun x y c hc ex ey => ?_⟩
      · show c < (s.heap.push { cls := Value.type "cell", data := Data.cell none }).objs.size
        rw [hsz]
        rw [List.lookup_cons] at e
        split at e
        · cases e; exact Nat.lt_succ_self _
        · exact Nat.lt_succ_of_lt (hb m c e)
      · have f' := f.look m c e
        rcases f' with ⟨e1, e2⟩ | ⟨e1, e2, e3⟩
        · rw [List.lookup_cons] at e1
          split at e1
          · rename_i hm
            cases e1
            have hm' : m = name := by simpa using hm
            subst hm'
            exact .inr ⟨Nat.le_refl _, by simp, ⟨_, kp _ _ (Heap.get?_push_size _ rfl), rfl⟩⟩
          · rename_i hm
            have hm' : m ≠ name := by simpa using hm
            exact .inl ⟨e1, fun z => by
              rcases List.mem_cons.mp z with z | z
              · exact hm' (congrArg Prod.fst z)
              · exact e2 z⟩
        · have e1' : s.heap.objs.size + 1 ≤ c := by rw [← hsz]; exact e1
          exact .inr ⟨by omega, by simp [e2], e3⟩
      · rcases hm with hm | ⟨c, hc⟩
        · rcases List.mem_cons.mp hm with z | z
          · right
            have : m = name := congrArg Prod.fst z
            subst this
            exact ⟨s.heap.objs.size, by rw [List.lookup_cons]; simp⟩
          · exact .inl z
        · right
          rw [List.lookup_cons]
          split
          · exact ⟨_, rfl⟩
          · exact ⟨c, hc⟩
      · by_cases hc' : s.heap.objs.size + 1 ≤ c
        · exact f.inj x y c (by show (s.heap.push _).objs.size ≤ c; rw [hsz]; exact hc') ex ey
        · have one : ∀ z, cl.lookup z = some c → z = name := fun z ez => by
            rcases f.look z c ez with ⟨e1, _⟩ | ⟨e1, _⟩
            · rw [List.lookup_cons] at e1
              split at e1
              · rename_i hm; simpa using hm
              · exact absurd (hb z c e1) (Nat.not_lt_of_le hc)
            · exact absurd (show s.heap.objs.size + 1 ≤ c from Nat.le_trans (Nat.le_of_eq hsz.symm) e1) hc'
          rw [one x ex, one y ey]
    · have hk' : (kind == NameKind.cell) = false := by simpa using hk
      have mem : ∀ m, (m, NameKind.cell) ∈ (name, kind) :: rest ↔ (m, NameKind.cell) ∈ rest := fun m => by
        constructor
        · intro z
          rcases List.mem_cons.mp z with z | z
          · exact absurd (congrArg Prod.snd z).symm hk
          · exact z
        · intro z; simp [z]
      refine wpAny_bind ?_
      show wpAny M A (if (kind == NameKind.cell) = true then _ else _) _ _ s
      rw [hk', if_neg Bool.false_ne_true]
      refine wpAny_pure (forIn_cells rest cells s Q hb fun cl h kp f => q cl h kp ⟨fun m c e => ?_, fun m hm => f.has m ?_, f.inj⟩)
      · rw [mem]; exact f.look m c e
      · rw [mem] at hm; exact hm
theorem newEnv_comp {M : Model} {A : Around} {E : Value → Shared → Prop} {s : Shared} {scope : Scope} {env : Env} {cl : List (Str × Addr)} {Q : Env → Shared → Prop} (hb : ∀ m c, cl.lookup m = some c → c < s.heap.objs.size)
    (h : ∀ cl' h', (∀ b o, s.heap.get? b = some o → h'.get? b = some o) → (∃ m, h'.Ns s.heap.objs.size m) → FC scope.names cl s.heap.objs.size cl' h' → Q { scope := scope, locals := s.heap.objs.size, globals := env.globals, cells := cl', qual := env.qual, func := none, code := env.code, frame := env.frame, builtins := env.builtins } { s with heap := h' }) :
    wpAny M A (newFunctionEnv scope env.globals cl [] env.qual none .none (some env)) Q E s := by
  unfold newFunctionEnv
  refine wpAny_bind (wpAny_alloc ?_)
  have hsz : (s.heap.push { cls := Value.type "dict", data := Data.dict #[] }).objs.size = s.heap.objs.size + 1 := by rw [Heap.size_push]
  refine wpAny_bind (forIn_cells scope.names cl _ _ (fun m c e => ?_) fun cl' h' kp f => ?_)
  · show c < (s.heap.push { cls := Value.type "dict", data := Data.dict #[] }).objs.size
    rw [hsz]; exact Nat.lt_succ_of_lt (hb m c e)
  · refine wpAny_bind (wpAny_pure (wpAny_pure ?_))
    obtain ⟨o, es, ep, g1, g2, g3, g4⟩ := Heap.Ns.new s.heap (.type "dict")
    refine h cl' h' (fun b o e => kp b o (Heap.get?_push_of_some _ e)) ⟨_, o, es, ep, kp _ _ g1, g2, g3, g4⟩ ⟨fun m c e => ?_, f.has, fun x y c hc ex ey => ?_⟩
    · rcases f.look m c e with z | ⟨z1, z2, z3⟩
      · exact .inl z
      · have z1' : s.heap.objs.size + 1 ≤ c := Nat.le_trans (Nat.le_of_eq hsz.symm) z1
        exact .inr ⟨Nat.le_of_succ_le z1', z2, z3⟩
    · by_cases hc' : s.heap.objs.size + 1 ≤ c
      · exact f.inj x y c (Nat.le_trans (Nat.le_of_eq hsz) hc') ex ey
      · have e : c = s.heap.objs.size := Nat.le_antisymm (Nat.le_of_lt_succ (Nat.lt_of_not_le hc')) hc
        rcases f.look x c ex with ⟨z, _⟩ | ⟨z, _⟩
        · exact absurd (hb x c z) (Nat.not_lt_of_le hc)
        · have z' : s.heap.objs.size + 1 ≤ c := Nat.le_trans (Nat.le_of_eq hsz.symm) z
          exact absurd z' hc'
/-- the block's context, whatever the mode -/
structure CompX0 (X X' : Cx) (N' : List Str) (sc' : Scope) (ow : Str → Bool) : Prop where
  at0 : At0 X' N' sc'
  cal : X'.calm = X.calm
  prog : X'.prog = X.prog
  w' : X'.w = X.w
  k' : X'.K = X.K
  mg' : X'.mg = X.mg
  base' : X'.base = X.base
  a' : X'.A = X.A
  fn' : ∀ x, ow x = true → X'.fn x = true
/-- the block's context -/
structure CompX (X X' : Cx) (N' : List Str) (sc' : Scope) (ow : Str → Bool) : Prop where
  at' : At X' N' sc'
  prog : X'.prog = X.prog
  w' : X'.w = X.w
  k' : X'.K = X.K
  mg' : X'.mg = X.mg
  base' : X'.base = X.base
  a' : X'.A = X.A
  fn' : ∀ x, ow x = true → X'.fn x = true
section
variable {X X' : Cx} {N N' : List Str} {sc sc' : Scope} {ow : Str → Bool}
theorem CompX0.calm (h : CompX0 X X' N' sc' ow) (hc : X.calm = true) : CompX X X' N' sc' ow := ⟨h.at0.at (h.cal.trans hc), h.prog, h.w', h.k', h.mg', h.base', h.a', h.fn'⟩
theorem CompX.callee {x : Str} {C : List D → D → Prop} (h : CompX X X' N' sc' ow) (c : Callee X x C) : Callee X' x C := by
  obtain ⟨f, fd, ps, k, F, hr, hm, hk, hb⟩ := c
  refine ⟨f, fd, ps, k, ?_, ?_, ?_, ?_, ?_⟩
  · rw [h.prog, h.w', h.k', h.mg', h.base']; exact F
  · rw [h.a']; exact hr
  · rw [h.mg']; exact hm
  · rw [h.k']; exact hk
  · rw [h.k']; exact hb
end

/-- a block's run: item by item -/
inductive CRun (X : Cx) (tg elt : Expr) (ifs : List Expr) : List D → Rho → List D → Prop where
  | nil {ρ : Rho} : CRun X tg elt ifs [] ρ []
  | take {d r : D} {ds rs : List D} {ρ ρ1 : Rho} : EvGn X ρ tg d ρ1 → (ifs = [] ∨ ∃ c, ifs = [c] ∧ EvT X ρ1 c true) → EvE X ρ1 elt r → CRun X tg elt ifs ds ρ1 rs → CRun X tg elt ifs (d :: ds) ρ (r :: rs)
  | skip {d : D} {ds rs : List D} {ρ ρ1 : Rho} {c : Expr} : EvGn X ρ tg d ρ1 → ifs = [c] → EvT X ρ1 c false → CRun X tg elt ifs ds ρ1 rs → CRun X tg elt ifs (d :: ds) ρ rs

section
variable {prog : Program} {w : World} {A : Around} {R : Result → Shared → Prop} {s : Shared}
/-- the loop of a block, whatever its target -/
theorem compLoop_any {elt target iter : Expr} {ifs : List Expr} {scope : Scope} {pos : Pos} {it acc : Value} {env : Env} (I : Nat → Shared → Prop)
    (turn : ∀ n s, I n s → wpAny (model prog w) A (pyNext it) (fun r s₁ => match r with
      | none => R (.ok .next) s₁
      | some v => wpAny (model prog w) A (letOwnedTupleGo target it v) (fun _ s₀ => wpAny (model prog w) A (assign target env v) (fun _ s₂ =>
          wpAny (model prog w) A (forIn ifs true fun c r => if r = true then do let ok ← isTrue c env (eval c env); pure (ForInStep.yield ok) else pure (ForInStep.yield r)) (fun ok s₃ =>
            if ok = true then wpAny (model prog w) A (eval elt env) (fun x s₄ =>
              wpAny (model prog w) A (call (.builtin "list.append") [acc, x]) (fun _ s₅ => ∃ m, m < n ∧ I m s₅) (fun _ _ => False) s₄) (fun _ _ => False) s₃
            else ∃ m, m < n ∧ I m s₃) (fun _ _ => False) s₂) (fun _ _ => False) s₀) (fun _ _ => False) s₁) (fun _ _ => False) s)
    (n : Nat) (h : I n s) :
    codeAny (model prog w) A (.compLoop (.ListComp elt [⟨target, iter, ifs, 0⟩] scope pos) 0 it acc env) R s := by
  refine codeAny_loop rfl I (fun n s hI => ?_) n h
  show wpAny _ A ((compTurn (.ListComp elt [⟨target, iter, ifs, 0⟩] scope pos) 0 it acc env).onRaise (fun x => do noteFrame x env; theTreesLotGoes x)) _ _ s
  refine wpAny_noted ?_
  rw [compTurn_list]
  refine wpAny_bind (wpAny_standAt (wpAny_bind (wpAny_mono (turn n s hI) (fun r s₁ h₁ => ?_) fun _ _ h' => h'.elim)))
  cases r with
  | none => exact wpAny_pure h₁
  | some v =>
    refine wpAny_bind (wpAny_mono h₁ (fun _ s₀ h₀ => wpAny_bind (wpAny_mono h₀ (fun _ s₂ h₂ => wpAny_bind (wpAny_mono h₂ (fun ok s₃ h₃ => ?_) fun _ _ h' => h'.elim)) fun _ _ h' => h'.elim)) fun _ _ h' => h'.elim)
    cases ok with
    | false => exact wpAny_pure ⟨rfl, h₃⟩
    | true =>
      exact wpAny_bind (wpAny_bind (wpAny_mono h₃ (fun x s₄ h₄ => wpAny_bind (wpAny_mono h₄ (fun _ s₅ h₅ => wpAny_pure (wpAny_pure ⟨rfl, h₅⟩)) fun _ _ h' => h'.elim)) fun _ _ h' => h'.elim))
end

theorem Ok.chgFree {K : PySem.W.Frag} {B : B0} {F H : Hp} {σ : St} {ρ : Rho} {p : Addr} {o : HO} (k : Ok K B F H σ ρ) (hf : F p = none) (hb : B.H p = none) (hn : NoOwn σ ρ p) (hl : ∃ vs, H p = some (.lst vs)) : Ok K B F (upd H p o) σ ρ := by
  refine ⟨⟨fun b u q => ?_, fun b u q => ?_, k.sf, k.nw⟩, k.len, k.vals, fun i xs e => ?_, k.dist, k.dic.to (.refl _) (fun b φ e1 e2 _ => ⟨by rw [upd_ne (fun z => by subst z; obtain ⟨vs, hl⟩ := hl; rw [hl] at e1; cases e1)]; exact e1, e2⟩) fun _ _ e => ⟨e, rfl⟩⟩
  · have ne : b ≠ p := fun z => by subst z; rw [hf] at q; cases q
    rw [upd_ne ne]; exact k.sub b u q
  · have ne : b ≠ p := fun z => by subst z; rw [hb] at q; cases q
    rw [upd_ne ne]; exact k.sh b u q
  · obtain ⟨a, vs, h1, h2, h3, h4, h5⟩ := k.owns i xs e
    have ne : a ≠ p := fun z => by subst z; exact hn i xs e h1
    exact ⟨a, vs, h1, by rw [upd_ne ne]; exact h2, h3, h4, h5⟩
theorem Ok.more {K : PySem.W.Frag} {B : B0} {F H : Hp} {σ : St} {ρ : Rho} (k : Ok K B F H σ ρ) (n : Nat) : Ok K B F H (σ ++ List.replicate n none) (ρ ++ List.replicate n .un) := by
  have get : ∀ (i : Nat) s, (ρ ++ List.replicate n Sl.un)[i]? = some s → s ≠ .un → ρ[i]? = some s ∧ (σ ++ List.replicate n none)[i]? = σ[i]? := fun i s h hn => by
    by_cases hi : i < ρ.length
    · rw [List.getElem?_append_left hi] at h
      exact ⟨h, List.getElem?_append_left (by rw [k.len]; exact hi)⟩
    · rw [List.getElem?_append_right (by omega), List.getElem?_replicate] at h
      split at h
      · cases h; exact absurd rfl hn
      · cases h
  refine ⟨k.toExt, by simp [k.len], fun i d h => ?_, fun i xs h => ?_, fun i j xs ys a h1 h2 h3 h4 => ?_, k.dic.to (.refl _) (fun _ _ e1 e2 _ => ⟨e1, e2⟩) fun i kvs h => get i _ h fun z => nomatch z⟩
  · obtain ⟨e1, e2⟩ := get i _ h fun z => nomatch z
    rw [e2]; exact k.vals i d e1
  · obtain ⟨e1, e2⟩ := get i _ h fun z => nomatch z
    rw [e2]; exact k.owns i xs e1
  · obtain ⟨e1, e2⟩ := get i _ h1 fun z => nomatch z
    obtain ⟨g1, g2⟩ := get j _ h2 fun z => nomatch z
    rw [e2] at h3; rw [g2] at h4
    exact k.dist i j xs ys a e1 g1 h3 h4
theorem lookup_mem {names : List (Str × NameKind)} {x : Str} {k : NameKind} (h : names.lookup x = some k) : (x, k) ∈ names := PySem.mem_of_lookup h
theorem rel_lookup {scope sc : Scope} (hf : sc.kind = .function) (fr : ∀ y ∈ scope.names, y.2 = .free → sc.names.lookup y.1 = some .cell) {x : Str} {k : NameKind} (h : (relS scope sc).names.lookup x = some k) :
    ∃ k', scope.names.lookup x = some k' ∧ (k' = .free → k = .cell) ∧ (k' ≠ .free → k = k') := by
  have go : ∀ names : List (Str × NameKind), (∀ y ∈ names, y.2 = .free → sc.names.lookup y.1 = some .cell) → (names.map fun (n, k) => if (k == NameKind.free && sc.kind == .function && sc.names.lookup n == some .cell) then (n, NameKind.cell) else (n, k)).lookup x = some k →
      ∃ k', names.lookup x = some k' ∧ (k' = .free → k = .cell) ∧ (k' ≠ .free → k = k') := by
    intro names
    induction names with
    | nil => intro _ h; cases h
    | cons y r ih =>
      intro fr h
      obtain ⟨n, kk⟩ := y
      have hr := ih fun y hy => fr y (List.mem_cons_of_mem _ hy)
      by_cases hkk : kk = .free
      · subst hkk
        have hc := fr (n, .free) List.mem_cons_self rfl
        have e : (if (NameKind.free == NameKind.free && sc.kind == .function && sc.names.lookup n == some .cell) = true then (n, NameKind.cell) else (n, NameKind.free)) = (n, NameKind.cell) := by
          have hc' : sc.names.lookup n = some .cell := hc
          rw [hc', hf]; rfl
        rw [List.map_cons] at h
        simp only [e] at h
        rw [List.lookup_cons] at h ⊢
        cases hx : x == n with
        | true => rw [hx] at h; cases h; exact ⟨.free, rfl, fun _ => rfl, fun z => absurd rfl z⟩
        | false => rw [hx] at h; exact hr h
      · have e : (if (kk == NameKind.free && sc.kind == .function && sc.names.lookup n == some .cell) = true then (n, NameKind.cell) else (n, kk)) = (n, kk) := by
          have hb : (kk == NameKind.free) = false := beq_eq_false_iff_ne.mpr hkk
          rw [hb]; rfl
        rw [List.map_cons] at h
        simp only [e] at h
        rw [List.lookup_cons] at h ⊢
        cases hx : x == n with
        | true => rw [hx] at h; cases h; exact ⟨_, rfl, fun z => absurd z hkk, fun _ => rfl⟩
        | false => rw [hx] at h; exact hr h
  exact go scope.names fr h
end L2.EV

set_option linter.all false
set_option autoImplicit false
set_option maxRecDepth 100000
namespace L2.EV
open PySem PySem.Spec PyProof.Rows

/-- the context of a comprehension's block -/
def cxC (X : Cx) (N' : List Str) (scope : Scope) (cl : List (Str × Addr)) (C : Addr) (s3 : Shared) (H3 : Hp) (fp : List Addr) : Cx :=
  { X with N := N', s₀ := s3, H₀ := H3, env := compEnvC scope cl C X.env, outer := X.stack, stack := X.stack, ex := fp, fn := ownS scope, pn := [], xe := fun _ _ => False }

section
variable {X : Cx} {N N' : List Str} {sc scope : Scope} {ρ : Rho} {tg elt iter : Expr} {ifs : List Expr} {pos : Pos} {pins : List (Addr × Obj)} {σ : St} {B : B0} {F2 H2 : Hp} {s2 : Shared} {it : Addr} {fp : List Addr} {tn : Nat → Heap → Prop} {J : It} {ds rs : List D}

theorem cxC_ok {s3 : Shared} {H3 : Hp} {cl cl0 : List (Str × Addr)} (t : At0 X N sc) (S : CScope N sc N' scope) (I3 : Inv X pins σ H3 s3) (hc1 : ∀ n c, cl0.lookup n = some c → X.env.cells.lookup n = some c) (hc2 : ∀ n, (n, NameKind.free) ∈ scope.names → ∃ c, cl0.lookup n = some c) {h₁ : Heap} (CN : FC scope.names cl0 s3.heap.objs.size cl h₁)
    (fo : ∀ b ∈ fp, FpOk X pins H3 b) (fl : ∀ b ∈ fp, b < s3.heap.objs.size) : (cxC X N' scope cl s3.heap.objs.size s3 H3 fp).Ok := by
  refine ⟨I3.ok.mod, ?_, I3.ok.glob, I3.ok.blt, Nat.le_refl _, fun x y c h1 h2 => ?_, fun x hx => ?_, (fun x c hf h => ?_), I3.ok.hd, I3.ok.frames, .inl rfl, fun b hb => ⟨?_, fun x c h => ?_⟩, I3.bs, Nat.le_trans I3.ok.bsz I3.sz, fun b o h hb => ?_, fun b hb h => ?_, I3.stack, I3.stkFree⟩
  · exact S.kind
  · by_cases hc : s3.heap.objs.size ≤ c
    · exact CN.inj x y c hc h1 h2
    · have old : ∀ z, cl.lookup z = some c → X.env.cells.lookup z = some c := fun z ez => by
        rcases CN.look z c ez with ⟨e, _⟩ | ⟨e, _⟩
        · exact hc1 z c e
        · exact absurd e hc
      exact I3.ok.inj x y c (old x h1) (old y h2)
  · have hx' : (relabel scope X.env).names.lookup x = some .cell ∨ (relabel scope X.env).names.lookup x = some .free := hx
    rw [rel_eq t.eS] at hx'
    have hk : ∃ k, (k = NameKind.cell ∨ k = .free) ∧ (relS scope sc).names.lookup x = some k := by
      rcases hx' with h | h
      · exact ⟨_, .inl rfl, h⟩
      · exact ⟨_, .inr rfl, h⟩
    obtain ⟨k, hk, h⟩ := hk
    obtain ⟨k', h1, h2, h3⟩ := rel_lookup S.fun' S.free h
    by_cases hf : k' = .free
    · subst hf; exact CN.has x (.inr (hc2 x (lookup_mem h1)))
    · have e := h3 hf
      rcases hk with hk | hk
      · have e' : k' = .cell := e.symm.trans hk
        subst e'
        exact CN.has x (.inl (lookup_mem h1))
      · exact absurd (e.symm.trans hk) hf
  · have hm : (x, NameKind.cell) ∈ scope.names := by
      have hf' : ownS scope x = true := hf
      unfold ownS at hf'
      cases e : scope.names.lookup x with
      | none => rw [e] at hf'; cases hf'
      | some kk => rw [e] at hf'; cases kk <;> first | exact lookup_mem e | cases hf'
    rcases CN.look x c h with ⟨_, e⟩ | ⟨e, _⟩
    · exact absurd hm e
    · exact e
  · exact Nat.ne_of_lt (fl b hb)
  · rcases CN.look x c h with ⟨e, _⟩ | ⟨e, _⟩
    · exact (fo b hb).2.2.2.2.1 x c (hc1 x c e)
    · exact fun z => absurd (fl b hb) (by rw [← z]; exact Nat.not_lt_of_le e)
  · rcases (fo b hb).2.2.2.1 with z | z
    · exact I3.ok.noex b o h z
    · have h1 := Heap.lt_size h
      have h2 := I3.ok.bsz
      exact absurd (Nat.lt_of_lt_of_le h1 (Nat.le_trans h2 z)) (Nat.lt_irrefl _)
  · have h' : b ∈ frs X.stack := h
    rcases List.mem_cons.mp (I3.stkSub b h') with z | z
    · exact (fo b hb).2.1 z
    · exact (fo b hb).2.2.1 z

theorem cxC_inv {s3 : Shared} {H3 : Hp} {cl cl0 : List (Str × Addr)} {tk : Nat} (t : At0 X N sc) (S : CScope N sc N' scope) (I3 : Inv X pins σ H3 s3) (hc1 : ∀ n c, cl0.lookup n = some c → X.env.cells.lookup n = some c) (hc2 : ∀ n, (n, NameKind.free) ∈ scope.names → ∃ c, cl0.lookup n = some c) {h₁ : Heap} (CN : FC scope.names cl0 s3.heap.objs.size cl h₁)
    (fo : ∀ b ∈ fp, FpOk X pins H3 b) (fl : ∀ b ∈ fp, b < s3.heap.objs.size) (hns : ∃ m, h₁.Ns s3.heap.objs.size m) (kp : ∀ b o, s3.heap.get? b = some o → h₁.get? b = some o) :
    Inv (cxC X N' scope cl s3.heap.objs.size s3 H3 fp) [] (σ ++ List.replicate (N'.length - N.length) none) H3 { s3 with heap := h₁, toks := tk } := by
  obtain ⟨m, hm⟩ := hns
  have hlen : σ.length = N.length := by rw [I3.len, t.eN]
  refine ⟨cxC_ok t S I3 hc1 hc2 CN fo fl, rfl, I3.bare, Un.kept kp, ⟨m, hm, fun i x v h1 h2 h3 => ?_⟩, fun x c h => ?_, I3.hok.fresh (Nat.le_refl _), fun x c h => (CN.look x c h).elim (fun z => I3.freeC x c (hc1 x c z.1)) (fun z => I3.hok.fresh z.1), (fun p hp => nomatch hp), I3.hok.kept kp, ?_⟩
  · have hi : i < σ.length := by
      by_cases hi : i < σ.length
      · exact hi
      · rw [List.getElem?_append_right (by omega), List.getElem?_replicate] at h2
        split at h2 <;> cases h2
    rw [List.getElem?_append_left hi] at h2
    have h3' : Vis (relS scope sc) x := by rw [← rel_eq t.eS]; exact h3
    have hv : VisS (relS scope sc) x = true := by
      unfold VisS
      rcases h3' with z | z | z <;> rw [z]
    obtain ⟨e1, e2⟩ := S.old i x (by omega) h1 hv
    have hcell : sc.names.lookup x = some .cell := S.free _ (lookup_mem e2) rfl
    obtain ⟨m0, hn0, hl0⟩ := I3.loc
    obtain ⟨u, ru, lk⟩ := hl0 i x v (by rw [t.eN]; exact e1) h2 (by rw [t.eS]; exact .inr (.inl hcell))
    refine ⟨u, ru, ?_⟩
    have hkx : X.env.kindOf x = some .cell := by show X.env.scope.names.lookup x = _; rw [t.eS]; exact hcell
    rcases lk with ⟨k, _⟩ | ⟨_, c, hc, hcc⟩
    · rw [hkx] at k; cases k
    · obtain ⟨c', hc'⟩ := CN.has x (.inr (hc2 x (lookup_mem e2)))
      have ho : cl0.lookup x = some c' := by
        rcases CN.look x c' hc' with ⟨z, _⟩ | ⟨_, z, _⟩
        · exact z
        · have z' := S.cells _ z rfl
          rw [e2] at z'; cases z'
      have e : c' = c := Option.some.inj ((hc1 x c' ho).symm.trans hc)
      subst e
      refine .inr ⟨?_, c', hc', ?_⟩
      · show (relabel scope X.env).names.lookup x = _ ∨ (relabel scope X.env).names.lookup x = _
        rw [rel_eq t.eS]
        rcases h3' with z | z | z
        · obtain ⟨k', g1, g2, g3⟩ := rel_lookup S.fun' S.free z
          by_cases hk' : k' = .free
          · have := g2 hk'; cases this
          · have e := g3 hk'
            subst e
            rw [e2] at g1
            cases g1
        · exact .inl z
        · exact .inr z
      · obtain ⟨oc, ho, hd⟩ := hcc
        exact ⟨oc, kp _ _ ho, hd⟩
  · rcases CN.look x c h with ⟨z, _⟩ | ⟨_, _, z⟩
    · obtain ⟨v, oc, ho, hd⟩ := I3.cell x c (hc1 x c z)
      exact ⟨v, oc, kp _ _ ho, hd⟩
    · exact ⟨_, z⟩
  · show (σ ++ List.replicate (N'.length - N.length) none).length = N'.length
    have := S.len
    rw [List.length_append, List.length_replicate, hlen]
    omega
end
end L2.EV

set_option linter.all false
set_option autoImplicit false
set_option maxRecDepth 100000
namespace L2.EV
open PySem PySem.Spec PyProof.Rows

/-- the block's list has come: where, and what stands -/
def CEnd (X : Cx) (pins : List (Addr × Obj)) (σ : St) (F2 H2 : Hp) (rs : List D) (D' C : Addr) (s' : Shared) : Prop :=
  ∃ (F' H' : Hp) (vs : List V) (m : Str → Option Value), Inv X pins σ H' s' ∧ s'.heap.Ns C m ∧ H' C = none ∧ C ≠ X.env.locals ∧ X.s₀.heap.objs.size ≤ C ∧ (∀ x c, X.env.cells.lookup x = some c → c ≠ C) ∧ (∀ p ∈ X.pn ++ pins, p.1 ≠ C) ∧
    Ext ⟨F2, H2⟩ F' H' ∧ H2 D' = none ∧ H' D' = some (.lst vs) ∧ F' D' = none ∧ RepL X.K F' vs rs ∧ D' ≠ C

section
variable {X : Cx} {N N' : List Str} {sc scope : Scope} {ρ : Rho} {tg elt iter : Expr} {ifs : List Expr} {pos : Pos} {pins : List (Addr × Obj)} {σ : St} {B : B0} {F2 H2 : Hp} {s2 : Shared} {it : Addr} {fp : List Addr} {tn : Nat → Heap → Prop} {J : It} {ds rs : List D}
theorem comp_run2 {cl cl0 : List (Str × Addr)} {s3 : Shared} {DD C : Addr} {h₁ : Heap} {tk : Nat} (t : At0 X N sc) (md : X.calm = true ∨ (J.hot ∧ HotH X.A H2)) (S : CScope N sc N' scope) (hC : s3.heap.objs.size = C) (hDC : DD ≠ C) (I3 : Inv X pins σ (upd H2 DD (.lst [])) s3) (hD0 : H2 DD = none)
    (fo3 : ∀ b ∈ fp, FpOk X pins (upd H2 DD (.lst [])) b) (fl3 : ∀ b ∈ fp, b < s3.heap.objs.size) (T : Turn X.prog X.w X.K tg J fp it tn) (tn3 : tn 0 s3.heap)
    (hns₁ : ∃ m, h₁.Ns s3.heap.objs.size m) (kp4 : ∀ b o, s3.heap.get? b = some o → h₁.get? b = some o)
    (k2 : Ok X.K B F2 H2 σ ρ) (JO : ItOk X.K J F2 ds) (hz : ds.length < sizeLine)
    (hc1 : ∀ n c, cl0.lookup n = some c → X.env.cells.lookup n = some c) (hc2 : ∀ n, (n, NameKind.free) ∈ scope.names → ∃ c, cl0.lookup n = some c) (CN : FC scope.names cl0 s3.heap.objs.size cl h₁)
    (run : ∀ X', CompX0 X X' N' (relS scope sc) (ownS scope) → CRun X' tg elt ifs ds (ρ ++ List.replicate (N'.length - N.length) .un) rs)
    {RR : Value → Addr → Result → Shared → Prop} (hRR : ∀ D' C s', CEnd X pins σ F2 H2 rs D' C s' → RR (.ref D') C (.ok .next) s') :
    codeAny (model X.prog X.w) X.A (.compStart (.ListComp elt [⟨tg, iter, ifs, 0⟩] scope pos) 0 (.ref it) (.ref DD) (compEnvC scope cl C X.env)) (RR (.ref DD) C) { s3 with heap := h₁, toks := tk } := by
  have I4 : Inv (cxC X N' scope cl C s3 (upd H2 DD (.lst [])) fp) [] (σ ++ List.replicate (N'.length - N.length) none) (upd H2 DD (.lst [])) { s3 with heap := h₁, toks := tk } := by
    have q := cxC_inv (N' := N') (tk := tk) (fp := fp) t S I3 hc1 hc2 CN fo3 fl3 hns₁ kp4
    rw [hC] at q
    exact q
  generalize hX' : cxC X N' scope cl C s3 (upd H2 DD (.lst [])) fp = X' at I4
  have cx : CompX0 X X' N' (relS scope sc) (ownS scope) := by
    subst hX'
    exact ⟨⟨rfl, rel_eq t.eS, S.nd, rfl, t.un, t.dp, t.tree, t.fr⟩, rfl, rfl, rfl, rfl, rfl, rfl, rfl, fun x hx => hx⟩
  have md' : X'.calm = true ∨ (J.hot ∧ HotX X') := by
    rcases md with z | ⟨z, ea, oe, u, vs, k1, k2, k3, k4⟩
    · exact .inl (cx.cal.trans z)
    · refine .inr ⟨z, ea, oe, u, vs, by rw [cx.a']; exact k1, ?_, k3, k4⟩
      have e : X'.H₀ = upd H2 DD (.lst []) := by subst hX'; rfl
      rw [e, upd_ne (ne_of_none k2 hD0)]; exact k2
  have run' := run X' cx
  have eP : X'.prog = X.prog := cx.prog
  have eW : X'.w = X.w := cx.w'
  have eA : X'.A = X.A := cx.a'
  have eK : X'.K = X.K := cx.k'
  have eEnv : X'.env = compEnvC scope cl C X.env := by subst hX'; rfl
  have eX : X'.xe = fun _ _ => False := cx.at0.nox
  have eEx : X'.ex = fp := by subst hX'; rfl
  have ePn : X'.pn = [] := by subst hX'; rfl
  have k4 : Ok X.K B F2 (upd H2 DD (.lst [])) (σ ++ List.replicate (N'.length - N.length) none) (ρ ++ List.replicate (N'.length - N.length) .un) := (k2.growH hD0).more _
  have no4 : NoOwn (σ ++ List.replicate (N'.length - N.length) none) (ρ ++ List.replicate (N'.length - N.length) .un) DD := (k2.more _).noOwn hD0
  have bD : B.H DD = none := k2.sh.free hD0
  have fD : F2 DD = none := k2.sub.free hD0
  have fp4 : ∀ {H' : Hp}, (∀ b ∈ fp, H' b = none) → ∀ b ∈ fp, FpOk X' [] H' b := fun {H'} hn b hb => by
    refine ⟨hn b hb, ?_, ?_, .inl (by rw [eEx]; exact hb), fun x c h => ?_, fun p hp => ?_⟩
    · exact (I4.ok.exf b (by rw [eEx]; exact hb)).1
    · exact I4.ok.exfs b (by rw [eEx]; exact hb)
    · exact (I4.ok.exf b (by rw [eEx]; exact hb)).2 x c h
    · rw [ePn] at hp; exact nomatch hp
  -- the end of the block
  have fin : ∀ (σ' : St) (F' H' : Hp) (vs : List V) (s' : Shared), Inv X' [] σ' H' s' → Ext ⟨F2, H2⟩ F' H' → H' DD = some (.lst vs) → F' DD = none → RepL X.K F' vs rs → RR (.ref DD) C (.ok .next) s' := fun σ' F' H' vs s' I' x' h1 h2 h3 => by
    refine hRR DD C s' ?_
    have base := I'.base
    have hos := I'.os
    have hhok := I'.hok
    have hfree := I'.free
    obtain ⟨m, hm, _⟩ := I'.loc
    rw [eEnv] at hfree hm
    rw [eEx] at base
    have e1 : X'.fs = frs X.stack := by subst hX'; rfl
    have e2 : X'.H₀ = upd H2 DD (.lst []) := by subst hX'; rfl
    have e3 : X'.s₀ = s3 := by subst hX'; rfl
    rw [e1, e2, e3] at base
    rw [e3] at hos
    rw [eP, eW] at hhok
    have IX : Inv X pins σ H' s' := I3.call' (ch := fp) hos base hhok I'.bare fun b hb => ⟨(fo3 b hb).2.2.2.1, (fo3 b hb).2.1, (fo3 b hb).2.2.2.2.1, (fo3 b hb).2.2.2.2.2⟩
    refine ⟨F', H', vs, m, IX, hm, hfree, ?_, ?_, fun x c h z => ?_, fun p hp z => ?_, x', hD0, h1, h2, h3, hDC⟩
    · have := I3.lt; rw [hC] at this; exact fun z => absurd (z ▸ this) (Nat.lt_irrefl _)
    · have := I3.sz; rw [hC] at this; exact this
    · obtain ⟨v, q⟩ := I3.cell x c h
      have := q.lt; rw [hC, z] at this; exact absurd this (Nat.lt_irrefl _)
    · have := Heap.lt_size (I3.pin p hp).1
      rw [hC, z] at this; exact absurd this (Nat.lt_irrefl _)
  have tn4 : tn 0 h₁ := T.keep 0 _ _ tn3 fun b hb o e => kp4 b o e
  have loop : ∀ s4 : Shared, s4 = { s3 with heap := h₁, toks := tk } →
      codeAny (model X.prog X.w) X.A (.compLoop (.ListComp elt [⟨tg, iter, ifs, 0⟩] scope pos) 0 (.ref it) (.ref DD) (compEnvC scope cl C X.env)) (RR (.ref DD) C) s4 := by
    rintro s4 rfl
    refine compLoop_any (fun n s' => ∃ (i : Nat) (σ' : St) (F' H' : Hp) (ρ' : Rho) (vs : List V) (r0 r1 : List D), Inv X' [] σ' H' s' ∧ tn i s'.heap ∧ (∀ b ∈ fp, H' b = none) ∧ Ok X.K B F' H' σ' ρ' ∧ Ext ⟨F2, H2⟩ F' H' ∧ H' DD = some (.lst vs) ∧ F' DD = none ∧ NoOwn σ' ρ' DD ∧
        RepL X.K F' vs r0 ∧ CRun X' tg elt ifs (ds.drop i) ρ' r1 ∧ r0 ++ r1 = rs ∧ r0.length ≤ i ∧ i ≤ ds.length ∧ n = ds.length + 1 - i) ?_ (ds.length + 1)
      ⟨0, _, F2, _, _, [], [], rs, I4, tn4, fun b hb => (fo3 b hb).1, k4, ⟨k2.sub.trans (upd_sameOf hD0), upd_sameOf hD0, .refl _, fun a h => .inl h⟩, upd_same, fD, no4, .nil, by simpa using run', rfl, Nat.zero_le _, Nat.zero_le _, by simp⟩
    rintro n s' ⟨i, σ', F', H', ρ', vs, r0, r1, I', tni, fpi, k', x', hH, hF, no', rv, cr, er, hr0, hi, rfl⟩
    have JO' := JO i F' H' x'.sf k'.sub
    have TI := T.item X' eP eW eK md' i [] s' σ' H' (fun _ _ => False) I' (fp4 fpi) tni
    have TD := T.done X' eP eW eK md' i [] s' σ' H' (fun _ _ => False) I' (fp4 fpi) tni
    rw [eA] at TI TD
    generalize e1 : ds.drop i = rest at cr
    have stepI : ∀ {d : D} {rest' : List D} {ρ1 : Rho} (hd : ds[i]? = some d) (g : EvGn X' ρ' tg d ρ1)
        (K : ∀ (pins' : List (Addr × Obj)) (s5 : Shared) (σ5 : St) (F5 H5 : Hp), Inv X' pins' σ5 H5 s5 → Ok X.K B F5 H5 σ5 ρ1 → Ext ⟨F2, H2⟩ F5 H5 → H5 DD = some (.lst vs) → F5 DD = none → NoOwn σ5 ρ1 DD → RepL X.K F5 vs r0 →
          (∀ (s6 : Shared) (σ6 : St) (H6 : Hp), Inv X' pins' σ6 H6 s6 → Inv X' [] σ6 H6 s6 ∧ tn (i + 1) s6.heap ∧ ∀ b ∈ fp, H6 b = none) →
          wpAny (model X.prog X.w) X.A (forIn ifs true fun c r => if r = true then do let ok ← isTrue c (compEnvC scope cl C X.env) (eval c (compEnvC scope cl C X.env)); pure (ForInStep.yield ok) else pure (ForInStep.yield r)) (fun ok s₃ =>
            if ok = true then wpAny (model X.prog X.w) X.A (eval elt (compEnvC scope cl C X.env)) (fun x s₄ =>
              wpAny (model X.prog X.w) X.A (call (.builtin "list.append") [.ref DD, x]) (fun _ s₅ => ∃ m, m < ds.length + 1 - i ∧ ∃ (i : Nat) (σ' : St) (F' H' : Hp) (ρ' : Rho) (vs : List V) (r0 r1 : List D), Inv X' [] σ' H' s₅ ∧ tn i s₅.heap ∧ (∀ b ∈ fp, H' b = none) ∧ Ok X.K B F' H' σ' ρ' ∧ Ext ⟨F2, H2⟩ F' H' ∧ H' DD = some (.lst vs) ∧ F' DD = none ∧ NoOwn σ' ρ' DD ∧
        RepL X.K F' vs r0 ∧ CRun X' tg elt ifs (ds.drop i) ρ' r1 ∧ r0 ++ r1 = rs ∧ r0.length ≤ i ∧ i ≤ ds.length ∧ m = ds.length + 1 - i) (fun _ _ => False) s₄) (fun _ _ => False) s₃
            else ∃ m, m < ds.length + 1 - i ∧ ∃ (i : Nat) (σ' : St) (F' H' : Hp) (ρ' : Rho) (vs : List V) (r0 r1 : List D), Inv X' [] σ' H' s₃ ∧ tn i s₃.heap ∧ (∀ b ∈ fp, H' b = none) ∧ Ok X.K B F' H' σ' ρ' ∧ Ext ⟨F2, H2⟩ F' H' ∧ H' DD = some (.lst vs) ∧ F' DD = none ∧ NoOwn σ' ρ' DD ∧
        RepL X.K F' vs r0 ∧ CRun X' tg elt ifs (ds.drop i) ρ' r1 ∧ r0 ++ r1 = rs ∧ r0.length ≤ i ∧ i ≤ ds.length ∧ m = ds.length + 1 - i) (fun _ _ => False) s5),
        wpAny (model X.prog X.w) X.A (pyNext (.ref it)) (fun r s₁ => match r with
      | none => RR (.ref DD) C (.ok .next) s₁
      | some v => wpAny (model X.prog X.w) X.A (letOwnedTupleGo tg (.ref it) v) (fun _ s₀ => wpAny (model X.prog X.w) X.A (assign tg (compEnvC scope cl C X.env) v) (fun _ s₂ =>
          wpAny (model X.prog X.w) X.A (forIn ifs true fun c r => if r = true then do let ok ← isTrue c (compEnvC scope cl C X.env) (eval c (compEnvC scope cl C X.env)); pure (ForInStep.yield ok) else pure (ForInStep.yield r)) (fun ok s₃ =>
            if ok = true then wpAny (model X.prog X.w) X.A (eval elt (compEnvC scope cl C X.env)) (fun x s₄ =>
              wpAny (model X.prog X.w) X.A (call (.builtin "list.append") [.ref DD, x]) (fun _ s₅ => ∃ m, m < ds.length + 1 - i ∧ ∃ (i : Nat) (σ' : St) (F' H' : Hp) (ρ' : Rho) (vs : List V) (r0 r1 : List D), Inv X' [] σ' H' s₅ ∧ tn i s₅.heap ∧ (∀ b ∈ fp, H' b = none) ∧ Ok X.K B F' H' σ' ρ' ∧ Ext ⟨F2, H2⟩ F' H' ∧ H' DD = some (.lst vs) ∧ F' DD = none ∧ NoOwn σ' ρ' DD ∧
        RepL X.K F' vs r0 ∧ CRun X' tg elt ifs (ds.drop i) ρ' r1 ∧ r0 ++ r1 = rs ∧ r0.length ≤ i ∧ i ≤ ds.length ∧ m = ds.length + 1 - i) (fun _ _ => False) s₄) (fun _ _ => False) s₃
            else ∃ m, m < ds.length + 1 - i ∧ ∃ (i : Nat) (σ' : St) (F' H' : Hp) (ρ' : Rho) (vs : List V) (r0 r1 : List D), Inv X' [] σ' H' s₃ ∧ tn i s₃.heap ∧ (∀ b ∈ fp, H' b = none) ∧ Ok X.K B F' H' σ' ρ' ∧ Ext ⟨F2, H2⟩ F' H' ∧ H' DD = some (.lst vs) ∧ F' DD = none ∧ NoOwn σ' ρ' DD ∧
        RepL X.K F' vs r0 ∧ CRun X' tg elt ifs (ds.drop i) ρ' r1 ∧ r0 ++ r1 = rs ∧ r0.length ≤ i ∧ i ≤ ds.length ∧ m = ds.length + 1 - i) (fun _ _ => False) s₂) (fun _ _ => False) s₀) (fun _ _ => False) s₁) (fun _ _ => False) s' := by
      intro d rest' ρ1 hd g K
      obtain ⟨go, yl⟩ := JO'.1 _ hd
      refine thn (TI go) fun r s4 ⟨u, hr, h4⟩ => ?_
      subst hr
      refine thn h4 fun _ s5 ⟨x, H5, I5, r5, y5, st5, fr5⟩ => ?_
      obtain ⟨F5, x5, rx⟩ := yl x H5 y5
      have I5' := I5.pinned (fp4 fr5) (T.obj _ _ st5)
      have gg := g B F5 H5 σ' x (fun σ6 H6 => H6 = H5 ∧ Ok X.K B F5 H5 σ6 ρ1 ∧ NoOwn σ6 ρ1 DD) (by rw [eK]; exact k'.ext x5) (by rw [eK]; exact rx) (fun σ6 k6 n6 => ⟨rfl, by rw [eK] at k6; exact k6, n6 DD no'⟩) _ s5 u I5' r5
      rw [eP, eW, eA, eEnv, eX] at gg
      refine thn gg fun _ s6 ⟨σ6, H6, I6, e6, k6, n6⟩ => ?_
      subst e6
      refine K _ s6 σ6 F5 H6 I6 k6 (x'.t x5) (x5.sh _ _ hH) ?_ n6 (rv.mono x5.sf) fun s7 σ7 H7 I7 => ⟨I7.unpinned, T.keep _ _ _ st5 fun b hb o e => (I7.pin (b, o) (List.mem_append_right _ (List.mem_append_right _ (mem_pinsAt hb e)))).1, fun b hb => ?_⟩
      · cases q : F5 DD with
        | none => rfl
        | some w =>
          rcases x5.nw DD (by rw [q]; exact fun z => nomatch z) with z | z
          · exact absurd hF z
          · have z' : H' DD = none := z
            rw [hH] at z'; cases z'
      · obtain ⟨o, e, d⟩ := T.obj _ _ st5 b hb
        exact (I7.pin (b, o) (List.mem_append_right _ (List.mem_append_right _ (mem_pinsAt hb e)))).2.1
    have eltI : ∀ {d r : D} {rest' rs' : List D} {ρ1 : Rho} (hlt : i < ds.length) (hdr : ds.drop (i + 1) = rest') (ev : EvE X' ρ1 elt r) (cr' : CRun X' tg elt ifs rest' ρ1 rs') (er' : r0 ++ (r :: rs') = rs) (pins' : List (Addr × Obj)) (s5 : Shared) (σ5 : St) (F5 H5 : Hp), Inv X' pins' σ5 H5 s5 → Ok X.K B F5 H5 σ5 ρ1 → Ext ⟨F2, H2⟩ F5 H5 → H5 DD = some (.lst vs) → F5 DD = none → NoOwn σ5 ρ1 DD → RepL X.K F5 vs r0 →
          (∀ (s6 : Shared) (σ6 : St) (H6 : Hp), Inv X' pins' σ6 H6 s6 → Inv X' [] σ6 H6 s6 ∧ tn (i + 1) s6.heap ∧ ∀ b ∈ fp, H6 b = none) →
          wpAny (model X.prog X.w) X.A (eval elt (compEnvC scope cl C X.env)) (fun x s₄ =>
              wpAny (model X.prog X.w) X.A (call (.builtin "list.append") [.ref DD, x]) (fun _ s₅ => ∃ m, m < ds.length + 1 - i ∧ ∃ (i : Nat) (σ' : St) (F' H' : Hp) (ρ' : Rho) (vs : List V) (r0 r1 : List D), Inv X' [] σ' H' s₅ ∧ tn i s₅.heap ∧ (∀ b ∈ fp, H' b = none) ∧ Ok X.K B F' H' σ' ρ' ∧ Ext ⟨F2, H2⟩ F' H' ∧ H' DD = some (.lst vs) ∧ F' DD = none ∧ NoOwn σ' ρ' DD ∧
        RepL X.K F' vs r0 ∧ CRun X' tg elt ifs (ds.drop i) ρ' r1 ∧ r0 ++ r1 = rs ∧ r0.length ≤ i ∧ i ≤ ds.length ∧ m = ds.length + 1 - i) (fun _ _ => False) s₄) (fun _ _ => False) s5 := by
      intro d r rest' rs' ρ1 hlt hdr ev cr' er' pins' s5 σ5 F5 H5 I5 k5 x5 h5 f5 n5 rv5 back
      have ee := ev B F5 H5 σ5 (fun v H6 => ∃ F6, Ext ⟨F5, H5⟩ F6 H6 ∧ Rep X.K F6 v r) (by rw [eK]; exact k5) (fun v F6 H6 x6 r6 => ⟨F6, x6, by rw [eK] at r6; exact r6⟩) pins' s5 I5
      rw [eP, eW, eA, eEnv, eX] at ee
      refine thn ee fun u s6 ⟨v, H6, I6, ru, F6, x6, r6⟩ => ?_
      have h6 := x6.sh _ _ h5
      have f6 : F6 DD = none := by
        cases q : F6 DD with
        | none => rfl
        | some w =>
          rcases x6.nw DD (by rw [q]; exact fun z => nomatch z) with z | z
          · exact absurd f5 z
          · have z' : H5 DD = none := z
            rw [h5] at z'; cases z'
      have hlen : vs.length < sizeLine := by
        have := rv5.length
        omega
      have app := mt_append (X := X') pins' s6 σ5 H6 (.ref DD) [v] (.ref DD) [u] (fun z H7 => H7 = upd H6 DD (.lst (vs ++ [v]))) I6 rfl (.cons ru .nil) ⟨DD, vs, v, rfl, rfl, h6, hlen, rfl⟩
      rw [eP, eW, eA, eX] at app
      refine thn app fun _ s7 ⟨z, H7, I7, _, e7⟩ => ?_
      subst e7
      obtain ⟨I8, t8, f8⟩ := back s7 σ5 _ I7
      have x7 := x5.t x6
      refine ⟨ds.length + 1 - (i + 1), by omega, i + 1, σ5, F6, _, ρ1, vs ++ [v], r0 ++ [r], rs', I8, t8, f8, (k5.ext x6).chgFree f6 bD n5 ⟨_, h6⟩, ⟨fun b w q => ?_, fun b w q => ?_, x7.sf, x7.nw⟩, upd_same, f6, n5, (rv5.mono x6.sf).append (.cons r6 .nil), by rw [hdr]; exact cr', by rw [List.append_assoc]; exact er', by rw [List.length_append, List.length_singleton]; omega, hlt, rfl⟩
      · have ne : b ≠ DD := fun z => by subst z; rw [f6] at q; cases q
        rw [upd_ne ne]; exact x6.sub b w q
      · have ne : b ≠ DD := fun z => by subst z; have q' : H2 b = some w := q; rw [hD0] at q'; cases q'
        rw [upd_ne ne]; exact x7.sh b w q
    cases cr with
    | nil =>
      have hl : ds.length ≤ i := by
        have := congrArg List.length e1
        rw [List.length_drop, List.length_nil] at this
        omega
      refine thn (TD (JO'.2 hl)) fun r s4 ⟨hr, I4'⟩ => ?_
      subst hr
      rw [List.append_nil] at er
      subst er
      exact fin σ' F' H' vs s4 I4' x' hH hF rv
    | @take d r ds0 rs0 ρ0 ρ1 g ci ev cr' =>
      obtain ⟨hd, hdr, hlt⟩ := drop_cons e1
      refine stepI (rest' := ds0) hd g fun pins' s5 σ5 F5 H5 I5 k5 x5 h5 f5 n5 rv5 back => ?_
      rcases ci with rfl | ⟨c, rfl, et⟩
      · refine wpAny_tests_nil ?_
        rw [if_pos rfl]
        exact eltI (d := d) hlt hdr ev cr' er pins' s5 σ5 F5 H5 I5 k5 x5 h5 f5 n5 rv5 back
      · have tt := et B F5 H5 σ5 (fun b H6 => b = true ∧ ∃ F6, Ext ⟨F5, H5⟩ F6 H6) (by rw [eK]; exact k5) (fun F6 H6 x6 => ⟨rfl, F6, x6⟩) pins' s5 I5
        rw [eP, eW, eA, eEnv, eX] at tt
        refine wpAny_tests_one (thn tt fun b s6 ⟨H6, I6, eb, F6, x6⟩ => ?_)
        subst eb
        rw [if_pos rfl]
        have f6 : F6 DD = none := by
          cases q : F6 DD with
          | none => rfl
          | some w =>
            rcases x6.nw DD (by rw [q]; exact fun z => nomatch z) with z | z
            · exact absurd f5 z
            · have z' : H5 DD = none := z
              rw [h5] at z'; cases z'
        exact eltI (d := d) hlt hdr ev cr' er pins' s6 σ5 F6 H6 I6 (k5.ext x6) (x5.t x6) (x6.sh _ _ h5) f6 n5 (rv5.mono x6.sf) back
    | @skip d ds0 rs0 ρ0 ρ1 c g hc et cr' =>
      obtain ⟨hd, hdr, hlt⟩ := drop_cons e1
      subst hc
      refine stepI (rest' := ds0) hd g fun pins' s5 σ5 F5 H5 I5 k5 x5 h5 f5 n5 rv5 back => ?_
      have tt := et B F5 H5 σ5 (fun b H6 => b = false ∧ ∃ F6, Ext ⟨F5, H5⟩ F6 H6) (by rw [eK]; exact k5) (fun F6 H6 x6 => ⟨rfl, F6, x6⟩) pins' s5 I5
      rw [eP, eW, eA, eEnv, eX] at tt
      refine wpAny_tests_one (thn tt fun b s6 ⟨H6, I6, eb, F6, x6⟩ => ?_)
      subst eb
      rw [if_neg Bool.false_ne_true]
      have f6 : F6 DD = none := by
        cases q : F6 DD with
        | none => rfl
        | some w =>
          rcases x6.nw DD (by rw [q]; exact fun z => nomatch z) with z | z
          · exact absurd f5 z
          · have z' : H5 DD = none := z
            rw [h5] at z'; cases z'
      obtain ⟨I8, t8, f8⟩ := back s6 σ5 _ I6
      exact ⟨ds.length + 1 - (i + 1), by omega, i + 1, σ5, F6, H6, ρ1, vs, r0, _, I8, t8, f8, k5.ext x6, x5.t x6, x6.sh _ _ h5, f6, n5, rv5.mono x6.sf, by rw [hdr]; exact cr', er, by omega, hlt, rfl⟩
  exact codeAny_compStart_list (loop _ rfl) (T.self _ 0 _ _ _ tn4 (loop _ rfl))
theorem comp_run {E : Value → Shared → Prop} {cl : List (Str × Addr)} (t : At0 X N sc) (md : X.calm = true ∨ (J.hot ∧ HotH X.A H2)) (S : CScope N sc N' scope) (I2 : Inv X pins σ H2 s2) (T : Turn X.prog X.w X.K tg J fp it tn) (t0 : tn 0 s2.heap) (fo2 : ∀ b ∈ fp, FpOk X pins H2 b)
    (k2 : Ok X.K B F2 H2 σ ρ) (JO : ItOk X.K J F2 ds) (hz : ds.length < sizeLine)
    (hc1 : ∀ n c, cl.lookup n = some c → X.env.cells.lookup n = some c) (hc2 : ∀ n, (n, NameKind.free) ∈ scope.names → ∃ c, cl.lookup n = some c)
    (run : ∀ X', CompX0 X X' N' (relS scope sc) (ownS scope) → CRun X' tg elt ifs ds (ρ ++ List.replicate (N'.length - N.length) .un) rs)
    {RR : Value → Addr → Result → Shared → Prop} (hRR : ∀ D' C s', CEnd X pins σ F2 H2 rs D' C s' → RR (.ref D') C (.ok .next) s') :
    wpAny (model X.prog X.w) X.A (newList []) (fun acc s₃ => wpAny (model X.prog X.w) X.A (newFunctionEnv scope X.env.globals cl [] X.env.qual none .none (some X.env)) (fun cenv s₄ =>
      codeAny (model X.prog X.w) X.A (.compStart (.ListComp elt [⟨tg, iter, ifs, 0⟩] scope pos) 0 (.ref it) acc { cenv with scope := relabel scope X.env }) (RR acc cenv.locals) s₄) E s₃) E s2 := by
  have hclb : ∀ m c, cl.lookup m = some c → c < (s2.heap.push { cls := .type "list", data := .seq ([] : List Value).toArray }).objs.size := fun m c e => by
    obtain ⟨v, q⟩ := I2.cell m c (hc1 m c e)
    rw [Heap.size_push]; exact Nat.lt_succ_of_lt q.lt
  refine wpAny_newObj_type (newEnv_comp hclb fun cl' h₁ kp₁ hns₁ CN => ?_)
  have I3 : Inv X pins σ (upd H2 s2.heap.objs.size (.lst [])) { s2 with heap := s2.heap.push { cls := .type "list", data := .seq ([] : List Value).toArray } } := I2.lnew (t' := s2.toks) (ys := []) .nil (Nat.zero_le _)
  have hD0 : H2 s2.heap.objs.size = none := I2.hok.fresh (Nat.le_refl _)
  have hsz : (s2.heap.push { cls := .type "list", data := .seq ([] : List Value).toArray }).objs.size = s2.heap.objs.size + 1 := by rw [Heap.size_push]
  have tfp : ∀ b ∈ fp, b < s2.heap.objs.size := fun b hb => by
    obtain ⟨o, e, _⟩ := T.obj 0 _ t0 b hb
    exact Heap.lt_size e
  refine comp_run2 (s3 := { s2 with heap := s2.heap.push { cls := .type "list", data := .seq ([] : List Value).toArray } }) t md S rfl (by
    show s2.heap.objs.size ≠ (s2.heap.push { cls := .type "list", data := .seq ([] : List Value).toArray }).objs.size
    rw [hsz]; exact Nat.ne_of_lt (Nat.lt_succ_self _)) I3 hD0 (fun b hb => ?_) (fun b hb => ?_) T (T.keep 0 _ _ t0 fun b hb o e => Heap.get?_push_of_some _ e) hns₁ kp₁ k2 JO hz hc1 hc2 CN run hRR
  · obtain ⟨f0, f1⟩ := fo2 b hb
    exact ⟨by rw [upd_ne (Nat.ne_of_lt (tfp b hb))]; exact f0, f1⟩
  · show b < (s2.heap.push { cls := .type "list", data := .seq ([] : List Value).toArray }).objs.size
    rw [hsz]; exact Nat.lt_succ_of_lt (tfp b hb)
end
end L2.EV

set_option linter.all false
set_option autoImplicit false
set_option maxRecDepth 100000
namespace L2.EV
open PySem PySem.Spec PyProof.Rows
section
variable {X : Cx} {N : List Str} {sc scope : Scope} {ρ : Rho} {tg elt iter : Expr} {ifs : List Expr} {pos : Pos} {ds rs : List D}
theorem clos_at (t : At0 X N sc) {N' : List Str} (S : CScope N sc N' scope) {pins : List (Addr × Obj)} {σ : St} {H : Hp} {s : Shared} (I : Inv X pins σ H s) :
    ∃ cl : List (Str × Addr), closureFor scope X.env = pure cl ∧ (∀ n c, cl.lookup n = some c → X.env.cells.lookup n = some c) ∧ (∀ n, (n, NameKind.free) ∈ scope.names → ∃ c, cl.lookup n = some c) :=
  closure_of fun n hn => I.ok.has n (.inl (by show X.env.scope.names.lookup n = _; rw [t.eS]; exact S.free _ hn rfl))
/-- [elt for tg in iter if ..] -/
theorem en_comp (t : At X N sc) (N' : List Str) (S : CScope N sc N' scope) (hi : EvI X ρ tg iter ds) (hz : ds.length < sizeLine) (run : ∀ X', CompX X X' N' (relS scope sc) (ownS scope) → CRun X' tg elt ifs ds (ρ ++ List.replicate (N'.length - N.length) .un) rs)
    (hs : ∀ x, foldedSetIterable iter X.env x = pure x := by intro _; rfl) : EvN X ρ (.ListComp elt [⟨tg, iter, ifs, 0⟩] scope pos) rs := fun B F H σ Q k q pins s I => by
  obtain ⟨cl, e1, e2, e3⟩ := clos_at t.z S I
  rw [eval_ListComp]
  have h1 := hi B F H σ (fun J H1 => ∃ F1, Ext ⟨F, H⟩ F1 H1 ∧ ItOk X.K J F1 ds) k (fun J F' H' x j => ⟨F', x, j⟩) pins s I
  refine wpAny_comprehension_free (use := none) rfl hs e1 S.kind S.names (thn h1 fun v s1 h => thn h fun itv s2 h2 => ?_)
  obtain ⟨it, fp, tn, J, H', e, I2, T, t0, fo, F1, x1, JO⟩ := h2
  subst e
  refine comp_run (RR := fun acc C => compPost (model X.prog X.w) X.A X.xe none (EP X pins σ Q) acc C) t.z (.inl t.calm) S I2 T t0 fo (k.ext x1) JO hz e2 e3 (fun X' c0 => run X' (c0.calm t.calm)) ?_
  rintro D' C s' ⟨F', H'', vs, m, IX, hm, h0, hL, hs0, hcl, hpn, x', hd0, hd, hf, rv, hDC⟩
  refine ⟨m, hm, fun h'' sb => ?_⟩
  have IX' : Inv X pins σ H'' { s' with heap := h'' } := IX.turned (t' := s'.toks) (it := C) (fun b o hb e => sb.extBut b o hb e) h0 hL (.inr hs0) hcl hpn
  exact ⟨.ref D', H'', IX', rfl, q D' vs F' H'' (x1.t x') (x1.sh.free hd0) hd hf rv⟩
/-- the same while an exception is handled, over a range -/
def EvIh (X : Cx) (ρ : Rho) (tg e : Expr) (ds : List D) : Prop := ∀ (B : B0) (F H : Hp) (σ : St) (R : It → Hp → Prop), Ok X.K B F H σ ρ →
  (∀ J F' H', J.hot → Ext ⟨F, H⟩ F' H' → ItOk X.K J F' ds → R J H') → wI X tg e σ H R
/-- x = [elt for tg in iter if ..], the name a plain local one -/
theorem s_setComp [FnT X] (t : At X N sc) (i : Nat) (N' : List Str) (S : CScope N sc N' scope) {y : Str} {py spos : Pos} (hi : EvI X ρ tg iter ds) (hz : ds.length < sizeLine) (run : ∀ X', CompX X X' N' (relS scope sc) (ownS scope) → CRun X' tg elt ifs ds (ρ ++ List.replicate (N'.length - N.length) .un) rs)
    (hsw : swapsWith (.ListComp elt [⟨tg, iter, ifs, 0⟩] scope pos) (some (.Name y py)) spos.line (dE sc) = pure true := by rfl)
    (hN : N[i]? = some y := by rfl) (hy : LocS sc y = true := by rfl)
    (hs : ∀ x, foldedSetIterable iter X.env x = pure x := by intro _; rfl) : EvS X ρ (.Assign [.Name y py] (.ListComp elt [⟨tg, iter, ifs, 0⟩] scope pos) spos) (.nx (ρ.set i (.own rs))) := fun B F H σ E k q pins s I => by
  obtain ⟨cl, e1, e2, e3⟩ := clos_at t.z S I
  rw [exec_Assign_Name_used _ _ _ _ ((sww_eq (show X.env.scope = (dE sc).scope from t.eS)).trans hsw)]
  refine wpAny_bind (wpAny_standAt (wpAny_bind ?_))
  show wpAny _ X.A (do let _ ← comprehension (.ListComp elt [⟨tg, iter, ifs, 0⟩] scope pos) scope X.env _ (newList []) false (eval iter X.env) (some (assign (.Name y py) X.env))) _ _ s
  have h1 := hi B F H σ (fun J H1 => ∃ F1, Ext ⟨F, H⟩ F1 H1 ∧ ItOk X.K J F1 ds) k (fun J F' H' x j => ⟨F', x, j⟩) pins s I
  refine wpAny_bind (wpAny_mono (wpAny_comprehension_free (use := some (assign (.Name y py) X.env)) (Q := fun _ s' => SP X pins E .next s') rfl hs e1 S.kind S.names (thn h1 fun v s1 h => thn h fun itv s2 h2 => ?_)) (fun _ s' hq => wpAny_pure (wpAny_pure hq)) fun _ _ e => e)
  obtain ⟨it, fp, tn, J, H', e, I2, T, t0, fo, F1, x1, JO⟩ := h2
  subst e
  refine comp_run (RR := fun acc C => compPost (model X.prog X.w) X.A X.xe (some (assign (.Name y py) X.env)) (fun _ s' => SP X pins E .next s') acc C) t.z (.inl t.calm) S I2 T t0 fo (k.ext x1) JO hz e2 e3 (fun X' c0 => run X' (c0.calm t.calm)) ?_
  rintro D' C s' ⟨F', H'', vs, m, IX, hm, h0, hL, hs0, hcl, hpn, x', hd0, hd, hf, rv, hDC⟩
  show wpAny _ X.A (assign (.Name y py) X.env (.ref D')) _ _ s'
  refine wpAny_assign_Name (store_ok2 (v := .ref D') IX t.nd (t.ix hN) (t.loc hy) rfl (fun s'' I'' hsame => ?_) hfT)
  obtain ⟨a, sb, ha⟩ := hsame
  have hCa : C ≠ a := by
    rcases ha with z | z
    · rw [z]; exact hL
    · exact Ne.symm (hcl y a z)
  refine ⟨m, hm.sameBut sb hCa, fun h'' sb' => ?_⟩
  have I3 : Inv X pins (σ.set i (some (.ref D'))) H'' { s'' with heap := h'' } := I''.turned (t' := s''.toks) (it := C) (fun b o hb e => sb'.extBut b o hb e) h0 hL (.inr hs0) hcl hpn
  have k1 := k.ext (x1.t x')
  have hH : H D' = none := x1.sh.free hd0
  exact ⟨_, H'', I3, q F' H'' _ (k1.setOwn i hd hf (k.sh.free hH) (k.noOwn hH) rv) (x1.t x').sf⟩
/-- every item is taken; the block's names behind an item hang on that item alone -/
theorem CRun.all {X : Cx} {tg elt : Expr} (R : D → Rho) (f : D → D) : ∀ (ds : List D) (ρ : Rho), (∀ d ∈ ds, EvGn X ρ tg d (R d)) → (∀ d ∈ ds, ∀ e ∈ ds, EvGn X (R d) tg e (R e)) → (∀ d ∈ ds, EvE X (R d) elt (f d)) → CRun X tg elt [] ds ρ (ds.map f)
  | [], _, _, _, _ => .nil
  | d :: ds, ρ, h1, h2, h3 => .take (h1 d List.mem_cons_self) (.inl rfl) (h3 d List.mem_cons_self)
      (CRun.all R f ds (R d) (fun e he => h2 d List.mem_cons_self e (List.mem_cons_of_mem _ he)) (fun a ha e he => h2 a (List.mem_cons_of_mem _ ha) e (List.mem_cons_of_mem _ he)) fun e he => h3 e (List.mem_cons_of_mem _ he))
end
end L2.EV

set_option linter.all false
set_option autoImplicit false
set_option maxRecDepth 100000
namespace L2.EV
open PySem PySem.Spec PyProof.Rows
/-- the block's scope, checked -/
def cscB (N : List Str) (sc : Scope) (N' : List Str) (scope : Scope) : Bool :=
  decide (scope.kind = .function) && scope.names.all (fun y => decide (y.2 = .cell → scope.names.lookup y.1 = some .cell)) && scope.names.all (fun y => decide (y.2 = .local → scope.names.lookup y.1 = some .local)) &&
    scope.names.all (fun y => decide (y.2 = .free → sc.names.lookup y.1 = some .cell)) && decide (sc.kind = .function) && decide N'.Nodup &&
    (List.range N.length).all (fun i => match N'[i]? with
      | some x => !(VisS (relS scope sc) x) || (decide (N[i]? = some x) && decide (scope.names.lookup x = some .free))
      | none => true) && decide (N.length ≤ N'.length)
theorem csc {N N' : List Str} {sc scope : Scope} (h : cscB N sc N' scope = true) : CScope N sc N' scope := by
  unfold cscB at h
  simp only [Bool.and_eq_true, decide_eq_true_eq, List.all_eq_true] at h
  obtain ⟨⟨⟨⟨⟨⟨⟨h1, h2⟩, h3⟩, h4⟩, h5⟩, h6⟩, h7⟩, h8⟩ := h
  refine ⟨h1, h2, h3, h4, h5, h6, fun i x hi hx hv => ?_, h8⟩
  have q := h7 i (List.mem_range.mpr hi)
  rw [hx] at q
  simp only [hv, Bool.not_true, Bool.false_or, Bool.and_eq_true, decide_eq_true_eq] at q
  exact q
theorem blt_of {X : Cx} {sc : Scope} {x : Str} {u : Value} (hm : X.mg x = none) (g : sc.names.lookup x = some .globalImplicit := by rfl) (v : bootBuiltins x = some u := by rfl) (n : x ≠ "__name__" := by decide) (d : (x == ("__debug__" : Str)) = false := by rfl) : Blt X sc x u := ⟨g, hm, v, n, d⟩
/-- a row: a tuple of ints -/
abbrev rowD (f : List Int) : D := .tup (f.map D.int)
abbrev intsD (f : List Int) : D := .lst (f.map D.int)
theorem at_ints {xs : List Int} {i : Int} {n : Nat} (h0 : 0 ≤ i) (hn : i.toNat = n) (h : n < xs.length) : atI (xs.map D.int) i = some (.int xs[n]) := by
  have e : i = ((n : Nat) : Int) := by omega
  subst e
  exact atI_nat (by rw [List.getElem?_map, List.getElem?_eq_getElem h]; rfl)
theorem ix_nat {n : Nat} {i : Int} {j : Nat} (h0 : 0 ≤ i) (hn : i.toNat = j) (h : j < n) : ixN n i = some j := by
  unfold ixN
  rw [if_pos h0, if_pos (by omega), hn]
theorem eqv_ints (xs ys : List Int) : PyData.eqvAll (xs.map PyData.int) (ys.map PyData.int) = decide (xs = ys) := by
  induction xs generalizing ys with
  | nil => cases ys <;> simp [PyData.eqvAll]
  | cons x xs ih =>
    cases ys with
    | nil => simp [PyData.eqvAll]
    | cons y ys =>
      simp only [List.map_cons, PyData.eqvAll, PyData.eqv, ih]
      by_cases h1 : x = y <;> by_cases h2 : xs = ys <;> simp [h1, h2]
theorem eqv_row (xs ys : List Int) : (toP (rowD xs)).eqv (toP (rowD ys)) = decide (xs = ys) := by
  show (PyData.tuple (toPs (xs.map D.int))).eqv (.tuple (toPs (ys.map D.int))) = _
  rw [toPs_ints, toPs_ints]
  simp only [PyData.eqv]
  exact eqv_ints xs ys
theorem eqv_lst (xs ys : List Int) : (PyData.list (toPs (xs.map D.int))).eqv (.list (toPs (ys.map D.int))) = decide (xs = ys) := by
  rw [toPs_ints, toPs_ints]
  simp only [PyData.eqv]
  exact eqv_ints xs ys
theorem canLay_ints (xs : List Int) : PyData.canLayAll0 (xs.map PyData.int) = true := PySem.W.canLayAll0_ints xs
theorem shaped_row (xs : List Int) : SeqAt.shaped (toP (rowD xs)) = true := by
  show SeqAt.shaped (.tuple (toPs (xs.map D.int))) = true
  rw [toPs_ints]
  have h1 := PySem.W.depthAll_ints xs
  have h2 : PyData.depth (.tuple (xs.map PyData.int)) ≤ 64 := by simp only [PyData.depth]; omega
  show (PyData.canLay0 (.tuple (xs.map PyData.int)) && decide (PyData.depth (.tuple (xs.map PyData.int)) ≤ 64)) = true
  rw [Bool.and_eq_true]
  exact ⟨by simp only [PyData.canLay0]; exact canLay_ints xs, decide_eq_true h2⟩
theorem shaped_lst (xs : List Int) : SeqAt.shaped (PyData.list (toPs (xs.map D.int))) = true := by
  rw [toPs_ints]; exact PySem.W.shaped_ints xs
end L2.EV

set_option linter.all false
set_option autoImplicit false
set_option maxRecDepth 100000
namespace L2.EV
open PySem PySem.Spec PyProof.Rows
/-- fewer names are known -/
inductive Weak : Rho → Rho → Prop where
  | nil : Weak [] []
  | keep {s : Sl} {a b : Rho} : Weak a b → Weak (s :: a) (s :: b)
  | forget {s : Sl} {a b : Rho} : Weak a b → Weak (s :: a) (.un :: b)
theorem Weak.len : ∀ {a b : Rho}, Weak a b → a.length = b.length
  | _, _, .nil => rfl
  | _, _, .keep h => congrArg Nat.succ h.len
  | _, _, .forget h => congrArg Nat.succ h.len
theorem Weak.get : ∀ {a b : Rho}, Weak a b → ∀ (i : Nat) (s : Sl), b[i]? = some s → s ≠ .un → a[i]? = some s
  | _, _, .nil, _, _, h, _ => by simp at h
  | _, _, .keep h, 0, s, e, _ => by simpa using e
  | _, _, .keep h, i + 1, s, e, hn => by simpa using h.get i s (by simpa using e) hn
  | _, _, .forget h, 0, s, e, hn => by simp at e; exact absurd e.symm hn
  | _, _, .forget h, i + 1, s, e, hn => by simpa using h.get i s (by simpa using e) hn
theorem Ok.weak {K : PySem.W.Frag} {B : B0} {F H : Hp} {σ : St} {a b : Rho} (k : Ok K B F H σ a) (w : Weak a b) : Ok K B F H σ b :=
  ⟨k.toExt, k.len.trans w.len, fun i d h => k.vals i d (w.get i _ h fun z => nomatch z), fun i xs h => k.owns i xs (w.get i _ h fun z => nomatch z), fun i j xs ys p h1 h2 => k.dist i j xs ys p (w.get i _ h1 fun z => nomatch z) (w.get j _ h2 fun z => nomatch z), k.dic.to (.refl _) (fun _ _ e1 e2 _ => ⟨e1, e2⟩) fun i kvs h => ⟨w.get i _ h (fun z => nomatch z), rfl⟩⟩
section
variable {X : Cx} {ρ ρ1 ρ2 : Rho} {sts : List Stmt} {o : Out}
theorem EvSs.weak (h : EvSs X ρ sts (.nx ρ1)) (w : Weak ρ1 ρ2) : EvSs X ρ sts (.nx ρ2) := fun B F H σ E k q => h B F H σ E k fun F' H' σ' k' s' => q F' H' σ' (k'.weak w) s'
end
section
variable {X : Cx} {ρ : Rho} {e : Expr}
theorem EvT.eq {b b' : Bool} (h : EvT X ρ e b) (q : b = b') : EvT X ρ e b' := q ▸ h
theorem EvE.eq {d d' : D} (h : EvE X ρ e d) (q : d = d') : EvE X ρ e d' := q ▸ h
theorem EvN.eq {d d' : List D} (h : EvN X ρ e d) (q : d = d') : EvN X ρ e d' := q ▸ h
theorem EvQ.eq {k : Bool} {d d' : List D} (h : EvQ X ρ e k d) (q : d = d') : EvQ X ρ e k d' := q ▸ h
theorem EvI.eq {tg : Expr} {d d' : List D} (h : EvI X ρ tg e d) (q : d = d') : EvI X ρ tg e d' := q ▸ h
theorem EvSs.eq {sts : List Stmt} {o o' : Out} (h : EvSs X ρ sts o) (q : o = o') : EvSs X ρ sts o' := q ▸ h
theorem EvS.eq {st : Stmt} {o o' : Out} (h : EvS X ρ st o) (q : o = o') : EvS X ρ st o' := q ▸ h
end
/-- a loop whose turns come back to the same names -/
theorem FRun.same {X : Cx} {tg : Expr} {body : List Stmt} (ρ : Rho) : ∀ (ds : List D), (∀ d ∈ ds, ∃ ρ1, EvG X ρ tg d ρ1 ∧ EvSs X ρ1 body (.nx ρ)) → FRun X tg body ds ρ (.nx ρ)
  | [], _ => .nil
  | d :: ds, h => by
    obtain ⟨ρ1, h1, h2⟩ := h d List.mem_cons_self
    exact .cons h1 h2 (FRun.same ρ ds fun e he => h e (List.mem_cons_of_mem _ he))
/-- a loop by the names behind the first i turns -/
theorem FRun.upto {X : Cx} {tg : Expr} {body : List Stmt} {ds : List D} (R : Nat → Rho) (h : ∀ (j : Nat) d, ds[j]? = some d → ∃ ρ1, EvG X (R j) tg d ρ1 ∧ EvSs X ρ1 body (.nx (R (j + 1)))) : FRun X tg body ds (R 0) (.nx (R ds.length)) := by
  have q := FRun.of (X := X) (tg := tg) body R ds 0 fun j d e => by
    obtain ⟨ρ1, h1, h2⟩ := h j d e
    exact ⟨ρ1, by simpa using h1, by simpa using h2⟩
  simpa using q
theorem FRun.uptoE {X : Cx} {tg : Expr} {body : List Stmt} {ds : List D} {ρ ρ' : Rho} (R : Nat → Rho) (h : ∀ (j : Nat) d, ds[j]? = some d → ∃ ρ1, EvG X (R j) tg d ρ1 ∧ EvSs X ρ1 body (.nx (R (j + 1)))) (e0 : R 0 = ρ) (e1 : R ds.length = ρ') : FRun X tg body ds ρ (.nx ρ') := by
  subst e0; subst e1; exact FRun.upto R h
/-! ### the greatest common divisor by rests -/
theorem gcd_loop {X : Cx} {c : Expr} {body : List Stmt} (R : Nat → Nat → Rho) (h1 : ∀ a b : Nat, EvT X (R a b) c (decide (0 < b))) (h2 : ∀ a b : Nat, 0 < b → EvSs X (R a b) body (.nx (R b (a % b)))) :
    ∀ (n a b : Nat), b ≤ n → ∃ m, WRun X c body m (R a b) (.nx (R (Nat.gcd a b) 0))
  | n, a, 0, _ => ⟨0, by
      rw [Nat.gcd_zero_right]
      exact .stop (by have := h1 a 0; simpa using this)⟩
  | 0, a, b + 1, h => by omega
  | n + 1, a, b + 1, h => by
    obtain ⟨m, q⟩ := gcd_loop R h1 h2 n (b + 1) (a % (b + 1)) (by have := Nat.mod_lt a (show 0 < b + 1 by omega); omega)
    refine ⟨m + 1, .step (by have := h1 a (b + 1); simpa using this) (h2 a (b + 1) (Nat.succ_pos b)) ?_⟩
    have e : Nat.gcd a (b + 1) = Nat.gcd (b + 1) (a % (b + 1)) := by
      rw [Nat.gcd_comm a (b + 1), Nat.gcd_rec (b + 1) a, Nat.gcd_comm]
    rw [e]; exact q
theorem mul_right {i j : Int} (h1 : -(2 ^ 64) < j) (h2 : j < 2 ^ 64) : IntMulOk i j := .of_right (intBits_le_64 h1 h2)
theorem mul_left {i j : Int} (h1 : -(2 ^ 64) < i) (h2 : i < 2 ^ 64) : IntMulOk i j := .of_left (intBits_le_64 h1 h2)
/-- a slice of ints -/
def cutI (xs : List Int) (lo hi : Option Int) : List Int := (xs.drop (HT.sIx xs.length 0 lo)).take (HT.sIx xs.length xs.length hi - HT.sIx xs.length 0 lo)
theorem cut_ints (xs : List Int) (lo hi : Option Int) : cutD (xs.map D.int) lo hi = (cutI xs lo hi).map D.int := by
  unfold cutD cutI
  rw [List.length_map, List.map_take, List.map_drop]
theorem rep_ints (k : Nat) (n : Int) : (List.replicate k [D.int n]).flatten = (List.replicate k n).map D.int := by
  induction k with
  | zero => rfl
  | succ k ih => rw [List.replicate_succ, List.flatten_cons, ih, List.replicate_succ, List.map_cons]; rfl
theorem CRun.gen {X : Cx} {tg elt : Expr} {α : Type} (g f : α → D) (R : α → Rho) : ∀ (xs : List α) (ρ : Rho), (∀ x ∈ xs, EvGn X ρ tg (g x) (R x)) → (∀ x ∈ xs, ∀ y ∈ xs, EvGn X (R x) tg (g y) (R y)) → (∀ x ∈ xs, EvE X (R x) elt (f x)) → CRun X tg elt [] (xs.map g) ρ (xs.map f)
  | [], _, _, _, _ => .nil
  | x :: xs, ρ, h1, h2, h3 => .take (h1 x List.mem_cons_self) (.inl rfl) (h3 x List.mem_cons_self)
      (CRun.gen g f R xs (R x) (fun e he => h2 x List.mem_cons_self e (List.mem_cons_of_mem _ he)) (fun a ha e he => h2 a (List.mem_cons_of_mem _ ha) e (List.mem_cons_of_mem _ he)) fun e he => h3 e (List.mem_cons_of_mem _ he))
theorem at_getD {xs : List Int} {i : Int} (h0 : 0 ≤ i) (h : i.toNat < xs.length) : atI (xs.map D.int) i = some (.int (xs.getD i.toNat 0)) := by
  rw [at_ints h0 rfl h, List.getD_eq_getElem?_getD, List.getElem?_eq_getElem h]; rfl
theorem lineN : (sizeLine : Nat) = 16777216 := sizeLine_eq
end L2.EV

set_option linter.all false
set_option autoImplicit false
set_option maxRecDepth 100000
namespace L2.EV
open PySem PySem.Spec PyProof.Rows
open AutoSeq1 (wpAny_loadPart')
/-! ### enumerate over a tuple -/
section
variable {prog : Program} {w : World} {A : Around} {E : Value → Shared → Prop} {s : Shared}
theorem nextOf_tup_item {it t : Addr} {i : Nat} {items : Array Value} {x : Value} {Q : Value → Shared → Prop} (hit : s.heap.IsTupleIter it t i) (ht : s.heap.IsTuple t items) (hx : items[i]? = some x)
    (hQ : ∀ h', h'.IsTupleIter it t (i + 1) → Heap.SameBut it s.heap h' → Q x { s with heap := h' }) : wpAny (model prog w) A (Builtin.SmallTypes.nextOf (.ref it)) Q E s := by
  obtain ⟨o, ho, hc, hd⟩ := id hit
  obtain ⟨ol, hol, _, nl, hdl⟩ := ht
  unfold Builtin.SmallTypes.nextOf
  refine wpAny_bind (wpAny_callSpecial?_slot (name := Str.ofString "__next__") hit.typeIs F.slot_tuple_iterator_next (wpAny_call_entry F.slot_tuple_iterator_next hit.typeIs F.entry_tuple_iterator_next ?_ (F.args_tuple_iterator_next_1 _)))
  show wpAny _ _ (field (.ref it) 0 >>= _) _ _ s
  refine wpAny_bind (wpAny_field ho hd (x := .ref t) rfl ?_)
  show wpAny _ _ (if (Value.ref t == Value.none) = true then _ else _) _ _ s
  rw [if_neg (show ¬ ((Value.ref t == Value.none) = true) from Bool.false_ne_true)]
  show wpAny _ _ (field (.ref it) 1 >>= _) _ _ s
  refine wpAny_bind (wpAny_field ho hd (x := .int i 0) rfl ?_)
  show wpAny _ _ (seqItems? (.ref t) >>= _) _ _ s
  refine wpAny_bind (wpAny_seqItems hol hdl ?_)
  simp only [Int.toNat_natCast, hx]
  refine wpAny_bind (wpAny_setField ho hd (by simp) (wpAny_pure ⟨x, rfl, wpAny_pure (hQ _ ?_ (Heap.SameBut.update ..))⟩))
  exact ⟨_, Heap.get?_update_self _ ho (Obj.isFreed_of_fields (Obj.data_mapFields hd _)), (Obj.cls_mapFields ..).trans hc, by rw [Obj.data_mapFields hd]; simp [rawInt]⟩
theorem nextOf_tup_end {it t : Addr} {i : Nat} {items : Array Value} {Q : Value → Shared → Prop} (hh : A.handled = none) (hit : s.heap.IsTupleIter it t i) (ht : s.heap.IsTuple t items) (hx : items[i]? = none)
    (hE : ∀ h' e, Heap.ExtBut it s.heap h' → (∃ o, h'.get? e = some o ∧ o.cls = .type "StopIteration") → E (.ref e) { s with heap := h' }) : wpAny (model prog w) A (Builtin.SmallTypes.nextOf (.ref it)) Q E s := by
  obtain ⟨o, ho, hc, hd⟩ := id hit
  obtain ⟨ol, hol, _, nl, hdl⟩ := ht
  unfold Builtin.SmallTypes.nextOf
  refine wpAny_bind (wpAny_callSpecial?_slot (name := Str.ofString "__next__") hit.typeIs F.slot_tuple_iterator_next (wpAny_call_entry F.slot_tuple_iterator_next hit.typeIs F.entry_tuple_iterator_next ?_ (F.args_tuple_iterator_next_1 _)))
  show wpAny _ _ (field (.ref it) 0 >>= _) _ _ s
  refine wpAny_bind (wpAny_field ho hd (x := .ref t) rfl ?_)
  show wpAny _ _ (if (Value.ref t == Value.none) = true then _ else _) _ _ s
  rw [if_neg (show ¬ ((Value.ref t == Value.none) = true) from Bool.false_ne_true)]
  show wpAny _ _ (field (.ref it) 1 >>= _) _ _ s
  refine wpAny_bind (wpAny_field ho hd (x := .int i 0) rfl ?_)
  show wpAny _ _ (seqItems? (.ref t) >>= _) _ _ s
  refine wpAny_bind (wpAny_seqItems hol hdl ?_)
  simp only [Int.toNat_natCast, hx]
  refine wpAny_bind (wpAny_rule (wpAny_bind (wpAny_setField ho hd (by simp) ?_)))
  show wpAny _ _ (newExc (.type "StopIteration") [] >>= _) _ _ _
  refine wpAny_bind ?_
  simp only [newExc, newTuple]
  refine wpAny_bind (wpAny_newObj_type ?_ (by size_fits))
  refine wpAny_bind (m := firstArgMember _ _) (wpAny_of_eq (a := Value.none) (by first | rfl | (simp only [firstArgMember]; rfl)) ?_)
  refine wpAny_newObj_type ?_ (by size_fits)
  simp only [raiseNew]
  refine wpAny_bind (wpAny_handled ?_)
  first | rw [show A.in1.handled = none from hh] | rw [hh]
  refine wpAny_bind (wpAny_pure (wpAny_throw ?_))
  exact hE _ _ (((Heap.SameBut.update ..).extBut.push _).push _) ⟨_, Heap.get?_push_size _ rfl, rfl⟩
end
theorem draws_tup {prog : Program} {w : World} {A : Around} (hh : A.handled = none) (it t : Addr) (hne : t ≠ it) (items : Array Value) :
    Draws prog w A it [it, t] items.size (fun i v => items[i]? = some v) (fun i h => h.IsTupleIter it t i ∧ h.IsTuple t items) where
  live := fun _ _ st => let ⟨o, ho, _⟩ := st.1; ⟨o, ho⟩
  frame := fun _ _ _ st hk => ⟨st.1.at fun o e => hk it (by simp) o e, let ⟨o, e, r⟩ := st.2; ⟨o, hk t (by simp) o e, r⟩⟩
  item := fun i s Q E hi st hQ => by
    refine nextOf_tup_item st.1 st.2 (x := items[i]) (by simp [hi]) fun h' hit' hs' => ?_
    exact hQ _ h' s.toks (by simp [hi]) ⟨hit', let ⟨o, e, r⟩ := st.2; ⟨o, hs'.extBut t o hne e, r⟩⟩ hs'
  done := fun s Q E st hE => nextOf_tup_end hh st.1 st.2 (by simp) hE
theorem meets_enumT (l : Addr) (items : Array Value) (n : Nat) (dct : Option Addr) (sl : Array (Option Value)) :
    Meets (Builtin.«enumerate.__new__» ⟨[.type "enumerate", .ref l], []⟩) (fun _ R s => s.heap.get? l = some { cls := .type "tuple", dict := dct, data := .seq items n, slots := sl } ∧
      R (.ok (.ret (.ref (s.heap.push { cls := .type "tuple_iterator", data := .fields #[.ref l, .int 0 0] }).objs.size)))
        { s with heap := (s.heap.push { cls := .type "tuple_iterator", data := .fields #[.ref l, .int 0 0] }).push { cls := .type "enumerate", data := .fields #[.none, .bool false, .ref s.heap.objs.size, rawInt 0, .none, .none] } }) :=
  .of_wp fun prog w A R s h => by
    obtain ⟨hp, g, d, tk, os⟩ := s; obtain ⟨hl, h⟩ := h
    have hsub := sub_enumerate
    have hL : Heap.IsTuple (Shared.heap ⟨hp, g, d, tk, os⟩) l items := ⟨_, hl, rfl, n, rfl⟩
    wp_walk using wpAny_loadPart' hl
    refine wpAny_stack_any fun st => wpAny_pure ?_
    split
    · rename_i c _ _ _ _ _
      cases (c == Value.type "enumerate")
      · wp_walk using wpAny_loadPart' hl, wpAny_pyIter_tuple hL
        exact ⟨_, rfl, h⟩
      · wp_walk using wpAny_loadPart' hl, wpAny_pyIter_tuple hL
        exact ⟨_, rfl, h⟩
    · wp_walk using wpAny_loadPart' hl, wpAny_pyIter_tuple hL
      exact ⟨_, rfl, h⟩
section
variable {prog : Program} {w : World} {A : Around} {E : Value → Shared → Prop} {s : Shared}
theorem call_enumT {l : Addr} {items : Array Value} {Q : Value → Shared → Prop} (hL : s.heap.IsTuple l items)
    (h : ∀ h', IsEnum h' (s.heap.objs.size + 1) s.heap.objs.size 0 .none → h'.IsTupleIter s.heap.objs.size l 0 → h'.objs.size = s.heap.objs.size + 2 →
      (∀ b o, s.heap.get? b = some o → h'.get? b = some o) → Q (.ref (s.heap.objs.size + 1)) { s with heap := h' }) : wpAny (model prog w) A (call (.type "enumerate") [.ref l]) Q E s := by
  obtain ⟨⟨c, dct, dt, sl⟩, hl, hc, n, hd⟩ := hL
  replace hc : c = .type "tuple" := hc
  replace hd : dt = .seq items n := hd
  subst hc hd
  refine callType_new F.called_enumerate (by decide) (F.typeCall_enumerate_1 _) (F.newCall_enumerate_1 _) (fun obj => F.args_object_init_2 obj _) F.entry_enumerate_new (meets_enumT l items n dct sl) ⟨hl, ?_⟩
  have hz : (s.heap.push { cls := .type "tuple_iterator", data := .fields #[.ref l, .int 0 0] }).objs.size = s.heap.objs.size + 1 := Heap.size_push ..
  show _ ∧ _
  rw [hz]
  have he : IsEnum ((s.heap.push { cls := .type "tuple_iterator", data := .fields #[.ref l, .int 0 0] }).push { cls := .type "enumerate", data := .fields #[.none, .bool false, .ref s.heap.objs.size, rawInt 0, .none, .none] }) (s.heap.objs.size + 1) s.heap.objs.size 0 .none := by
    have := Heap.get?_push_size (s.heap.push { cls := .type "tuple_iterator", data := .fields #[.ref l, .int 0 0] }) (o := { cls := .type "enumerate", data := .fields #[.none, .bool false, .ref s.heap.objs.size, rawInt 0, .none, .none] }) rfl
    rw [hz] at this; exact this
  refine ⟨⟨_, he, rfl⟩, h _ he ⟨_, Heap.get?_push_of_some _ (Heap.get?_push_size _ rfl), rfl, rfl⟩ (by rw [Heap.size_push, hz]) fun b o x => Heap.get?_push_of_some _ (Heap.get?_push_of_some _ x)⟩
end
/-- pairs (i, item) of the tuple at a: each pair a new tuple -/
def Ite (K : PySem.W.Frag) (a : Addr) : It :=
  ⟨fun i H => ∃ xs x, SqT K H a xs ∧ xs[i]? = some x, fun i H x H' => ∃ p, H p = none ∧ x = .ref p ∧ ∀ xs, SqT K H a xs → ∃ v, xs[i]? = some v ∧ H' = upd H p (.tup [.int i, v]), fun i H => ∃ xs, SqT K H a xs ∧ xs.length ≤ i, False⟩
section
variable {X : Cx}
theorem Inv.turn2 {pins : List (Addr × Obj)} {σ : St} {H : Hp} {s : Shared} {h' : Heap} {t' : Nat} {e it : Addr} (I : Inv X pins σ H s) (k : ∀ b o, b ≠ e → b ≠ it → s.heap.get? b = some o → h'.get? b = some o) (fe : FpOk X pins H e) (fi : FpOk X pins H it) :
    Inv X pins σ H { s with heap := h', toks := t' } := by
  obtain ⟨e0, e1, e2, e3, e4, e5⟩ := fe
  obtain ⟨i0, i1, i2, i3, i4, i5⟩ := fi
  refine I.step (g' := s.gens) (d' := s.drawn) (ch := [e, it]) (fun b hb => ?_) (fun b o _ _ hc q _ => k b o (fun z => hc (by simp [z])) (fun z => hc (by simp [z])) q) (fun b o _ _ hc q _ => ⟨o.slots, k b o (fun z => hc (by simp [z])) (fun z => hc (by simp [z])) q⟩) (fun _ _ _ _ n => n)
    (fun b o hc q => ⟨o, k b o (fun z => hc (by simp [z])) (fun z => hc (by simp [z])) q⟩) (fun _ _ q => q) (fun _ _ _ q => q) (fun b ps q => ⟨#[], by rw [q]; simp⟩) (fun m hm => ?_) (fun b u q => ?_) I.bare
  · rcases List.mem_cons.mp hb with rfl | hb
    · exact ⟨e3, e1, e4, e5⟩
    · rw [List.mem_singleton.mp hb]; exact ⟨i3, i1, i4, i5⟩
  · obtain ⟨o, es, ep, ho, r⟩ := hm
    exact ⟨o, es, ep, k _ o (Ne.symm e1) (Ne.symm i1) ho, r⟩
  · have ne : ∀ c v, H c = some v → c ≠ e ∧ c ≠ it := fun c v q => ⟨(fun z => by rw [z, e0] at q; cases q), (fun z => by rw [z, i0] at q; cases q)⟩
    refine (I.hok b u q).stay (fun c v hc r => ?_) (fun _ r => r) fun _ _ r => r
    rcases hc with z | z
    · subst z; exact k c v (ne c _ q).1 (ne c _ q).2 r
    · exact k c v (ne c _ z).1 (ne c _ z).2 r
end
end L2.EV
namespace L2.EV
open PySem PySem.Spec PyProof.Rows
section
variable {X : Cx} {pins : List (Addr × Obj)} {σ : St} {H : Hp} {s : Shared}
/-- an object that stands untracked, ours and young, is tracked -/
theorem Inv.track {p : Addr} {o : HO} (I : Inv X pins σ H s) (hp : H p = none) (h1 : X.s₀.heap.objs.size ≤ p) (h2 : p ≠ X.env.locals) (h3 : ∀ x c, X.env.cells.lookup x = some c → c ≠ p) (h4 : ∀ q ∈ X.pn ++ pins, q.1 ≠ p) (new : ObjOk X.prog X.w (upd H p o) s.heap p o) : Inv X pins σ (upd H p o) s := by
  have old : ∀ b ob, X.s₀.heap.get? b = some ob → b ≠ p := fun b ob e => Nat.ne_of_lt (Nat.lt_of_lt_of_le (Heap.lt_size e) h1)
  refine ⟨I.ok, I.os, I.bare, ⟨I.base.keep, I.base.slot, fun b ob e n hx => by rw [upd_ne (old b ob e)]; exact I.base.free b ob e n hx, I.base.there, fun b xs e => ?_, fun b ob u e => ?_, fun b ps e => ?_⟩, I.loc, I.cell, by rw [upd_ne (Ne.symm h2)]; exact I.free, fun x c e => by rw [upd_ne (h3 x c e)]; exact I.freeC x c e, fun q hq => ?_, fun b u e => ?_, I.len⟩
  · have q := I.base.tups b xs e
    rw [upd_ne (ne_of_none q hp)]; exact q
  · have q := I.base.frzs b ob u e
    rw [upd_ne (ne_of_none q hp)]; exact q
  · obtain ⟨more, q⟩ := I.base.tbls b ps e
    exact ⟨more, by rw [upd_ne (ne_of_none q hp)]; exact q⟩
  · obtain ⟨a, b, c⟩ := I.pin q hq
    exact ⟨a, by rw [upd_ne (h4 q hq)]; exact b, c⟩
  · by_cases hb : b = p
    · subst hb; rw [upd_same] at e; cases e; exact new
    · rw [upd_ne hb] at e
      exact (I.hok b u e).stay (fun _ _ _ q => q) (fun c q => by rw [upd_ne (ne_of_none q hp)]; exact q) fun c xs q => by rw [upd_ne (ne_of_none q hp)]; exact q
end
theorem turn_enum {P : Program} {w : World} {K : PySem.W.Frag} {es : List Expr} {x1 : Nat} {pos : Pos} (a e it : Addr) (hne : e ≠ it) : Turn P w K (.Tuple es x1 pos) (Ite K a) [e, it] e (fun i h => (∃ old, IsEnum h e it i old) ∧ h.IsTupleIter it a i) where
  mem := by simp
  obj := fun i h st b hb => by
    obtain ⟨⟨old, he⟩, o, ho, c, d⟩ := st
    rcases List.mem_cons.mp hb with rfl | hb
    · exact ⟨_, he, fun v z => by cases z⟩
    · rw [List.mem_singleton.mp hb]
      exact ⟨o, ho, fun v z => by rw [d] at z; cases z⟩
  keep := fun i h h' st k => by
    obtain ⟨⟨old, he⟩, hi⟩ := st
    exact ⟨⟨old, k e (by simp) _ he⟩, hi.at fun o q => k it (by simp) o q⟩
  item := by
    intro X hP hw hK hc i pins s σ H E I hf st hg
    subst hP hw hK
    replace hc := hc.resolve_right fun z => z.1
    obtain ⟨⟨old, he⟩, hit⟩ := st
    obtain ⟨xs, x, hq, hx⟩ := hg
    obtain ⟨its, rv, p, hz⟩ := I.tuple hq
    obtain ⟨u, hu, ru⟩ := rv.get hx
    have fe := hf e (by simp)
    have fi := hf it (by simp)
    have hlt : i < its.length := (List.getElem?_eq_some_iff.mp hu).1
    obtain ⟨oa, hoa, hca, na, hda⟩ := id p
    have hae : e ≠ a := fun z => by
      subst z
      rw [he] at hoa; cases hoa
      have z' : Value.type "enumerate" = Value.type "tuple" := hca
      injection z' with z2
      exact absurd z2 (by decide)
    have hai : a ≠ it := fun z => by
      subst z
      obtain ⟨oi, hoi, hci, _⟩ := hit
      rw [hoa] at hoi; cases hoi
      rw [hca] at hci
      injection hci with z2
      exact absurd z2 (by decide)
    have Dr := draws_tup (prog := X.prog) (w := X.w) (A := X.A.in1) (I.ok.hd hc) it a hai its.toArray
    refine wpAny_pyNext_enum_itemD Dr he ⟨hit, p⟩ (by simpa using hlt) hne (by simp [hae, hne]) fun y h' tk hy ho hst hT hsz hk => ?_
    have ey : y = u := by
      have : its[i]? = some y := by simpa using hy
      rw [hu] at this; exact (Option.some.inj this).symm
    subst ey
    refine ⟨_, rfl, wpAny_letOwnedTupleGo_enum ho fun h2 he2 sb => ?_⟩
    have hTe : s.heap.objs.size ≠ e := Nat.ne_of_gt (Heap.lt_size he)
    have hTi : s.heap.objs.size ≠ it := by
      obtain ⟨oi, hoi, _⟩ := id hit
      exact Nat.ne_of_gt (Heap.lt_size hoi)
    have sb' : Heap.SameBut e h' h2 := sb
    have kk : ∀ b o, b ≠ e → b ≠ it → s.heap.get? b = some o → h2.get? b = some o := fun b o h1 h2' q => sb'.extBut b o h1 (hk b o h1 h2' q)
    have I1 : Inv X pins σ H { s with heap := h2, toks := tk + 1 } := Inv.turn2 I kk fe fi
    have hp0 : H s.heap.objs.size = none := I.hok.fresh (Nat.le_refl _)
    have hT2 : h2.get? s.heap.objs.size = some { cls := .type "tuple", data := .seq #[.int i tk, y] } := sb'.extBut _ _ hTe hT
    have I2 : Inv X pins σ (upd H s.heap.objs.size (.tup [.int i, x])) { s with heap := h2, toks := tk + 1 } := by
      refine Inv.track I1 hp0 I.sz (Nat.ne_of_gt I.lt) (fun z c h => ?_) (fun q hq2 z => ?_) ⟨Nat.le_of_ble_eq_true rfl, [.int i tk, y], .cons ⟨tk, rfl⟩ (.cons ru .nil), ⟨_, hT2, rfl, 0, rfl⟩⟩
      · obtain ⟨v, hv⟩ := I.cell z c h
        exact Nat.ne_of_lt hv.lt
      · have := Heap.lt_size (I.pin q hq2).1
        rw [z] at this; exact absurd this (Nat.lt_irrefl _)
    refine ⟨.ref s.heap.objs.size, _, I2, rfl, ⟨s.heap.objs.size, hp0, rfl, fun ys hys => ⟨x, by rw [I.tuple_inj hys hq]; exact hx, rfl⟩⟩, ⟨⟨_, by simpa using he2⟩, hst.1.at fun o q => sb'.extBut it o (Ne.symm hne) q⟩, fun b hb => ?_⟩
    have bT : b ≠ s.heap.objs.size := by
      rcases List.mem_cons.mp hb with rfl | hb
      · exact Ne.symm hTe
      · rw [List.mem_singleton.mp hb]; exact Ne.symm hTi
    rw [upd_ne bT]; exact (hf b hb).1
  done := by
    intro X hP hw hK hc i pins s σ H E I hf st hg
    subst hP hw hK
    replace hc := hc.resolve_right fun z => z.1
    obtain ⟨⟨old, he⟩, hit⟩ := st
    obtain ⟨xs, hq, hx⟩ := hg
    obtain ⟨its, rv, p, hz⟩ := I.tuple hq
    have fi := hf it (by simp)
    obtain ⟨f0, f1, f2, f3, f4, f5⟩ := fi
    have hl := rv.length
    have hT : s.TypeIs (.ref e) "enumerate" := ⟨_, he, rfl⟩
    unfold pyNext
    refine wpAny_bind (wpAny_attempt (wpAny_callSpecial?_slot (name := Str.ofString "__next__") hT F.slot_enumerate_next (wpAny_call_entry F.slot_enumerate_next hT F.entry_enumerate_next ?_ (F.args_enumerate_next_1 _))))
    show wpAny _ _ (field (.ref e) 2 >>= _) _ _ _
    refine wpAny_bind (wpAny_field he rfl (x := .ref it) rfl ?_)
    refine wpAny_bind (nextOf_tup_end (I.ok.hd hc) hit p (by simp; omega) fun h' x he' hx' => ?_)
    obtain ⟨o, ho, hc'⟩ := hx'
    refine wpAny_bind (wpAny_isInstance (T := "StopIteration") (b := true) ⟨o, ho, hc'⟩ isSubtype_stop ?_)
    exact wpAny_pure ⟨rfl, I.turned (t' := s.toks) (fun b o hb e => he' b o hb e) f0 f1 f3 f4 f5⟩
  self := fun _ _ s Q E st h => by
    obtain ⟨⟨old, he⟩, hit⟩ := st
    exact wpAny_pyIter_enum he h
end L2.EV
namespace L2.EV
open PySem PySem.Spec PyProof.Rows
section
variable {X : Cx} {ρ : Rho} {a : Expr} {pos : Pos} {N : List Str} {sc : Scope} {ds : List D}
def iEnum (K : PySem.W.Frag) (ta : TA) : TI := fun σ H R => ta σ H fun vs H1 => ∃ a, vs = [.ref a] ∧ (∃ xs, SqT K H1 a xs) ∧ R (Ite K a) H1
theorem pi_enum {es : List Expr} {x1 : Nat} {tp p : Pos} {ta : TA} (hg : Gl X "enumerate") (hm : X.mg "enumerate" = none) (hl : PA X [a] ta) (hs : Pl a) : PI X (.Tuple es x1 tp) (.Call (.Name "enumerate" p) [a] [] pos) (iEnum X.K ta) := by
  intro pins s σ H R I h
  refine Call_ (ld_blt I hg hm (show bootBuiltins "enumerate" = some (.type "enumerate") by decide +kernel) (PyProof.Rows.callWith_type1 (thn (hl pos pins s σ H _ I h) fun us s1 ⟨vs, H1, I1, r1, q1⟩ => ?_) (hs _ _) rfl))
  obtain ⟨l, rfl, ⟨xs, hq⟩, q⟩ := q1
  obtain ⟨u, rfl, ru⟩ := vals1 r1
  cases (show u = Value.ref l from ru)
  obtain ⟨its, rv, pt, hz⟩ := I1.tuple hq
  refine call_enumT pt fun h' he hi hsz kp => ?_
  have I2 : Inv X pins σ H1 { s1 with heap := h' } := I1.kept (t' := s1.toks) kp
  refine wpAny_pyIter_enum he ?_
  have fr : ∀ b, s1.heap.objs.size ≤ b → FpOk X pins H1 b := fun b hb => I1.fpOk hb (I1.hok.fresh hb)
  refine ⟨s1.heap.objs.size + 1, [s1.heap.objs.size + 1, s1.heap.objs.size], _, _, H1, rfl, I2, turn_enum l _ _ (Nat.ne_of_gt (Nat.lt_succ_self _)), ⟨⟨_, he⟩, hi⟩, fun b hb => ?_, q⟩
  rcases List.mem_cons.mp hb with rfl | hb
  · exact fr _ (by omega)
  · rw [List.mem_singleton.mp hb]; exact fr _ (Nat.le_refl _)
/-- the pairs (i, item) -/
def enumD (ds : List D) : List D := (List.range ds.length).map fun (i : Nat) => .tup [.int (i : Int), ds.getD i .non]
theorem enumD_get {i : Nat} {d : D} (h : (enumD ds)[i]? = some d) : ∃ e, ds[i]? = some e ∧ d = .tup [.int (i : Int), e] := by
  unfold enumD at h
  rw [List.getElem?_map] at h
  by_cases hi : i < ds.length
  · rw [List.getElem?_range hi] at h
    cases h
    exact ⟨ds[i], List.getElem?_eq_getElem hi, by show D.tup [D.int (i : Int), ds.getD i .non] = _; rw [List.getD_eq_getElem?_getD, List.getElem?_eq_getElem hi]; rfl⟩
  · rw [List.getElem?_eq_none (by simpa using hi)] at h; cases h
theorem enumD_len : (enumD ds).length = ds.length := by simp [enumD]
theorem ite_ok {K : PySem.W.Frag} {F : Hp} {l : Addr} {vs : List V} (hf : F l = some (.tup vs)) (r : RepL K F vs ds) : ItOk K (Ite K l) F (enumD ds) := fun i F2 H2 s1 s2 =>
  ⟨fun d hd => by
    obtain ⟨e, he, rfl⟩ := enumD_get hd
    obtain ⟨v, hv, rv⟩ := r.get he
    have sq : SqT K H2 l vs := SqT.of (s2 _ _ (s1 _ _ hf))
    refine ⟨⟨vs, v, sq, hv⟩, fun x H' y => ?_⟩
    obtain ⟨p, hp, rfl, y⟩ := y
    obtain ⟨v', hv', rfl⟩ := y vs sq
    rw [hv] at hv'; cases hv'
    exact ⟨_, (Ext.refl s2).grow hp, .tup upd_same (.cons (.int _) (.cons ((rv.mono s1).mono (upd_sameOf (s2.free hp))) .nil))⟩, fun h => ⟨vs, SqT.of (s2 _ _ (s1 _ _ hf)), by rw [r.length]; rw [enumD_len] at h; exact h⟩⟩
theorem ei_enum (t : At X N sc) {es : List Expr} {x1 : Nat} {tp p : Pos} (bl : Blt X sc "enumerate" (.type "enumerate")) (h : EvE X ρ a (.tup ds)) (hs : Pl a := by intro _ _; rfl) : EvI X ρ (.Tuple es x1 tp) (.Call (.Name "enumerate" p) [a] [] pos) (enumD ds) :=
  .of (pi_enum (gl_of t bl.g) bl.m (pa_cons pe_w pa_nil (hs _ _)) hs) fun B F H σ R k q => h B F H σ _ k fun v F' H' x r => by
    cases r with
    | tup hf rl => exact ⟨_, rfl, ⟨_, SqT.of (x.sub _ _ hf)⟩, q _ F' H' x (ite_ok hf rl)⟩
end
end L2.EV

set_option linter.all false
set_option autoImplicit false
set_option maxRecDepth 100000
/-! Exceptions of own classes below ValueError: raised, flying through frames, caught. -/
namespace L2.EV
open PySem PySem.Spec PyProof.Rows

abbrev vB : List Value := [.type "ValueError", .type "Exception", .type "BaseException", .type "object"]
abbrev vN : String := "ValueError.__new__"

/-! ### the exception's own record: its traceback in place 1, nothing in place 2 -/
def TrV (h base : Heap) (e C : Addr) (fl : Value) : Prop :=
  ∃ (oe : Obj) (vs : Array Value) (T : Addr) (oT : Obj) (ts : Array Value), h.get? e = some oe ∧ oe.cls = .ref C ∧ oe.data = .fields vs ∧ vs[1]? = some (.ref T) ∧ vs[2]? = some .none ∧ base.get? T = none ∧ T ≠ e ∧ h.get? T = some oT ∧ oT.data = .fields ts ∧ ts[3]? = some fl
/-- it flies; l: the frames it has yet to leave -/
def FlyV (base : Heap) (l : List Env) (e C : Addr) (fl : Value) (h : Heap) : Prop := base.StaysIn h ∧ base.get? e = none ∧ h.FunFrames base l ∧ TrV h base e C fl
section
variable {M : Model} {A : Around} {E : Value → Shared → Prop} {s : Shared} {base : Heap} {env : Env} {outer : List Env} {L e C : Addr} {Q : Unit → Shared → Prop}
end

/-- an exception of the class at C flies and has the frames l yet to leave; H, s: ahead of it; H': the abstract heap behind it -/
structure Fly (P : Program) (w : World) (l : List Env) (H : Hp) (s : Shared) (H' : Hp) (C : Addr) (e : Value) (s' : Shared) : Prop where
  ex : ∃ (ea : Addr) (B : Heap), e = .ref ea ∧ FlyV B l ea C .none s'.heap ∧ HOk P w H' B ∧
    (∀ b o, s.heap.get? b = some o → H b = none → b ∉ frs l → B.get? b = some o) ∧ (∀ b o, s.heap.get? b = some o → b ∉ frs l → ∃ o', B.get? b = some o')
  os : s'.os = s.os
  bare : AllBare s'.gens
  slot : ∀ b o, s.heap.get? b = some o → H b = none → b ∈ frs l → ∃ sl, s'.heap.get? b = some { o with slots := sl }
  free : ∀ b o, s.heap.get? b = some o → H b = none → H' b = none
  tups : ∀ b xs, H b = some (.tup xs) → H' b = some (.tup xs)
  frzs : ∀ b o u, H b = some (.frz o u) → H' b = some (.frz o u)
  tbls : ∀ b ps, H b = some (.tbl ps) → ∃ more, H' b = some (.tbl (ps ++ more))

section
variable {X : Cx} {pins : List (Addr × Obj)} {σ : St} {H H' : Hp} {s s' : Shared} {C : Addr} {e : Value}
end
end L2.EV

set_option linter.all false
set_option autoImplicit false
set_option maxRecDepth 100000
/-! Code that raises: the judgements (m: it may be raised in this body itself), and the defs. -/
namespace L2.EV
open PySem PySem.Spec PyProof.Rows

inductive Thrown (X : Cx) (m : Bool) (H : Hp) (s : Shared) (H' : Hp) (C : Addr) (e : Value) (s' : Shared) : Prop where
  | fly : Fly X.prog X.w X.stack H s H' C e s' → Thrown X m H s H' C e s'
  | made {ea : Addr} {vs : List Value} : m = true → H' = H → e = .ref ea → Heap.MadeExcOf s.heap s'.heap ea (.ref C) vs → s'.os = s.os → s'.gens = s.gens → Thrown X m H s H' C e s'
def XP (X : Cx) (m : Bool) (pins : List (Addr × Obj)) (B : B0) (F : Hp) (ρ' : Rho) (C : Addr) (e : Value) (s' : Shared) : Prop :=
  ∃ (σ1 : St) (H1 : Hp) (s1 : Shared) (F' H' : Hp), Inv X pins σ1 H1 s1 ∧ Ok X.K B F' H' σ1 ρ' ∧ Same F F' ∧ Thrown X m H1 s1 H' C e s'
def XvE (X : Cx) (m : Bool) (ρ : Rho) (e : Expr) (C : Addr) (ρ' : Rho) : Prop := ∀ (B : B0) (F H : Hp) (σ : St), Ok X.K B F H σ ρ → ∀ (pins : List (Addr × Obj)) (s : Shared), Inv X pins σ H s →
  wpAny (model X.prog X.w) X.A (eval e X.env) (fun _ _ => False) (XP X m pins B F ρ' C) s
def XvA (X : Cx) (m : Bool) (ρ : Rho) (es : List Expr) (C : Addr) (ρ' : Rho) : Prop := ∀ (B : B0) (F H : Hp) (σ : St), Ok X.K B F H σ ρ → ∀ (pos : Pos) (pins : List (Addr × Obj)) (s : Shared), Inv X pins σ H s →
  wpAny (model X.prog X.w) X.A (spliced (backTo pos (starEach es X.env))) (fun _ _ => False) (XP X m pins B F ρ' C) s
def XvS (X : Cx) (m : Bool) (ρ : Rho) (st : Stmt) (C : Addr) (ρ' : Rho) : Prop := ∀ (B : B0) (F H : Hp) (σ : St), Ok X.K B F H σ ρ → ∀ (pins : List (Addr × Obj)) (s : Shared), Inv X pins σ H s →
  wpAny (model X.prog X.w) X.A (exec st X.env) (fun _ _ => False) (XP X m pins B F ρ' C) s
def XvSs (X : Cx) (m : Bool) (ρ : Rho) (st : List Stmt) (C : Addr) (ρ' : Rho) : Prop := ∀ (B : B0) (F H : Hp) (σ : St), Ok X.K B F H σ ρ → ∀ (pins : List (Addr × Obj)) (s : Shared), Inv X pins σ H s →
  wpAny (model X.prog X.w) X.A (execs st X.env) (fun _ _ => False) (XP X m pins B F ρ' C) s

section
variable {X : Cx} {m : Bool} {ρ ρ1 ρ' : Rho} {e a b c : Expr} {es : List Expr} {d : D} {ds : List D} {pos p : Pos} {N : List Str} {sc : Scope} {C : Addr} {st : Stmt} {rest : List Stmt} {x : Str}
/-! ### statements -/
/-! ### expressions -/
/-! ### defs -/
def CXW (P : Program) (w : World) : CXT := fun outer H s E e s' => ∃ (C : Addr) (H' : Hp), E (.ref C) none H' ∧ Fly P w outer H s H' C e s'
def spX (K : PySem.W.Frag) (C : Addr) (R : List D → Prop) : Sp := fun vs H _ E => ∃ F ds, Same F H ∧ RepL K F vs ds ∧ R ds ∧ ∀ F' H', Ext ⟨F, H⟩ F' H' → E (.ref C) none H'
/-- for these data it raises -/
def CalleeX (X : Cx) (x : Str) (C : Addr) (R : List D → Prop) : Prop := ∃ (f : Addr) (fd : FuncData) (ps : List Str) (k : Nat), FnOk X.prog X.w X.K X.mg X.base (CXW X.prog X.w) k f fd ps (spX X.K C R) ∧ Room k X.A ∧ X.mg x = some (.ref f) ∧ PySem.W.keepIn X.K (.ref f) = true ∧ Binds X.K fd ps []
/-! ### raise -/
end
end L2.EV

set_option linter.all false
set_option autoImplicit false
set_option maxRecDepth 100000
/-! try .. except of an own class. -/
namespace L2.EV
open PySem PySem.Spec PyProof.Rows

/-- the context of an except suite -/
abbrev Cx.hot (X : Cx) (ea : Addr) : Cx := { X with A := X.A.mark (some (.ref ea)), calm := false }
section
variable {X : Cx} {pins : List (Addr × Obj)} {σ : St} {H H' : Hp} {s s' : Shared} {C ea : Addr} {B h5 : Heap}
end

section
variable {X : Cx} {ρ ρ1 : Rho} {N : List Str} {sc : Scope} {o : Out} {body suite : List Stmt} {b₀ : Stmt} {hs : List ExceptHandler} {h₀ : ExceptHandler} {pos np hp : Pos} {C Dc : Addr} {y : Str}
def Out.drop (i : Nat) : Out → Out
  | .nx ρ => .nx (ρ.set i .un)
  | .rt d => .rt d
end

/-- what is handled is but an exception -/
inductive Soft : Rho → Rho → Prop where
  | nil : Soft [] []
  | same {x : Sl} {ρ ρ' : Rho} : Soft ρ ρ' → Soft (x :: ρ) (x :: ρ')
  | soft {C ea : Addr} {ρ ρ' : Rho} : Soft ρ ρ' → Soft (.val (.exh C ea) :: ρ) (.val (.exc C) :: ρ')
/-! ### in an except suite -/
section
variable {X : Cx} {ρ : Rho} {N : List Str} {sc : Scope} {e : Expr} {d : D} {pos : Pos} {x : Str}
end
end L2.EV

set_option linter.all false
set_option autoImplicit false
set_option maxRecDepth 100000
/-! Targets of several names, from tuples and lists. -/
namespace L2.EV
open PySem PySem.Spec PyProof.Rows

section
variable {prog : Program} {w : World} {A : Around} {E : Value → Shared → Prop}
theorem drawL {it l : Addr} {xs : Array Value} (hne : l ≠ it) : ∀ (n i : Nat) (s : Shared) (Q : List Value → Shared → Prop), s.heap.IsListIter it l i → s.heap.IsList l xs → i + n ≤ xs.size →
    (∀ h', h'.IsListIter it l (i + n) → Heap.SameBut it s.heap h' → Q ((xs.toList.drop i).take n) { s with heap := h' }) → wpAny (model prog w) A (draw (.ref it) n) Q E s := by
  intro n
  induction n with
  | zero =>
    intro i s Q hit _ _ hQ
    have z := hQ s.heap hit (Heap.SameBut.refl ..)
    rw [List.take_zero] at z
    exact wpAny_pure z
  | succ n ih =>
    intro i s Q hit hl hle hQ
    have hlt : i < xs.size := Nat.lt_of_lt_of_le (Nat.lt_succ_of_le (Nat.le_add_right i n)) hle
    have hx : xs[i]? = some xs[i] := Array.getElem?_eq_getElem hlt
    show wpAny _ _ (pyNext (.ref it) >>= _) Q E s
    refine wpAny_bind (wpAny_pyNext_list_item hit hl hx fun h1 hit1 hs1 => wpAny_bind (wpAny_holding (ih (i + 1) _ _ hit1 (hl.extBut hs1.extBut hne) (by omega) fun h2 hit2 hs2 => wpAny_pure ?_)))
    have e1 : xs.toList.drop i = xs[i] :: xs.toList.drop (i + 1) := by rw [List.drop_eq_getElem_cons (by simpa using hlt)]; simp
    have z := hQ h2 (by have e2 : i + (n + 1) = i + 1 + n := by omega
                        rw [e2]; exact hit2) (hs1.trans hs2)
    rw [e1, List.take_succ_cons] at z
    exact z
theorem assign_Tuple_list {s : Shared} {env : Env} {elts : List Expr} {x1 : Nat} {pos : Pos} {l : Addr} {xs : Array Value} {Q : Unit → Shared → Prop} (hh : A.handled = none) (hl : s.heap.IsList l xs)
    (hn : (assignEach elts env).length = xs.size) (hstar : (assignEach elts env).findIdx? (·.1) = none)
    (h : ∀ h', Heap.ExtBut s.heap.objs.size s.heap h' → wpAny (model prog w) A (assignInOrder ((assignEach elts env).map (·.2)) xs.toList) Q E { s with heap := h' }) :
    wpAny (model prog w) A (assign (.Tuple elts x1 pos) env (.ref l)) Q E s := by
  have ne : l ≠ s.heap.objs.size := by obtain ⟨o, ho, _⟩ := hl; exact Nat.ne_of_lt (Heap.lt_size ho)
  rw [assign_Tuple]
  refine wpAny_bind (wpAny_standAt ?_)
  unfold unpack
  rw [hn, hstar]
  refine wpAny_bind (wpAny_holding ?_)
  unfold unpackItems
  refine wpAny_bind ?_
  unfold notIterableAtAll
  refine wpAny_bind (wpAny_specialOf hl.typeIs slot_list_iter.lookup (wpAny_pure ?_))
  simp only [Bool.false_eq_true, if_false]
  refine wpAny_bind (wpAny_holding (wpAny_pyIter_list hl ?_))
  refine wpAny_bind (wpAny_holding (drawL ne xs.size 0 _ _ ⟨_, Heap.get?_push_size _ rfl, rfl, rfl⟩ (hl.push _) (Nat.le_of_eq (Nat.zero_add _)) fun h1 hit1 hs1 => ?_))
  have all : (xs.toList.drop 0).take xs.size = xs.toList := by rw [List.drop_zero]; exact List.take_of_length_le (by simp)
  rw [all, if_neg (by simp)]
  refine wpAny_bind (wpAny_holding (wpAny_pyNext_list_end hh hit1 ((hl.push _).extBut hs1.extBut ne) (by simp) fun h2 he2 => ?_))
  simp only [Option.isSome_none, Bool.false_eq_true, if_false]
  exact wpAny_pure (h h2 fun b o hb e => he2 b o hb (hs1.extBut b o hb (Heap.get?_push_of_some _ e)))
end
def gLst (K : PySem.W.Frag) (n : Nat) (t : TGs) : TG := fun v σ H Q => ∃ a xs, v = .ref a ∧ SqL K H a xs ∧ xs.length = n ∧ t xs σ H Q
theorem pg_lst {X : Cx} {pos : Pos} {es : List Expr} {k : Nat} {t : TGs} {n : Nat} (hc : X.calm = true) (h : PGs X es t)
    (hn : (assignEach es X.env).length = n := by rfl) (hst : (assignEach es X.env).findIdx? (·.1) = none := by rfl) : PG X (.Tuple es k pos) (gLst X.K n t) := by
  intro pins s σ H v u Q I r hw
  obtain ⟨a, xs, e1, hq, hl, hw⟩ := hw
  subst e1
  cases r
  obtain ⟨its, rv, ht, hz⟩ := I.list hq
  have len : (assignEach es X.env).length = its.toArray.size := by rw [hn, ← hl, rv.length]; simp
  refine assign_Tuple_list (I.ok.hd hc) ht.isList len hst fun h' hx => ?_
  have I1 : Inv X pins σ H { s with heap := h' } := I.kept (t' := s.toks) fun b o e => hx b o (Nat.ne_of_lt (Heap.lt_size e)) e
  exact h pins _ σ H xs _ Q I1 (by simpa using rv) hw

def wGs (X : Cx) (es : List Expr) : TGs := fun vs σ H Q => ∀ (pins : List (Addr × Obj)) (s : Shared) (us : List Value), Inv X pins σ H s → Vals vs us → wpAny (model X.prog X.w) X.A (assignInOrder ((assignEach es X.env).map (·.2)) us) (fun _ s' => ∃ σ' H', Inv X pins σ' H' s' ∧ Q σ' H') X.xe s
theorem pgs_w {X : Cx} {es : List Expr} : PGs X es (wGs X es) := fun pins s _ _ _ us _ I r h => h pins s us I r
/-- several targets -/
def EvGs (X : Cx) (ρ : Rho) (es : List Expr) (ds : List D) (ρ' : Rho) : Prop := ((∀ env, (assignEach es env).length = ds.length) ∧ ∀ env, (assignEach es env).findIdx? (·.1) = none) ∧ ∀ (B : B0) (F H : Hp) (σ : St) (vs : List V) (Q : St → Hp → Prop), Ok X.K B F H σ ρ → RepL X.K F vs ds →
  (∀ F' H' σ', Ok X.K B F' H' σ' ρ' → Same F F' → Q σ' H') → wGs X es vs σ H Q
def PlG (e : Expr) : Prop := ∀ (es : List Expr) (env : Env), assignEach (e :: es) env = (false, assign e env) :: assignEach es env
section
variable {X : Cx} {ρ ρ1 ρ' : Rho} {e : Expr} {es : List Expr} {d : D} {ds : List D} {pos : Pos} {N : List Str} {sc : Scope}
theorem egs_nil : EvGs X ρ [] [] ρ := ⟨⟨fun _ => rfl, fun _ => rfl⟩, fun B F H σ vs Q k r q pins s us I ru => by
  cases r
  exact pgs_nil pins s σ H [] us Q I ru ⟨rfl, q F H σ k (.refl _)⟩⟩
theorem egs_cons (h1 : EvG X ρ e d ρ1) (h2 : EvGs X ρ1 es ds ρ') (hs : PlG e := by intro _ _; rfl) : EvGs X ρ (e :: es) (d :: ds) ρ' := ⟨⟨fun env => by rw [hs es env, List.length_cons, List.length_cons, h2.1.1 env], fun env => by
    rw [hs es env, List.findIdx?_cons]
    simp [h2.1.2 env]⟩, fun B F H σ vs Q k r q pins s us I ru => by
  cases r with
  | cons r1 r2 =>
    refine pgs_cons pg_w pgs_w (by rw [hs es X.env]; rfl) pins s σ H _ us Q I ru ⟨_, _, rfl, ?_⟩
    exact h1 B F H σ _ _ k r1 fun F1 H1 σ1 k1 s1 => h2.2 B F1 H1 σ1 _ _ k1 (r2.mono s1) fun F2 H2 σ2 k2 s2 => q F2 H2 σ2 k2 (s1.trans s2)⟩
theorem eg_tup (t : At X N sc) {k : Nat} (h : EvGs X ρ es ds ρ') : EvG X ρ (.Tuple es k pos) (.tup ds) ρ' :=
  .of (pg_tup (n := ds.length) t.calm pgs_w (h.1.1 _) (h.1.2 _)) fun B F H σ v Q k r q => by
    cases r with
    | tup hf rl => exact ⟨_, _, rfl, SqT.of (k.sub _ _ hf), rl.length, h.2 B F H σ _ Q k rl q⟩
theorem eg_lst (t : At X N sc) {k : Nat} (h : EvGs X ρ es ds ρ') : EvG X ρ (.Tuple es k pos) (.lst ds) ρ' :=
  .of (pg_lst (n := ds.length) t.calm pgs_w (h.1.1 _) (h.1.2 _)) fun B F H σ v Q k r q => by
    cases r with
    | lst hf rl => exact ⟨_, _, rfl, SqL.of (k.sub _ _ hf), rl.length, h.2 B F H σ _ Q k rl q⟩
end
end L2.EV

set_option linter.all false
set_option autoImplicit false
set_option maxRecDepth 100000
/-! isinstance of an exception that was caught; is None. -/
namespace L2.EV
open PySem PySem.Spec PyProof.Rows

/-- what the module knows of an own error class -/
structure XCls (K : PySem.W.Frag) (C : Addr) : Prop where
  ga : PySem.W.findIn K (.ref C) "__getattribute__" = some (some (.builtin "BaseException.__getattribute__"))
  gt : PySem.W.findIn K (.ref C) "__getattr__" = some none
  cl : PySem.W.findIn K (.ref C) "__class__" = some (some (.builtin "object.__class__"))
  ob : PySem.W.mroIn K C (.type "object") = some true
  be : PySem.W.mroIn K C (.type "BaseException") = some true

section
variable {prog : Program} {w : World} {A : Around} {E : Value → Shared → Prop} {h : Heap} {g : Array GenState} {d : Drawn} {t : Nat} {os : OsState} {a C : Addr} {o : Obj} {K : PySem.W.Frag}
end
section
variable {X : Cx} {ρ : Rho} {a : Expr} {C : Addr} {p pos : Pos} {N : List Str} {sc : Scope} {x : Str}
/-! ### is None -/
def isNon : D → Bool
  | .non => true
  | _ => false
variable {d : D}
end
end L2.EV

set_option linter.all false
set_option autoImplicit false
set_option maxRecDepth 100000
/-! reversed over a tuple. -/
namespace L2.EV
open PySem PySem.Spec PyProof.Rows
open AutoSeq1 (wpAny_loadPart')

theorem slot_rev_next : Slot "reversed" "__next__" "reversed.__next__" :=
  .of (owner := "reversed") (n := "__next__") (by rw [typeLookup_type, builtinLookup_eq_fast]; kernel_rfl) (by decide +kernel) (by decide +kernel) (by decide +kernel) (by first | exact .inl (by decide +kernel) | exact .inr (by decide +kernel)) (by rw [isSubtype_type]; kernel_rfl)
theorem slot_rev_iter : Slot "reversed" "__iter__" "reversed.__iter__" :=
  .of (owner := "reversed") (n := "__iter__") (by rw [typeLookup_type, builtinLookup_eq_fast]; kernel_rfl) (by decide +kernel) (by decide +kernel) (by decide +kernel) (by first | exact .inl (by decide +kernel) | exact .inr (by decide +kernel)) (by rw [isSubtype_type]; kernel_rfl)
theorem slot_rev_init : Slot "reversed" "__init__" "object.__init__" :=
  .of (owner := "object") (n := "__init__") (by rw [typeLookup_type, builtinLookup_eq_fast]; kernel_rfl) (by decide +kernel) (by decide +kernel) (by decide +kernel) (by first | exact .inl (by decide +kernel) | exact .inr (by decide +kernel)) (by rw [isSubtype_type]; kernel_rfl)
theorem entry_rev_next : entryFor table "reversed.__next__" = some Builtin.«reversed.__next__» := entryFor_of_tree (by kernel_rfl)
theorem entry_rev_iter : entryFor table "reversed.__iter__" = some Builtin.«dict_keyiterator.__iter__» :=
  entryFor_alias (id' := "dict_keyiterator.__iter__") (by kernel_rfl) (by first | rfl | decide +kernel | (unfold String.splitOn; simp +decide [String.splitOnAux])) (by decide +kernel) (by kernel_rfl)
theorem args_rev_next (a : Value) : argsOk "reversed.__next__" ⟨[a], []⟩ := by unfold argsOk; kernel_rfl
theorem args_rev_iter (a : Value) : argsOk "reversed.__iter__" ⟨[a], []⟩ := by unfold argsOk; kernel_rfl
theorem mro_rev : mroOf (.type "reversed") = pure [.type "reversed", .type "object"] := by rw [mroOf_type]; kernel_rfl
theorem new_rev : typeLookup (.type "reversed") "__new__" = pure (some (.builtin "reversed.__new__")) := by rw [typeLookup_type, builtinLookup_eq_fast]; kernel_rfl
theorem called_rev : TypeCalled "reversed" "reversed.__new__" "object.__init__" :=
  ⟨by decide +kernel, by decide +kernel, ⟨_, _, mro_rev⟩, madeBy_type mro_rev new_rev (by decide +kernel), by decide +kernel, by rw [isSubtype_type]; kernel_rfl, slot_rev_init⟩
theorem typeCall_rev (a : Value) : checkTypeCall "reversed" ⟨[a], []⟩ = pure () := by kernel_rfl
theorem newCall_rev (a : Value) : checkBuiltinCall "reversed.__new__" ⟨[.type "reversed", a], []⟩ = pure () := by kernel_rfl
theorem entry_rev_new : entryFor table "reversed.__new__" = some Builtin.«reversed.__new__» := entryFor_of_tree (by kernel_rfl)
theorem sub_rev : isSubtype (.type "reversed") (.type "reversed") = pure true := by rw [isSubtype_type]; kernel_rfl
theorem tup_norev : typeLookup (.type "tuple") "__reversed__" = pure none := by rw [typeLookup_type, builtinLookup_eq_fast]; kernel_rfl
theorem tup_nodict : isSubtype (.type "tuple") (.type "dict") = pure false := by rw [isSubtype_type]; kernel_rfl
theorem newCls_rev (a : Value) : Builtin.SmallTypes.newClass "reversed" ⟨[.type "reversed", a], []⟩ = pure (.type "reversed", [a]) := by
  unfold Builtin.SmallTypes.newClass
  simp only [isType, sub_rev, pure_bind, Bool.not_true, Bool.false_eq_true, if_false]

def RevT (h : Heap) (e a : Addr) (j : Int) : Prop := ∃ o, h.get? e = some o ∧ o.cls = .type "reversed" ∧ o.data = .fields #[.ref a, rawInt j]
theorem meets_rev (l : Addr) (items : Array Value) (hz : (items.size : Int) < 2 ^ 63) : Meets (Builtin.«reversed.__new__» ⟨[.type "reversed", .ref l], []⟩) (fun _ R s => IsTup s.heap l items ∧ ∀ t', R (.ok (.ret (.ref s.heap.objs.size))) { s with heap := s.heap.push { cls := .type "reversed", data := .fields #[.ref l, rawInt ((items.size : Int) - 1)] }, toks := t' }) :=
  .of_wp fun prog w A R s h => by
    obtain ⟨hp, g, d, tk, os⟩ := s; obtain ⟨hl, h⟩ := h
    have hT : (⟨hp, g, d, tk, os⟩ : Shared).TypeIs (.ref l) "tuple" := hl.typeIs
    unfold Builtin.«reversed.__new__»
    refine wpAny_bind (wpAny_of_eq (newCls_rev _) ?_)
    try dsimp only
    refine wpAny_bind (wpAny_of_eq (a := ()) (by first | rfl | kernel_rfl) ?_)
    refine wpAny_bind (wpAny_of_eq (a := ()) (by first | rfl | kernel_rfl) ?_)
    try dsimp only
    refine wpAny_bind (wpAny_specialOf hT tup_norev ?_)
    try dsimp only
    refine wpAny_bind ?_
    refine wpAny_bind (wpAny_isInstance (T := "tuple") (b := false) hT tup_nodict ?_)
    simp only [Bool.false_eq_true, if_false]
    refine wpAny_bind (wpAny_specialOf hT slot_tuple_getitem.lookup ?_)
    try dsimp only
    rw [if_pos (by decide +kernel)]
    refine wpAny_pure ?_
    simp only [Bool.not_true, Bool.false_eq_true, if_false]
    refine wpAny_bind (len_tuple hl hz ?_)
    refine wpAny_bind (wpAny_of_eq (a := some (items.size : Int)) (by rfl) ?_)
    try dsimp only
    refine wpAny_bind ?_
    show wpAny _ _ (newObj (.type "reversed") (.fields #[.ref l, rawInt ((items.size : Int) - 1)])) _ _ _
    exact wpAny_newObj_type (wpAny_pure ⟨_, rfl, h _⟩)
section
variable {prog : Program} {w : World} {A : Around} {E : Value → Shared → Prop} {s : Shared}
theorem call_rev {l : Addr} {items : Array Value} {Q : Value → Shared → Prop} (hz : (items.size : Int) < 2 ^ 63) (hl : IsTup s.heap l items)
    (h : ∀ t', Q (.ref s.heap.objs.size) { s with heap := s.heap.push { cls := .type "reversed", data := .fields #[.ref l, rawInt ((items.size : Int) - 1)] }, toks := t' }) : wpAny (model prog w) A (call (.type "reversed") [.ref l]) Q E s := by
  refine callType_new called_rev (by decide) (typeCall_rev _) (newCall_rev _) (fun obj => F.args_object_init_2 obj _) entry_rev_new (meets_rev l items hz) ⟨hl, fun t' => ?_⟩
  exact ⟨⟨_, Heap.get?_push_size _ rfl, rfl⟩, h t'⟩
theorem next_rev_item {e a : Addr} {j : Nat} {items : Array Value} {x : Value} {Q : Option Value → Shared → Prop} (hz : (items.size : Int) < 2 ^ 63) (hit : RevT s.heap e a (j : Int)) (hl : IsTup s.heap a items) (hx : items[j]? = some x)
    (hQ : ∀ h' t', RevT h' e a ((j : Int) - 1) → Heap.SameBut e s.heap h' → Q (some x) { s with heap := h', toks := t' }) : wpAny (model prog w) A (pyNext (.ref e)) Q E s := by
  obtain ⟨o, ho, hc, hd⟩ := id hit
  have hT : s.TypeIs (.ref e) "reversed" := ⟨o, ho, hc⟩
  have hjs : j < items.size := (Array.getElem?_eq_some_iff.mp hx).1
  unfold pyNext
  refine wpAny_bind (wpAny_attempt (wpAny_callSpecial?_slot (name := Str.ofString "__next__") hT slot_rev_next (wpAny_call_entry slot_rev_next hT entry_rev_next ?_ (args_rev_next _))))
  unfold Builtin.«reversed.__next__»
  refine wpAny_bind (wpAny_of_eq (a := (Value.ref e, [])) rfl ?_)
  try dsimp only
  refine wpAny_bind (wpAny_field ho hd (x := .ref a) rfl ?_)
  refine wpAny_bind (wpAny_field ho hd (x := rawInt (j : Int)) rfl ?_)
  show wpAny _ _ (if (j : Int) < 0 then _ else _) _ _ s
  rw [if_neg (by omega)]
  refine wpAny_bind (wpAny_specialOf hl.typeIs slot_tuple_getitem.lookup ?_)
  simp only [Option.isNone_some, Bool.false_eq_true, if_false]
  refine wpAny_bind (wpAny_mkInt ?_)
  refine wpAny_bind (wpAny_attempt (getItem_tuple (j := j) hl (by omega) (by omega) (by unfold seqIndex?; simp; omega) hx ?_))
  refine wpAny_bind (wpAny_field ho hd (x := rawInt (j : Int)) rfl ?_)
  show wpAny _ _ (setField (.ref e) 1 (rawInt ((j : Int) - 1)) >>= _) _ _ _
  refine wpAny_bind (wpAny_setField ho hd (by simp) (wpAny_pure ⟨x, rfl, wpAny_pure (hQ _ _ ?_ (Heap.SameBut.update ..))⟩))
  exact ⟨_, Heap.get?_update_self _ ho (Obj.isFreed_of_fields (Obj.data_mapFields hd _)), (Obj.cls_mapFields ..).trans hc, by rw [Obj.data_mapFields hd]; simp [rawInt]⟩
theorem next_rev_end {e a : Addr} {j : Int} {Q : Option Value → Shared → Prop} (hh : A.handled = none) (hj : j < 0) (hit : RevT s.heap e a j) (hQ : ∀ h', Heap.ExtBut e s.heap h' → Q none { s with heap := h' }) : wpAny (model prog w) A (pyNext (.ref e)) Q E s := by
  obtain ⟨o, ho, hc, hd⟩ := id hit
  have hT : s.TypeIs (.ref e) "reversed" := ⟨o, ho, hc⟩
  unfold pyNext
  refine wpAny_bind (wpAny_attempt (wpAny_callSpecial?_slot (name := Str.ofString "__next__") hT slot_rev_next (wpAny_call_entry slot_rev_next hT entry_rev_next ?_ (args_rev_next _))))
  unfold Builtin.«reversed.__next__»
  refine wpAny_bind (wpAny_of_eq (a := (Value.ref e, [])) rfl ?_)
  try dsimp only
  refine wpAny_bind (wpAny_field ho hd (x := .ref a) rfl ?_)
  refine wpAny_bind (wpAny_field ho hd (x := rawInt j) rfl ?_)
  show wpAny _ _ (if j < 0 then _ else _) _ _ s
  rw [if_pos hj]
  refine wpAny_bind (wpAny_rule ?_)
  refine wpAny_bind ?_
  show wpAny _ _ (do setField (.ref e) 1 (rawInt (-1)); setField (.ref e) 0 .none) _ _ s
  refine wpAny_bind (wpAny_setField ho hd (by simp) ?_)
  have hd1 := Obj.data_mapFields hd (·.setIfInBounds 1 (rawInt (-1)))
  have ho1 := Heap.get?_update_self (Obj.mapFields (·.setIfInBounds 1 (rawInt (-1)))) ho (Obj.isFreed_of_fields hd1)
  refine wpAny_setField ho1 hd1 (by simp) ?_
  refine wpAny_bind ?_
  show wpAny _ _ (newExc (.type "StopIteration") [] >>= _) _ _ _
  refine wpAny_bind ?_
  simp only [newExc, newTuple]
  refine wpAny_bind (wpAny_newObj_type ?_ (by size_fits))
  refine wpAny_bind (m := firstArgMember _ _) (wpAny_of_eq (a := Value.none) (by first | rfl | (simp only [firstArgMember]; rfl)) ?_)
  refine wpAny_newObj_type ?_ (by size_fits)
  simp only [raiseNew]
  refine wpAny_bind (wpAny_handled ?_)
  first | rw [show A.in1.handled = none from hh] | rw [hh]
  refine wpAny_bind (wpAny_pure (wpAny_throw ?_))
  refine wpAny_bind (wpAny_isInstance (T := "StopIteration") (b := true) ⟨_, Heap.get?_push_size _ rfl, rfl⟩ isSubtype_stop ?_)
  exact wpAny_pure (hQ _ ((((Heap.SameBut.update ..).trans (Heap.SameBut.update ..)).extBut.push _).push _))
theorem iter_rev {e a : Addr} {j : Int} {Q : Value → Shared → Prop} (hit : RevT s.heap e a j) (h : Q (.ref e) s) : wpAny (model prog w) A (pyIter (.ref e)) Q E s := by
  obtain ⟨o, ho, hc, hd⟩ := hit
  have hT : s.TypeIs (.ref e) "reversed" := ⟨o, ho, hc⟩
  exact wpAny_pyIter_slot hT slot_rev_iter (wpAny_call_entry slot_rev_iter hT entry_rev_iter (wpAny_pure ⟨_, rfl, "reversed", _, hT, slot_rev_next.lookup, h⟩) (args_rev_iter _))
end
/-- the n items of the tuple at a, the last one first -/
def Itv (K : PySem.W.Frag) (a : Addr) (n : Nat) : It :=
  ⟨fun i H => ∃ xs x, SqT K H a xs ∧ xs.length = n ∧ xs.reverse[i]? = some x, fun i H x H' => H' = H ∧ ∀ xs, SqT K H a xs → xs.reverse[i]? = some x, fun i H => ∃ xs, SqT K H a xs ∧ xs.length = n ∧ n ≤ i, False⟩
theorem rev_ix {α : Type} {xs : List α} {i : Nat} {x : α} (h : xs.reverse[i]? = some x) : i < xs.length ∧ xs[xs.length - 1 - i]? = some x := by
  have hi : i < xs.length := by
    have := (List.getElem?_eq_some_iff.mp h).1
    simpa using this
  rw [List.getElem?_reverse hi] at h
  exact ⟨hi, h⟩
theorem turn_rev {P : Program} {w : World} {K : PySem.W.Frag} {tg : Expr} (a e : Addr) (n : Nat) : Turn P w K tg (Itv K a n) [e] e (fun i h => RevT h e a ((n : Int) - 1 - (i : Int))) where
  mem := by simp
  obj := fun i h st b hb => by
    obtain ⟨o, ho, hc, hd⟩ := st
    rw [List.mem_singleton.mp hb]
    exact ⟨o, ho, fun v z => by rw [hd] at z; cases z⟩
  keep := fun i h h' st k => by
    obtain ⟨o, ho, r⟩ := st
    exact ⟨o, k e (by simp) o ho, r⟩
  item := by
    intro X hP hw hK hc i pins s σ H E I hf st hg
    subst hP hw hK
    replace hc := hc.resolve_right fun z => z.1
    obtain ⟨xs, x, hq, hlen, hx⟩ := hg
    obtain ⟨its, rv, p, hz⟩ := I.tuple hq
    obtain ⟨hi, hx'⟩ := rev_ix hx
    obtain ⟨u, hu, ru⟩ := rv.get hx'
    obtain ⟨f0, f1, f2, f3, f4, f5⟩ := hf e (by simp)
    have hl := rv.length
    have h63 := line63
    have ej : (n : Int) - 1 - (i : Int) = ((xs.length - 1 - i : Nat) : Int) := by omega
    rw [ej] at st
    refine next_rev_item (items := its.toArray) (by rw [List.size_toArray]; omega) st p (x := u) (by simpa using hu) fun h' tk st' sb => ?_
    have I1 : Inv X pins σ H { s with heap := h', toks := tk } := I.turned (fun b o hb q => (sb.2 b hb).trans q) f0 f1 f3 f4 f5
    obtain ⟨o, e1, c, d⟩ := id st'
    have st2 : RevT h' e a ((n : Int) - 1 - ((i + 1 : Nat) : Int)) := by
      have : ((xs.length - 1 - i : Nat) : Int) - 1 = (n : Int) - 1 - ((i + 1 : Nat) : Int) := by omega
      rw [← this]; exact st'
    exact ⟨u, rfl, go_of (s := { s with heap := h', toks := tk }) e1 c d (by decide) ⟨x, H, I1, ru, ⟨rfl, fun ys hy => by rw [I.tuple_inj hy hq]; exact hx⟩, st2, fun b hb => (hf b hb).1⟩⟩
  done := by
    intro X hP hw hK hc i pins s σ H E I hf st hg
    subst hP hw hK
    replace hc := hc.resolve_right fun z => z.1
    obtain ⟨xs, hq, hlen, hx⟩ := hg
    obtain ⟨f0, f1, f2, f3, f4, f5⟩ := hf e (by simp)
    exact next_rev_end (I.ok.hd hc) (by omega) st fun h' eb => ⟨rfl, I.turned (t' := s.toks) (fun b o hb q => eb b o hb q) f0 f1 f3 f4 f5⟩
  self := fun _ _ s Q E st h => iter_rev st h
section
variable {X : Cx} {ρ : Rho} {a tg : Expr} {pos : Pos} {N : List Str} {sc : Scope} {ds : List D}
def iRev (K : PySem.W.Frag) (ta : TA) : TI := fun σ H R => ta σ H fun vs H1 => ∃ a xs, vs = [.ref a] ∧ SqT K H1 a xs ∧ R (Itv K a xs.length) H1
theorem pi_rev {p : Pos} {ta : TA} (hg : Gl X "reversed") (hm : X.mg "reversed" = none) (hl : PA X [a] ta) (hs : Pl a) : PI X tg (.Call (.Name "reversed" p) [a] [] pos) (iRev X.K ta) := by
  intro pins s σ H R I h
  refine Call_ (ld_blt I hg hm (show bootBuiltins "reversed" = some (.type "reversed") by decide +kernel) (PyProof.Rows.callWith_type1 (thn (hl pos pins s σ H _ I h) fun us s1 ⟨vs, H1, I1, r1, q1⟩ => ?_) (hs _ _) rfl))
  obtain ⟨l, xs, rfl, hq, q⟩ := q1
  obtain ⟨u, rfl, ru⟩ := vals1 r1
  cases (show u = Value.ref l from ru)
  obtain ⟨its, rv, pt, hz⟩ := I1.tuple hq
  have hlen := rv.length
  have h63 := line63
  refine call_rev (items := its.toArray) (by rw [List.size_toArray]; omega) pt fun t' => ?_
  have kp : ∀ b o, s1.heap.get? b = some o → (s1.heap.push { cls := .type "reversed", data := .fields #[.ref l, rawInt ((its.toArray.size : Int) - 1)] }).get? b = some o := fun b o q => Heap.get?_push_of_some _ q
  have I2 : Inv X pins σ H1 { s1 with heap := s1.heap.push { cls := .type "reversed", data := .fields #[.ref l, rawInt ((its.toArray.size : Int) - 1)] }, toks := t' } := I1.kept kp
  have st : RevT (s1.heap.push { cls := .type "reversed", data := .fields #[.ref l, rawInt ((its.toArray.size : Int) - 1)] }) s1.heap.objs.size l ((its.toArray.size : Int) - 1) := ⟨_, Heap.get?_push_size _ rfl, rfl, rfl⟩
  refine iter_rev st ?_
  refine ⟨s1.heap.objs.size, [s1.heap.objs.size], _, _, H1, rfl, I2, turn_rev l _ xs.length, ?_, fun b hb => ?_, q⟩
  · have : (its.toArray.size : Int) - 1 = (xs.length : Int) - 1 - ((0 : Nat) : Int) := by rw [List.size_toArray]; omega
    rw [← this]; exact st
  · rw [List.mem_singleton.mp hb]; exact I1.fpOk (Nat.le_refl _) (I1.hok.fresh (Nat.le_refl _))
theorem itv_ok {K : PySem.W.Frag} {F : Hp} {l : Addr} {vs : List V} (hf : F l = some (.tup vs)) (r : RepL K F vs ds) : ItOk K (Itv K l vs.length) F ds.reverse := fun i F2 H2 s1 s2 =>
  ⟨fun d hd => by
    obtain ⟨v, hv, rv⟩ := r.reverse.get hd
    have sq : SqT K H2 l vs := SqT.of (s2 _ _ (s1 _ _ hf))
    refine ⟨⟨vs, v, sq, rfl, hv⟩, fun x H' y => ?_⟩
    obtain ⟨rfl, y⟩ := y
    have e := y vs sq
    rw [hv] at e; cases e
    exact ⟨F2, .refl s2, rv.mono s1⟩, fun h => ⟨vs, SqT.of (s2 _ _ (s1 _ _ hf)), rfl, by rw [r.length]; rw [List.length_reverse] at h; exact h⟩⟩
theorem ei_rev (t : At X N sc) {p : Pos} (bl : Blt X sc "reversed" (.type "reversed")) (h : EvE X ρ a (.tup ds)) (hs : Pl a := by intro _ _; rfl) : EvI X ρ tg (.Call (.Name "reversed" p) [a] [] pos) ds.reverse :=
  .of (pi_rev (gl_of t bl.g) bl.m (pa_cons pe_w pa_nil (hs _ _)) hs) fun B F H σ R k q => h B F H σ _ k fun v F' H' x r => by
    cases r with
    | tup hf rl => exact ⟨_, _, rfl, SqT.of (x.sub _ _ hf), q _ F' H' x (itv_ok hf rl)⟩
end
end L2.EV

set_option linter.all false
set_option autoImplicit false
set_option maxRecDepth 100000
/-! Defs that are called while an exception is handled. -/
namespace L2.EV
open PySem PySem.Spec PyProof.Rows

abbrev Around.cool (A : Around) : Around := { A with handled := none }
structure FnOkH (P : Program) (w : World) (K : PySem.W.Frag) (mg : Str → Option Value) (base : Heap) (k : Nat) (f : Addr) (fd : FuncData) (ps : List Str) (sp : Sp) : Prop where
  len : ∀ vs H Q E, sp vs H Q E → vs.length = ps.length
  run : ∀ (A : Around) (outer : List Env) (s : Shared) (H : Hp) (args : Args) (us : List Value) (vs : List V) (Q : VK) (E : XK), Room k (Around.cool A) → Env0 P w K mg base A outer s H → HotH A H → BindsTo s fd args (ps.zip us) → Vals vs us → sp vs H Q E →
    codeAny (model P w) A (.call (.ref f) args) (CR CX0 outer P w H s Q E) s
structure DefH (P : Program) (w : World) (K : PySem.W.Frag) (mg : Str → Option Value) (base : Heap) (N : List Str) (sc : Scope) (X : Cx) : Prop where
  at0 : At0 X N sc
  prog : X.prog = P
  w' : X.w = w
  k' : X.K = K
  mg' : X.mg = mg
  base' : X.base = base
  fnT : FnT X
  hot : HotX X
def CalleeH (X : Cx) (x : Str) (C : List D → D → Prop) : Prop := ∃ (f : Addr) (fd : FuncData) (ps : List Str) (k : Nat), FnOkH X.prog X.w X.K X.mg X.base k f fd ps (spC X.K C) ∧ Room k (Around.cool X.A) ∧ X.mg x = some (.ref f) ∧ PySem.W.keepIn X.K (.ref f) = true ∧ Binds X.K fd ps []
section
variable {X : Cx} {N : List Str} {sc : Scope} {ρ : Rho} {e a b tg : Expr} {es : List Expr} {d : D} {ds : List D} {p pos : Pos} {x : Str} {ea Ce : Addr}
end
end L2.EV

set_option linter.all false
set_option autoImplicit false
set_option maxRecDepth 100000
/-! Truths taken off one another, what a list gives up, raising ahead of an index. -/
namespace L2.EV
open PySem PySem.Spec PyProof.Rows
section
variable {X : Cx} {m : Bool} {ρ ρ1 ρ' : Rho} {e a b c : Expr} {es : List Expr} {d : D} {ds : List D} {pos p : Pos} {N : List Str} {sc : Scope} {C : Addr} {st : Stmt} {rest : List Stmt} {x : Str}
end
end L2.EV

set_option linter.all false
set_option autoImplicit false
set_option maxRecDepth 100000
namespace L2.EV
open PySem PySem.Spec PyProof.Rows
section
variable {X : Cx} {m : Bool} {ρ ρ1 ρ' : Rho} {e a b c : Expr} {es : List Expr} {d : D} {ds : List D} {pos p : Pos} {N : List Str} {sc : Scope} {C : Addr} {st : Stmt} {rest : List Stmt} {x : Str}
end
end L2.EV

set_option linter.all false
set_option autoImplicit false
set_option maxRecDepth 100000
/-! t[::-1] of a tuple. -/
namespace HT
open PySem PyProof.Rows PySem.Spec
section
variable {prog : Program} {w : World} {A : Around} {E : Value → Shared → Prop} {s : Shared}
end
end HT
namespace L2.EV
open PySem PySem.Spec PyProof.Rows
section
variable {X : Cx} {ρ : Rho} {a c : Expr} {xs : List D} {pos p2 : Pos}
end
end L2.EV

set_option linter.all false
set_option autoImplicit false
set_option maxRecDepth 100000
/-! Defs that give a list of the caller's own. -/
namespace L2.EV
open PySem PySem.Spec PyProof.Rows
/-- what such a def promises: for these data a new list of those -/
def spN (K : PySem.W.Frag) (C : List D → List D → Prop) : Sp := fun vs H Q _ => ∃ F ds xs, Same F H ∧ RepL K F vs ds ∧ C ds xs ∧ ∀ p us F' H', Ext ⟨F, H⟩ F' H' → H p = none → H' p = some (.lst us) → F' p = none → RepL K F' us xs → Q (.ref p) H'
def CalleeN (X : Cx) (x : Str) (C : List D → List D → Prop) : Prop := ∃ (f : Addr) (fd : FuncData) (ps : List Str) (k : Nat), FnOk X.prog X.w X.K X.mg X.base CX0 k f fd ps (spN X.K C) ∧ Room k X.A ∧ X.mg x = some (.ref f) ∧ PySem.W.keepIn X.K (.ref f) = true ∧ Binds X.K fd ps []
def EvSsN (X : Cx) (ρ : Rho) (sts : List Stmt) (xs : List D) : Prop := ∀ (B : B0) (F H : Hp) (σ : St) (E : Ends), Ok X.K B F H σ ρ → (∀ p us F' H', Ext B F' H' → B.H p = none → H' p = some (.lst us) → F' p = none → RepL X.K F' us xs → E.rt (.ref p) H') → wSs X sts E σ H
section
variable {X : Cx} {ρ ρ' : Rho} {e : Expr} {es : List Expr} {d : D} {ds xs : List D} {pos p pos' : Pos} {N : List Str} {sc : Scope} {st : Stmt} {rest : List Stmt} {x : Str}
end
end L2.EV

set_option linter.all false
set_option autoImplicit false
set_option maxRecDepth 100000
/-! A list of one's own is lent to a def that tells a truth. -/
namespace L2.EV
open PySem PySem.Spec PyProof.Rows
def del (F : Hp) (p : Addr) : Hp := fun a => if a = p then none else F a
section
variable {X : Cx} {ρ : Rho} {es : List Expr} {ds xs : List D} {pos p py : Pos} {N : List Str} {sc : Scope} {x y : Str}
end
end L2.EV

set_option linter.all false
set_option autoImplicit false
set_option maxRecDepth 100000
/-! A short range by two; a product with what a list gives up. -/
namespace L2
open PySem PySem.Spec PyProof.Rows
def Itr3 (lo st : Int) (n : Nat) : It := ⟨fun i _ => i < n, fun i H x H' => H' = H ∧ x = .int (lo + (i : Nat) * st), fun i _ => n ≤ i, True⟩
section
variable {X : Cx} {tg : Expr}
def iRng3 (ta : TA) : TI := fun σ H R => ta σ H fun vs H1 => ∃ j : Int, vs = [.int 0, .int j, .int 2] ∧ 1 ≤ j ∧ j ≤ 6 ∧ R (Itr3 0 2 ((j + 1) / 2).toNat) H1
end
end L2
namespace L2.EV
open PySem PySem.Spec PyProof.Rows
section
variable {X : Cx} {ρ : Rho} {a b c tg e : Expr} {d : D} {pos : Pos} {N : List Str} {sc : Scope} {x : Str}
def range2D (n : Nat) : List D := (List.range n).map fun (i : Nat) => D.int (0 + (i : Int) * 2)
end
end L2.EV

set_option linter.all false
set_option autoImplicit false
set_option maxRecDepth 100000
/-! Dicts whose keys are tuples of ints and whose values are ints. -/
namespace L2.EV
open PySem PySem.Spec PyProof.Rows
section
variable {prog : Program} {w : World} {A : Around} {E : Value → Shared → Prop} {s : Shared} {it d : Addr} {i n ep : Nat} {es : Array DictEntry} {e : DictEntry} {o : Obj}
theorem dnext_item {Q : Option Value → Shared → Prop}
    (hit : s.heap.IsKeyIter it d i n ep) (hd : s.heap.get? d = some o) (ho : o.data = .dict es ep) (hn : es.size = n) (he : es[i]? = some e)
    (hQ : ∀ h', h'.IsKeyIter it d (i + 1) n ep → Heap.SameBut it s.heap h' → Q (some e.key) { s with heap := h' }) : wpAny (model prog w) A (pyNext (.ref it)) Q E s := by
  have hT : s.TypeIs (.ref it) "dict_keyiterator" := hit.typeIs
  obtain ⟨⟨cl, di, da, sl⟩, h1, h2, h3⟩ := id hit
  replace h2 : cl = _ := h2
  replace h3 : da = _ := h3
  subst h2 h3
  unfold pyNext
  refine wpAny_bind (wpAny_attempt (wpAny_callSpecial?_slot (name := Str.ofString "__next__") hT F.slot_dict_keyiterator_next (wpAny_call_entry F.slot_dict_keyiterator_next hT F.entry_dict_keyiterator_next ?_ (F.args_dict_keyiterator_next_1 _))))
  show wpAny _ _ (Builtin.Dict_items.slot0 "__next__" { pos := [Value.ref it] } >>= _) _ _ s
  refine wpAny_bind (wpAny_of_eq (a := Value.ref it) (by rfl) ?_)
  show wpAny _ _ (((typeNameOfWhole (.ref it) >>= _) >>= _) >>= _) _ _ s
  refine wpAny_bind (wpAny_bind (wpAny_bind (wpAny_typeNameOfWhole_keyiter hT ?_)))
  refine wpAny_pure ?_
  refine wpAny_bind (wpAny_fieldsOf h1 rfl ?_)
  show wpAny _ _ (Builtin.Dict_items.addrOf (.ref d) >>= _) _ _ s
  refine wpAny_bind (wpAny_of_eq (a := d) (by rfl) ?_)
  refine wpAny_bind (wpAny_dictEntries hd ho ?_)
  dsimp only
  rw [if_neg (by rw [hn]; simp)]
  refine wpAny_bind (wpAny_of_eq (a := d) (by rfl) ?_)
  refine wpAny_bind (wpAny_dictEpoch hd ho ?_)
  rw [if_neg (by simp)]
  refine wpAny_pure ?_
  dsimp only
  rw [if_neg (by omega), Int.toNat_natCast, he]
  dsimp only
  show wpAny _ _ ((typeNameOfWhole (.ref it) >>= _) >>= _) _ _ s
  refine wpAny_bind (wpAny_bind (wpAny_typeNameOfWhole_keyiter hT ?_))
  refine wpAny_pure ?_
  refine wpAny_bind (wpAny_isOneOf_keyiter hT ?_)
  refine wpAny_bind (wpAny_setField h1 rfl (show 1 < 4 by decide) ?_)
  show wpAny _ _ _ _ _ { s with heap := s.heap.update it (Obj.mapFields fun x_1 => x_1.setIfInBounds 1 (rawInt (i + 1))) }
  have e2 := Heap.get?_update_self (Obj.mapFields fun x_1 => x_1.setIfInBounds 1 (rawInt (i + 1))) h1 (by rfl)
  have hT' : Shared.TypeIs { s with heap := s.heap.update it (Obj.mapFields fun x_1 => x_1.setIfInBounds 1 (rawInt (i + 1))) } (.ref it) "dict_keyiterator" := ⟨_, e2, rfl⟩
  refine wpAny_bind (wpAny_holding ?_)
  show wpAny _ _ (Builtin.Dict_items.isOneOf (.ref it) ["dict_keyiterator", "dict_reversekeyiterator"] >>= _) _ _ _
  refine wpAny_bind (wpAny_isOneOf_keyiter hT' ?_)
  rw [if_pos (by decide)]
  refine wpAny_pure ?_
  refine wpAny_pure ⟨_, rfl, ?_⟩
  refine wpAny_pure ?_
  refine hQ _ ⟨_, e2, rfl, rfl⟩ ⟨Heap.size_update _ _ _, fun b hb => Heap.get?_update_other _ _ (Ne.symm hb)⟩
theorem dnext_end {Q : Option Value → Shared → Prop} (hh : A.handled = none)
    (hit : s.heap.IsKeyIter it d i n ep) (hd : s.heap.get? d = some o) (ho : o.data = .dict es ep) (hn : es.size = n) (he : es[i]? = none)
    (hQ : ∀ h', Heap.ExtBut it s.heap h' → Q none { s with heap := h' }) : wpAny (model prog w) A (pyNext (.ref it)) Q E s := by
  have hT : s.TypeIs (.ref it) "dict_keyiterator" := hit.typeIs
  obtain ⟨⟨cl, di, da, sl⟩, h1, h2, h3⟩ := id hit
  replace h2 : cl = _ := h2
  replace h3 : da = _ := h3
  subst h2 h3
  unfold pyNext
  refine wpAny_bind (wpAny_attempt (wpAny_callSpecial?_slot (name := Str.ofString "__next__") hT F.slot_dict_keyiterator_next (wpAny_call_entry F.slot_dict_keyiterator_next hT F.entry_dict_keyiterator_next ?_ (F.args_dict_keyiterator_next_1 _))))
  show wpAny _ _ (Builtin.Dict_items.slot0 "__next__" { pos := [Value.ref it] } >>= _) _ _ s
  refine wpAny_bind (wpAny_of_eq (a := Value.ref it) (by rfl) ?_)
  show wpAny _ _ (((typeNameOfWhole (.ref it) >>= _) >>= _) >>= _) _ _ s
  refine wpAny_bind (wpAny_bind (wpAny_bind (wpAny_typeNameOfWhole_keyiter hT ?_)))
  refine wpAny_pure ?_
  refine wpAny_bind (wpAny_fieldsOf h1 rfl ?_)
  show wpAny _ _ (Builtin.Dict_items.addrOf (.ref d) >>= _) _ _ s
  refine wpAny_bind (wpAny_of_eq (a := d) (by rfl) ?_)
  refine wpAny_bind (wpAny_dictEntries hd ho ?_)
  dsimp only
  rw [if_neg (by rw [hn]; simp)]
  refine wpAny_bind (wpAny_of_eq (a := d) (by rfl) ?_)
  refine wpAny_bind (wpAny_dictEpoch hd ho ?_)
  rw [if_neg (by simp)]
  refine wpAny_pure ?_
  dsimp only
  rw [if_neg (by omega), Int.toNat_natCast, he]
  dsimp only
  show wpAny _ _ ((typeNameOfWhole (.ref it) >>= _) >>= _) _ _ s
  refine wpAny_bind (wpAny_bind (wpAny_typeNameOfWhole_keyiter hT ?_))
  refine wpAny_pure ?_
  refine wpAny_bind (wpAny_setField h1 rfl (show 0 < 4 by decide) ?_)
  show wpAny _ _ _ _ _ { s with heap := s.heap.update it (Obj.mapFields fun x_1 => x_1.setIfInBounds 0 Value.none) }
  refine wpAny_bind ?_
  simp only [newExc, newTuple]
  refine wpAny_bind (wpAny_newObj_type ?_ (by size_fits))
  refine wpAny_bind (m := firstArgMember _ _) (wpAny_of_eq (a := Value.none) (by first | rfl | (simp only [firstArgMember]; rfl)) ?_)
  refine wpAny_newObj_type ?_ (by size_fits)
  simp only [raiseNew]
  refine wpAny_bind (wpAny_handled ?_)
  rw [show A.in1.handled = none from hh]
  dsimp only
  refine wpAny_throw ?_
  refine wpAny_bind (wpAny_isInstance (T := "StopIteration") (b := true) ⟨_, Heap.get?_push_size _ rfl, rfl⟩ isSubtype_stop ?_)
  refine wpAny_pure (hQ _ fun b o hb q => ?_)
  exact Heap.get?_push_of_some _ (Heap.get?_push_of_some _ (by rw [Heap.get?_update_other _ _ (Ne.symm hb)]; exact q))
theorem diter {Q : Value → Shared → Prop} (hs : (d == sysModules) = false) (hd : s.heap.get? d = some o) (hx : o.ExactDict) (ho : o.data = .dict es ep)
    (hQ : Q (.ref s.heap.objs.size) { s with heap := s.heap.push { cls := .type "dict_keyiterator", data := .fields #[.ref d, rawInt 0, rawInt es.size, rawInt ep] } }) : wpAny (model prog w) A (pyIter (.ref d)) Q E s := by
  have hT : s.TypeIs (.ref d) "dict" := ⟨o, hd, hx.1⟩
  refine wpAny_pyIter_slot hT F.slot_dict_iter (wpAny_call_entry F.slot_dict_iter hT F.entry_dict_iter ?_ (F.args_dict_iter_1 _))
  unfold Builtin.«dict.__iter__»
  show wpAny _ _ ((Builtin.Dict.notOrdered "__iter__" { pos := [Value.ref d] } >>= _) >>= _) _ _ s
  refine wpAny_bind (wpAny_bind ?_)
  unfold Builtin.Dict.notOrdered
  rw [if_pos (by decide)]
  refine wpAny_bind (wpAny_typeOf hT ?_)
  rw [if_neg (by decide)]
  refine wpAny_pure ?_
  refine wpAny_bind (wpAny_of_eq (a := (Value.ref d, [])) (by rfl) ?_)
  refine wpAny_pure ?_
  refine wpAny_bind (wpAny_of_eq (a := d) (by rfl) ?_)
  unfold Builtin.Dict.showsAll
  rw [if_neg (by rw [hs]; decide)]
  refine wpAny_bind (wpAny_pure ?_)
  refine wpAny_bind (wpAny_dictEntries hd ho ?_)
  refine wpAny_bind (wpAny_dictEpoch hd ho ?_)
  refine wpAny_bind ?_
  unfold newFields
  refine wpAny_newObj_type ?_ (by size_fits)
  refine wpAny_pure ⟨_, rfl, "dict_keyiterator", _, ⟨_, Heap.get?_push_size _ rfl, rfl⟩, by rfl, hQ⟩
end

abbrev KVs := List (List Int × Int)
abbrev KXs := List (List Int × Addr × Int)
def valI (kvs : KVs) (k : List Int) : Option Int := (kvs.find? fun p => decide (p.1 = k)).map (·.2)
def putI (kvs : KVs) (k : List Int) (n : Int) : KVs := if (valI kvs k).isSome = true then kvs.map (fun p => if p.1 = k then (p.1, n) else p) else kvs ++ [(k, n)]
def stX (xs : KXs) (k : List Int) (b : Addr) (n : Int) : KXs := if (xs.find? fun p => decide (p.1 = k)).isSome = true then xs.map (fun p => if p.1 = k then (p.1, p.2.1, n) else p) else xs ++ [(k, b, n)]
abbrev kv (x : List Int × Addr × Int) : List Int × Int := (x.1, x.2.2)
theorem valI_of (xs : KXs) (k : List Int) : valI (xs.map kv) k = (xs.find? fun p => decide (p.1 = k)).map (·.2.2) := by
  unfold valI
  induction xs with
  | nil => rfl
  | cons x xs ih =>
    rw [List.map_cons, List.find?_cons, List.find?_cons]
    by_cases h : x.1 = k
    · simp [kv, h]
    · have h' : decide ((kv x).1 = k) = false := by simp [kv, h]
      have h2 : decide (x.1 = k) = false := by simp [h]
      rw [h']; exact ih
theorem putI_of (xs : KXs) (k : List Int) (b : Addr) (n : Int) : putI (xs.map kv) k n = (stX xs k b n).map kv := by
  unfold putI stX
  rw [valI_of, Option.isSome_map]
  by_cases h : (xs.find? fun p => decide (p.1 = k)).isSome = true
  · rw [if_pos h, if_pos h, List.map_map, List.map_map]
    refine List.map_congr_left fun x _ => ?_
    show (if x.1 = k then (x.1, n) else kv x) = kv (if x.1 = k then (x.1, x.2.1, n) else x)
    by_cases e : x.1 = k
    · rw [if_pos e, if_pos e]
    · rw [if_neg e, if_neg e]
  · rw [if_neg h, if_neg h, List.map_append]; rfl
abbrev KPair : KXs → List (List Int × Addr × Value) → Prop := Paired fun (x : List Int × Addr × Int) (y : List Int × Addr × Value) => y.1 = x.1 ∧ y.2.1 = x.2.1 ∧ RelV (.int x.2.2) y.2.2
theorem KPair.at {xs : KXs} {ys : List (List Int × Addr × Value)} (r : KPair xs ys) (k : List Int) : ((xs.find? fun p => decide (p.1 = k)) = none → atKey ys k = none) ∧ ∀ x, (xs.find? fun p => decide (p.1 = k)) = some x → ∃ v, atKey ys k = some (x.2.1, v) ∧ RelV (.int x.2.2) v := by
  induction r with
  | nil => exact ⟨fun _ => rfl, fun x h => by cases h⟩
  | @cons p q ps qs h t ih =>
    obtain ⟨h1, h2, h3⟩ := h
    rw [List.find?_cons]
    by_cases e : p.1 = k
    · have e' : decide (p.1 = k) = true := by simp [e]
      rw [e']
      refine ⟨fun z => (by cases z), fun x z => ?_⟩
      cases z
      refine ⟨q.2.2, ?_, h3⟩
      have e2 : decide (q.1 = k) = true := by simp [h1, e]
      show (List.find? _ (q :: qs)).map _ = _
      rw [List.find?_cons, e2]
      show some q.2 = some (p.2.1, q.2.2)
      rw [← h2]
    · have e' : decide (p.1 = k) = false := by simp [e]
      have e2 : decide (q.1 = k) = false := by simp [h1, e]
      rw [e']
      have e3 : atKey (q :: qs) k = atKey qs k := by
        show (List.find? _ (q :: qs)).map _ = _
        rw [List.find?_cons, e2]; rfl
      rw [e3]; exact ih
theorem KPair.isSome {xs : KXs} {ys : List (List Int × Addr × Value)} (r : KPair xs ys) (k : List Int) : (atKey ys k).isSome = (xs.find? fun p => decide (p.1 = k)).isSome := by
  obtain ⟨h1, h2⟩ := r.at k
  cases q : (xs.find? fun p => decide (p.1 = k)) with
  | none => rw [h1 q]; rfl
  | some x => obtain ⟨v, e, _⟩ := h2 x q; rw [e]; rfl
theorem KPair.snoc {p : List Int × Addr × Int} {q : List Int × Addr × Value} (h : q.1 = p.1 ∧ q.2.1 = p.2.1 ∧ RelV (.int p.2.2) q.2.2) : ∀ {xs : KXs} {ys : List (List Int × Addr × Value)}, KPair xs ys → KPair (xs ++ [p]) (ys ++ [q])
  | _, _, .nil => .cons h .nil
  | _, _, .cons a t => .cons a (KPair.snoc h t)
theorem KPair.put {xs : KXs} {ys : List (List Int × Addr × Value)} (r : KPair xs ys) (k : List Int) (b : Addr) {n : Int} {u : Value} (ru : RelV (.int n) u) : KPair (stX xs k b n) (storedH ys k b u) := by
  unfold stX storedH
  rw [r.isSome k]
  by_cases h : (xs.find? fun p => decide (p.1 = k)).isSome = true
  · rw [if_pos h, if_pos h]
    clear h
    induction r with
    | nil => exact .nil
    | @cons p q ps qs h t ih =>
      obtain ⟨h1, h2, h3⟩ := h
      rw [List.map_cons, List.map_cons]
      refine .cons ?_ ih
      unfold putAt
      by_cases e : p.1 = k
      · rw [if_pos e, if_pos (h1.trans e)]; exact ⟨h1, h2, ru⟩
      · rw [if_neg e, if_neg (fun z => e (h1.symm.trans z))]; exact ⟨h1, h2, h3⟩
  · rw [if_neg h, if_neg h]
    exact KPair.snoc ⟨rfl, rfl, ru⟩ r
theorem KPair.len {xs : KXs} {ys : List (List Int × Addr × Value)} (r : KPair xs ys) : xs.length = ys.length := by
  induction r with
  | nil => rfl
  | cons h t ih => rw [List.length_cons, List.length_cons, ih]
theorem stX_len (xs : KXs) (k : List Int) (b : Addr) (n : Int) : (stX xs k b n).length ≤ xs.length + 1 := by
  unfold stX
  split
  · rw [List.length_map]; omega
  · rw [List.length_append, List.length_singleton]; omega
theorem DicR.put {F : Hp} {kvs : KVs} {xs : KXs} {k : List Int} {b : Addr} (r : DicR F kvs xs) (hb : F b = some (.tup (k.map V.int))) (n : Int) : DicR F (putI kvs k n) (stX xs k b n) := by
  refine ⟨?_, fun x hx => ?_⟩
  · rw [r.1]; exact putI_of xs k b n
  · unfold stX at hx
    split at hx
    · obtain ⟨y, hy, rfl⟩ := List.mem_map.mp hx
      by_cases e : y.1 = k
      · rw [if_pos e]; exact r.2 y hy
      · rw [if_neg e]; exact r.2 y hy
    · rcases List.mem_append.mp hx with h | h
      · exact r.2 x h
      · rw [List.mem_singleton] at h; subst h; exact hb

/-! ### the dict in the heap -/
def DcRd (H : Hp) (a : Addr) (xs : KXs) : Prop := H a = some (.ext (dcAt a xs)) ∨ ∃ ob, H a = some (.frz ob (.ext (dcAt a xs)))
theorem DcRd.mono {H H' : Hp} {a : Addr} {xs : KXs} (s : Same H H') (h : DcRd H a xs) : DcRd H' a xs := h.elim (fun z => .inl (s _ _ z)) fun ⟨ob, z⟩ => .inr ⟨ob, s _ _ z⟩
theorem items_int {P : Program} {w : World} : ∀ {ks : List Int} {us : List Value}, Vals (ks.map V.int) us → ItemsAre (intKind P w) ks us
  | [], _, r => by rw [List.map_nil] at r; cases r; exact .nil
  | k :: ks, _, r => by
    rw [List.map_cons] at r
    cases r with
    | cons h t =>
      obtain ⟨tk, rfl⟩ := (show ∃ t, _ = Value.int k t from h)
      exact .cons (by show Value.isInt k (.int k tk) = true; simp [Value.isInt]) (items_int t)
section
variable {X : Cx} {pins : List (Addr × Obj)} {σ : St} {H : Hp} {s : Shared} {a b : Addr} {xs : KXs}
theorem tkey (I : Inv X pins σ H s) {k : List Int} (e : H b = some (.tup (k.map V.int))) : (tupleKind (intKind X.prog X.w)).is s.heap k b := by
  obtain ⟨_, its, r, o, h1, h2, n, h3⟩ := (show ObjOk X.prog X.w H s.heap b (.tup (k.map V.int)) from I.hok b _ e)
  exact ⟨o, its.toArray, n, h1, h2, h3, by simpa using items_int r⟩
theorem DcRd.is (I : Inv X pins σ H s) (h : DcRd H a xs) : dcAt a xs s.heap := by
  rcases h with e | ⟨ob, e⟩
  · exact (show ObjOk X.prog X.w H s.heap a (.ext (dcAt a xs)) from I.hok a _ e).1
  · exact (show ObjOk X.prog X.w H s.heap a (.frz ob (.ext (dcAt a xs))) from I.hok a _ e).2.1
theorem dc_dict (I : Inv X pins σ H s) (h : dcAt a xs s.heap) (hk : ∀ x ∈ xs, H x.2.1 = some (.tup (x.1.map V.int))) : xs.length ≤ sizeLine ∧ (a == sysModules) = false ∧ ∃ ys, KPair xs ys ∧ s.heap.DictOfH (tupleKind (intKind X.prog X.w)) a ys := by
  obtain ⟨z, hd, o, ho, hx, es, ep, ys, h1, h2, r, nd⟩ := h
  refine ⟨z, hd, ys, r, o, es, ep, ho, hx, h1, h2 _ _, fun y hy => ?_, nd⟩
  have all : ∀ {l : KXs} {m : List (List Int × Addr × Value)}, KPair l m → (∀ x ∈ l, H x.2.1 = some (.tup (x.1.map V.int))) → ∀ y ∈ m, (tupleKind (intKind X.prog X.w)).is s.heap y.1 y.2.1 := by
    intro l m q
    induction q with
    | nil => intro _ y hy; exact nomatch hy
    | @cons p q ps qs hq t ih =>
      intro hl y hy
      rcases List.mem_cons.mp hy with e | hy
      · subst e
        rw [hq.1, hq.2.1]
        exact tkey I (hl p (by simp))
      · exact ih (fun x hx => hl x (by simp [hx])) y hy
  exact all r hk y hy
theorem dc_obj {P : Program} {w : World} {h : Heap} {ys : List (List Int × Addr × Value)} (z : xs.length ≤ sizeLine) (hd : (a == sysModules) = false) (r : KPair xs ys) (dd : h.DictOfH (tupleKind (intKind P w)) a ys) : dcAt a xs h := by
  obtain ⟨o, es, ep, h1, h2, h3, h4, h5, h6⟩ := dd
  exact ⟨z, hd, o, h1, h2, es, ep, ys, h3, fun _ _ => h4, r, h6⟩
theorem dc_ext {P : Program} {w : World} {H' : Hp} {h : Heap} (z : dcAt a xs h) : ObjOk P w H' h a (.ext (dcAt a xs)) := by
  refine ⟨z, let ⟨_, _, o, h1, _⟩ := z; ⟨o, h1⟩, fun h1 h2 y k => ?_⟩
  obtain ⟨q1, q2, o, h3, h4⟩ := y
  exact ⟨q1, q2, o, k o h3, h4⟩
/-- it is frozen -/
theorem Inv.frzD (I : Inv X pins σ H s) (h : H a = some (.ext (dcAt a xs))) : ∃ ob, Inv X pins σ (upd H a (.frz ob (.ext (dcAt a xs)))) s := by
  have z := DcRd.is I (.inl h)
  obtain ⟨q1, q2, ob, h1, h2⟩ := id z
  refine ⟨ob, ?_⟩
  exact I.write (x := a) (e := a) (t' := s.toks) (by rw [h]; exact True.intro) (.inl rfl) (fun b u _ q => q) ⟨ob, h1⟩ ⟨h1, dc_ext z⟩
end
end L2.EV

set_option linter.all false
set_option autoImplicit false
set_option maxRecDepth 100000
/-! Dicts of a def's own, and dicts that are read. -/
namespace L2.EV
open PySem PySem.Spec PyProof.Rows
section
variable {K : PySem.W.Frag} {B : B0} {F H : Hp} {σ : St} {ρ : List Sl} {p : Addr} {kvs kvs' : KVs} {es es' : KXs}
def NoDct (σ : St) (ρ : List Sl) (p : Addr) : Prop := ∀ (i : Nat) xs, ρ[i]? = some (.dct xs) → σ[i]? ≠ some (some (.ref p))
theorem Ok.noDct (k : Ok K B F H σ ρ) (hp : H p = none) : NoDct σ ρ p := fun i xs e q => by
  obtain ⟨a, vs, h1, h2, _⟩ := k.dic.dcts i xs e
  rw [h1] at q; cases q
  rw [hp] at h2; cases h2
theorem set_sl {i : Nat} {s : Sl} (j : Nat) (t : Sl) (h : (ρ.set i s)[j]? = some t) (hn : t ≠ s) : i ≠ j ∧ ρ[j]? = some t := by
  by_cases e : i = j
  · subst e
    rw [List.getElem?_set_self'] at h
    cases z : ρ[i]? with
    | none => rw [z] at h; cases h
    | some w => rw [z] at h; exact absurd (Option.some.inj h).symm hn
  · rw [List.getElem?_set_ne e] at h; exact ⟨e, h⟩
theorem Ok.setDct (k : Ok K B F H σ ρ) (i : Nat) (hp : H p = some (.ext (dcAt p es))) (hf : F p = none) (hb : B.H p = none) (hn : NoDct σ ρ p) (r : DicR F kvs es) : Ok K B F H (σ.set i (some (.ref p))) (ρ.set i (.dct kvs)) := by
  refine ⟨k.toExt, by rw [List.length_set, List.length_set, k.len], fun j d q => ?_, fun j xs q => ?_, fun j l xs ys a q1 q2 q3 q4 => ?_, fun j ks q => ?_, fun j l xs ys a q1 q2 q3 q4 => ?_⟩
  · obtain ⟨n, q'⟩ := set_sl j _ q (fun z => nomatch z)
    rw [List.getElem?_set_ne n]; exact k.vals j d q'
  · obtain ⟨n, q'⟩ := set_sl j _ q (fun z => nomatch z)
    rw [List.getElem?_set_ne n]; exact k.owns j xs q'
  · obtain ⟨n1, q1⟩ := set_sl j _ q1 (fun z => nomatch z)
    obtain ⟨n2, q2⟩ := set_sl l _ q2 (fun z => nomatch z)
    rw [List.getElem?_set_ne n1] at q3
    rw [List.getElem?_set_ne n2] at q4
    exact k.dist j l xs ys a q1 q2 q3 q4
  · by_cases h : i = j
    · subst h
      rw [List.getElem?_set_self'] at q
      cases z : ρ[i]? with
      | none => rw [z] at q; cases q
      | some w =>
        rw [z] at q; cases q
        have hi : i < σ.length := by rw [k.len]; exact (List.getElem?_eq_some_iff.mp z).1
        exact ⟨p, es, by rw [List.getElem?_set_self hi], hp, hf, hb, r⟩
    · rw [List.getElem?_set_ne h] at q ⊢
      exact k.dic.dcts j ks q
  · by_cases n1 : i = j
    · by_cases n2 : i = l
      · exact n1.symm.trans n2
      · subst n1
        rw [List.getElem?_set_ne n2] at q2 q4
        have hi : i < σ.length := by
          have := (List.getElem?_eq_some_iff.mp q3).1
          rw [List.length_set] at this; exact this
        rw [List.getElem?_set_self hi] at q3
        cases q3
        exact absurd q4 (hn l ys q2)
    · by_cases n2 : i = l
      · subst n2
        rw [List.getElem?_set_ne n1] at q1 q3
        have hi : i < σ.length := by
          have := (List.getElem?_eq_some_iff.mp q4).1
          rw [List.length_set] at this; exact this
        rw [List.getElem?_set_self hi] at q4
        cases q4
        exact absurd q3 (hn j xs q1)
      · rw [List.getElem?_set_ne n1] at q1 q3
        rw [List.getElem?_set_ne n2] at q2 q4
        exact k.dic.distD j l xs ys a q1 q2 q3 q4
theorem Ok.chgDct {i : Nat} (k : Ok K B F H σ ρ) (hi : ρ[i]? = some (.dct kvs)) (hs : σ[i]? = some (some (.ref p))) (r : DicR F kvs' es') : Ok K B F (upd H p (.ext (dcAt p es'))) σ (ρ.set i (.dct kvs')) := by
  obtain ⟨a, us, h1, h2, h3, h4, h5⟩ := k.dic.dcts i kvs hi
  rw [h1] at hs
  cases hs
  have hlt : i < ρ.length := (List.getElem?_eq_some_iff.mp hi).1
  refine ⟨⟨fun b u q => ?_, fun b u q => ?_, k.sf, k.nw⟩, by rw [List.length_set, k.len], fun j d q => ?_, fun j xs q => ?_, fun j l xs ys a q1 q2 => ?_, fun j ks q => ?_, fun j l xs ys a q1 q2 q3 q4 => ?_⟩
  · have ne : b ≠ p := fun z => by subst z; rw [h3] at q; cases q
    rw [upd_ne ne]; exact k.sub b u q
  · have ne : b ≠ p := fun z => by subst z; rw [h4] at q; cases q
    rw [upd_ne ne]; exact k.sh b u q
  · exact k.vals j d (set_sl j _ q (fun z => nomatch z)).2
  · obtain ⟨b, vs, g1, g2, g3⟩ := k.owns j xs (set_sl j _ q (fun z => nomatch z)).2
    have ne : b ≠ p := fun z => by subst z; rw [h2] at g2; cases g2
    exact ⟨b, vs, g1, by rw [upd_ne ne]; exact g2, g3⟩
  · exact k.dist j l xs ys a (set_sl j _ q1 (fun z => nomatch z)).2 (set_sl l _ q2 (fun z => nomatch z)).2
  · by_cases h : i = j
    · subst h
      rw [List.getElem?_set_self hlt] at q; cases q
      exact ⟨p, es', h1, upd_same, h3, h4, r⟩
    · rw [List.getElem?_set_ne h] at q
      obtain ⟨b, us', g1, g2, g3, g4, g5⟩ := k.dic.dcts j ks q
      have ne : b ≠ p := fun z => by subst z; exact h (k.dic.distD i j kvs ks b hi q h1 g1)
      exact ⟨b, us', g1, by rw [upd_ne ne]; exact g2, g3, g4, g5⟩
  · have own : ∀ (m : Nat) ys, (ρ.set i (.dct kvs'))[m]? = some (.dct ys) → ∃ zs, ρ[m]? = some (.dct zs) := fun m ys q => by
      by_cases h : i = m
      · subst h; exact ⟨kvs, hi⟩
      · rw [List.getElem?_set_ne h] at q; exact ⟨ys, q⟩
    obtain ⟨y1, z1⟩ := own j xs q1
    obtain ⟨y2, z2⟩ := own l ys q2
    exact k.dic.distD j l _ _ a z1 z2 q3 q4
theorem Ok.freezeD {i : Nat} (k : Ok K B F H σ ρ) (hi : ρ[i]? = some (.dct kvs)) : ∃ a es, H a = some (.ext (dcAt a es)) ∧ ∀ ob, Same F (upd F a (.frz ob (.ext (dcAt a es)))) ∧ Ok K B (upd F a (.frz ob (.ext (dcAt a es)))) (upd H a (.frz ob (.ext (dcAt a es)))) σ (ρ.set i (.val (.dic kvs))) := by
  obtain ⟨a, es, h1, h2, h3, h4, h5⟩ := k.dic.dcts i kvs hi
  have hlt : i < ρ.length := (List.getElem?_eq_some_iff.mp hi).1
  refine ⟨a, es, h2, fun ob => ?_⟩
  have sf : Same F (upd F a (.frz ob (.ext (dcAt a es)))) := upd_sameOf h3
  refine ⟨sf, ⟨fun b u q => ?_, fun b u q => ?_, k.sf.trans sf, fun b q => ?_⟩, by rw [List.length_set, k.len], fun j d q => ?_, fun j xs q => ?_, fun j l xs ys a q1 q2 => ?_, fun j ks q => ?_, fun j l xs ys a q1 q2 => ?_⟩
  · by_cases h : b = a
    · subst h; rw [upd_same] at q ⊢; exact q
    · rw [upd_ne h] at q ⊢; exact k.sub b u q
  · have ne : b ≠ a := fun z => by subst z; rw [h4] at q; cases q
    rw [upd_ne ne]; exact k.sh b u q
  · by_cases h : b = a
    · subst h; exact .inr h4
    · rw [upd_ne h] at q; exact k.nw b q
  · by_cases h : i = j
    · subst h
      rw [List.getElem?_set_self hlt] at q; cases q
      exact ⟨_, h1, .dic upd_same (h5.mono sf)⟩
    · rw [List.getElem?_set_ne h] at q
      obtain ⟨v, g1, g2⟩ := k.vals j d q
      exact ⟨v, g1, g2.mono sf⟩
  · obtain ⟨b, vs, g1, g2, g3, g4, g5⟩ := k.owns j xs (set_sl j _ q (fun z => nomatch z)).2
    have ne : b ≠ a := fun z => by subst z; rw [h2] at g2; cases g2
    exact ⟨b, vs, g1, by rw [upd_ne ne]; exact g2, by rw [upd_ne ne]; exact g3, g4, g5.mono sf⟩
  · exact k.dist j l xs ys a (set_sl j _ q1 (fun z => nomatch z)).2 (set_sl l _ q2 (fun z => nomatch z)).2
  · obtain ⟨n, q⟩ := set_sl j _ q (fun z => nomatch z)
    obtain ⟨b, us', g1, g2, g3, g4, g5⟩ := k.dic.dcts j ks q
    have ne : b ≠ a := fun z => by subst z; exact n (k.dic.distD i j kvs ks b hi q h1 g1)
    exact ⟨b, us', g1, by rw [upd_ne ne]; exact g2, by rw [upd_ne ne]; exact g3, g4, g5.mono sf⟩
  · exact k.dic.distD j l xs ys a (set_sl j _ q1 (fun z => nomatch z)).2 (set_sl l _ q2 (fun z => nomatch z)).2
end

/-! ### judgements -/
/-- a dict that is read -/
def EvDr (X : Cx) (ρ : Rho) (e : Expr) (kvs : KVs) : Prop := ∀ (B : B0) (F H : Hp) (σ : St) (Q : VK), Ok X.K B F H σ ρ → (∀ a xs F' H', Ext ⟨F, H⟩ F' H' → DcRd H' a xs → DicR F' kvs xs → Q (.ref a) H') → wE X e σ H Q
/-- a dict that is new -/
def EvDn (X : Cx) (ρ : Rho) (e : Expr) (kvs : KVs) : Prop := ∀ (B : B0) (F H : Hp) (σ : St) (Q : VK), Ok X.K B F H σ ρ → (∀ p xs F' H', Ext ⟨F, H⟩ F' H' → H p = none → H' p = some (.ext (dcAt p xs)) → F' p = none → DicR F' kvs xs → Q (.ref p) H') → wE X e σ H Q
section
variable {X : Cx} {ρ ρ' : Rho} {e a b c : Expr} {d : D} {pos p : Pos} {N : List Str} {sc : Scope} {x y : Str} {kvs kvs' : KVs} {sts : List Stmt} {o : Out} {k : List Int} {n : Int}
theorem EvE.dr (h : EvE X ρ e (.dic kvs)) : EvDr X ρ e kvs := fun B F H σ Q k q => h B F H σ Q k fun v F' H' x' r => by
  cases r with
  | dic hf r => exact q _ _ F' H' x' (.inr ⟨_, x'.sub _ _ hf⟩) r
theorem ev_dct (t : At X N sc) (i : Nat) (hr : ρ[i]? = some (.dct kvs)) (hN : N[i]? = some x := by rfl) (hv : VisS sc x = true := by rfl) (hx : NameOk x = true := by rfl) : EvDr X ρ (.Name x pos) kvs := fun B F H σ Q k q pins s I => by
  obtain ⟨a, es, h1, h2, h3, h4, h5⟩ := k.dic.dcts i kvs hr
  exact pvAt t hN hv hx pins s σ H Q I ⟨_, h1, q a es F H (.refl k.sub) (.inl h2) h5⟩
theorem Ext.freezeD {F H F' H' : Hp} {q : Addr} {xs : KXs} {ob : Obj} (x : Ext ⟨F, H⟩ F' H') (h0 : H q = none) (hf : F' q = none) : Ext ⟨F, H⟩ (upd F' q (.frz ob (.ext (dcAt q xs)))) (upd H' q (.frz ob (.ext (dcAt q xs)))) :=
  ⟨upd_mono x.sub, fun b u z => by
    have ne : b ≠ q := fun w => by subst w; have z' : H b = some u := z; rw [h0] at z'; cases z'
    rw [upd_ne ne]; exact x.sh b u z, x.sf.trans (upd_sameOf hf), fun b z => by
    by_cases h : b = q
    · subst h; exact .inr h0
    · rw [upd_ne h] at z; exact x.nw b z⟩
theorem EvDn.toE (h : EvDn X ρ e kvs) : EvE X ρ e (.dic kvs) := fun B F H σ Q k q pins s I =>
  thn (h B F H σ (fun v H' => ∃ p xs F', v = .ref p ∧ Ext ⟨F, H⟩ F' H' ∧ H p = none ∧ H' p = some (.ext (dcAt p xs)) ∧ F' p = none ∧ DicR F' kvs xs) k (fun p xs F' H' x' h0 h1 h2 r => ⟨p, xs, F', rfl, x', h0, h1, h2, r⟩) pins s I) fun u s1 ⟨v, H', I1, rv, p, xs, F', ev, x', h0, h1, h2, r⟩ => by
    subst ev
    obtain ⟨ob, I2⟩ := Inv.frzD I1 h1
    exact ⟨_, _, I2, rv, q _ _ _ (x'.freezeD h0 h2) (.dic upd_same (r.mono (upd_sameOf h2)))⟩
theorem es_freezeD (i : Nat) (hi : ρ[i]? = some (.dct kvs)) (h : EvSs X (ρ.set i (.val (.dic kvs))) sts o) : EvSs X ρ sts o := fun B F H σ E k q pins s I => by
  obtain ⟨a, es, h2, g⟩ := k.freezeD hi
  obtain ⟨ob, I2⟩ := Inv.frzD I h2
  obtain ⟨sf, k'⟩ := g ob
  exact h B _ _ σ E k' (q.later sf) pins s I2
/-- {} -/
theorem ed_new : EvDn X ρ (.Dict [] [] pos) [] := fun B F H σ Q k q pins s I => by
  have hn := I.hok.fresh (Nat.le_refl s.heap.objs.size)
  have hb : sysModules < s.heap.objs.size := Nat.lt_trans (by decide) (show mainGlobals < s.heap.objs.size from (I.mod.glob.keeps I.bk).lt)
  have z : dcAt s.heap.objs.size [] (s.heap.push { cls := .type "dict", data := .dict #[] }) := dc_obj (P := X.prog) (w := X.w) (Nat.zero_le _) (beq_eq_false_iff_ne.mpr (Ne.symm (Nat.ne_of_lt hb))) .nil (Heap.DictOfH.new s.heap)
  refine wpAny_Dict_empty ⟨.ref s.heap.objs.size, _, I.laid (a := s.heap.objs.size) (o := .ext (dcAt s.heap.objs.size [])) (t' := s.toks) (fun _ _ q => Heap.get?_push_of_some _ q) (Nat.le_refl _) (dc_ext z), rfl, ?_⟩
  exact q _ [] F _ ⟨k.sub.trans (upd_sameOf hn), upd_sameOf hn, .refl _, fun _ z => .inl z⟩ hn upd_same (k.sub.free hn) ⟨rfl, fun _ z => nomatch z⟩
theorem s_setD [FnT X] (t : At X N sc) (i : Nat) {pos' : Pos} (h : EvDn X ρ e kvs) (hi : N[i]? = some x := by rfl) (hx : LocS sc x = true := by rfl) (hs : swapsWith e (some (.Name x pos')) pos.line X.env = pure false := by rfl) :
    EvS X ρ (.Assign [.Name x pos'] e pos) (.nx (ρ.set i (.dct kvs))) :=
  .of (ps_set (i := i) t.nd (t.ix hi) (t.loc hx) pe_w hs hfT) fun B F H σ E k q => h B F H σ _ k fun p vs F' H' x' h0 hp hf r =>
    q F' H' _ ((k.ext x').setDct i hp hf (k.sh.free h0) (by
      have hd := k.noDct h0
      exact hd) r) x'.sf
/-- d[k], there -/
theorem ev_dix (t : At X N sc) (ha : EvDr X ρ a kvs) (hb : EvE X ρ b (.tup (k.map D.int))) (h : valI kvs k = some n) (hs : PlainIx b := by intro _ _; rfl) : EvE X ρ (.Subscript a b pos) (.int n) := fun B F H σ Q kk q pins s I => by
  refine Subscript_ (thn (ha B F H σ (fun v H1 => ∃ p xs F1, v = .ref p ∧ Ext ⟨F, H⟩ F1 H1 ∧ DcRd H1 p xs ∧ DicR F1 kvs xs) kk (fun p xs F1 H1 x1 r1 r2 => ⟨p, xs, F1, rfl, x1, r1, r2⟩) pins s I) fun u s1 ⟨v, H1, I1, rv, p, xs, F1, ev, x1, r1, r2⟩ => ?_)
  subst ev
  cases (show u = Value.ref p from rv)
  refine thn (hb B F1 H1 σ (fun v H2 => ∃ F2, Ext ⟨F1, H1⟩ F2 H2 ∧ Rep X.K F2 v (.tup (k.map D.int))) (kk.ext x1) (fun v F2 H2 x2 r3 => ⟨F2, x2, r3⟩) pins s1 I1) fun iv s2 ⟨w, H2, I2, rw', F2, x2, r3⟩ => ?_
  cases r3 with
  | @tup bt vs ds hf rl =>
    have ev := RepL.of_ints rl
    subst ev
    cases (show iv = Value.ref bt from rw')
    have hd := DcRd.is I2 (r1.mono x2.sh)
    have r2' := r2.mono x2.sf
    obtain ⟨z, hsm, ys, rel, dd⟩ := dc_dict I2 hd (fun x hx => x2.sub _ _ (r2'.2 x hx))
    have hv : valI (xs.map kv) k = some n := by rw [← h, r2.1]
    rw [valI_of] at hv
    obtain ⟨x0, hx0, e0⟩ := Option.map_eq_some_iff.mp hv
    obtain ⟨w0, hw0, rw0⟩ := (rel.at k).2 x0 hx0
    refine subscriptTail_builtinR (x := w0) dd.typeIs PySem.F.slot_dict_getitem.lookup ?_ (hs _ _)
    refine wpAny_getItem_heap (Q := fun r s' => r = w0 ∧ EP X pins σ Q r s') (tupleKind_room_in1 (by have := t.un; omega)) (tkey I2 (x2.sub _ _ hf)) dd hw0 ⟨rfl, .int n, H2, I2.tok _, ?_, q _ F2 H2 (x1.t x2) (.int n)⟩
    rw [← e0]; exact rw0
end
end L2.EV

set_option linter.all false
set_option autoImplicit false
set_option maxRecDepth 100000
/-! Dicts: stores, get, walks, displays, defs that give one. -/
namespace L2.EV
open PySem PySem.Spec PyProof.Rows
section
variable {X : Cx}
/-- one store -/
theorem dc_set {pins : List (Addr × Obj)} {σ : St} {H : Hp} {s : Shared} {a b : Addr} {xs : KXs} {k : List Int} {n : Int} {u : Value} (I : Inv X pins σ H s) (h : H a = some (.ext (dcAt a xs))) (hk : ∀ x ∈ xs, H x.2.1 = some (.tup (x.1.map V.int)))
    (hb : H b = some (.tup (k.map V.int))) (hz : xs.length < sizeLine) (ru : RelV (.int n) u) {h' : Heap} {ys : List (List Int × Addr × Value)} {t' : Nat} (rel : KPair xs ys) (hs : (a == sysModules) = false) (dd : h'.DictOfH (tupleKind (intKind X.prog X.w)) a (storedH ys k b u)) (sb : Heap.SameBut a s.heap h') :
    Inv X pins σ (upd H a (.ext (dcAt a (stX xs k b n)))) { s with heap := h', toks := t' } := by
  have z : dcAt a (stX xs k b n) h' := dc_obj (by have := stX_len xs k b n; omega) hs (rel.put k b ru) dd
  exact I.write (x := a) (e := a) (by rw [h]; exact True.intro) (.inl rfl) (fun c q hc w => (sb.2 c hc).trans w) (let ⟨_, _, o, h1, _⟩ := z; ⟨o, h1⟩) (dc_ext z)
def rSetD : TSet := fun o i v H Q => ∃ a xs k b n, o = .ref a ∧ i = .ref b ∧ v = .int n ∧ H a = some (.ext (dcAt a xs)) ∧ (∀ x ∈ xs, H x.2.1 = some (.tup (x.1.map V.int))) ∧ H b = some (.tup (k.map V.int)) ∧ xs.length < sizeLine ∧ Q (upd H a (.ext (dcAt a (stX xs k b n))))
theorem set_dc (hu : X.A.units + 1 < cLine) : PSet X rSetD := by
  intro pins s σ H o i v ov iv u Q I ro ri rv h
  obtain ⟨a, xs, k, b, n, rfl, rfl, rfl, h1, h2, h3, h4, q⟩ := h
  cases (show ov = Value.ref a from ro)
  cases (show iv = Value.ref b from ri)
  obtain ⟨z, hs, ys, rel, dd⟩ := dc_dict I (DcRd.is I (.inl h1)) h2
  refine wpAny_setItem_heap (hsz := by rw [← rel.len]; exact z) (tupleKind_room_in1 hu) (tkey I h3) dd fun h' dd' sb => ⟨_, dc_set I h1 h2 h3 h4 rv rel hs dd' sb, q⟩
/-- the pairs of a display are stored -/
def stAll (xs : KXs) (is : KXs) : KXs := is.foldl (fun acc x => stX acc x.1 x.2.1 x.2.2) xs
theorem dc_store (hu : X.A.units < cLine) {pins : List (Addr × Obj)} {σ : St} {a : Addr} {E : Value → Shared → Prop} {Q : PUnit → Shared → Prop} : ∀ (is : KXs) (ws : List (Value × Value)) (xs : KXs) (H : Hp) (s : Shared), Inv X pins σ H s → H a = some (.ext (dcAt a xs)) → (∀ x ∈ xs, H x.2.1 = some (.tup (x.1.map V.int))) → (∀ x ∈ is, H x.2.1 = some (.tup (x.1.map V.int))) →
    Paired (fun (x : List Int × Addr × Int) (w : Value × Value) => w.1 = .ref x.2.1 ∧ RelV (.int x.2.2) w.2) is ws → xs.length + is.length < sizeLine → (∀ s', Inv X pins σ (upd H a (.ext (dcAt a (stAll xs is)))) s' → Q PUnit.unit s') →
    wpAny (model X.prog X.w) X.A (forIn ws PUnit.unit fun x _ => do
      dictSet a x.fst x.snd
      pure (ForInStep.yield PUnit.unit)) Q E s := by
  intro is
  induction is with
  | nil =>
    intro ws xs H s I h1 h2 h3 r hz q
    cases r
    have e : upd H a (.ext (dcAt a xs)) = H := funext fun b => by
      by_cases hb : b = a
      · subst hb; rw [upd_same, h1]
      · rw [upd_ne hb]
    have q' := q s
    rw [show stAll xs [] = xs from rfl, e] at q'
    exact wpAny_pure (q' I)
  | cons x is ih =>
    intro ws xs H s I h1 h2 h3 r hz q
    cases r with
    | @cons _ w _ ws hw t =>
    obtain ⟨k, b, n⟩ := x
    obtain ⟨w1, w2⟩ := w
    obtain ⟨e1, rn⟩ := hw
    cases (show w1 = Value.ref b from e1)
    rw [List.length_cons] at hz
    rw [List.forIn_cons]
    obtain ⟨z, hs, ys, rel, dd⟩ := dc_dict I (DcRd.is I (.inl h1)) h2
    have hb : H b = some (.tup (k.map V.int)) := h3 (k, b, n) (by simp)
    refine wpAny_bind (wpAny_bind (wpAny_dictSet_heap (by show X.A.units < cLine; exact hu) (tkey I hb) dd (fun h' dd' sb => ?_) (by rw [← rel.len]; exact z)))
    refine wpAny_pure ?_
    have I2 := dc_set (t' := s.toks + (tupleKind (intKind X.prog X.w)).draws k) I h1 h2 hb (by omega) rn rel hs dd' sb
    have tn : ∀ c ks, H c = some (.tup ks) → upd H a (.ext (dcAt a (stX xs k b n))) c = some (.tup ks) := fun c ks hc => by
      rw [upd_ne (fun z => by subst z; rw [h1] at hc; cases hc)]; exact hc
    refine ih ws (stX xs k b n) _ _ I2 upd_same (fun y hy => ?_) (fun y hy => tn _ _ (h3 y (by simp [hy]))) t (by have := stX_len xs k b n; omega) fun s' I3 => q s' ?_
    · unfold stX at hy
      split at hy
      · obtain ⟨y', hy', rfl⟩ := List.mem_map.mp hy
        by_cases e : y'.1 = k
        · rw [if_pos e]; exact tn _ _ (h2 y' hy')
        · rw [if_neg e]; exact tn _ _ (h2 y' hy')
      · rcases List.mem_append.mp hy with h | h
        · exact tn _ _ (h2 y h)
        · rw [List.mem_singleton] at h; subst h; exact tn _ _ hb
    · rw [upd_upd] at I3; exact I3
end
section
variable {X : Cx} {ρ ρ' : Rho} {e f a b c : Expr} {d : D} {pos p apos cpos : Pos} {N : List Str} {sc : Scope} {x y : Str} {kvs kvs' : KVs} {sts : List Stmt} {o : Out} {k : List Int} {n : Int}
/-- x[k] = n -/
theorem eg_dput (t : At X N sc) (i : Nat) (hr : ρ[i]? = some (.dct kvs)) (hb : EvE X ρ b (.tup (k.map D.int))) (hz : kvs.length < sizeLine) (hN : N[i]? = some y := by rfl) (hv : VisS sc y = true := by rfl) (hx : NameOk y = true := by rfl)
    (ha : ∀ v, assign (.Subscript (.Name y p) b pos) X.env v = (do
      let ov ← holding [v] (eval (.Name y p) X.env)
      let iv ← holding [v, ov] (eval b X.env)
      standAt pos
      holding [v, ov, iv] (setItem ov iv v)
      release [v, ov, iv] []) := by intro _; rfl) : EvG X ρ (.Subscript (.Name y p) b pos) (.int n) (ρ.set i (.dct (putI kvs k n))) :=
  .of (pg_sub pe_w pe_w (set_dc (by have := t.un; omega)) ha) fun B F H σ v Q kk r q => by
    cases r
    intro pins s I
    obtain ⟨l, es, h1, h2, h3, h4, h5⟩ := kk.dic.dcts i kvs hr
    refine pvAt t hN hv hx pins s σ H _ I ⟨_, h1, ?_⟩
    refine hb B F H σ _ kk fun w F' H' x' rw' => ?_
    cases rw' with
    | @tup bt vs ds hf rl =>
      have ev := RepL.of_ints rl
      subst ev
      have h5' := h5.mono x'.sf
      refine ⟨l, es, k, bt, n, rfl, rfl, rfl, x'.sh _ _ h2, fun x hx => x'.sub _ _ (h5'.2 x hx), x'.sub _ _ hf, ?_, ?_⟩
      · have e := congrArg List.length h5.1
        rw [List.length_map] at e; omega
      · exact q F' _ _ ((kk.ext x').chgDct hr h1 (h5'.put hf n)) x'.sf
/-- d.get(k, n) -/
theorem ev_dget (t : At X N sc) {n0 : Int} (ho : EvDr X ρ a kvs) (ha : EvA X ρ [e, f] [.tup (k.map D.int), .int n0]) (hbase : attributeBase a "get" X.env (eval a X.env) = eval a X.env := by rfl)
    (hfew : ((backTo cpos (starEach [e, f] X.env)).all (fun x => !x.1) && (backToKw cpos (keywordEach [] X.env)).all (fun x => x.1.isSome)
      && decide (([e, f] : List Expr).length + ([] : List Keyword).length + (if ([] : List Keyword).isEmpty then 0 else 1) < 30)) = true := by rfl)
    (hline : (apos.endLine == cpos.line) = true := by rfl) (hs : starEach [e, f] X.env = (false, eval e X.env) :: starEach [f] X.env := by rfl) (hplain : (backTo cpos (starEach [f] X.env)).any (·.1) = false := by rfl) :
    EvE X ρ (.Call (.Attribute a "get" apos) [e, f] [] cpos) (.int ((valI kvs k).getD n0)) := fun B F H σ Q kk q pins s I => by
  refine wpAny_Call_method_late hbase hfew hline rfl (thn (ho B F H σ (fun v H1 => ∃ p xs F1, v = .ref p ∧ Ext ⟨F, H⟩ F1 H1 ∧ DcRd H1 p xs ∧ DicR F1 kvs xs) kk (fun p xs F1 H1 x1 r1 r2 => ⟨p, xs, F1, rfl, x1, r1, r2⟩) pins s I) fun u s1 ⟨v, H1, I1, rv, p, xs, F1, ev, x1, r1, r2⟩ => ?_)
  subst ev
  cases (show u = Value.ref p from rv)
  have hd := DcRd.is I1 r1
  obtain ⟨_, _, ob, g1, g2, _⟩ := id hd
  refine ⟨"dict", "dict.get", PySem.F.plainAttrs_dict, PySem.F.slot_dict_get, PySem.F.type_dict_get, ⟨ob, g1, g2.1⟩, fun c ec => (by cases ec; exact ⟨ob, g1, g2.2.1⟩), ?_⟩
  have hA := ha.2 B F1 H1 σ (fun vs H2 => ∃ F2, Ext ⟨F1, H1⟩ F2 H2 ∧ RepL X.K F2 vs [.tup (k.map D.int), .int n0]) (kk.ext x1) (fun vs F2 H2 x2 r3 => ⟨F2, x2, r3⟩) cpos pins s1 I1
  rw [hs] at hA ⊢
  refine Calls.callWith_builtin (by show (false || (backTo cpos (starEach [f] X.env)).any (·.1)) = false; rw [hplain] <;> rfl) (Calls.evalArgs_plain ?_)
  refine thn hA fun us s2 ⟨vs, H2, I2, rvs, F2, x2, r3⟩ => ?_
  cases r3 with
  | cons ra rb =>
  cases rb with
  | cons rn rnil =>
  cases rnil
  cases rn
  cases ra with
  | @tup bt ks ds hf rl =>
  have ev := RepL.of_ints rl
  subst ev
  obtain ⟨u1, u2, rfl, ru1, ru2⟩ := vals2 rvs
  cases (show u1 = Value.ref bt from ru1)
  have r2' := r2.mono x2.sf
  obtain ⟨z, hsm, ys, rel, dd⟩ := dc_dict I2 (DcRd.is I2 (r1.mono x2.sh)) (fun x hx => x2.sub _ _ (r2'.2 x hx))
  refine call_meetsIn PySem.F.slot_dict_get dd.typeIs PySem.F.entry_dict_get (PySem.F.args_dict_get_3 _ _ _) (meetsH_dict_get_default (tupleKind (intKind X.prog X.w)) p bt hsm u2) ⟨tupleKind_room_in1 (by have := t.un; omega), k, ys, tkey I2 (x2.sub _ _ hf), dd, ?_⟩
  refine ⟨.int ((valI kvs k).getD n0), H2, I2.tok _, ?_, q _ F2 H2 (x1.t x2) (.int _)⟩
  rw [r2.1, valI_of]
  obtain ⟨hN, hS⟩ := rel.at k
  cases qq : (xs.find? fun p => decide (p.1 = k)) with
  | none => rw [hN qq]; exact ru2
  | some x0 =>
    obtain ⟨w0, hw0, rw0⟩ := hS x0 qq
    rw [hw0]; exact rw0
/-! ### walks -/
def Itd (l : Addr) (ob : Obj) (xs : KXs) : It :=
  ⟨fun i H => H l = some (.frz ob (.ext (dcAt l xs))) ∧ i < xs.length, fun i H v H' => H' = H ∧ ∃ x, xs[i]? = some x ∧ v = .ref x.2.1, fun i H => H l = some (.frz ob (.ext (dcAt l xs))) ∧ xs.length ≤ i, False⟩
theorem es_at {es : Array DictEntry} {ys : List (List Int × Addr × Value)} {xs : KXs} (h : ∀ (P : Program) (w : World), es.toList = ys.map (entryOfKey (tupleKind (intKind P w)))) (P : Program) (w : World) (r : KPair xs ys) : es.size = xs.length ∧ ∀ (i : Nat) x, xs[i]? = some x → ∃ e, es[i]? = some e ∧ e.key = .ref x.2.1 := by
  have h' := h P w
  have hl : es.size = ys.length := by rw [← Array.length_toList, h', List.length_map]
  refine ⟨by rw [hl, r.len], fun i x hx => ?_⟩
  have g : ∀ {xs : KXs} {ys : List (List Int × Addr × Value)}, KPair xs ys → ∀ (i : Nat) x, xs[i]? = some x → ∃ y, ys[i]? = some y ∧ y.2.1 = x.2.1 := by
    intro xs ys r
    induction r with
    | nil => intro i x hx; simp at hx
    | @cons p q ps qs hq t ih =>
      intro i x hx
      cases i with
      | zero => simp at hx; subst hx; exact ⟨q, by simp, hq.2.1⟩
      | succ i => simpa using ih i x (by simpa using hx)
  obtain ⟨y, hy, ey⟩ := g r i x hx
  refine ⟨entryOfKey (tupleKind (intKind P w)) y, ?_, ?_⟩
  · rw [← Array.getElem?_toList, h', List.getElem?_map, hy]; rfl
  · show Value.ref y.2.1 = _
    rw [ey]
theorem turn_dic {P : Program} {w : World} {K : PySem.W.Frag} {tg : Expr} (l it : Addr) (ob : Obj) (xs : KXs) {es : Array DictEntry} {ep : Nat} {ys : List (List Int × Addr × Value)} (h1 : ob.data = .dict es ep) (h2 : ∀ (P : Program) (w : World), es.toList = ys.map (entryOfKey (tupleKind (intKind P w)))) (r : KPair xs ys) :
    Turn P w K tg (Itd l ob xs) [it] it (fun i h => h.IsKeyIter it l i es.size ep) where
  mem := by simp
  obj := fun i h st b hb => by
    have e : b = it := by simpa using hb
    subst e
    obtain ⟨o, e, c, d⟩ := st
    exact ⟨o, e, fun v z => by rw [d] at z; cases z⟩
  keep := fun i h h' st k => st.at fun o e => k it (by simp) o e
  item := by
    intro X hP hw hK hc i pins s σ H E I hf st hg
    subst hP hw hK
    replace hc := hc.resolve_right fun z => z.1
    obtain ⟨hq, hx⟩ := hg
    obtain ⟨f0, f1, f2, f3, f4, f5⟩ := hf it (by simp)
    have ho := (show ObjOk X.prog X.w H s.heap l (.frz ob (.ext (dcAt l xs))) from I.hok l _ hq).1
    obtain ⟨hl, hg⟩ := es_at h2 X.prog X.w r
    obtain ⟨e, he, ek⟩ := hg i xs[i] (List.getElem?_eq_getElem hx)
    refine dnext_item st ho h1 rfl he fun h' st' sb => ?_
    have I1 : Inv X pins σ H { s with heap := h' } := I.turned (t' := s.toks) (fun b o hb e => (sb.2 b hb).trans e) f0 f1 f3 f4 f5
    exact ⟨e.key, rfl, letGo_keyiter (s' := { s with heap := h' }) st' ⟨.ref xs[i].2.1, H, I1, ek, ⟨rfl, _, List.getElem?_eq_getElem hx, rfl⟩, st', fun b hb => (hf b hb).1⟩⟩
  done := by
    intro X hP hw hK hc i pins s σ H E I hf st hg
    subst hP hw hK
    replace hc := hc.resolve_right fun z => z.1
    obtain ⟨hq, hx⟩ := hg
    obtain ⟨f0, f1, f2, f3, f4, f5⟩ := hf it (by simp)
    have ho := (show ObjOk X.prog X.w H s.heap l (.frz ob (.ext (dcAt l xs))) from I.hok l _ hq).1
    obtain ⟨hl, hg⟩ := es_at h2 X.prog X.w r
    exact dnext_end (I.ok.hd hc) st ho h1 rfl (Array.getElem?_eq_none (by omega)) fun h' eb => ⟨rfl, I.turned (t' := s.toks) (fun b o hb e => eb b o hb e) f0 f1 f3 f4 f5⟩
  self := fun _ _ _ _ _ st h => wpAny_pyIter_keyiter st h
def iDic (tl : TE) : TI := fun σ H R => tl σ H fun x H1 => ∃ l ob xs, x = .ref l ∧ H1 l = some (.frz ob (.ext (dcAt l xs))) ∧ R (Itd l ob xs) H1
theorem pi_dic {tg l : Expr} {tl : TE} (hl : PE X l tl) : PI X tg l (iDic tl) := by
  intro pins s σ H R I h
  refine thn (hl pins s σ H _ I h) fun v s1 ⟨x, H1, I1, r1, q1⟩ => ?_
  obtain ⟨a, ob, xs, e, hq, q⟩ := q1
  subst e
  cases (show v = Value.ref a from r1)
  obtain ⟨ho, hz⟩ := (show ObjOk X.prog X.w H1 s1.heap a (.frz ob (.ext (dcAt a xs))) from I1.hok a _ hq)
  obtain ⟨_, hs, o, g1, g2, es, ep, ys, g3, g4, g5, _⟩ := hz.1
  have eo : o = ob := by rw [ho] at g1; exact (Option.some.inj g1).symm
  subst eo
  refine diter hs ho g2 g3 ?_
  refine ⟨s1.heap.objs.size, [s1.heap.objs.size], _, _, H1, rfl, I1.kept (t' := s1.toks) fun b o e => Heap.get?_push_of_some _ e, turn_dic a _ _ xs g3 g4 g5, ⟨_, Heap.get?_push_size _ rfl, rfl, rfl⟩, fun b hb => ?_, q⟩
  have e : b = s1.heap.objs.size := by simpa using hb
  subst e
  exact I1.fpOk (Nat.le_refl _) (I1.hok.fresh (Nat.le_refl _))
abbrev keyD (q : List Int × Int) : D := .tup (q.1.map D.int)
theorem ei_dic {tg : Expr} (h : EvE X ρ e (.dic kvs)) : EvI X ρ tg e (kvs.map keyD) := .of (pi_dic pe_w) fun B F H σ R kk q => h B F H σ _ kk fun v F' H' x' r => by
  cases r with
  | @dic l ob ks xs hf r =>
    refine ⟨l, ob, xs, rfl, x'.sub _ _ hf, q _ F' H' x' fun i F2 H2 s1 s2 => ⟨fun d hd => ?_, fun hl => ⟨s2 _ _ (s1 _ _ hf), by rw [r.1, List.length_map, List.length_map] at hl; exact hl⟩⟩⟩
    rw [r.1, List.map_map, List.getElem?_map] at hd
    obtain ⟨x, hx, e⟩ := Option.map_eq_some_iff.mp hd
    subst e
    refine ⟨⟨s2 _ _ (s1 _ _ hf), (List.getElem?_eq_some_iff.mp hx).1⟩, fun v H3 hy => ?_⟩
    obtain ⟨rfl, x', hx', rfl⟩ := hy
    rw [hx] at hx'; cases hx'
    exact ⟨F2, .refl s2, .tup (s1 _ _ (r.2 x (List.mem_of_getElem? hx))) (RepL.ints x.1)⟩
end
end L2.EV

set_option linter.all false
set_option autoImplicit false
set_option maxRecDepth 100000
/-! Dicts: displays, defs that give one. -/
namespace L2.EV
open PySem PySem.Spec PyProof.Rows
section
variable {X : Cx} {ρ ρ' : Rho} {e f a b c : Expr} {d : D} {pos p apos cpos pos' : Pos} {N : List Str} {sc : Scope} {x y : Str} {kvs kvs' : KVs} {o : Out} {k : List Int} {n : Int} {st : Stmt} {rest : List Stmt} {ds : List D} {es : List Expr}
/-- keys and values of a display, from the left -/
inductive EvKs (X : Cx) (ρ : Rho) : List (Option Expr) → List Expr → KVs → Prop where
  | nil : EvKs X ρ [] [] []
  | cons {a b : Expr} {as : List (Option Expr)} {bs : List Expr} {k : List Int} {n : Int} {r : KVs} : EvE X ρ a (.tup (k.map D.int)) → EvE X ρ b (.int n) → EvKs X ρ as bs r → EvKs X ρ (some a :: as) (b :: bs) ((k, n) :: r)
theorem EvKs.len {as : List (Option Expr)} {bs : List Expr} (h : EvKs X ρ as bs kvs) : as.all (·.isSome) = true ∧ as.length = bs.length ∧ as.length = kvs.length := by
  induction h with
  | nil => exact ⟨rfl, rfl, rfl⟩
  | cons h1 h2 h3 ih => exact ⟨by rw [List.all_cons, ih.1]; rfl, congrArg Nat.succ ih.2.1, congrArg Nat.succ ih.2.2⟩
def putAll (kvs more : KVs) : KVs := more.foldl (fun acc q => putI acc q.1 q.2) kvs
theorem EvKs.walk {as : List (Option Expr)} {bs : List Expr} (h : EvKs X ρ as bs kvs) : ∀ {B : B0} {F H : Hp} {σ : St}, Ok X.K B F H σ ρ → ∀ {pins : List (Addr × Obj)} {s : Shared}, Inv X pins σ H s →
    wpAny (model X.prog X.w) X.A (evalPairs (pairTrees as bs X.env pos)) (fun ws s' => ∃ F' H' xs, Inv X pins σ H' s' ∧ Ext ⟨F, H⟩ F' H' ∧ DicR F' kvs xs ∧ Paired (fun (x : List Int × Addr × Int) (w : Value × Value) => w.1 = .ref x.2.1 ∧ RelV (.int x.2.2) w.2) xs ws) X.xe s := by
  induction h with
  | nil => intro B F H σ kk pins s I; exact pairTrees_nil_walk ⟨F, H, [], I, .refl kk.sub, ⟨rfl, fun _ z => nomatch z⟩, .nil⟩
  | @cons a b as bs k n r h1 h2 h3 ih =>
    intro B F H σ kk pins s I
    refine pairTrees_cons_walk (thn (h1 B F H σ (fun v H1 => ∃ F1, Ext ⟨F, H⟩ F1 H1 ∧ Rep X.K F1 v (.tup (k.map D.int))) kk (fun v F1 H1 x1 r1 => ⟨F1, x1, r1⟩) pins s I) fun u s1 ⟨v, H1, I1, rv, F1, x1, r1⟩ => ?_)
    have k1 := kk.ext x1
    refine thn (h2 B F1 H1 σ (fun v H2 => ∃ F2, Ext ⟨F1, H1⟩ F2 H2 ∧ Rep X.K F2 v (.int n)) k1 (fun v F2 H2 x2 r2 => ⟨F2, x2, r2⟩) pins s1 I1) fun u2 s2 ⟨v2, H2, I2, rv2, F2, x2, r2⟩ => ?_
    refine thn (ih (k1.ext x2) I2) fun ws s3 ⟨F3, H3, xs, I3, x3, r3, pr⟩ => ?_
    cases r2
    cases r1 with
    | @tup bt vs ds hf rl =>
    have ev := RepL.of_ints rl
    subst ev
    cases (show u = Value.ref bt from rv)
    refine ⟨F3, H3, (k, bt, n) :: xs, I3, (x1.t x2).t x3, ⟨by rw [r3.1]; rfl, fun x hx => ?_⟩, .cons ⟨rfl, rv2⟩ pr⟩
    rcases List.mem_cons.mp hx with e | hx
    · subst e; exact x3.sf _ _ (x2.sf _ _ hf)
    · exact r3.2 x hx
theorem stAll_R {F : Hp} : ∀ (is : KXs) (kvs : KVs) (xs : KXs), DicR F kvs xs → (∀ x ∈ is, F x.2.1 = some (.tup (x.1.map V.int))) → DicR F (putAll kvs (is.map kv)) (stAll xs is)
  | [], kvs, xs, r, _ => r
  | (k, b, n) :: is, kvs, xs, r, h => by
    show DicR F (putAll (putI kvs k n) (is.map kv)) (stAll (stX xs k b n) is)
    exact stAll_R is _ _ (r.put (h (k, b, n) (by simp)) n) fun x hx => h x (by simp [hx])
theorem ed_disp (t : At X N sc) {as : List (Option Expr)} {bs : List Expr} (h : EvKs X ρ as bs kvs) (h0 : as ≠ [] := by exact fun z => nomatch z) (h15 : as.length ≤ 15 := by decide) : EvDn X ρ (.Dict as bs pos) (putAll [] kvs) := fun B F H σ Q kk q pins s I => by
  obtain ⟨l1, l2, l3⟩ := h.len
  rw [arm_eval_Dict, zip_pairTrees as bs X.env pos l1 l2]
  have hpl : (pairTrees as bs X.env pos).length = as.length := pairTrees_length as bs X.env pos l1 l2
  rw [dictDisplay_pairs _ (fun z => h0 (List.eq_nil_of_length_eq_zero (by rw [← hpl, z]; rfl))) (by omega)]
  refine wpAny_bind (wpAny_standAt (wpAny_bind ?_))
  unfold subDict
  refine wpAny_bind (wpAny_alloc ?_)
  have hn := I.hok.fresh (Nat.le_refl s.heap.objs.size)
  have hb : sysModules < s.heap.objs.size := Nat.lt_trans (by decide) (show mainGlobals < s.heap.objs.size from (I.mod.glob.keeps I.bk).lt)
  have z : dcAt s.heap.objs.size [] (s.heap.push { cls := .type "dict", data := .dict #[] }) := dc_obj (P := X.prog) (w := X.w) (Nat.zero_le _) (beq_eq_false_iff_ne.mpr (Ne.symm (Nat.ne_of_lt hb))) .nil (Heap.DictOfH.new s.heap)
  have I1 := I.laid (a := s.heap.objs.size) (o := .ext (dcAt s.heap.objs.size [])) (h' := s.heap.push { cls := .type "dict", data := .dict #[] }) (t' := s.toks) (fun _ _ q => Heap.get?_push_of_some _ q) (Nat.le_refl _) (dc_ext z)
  have x1 : Ext ⟨F, H⟩ F (upd H s.heap.objs.size (.ext (dcAt s.heap.objs.size []))) := ⟨kk.sub.trans (upd_sameOf hn), upd_sameOf hn, .refl _, fun _ z => .inl z⟩
  refine wpAny_bind (wpAny_holding ?_)
  rw [if_pos (by omega)]
  refine wpAny_bind (thn (h.walk (kk.ext x1) I1) fun ws s2 ⟨F2, H2, is, I2, x2, r2, pr⟩ => ?_)
  refine wpAny_holding (wpAny_bind ?_)
  have hf2 : F2 s.heap.objs.size = none := by
    cases e : F2 s.heap.objs.size with
    | none => rfl
    | some o =>
      rcases x2.nw s.heap.objs.size (by rw [e]; exact Option.some_ne_none o) with w | w
      · exact absurd (kk.sub.free hn) w
      · have w' : upd H s.heap.objs.size (.ext (dcAt s.heap.objs.size [])) s.heap.objs.size = none := w
        rw [upd_same] at w'; cases w'
  have h2 : H2 s.heap.objs.size = some (.ext (dcAt s.heap.objs.size [])) := x2.sh _ _ upd_same
  have hlen : is.length = kvs.length := by rw [r2.1, List.length_map]
  refine dc_store (by have := t.un; omega) is ws [] H2 s2 I2 h2 (fun _ z => nomatch z) (fun x hx => x2.sub _ _ (r2.2 x hx)) pr (by rw [List.length_nil, sizeLine_eq]; omega) fun s3 I3 => ?_
  refine wpAny_pure (wpAny_pure (wpAny_pure ⟨.ref s.heap.objs.size, _, I3, rfl, ?_⟩))
  have x12 := x1.t x2
  have R : DicR F2 (putAll [] kvs) (stAll [] is) := by
    have := stAll_R is [] [] ⟨rfl, fun _ z => nomatch z⟩ r2.2
    rw [← r2.1] at this
    exact this
  refine q _ (stAll [] is) F2 _ ⟨fun c u w => ?_, fun c u w => ?_, x12.sf, x12.nw⟩ hn upd_same hf2 R
  · have ne : c ≠ s.heap.objs.size := fun z => by subst z; rw [hf2] at w; cases w
    rw [upd_ne ne]; exact x12.sub c u w
  · have ne : c ≠ s.heap.objs.size := fun z => by subst z; have w' : H s.heap.objs.size = some u := w; rw [hn] at w'; cases w'
    rw [upd_ne ne]; exact x12.sh c u w
theorem EvDn.eq (h : EvDn X ρ e kvs) (q : kvs = kvs') : EvDn X ρ e kvs' := q ▸ h

/-! ### a def that gives a dict of the caller's own -/
def spD (K : PySem.W.Frag) (C : List D → KVs → Prop) : Sp := fun vs H Q _ => ∃ F ds kvs, Same F H ∧ RepL K F vs ds ∧ C ds kvs ∧ ∀ p us F' H', Ext ⟨F, H⟩ F' H' → H p = none → H' p = some (.ext (dcAt p us)) → F' p = none → DicR F' kvs us → Q (.ref p) H'
def CalleeD (X : Cx) (x : Str) (C : List D → KVs → Prop) : Prop := ∃ (f : Addr) (fd : FuncData) (ps : List Str) (k : Nat), FnOk X.prog X.w X.K X.mg X.base CX0 k f fd ps (spD X.K C) ∧ Room k X.A ∧ X.mg x = some (.ref f) ∧ PySem.W.keepIn X.K (.ref f) = true ∧ Binds X.K fd ps []
def EvSsD (X : Cx) (ρ : Rho) (sts : List Stmt) (kvs : KVs) : Prop := ∀ (B : B0) (F H : Hp) (σ : St) (E : Ends), Ok X.K B F H σ ρ → (∀ p us F' H', Ext B F' H' → B.H p = none → H' p = some (.ext (dcAt p us)) → F' p = none → DicR F' kvs us → E.rt (.ref p) H') → wSs X sts E σ H
theorem ed_call (t : At X N sc) {C : List D → KVs → Prop} (h : CalleeD X x C) (ha : EvA X ρ (e :: es) ds) (hC : C ds kvs) (hg : sc.names.lookup x = some .globalImplicit := by rfl) (hdb : (x == ("__debug__" : Str)) = false := by rfl) : EvDn X ρ (.Call (.Name x p) (e :: es) [] pos) kvs := by
  obtain ⟨f, fd, ps, k, F, hr, hm, hk, hb⟩ := h
  have pz : Passes CX0 X E0 := pass0
  intro B F' H σ Q k' q pins s I
  refine pe_call F hr (gl_of t hg) hm hk hb .nil pz pa_w hdb (ha.1.1 _ _) (PlA.any ha.1.2) pins s σ H Q I (ha.2 B F' H σ _ k' fun vs F1 H1 x1 r1 => ?_)
  exact ⟨F1, ds, kvs, x1.sub, by rw [List.append_nil]; exact r1, hC, fun p us F2 H2 x2 h0 hp hf r2 => q p us F2 H2 (x1.t x2) (x1.sh.free h0) hp hf r2⟩
theorem esd_cons (h1 : EvS X ρ st (.nx ρ')) (h2 : EvSsD X ρ' rest kvs) : EvSsD X ρ (st :: rest) kvs := fun B F H σ E k q =>
  (fun pins s I => pss_cons ps_w pss_w pins s σ H E I (h1 B F H σ _ k fun F1 H1 σ1 k1 s1 => h2 B F1 H1 σ1 E k1 q))
theorem esd_ret (t : At X N sc) (i : Nat) (hr : ρ[i]? = some (.dct kvs)) (hN : N[i]? = some x := by rfl) (hv : VisS sc x = true := by rfl) (hx : NameOk x = true := by rfl) : EvSsD X ρ [.Return (some (.Name x pos')) pos] kvs := fun B F H σ E k q => by
  obtain ⟨a, us, h1, h2, h3, h4, h5⟩ := k.dic.dcts i kvs hr
  exact fun pins s I => pss_one (ps_ret (pvAt t hN hv hx)) pins s σ H E I ⟨_, h1, q a us F H k.toExt h4 h2 h3 h5⟩
/-- a new dict that is returned at once -/
theorem esd_retE (h : EvDn X ρ e kvs) : EvSsD X ρ [.Return (some e) pos] kvs := fun B F H σ E k q pins s I =>
  pss_one (ps_ret pe_w) pins s σ H E I (h B F H σ _ k fun p us F' H' x' h0 h1 h2 r => q p us F' H' (k.toExt.trans x') (k.sh.free h0) h1 h2 r)
theorem fn_evD {P : Program} (htree : P.given.tree = none) {w : World} {K : PySem.W.Frag} {mg : Str → Option Value} {base : Heap} {x qual : Str} {st : Stmt} {f : Addr} {fd : FuncData} {N ps : List Str} {k : Nat} {C : List D → KVs → Prop} (F : Fun K x qual st f fd) (S : FnScope N ps (defScope st))
    (len : ∀ ds xs, C ds xs → ds.length = ps.length)
    (body : ∀ X, DefX P w K mg base k N (defScope st) X → ∀ ds xs, C ds xs → EvSsD X (ds.map Sl.val ++ List.replicate (N.length - ds.length) Sl.un) (defBody st) xs) : FnOk P w K mg base CX0 (k + 1) f fd ps (spD K C) := by
  refine F.ok S (fun vs H Q E h => ?_) (fun cdv A outer s H vs Q E hr h => ?_)
  · obtain ⟨F', ds, d, sub, r, hC, q⟩ := h
    rw [r.length]; exact len ds d hC
  · obtain ⟨F', ds, d, sub, r, hC, q⟩ := h
    refine ⟨_, pss_w, ?_⟩
    have hx : DefX P w K mg base k N (defScope st) (cxOf CX0 P w K mg base N qual (defScope st) f cdv A outer s H E).nox :=
      ⟨⟨rfl, rfl, rfl, S.nd, rfl, hr.units, hr.dp100, htree, ⟨_, _, rfl, S.gen, S.co, rfl, rfl⟩⟩, rfl, rfl, rfl, rfl, rfl, hr, ⟨fun _ => rfl⟩, rfl, rfl⟩
    have hb := body _ hx ds d hC
    have hk : Ok K ⟨F', H⟩ F' H (start N vs) (ds.map Sl.val ++ List.replicate (N.length - ds.length) Sl.un) := by
      unfold start
      rw [r.length]
      exact ok_start sub r _
    exact hb ⟨F', H⟩ F' H _ _ hk fun p us F2 H2 x2 h0 hp hf r2 => q p us F2 H2 x2 h0 hp hf r2
theorem DefX.calleeD {P : Program} {w : World} {K : PySem.W.Frag} {mg : Str → Option Value} {base : Heap} {k j : Nat} {f : Addr} {fd : FuncData} {ps : List Str} {x : Str} {C : List D → KVs → Prop} (h : DefX P w K mg base k N sc X)
    (F : FnOk P w K mg base CX0 j f fd ps (spD K C)) (hj : j ≤ k) (hm : mg x = some (.ref f)) (hk : PySem.W.keepIn K (.ref f) = true) (hb : Binds K fd ps []) : CalleeD X x C := by
  obtain ⟨h0, rfl, rfl, rfl, rfl, rfl, hr, _⟩ := h
  exact ⟨f, fd, ps, j, F, hr.mono hj, hm, hk, hb⟩
end
end L2.EV

set_option linter.all false
set_option autoImplicit false
set_option maxRecDepth 100000
/-! max(list, default=0); a block's own name that a block within takes. -/
namespace L2.EV
open PySem PySem.Spec PyProof.Rows
section
variable {prog : Program} {w : World} {A : Around} {R : Result → Shared → Prop} {I : Addr} {fp wr : List Addr} {n : Nat} {P : Nat → Value → Prop} {St : Nat → Heap → Prop}
theorem maxl : (toString "max" ++ toString ".loop") = "max.loop" := by decide
theorem max_loopK (W : Walks prog w A.in1 I fp wr n P St) (bt : Nat → Nat → Bool) (cmp : CmpOf prog w A.in1 CmpOp.Gt P bt) (S : Addr) (hS : ¬ S ∈ fp) (kw : List (Str × Value)) : ∀ (k j : Nat) (s : Shared) (vb : Value) (c : Nat), n - (j + 1) = k → j + 1 ≤ n → St (j + 1) s.heap → P (argBest bt j) vb →
    s.heap.get? S = some { cls := Value.type "list", data := Data.seq #[vb, vb] c } →
    (∀ (v : Value) (h' : Heap) (tk : Nat), P (argBest bt (n - 1)) v → (∀ (b : Addr) (o : Obj), ¬ b ∈ wr → b ≠ S → s.heap.get? b = some o → h'.get? b = some o) → R (Except.ok (Flow.ret v)) { s with heap := h', toks := tk }) →
    codeAny (model prog w) A (Code.builtin "max.loop" { pos := [Value.ref I, Value.none, Value.ref S], kw := kw }) R s := by
  intro k
  induction k with
  | zero =>
    intro j s vb c hk hj st hb hs hR
    refine codeAny_builtin F.entry_max_loop ?_
    show wpAny (model prog w) A.in1 (seqItems? (.ref S) >>= _) _ _ s
    refine wpAny_bind (wpAny_seqItems hs rfl ?_)
    refine wpAny_bind (wpAny_tryCatch ?_)
    have e : j + 1 = n := by omega
    rw [e] at st
    refine W.done s _ _ st fun h' tk kp => ?_
    have hs' : h'.get? S = some { cls := Value.type "list", data := Data.seq #[vb, vb] c } := kp S _ (fun z => hS (W.sub S z)) hs
    show wpAny (model prog w) A.in1 (updateSeq S (fun _ => #[]) >>= _) _ _ _
    refine wpAny_bind (wpAny_updateSeq hs' rfl ?_)
    refine wpAny_bind (wpAny_letGo (wpAny_pure ?_))
    refine hR vb _ tk (by rw [show n - 1 = j by omega]; exact hb) fun b o hw hb' e' => ?_
    rw [Heap.get?_update_other _ _ (Ne.symm hb')]
    exact kp b o hw e'
  | succ k ih =>
    intro j s vb c hk hj st hb hs hR
    refine codeAny_builtin F.entry_max_loop ?_
    show wpAny (model prog w) A.in1 (seqItems? (.ref S) >>= _) _ _ s
    refine wpAny_bind (wpAny_seqItems hs rfl ?_)
    refine wpAny_bind (wpAny_tryCatch ?_)
    refine W.item (j + 1) s _ _ (by omega) st fun v h' tk pv st' kp => ?_
    have hs' : h'.get? S = some { cls := Value.type "list", data := Data.seq #[vb, vb] c } := kp S _ (fun z => hS (W.sub S z)) hs
    refine wpAny_bind (wpAny_pure ?_)
    show wpAny (model prog w) A.in1 (tryCatch _ _ >>= _) _ _ _
    refine wpAny_bind (wpAny_tryCatch (wpAny_holding (wpAny_bind (cmp (j + 1) (argBest bt j) v vb _ _ _ pv hb ?_))))
    refine wpAny_bind (wpAny_holding (wpAny_truthy_bool ?_))
    refine wpAny_bind (wpAny_letGo (wpAny_pure ?_))
    have ea : argBest bt (j + 1) = if bt (j + 1) (argBest bt j) = true then j + 1 else argBest bt j := rfl
    by_cases hbt : bt (j + 1) (argBest bt j) = true
    · rw [hbt, if_pos rfl]
      refine wpAny_bind (wpAny_updateSeq hs' rfl ?_)
      refine wpAny_bind (wpAny_letGo (wpAny_pure ?_))
      dsimp only
      rw [maxl]
      refine ⟨plainId_quiet F.plain_max_loop _, ?_⟩
      rw [if_pos hbt] at ea
      refine ih (j + 1) _ v c (by omega) (by omega) (W.frame _ _ _ st' fun b hb' o e' => ?_) (by rw [ea]; exact pv) ?_ fun v' h'' tk' pv' kp' => hR v' h'' tk' pv' fun b o hw hS' e' => kp' b o hw hS' ?_
      · show (h'.update S _).get? b = some o
        rw [Heap.get?_update_other _ _ (fun z => hS (by rw [z]; exact hb'))]; exact e'
      · exact Heap.get?_update_self _ hs' rfl
      · show (h'.update S _).get? b = some o
        rw [Heap.get?_update_other _ _ (Ne.symm hS')]; exact kp b o hw e'
    · rw [Bool.not_eq_true] at hbt
      rw [hbt, if_neg (by decide)]
      refine wpAny_bind (wpAny_letGo (wpAny_pure ?_))
      dsimp only
      rw [maxl]
      refine ⟨plainId_quiet F.plain_max_loop _, ?_⟩
      rw [if_neg (by rw [hbt]; decide)] at ea
      exact ih (j + 1) _ vb c (by omega) (by omega) st' (by rw [ea]; exact hb) hs' fun v' h'' tk' pv' kp' => hR v' h'' tk' pv' fun b o hw hS' e' => kp' b o hw hS' (kp b o hw e')
theorem max_firstK (W : Walks prog w A.in1 I fp wr n P St) (bt : Nat → Nat → Bool) (cmp : CmpOf prog w A.in1 CmpOp.Gt P bt) (S : Addr) (hS : ¬ S ∈ fp) (k0 : Str) (d : Value) {s : Shared} {c : Nat} (st : St 0 s.heap)
    (hs : s.heap.get? S = some { cls := Value.type "list", data := Data.seq #[] c })
    (hR : ∀ (v : Value) (h' : Heap) (tk : Nat), (if 0 < n then P (argBest bt (n - 1)) v else v = d) → (∀ (b : Addr) (o : Obj), ¬ b ∈ wr → b ≠ S → s.heap.get? b = some o → h'.get? b = some o) → R (Except.ok (Flow.ret v)) { s with heap := h', toks := tk }) :
    codeAny (model prog w) A (Code.builtin "max.loop" { pos := [Value.ref I, Value.none, Value.ref S], kw := [(k0, d)] }) R s := by
  refine codeAny_builtin F.entry_max_loop ?_
  show wpAny (model prog w) A.in1 (seqItems? (.ref S) >>= _) _ _ s
  refine wpAny_bind (wpAny_seqItems hs rfl ?_)
  refine wpAny_bind (wpAny_tryCatch ?_)
  by_cases hn : 0 < n
  · refine W.item 0 s _ _ hn st fun v h' tk pv st' kp => ?_
    have hs' : h'.get? S = some { cls := Value.type "list", data := Data.seq #[] c } := kp S _ (fun z => hS (W.sub S z)) hs
    refine wpAny_bind (wpAny_pure ?_)
    show wpAny (model prog w) A.in1 (updateSeq S (fun _ => #[v, v]) >>= _) _ _ _
    refine wpAny_bind (wpAny_updateSeq hs' rfl (wpAny_pure ?_))
    dsimp only
    rw [maxl]
    refine ⟨plainId_quiet F.plain_max_loop _, ?_⟩
    obtain ⟨c', hc'⟩ : ∃ c', (h'.update S (Obj.mapSeq fun _ => #[v, v])).get? S = some { cls := Value.type "list", data := Data.seq #[v, v] c' } := ⟨_, Heap.get?_update_self (Obj.mapSeq fun _ => #[v, v]) hs' rfl⟩
    refine max_loopK W bt cmp S hS _ _ 0 _ v c' rfl hn (W.frame _ _ _ st' fun b hb' o e' => ?_) pv ?_ fun v' h'' tk' pv' kp' => hR v' h'' tk' (by rw [if_pos hn]; exact pv') fun b o hw hS' e' => kp' b o hw hS' ?_
    · show (h'.update S _).get? b = some o
      rw [Heap.get?_update_other _ _ (fun z => hS (by rw [z]; exact hb'))]; exact e'
    · exact hc'
    · show (h'.update S _).get? b = some o
      rw [Heap.get?_update_other _ _ (Ne.symm hS')]; exact kp b o hw e'
  · have e : n = 0 := by omega
    subst e
    refine W.done s _ _ st fun h' tk kp => ?_
    show wpAny (model prog w) A.in1 (rule _ >>= _) _ _ _
    refine wpAny_bind (wpAny_rule (wpAny_pure ?_))
    exact hR d h' tk (by rw [if_neg hn]) fun b o hw hS' e' => kp b o hw e'
theorem call_maxD {E : Value → Shared → Prop} {Q : Value → Shared → Prop} {s : Shared} {l : Addr} {items : Array Value} {t : Tok} (hh : A.handled = none) (hl : s.heap.IsList l items) (bt : Nat → Nat → Bool) (cmp : CmpOf prog w A.in1 CmpOp.Gt (fun i v => items[i]? = some v) bt)
    (h : ∀ (v : Value) (h' : Heap) (tk : Nat), (if 0 < items.size then items[argBest bt (items.size - 1)]? = some v else v = .int 0 t) → (∀ (b : Addr) (o : Obj), s.heap.get? b = some o → h'.get? b = some o) → Q v { s with heap := h', toks := tk }) :
    wpAny (model prog w) A (call (.builtin "max") [.ref l] [("default", .int 0 t)]) Q E s := by
  refine wpAny_runValue (codeAny_call_builtin F.plain_max F.entry_max ?_)
  refine wpAny_of_eq (a := ()) (by first | rfl | decide) ?_
  show wpAny _ A.in1 (Builtin.Builtins.bindParams "max" ["key", "default"] 0 { kw := [("default", .int 0 t)] } >>= _) _ _ s
  refine wpAny_bind (wpAny_of_eq (a := [none, some (.int 0 t)]) (by rfl) ?_)
  show wpAny _ A.in1 (pyIter (.ref l) >>= _) _ _ s
  refine wpAny_bind (wpAny_pyIter_list hl ?_)
  refine wpAny_bind ?_
  unfold newList
  refine wpAny_newObj_type ?_ (by size_fits)
  refine wpAny_pure ?_
  dsimp only
  rw [maxl]
  refine ⟨plainId_quiet F.plain_max_loop _, ?_⟩
  obtain ⟨ol, q1, q2⟩ := id hl
  have hlt : l < s.heap.objs.size := Heap.lt_size q1
  have hsz : (s.heap.push { cls := .type "list_iterator", data := .fields #[.ref l, .int 0 0] }).objs.size = s.heap.objs.size + 1 := by rw [Heap.size_push]
  have kp : ∀ (b : Addr) (o : Obj), s.heap.get? b = some o → ((s.heap.push { cls := .type "list_iterator", data := .fields #[.ref l, .int 0 0] }).push { cls := .type "list", data := .seq #[] }).get? b = some o := fun b o e => Heap.get?_push_of_some _ (Heap.get?_push_of_some _ e)
  refine max_firstK (I := s.heap.objs.size) (P := fun i v => items[i]? = some v) (Walks.list (A := A.in1) hh s.heap.objs.size l (Nat.ne_of_lt hlt) items) bt cmp _ ?_ "default" (.int 0 t) ⟨⟨_, Heap.get?_push_of_some _ (Heap.get?_push_size _ rfl), rfl, rfl⟩, ⟨ol, kp l ol q1, q2⟩⟩ (Heap.get?_push_size _ rfl) fun v h' tk hv kp' => h v h' tk hv fun b o e => kp' b o (fun z => ?_) (fun z => ?_) (kp b o e)
  · rw [hsz]
    intro z
    rcases List.mem_cons.mp z with z | z
    · exact absurd z (Nat.ne_of_gt (Nat.lt_succ_self _))
    · have z' := List.mem_singleton.mp z
      rw [← z'] at hlt
      exact absurd hlt (Nat.not_lt_of_le (Nat.le_succ _))
  · have z' := List.mem_singleton.mp z
    rw [z'] at e
    exact absurd (Heap.lt_size e) (Nat.lt_irrefl _)
  · rw [z, hsz] at e
    exact absurd (Heap.lt_size e) (Nat.not_lt_of_le (Nat.le_succ _))
end

abbrev maxI (ns : List Int) : Int := ns.foldl max 0
theorem argBest_val (ns : List Int) (h0 : ∀ n ∈ ns, 0 ≤ n) : ∀ k, k < ns.length → ns.getD (argBest (fun i j => decide (ns.getD i 0 > ns.getD j 0)) k) 0 = maxI (ns.take (k + 1)) ∧ argBest (fun i j => decide (ns.getD i 0 > ns.getD j 0)) k < ns.length
  | 0, h => by
    refine ⟨?_, h⟩
    cases ns with
    | nil => simp at h
    | cons a r =>
      have := h0 a (by simp)
      show a = max 0 a
      omega
  | k + 1, h => by
    obtain ⟨e, hl⟩ := argBest_val ns h0 k (by omega)
    have et : ns.take (k + 1 + 1) = ns.take (k + 1) ++ [ns[k + 1]] := by rw [List.take_add_one, List.getElem?_eq_getElem h]; rfl
    have eg : ns.getD (k + 1) 0 = ns[k + 1] := by rw [List.getD_eq_getElem?_getD, List.getElem?_eq_getElem h]; rfl
    have ea : argBest (fun i j => decide (ns.getD i 0 > ns.getD j 0)) (k + 1) = if decide (ns.getD (k + 1) 0 > ns.getD (argBest (fun i j => decide (ns.getD i 0 > ns.getD j 0)) k) 0) = true then k + 1 else argBest (fun i j => decide (ns.getD i 0 > ns.getD j 0)) k := rfl
    have em : maxI (ns.take (k + 1 + 1)) = max (maxI (ns.take (k + 1))) ns[k + 1] := by
      show List.foldl max 0 (ns.take (k + 1 + 1)) = _
      rw [et, List.foldl_append]; rfl
    rw [ea, em, ← e, ← eg]
    by_cases hc : ns.getD (k + 1) 0 > ns.getD (argBest (fun i j => decide (ns.getD i 0 > ns.getD j 0)) k) 0
    · rw [if_pos (decide_eq_true hc)]
      exact ⟨by omega, h⟩
    · rw [if_neg (by rw [decide_eq_false hc]; decide)]
      exact ⟨by omega, hl⟩
theorem vals_int : ∀ {ns : List Int} {us : List Value} (i : Nat) (v : Value), Vals (ns.map V.int) us → us[i]? = some v → ∃ t, v = .int (ns.getD i 0) t
  | [], _, i, v, r, e => by cases r; simp at e
  | n :: ns, _, 0, v, r, e => by
    cases r with
    | cons h t => simp at e; subst e; exact h
  | n :: ns, _, i + 1, v, r, e => by
    cases r with
    | cons h t => simpa using vals_int i v t (by simpa using e)
section
variable {X : Cx} {ρ : Rho} {e : Expr} {d : D} {pos p kp kq : Pos} {N : List Str} {sc : Scope} {x : Str} {j : Nat}
theorem ev_maxD (t : At X N sc) {ns : List Int} (bl : Blt X sc x (.builtin "max")) (h : EvQ X ρ e true (ns.map D.int)) (h0 : ∀ n ∈ ns, 0 ≤ n) (hpe : Pl e := by intro _ _; rfl) : EvE X ρ (.Call (.Name x p) [e] [⟨some "default", .Constant (.int 0) j kp, kq⟩] pos) (.int (maxI ns)) := fun B F H σ Q k q pins s I => by
  refine wpAny_Call_Name_kw (ld_blt I (gl_of t bl.g) bl.m bl.v ?_ bl.n bl.d)
  have A1 := pa_cons (X := X) (e := e) pe_w pa_nil (hpe _ _) pos pins s σ H (fun vs H1 => ∃ l ws F1, vs = [.ref l] ∧ Ext ⟨F, H⟩ F1 H1 ∧ SqL X.K H1 l ws ∧ RepL X.K F1 ws (ns.map D.int)) I (h B F H σ _ k fun l ws F1 H1 x1 sq rl => ⟨l, ws, F1, rfl, x1, sq, rl⟩)
  rw [hpe [] X.env] at A1 ⊢
  refine callWith_builtin_kwB (by rfl) (by rfl) (evalArgs_kwB (by rfl) (thn A1 fun us s1 ⟨vs, H1, I1, r1, l, ws, F1, ev, x1, sq, rl⟩ => ?_))
  subst ev
  obtain ⟨u, rfl, ru⟩ := vals1 r1
  cases (show u = Value.ref l from ru)
  refine wpAny_evalAll_cons (wpAny_bind (thn (pe_int (X := X) pins s1 σ H1 (fun v H2 => H2 = H1 ∧ v = .int 0) I1 ⟨rfl, rfl⟩) fun u2 s2 ⟨v2, H2, I2, rv2, e2, e3⟩ => ?_))
  subst e2 e3
  obtain ⟨tk2, rfl⟩ := (show ∃ tk, u2 = Value.int 0 tk from rv2)
  refine wpAny_bind (wpAny_standAt (wpAny_pure (wpAny_evalAll_nil ?_)))
  have ew := RepL.of_ints rl
  subst ew
  obtain ⟨its, rv, pl, hz⟩ := I2.list sq
  have hlen : ns.length = its.length := by have := rv.length; rw [List.length_map] at this; exact this
  show wpAny (model X.prog X.w) X.A (call (.builtin "max") [.ref l] [("default", .int 0 tk2)]) _ _ s2
  refine call_maxD (I.ok.hd t.calm) pl.isList (fun i j => decide (ns.getD i 0 > ns.getD j 0)) (CmpOf.ints_gt (fun i => ns.getD i 0) fun i v hv => vals_int i v rv (by simpa using hv)) fun v h' tk hv kp' => ?_
  refine ⟨.int (maxI ns), H2, I2.kept (t' := tk) kp', ?_, q _ F1 H2 x1 (.int _)⟩
  by_cases hn : 0 < its.toArray.size
  · rw [if_pos hn] at hv
    have hn' : 0 < ns.length := by rw [hlen]; simpa using hn
    have hs : its.toArray.size - 1 = ns.length - 1 := by rw [hlen]; simp
    rw [hs] at hv
    obtain ⟨e1, e2⟩ := argBest_val ns h0 (ns.length - 1) (by omega)
    rw [List.getElem?_toArray] at hv
    obtain ⟨tk', rfl⟩ := vals_int _ v rv hv
    rw [e1, show ns.length - 1 + 1 = ns.length by omega, List.take_length]
    exact ⟨tk', rfl⟩
  · rw [if_neg hn] at hv
    subst hv
    have : ns = [] := List.eq_nil_of_length_eq_zero (by rw [hlen]; simpa using hn)
    subst this
    exact ⟨tk2, rfl⟩
/-- a name of the block's own that a block within takes -/
theorem egn_cell {X' : Cx} {N' : List Str} {sc' : Scope} {ow : Str → Bool} (cx : CompX X X' N' sc' ow) (i : Nat) (hi : N'[i]? = some x := by rfl) (hx : LocS sc' x = true := by rfl) (hw : ow x = true := by rfl) : EvGn X' ρ (.Name x pos) d (ρ.set i (.val d)) :=
  .of (pg_name (i := i) cx.at'.nd (cx.at'.ix hi) (cx.at'.loc hx) (.inl (cx.fn' x hw))) fun B F H σ v Q k r q => q _ (k.setVal i r) fun p h => h.setVal i _ d
end
end L2.EV

set_option linter.all false
set_option autoImplicit false
set_option maxRecDepth 100000
/-! reversed over a list. -/
namespace L2.EV
open PySem PySem.Spec PyProof.Rows
def Itw (K : PySem.W.Frag) (a : Addr) (n : Nat) : It :=
  ⟨fun i H => ∃ xs x, SqL K H a xs ∧ xs.length = n ∧ xs.reverse[i]? = some x, fun i H x H' => H' = H ∧ ∀ xs, SqL K H a xs → xs.reverse[i]? = some x, fun i H => ∃ xs, SqL K H a xs ∧ xs.length = n ∧ n ≤ i, False⟩
theorem turn_revL {P : Program} {w : World} {K : PySem.W.Frag} {tg : Expr} (a e : Addr) (n : Nat) : Turn P w K tg (Itw K a n) [e] e (fun i h => h.IsRevIter e a ((n : Int) - 1 - (i : Int)) ∧ i ≤ n) where
  mem := by simp
  obj := fun i h st b hb => by
    obtain ⟨⟨o, ho, hc, hd⟩, _⟩ := st
    rw [List.mem_singleton.mp hb]
    exact ⟨o, ho, fun v z => by rw [hd] at z; cases z⟩
  keep := fun i h h' st k => by
    obtain ⟨⟨o, ho, r⟩, l⟩ := st
    exact ⟨⟨o, k e (by simp) o ho, r⟩, l⟩
  item := by
    intro X hP hw hK hc i pins s σ H E I hf st hg
    subst hP hw hK
    replace hc := hc.resolve_right fun z => z.1
    obtain ⟨xs, x, hq, hlen, hx⟩ := hg
    obtain ⟨its, rv, p, hz⟩ := I.list hq
    obtain ⟨hi, hx'⟩ := rev_ix hx
    obtain ⟨u, hu, ru⟩ := rv.get hx'
    obtain ⟨f0, f1, f2, f3, f4, f5⟩ := hf e (by simp)
    have ej : (n : Int) - 1 - (i : Int) = ((xs.length - 1 - i : Nat) : Int) := by omega
    obtain ⟨st, _⟩ := st
    rw [ej] at st
    refine wpAny_pyNext_rev_item (items := its.toArray) st p.isList (x := u) (by simpa using hu) fun h' st' sb => ?_
    have I1 : Inv X pins σ H { s with heap := h' } := I.turned (t' := s.toks) (fun b o hb q => (sb.2 b hb).trans q) f0 f1 f3 f4 f5
    obtain ⟨o, e1, c, d⟩ := id st'
    have st2 : h'.IsRevIter e a ((n : Int) - 1 - ((i + 1 : Nat) : Int)) := by
      have : ((xs.length - 1 - i : Nat) : Int) - 1 = (n : Int) - 1 - ((i + 1 : Nat) : Int) := by omega
      rw [← this]; exact st'
    exact ⟨u, rfl, go_of (s := { s with heap := h' }) e1 c d (by decide) ⟨x, H, I1, ru, ⟨rfl, fun ys hy => by rw [I.list_inj hy hq]; exact hx⟩, ⟨st2, by omega⟩, fun b hb => (hf b hb).1⟩⟩
  done := by
    intro X hP hw hK hc i pins s σ H E I hf st hg
    subst hP hw hK
    replace hc := hc.resolve_right fun z => z.1
    obtain ⟨xs, hq, hlen, hx⟩ := hg
    obtain ⟨f0, f1, f2, f3, f4, f5⟩ := hf e (by simp)
    obtain ⟨st, hi⟩ := st
    rw [show (n : Int) - 1 - (i : Int) = -1 by omega] at st
    exact wpAny_pyNext_rev_end (I.ok.hd hc) st fun h' eb => ⟨rfl, I.turned (t' := s.toks) (fun b o hb q => eb b o hb q) f0 f1 f3 f4 f5⟩
  self := fun _ _ s Q E st h => wpAny_pyIter_revIter st.1 h
section
variable {X : Cx} {ρ : Rho} {a tg : Expr} {pos : Pos} {N : List Str} {sc : Scope} {ds : List D}
def iRevL (K : PySem.W.Frag) (ta : TA) : TI := fun σ H R => ta σ H fun vs H1 => ∃ a xs, vs = [.ref a] ∧ SqL K H1 a xs ∧ R (Itw K a xs.length) H1
theorem pi_revL {p : Pos} {ta : TA} (hg : Gl X "reversed") (hm : X.mg "reversed" = none) (hl : PA X [a] ta) (hs : Pl a) : PI X tg (.Call (.Name "reversed" p) [a] [] pos) (iRevL X.K ta) := by
  intro pins s σ H R I h
  refine Call_ (ld_blt I hg hm (show bootBuiltins "reversed" = some (.type "reversed") by decide +kernel) (PyProof.Rows.callWith_type1 (thn (hl pos pins s σ H _ I h) fun us s1 ⟨vs, H1, I1, r1, q1⟩ => ?_) (hs _ _) rfl))
  obtain ⟨l, xs, rfl, hq, q⟩ := q1
  obtain ⟨u, rfl, ru⟩ := vals1 r1
  cases (show u = Value.ref l from ru)
  obtain ⟨its, rv, pt, hz⟩ := I1.list hq
  have hlen := rv.length
  refine call_reversed_list (items := its.toArray) pt.isList ?_
  have kp : ∀ b o, s1.heap.get? b = some o → (s1.heap.push (revObj l ((its.toArray.size : Int) - 1))).get? b = some o := fun b o q => Heap.get?_push_of_some _ q
  have I2 : Inv X pins σ H1 { s1 with heap := s1.heap.push (revObj l ((its.toArray.size : Int) - 1)) } := I1.kept (t' := s1.toks) kp
  have st : (s1.heap.push (revObj l ((its.toArray.size : Int) - 1))).IsRevIter s1.heap.objs.size l ((its.toArray.size : Int) - 1) := ⟨_, Heap.get?_push_size _ rfl, rfl, rfl⟩
  refine wpAny_pyIter_revIter st ?_
  refine ⟨s1.heap.objs.size, [s1.heap.objs.size], _, _, H1, rfl, I2, turn_revL l _ xs.length, ⟨?_, Nat.zero_le _⟩, fun b hb => ?_, q⟩
  · have : (its.toArray.size : Int) - 1 = (xs.length : Int) - 1 - ((0 : Nat) : Int) := by rw [List.size_toArray]; omega
    rw [← this]; exact st
  · rw [List.mem_singleton.mp hb]; exact I1.fpOk (Nat.le_refl _) (I1.hok.fresh (Nat.le_refl _))
theorem itw_ok {K : PySem.W.Frag} {F : Hp} {l : Addr} {vs : List V} (hf : F l = some (.lst vs)) (r : RepL K F vs ds) : ItOk K (Itw K l vs.length) F ds.reverse := fun i F2 H2 s1 s2 =>
  ⟨fun d hd => by
    obtain ⟨v, hv, rv⟩ := r.reverse.get hd
    have sq : SqL K H2 l vs := SqL.of (s2 _ _ (s1 _ _ hf))
    refine ⟨⟨vs, v, sq, rfl, hv⟩, fun x H' y => ?_⟩
    obtain ⟨rfl, y⟩ := y
    have e := y vs sq
    rw [hv] at e; cases e
    exact ⟨F2, .refl s2, rv.mono s1⟩, fun h => ⟨vs, SqL.of (s2 _ _ (s1 _ _ hf)), rfl, by rw [r.length]; rw [List.length_reverse] at h; exact h⟩⟩
theorem ei_revL (t : At X N sc) {p : Pos} (bl : Blt X sc "reversed" (.type "reversed")) (h : EvE X ρ a (.lst ds)) (hs : Pl a := by intro _ _; rfl) : EvI X ρ tg (.Call (.Name "reversed" p) [a] [] pos) ds.reverse :=
  .of (pi_revL (gl_of t bl.g) bl.m (pa_cons pe_w pa_nil (hs _ _)) hs) fun B F H σ R k q => h B F H σ _ k fun v F' H' x r => by
    cases r with
    | lst hf rl => exact ⟨_, _, rfl, SqL.of (x.sub _ _ hf), q _ F' H' x (itw_ok hf rl)⟩
end
end L2.EV

set_option linter.all false
set_option autoImplicit false
set_option maxRecDepth 100000
set_option maxHeartbeats 4000000
namespace My
open PySem L2 L2.EV
def top (i : Nat) : Stmt := PySem.Challenge.pw_planestacks_k28_whole_values_go_along.main.body.getD i (.Pass ⟨0, 0, 0, 0⟩)
abbrev s_common_divisor : Stmt := top 4
abbrev N_common_divisor : List Str := ["a", "b"]
theorem sc_common_divisor : FnScope N_common_divisor ["a", "b"] (defScope s_common_divisor) := ⟨rfl, rfl, rfl, by decide +kernel, rfl, by decide +kernel, by decide +kernel⟩
abbrev s_fraction : Stmt := top 6
abbrev N_fraction : List Str := ["top", "bottom", "shared"]
theorem sc_fraction : FnScope N_fraction ["top", "bottom"] (defScope s_fraction) := ⟨rfl, rfl, rfl, by decide +kernel, rfl, by decide +kernel, by decide +kernel⟩
abbrev s_plus : Stmt := top 7
abbrev N_plus : List Str := ["a", "b"]
theorem sc_plus : FnScope N_plus ["a", "b"] (defScope s_plus) := ⟨rfl, rfl, rfl, by decide +kernel, rfl, by decide +kernel, by decide +kernel⟩
abbrev s_minus : Stmt := top 8
abbrev N_minus : List Str := ["a", "b"]
theorem sc_minus : FnScope N_minus ["a", "b"] (defScope s_minus) := ⟨rfl, rfl, rfl, by decide +kernel, rfl, by decide +kernel, by decide +kernel⟩
abbrev s_times : Stmt := top 9
abbrev N_times : List Str := ["a", "b"]
theorem sc_times : FnScope N_times ["a", "b"] (defScope s_times) := ⟨rfl, rfl, rfl, by decide +kernel, rfl, by decide +kernel, by decide +kernel⟩
abbrev s_without_end : Stmt := top 11
abbrev N_without_end : List Str := ["parts", "nought", "many"]
theorem sc_without_end : FnScope N_without_end ["parts", "nought"] (defScope s_without_end) := ⟨rfl, rfl, rfl, by decide +kernel, rfl, by decide +kernel, by decide +kernel⟩
abbrev s_part_at : Stmt := top 12
abbrev N_part_at : List Str := ["parts", "power", "nought"]
theorem sc_part_at : FnScope N_part_at ["parts", "power", "nought"] (defScope s_part_at) := ⟨rfl, rfl, rfl, by decide +kernel, rfl, by decide +kernel, by decide +kernel⟩
abbrev s_row_of : Stmt := top 13
abbrev N_row_of : List Str := ["numbers"]
theorem sc_row_of : FnScope N_row_of ["numbers"] (defScope s_row_of) := ⟨rfl, rfl, rfl, by decide +kernel, rfl, by decide +kernel, by decide +kernel⟩
abbrev s_row_plus : Stmt := top 14
abbrev N_row_plus : List Str := ["f", "g", "many"]
theorem sc_row_plus : FnScope N_row_plus ["f", "g"] (defScope s_row_plus) := ⟨rfl, rfl, rfl, by decide +kernel, rfl, by decide +kernel, by decide +kernel⟩
abbrev s_other_sign : Stmt := top 15
abbrev N_other_sign : List Str := ["f"]
theorem sc_other_sign : FnScope N_other_sign ["f"] (defScope s_other_sign) := ⟨rfl, rfl, rfl, by decide +kernel, rfl, by decide +kernel, by decide +kernel⟩
abbrev s_row_times : Stmt := top 16
abbrev N_row_times : List Str := ["f", "g", "numbers", "j", "one", "k", "other"]
theorem sc_row_times : FnScope N_row_times ["f", "g"] (defScope s_row_times) := ⟨rfl, rfl, rfl, by decide +kernel, rfl, by decide +kernel, by decide +kernel⟩
abbrev s_slope : Stmt := top 17
abbrev N_slope : List Str := ["f"]
theorem sc_slope : FnScope N_slope ["f"] (defScope s_slope) := ⟨rfl, rfl, rfl, by decide +kernel, rfl, by decide +kernel, by decide +kernel⟩
abbrev s_put_low : Stmt := top 18
abbrev N_put_low : List Str := ["f", "shared", "number"]
theorem sc_put_low : FnScope N_put_low ["f"] (defScope s_put_low) := ⟨rfl, rfl, rfl, by decide +kernel, rfl, by decide +kernel, by decide +kernel⟩
abbrev s_scaled_value : Stmt := top 19
abbrev N_scaled_value : List Str := ["numbers", "at", "top", "bottom", "value", "scale", "number"]
theorem sc_scaled_value : FnScope N_scaled_value ["numbers", "at"] (defScope s_scaled_value) := ⟨rfl, rfl, rfl, by decide +kernel, rfl, by decide +kernel, by decide +kernel⟩
abbrev s_power_of : Stmt := top 20
abbrev N_power_of : List Str := ["number", "many", "product", "k"]
theorem sc_power_of : FnScope N_power_of ["number", "many"] (defScope s_power_of) := ⟨rfl, rfl, rfl, by decide +kernel, rfl, by decide +kernel, by decide +kernel⟩
abbrev s_row_value : Stmt := top 21
abbrev N_row_value : List Str := ["f", "at"]
theorem sc_row_value : FnScope N_row_value ["f", "at"] (defScope s_row_value) := ⟨rfl, rfl, rfl, by decide +kernel, rfl, by decide +kernel, by decide +kernel⟩
abbrev s_board_of : Stmt := top 23
abbrev N_board_of : List Str := ["rows"]
theorem sc_board_of : FnScope N_board_of ["rows"] (defScope s_board_of) := ⟨rfl, rfl, rfl, by decide +kernel, rfl, by decide +kernel, by decide +kernel⟩
abbrev s_board_plus : Stmt := top 24
abbrev N_board_plus : List Str := ["f", "g", "many"]
theorem sc_board_plus : FnScope N_board_plus ["f", "g"] (defScope s_board_plus) := ⟨rfl, rfl, rfl, by decide +kernel, rfl, by decide +kernel, by decide +kernel⟩
abbrev s_board_minus : Stmt := top 25
abbrev N_board_minus : List Str := ["f", "g"]
theorem sc_board_minus : FnScope N_board_minus ["f", "g"] (defScope s_board_minus) := ⟨rfl, rfl, rfl, by decide +kernel, rfl, by decide +kernel, by decide +kernel⟩
abbrev s_board_times : Stmt := top 26
abbrev N_board_times : List Str := ["f", "g", "rows", "j", "one", "k", "other"]
theorem sc_board_times : FnScope N_board_times ["f", "g"] (defScope s_board_times) := ⟨rfl, rfl, rfl, by decide +kernel, rfl, by decide +kernel, by decide +kernel⟩
abbrev s_slope_up : Stmt := top 27
abbrev N_slope_up : List Str := ["f"]
theorem sc_slope_up : FnScope N_slope_up ["f"] (defScope s_slope_up) := ⟨rfl, rfl, rfl, by decide +kernel, rfl, by decide +kernel, by decide +kernel⟩
abbrev s_length_of_rows : Stmt := top 28
abbrev N_length_of_rows : List Str := ["f"]
theorem sc_length_of_rows : FnScope N_length_of_rows ["f"] (defScope s_length_of_rows) := ⟨rfl, rfl, rfl, by decide +kernel, rfl, by decide +kernel, by decide +kernel⟩
abbrev s_turned : Stmt := top 29
abbrev N_turned : List Str := ["f"]
theorem sc_turned : FnScope N_turned ["f"] (defScope s_turned) := ⟨rfl, rfl, rfl, by decide +kernel, rfl, by decide +kernel, by decide +kernel⟩
abbrev s_board_value : Stmt := top 30
abbrev N_board_value : List Str := ["f", "x", "y", "value", "row"]
theorem sc_board_value : FnScope N_board_value ["f", "x", "y"] (defScope s_board_value) := ⟨rfl, rfl, rfl, by decide +kernel, rfl, by decide +kernel, by decide +kernel⟩
abbrev s_row_above : Stmt := top 31
abbrev N_row_above : List Str := ["f", "x", "many", "padded"]
theorem sc_row_above : FnScope N_row_above ["f", "x"] (defScope s_row_above) := ⟨rfl, rfl, rfl, by decide +kernel, rfl, by decide +kernel, by decide +kernel⟩
abbrev s__law_cell : Stmt := top 33
abbrev N__law_cell : List Str := ["_law_script", "_law_k", "_law_state", "_law_cell_here"]
theorem sc__law_cell : FnScope N__law_cell ["_law_script", "_law_k"] (defScope s__law_cell) := ⟨rfl, rfl, rfl, by decide +kernel, rfl, by decide +kernel, by decide +kernel⟩
abbrev s__law_numbers : Stmt := top 34
abbrev N__law_numbers : List Str := ["_law_cell_here", "_law_many", "_law_found", "_law_state", "_law_digits", "_law_k"]
theorem sc__law_numbers : FnScope N__law_numbers ["_law_cell_here", "_law_many"] (defScope s__law_numbers) := ⟨rfl, rfl, rfl, by decide +kernel, rfl, by decide +kernel, by decide +kernel⟩
abbrev s__law_trim : Stmt := top 35
abbrev N__law_trim : List Str := ["_law_parts", "_law_found"]
theorem sc__law_trim : FnScope N__law_trim ["_law_parts"] (defScope s__law_trim) := ⟨rfl, rfl, rfl, by decide +kernel, rfl, by decide +kernel, by decide +kernel⟩
abbrev s__law_board_of : Stmt := top 36
abbrev N__law_board_of : List Str := ["_law_parts", "_law_rows", "_law_k"]
theorem sc__law_board_of : FnScope N__law_board_of ["_law_parts"] (defScope s__law_board_of) := ⟨rfl, rfl, rfl, by decide +kernel, rfl, by decide +kernel, by decide +kernel⟩
abbrev s__law_product : Stmt := top 37
abbrev N__law_product : List Str := ["_law_one", "_law_other", "_law_found", "_law_i", "_law_k", "_law_j", "_law_m"]
theorem sc__law_product : FnScope N__law_product ["_law_one", "_law_other"] (defScope s__law_product) := ⟨rfl, rfl, rfl, by decide +kernel, rfl, by decide +kernel, by decide +kernel⟩
abbrev s__law_line : Stmt := top 38
abbrev N__law_line : List Str := ["_law_xs"]
theorem sc__law_line : FnScope N__law_line ["_law_xs"] (defScope s__law_line) := ⟨rfl, rfl, rfl, by decide +kernel, rfl, by decide +kernel, by decide +kernel⟩
abbrev s__law_conic : Stmt := top 39
abbrev N__law_conic : List Str := ["_law_xs", "_law_size", "_law_found", "_law_spots", "_law_k"]
theorem sc__law_conic : FnScope N__law_conic ["_law_xs"] (defScope s__law_conic) := ⟨rfl, rfl, rfl, by decide +kernel, rfl, by decide +kernel, by decide +kernel⟩
abbrev s__law_board : Stmt := top 40
abbrev N__law_board : List Str := ["_law_cell_here", "_law_xs", "_law_way"]
theorem sc__law_board : FnScope N__law_board ["_law_cell_here"] (defScope s__law_board) := ⟨rfl, rfl, rfl, by decide +kernel, rfl, by decide +kernel, by decide +kernel⟩
abbrev s__law_low : Stmt := top 41
abbrev N__law_low : List Str := ["_law_top", "_law_bottom", "_law_high", "_law_low_here"]
theorem sc__law_low : FnScope N__law_low ["_law_top", "_law_bottom"] (defScope s__law_low) := ⟨rfl, rfl, rfl, by decide +kernel, rfl, by decide +kernel, by decide +kernel⟩
abbrev s__law_fraction : Stmt := top 42
abbrev N__law_fraction : List Str := ["_law_cell_here", "_law_most", "_law_xs", "_law_size"]
abbrev s__law_any : Stmt := top 43
abbrev N__law_any : List Str := ["_law_xs", "_law_size", "_law_found", "_law_k", "_law_spot"]
theorem sc__law_any : FnScope N__law_any ["_law_xs"] (defScope s__law_any) := ⟨rfl, rfl, rfl, by decide +kernel, rfl, by decide +kernel, by decide +kernel⟩
abbrev s__law_drawn : Stmt := top 44
abbrev N__law_drawn : List Str := ["_law_cell_here", "_law_xs"]
theorem sc__law_drawn : FnScope N__law_drawn ["_law_cell_here"] (defScope s__law_drawn) := ⟨rfl, rfl, rfl, by decide +kernel, rfl, by decide +kernel, by decide +kernel⟩
abbrev s__law_pair : Stmt := top 45
abbrev N__law_pair : List Str := ["_law_xs", "_law_found", "_law_k", "_law_one"]
theorem sc__law_pair : FnScope N__law_pair ["_law_xs"] (defScope s__law_pair) := ⟨rfl, rfl, rfl, by decide +kernel, rfl, by decide +kernel, by decide +kernel⟩
abbrev s__law_right : Stmt := top 46
abbrev N__law_right : List Str := ["_law_f", "_law_g", "_law_x", "_law_y", "_law_one", "_law_other", "_law_here", "_law_there"]
theorem sc__law_right : FnScope N__law_right ["_law_f", "_law_g", "_law_x", "_law_y"] (defScope s__law_right) := ⟨rfl, rfl, rfl, by decide +kernel, rfl, by decide +kernel, by decide +kernel⟩
abbrev s_law : Stmt := top 47
abbrev N_law : List Str := ["_law_script", "_law_f", "_law_g", "_law_xs", "_law_k", "_law_x", "_law_y"]
theorem sc_law : FnScope N_law ["_law_script"] (defScope s_law) := ⟨rfl, rfl, rfl, by decide +kernel, rfl, by decide +kernel, by decide +kernel⟩
def C_other_sign (ds : List D) (d : D) : Prop := ∃ f : List Int, ds = [rowD f] ∧ f.length < 1000 ∧ d = rowD (f.map fun x => -x)
theorem len_other_sign : ∀ ds d, C_other_sign ds d → ds.length = 1 := by rintro _ _ ⟨a, rfl, _⟩; rfl
theorem small {n : Nat} (h : n < 1000) : n < sizeLine := Nat.lt_trans h (by decide)
section
variable {P : Program} {w : World} {K : PySem.W.Frag} {mg : Str → Option Value} {base : Heap} {k : Nat} {X : Cx}
theorem b_other_sign (h : DefX P w K mg base k N_other_sign (defScope s_other_sign) X) (m_tuple : mg "tuple" = none) :
    ∀ ds d, C_other_sign ds d → EvSs X (ds.map Sl.val ++ List.replicate (N_other_sign.length - ds.length) Sl.un) (defBody s_other_sign) (.rt d) := by
  rintro ds d ⟨f, rfl, hf, rfl⟩
  have t := h.at'
  haveI := h.fnT
  have bl : Blt X (defScope s_other_sign) "tuple" (.type "tuple") := blt_of (by rw [h.mg']; exact m_tuple)
  show EvSs X [.val (rowD f)] _ _
  refine es_one (s_ret (ev_tuple t bl (EvQ.eq (EvN.toQ (en_comp (rs := (f.map D.int).map fun d => match d with | .int i => .int (-i) | d => d) t ["f", "number"] (csc (by decide +kernel)) (ei_tup (ev_name t 0 rfl)) (by rw [List.length_map]; exact small hf) fun X' cx => ?_)) ?_)))
  · have t' := cx.at'
    refine CRun.all (fun d => [.val (rowD f), .val d]) _ _ _ (fun d hd => egn_name t' 1) (fun d hd e he => egn_name t' 1) fun d hd => ?_
    obtain ⟨i, _, rfl⟩ := List.mem_map.mp hd
    exact ev_neg (ev_name t' 1 rfl)
  · rw [List.map_map, List.map_map]; rfl
end
theorem take_snoc {α : Type} {xs : List α} {i : Nat} {x : α} (h : xs[i]? = some x) : xs.take (i + 1) = xs.take i ++ [x] := by
  rw [List.take_add_one, h]; rfl
def cellGo (s : Int) (xs : List Int) : Int := xs.foldl (fun s x => (s * 69621 + x) % 2147483647) s
def cellF (ns : List Int) (j : Int) : Int := if j < ns.length then ns.getD j.toNat 0 else cellGo (48271 * (j * j + 7 * j + 11) % 2147483647) (cutI ns none (some 3))
def C__law_cell (ds : List D) (d : D) : Prop := ∃ (ns : List Int) (j : Int), ds = [.scr ns, .int j] ∧ 0 ≤ j ∧ j < 1000 ∧ d = .int (cellF ns j)
theorem len__law_cell : ∀ ds d, C__law_cell ds d → ds.length = 2 := by rintro _ _ ⟨a, b, rfl, _⟩; rfl
def stF (s0 : Int) : Nat → Int
  | 0 => s0
  | i + 1 => (stF s0 i * (stF s0 i % 65521 + 40487) + 7 * (i : Int) + 5) % 1999999973
def dgF (d0 : Int) : Nat → Int
  | 0 => d0
  | i + 1 => dgF d0 i / 1000000
def itF (s0 d0 : Int) (i : Nat) : Int := if dgF d0 i > 0 then dgF d0 i % 1000000 else stF s0 (i + 1)
def seedF (c : Int) : Int := (c % 1999999973 + 31) * 765432101 % 1999999973
def digF (c : Int) : Int := if c < 0 ∨ c ≥ 10 ^ 18 then c.natAbs else 0
def numsF (c : Int) (n : Nat) : List Int := (List.range n).map (itF (seedF c) (digF c))
theorem numsF_len (c : Int) (n : Nat) : (numsF c n).length = n := by simp [numsF]
def C__law_numbers (ds : List D) (d : D) : Prop := ∃ (c : Int) (n : Nat), ds = [.int c, .int n] ∧ n < 1000 ∧ d = intsD (numsF c n)
theorem len__law_numbers : ∀ ds d, C__law_numbers ds d → ds.length = 2 := by rintro _ _ ⟨a, b, rfl, _⟩; rfl
theorem range_get {n i : Nat} {d : D} (h : (rangeD 0 n)[i]? = some d) : i < n ∧ d = .int (i : Int) := by
  unfold rangeD at h
  rw [List.getElem?_map] at h
  by_cases hi : i < n
  · rw [List.getElem?_range hi] at h
    cases h
    exact ⟨hi, by show D.int (0 + (i : Int)) = _; rw [Int.zero_add]⟩
  · rw [List.getElem?_eq_none (by simpa using hi)] at h; cases h
section
variable {P : Program} {w : World} {K : PySem.W.Frag} {mg : Str → Option Value} {base : Heap} {k : Nat} {X : Cx}
theorem b__law_cell (h : DefX P w K mg base k N__law_cell (defScope s__law_cell) X) (m_len : mg "len" = none) :
    ∀ ds d, C__law_cell ds d → EvSs X (ds.map Sl.val ++ List.replicate (N__law_cell.length - ds.length) Sl.un) (defBody s__law_cell) (.rt d) := by
  rintro ds d ⟨ns, j, rfl, h0, h1, rfl⟩
  have t := h.at'
  haveI := h.fnT
  have bl : Blt X (defScope s__law_cell) "len" (.builtin "len") := blt_of (by rw [h.mg']; exact m_len)
  show EvSs X [.val (.scr ns), .val (.int j), .un, .un] _ _
  by_cases hj : j < ns.length
  · refine es_ret (s_ifT (EvT.eq (et_lt (ev_name t 1 rfl) (ev_len t bl (EvE.qs (ev_name t 0 rfl)))) ?_) (es_one (s_ret (ev_ix (EvE.qs (ev_name t 0 rfl)) (ev_name t 1 rfl) ?_))))
    · rw [List.length_map]; exact decide_eq_true hj
    · have hn : j.toNat < ns.length := by omega
      rw [at_ints h0 rfl hn]
      unfold cellF
      rw [if_pos hj, List.getD_eq_getElem?_getD, List.getElem?_eq_getElem hn]; rfl
  · refine es_cons (s_ifF (EvT.eq (et_lt (ev_name t 1 rfl) (ev_len t bl (EvE.qs (ev_name t 0 rfl)))) ?_) es_nil) ?_
    · rw [List.length_map]; exact decide_eq_false hj
    refine es_cons (s_set t 2 (ev_modP (ev_mul ev_int (ev_add (ev_add (ev_mul (ev_name t 1 rfl) (ev_name t 1 rfl) (mul_left (by omega) (by omega))) (ev_mul ev_int (ev_name t 1 rfl) (mul_left (by decide) (by decide)))) ev_int) (mul_left (by decide) (by decide))) ev_int (by decide))) ?_
    refine es_cons (ρ' := [.val (.scr ns), .val (.int j), .val (.int (cellF ns j)), .un]) (s_for t (ei_lst (EvE.eq (EvN.toE (ev_cutL (EvE.qs (ev_name t 0 rfl)) ev_noPart (ev_part ev_int))) (by rw [cut_ints]))) ?_) (es_one (s_ret (ev_name t 2 rfl)))
    refine FRun.uptoE (fun i => [.val (.scr ns), .val (.int j), .val (.int (cellGo (48271 * (j * j + 7 * j + 11) % 2147483647) ((cutI ns none (some 3)).take i))), .un]) (fun i d hi => ?_) rfl ?_
    · rw [List.getElem?_map] at hi
      cases e : (cutI ns none (some 3))[i]? with
      | none => rw [e] at hi; cases hi
      | some x =>
        rw [e] at hi; cases hi
        refine ⟨_, eg_name t 3, EvSs.weak (es_one (s_set t 2 (ev_modP (ev_add (ev_mul (ev_name t 2 rfl) ev_int (mul_right (by decide) (by decide))) (ev_name t 3 rfl)) ev_int (by decide)))) ?_⟩
        have e2 : cellGo (48271 * (j * j + 7 * j + 11) % 2147483647) ((cutI ns none (some 3)).take (i + 1)) = (cellGo (48271 * (j * j + 7 * j + 11) % 2147483647) ((cutI ns none (some 3)).take i) * 69621 + x) % 2147483647 := by
          rw [take_snoc e]; unfold cellGo; rw [List.foldl_append]; rfl
        rw [e2]
        exact .keep (.keep (.keep (.forget .nil)))
    · rw [List.length_map, List.take_length]
      unfold cellF; rw [if_neg hj]
end
section
variable {P : Program} {w : World} {K : PySem.W.Frag} {mg : Str → Option Value} {base : Heap} {k : Nat} {X : Cx}
theorem b__law_numbers (h : DefX P w K mg base k N__law_numbers (defScope s__law_numbers) X) (m_range : mg "range" = none) (m_abs : mg "abs" = none) (m_int : mg "int" = none) :
    ∀ ds d, C__law_numbers ds d → EvSs X (ds.map Sl.val ++ List.replicate (N__law_numbers.length - ds.length) Sl.un) (defBody s__law_numbers) (.rt d) := by
  rintro ds d ⟨c, n, rfl, hn, rfl⟩
  have t := h.at'
  haveI := h.fnT
  have b1 : Blt X (defScope s__law_numbers) "range" (.type "range") := blt_of (by rw [h.mg']; exact m_range)
  have b2 : Blt X (defScope s__law_numbers) "abs" (.builtin "abs") := blt_of (by rw [h.mg']; exact m_abs)
  have b3 : Blt X (defScope s__law_numbers) "int" (.type "int") := blt_of (by rw [h.mg']; exact m_int)
  show EvSs X [.val (.int c), .val (.int n), .un, .un, .un, .un] _ _
  refine es_cons (s_setN t 2 (en_lst ea_nil)) ?_
  refine es_cons (s_set t 3 (ev_modP (ev_mul (ev_add (ev_modP (ev_name t 0 rfl) ev_int (by decide)) ev_int) ev_int (mul_right (by decide) (by decide))) ev_int (by decide))) ?_
  refine es_cons (s_set t 4 ev_int) ?_
  refine es_cons (ρ' := [.val (.int c), .val (.int n), .own [], .val (.int (seedF c)), .val (.int (digF c)), .un]) ?_ ?_
  · by_cases h1 : c < 0
    · refine s_ifT (EvW.toT (ew_orT (EvT.eq (et_lt (ev_name t 0 rfl) ev_int) (decide_eq_true h1)))) (EvSs.eq (es_one (s_set t 4 (ev_abs t b2 (ev_name t 0 rfl)))) ?_)
      have e : digF c = (c.natAbs : Int) := by unfold digF; rw [if_pos (.inl h1)]
      rw [e]; rfl
    · by_cases h2 : c ≥ 10 ^ 18
      · refine s_ifT (EvW.toT (ew_orF (EvT.eq (et_lt (ev_name t 0 rfl) ev_int) (decide_eq_false h1)) (ew_or1 (EvT.eq (et_ge (ev_name t 0 rfl) (ev_pow ev_int ev_int ⟨by decide, by decide, by decide⟩)) (decide_eq_true h2))))) (EvSs.eq (es_one (s_set t 4 (ev_abs t b2 (ev_name t 0 rfl)))) ?_)
        have e : digF c = (c.natAbs : Int) := by unfold digF; rw [if_pos (.inr h2)]
        rw [e]; rfl
      · refine s_ifF (EvW.toT (ew_orF (EvT.eq (et_lt (ev_name t 0 rfl) ev_int) (decide_eq_false h1)) (ew_or1 (EvT.eq (et_ge (ev_name t 0 rfl) (ev_pow ev_int ev_int ⟨by decide, by decide, by decide⟩)) (decide_eq_false h2))))) (EvSs.eq es_nil ?_)
        have e : digF c = 0 := by unfold digF; rw [if_neg (by rintro (z | z); exact h1 z; exact h2 z)]
        rw [e]; rfl
  refine es_cons (s_for t (ei_range1 t b1 (ev_name t 1 rfl) (by omega) (by omega)) (FRun.uptoE (ρ' := [.val (.int c), .val (.int n), .own ((numsF c n).map D.int), .val (.int (stF (seedF c) n)), .val (.int (dgF (digF c) n)), .un])
    (fun i => [.val (.int c), .val (.int n), .own ((numsF c i).map D.int), .val (.int (stF (seedF c) i)), .val (.int (dgF (digF c) i)), .un]) (fun i d hi => ?_) rfl ?_)) (es_freeze 2 rfl (es_one (s_ret (ev_name t 2 rfl))))
  · obtain ⟨hin, rfl⟩ := range_get hi
    have hi' : i < n := by simpa using hin
    refine ⟨_, eg_name t 5, EvSs.weak (es_cons (s_set t 3 (ev_modP (ev_add (ev_add (ev_mul (ev_name t 3 rfl) (ev_add (ev_modP (ev_name t 3 rfl) ev_int (by decide)) ev_int) (mul_right (by omega) (by omega))) (ev_mul ev_int (ev_name t 5 rfl) (mul_left (by decide) (by decide)))) ev_int) ev_int (by decide)))
      (es_cons (s_append t 2 rfl (d := .int (itF (seedF c) (digF c) i)) (ev_ix (EvN.toQ (en_lst (ea_cons (ev_name t 3 rfl) (ea_cons (ev_modP (ev_name t 4 rfl) ev_int (by decide)) ea_nil)))) (ev_intB t b3 (ev_gt (ev_name t 4 rfl) ev_int)) ?_) ?_)
      (es_one (s_set t 4 (ev_divP t (ev_name t 4 rfl) ev_int (by decide)))))) ?_⟩
    · by_cases hd : 0 < dgF (digF c) i
      · have e : itF (seedF c) (digF c) i = dgF (digF c) i % 1000000 := by unfold itF; rw [if_pos hd]
        rw [e, decide_eq_true hd]; rfl
      · have e : itF (seedF c) (digF c) i = stF (seedF c) (i + 1) := by unfold itF; rw [if_neg hd]
        rw [e, decide_eq_false hd]; rfl
    · rw [List.length_map, numsF_len]; exact small (by omega)
    · have e : numsF c (i + 1) = numsF c i ++ [itF (seedF c) (digF c) i] := by
        unfold numsF; rw [List.range_succ, List.map_append]; rfl
      rw [e, List.map_append]
      exact .keep (.keep (.keep (.keep (.keep (.forget .nil)))))
  · have e : (rangeD 0 (n : Int).toNat).length = n := by simp [rangeD]
    rw [e]
end
def trimI (xs : List Int) : List Int := (xs.reverse.dropWhile (· == 0)).reverse
theorem trim_zero (xs : List Int) : trimI (xs ++ [0]) = trimI xs := by simp [trimI]
theorem trim_last {a : Int} (xs : List Int) (h : a ≠ 0) : trimI (xs ++ [a]) = xs ++ [a] := by simp [trimI, h]
theorem trim_len (xs : List Int) : (trimI xs).length ≤ xs.length := by
  unfold trimI
  rw [List.length_reverse]
  have := (List.dropWhile_sublist (l := xs.reverse) (p := fun x => x == 0)).length_le
  rw [List.length_reverse] at this
  exact this
theorem trim_ok (xs : List Int) : trimI xs = [] ∨ ∃ ys a, trimI xs = ys ++ [a] ∧ a ≠ 0 := by
  induction h : xs.length generalizing xs with
  | zero => left; rw [List.eq_nil_of_length_eq_zero h]; rfl
  | succ n ih =>
    rcases List.eq_nil_or_concat xs with e | ⟨ys, y, e⟩
    · subst e; left; rfl
    · rw [List.concat_eq_append] at e
      subst e
      by_cases hy : y = 0
      · subst hy; rw [trim_zero]; exact ih ys (by simpa using h)
      · right; exact ⟨ys, y, trim_last ys hy, hy⟩
theorem trim_loop {X : Cx} {c : Expr} {body : List Stmt} (R : List Int → Rho) (h1 : EvT X (R []) c false) (h2 : ∀ ys a, (ys ++ [a]).length < 1000 → EvT X (R (ys ++ [a])) c (decide (a = 0))) (h3 : ∀ ys a, EvSs X (R (ys ++ [a])) body (.nx (R ys))) :
    ∀ (n : Nat) (ys : List Int), ys.length = n → ys.length < 1000 → ∃ m, WRun X c body m (R ys) (.nx (R (trimI ys))) := by
  intro n
  induction n with
  | zero => intro ys h _; rw [List.eq_nil_of_length_eq_zero h]; exact ⟨0, .stop h1⟩
  | succ n ih =>
    intro ys h hl
    rcases List.eq_nil_or_concat ys with e | ⟨zs, a, e⟩
    · subst e; exact ⟨0, .stop h1⟩
    · rw [List.concat_eq_append] at e
      subst e
      by_cases ha : a = 0
      · subst ha
        rw [trim_zero]
        have hz : zs.length = n := by simpa using h
        obtain ⟨m, q⟩ := ih zs hz (by omega)
        exact ⟨m + 1, .step (EvT.eq (h2 zs 0 hl) rfl) (h3 zs 0) q⟩
      · rw [trim_last zs ha]
        exact ⟨0, .stop (EvT.eq (h2 zs a hl) (decide_eq_false ha))⟩
def C__law_trim (ds : List D) (d : D) : Prop := ∃ xs : List Int, ds = [intsD xs] ∧ xs.length < 1000 ∧ d = rowD (trimI xs)
theorem len__law_trim : ∀ ds d, C__law_trim ds d → ds.length = 1 := by rintro _ _ ⟨a, rfl, _⟩; rfl
def inn (f g : List Int) (i : Nat) (acc : List Int) : Nat → List Int
  | 0 => acc
  | j + 1 => (inn f g i acc j).set (i + j) ((inn f g i acc j).getD (i + j) 0 + f.getD i 0 * g.getD j 0)
def outp (f g : List Int) : Nat → List Int
  | 0 => List.replicate (f.length + g.length) 0
  | i + 1 => inn f g i (outp f g i) g.length
theorem inn_len (f g : List Int) (i : Nat) (acc : List Int) : ∀ j, (inn f g i acc j).length = acc.length
  | 0 => rfl
  | j + 1 => by rw [inn, List.length_set, inn_len]
theorem outp_len (f g : List Int) : ∀ i, (outp f g i).length = f.length + g.length
  | 0 => by rw [outp, List.length_replicate]
  | i + 1 => by rw [outp, inn_len, outp_len]
def timesL (f g : List Int) : List Int := trimI (outp f g f.length)
theorem timesL_len (f g : List Int) : (timesL f g).length ≤ f.length + g.length := by
  have := trim_len (outp f g f.length)
  rw [outp_len] at this
  exact this
theorem getD_at {xs : List Int} {j : Nat} (h : j < xs.length) : xs.getD j 0 = xs[j] := by rw [List.getD_eq_getElem?_getD, List.getElem?_eq_getElem h]; rfl
theorem at_nat {xs : List Int} {n : Nat} (h : n < xs.length) : atI (xs.map D.int) (n : Int) = some (.int (xs.getD n 0)) := by
  rw [at_ints (by omega) (Int.toNat_natCast n) h, getD_at h]
section
variable {P : Program} {w : World} {K : PySem.W.Frag} {mg : Str → Option Value} {base : Heap} {k : Nat} {X : Cx}
theorem b__law_trim (h : DefX P w K mg base k N__law_trim (defScope s__law_trim) X) (m_list : mg "list" = none) (m_tuple : mg "tuple" = none) (m_len : mg "len" = none) :
    ∀ ds d, C__law_trim ds d → EvSs X (ds.map Sl.val ++ List.replicate (N__law_trim.length - ds.length) Sl.un) (defBody s__law_trim) (.rt d) := by
  rintro ds d ⟨xs, rfl, hl, rfl⟩
  have t := h.at'
  haveI := h.fnT
  have b1 : Blt X (defScope s__law_trim) "list" (.type "list") := blt_of (by rw [h.mg']; exact m_list)
  have b2 : Blt X (defScope s__law_trim) "tuple" (.type "tuple") := blt_of (by rw [h.mg']; exact m_tuple)
  have b3 : Blt X (defScope s__law_trim) "len" (.builtin "len") := blt_of (by rw [h.mg']; exact m_len)
  show EvSs X [.val (intsD xs), .un] _ _
  refine es_cons (s_setN t 1 (en_list t b1 (EvE.ql (ev_name t 0 rfl)))) ?_
  refine es_cons (s_while t (trim_loop (fun ys => [.val (intsD xs), .own (ys.map D.int)]) ?_ (fun ys a hy => ?_) (fun ys a => ?_) _ xs rfl hl)) (es_one (s_ret (ev_tuple t b2 (ev_own t 1 rfl))))
  · exact EvW.toT (ew_andF (et_neP t (EvQ.p (ev_own t 1 rfl)) (EvE.p (EvN.toE (en_lst ea_nil))) (shaped_lst []) (shaped_lst []) (by have := eqv_lst [] []; exact congrArg not this)))
  · refine EvW.toT (ew_andT (et_neP t (EvQ.p (ev_own t 1 rfl)) (EvE.p (EvN.toE (en_lst ea_nil))) (shaped_lst (ys ++ [a])) (shaped_lst []) (by have := eqv_lst (ys ++ [a]) []; rw [decide_eq_false (by simp)] at this; exact congrArg not this)) (ew_and1 (et_eqI (ev_ix (d := .int a) (ev_own t 1 rfl) (ev_sub (ev_len t b3 (ev_own t 1 rfl)) ev_int) ?_) ev_int)))
    rw [List.length_map, at_ints (n := ys.length) (by simp) (by simp) (by simp)]
    simp
  · refine EvSs.eq (es_one (s_pop t 1 rfl (by simp))) ?_
    rw [List.map_append]
    have e : (ys.map D.int ++ [a].map D.int).dropLast = ys.map D.int := by simp
    rw [e]; rfl
end
theorem mem_trim {xs : List Int} {x : Int} (h : x ∈ trimI xs) : x ∈ xs := by
  unfold trimI at h
  rw [List.mem_reverse] at h
  have := (List.dropWhile_sublist (l := xs.reverse) (p := fun x => x == 0)).mem h
  exact List.mem_reverse.mp this
/-- rows end with no 0 -/
def RowOk (f : List Int) : Prop := f = [] ∨ ∃ ys a, f = ys ++ [a] ∧ a ≠ 0
theorem trim_pre (xs : List Int) : xs.take (trimI xs).length = trimI xs := by
  induction h : xs.length generalizing xs with
  | zero => rw [List.eq_nil_of_length_eq_zero h]; rfl
  | succ n ih =>
    rcases List.eq_nil_or_concat xs with e | ⟨ys, y, e⟩
    · subst e; rfl
    · rw [List.concat_eq_append] at e
      subst e
      by_cases hy : y = 0
      · subst hy
        rw [trim_zero]
        have q := ih ys (by simpa using h)
        have l := trim_len ys
        rw [List.take_append_of_le_length l]; exact q
      · rw [trim_last ys hy, List.take_length]
theorem cut_loop {X : Cx} {c : Expr} {body : List Stmt} (R : Nat → Rho) (xs : List Int) (h1 : EvT X (R 0) c false) (h2 : ∀ m (h : m < xs.length), EvT X (R (m + 1)) c (decide (xs[m] = 0))) (h3 : ∀ m, EvSs X (R (m + 1)) body (.nx (R m))) :
    ∀ m, m ≤ xs.length → ∃ n, WRun X c body n (R m) (.nx (R (trimI (xs.take m)).length))
  | 0, _ => ⟨0, .stop h1⟩
  | m + 1, hm => by
    have hlt : m < xs.length := hm
    have e : xs.take (m + 1) = xs.take m ++ [xs[m]] := take_snoc (List.getElem?_eq_getElem hlt)
    by_cases hz : xs[m] = 0
    · obtain ⟨n, q⟩ := cut_loop R xs h1 h2 h3 m (by omega)
      refine ⟨n + 1, .step (EvT.eq (h2 m hlt) (decide_eq_true hz)) (h3 m) ?_⟩
      rw [e, hz, trim_zero]; exact q
    · refine ⟨0, ?_⟩
      rw [e, trim_last _ hz]
      have el : (xs.take m ++ [xs[m]]).length = m + 1 := by rw [← e, List.length_take]; omega
      rw [el]
      exact .stop (EvT.eq (h2 m hlt) (decide_eq_false hz))
def C_row_of (ds : List D) (d : D) : Prop := ∃ xs : List Int, ds = [intsD xs] ∧ xs.length < 1000 ∧ d = rowD (trimI xs)
theorem len_row_of : ∀ ds d, C_row_of ds d → ds.length = 1 := by rintro _ _ ⟨a, rfl, _⟩; rfl
def plusL (f g : List Int) : List Int := trimI ((List.range (max f.length g.length)).map fun i => f.getD i 0 + g.getD i 0)
def C_row_plus (ds : List D) (d : D) : Prop := ∃ f g : List Int, ds = [rowD f, rowD g] ∧ f.length < 1000 ∧ g.length < 1000 ∧ d = rowD (plusL f g)
theorem len_row_plus : ∀ ds d, C_row_plus ds d → ds.length = 2 := by rintro _ _ ⟨a, b, rfl, _⟩; rfl
def outq (f g : List Int) : Nat → List Int
  | 0 => List.replicate (f.length + g.length - 1) 0
  | i + 1 => inn f g i (outq f g i) g.length
theorem outq_len (f g : List Int) : ∀ i, (outq f g i).length = f.length + g.length - 1
  | 0 => by rw [outq, List.length_replicate]
  | i + 1 => by rw [outq, inn_len, outq_len]
theorem inn_snoc (f g : List Int) (i : Nat) (acc : List Int) (z : Int) : ∀ j, i + j ≤ acc.length → inn f g i (acc ++ [z]) j = inn f g i acc j ++ [z]
  | 0, _ => rfl
  | j + 1, h => by
    have ih := inn_snoc f g i acc z j (by omega)
    have hl : i + j < (inn f g i acc j).length := by rw [inn_len]; omega
    rw [inn, inn, ih, List.set_append_left _ _ hl]
    have e : (inn f g i acc j ++ [z]).getD (i + j) 0 = (inn f g i acc j).getD (i + j) 0 := by
      rw [List.getD_eq_getElem?_getD, List.getD_eq_getElem?_getD, List.getElem?_append_left hl]
    rw [e]
theorem outp_outq (f g : List Int) (hf : f ≠ []) (hg : g ≠ []) : ∀ i, i ≤ f.length → outp f g i = outq f g i ++ [0]
  | 0, _ => by
    have h1 := List.length_pos_iff.mpr hf
    rw [outp, outq, show f.length + g.length = (f.length + g.length - 1) + 1 by omega, List.replicate_succ']
    rfl
  | i + 1, h => by
    have h1 := List.length_pos_iff.mpr hf
    rw [outp, outq, outp_outq f g hf hg i (by omega), inn_snoc]
    rw [outq_len]; omega
theorem times_outq {f g : List Int} (hf : f ≠ []) (hg : g ≠ []) : trimI (outq f g f.length) = timesL f g := by
  unfold timesL; rw [outp_outq f g hf hg _ (Nat.le_refl _), trim_zero]
theorem trim_reps : ∀ n, trimI (List.replicate n (0 : Int)) = []
  | 0 => rfl
  | n + 1 => by rw [List.replicate_succ', trim_zero, trim_reps]
theorem times_nil (g : List Int) : timesL [] g = [] := by
  unfold timesL; rw [List.length_nil, outp]; exact trim_reps _
theorem outp_nil (f : List Int) : ∀ i, outp f [] i = List.replicate f.length 0
  | 0 => rfl
  | i + 1 => by rw [outp, List.length_nil, inn, outp_nil]
theorem times_nil' (f : List Int) : timesL f [] = [] := by unfold timesL; rw [outp_nil]; exact trim_reps _
def C_row_times (ds : List D) (d : D) : Prop := ∃ f g : List Int, ds = [rowD f, rowD g] ∧ f.length < 100 ∧ g.length < 100 ∧ (∀ y ∈ g, -(2 ^ 63) < y ∧ y < 2 ^ 63) ∧ d = rowD (timesL f g)
theorem len_row_times : ∀ ds d, C_row_times ds d → ds.length = 2 := by rintro _ _ ⟨a, b, rfl, _⟩; rfl
section
variable {P : Program} {w : World} {K : PySem.W.Frag} {mg : Str → Option Value} {base : Heap} {k : Nat} {X : Cx}
theorem b_row_times (h : DefX P w K mg base k N_row_times (defScope s_row_times) X) (m_enumerate : mg "enumerate" = none) (m_len : mg "len" = none) (c1 : Callee X "row_of" C_row_of) :
    ∀ ds d, C_row_times ds d → EvSs X (ds.map Sl.val ++ List.replicate (N_row_times.length - ds.length) Sl.un) (defBody s_row_times) (.rt d) := by
  rintro ds d ⟨f, g, rfl, hf, hg, hb, rfl⟩
  have t := h.at'
  haveI := h.fnT
  have b1 : Blt X (defScope s_row_times) "enumerate" (.type "enumerate") := blt_of (by rw [h.mg']; exact m_enumerate) rfl (by decide +kernel)
  have b2 : Blt X (defScope s_row_times) "len" (.builtin "len") := blt_of (by rw [h.mg']; exact m_len)
  show EvSs X [.val (rowD f), .val (rowD g), .un, .un, .un, .un, .un] _ _
  by_cases h1 : f = []
  · refine es_ret (s_ifT (EvW.toT (ew_orT (et_eqP t (EvE.p (ev_name t 0 rfl)) (EvE.p (d := rowD []) (ev_tup ea_nil)) (shaped_row _) (shaped_row _) (by rw [eqv_row, h1]; rfl)))) (es_one (s_ret (EvE.eq (d := .tup []) (ev_tup ea_nil) ?_))))
    rw [h1, times_nil]; rfl
  by_cases h2 : g = []
  · refine es_ret (s_ifT (EvW.toT (ew_orF (et_eqP t (EvE.p (ev_name t 0 rfl)) (EvE.p (d := rowD []) (ev_tup ea_nil)) (shaped_row _) (shaped_row _) (by rw [eqv_row, decide_eq_false h1])) (ew_or1 (et_eqP t (EvE.p (ev_name t 1 rfl)) (EvE.p (d := rowD []) (ev_tup ea_nil)) (shaped_row _) (shaped_row _) (by rw [eqv_row, h2]; rfl))))) (es_one (s_ret (EvE.eq (d := .tup []) (ev_tup ea_nil) ?_))))
    rw [h2, times_nil']; rfl
  have lf := List.length_pos_iff.mpr h1
  have lg := List.length_pos_iff.mpr h2
  refine es_cons (s_ifF (EvW.toT (ew_orF (et_eqP t (EvE.p (ev_name t 0 rfl)) (EvE.p (d := rowD []) (ev_tup ea_nil)) (shaped_row _) (shaped_row _) (by rw [eqv_row, decide_eq_false h1])) (ew_or1 (et_eqP t (EvE.p (ev_name t 1 rfl)) (EvE.p (d := rowD []) (ev_tup ea_nil)) (shaped_row _) (shaped_row _) (by rw [eqv_row, decide_eq_false h2]))))) es_nil) ?_
  have en : ((f.length : Int) + g.length - 1).toNat = f.length + g.length - 1 := by omega
  refine es_cons (s_setN (xs := (outq f g 0).map D.int) t 2 (EvN.eq (en_rep (n := (f.length : Int) + g.length - 1) (EvN.toE (en_lst (ea_cons ev_int ea_nil))) (EvE.eq (ev_sub (ev_add (ev_len t b2 (EvE.qt (ev_name t 0 rfl))) (ev_len t b2 (EvE.qt (ev_name t 1 rfl)))) ev_int) (by rw [List.length_map, List.length_map])) (by omega) (by omega) (by rw [en]; have := lineN; simp; omega)) (by rw [en, rep_ints]; rfl))) ?_
  refine es_cons (ρ' := [.val (rowD f), .val (rowD g), .own ((outq f g f.length).map D.int), .un, .un, .un, .un]) (s_for t (ei_enum t b1 (ev_name t 0 rfl)) (FRun.uptoE (fun i => [.val (rowD f), .val (rowD g), .own ((outq f g i).map D.int), .un, .un, .un, .un]) (fun i d hi => ?_) rfl ?_)) ?_
  · obtain ⟨e, he, rfl⟩ := enumD_get hi
    rw [List.getElem?_map] at he
    cases hx : f[i]? with
    | none => rw [hx] at he; cases he
    | some x =>
    rw [hx] at he; cases he
    have hi' : i < f.length := (List.getElem?_eq_some_iff.mp hx).1
    have ex : f.getD i 0 = x := by rw [List.getD_eq_getElem?_getD, hx]; rfl
    refine ⟨_, eg_tup2 t 3 4, EvSs.weak (ρ1 := [.val (rowD f), .val (rowD g), .own ((outq f g (i + 1)).map D.int), .val (.int i), .val (.int x), .un, .un]) (es_one (s_for t (ei_enum t b1 (ev_name t 1 rfl))
      (FRun.uptoE (fun j => [.val (rowD f), .val (rowD g), .own ((inn f g i (outq f g i) j).map D.int), .val (.int i), .val (.int x), .un, .un]) (fun j d hj => ?_) rfl ?_))) (.keep (.keep (.keep (.forget (.forget (.keep (.keep .nil)))))))⟩
    · obtain ⟨e, he, rfl⟩ := enumD_get hj
      rw [List.getElem?_map] at he
      cases hy : g[j]? with
      | none => rw [hy] at he; cases he
      | some y =>
      rw [hy] at he; cases he
      have hj' : j < g.length := (List.getElem?_eq_some_iff.mp hy).1
      have ey : g.getD j 0 = y := by rw [List.getD_eq_getElem?_getD, hy]; rfl
      have hyb := hb y (List.mem_of_getElem? hy)
      have hl : (inn f g i (outq f g i) j).length = f.length + g.length - 1 := by rw [inn_len, outq_len]
      have hlt : i + j < (inn f g i (outq f g i) j).length := by omega
      refine ⟨_, eg_tup2 t 5 6, EvSs.weak (es_one (s_augItem (j := i + j) (u := (inn f g i (outq f g i) j).getD (i + j) 0) t 2 iop_addC rfl (ev_add (ev_name t 3 rfl) (ev_name t 5 rfl)) ?_ ?_ (ev_mul (ev_name t 4 rfl) (ev_name t 6 rfl) (mul_right (by omega) (by omega))) trivial)) ?_⟩
      · rw [List.length_map]; exact ix_nat (by omega) (by omega) (by omega)
      · rw [List.getElem?_map, List.getD_eq_getElem?_getD, List.getElem?_eq_getElem hlt]; rfl
      · rw [inn, List.map_set, ex, ey]
        exact .keep (.keep (.keep (.keep (.keep (.forget (.forget .nil))))))
    · rw [enumD_len, List.length_map]; rfl
  · rw [enumD_len, List.length_map]
  · refine es_freeze 2 rfl (es_one (s_ret (EvE.eq (ev_call t c1 (ea_cons (ev_name t 2 rfl) ea_nil) ⟨outq f g f.length, rfl, by rw [outq_len]; omega, rfl⟩) ?_)))
    rw [times_outq h1 h2]
end
def BD (M : Nat) (f : List Int) : Prop := ∀ x ∈ f, x.natAbs ≤ M
theorem plusL_len (f g : List Int) : (plusL f g).length ≤ max f.length g.length := by
  have := trim_len ((List.range (max f.length g.length)).map fun i => f.getD i 0 + g.getD i 0)
  rw [List.length_map, List.length_range] at this
  exact this
theorem getD_over {g : List Int} {i : Nat} (h : g.length ≤ i) : g.getD i 0 = 0 := by rw [List.getD_eq_getElem?_getD, List.getElem?_eq_none h]; rfl
theorem trim_getD (xs : List Int) (i : Nat) : (trimI xs).getD i 0 = xs.getD i 0 := by
  have key : ∀ ys : List Int, ∀ i, (ys.dropWhile (· == 0)).reverse.getD i 0 = ys.reverse.getD i 0 := by
    intro ys
    induction ys with
    | nil => intro i; rfl
    | cons y ys ih =>
      intro i
      by_cases hy : y = 0
      · subst hy
        have : ((0 : Int) :: ys).dropWhile (· == 0) = ys.dropWhile (· == 0) := by simp [List.dropWhile]
        rw [this, ih i, List.reverse_cons]
        rw [List.getD_eq_getElem?_getD, List.getD_eq_getElem?_getD]
        by_cases hi : i < ys.reverse.length
        · rw [List.getElem?_append_left hi]
        · rw [List.getElem?_append_right (by omega), List.getElem?_eq_none (by omega)]
          cases z : i - ys.reverse.length with
          | zero => rfl
          | succ n => rfl
      · have : (y :: ys).dropWhile (· == 0) = y :: ys := by rw [List.dropWhile_cons_of_neg (by simpa using hy)]
        rw [this]
  have := key xs.reverse i
  rw [List.reverse_reverse] at this
  exact this
theorem row_le {f g : List Int} (hf : RowOk f) (h : ∀ i, f.getD i 0 = g.getD i 0) : f.length ≤ g.length := by
  rcases hf with e | ⟨ys, a, e, ha⟩
  · subst e; exact Nat.zero_le _
  · rcases Nat.lt_or_ge g.length f.length with z | z
    · have h1 := h ys.length
      subst e
      rw [getD_over (g := g) (i := ys.length) (by simp at z; omega)] at h1
      rw [List.getD_eq_getElem?_getD, List.getElem?_append_right (Nat.le_refl _), Nat.sub_self] at h1
      exact absurd h1 ha
    · exact z
theorem row_ext {f g : List Int} (hf : RowOk f) (hg : RowOk g) (h : ∀ i, f.getD i 0 = g.getD i 0) : f = g := by
  have h1 := row_le hf h
  have h2 := row_le hg fun i => (h i).symm
  refine List.ext_getElem (by omega) fun i h3 h4 => ?_
  have := h i
  rw [getD_at h3, getD_at h4] at this
  exact this
theorem trimOk (xs : List Int) : RowOk (trimI xs) := trim_ok xs
theorem map_getD {φ : Int → Int} (h0 : φ 0 = 0) (f : List Int) (i : Nat) : (f.map φ).getD i 0 = φ (f.getD i 0) := by
  rw [List.getD_eq_getElem?_getD, List.getElem?_map, List.getD_eq_getElem?_getD]
  cases f[i]? with
  | none => exact h0.symm
  | some x => rfl
/-- the greatest common divisor of all -/
def gl (f : List Int) : Nat := f.foldl (fun g x => Nat.gcd g x.natAbs) 0
theorem gl_snoc (f : List Int) (x : Int) : gl (f ++ [x]) = Nat.gcd (gl f) x.natAbs := by unfold gl; rw [List.foldl_append]; rfl
def C_common_divisor (ds : List D) (d : D) : Prop := ∃ a b : Int, ds = [.int a, .int b] ∧ d = .int ((Nat.gcd a.natAbs b.natAbs : Nat) : Int)
theorem len_common_divisor : ∀ ds d, C_common_divisor ds d → ds.length = 2 := by rintro _ _ ⟨a, b, rfl, _⟩; rfl
section
variable {P : Program} {w : World} {K : PySem.W.Frag} {mg : Str → Option Value} {base : Heap} {k : Nat} {X : Cx}
theorem b_common_divisor (h : DefX P w K mg base k N_common_divisor (defScope s_common_divisor) X) (m_abs : mg "abs" = none) :
    ∀ ds d, C_common_divisor ds d → EvSs X (ds.map Sl.val ++ List.replicate (N_common_divisor.length - ds.length) Sl.un) (defBody s_common_divisor) (.rt d) := by
  rintro ds d ⟨a, b, rfl, rfl⟩
  have t := h.at'
  haveI := h.fnT
  have bl : Blt X (defScope s_common_divisor) "abs" (.builtin "abs") := blt_of (by rw [h.mg']; exact m_abs)
  show EvSs X [.val (.int a), .val (.int b)] _ _
  refine es_cons (s_par t 0 1 (ev_abs t bl (ev_name t 0 rfl)) (ev_abs t bl (ev_name t 1 rfl)) (by decide)) ?_
  refine es_cons (s_while t (gcd_loop (fun a b => [.val (.int (a : Int)), .val (.int (b : Int))]) (fun a b => ?_) (fun a b hb => ?_) _ a.natAbs b.natAbs (Nat.le_refl _))) (es_one (s_ret (ev_name t 0 rfl)))
  · refine EvT.eq (et_int (ev_name t 1 rfl)) ?_
    by_cases hb : b = 0
    · subst hb; rfl
    · rw [decide_eq_true (by omega)]; simpa using hb
  · exact es_one (s_par t 0 1 (ev_name t 1 rfl) (EvE.eq (ev_modP (i := (a : Int)) (j := (b : Int)) (ev_name t 0 rfl) (ev_name t 1 rfl) (by omega)) rfl) (by decide))
end
def lowB (f : List Int) : List Int := f.map fun x => x.fdiv (gl f : Int)
def C_put_low (ds : List D) (d : D) : Prop := ∃ f : List Int, ds = [rowD f] ∧ f.length < 1000 ∧ (f ≠ [] → gl f ≠ 0) ∧ d = rowD (lowB f)
theorem len_put_low : ∀ ds d, C_put_low ds d → ds.length = 1 := by rintro _ _ ⟨a, rfl, _⟩; rfl
section
variable {P : Program} {w : World} {K : PySem.W.Frag} {mg : Str → Option Value} {base : Heap} {k : Nat} {X : Cx}
theorem b_put_low (h : DefX P w K mg base k N_put_low (defScope s_put_low) X) (m_tuple : mg "tuple" = none) (c1 : Callee X "common_divisor" C_common_divisor) :
    ∀ ds d, C_put_low ds d → EvSs X (ds.map Sl.val ++ List.replicate (N_put_low.length - ds.length) Sl.un) (defBody s_put_low) (.rt d) := by
  rintro ds d ⟨f, rfl, hf, hg, rfl⟩
  have t := h.at'
  haveI := h.fnT
  have bl : Blt X (defScope s_put_low) "tuple" (.type "tuple") := blt_of (by rw [h.mg']; exact m_tuple)
  show EvSs X [.val (rowD f), .un, .un] _ _
  refine es_cons (s_set t 1 ev_int) ?_
  refine es_cons (ρ' := [.val (rowD f), .val (.int (gl f : Int)), .un]) (s_for t (ei_tup (ev_name t 0 rfl)) ?_) ?_
  · refine FRun.uptoE (fun i => [.val (rowD f), .val (.int (gl (f.take i) : Int)), .un]) (fun j d hj => ?_) rfl ?_
    rotate_left
    · rw [List.length_map, List.take_length]
    · rw [List.getElem?_map] at hj
      cases e : f[j]? with
      | none => rw [e] at hj; cases hj
      | some x =>
        rw [e] at hj; cases hj
        refine ⟨_, eg_name t 2, EvSs.weak (es_one (s_set t 1 (ev_call t c1 (ea_cons (ev_name t 2 rfl) (ea_cons (ev_name t 1 rfl) ea_nil)) ⟨x, _, rfl, rfl⟩))) ?_⟩
        rw [take_snoc e, gl_snoc, Nat.gcd_comm]
        exact .keep (.keep (.forget .nil))
  · refine es_one (s_ret (ev_tuple t bl (EvQ.eq (EvN.toQ (en_comp (rs := (f.map D.int).map fun d => match d with | .int i => .int (i.fdiv (gl f : Int)) | d => d) t ["f", "shared", "", "number"] (csc (by decide +kernel)) (ei_tup (ev_name t 0 rfl)) (by rw [List.length_map]; exact small hf) fun X' cx => ?_)) ?_)))
    · have t' := cx.at'
      refine CRun.all (fun d => [.val (rowD f), .val (.int (gl f : Int)), .un, .val d]) _ _ _ (fun d hd => egn_name t' 3) (fun d hd e he => egn_name t' 3) fun d hd => ?_
      obtain ⟨i, hi, rfl⟩ := List.mem_map.mp hd
      have h0 := hg (List.ne_nil_of_mem hi)
      exact ev_div t' (ev_name t' 3 rfl) (ev_name t' 1 rfl) (show (gl f : Int) ≠ 0 by omega)
    · unfold lowB; rw [List.map_map, List.map_map]; rfl
end
theorem lowB_len (f : List Int) : (lowB f).length = f.length := List.length_map _
theorem gl_pos {S : List Int} (h : RowOk S) (hne : S ≠ []) : gl S ≠ 0 := by
  rcases h with e | ⟨ys, a, e, ha⟩
  · exact absurd e hne
  · subst e
    rw [gl_snoc]
    intro z
    have := (Nat.gcd_eq_zero_iff.mp z).2
    omega
theorem scaleOk {f : List Int} {c : Int} (h : RowOk f) (hc : c ≠ 0) : RowOk (f.map fun x => c * x) := by
  rcases h with e | ⟨ys, a, e, ha⟩
  · left; subst e; rfl
  · right; subst e
    exact ⟨ys.map fun x => c * x, c * a, by rw [List.map_append]; rfl, Int.mul_ne_zero hc ha⟩
theorem gl_scale {c : Int} (hc : 0 < c) (f : List Int) : (gl (f.map fun x => c * x) : Int) = c * (gl f : Int) := by
  have key : ∀ (f : List Int) (a : Nat), ((f.map fun x => c * x).foldl (fun g x => Nat.gcd g x.natAbs) (c.natAbs * a)) = c.natAbs * f.foldl (fun g x => Nat.gcd g x.natAbs) a := by
    intro f
    induction f with
    | nil => intro a; rfl
    | cons x f ih =>
      intro a
      simp only [List.map_cons, List.foldl_cons]
      rw [Int.natAbs_mul, Nat.gcd_mul_left, ih]
  have := key f 0
  rw [Nat.mul_zero] at this
  unfold gl
  rw [this, Int.natCast_mul]
  have : (c.natAbs : Int) = c := by omega
  rw [this]
theorem low_scale {c : Int} (hc : 0 < c) (f : List Int) : lowB (f.map fun x => c * x) = lowB f := by
  unfold lowB
  rw [List.map_map, gl_scale hc]
  refine List.map_congr_left fun x _ => ?_
  show (c * x).fdiv (c * (gl f : Int)) = x.fdiv (gl f : Int)
  exact Int.mul_fdiv_mul_of_pos x (gl f : Int) hc
theorem low_trim {a b : Int} (ha : 0 < a) (hb : 0 < b) {xs ys : List Int} (h : ∀ i, a * xs.getD i 0 = b * ys.getD i 0) : lowB (trimI xs) = lowB (trimI ys) := by
  rw [← low_scale ha (trimI xs), ← low_scale hb (trimI ys)]
  congr 1
  refine row_ext (scaleOk (trimOk xs) (by omega)) (scaleOk (trimOk ys) (by omega)) fun i => ?_
  rw [map_getD (Int.mul_zero a), map_getD (Int.mul_zero b), trim_getD, trim_getD, h i]
end My
set_option linter.all false
set_option autoImplicit false
set_option maxRecDepth 100000
set_option maxHeartbeats 4000000
namespace My
open PySem L2 L2.EV PyProof.Rows
/-! ### fractions -/
def frD (q : Rat) : D := rowD [q.num, (q.den : Int)]
theorem bits_le {x : Int} {k : Nat} (h : x.natAbs < 2 ^ k) : Builtin.Int.intBits x ≤ k := by
  unfold Builtin.Int.intBits
  split
  · exact Nat.zero_le _
  · rename_i h0
    have : x.natAbs ≠ 0 := by
      intro z
      apply h0
      simp at z ⊢
      omega
    exact (Nat.log2_lt this).mpr h
theorem mul_ok_of {x y : Int} {k : Nat} (hk : k ≤ 1000000) (hx : x.natAbs < 2 ^ k) (hy : y.natAbs < 2 ^ k) : IntMulOk x y :=
  .of_bits (Nat.le_trans (bits_le hx) (Nat.le_trans hk (by decide))) (Nat.le_trans (bits_le hy) (Nat.le_trans hk (by decide)))
/-- figures above and below -/
def fb (k : Nat) (q : Rat) : Prop := q.num.natAbs < 2 ^ k ∧ q.den < 2 ^ k
theorem fb.up {j k : Nat} {q : Rat} (h : fb j q) (hk : j ≤ k) : fb k q := ⟨Nat.lt_of_lt_of_le h.1 (Nat.pow_le_pow_right (by decide) hk), Nat.lt_of_lt_of_le h.2 (Nat.pow_le_pow_right (by decide) hk)⟩
theorem frac_sign {a b : Int} (hb : b ≠ 0) : (b.sign : Int) = if b < 0 then -1 else 1 := by
  split
  · rename_i h; exact Int.sign_eq_neg_one_of_neg h
  · exact Int.sign_eq_one_of_pos (by omega)
theorem frac_parts {a b : Int} (hb : b ≠ 0) : let g : Int := ((Nat.gcd a.natAbs b.natAbs : Nat) : Int)
    let s : Int := if b < 0 then -g else g
    s ≠ 0 ∧ a.fdiv s = (Rat.divInt a b).num ∧ b.fdiv s = ((Rat.divInt a b).den : Int) := by
  intro g s
  have hg : 0 < Nat.gcd a.natAbs b.natAbs := Nat.gcd_pos_of_pos_right _ (by omega)
  have hg' : (0 : Int) < g := by show (0 : Int) < ((Nat.gcd a.natAbs b.natAbs : Nat) : Int); omega
  have da : g ∣ a := Int.natAbs_dvd_natAbs.mp (by show (Int.natAbs ((Nat.gcd a.natAbs b.natAbs : Nat) : Int)) ∣ _; rw [Int.natAbs_natCast]; exact Nat.gcd_dvd_left _ _)
  have db : g ∣ b := Int.natAbs_dvd_natAbs.mp (by show (Int.natAbs ((Nat.gcd a.natAbs b.natAbs : Nat) : Int)) ∣ _; rw [Int.natAbs_natCast]; exact Nat.gcd_dvd_right _ _)
  obtain ⟨c, hc⟩ := da
  obtain ⟨d, hd⟩ := db
  have e1 : (Rat.divInt a b).num = b.sign * a / g := by
    rw [Rat.num_divInt]
    show _ = b.sign * a / ((Nat.gcd a.natAbs b.natAbs : Nat) : Int)
    rw [Nat.gcd_comm]; rfl
  have e2 : ((Rat.divInt a b).den : Int) = (b.natAbs : Int) / g := by
    rw [Rat.den_divInt, if_neg hb]
    show ((b.natAbs / Nat.gcd b.natAbs a.natAbs : Nat) : Int) = (b.natAbs : Int) / ((Nat.gcd a.natAbs b.natAbs : Nat) : Int)
    rw [Nat.gcd_comm]; exact Int.natCast_ediv _ _
  have gne : g ≠ 0 := by omega
  rw [e1, e2]
  by_cases hn : b < 0
  · have hs : s = -g := if_pos hn
    have sg : b.sign = -1 := Int.sign_eq_neg_one_of_neg hn
    have ab : (b.natAbs : Int) = -b := by omega
    rw [hs, sg, ab]
    refine ⟨by omega, ?_, ?_⟩
    · rw [hc, show g * c = (-g) * (-c) by rw [Int.neg_mul_neg], Int.mul_fdiv_cancel_left _ (by omega), show -1 * (-g * -c) = g * (-c) by rw [Int.neg_mul_neg, Int.mul_neg, Int.neg_one_mul], Int.mul_ediv_cancel_left _ gne]
    · rw [hd, show -(g * d) = g * (-d) by rw [Int.mul_neg], Int.mul_ediv_cancel_left _ gne, show g * d = (-g) * (-d) by rw [Int.neg_mul_neg], Int.mul_fdiv_cancel_left _ (by omega)]
  · have hs : s = g := if_neg hn
    have sg : b.sign = 1 := Int.sign_eq_one_of_pos (by omega)
    have ab : (b.natAbs : Int) = b := by omega
    rw [hs, sg, ab, Int.one_mul]
    refine ⟨gne, ?_, ?_⟩
    · rw [hc, Int.mul_fdiv_cancel_left _ gne, Int.mul_ediv_cancel_left _ gne]
    · rw [hd, Int.mul_fdiv_cancel_left _ gne, Int.mul_ediv_cancel_left _ gne]
def C_fraction (ds : List D) (d : D) : Prop := ∃ a b : Int, ds = [.int a, .int b] ∧ b ≠ 0 ∧ d = frD (Rat.divInt a b)
theorem len_fraction : ∀ ds d, C_fraction ds d → ds.length = 2 := by rintro _ _ ⟨a, b, rfl, _⟩; rfl
def R_fraction (ds : List D) : Prop := ∃ a : Int, ds = [.int a, .int 0]
def C_plus (ds : List D) (d : D) : Prop := ∃ (p q : Rat) (k : Nat), ds = [frD p, frD q] ∧ fb k p ∧ fb k q ∧ k ≤ 1000000 ∧ d = frD (p + q)
def C_minus (ds : List D) (d : D) : Prop := ∃ (p q : Rat) (k : Nat), ds = [frD p, frD q] ∧ fb k p ∧ fb k q ∧ k ≤ 1000000 ∧ d = frD (p - q)
def C_times (ds : List D) (d : D) : Prop := ∃ (p q : Rat) (k : Nat), ds = [frD p, frD q] ∧ fb k p ∧ fb k q ∧ k ≤ 1000000 ∧ d = frD (p * q)
theorem len_plus : ∀ ds d, C_plus ds d → ds.length = 2 := by rintro _ _ ⟨p, q, k, rfl, _⟩; rfl
theorem len_minus : ∀ ds d, C_minus ds d → ds.length = 2 := by rintro _ _ ⟨p, q, k, rfl, _⟩; rfl
theorem len_times : ∀ ds d, C_times ds d → ds.length = 2 := by rintro _ _ ⟨p, q, k, rfl, _⟩; rfl
def C_over (ds : List D) (d : D) : Prop := ∃ (p q : Rat) (k : Nat), ds = [frD p, frD q] ∧ fb k p ∧ fb k q ∧ k ≤ 1000000 ∧ q ≠ 0 ∧ d = frD (p / q)
def R_over (ds : List D) : Prop := ∃ (p : Rat) (k : Nat), ds = [frD p, frD 0] ∧ fb k p ∧ k ≤ 1000000 ∧ 1 ≤ k
def C_below (ds : List D) (d : D) : Prop := ∃ (p q : Rat) (k : Nat), ds = [frD p, frD q] ∧ fb k p ∧ fb k q ∧ k ≤ 1000000 ∧ d = .bl (decide (p < q))
def C__law_low (ds : List D) (d : D) : Prop := ∃ a b : Int, ds = [.int a, .int b] ∧ b ≠ 0 ∧ d = frD (Rat.divInt a b)
theorem len__law_low : ∀ ds d, C__law_low ds d → ds.length = 2 := by rintro _ _ ⟨a, b, rfl, _⟩; rfl
theorem divInt_mk (a : Int) (n : Nat) : mkRat a n = Rat.divInt a (n : Int) := (Rat.divInt_ofNat a n).symm
theorem add_frac (p q : Rat) : Rat.divInt (p.num * q.den + q.num * p.den) ((p.den : Int) * q.den) = p + q := by
  rw [Rat.add_def', divInt_mk]; congr 1
theorem sub_frac (p q : Rat) : Rat.divInt (p.num * q.den - q.num * p.den) ((p.den : Int) * q.den) = p - q := by
  rw [Rat.sub_def', divInt_mk]; congr 1
theorem mul_frac (p q : Rat) : Rat.divInt (p.num * q.num) ((p.den : Int) * q.den) = p * q := by
  rw [Rat.mul_def', divInt_mk]; congr 1
theorem den_ne (p : Rat) : (p.den : Int) ≠ 0 := by have := p.den_nz; omega
theorem at0 (p : Rat) : atI ([p.num, (p.den : Int)].map D.int) 0 = some (.int p.num) := rfl
theorem at1 (p : Rat) : atI ([p.num, (p.den : Int)].map D.int) 1 = some (.int (p.den : Int)) := rfl
theorem divInt_bd {a b : Int} (hb : b ≠ 0) : (Rat.divInt a b).num.natAbs ≤ a.natAbs ∧ (Rat.divInt a b).den ≤ b.natAbs := by
  constructor
  · rw [Rat.num_divInt]
    refine Nat.le_trans (Int.natAbs_ediv_le_natAbs _ _) ?_
    rw [Int.natAbs_mul, frac_sign (a := a) hb]
    split <;> simp
  · rw [Rat.den_divInt, if_neg hb]
    exact Nat.div_le_self _ _
theorem pow_pos2 (k : Nat) : 0 < 2 ^ k := Nat.pow_pos (by decide)
theorem mul_lt_pow {x y a b : Nat} (hx : x < 2 ^ a) (hy : y < 2 ^ b) : x * y < 2 ^ (a + b) := by
  rw [Nat.pow_add]
  exact Nat.lt_of_le_of_lt (Nat.mul_le_mul_left x (Nat.le_of_lt hy)) (Nat.mul_lt_mul_of_pos_right hx (pow_pos2 b))
theorem fb_divInt {a b : Int} {k : Nat} (hb : b ≠ 0) (h1 : a.natAbs < 2 ^ k) (h2 : b.natAbs < 2 ^ k) : fb k (Rat.divInt a b) :=
  ⟨Nat.lt_of_le_of_lt (divInt_bd hb).1 h1, Nat.lt_of_le_of_lt (divInt_bd hb).2 h2⟩
theorem fb_add {p q : Rat} {a b : Nat} (hp : fb a p) (hq : fb b q) : fb (a + b + 1) (p + q) := by
  rw [← add_frac]
  have e1 := mul_lt_pow hp.1 hq.2
  have e2 := mul_lt_pow hq.1 hp.2
  have e3 := mul_lt_pow hp.2 hq.2
  have e4 : 2 ^ (a + b + 1) = 2 ^ (a + b) + 2 ^ (a + b) := by rw [Nat.pow_succ]; omega
  rw [Nat.add_comm b a] at e2
  refine fb_divInt (Int.mul_ne_zero (den_ne p) (den_ne q)) ?_ ?_
  · refine Nat.lt_of_le_of_lt (Int.natAbs_add_le _ _) ?_
    rw [Int.natAbs_mul, Int.natAbs_mul, Int.natAbs_natCast, Int.natAbs_natCast]
    omega
  · rw [Int.natAbs_mul, Int.natAbs_natCast, Int.natAbs_natCast]
    omega
theorem fb_mul {p q : Rat} {a b : Nat} (hp : fb a p) (hq : fb b q) : fb (a + b) (p * q) := by
  rw [← mul_frac]
  refine fb_divInt (Int.mul_ne_zero (den_ne p) (den_ne q)) ?_ ?_
  · rw [Int.natAbs_mul]; exact mul_lt_pow hp.1 hq.1
  · rw [Int.natAbs_mul, Int.natAbs_natCast, Int.natAbs_natCast]; exact mul_lt_pow hp.2 hq.2
theorem fr_eq {p q : Rat} : ([p.num, (p.den : Int)] = [q.num, (q.den : Int)]) ↔ p = q := by
  constructor
  · intro h
    have h1 : p.num = q.num := by injection h
    have h2 : (p.den : Int) = q.den := by
      injection h with _ h
      injection h
    exact Rat.ext h1 (by omega)
  · rintro rfl; rfl
theorem eqv_fr (p q : Rat) : (toP (frD p)).eqv (toP (frD q)) = decide (p = q) := by
  unfold frD
  rw [eqv_row]
  exact decide_eq_decide.mpr fr_eq
theorem eqv_bl (x y : Bool) : (PyData.bool x).eqv (.bool y) = decide (x = y) := by cases x <;> cases y <;> rfl
section
variable {X : Cx} {ρ : Rho} {a b : Expr} {pos : Pos} {N : List Str} {sc : Scope}
theorem ev_eqF (t : At X N sc) {p q : Rat} (ha : EvE X ρ a (frD p)) (hb : EvE X ρ b (frD q)) : EvE X ρ (.Compare a [.Eq] [b] pos) (.bl (decide (p = q))) :=
  ev_eqP t (EvE.p ha) (EvE.p hb) (shaped_row _) (shaped_row _) (by rw [eqv_fr])
theorem ev_eqB (t : At X N sc) {x y : Bool} (ha : EvE X ρ a (.bl x)) (hb : EvE X ρ b (.bl y)) : EvE X ρ (.Compare a [.Eq] [b] pos) (.bl (decide (x = y))) :=
  ev_eqP t (EvE.p ha) (EvE.p hb) rfl rfl (by show (PyData.bool x).eqv (.bool y) = _; rw [eqv_bl])
end
section
variable {P : Program} {w : World} {K : PySem.W.Frag} {mg : Str → Option Value} {base : Heap} {k : Nat} {X : Cx}
theorem b_fraction (h : DefX P w K mg base k N_fraction (defScope s_fraction) X) (c1 : Callee X "common_divisor" C_common_divisor) :
    ∀ ds d, C_fraction ds d → EvSs X (ds.map Sl.val ++ List.replicate (N_fraction.length - ds.length) Sl.un) (defBody s_fraction) (.rt d) := by
  rintro ds d ⟨a, b, rfl, hb, rfl⟩
  have t := h.at'
  haveI := h.fnT
  obtain ⟨h0, h1, h2⟩ := frac_parts (a := a) hb
  show EvSs X [.val (.int a), .val (.int b), .un] _ _
  refine es_cons (s_ifF (EvT.eq (et_eqI (ev_name t 1 rfl) ev_int) (decide_eq_false hb)) es_nil) ?_
  refine es_cons (s_set t 2 (ev_call t c1 (ea_cons (ev_name t 0 rfl) (ea_cons (ev_name t 1 rfl) ea_nil)) ⟨a, b, rfl, rfl⟩)) ?_
  refine es_cons (ρ' := [.val (.int a), .val (.int b), .val (.int (if b < 0 then -((Nat.gcd a.natAbs b.natAbs : Nat) : Int) else ((Nat.gcd a.natAbs b.natAbs : Nat) : Int)))]) ?_ ?_
  · by_cases hn : b < 0
    · refine s_ifT (EvT.eq (et_lt (ev_name t 1 rfl) ev_int) (decide_eq_true hn)) (EvSs.eq (es_one (s_set t 2 (ev_neg (ev_name t 2 rfl)))) ?_)
      rw [if_pos hn]; rfl
    · refine s_ifF (EvT.eq (et_lt (ev_name t 1 rfl) ev_int) (decide_eq_false hn)) (EvSs.eq es_nil ?_)
      rw [if_neg hn]; rfl
  · refine es_one (s_ret (EvE.eq (ev_tup (ea_cons (ev_div t (ev_name t 0 rfl) (ev_name t 2 rfl) h0) (ea_cons (ev_div t (ev_name t 1 rfl) (ev_name t 2 rfl) h0) ea_nil))) ?_))
    rw [h1, h2]; rfl
theorem b_plus (h : DefX P w K mg base k N_plus (defScope s_plus) X) (c1 : Callee X "fraction" C_fraction) :
    ∀ ds d, C_plus ds d → EvSs X (ds.map Sl.val ++ List.replicate (N_plus.length - ds.length) Sl.un) (defBody s_plus) (.rt d) := by
  rintro ds d ⟨p, q, n, rfl, hp, hq, hn, rfl⟩
  have t := h.at'
  show EvSs X [.val (frD p), .val (frD q)] _ _
  refine es_one (s_ret (ev_call t c1 (ea_cons (ev_add (ev_mul (ev_ix (EvE.qt (ev_name t 0 rfl)) ev_int (at0 p)) (ev_ix (EvE.qt (ev_name t 1 rfl)) ev_int (at1 q)) (mul_ok_of hn hp.1 (by rw [Int.natAbs_natCast]; exact hq.2))) (ev_mul (ev_ix (EvE.qt (ev_name t 1 rfl)) ev_int (at0 q)) (ev_ix (EvE.qt (ev_name t 0 rfl)) ev_int (at1 p)) (mul_ok_of hn hq.1 (by rw [Int.natAbs_natCast]; exact hp.2)))) (ea_cons (ev_mul (ev_ix (EvE.qt (ev_name t 0 rfl)) ev_int (at1 p)) (ev_ix (EvE.qt (ev_name t 1 rfl)) ev_int (at1 q)) (mul_ok_of hn (by rw [Int.natAbs_natCast]; exact hp.2) (by rw [Int.natAbs_natCast]; exact hq.2))) ea_nil)) ⟨_, _, rfl, Int.mul_ne_zero (den_ne p) (den_ne q), by rw [add_frac]⟩))
theorem b_minus (h : DefX P w K mg base k N_minus (defScope s_minus) X) (c1 : Callee X "fraction" C_fraction) :
    ∀ ds d, C_minus ds d → EvSs X (ds.map Sl.val ++ List.replicate (N_minus.length - ds.length) Sl.un) (defBody s_minus) (.rt d) := by
  rintro ds d ⟨p, q, n, rfl, hp, hq, hn, rfl⟩
  have t := h.at'
  show EvSs X [.val (frD p), .val (frD q)] _ _
  refine es_one (s_ret (ev_call t c1 (ea_cons (ev_sub (ev_mul (ev_ix (EvE.qt (ev_name t 0 rfl)) ev_int (at0 p)) (ev_ix (EvE.qt (ev_name t 1 rfl)) ev_int (at1 q)) (mul_ok_of hn hp.1 (by rw [Int.natAbs_natCast]; exact hq.2))) (ev_mul (ev_ix (EvE.qt (ev_name t 1 rfl)) ev_int (at0 q)) (ev_ix (EvE.qt (ev_name t 0 rfl)) ev_int (at1 p)) (mul_ok_of hn hq.1 (by rw [Int.natAbs_natCast]; exact hp.2)))) (ea_cons (ev_mul (ev_ix (EvE.qt (ev_name t 0 rfl)) ev_int (at1 p)) (ev_ix (EvE.qt (ev_name t 1 rfl)) ev_int (at1 q)) (mul_ok_of hn (by rw [Int.natAbs_natCast]; exact hp.2) (by rw [Int.natAbs_natCast]; exact hq.2))) ea_nil)) ⟨_, _, rfl, Int.mul_ne_zero (den_ne p) (den_ne q), by rw [sub_frac]⟩))
theorem b_times (h : DefX P w K mg base k N_times (defScope s_times) X) (c1 : Callee X "fraction" C_fraction) :
    ∀ ds d, C_times ds d → EvSs X (ds.map Sl.val ++ List.replicate (N_times.length - ds.length) Sl.un) (defBody s_times) (.rt d) := by
  rintro ds d ⟨p, q, n, rfl, hp, hq, hn, rfl⟩
  have t := h.at'
  show EvSs X [.val (frD p), .val (frD q)] _ _
  refine es_one (s_ret (ev_call t c1 (ea_cons (ev_mul (ev_ix (EvE.qt (ev_name t 0 rfl)) ev_int (at0 p)) (ev_ix (EvE.qt (ev_name t 1 rfl)) ev_int (at0 q)) (mul_ok_of hn hp.1 hq.1)) (ea_cons (ev_mul (ev_ix (EvE.qt (ev_name t 0 rfl)) ev_int (at1 p)) (ev_ix (EvE.qt (ev_name t 1 rfl)) ev_int (at1 q)) (mul_ok_of hn (by rw [Int.natAbs_natCast]; exact hp.2) (by rw [Int.natAbs_natCast]; exact hq.2))) ea_nil)) ⟨_, _, rfl, Int.mul_ne_zero (den_ne p) (den_ne q), by rw [mul_frac]⟩))
theorem b__law_low (h : DefX P w K mg base k N__law_low (defScope s__law_low) X) (m_abs : mg "abs" = none) :
    ∀ ds d, C__law_low ds d → EvSs X (ds.map Sl.val ++ List.replicate (N__law_low.length - ds.length) Sl.un) (defBody s__law_low) (.rt d) := by
  rintro ds d ⟨a, b, rfl, hb, rfl⟩
  have t := h.at'
  haveI := h.fnT
  have bl : Blt X (defScope s__law_low) "abs" (.builtin "abs") := blt_of (by rw [h.mg']; exact m_abs)
  obtain ⟨h0, h1, h2⟩ := frac_parts (a := a) hb
  show EvSs X [.val (.int a), .val (.int b), .un, .un] _ _
  refine es_cons (s_par t 2 3 (ev_abs t bl (ev_name t 0 rfl)) (ev_abs t bl (ev_name t 1 rfl)) (by decide)) ?_
  refine es_cons (s_while t (gcd_loop (fun x y => [.val (.int a), .val (.int b), .val (.int (x : Int)), .val (.int (y : Int))]) (fun x y => ?_) (fun x y hy => ?_) _ a.natAbs b.natAbs (Nat.le_refl _))) ?_
  · refine EvT.eq (et_gt (ev_name t 3 rfl) ev_int) ?_
    by_cases hy : y = 0
    · subst hy; rfl
    · rw [decide_eq_true (by omega)]; simp; omega
  · exact es_one (s_par t 2 3 (ev_name t 3 rfl) (EvE.eq (ev_modP (i := (x : Int)) (j := (y : Int)) (ev_name t 2 rfl) (ev_name t 3 rfl) (by omega)) rfl) (by decide))
  refine es_cons (ρ' := [.val (.int a), .val (.int b), .val (.int (if b < 0 then -((Nat.gcd a.natAbs b.natAbs : Nat) : Int) else ((Nat.gcd a.natAbs b.natAbs : Nat) : Int))), .val (.int 0)]) ?_ ?_
  · by_cases hn : b < 0
    · refine s_ifT (EvT.eq (et_lt (ev_name t 1 rfl) ev_int) (decide_eq_true hn)) (EvSs.eq (es_one (s_set t 2 (ev_sub ev_int (ev_name t 2 rfl)))) ?_)
      rw [if_pos hn, Int.zero_sub]; rfl
    · refine s_ifF (EvT.eq (et_lt (ev_name t 1 rfl) ev_int) (decide_eq_false hn)) (EvSs.eq es_nil ?_)
      rw [if_neg hn]; rfl
  · refine es_one (s_ret (EvE.eq (ev_tup (ea_cons (ev_div t (ev_name t 0 rfl) (ev_name t 2 rfl) h0) (ea_cons (ev_div t (ev_name t 1 rfl) (ev_name t 2 rfl) h0) ea_nil))) ?_))
    rw [h1, h2]; rfl
end
end My

set_option linter.all false
set_option autoImplicit false
set_option maxRecDepth 100000
set_option maxHeartbeats 4000000
namespace My
open PySem L2 L2.EV PyProof.Rows
/-! ### a row's value -/
def psum (f : List Int) (q : Rat) : Nat → Rat
  | 0 => 0
  | i + 1 => psum f q i + (f.getD i 0 : Rat) * q ^ i
def evalR : List Int → Rat → Rat
  | [], _ => 0
  | c :: f, q => (c : Rat) + q * evalR f q
theorem psum_cons (c : Int) (f : List Int) (q : Rat) : ∀ i, psum (c :: f) q (i + 1) = (c : Rat) + q * psum f q i
  | 0 => by
    show 0 + (c : Rat) * q ^ 0 = (c : Rat) + q * 0
    rw [Rat.pow_zero]; grind
  | i + 1 => by
    have ih := psum_cons c f q i
    show psum (c :: f) q (i + 1) + (f.getD i 0 : Rat) * q ^ (i + 1) = _
    rw [ih]
    show _ = (c : Rat) + q * (psum f q i + (f.getD i 0 : Rat) * q ^ i)
    rw [Rat.pow_succ]; grind
theorem psum_eval : ∀ (f : List Int) (q : Rat), psum f q f.length = evalR f q
  | [], q => rfl
  | c :: f, q => by
    show psum (c :: f) q (f.length + 1) = (c : Rat) + q * evalR f q
    rw [psum_cons, psum_eval]
theorem psum_more (f : List Int) (q : Rat) : ∀ n, psum f q (f.length + n) = psum f q f.length
  | 0 => rfl
  | n + 1 => by
    show psum f q (f.length + n) + (f.getD (f.length + n) 0 : Rat) * q ^ (f.length + n) = _
    rw [psum_more f q n]
    have : f.getD (f.length + n) 0 = 0 := by rw [List.getD_eq_getElem?_getD, List.getElem?_eq_none (by omega)]; rfl
    rw [this]
    show psum f q f.length + (0 : Rat) * q ^ (f.length + n) = _
    grind
theorem psum_ge {f : List Int} {q : Rat} {n : Nat} (h : f.length ≤ n) : psum f q n = evalR f q := by
  rw [← psum_eval, show n = f.length + (n - f.length) by omega, psum_more]
theorem psum_congr {f g : List Int} {q : Rat} : ∀ {n : Nat}, (∀ i, i < n → f.getD i 0 = g.getD i 0) → psum f q n = psum g q n
  | 0, _ => rfl
  | n + 1, h => by
    show psum f q n + _ = psum g q n + _
    rw [psum_congr (n := n) fun i hi => h i (by omega), h n (by omega)]
theorem eval_congr {f g : List Int} {q : Rat} (h : ∀ i, f.getD i 0 = g.getD i 0) : evalR f q = evalR g q := by
  rw [← psum_ge (f := f) (n := max f.length g.length) (by omega), ← psum_ge (f := g) (n := max f.length g.length) (by omega)]
  exact psum_congr fun i _ => h i
theorem eval_trim (xs : List Int) (q : Rat) : evalR (trimI xs) q = evalR xs q := eval_congr (trim_getD xs)
theorem psum_add {f g : List Int} {q : Rat} {h : List Int} : ∀ {n : Nat}, (∀ i, i < n → h.getD i 0 = f.getD i 0 + g.getD i 0) → psum h q n = psum f q n + psum g q n
  | 0, _ => by show (0 : Rat) = 0 + 0; grind
  | n + 1, e => by
    show psum h q n + (h.getD n 0 : Rat) * q ^ n = (psum f q n + (f.getD n 0 : Rat) * q ^ n) + (psum g q n + (g.getD n 0 : Rat) * q ^ n)
    rw [psum_add (n := n) fun i hi => e i (by omega), e n (by omega), Rat.intCast_add]
    grind
theorem eval_plus (f g : List Int) (q : Rat) : evalR (plusL f g) q = evalR f q + evalR g q := by
  unfold plusL
  rw [eval_trim, ← psum_ge (n := max f.length g.length) (by simp), psum_add (f := f) (g := g), psum_ge (by omega), psum_ge (by omega)]
  intro i hi
  rw [List.getD_eq_getElem?_getD, List.getElem?_map, List.getElem?_range hi]; rfl
theorem psum_set {f : List Int} {q : Rat} {p : Nat} {v : Int} (hp : p < f.length) : ∀ n, psum (f.set p v) q n = psum f q n + (if p < n then ((v : Rat) - (f.getD p 0 : Rat)) * q ^ p else 0)
  | 0 => by show (0 : Rat) = 0 + _; rw [if_neg (by omega)]; grind
  | n + 1 => by
    show psum (f.set p v) q n + ((f.set p v).getD n 0 : Rat) * q ^ n = (psum f q n + (f.getD n 0 : Rat) * q ^ n) + _
    rw [psum_set hp n]
    by_cases h : p = n
    · subst h
      have e : (f.set p v).getD p 0 = v := by rw [List.getD_eq_getElem?_getD, List.getElem?_set_self hp]; rfl
      rw [e, if_neg (by omega), if_pos (by omega)]
      grind
    · have e : (f.set p v).getD n 0 = f.getD n 0 := by rw [List.getD_eq_getElem?_getD, List.getElem?_set_ne h, List.getD_eq_getElem?_getD]
      rw [e]
      by_cases h2 : p < n
      · rw [if_pos h2, if_pos (by omega)]; grind
      · rw [if_neg h2, if_neg (by omega)]; grind
theorem psum_inn (f g : List Int) (q : Rat) (i : Nat) (acc : List Int) {n : Nat} : ∀ j, i + j ≤ acc.length → i + j ≤ n → psum (inn f g i acc j) q n = psum acc q n + (f.getD i 0 : Rat) * q ^ i * psum g q j
  | 0, _, _ => by
    show psum acc q n = psum acc q n + (f.getD i 0 : Rat) * q ^ i * 0
    grind
  | j + 1, h1, h2 => by
    show psum ((inn f g i acc j).set (i + j) _) q n = psum acc q n + (f.getD i 0 : Rat) * q ^ i * (psum g q j + (g.getD j 0 : Rat) * q ^ j)
    rw [psum_set (by rw [inn_len]; omega), if_pos (by omega), psum_inn f g q i acc j (by omega) (by omega), Rat.intCast_add, Rat.intCast_mul]
    have e : q ^ (i + j) = q ^ i * q ^ j := by
      clear h1 h2
      induction j with
      | zero => rw [Nat.add_zero, Rat.pow_zero, Rat.mul_one]
      | succ j ih => rw [← Nat.add_assoc, Rat.pow_succ, Rat.pow_succ, ih, Rat.mul_assoc]
    rw [e]; grind
theorem psum_zero (q : Rat) (m : Nat) : ∀ n, psum (List.replicate m 0) q n = 0
  | 0 => rfl
  | n + 1 => by
    show psum (List.replicate m 0) q n + ((List.replicate m (0 : Int)).getD n 0 : Rat) * q ^ n = 0
    have e : (List.replicate m (0 : Int)).getD n 0 = 0 := by
      rw [List.getD_eq_getElem?_getD, List.getElem?_replicate]
      split <;> rfl
    rw [psum_zero q m n, e]
    show (0 : Rat) + 0 * q ^ n = 0
    grind
theorem psum_outp (f g : List Int) (q : Rat) : ∀ i, i ≤ f.length → psum (outp f g i) q (f.length + g.length) = psum f q i * psum g q g.length
  | 0, _ => by
    show psum (List.replicate _ 0) q _ = 0 * _
    rw [psum_zero]; grind
  | i + 1, h => by
    show psum (inn f g i (outp f g i) g.length) q _ = (psum f q i + (f.getD i 0 : Rat) * q ^ i) * _
    rw [psum_inn f g q i (outp f g i) g.length (by rw [outp_len]; omega) (by omega), psum_outp f g q i (by omega)]
    grind
theorem eval_times (f g : List Int) (q : Rat) : evalR (timesL f g) q = evalR f q * evalR g q := by
  unfold timesL
  rw [eval_trim, ← psum_ge (n := f.length + g.length) (by rw [outp_len]; exact Nat.le_refl _), psum_outp f g q f.length (Nat.le_refl _), psum_eval, psum_eval]
/-! ### reckoned in whole numbers -/
def svF (t b : Int) : List Int → Int
  | [] => 0
  | c :: s => svF t b s * t + c * b ^ s.length
theorem svF_eval (t b : Int) (q : Rat) (hq : (t : Rat) = q * (b : Rat)) : ∀ f : List Int, (svF t b f : Rat) * (b : Rat) = evalR f q * (b : Rat) ^ f.length
  | [] => by show (0 : Rat) * _ = 0 * _; grind
  | c :: s => by
    have ih := svF_eval t b q hq s
    show ((svF t b s * t + c * b ^ s.length : Int) : Rat) * (b : Rat) = ((c : Rat) + q * evalR s q) * (b : Rat) ^ (s.length + 1)
    rw [Rat.intCast_add, Rat.intCast_mul, Rat.intCast_mul, Rat.intCast_pow, Rat.pow_succ, hq]
    have e : (svF t b s : Rat) * (q * (b : Rat)) * (b : Rat) = evalR s q * (b : Rat) ^ s.length * q * (b : Rat) := by rw [← ih]; grind
    grind
theorem div_of_mul {x y : Int} {r : Rat} (hy : y ≠ 0) (h : (x : Rat) = r * (y : Rat)) : Rat.divInt x y = r := by
  have hy' : (y : Rat) ≠ 0 := fun z => hy (Rat.intCast_eq_zero_iff.mp z)
  rw [Rat.divInt_eq_div, h, Rat.mul_div_cancel hy']
theorem frac_top (q : Rat) : (q.num : Rat) = q * ((q.den : Int) : Rat) := by
  have h := Rat.num_divInt_den q
  have hd : ((q.den : Int) : Rat) ≠ 0 := fun z => den_ne q (Rat.intCast_eq_zero_iff.mp z)
  rw [Rat.divInt_eq_div] at h
  have h2 : (q.num : Rat) / ((q.den : Int) : Rat) * ((q.den : Int) : Rat) = q * ((q.den : Int) : Rat) := congrArg (· * ((q.den : Int) : Rat)) h
  rw [Rat.div_mul_cancel hd] at h2
  exact h2
theorem value_row (q : Rat) {f : List Int} (hf : f ≠ []) : Rat.divInt (svF q.num q.den f) ((q.den : Int) ^ (f.length - 1)) = evalR f q := by
  have hd : (q.den : Int) ≠ 0 := den_ne q
  have hd' : ((q.den : Int) : Rat) ≠ 0 := fun z => hd (Rat.intCast_eq_zero_iff.mp z)
  refine div_of_mul (Int.pow_ne_zero hd) ?_
  have h := svF_eval q.num q.den q (frac_top q) f
  have e : ((q.den : Int) : Rat) ^ f.length = ((q.den : Int) : Rat) ^ (f.length - 1) * ((q.den : Int) : Rat) := by
    have : f.length = f.length - 1 + 1 := by have := List.length_pos_iff.mpr hf; omega
    conv => lhs; rw [this]
    rw [Rat.pow_succ]
  rw [e, ← Rat.mul_assoc] at h
  rw [Rat.intCast_pow]
  have h2 := congrArg (· / ((q.den : Int) : Rat)) h
  simp only [Rat.mul_div_cancel hd'] at h2
  exact h2
/-- the law's sum -/
def tvF (f : List Int) (t b : Int) : Nat → Int
  | 0 => 0
  | k + 1 => tvF f t b k + f.getD k 0 * t ^ k * b ^ (f.length - 1 - k)
end My

set_option linter.all false
set_option autoImplicit false
set_option maxRecDepth 100000
set_option maxHeartbeats 4000000
namespace My
open PySem L2 L2.EV PyProof.Rows
theorem pow_le2 {b : Int} {h : Nat} (hb : b.natAbs < 2 ^ h) (i : Nat) : (b ^ i).natAbs ≤ 2 ^ (h * i) := by
  rw [Int.natAbs_pow, Nat.pow_mul]
  exact Nat.pow_le_pow_left (Nat.le_of_lt hb) i
theorem pow_lt2 {b : Int} {h : Nat} (hb : b.natAbs < 2 ^ h) (i : Nat) {K : Nat} (hK : h * i < K) : (b ^ i).natAbs < 2 ^ K :=
  Nat.lt_of_le_of_lt (pow_le2 hb i) (Nat.pow_lt_pow_right (by decide) hK)
theorem svF_bd {t b : Int} {m h : Nat} (ht : t.natAbs < 2 ^ h) (hb : b.natAbs < 2 ^ h) : ∀ (s : List Int), (∀ x ∈ s, x.natAbs < 2 ^ m) → (svF t b s).natAbs < 2 ^ (m + (h + 1) * s.length)
  | [], _ => by show (0 : Int).natAbs < _; exact pow_pos2 _
  | c :: s, hs => by
    have ih := svF_bd ht hb s fun x hx => hs x (List.mem_cons_of_mem _ hx)
    have hc := hs c List.mem_cons_self
    show (svF t b s * t + c * b ^ s.length).natAbs < 2 ^ (m + (h + 1) * (s.length + 1))
    have e1 := mul_lt_pow ih ht
    have e2 : c.natAbs * (b ^ s.length).natAbs < 2 ^ (m + h * s.length) := by
      rw [Nat.pow_add]
      exact Nat.lt_of_le_of_lt (Nat.mul_le_mul_left _ (pow_le2 hb s.length)) (Nat.mul_lt_mul_of_pos_right hc (pow_pos2 _))
    have e0 : (h + 1) * s.length = h * s.length + s.length := by rw [Nat.add_mul, Nat.one_mul]
    have e3 : 2 ^ (m + h * s.length) ≤ 2 ^ (m + (h + 1) * s.length + h) := Nat.pow_le_pow_right (by decide) (by omega)
    have e4 : 2 ^ (m + (h + 1) * (s.length + 1)) = 2 ^ (m + (h + 1) * s.length + h) + 2 ^ (m + (h + 1) * s.length + h) := by
      rw [show m + (h + 1) * (s.length + 1) = m + (h + 1) * s.length + h + 1 by rw [Nat.mul_add]; omega, Nat.pow_succ]; omega
    have e5 := Int.natAbs_add_le (svF t b s * t) (c * b ^ s.length)
    rw [Int.natAbs_mul, Int.natAbs_mul] at e5
    omega
/-- a row and a fraction that are not too great -/
structure VOk (f : List Int) (q : Rat) : Prop where
  len : f.length ≤ 200
  bd : ∀ x ∈ f, x.natAbs < 2 ^ 110
  fr : fb 100 q
theorem VOk.den {f : List Int} {q : Rat} (v : VOk f q) : ((q.den : Int)).natAbs < 2 ^ 100 := by rw [Int.natAbs_natCast]; exact v.fr.2
theorem VOk.sv {f : List Int} {q : Rat} (v : VOk f q) : (svF q.num q.den f).natAbs < 2 ^ 30000 :=
  Nat.lt_of_lt_of_le (svF_bd v.fr.1 v.den f v.bd) (Nat.pow_le_pow_right (by decide) (by have := v.len; omega))
theorem VOk.drop {f : List Int} {q : Rat} (v : VOk f q) (n : Nat) : VOk (f.drop n) q := ⟨by rw [List.length_drop]; have := v.len; omega, fun x hx => v.bd x (List.mem_of_mem_drop hx), v.fr⟩
theorem up_to {x : Nat} {j k : Nat} (h : x < 2 ^ j) (hk : j ≤ k) : x < 2 ^ k := Nat.lt_of_lt_of_le h (Nat.pow_le_pow_right (by decide) hk)
def C_power_of (ds : List D) (d : D) : Prop := ∃ (b : Int) (n : Nat), ds = [.int b, .int n] ∧ b.natAbs < 2 ^ 100 ∧ n ≤ 200 ∧ d = .int (b ^ n)
theorem len_power_of : ∀ ds d, C_power_of ds d → ds.length = 2 := by rintro _ _ ⟨f, q, rfl, _⟩; rfl
def C_row_value (ds : List D) (d : D) : Prop := ∃ (f : List Int) (q : Rat), ds = [rowD f, frD q] ∧ VOk f q ∧ d = frD (evalR f q)
theorem len_row_value : ∀ ds d, C_row_value ds d → ds.length = 2 := by rintro _ _ ⟨f, q, rfl, _⟩; rfl
def C__law_row_value (ds : List D) (d : D) : Prop := ∃ (f : List Int) (q : Rat), ds = [rowD f, frD q] ∧ VOk f q ∧ d = frD (evalR f q)
theorem eval_fb {f : List Int} {q : Rat} (v : VOk f q) : fb 30000 (evalR f q) := by
  by_cases hf : f = []
  · subst hf
    exact ⟨up_to (j := 1) (by show (0 : Rat).num.natAbs < 2 ^ 1; decide) (by decide), up_to (j := 1) (by show (0 : Rat).den < 2 ^ 1; decide) (by decide)⟩
  · rw [← value_row q hf]
    refine fb_divInt (Int.pow_ne_zero (den_ne q)) v.sv (pow_lt2 v.den _ ?_)
    have := v.len; omega
section
variable {P : Program} {w : World} {K : PySem.W.Frag} {mg : Str → Option Value} {base : Heap} {k : Nat} {X : Cx}
theorem b_power_of (h : DefX P w K mg base k N_power_of (defScope s_power_of) X) (m_range : mg "range" = none) :
    ∀ ds d, C_power_of ds d → EvSs X (ds.map Sl.val ++ List.replicate (N_power_of.length - ds.length) Sl.un) (defBody s_power_of) (.rt d) := by
  rintro ds d ⟨b, n, rfl, hb, hn, rfl⟩
  have t := h.at'
  haveI := h.fnT
  have b1 : Blt X (defScope s_power_of) "range" (.type "range") := blt_of (by rw [h.mg']; exact m_range)
  show EvSs X [.val (.int b), .val (.int n), .un, .un] _ _
  refine es_cons (s_set t 2 ev_int) ?_
  refine es_cons (ρ' := [.val (.int b), .val (.int n), .val (.int (b ^ n)), .un]) (s_for t (ei_range1 t b1 (ev_name t 1 rfl) (by omega) (by omega)) (FRun.uptoE (fun i => [.val (.int b), .val (.int n), .val (.int (b ^ i)), .un]) (fun i d hi => ?_) (by rw [Int.pow_zero]; rfl) ?_)) (es_one (s_ret (ev_name t 2 rfl)))
  · obtain ⟨hin, rfl⟩ := range_get hi
    have hi' : i < n := by simpa using hin
    refine ⟨_, eg_name t 3, EvSs.weak (es_one (s_augMul t 2 rfl (ev_name t 0 rfl) (mul_ok_of (k := 30000) (by decide) (pow_lt2 hb i (by omega)) (up_to hb (by decide))))) ?_⟩
    rw [Int.pow_succ]
    exact .keep (.keep (.keep (.forget .nil)))
  · have e : (rangeD 0 (n : Int).toNat).length = n := by simp [rangeD]
    rw [e]
end
end My

set_option linter.all false
set_option autoImplicit false
set_option maxRecDepth 100000
set_option maxHeartbeats 4000000
namespace My
open PySem L2 L2.EV
/-! ### sums -/
def sumN : Nat → (Nat → Int) → Int
  | 0, _ => 0
  | n + 1, h => sumN n h + h n
theorem sumN_front (h : Nat → Int) : ∀ n, sumN (n + 1) h = h 0 + sumN n (fun i => h (i + 1))
  | 0 => by simp [sumN]
  | n + 1 => by
    rw [sumN, sumN_front h n, sumN]; omega
theorem sumN_add (h g : Nat → Int) : ∀ n, sumN n (fun i => h i + g i) = sumN n h + sumN n g
  | 0 => rfl
  | n + 1 => by rw [sumN, sumN_add h g n, sumN, sumN]; omega
theorem sumN_congr {h g : Nat → Int} : ∀ n, (∀ i, i < n → h i = g i) → sumN n h = sumN n g
  | 0, _ => rfl
  | n + 1, e => by rw [sumN, sumN, sumN_congr n (fun i hi => e i (by omega)), e n (by omega)]
theorem sumN_zero : ∀ n, sumN n (fun _ => 0) = 0
  | 0 => rfl
  | n + 1 => by rw [sumN, sumN_zero n]; rfl
/-- a row against a weight -/
def rs : List Int → (Nat → Int) → Int
  | [], _ => 0
  | a :: f, ψ => a * ψ 0 + rs f (fun i => ψ (i + 1))
theorem rs_sum : ∀ (f : List Int) (n : Nat) (ψ : Nat → Int), f.length ≤ n → rs f ψ = sumN n (fun i => f.getD i 0 * ψ i)
  | [], n, ψ, _ => by
    exact ((sumN_congr (g := fun _ => 0) n fun i _ => by simp).trans (sumN_zero n)).symm
  | a :: f, 0, ψ, h => by simp at h
  | a :: f, n + 1, ψ, h => by
    rw [rs, sumN_front, rs_sum f n _ (by simpa using h)]
    rfl
theorem rs_get : ∀ (f : List Int) (i : Nat), rs f (fun j => if j = i then 1 else 0) = f.getD i 0
  | [], i => by simp [rs]
  | a :: f, 0 => by
    have e : rs f (fun j => if j + 1 = 0 then 1 else 0) = 0 := by
      have : (fun j : Nat => if j + 1 = 0 then (1 : Int) else 0) = fun _ => 0 := funext fun j => if_neg (by omega)
      rw [this, rs_sum f f.length _ (Nat.le_refl _)]
      exact (sumN_congr (g := fun _ => 0) _ fun i _ => by simp).trans (sumN_zero _)
    rw [rs, e]; simp
  | a :: f, i + 1 => by
    have e : (fun j : Nat => if j + 1 = i + 1 then (1 : Int) else 0) = fun j => if j = i then 1 else 0 := funext fun j => by
      by_cases h : j = i
      · rw [if_pos h, if_pos (by omega)]
      · rw [if_neg h, if_neg (by omega)]
    rw [rs, e, rs_get f i]; simp
theorem rs_ext {f g : List Int} (h : ∀ i, f.getD i 0 = g.getD i 0) (ψ : Nat → Int) : rs f ψ = rs g ψ := by
  rw [rs_sum f (max f.length g.length) ψ (by omega), rs_sum g (max f.length g.length) ψ (by omega)]
  exact sumN_congr _ fun i _ => by rw [h i]
theorem rs_congr {ψ χ : Nat → Int} : ∀ (f : List Int), (∀ i, i < f.length → ψ i = χ i) → rs f ψ = rs f χ
  | [], _ => rfl
  | a :: f, h => by rw [rs, rs, h 0 (by simp), rs_congr f fun i hi => h (i + 1) (by simpa using hi)]
theorem rs_zero (ψ : Nat → Int) (h : ∀ i, ψ i = 0) (f : List Int) : rs f ψ = 0 := by
  rw [rs_sum f f.length ψ (Nat.le_refl _)]
  exact (sumN_congr (g := fun _ => 0) _ fun i _ => by rw [h i]; simp).trans (sumN_zero _)
theorem rs_set : ∀ (f : List Int) (m : Nat) (v : Int) (ψ : Nat → Int), m < f.length → rs (f.set m v) ψ = rs f ψ + (v - f.getD m 0) * ψ m
  | [], m, v, ψ, h => by simp at h
  | a :: f, 0, v, ψ, _ => by
    show v * ψ 0 + _ = a * ψ 0 + _ + (v - a) * ψ 0
    rw [Int.sub_mul]; omega
  | a :: f, m + 1, v, ψ, h => by
    show a * ψ 0 + rs (f.set m v) _ = a * ψ 0 + rs f _ + (v - f.getD m 0) * ψ (m + 1)
    rw [rs_set f m v _ (by simpa using h)]; omega
theorem rs_addW (ψ χ : Nat → Int) : ∀ (f : List Int), rs f (fun i => ψ i + χ i) = rs f ψ + rs f χ := fun f => by
  rw [rs_sum f f.length _ (Nat.le_refl _), rs_sum f f.length _ (Nat.le_refl _), rs_sum f f.length _ (Nat.le_refl _), ← sumN_add]
  exact sumN_congr _ fun i _ => by rw [Int.mul_add]
/-! ### boards -/
abbrev Bd := List (List Int)
def coef (b : Bd) (i k : Nat) : Int := (b.getD k []).getD i 0
def bs : Bd → (Nat → Nat → Int) → Int
  | [], _ => 0
  | r :: b, φ => rs r (fun i => φ i 0) + bs b (fun i k => φ i (k + 1))
def del2 (i k : Nat) : Nat → Nat → Int := fun a c => if a = i ∧ c = k then 1 else 0
theorem bs_zero : ∀ (b : Bd) (φ : Nat → Nat → Int), (∀ i k, φ i k = 0) → bs b φ = 0
  | [], _, _ => rfl
  | r :: b, φ, h => by rw [bs, rs_zero _ (fun i => h i 0), bs_zero b _ fun i k => h i (k + 1)]; rfl
theorem bs_get : ∀ (b : Bd) (i k : Nat), bs b (del2 i k) = coef b i k
  | [], i, k => by simp [bs, coef]
  | r :: b, i, 0 => by
    rw [bs, bs_zero b (fun a c => del2 i 0 a (c + 1)) fun a c => if_neg (by omega)]
    have e : (fun a : Nat => del2 i 0 a 0) = fun a => if a = i then 1 else 0 := funext fun a => by
      unfold del2
      by_cases h : a = i
      · rw [if_pos ⟨h, rfl⟩, if_pos h]
      · rw [if_neg (fun z => h z.1), if_neg h]
    rw [e, rs_get]; simp [coef]
  | r :: b, i, k + 1 => by
    have e : rs r (fun a => del2 i (k + 1) a 0) = 0 := rs_zero _ (fun a => if_neg (by omega)) r
    have e2 : (fun a c : Nat => del2 i (k + 1) a (c + 1)) = del2 i k := funext fun a => funext fun c => by
      unfold del2
      by_cases h : a = i ∧ c = k
      · rw [if_pos h, if_pos ⟨h.1, by omega⟩]
      · rw [if_neg h, if_neg (fun z => h ⟨z.1, by omega⟩)]
    rw [bs, e, e2, bs_get b i k]; simp [coef]
theorem bs_set : ∀ (b : Bd) (m : Nat) (r : List Int) (φ : Nat → Nat → Int), m < b.length → bs (b.set m r) φ = bs b φ + (rs r (fun i => φ i m) - rs (b.getD m []) (fun i => φ i m))
  | [], m, r, φ, h => by simp at h
  | a :: b, 0, r, φ, _ => by
    show rs r _ + _ = rs a _ + _ + (rs r _ - rs a _)
    omega
  | a :: b, m + 1, r, φ, h => by
    show rs a _ + bs (b.set m r) _ = rs a _ + bs b _ + (rs r _ - rs (b.getD m []) _)
    rw [bs_set b m r _ (by simpa using h)]; omega
theorem bs_sum : ∀ (b : Bd) (n : Nat) (φ : Nat → Nat → Int), b.length ≤ n → bs b φ = sumN n (fun k => rs (b.getD k []) (fun i => φ i k))
  | [], n, φ, _ => by
    exact ((sumN_congr (g := fun _ => 0) n fun i _ => by simp [rs]).trans (sumN_zero n)).symm
  | r :: b, 0, φ, h => by simp at h
  | r :: b, n + 1, φ, h => by
    rw [bs, sumN_front, bs_sum b n _ (by simpa using h)]
    rfl
end My

set_option linter.all false
set_option autoImplicit false
set_option maxRecDepth 100000
set_option maxHeartbeats 4000000
namespace My
open PySem L2 L2.EV
abbrev boardD (b : Bd) : D := .tup (b.map rowD)
abbrev rowsD (b : Bd) : D := .lst (b.map rowD)
def trimB (xs : Bd) : Bd := (xs.reverse.dropWhile (· == [])).reverse
theorem trimB_zero (xs : Bd) : trimB (xs ++ [[]]) = trimB xs := by simp [trimB]
theorem trimB_last {a : List Int} (xs : Bd) (h : a ≠ []) : trimB (xs ++ [a]) = xs ++ [a] := by simp [trimB, h]
theorem trimB_len (xs : Bd) : (trimB xs).length ≤ xs.length := by
  unfold trimB
  rw [List.length_reverse]
  have := (List.dropWhile_sublist (l := xs.reverse) (p := fun x => x == [])).length_le
  rw [List.length_reverse] at this
  exact this
theorem trimB_pre (xs : Bd) : xs.take (trimB xs).length = trimB xs := by
  induction h : xs.length generalizing xs with
  | zero => rw [List.eq_nil_of_length_eq_zero h]; rfl
  | succ n ih =>
    rcases List.eq_nil_or_concat xs with e | ⟨ys, y, e⟩
    · subst e; rfl
    · rw [List.concat_eq_append] at e
      subst e
      by_cases hy : y = []
      · subst hy
        rw [trimB_zero]
        have q := ih ys (by simpa using h)
        have l := trimB_len ys
        rw [List.take_append_of_le_length l]; exact q
      · rw [trimB_last ys hy, List.take_length]
theorem trimB_ok (xs : Bd) : trimB xs = [] ∨ ∃ ys a, trimB xs = ys ++ [a] ∧ a ≠ [] := by
  induction h : xs.length generalizing xs with
  | zero => left; rw [List.eq_nil_of_length_eq_zero h]; rfl
  | succ n ih =>
    rcases List.eq_nil_or_concat xs with e | ⟨ys, y, e⟩
    · subst e; left; rfl
    · rw [List.concat_eq_append] at e
      subst e
      by_cases hy : y = []
      · subst hy; rw [trimB_zero]; exact ih ys (by simpa using h)
      · right; exact ⟨ys, y, trimB_last ys hy, hy⟩
theorem getD_snoc_nil (ys : Bd) (i : Nat) : (ys ++ [[]]).getD i [] = ys.getD i [] := by
  rw [List.getD_eq_getElem?_getD, List.getD_eq_getElem?_getD]
  by_cases h : i < ys.length
  · rw [List.getElem?_append_left h]
  · rw [List.getElem?_append_right (by omega), List.getElem?_eq_none (show ys.length ≤ i by omega)]
    cases (i - ys.length) with
    | zero => rfl
    | succ n => rfl
theorem trimB_getD (xs : Bd) (i : Nat) : (trimB xs).getD i [] = xs.getD i [] := by
  induction h : xs.length generalizing xs with
  | zero => rw [List.eq_nil_of_length_eq_zero h]; rfl
  | succ n ih =>
    rcases List.eq_nil_or_concat xs with e | ⟨ys, y, e⟩
    · subst e; rfl
    · rw [List.concat_eq_append] at e
      subst e
      by_cases hy : y = []
      · subst hy; rw [trimB_zero, ih ys (by simpa using h), getD_snoc_nil]
      · rw [trimB_last ys hy]
theorem mem_trimB {xs : Bd} {x : List Int} (h : x ∈ trimB xs) : x ∈ xs := by
  unfold trimB at h
  rw [List.mem_reverse] at h
  have := (List.dropWhile_sublist (l := xs.reverse) (p := fun x => x == [])).subset h
  exact List.mem_reverse.mp this
theorem cutB_loop {X : Cx} {c : Expr} {body : List Stmt} (R : Nat → Rho) (xs : Bd) (h1 : EvT X (R 0) c false) (h2 : ∀ m (h : m < xs.length), EvT X (R (m + 1)) c (decide (xs[m] = []))) (h3 : ∀ m, EvSs X (R (m + 1)) body (.nx (R m))) :
    ∀ m, m ≤ xs.length → ∃ n, WRun X c body n (R m) (.nx (R (trimB (xs.take m)).length))
  | 0, _ => ⟨0, .stop h1⟩
  | m + 1, hm => by
    have hlt : m < xs.length := hm
    have e : xs.take (m + 1) = xs.take m ++ [xs[m]] := take_snoc (List.getElem?_eq_getElem hlt)
    by_cases hz : xs[m] = []
    · obtain ⟨n, q⟩ := cutB_loop R xs h1 h2 h3 m (by omega)
      refine ⟨n + 1, .step (EvT.eq (h2 m hlt) (decide_eq_true hz)) (h3 m) ?_⟩
      rw [e, hz, trimB_zero]; exact q
    · refine ⟨0, ?_⟩
      rw [e, trimB_last _ hz]
      have el : (xs.take m ++ [xs[m]]).length = m + 1 := by rw [← e, List.length_take]; omega
      rw [el]
      exact .stop (EvT.eq (h2 m hlt) (decide_eq_false hz))
theorem at_map {α : Type} {g : α → D} {xs : List α} {i : Int} {n : Nat} (h0 : 0 ≤ i) (hn : i.toNat = n) (h : n < xs.length) : atI (xs.map g) i = some (g xs[n]) := by
  rw [show i = ((n : Nat) : Int) by omega]
  have e : (xs.map g)[n]? = some (g xs[n]) := by rw [List.getElem?_map, List.getElem?_eq_getElem h]; rfl
  exact atI_nat e
theorem cut_take {α : Type} (xs : List α) (g : α → D) {m : Nat} (h : m ≤ xs.length) : cutD (xs.map g) none (some (m : Int)) = (xs.take m).map g := by
  unfold cutD
  rw [List.length_map]
  have e1 : HT.sIx xs.length 0 none = 0 := by simp [HT.sIx]
  have e2 : HT.sIx xs.length xs.length (some (m : Int)) = m := by
    simp only [HT.sIx]
    split <;> omega
  rw [e1, e2, List.drop_zero, Nat.sub_zero, List.map_take]
def C_without_end (ds : List D) (d : D) : Prop := (∃ xs : List Int, ds = [intsD xs, .int 0] ∧ xs.length < 1000 ∧ d = rowD (trimI xs)) ∨ ∃ xs : Bd, ds = [rowsD xs, .tup []] ∧ xs.length < 1000 ∧ d = boardD (trimB xs)
theorem len_without_end : ∀ ds d, C_without_end ds d → ds.length = 2 := by rintro _ _ (⟨a, rfl, _⟩ | ⟨a, rfl, _⟩) <;> rfl
def C_part_at (ds : List D) (d : D) : Prop := (∃ (f : List Int) (i : Nat), ds = [rowD f, .int i, .int 0] ∧ d = .int (f.getD i 0)) ∨ ∃ (f : Bd) (i : Nat), ds = [boardD f, .int i, .tup []] ∧ d = rowD (f.getD i [])
theorem len_part_at : ∀ ds d, C_part_at ds d → ds.length = 3 := by rintro _ _ (⟨a, b, rfl, _⟩ | ⟨a, b, rfl, _⟩) <;> rfl
def C_board_of (ds : List D) (d : D) : Prop := ∃ xs : Bd, ds = [rowsD xs] ∧ xs.length < 1000 ∧ d = boardD (trimB xs)
theorem len_board_of : ∀ ds d, C_board_of ds d → ds.length = 1 := by rintro _ _ ⟨a, rfl, _⟩; rfl
def plusB (f g : Bd) : Bd := trimB ((List.range (max f.length g.length)).map fun k => plusL (f.getD k []) (g.getD k []))
def SmB (n : Nat) (f : Bd) : Prop := f.length < n ∧ ∀ r ∈ f, r.length < n
def C_board_plus (ds : List D) (d : D) : Prop := ∃ f g : Bd, ds = [boardD f, boardD g] ∧ SmB 1000 f ∧ SmB 1000 g ∧ d = boardD (plusB f g)
theorem len_board_plus : ∀ ds d, C_board_plus ds d → ds.length = 2 := by rintro _ _ ⟨a, b, rfl, _⟩; rfl
def negB (g : Bd) : Bd := g.map fun r => r.map fun x => -x
def C_board_minus (ds : List D) (d : D) : Prop := ∃ f g : Bd, ds = [boardD f, boardD g] ∧ SmB 1000 f ∧ SmB 1000 g ∧ d = boardD (plusB f (negB g))
theorem len_board_minus : ∀ ds d, C_board_minus ds d → ds.length = 2 := by rintro _ _ ⟨a, b, rfl, _⟩; rfl
def innB (f g : Bd) (j : Nat) (acc : Bd) : Nat → Bd
  | 0 => acc
  | k + 1 => (innB f g j acc k).set (j + k) (plusL ((innB f g j acc k).getD (j + k) []) (timesL (f.getD j []) (g.getD k [])))
def outB (f g : Bd) : Nat → Bd
  | 0 => List.replicate (f.length + g.length - 1) []
  | j + 1 => innB f g j (outB f g j) g.length
theorem innB_len (f g : Bd) (j : Nat) (acc : Bd) : ∀ k, (innB f g j acc k).length = acc.length
  | 0 => rfl
  | k + 1 => by rw [innB, List.length_set, innB_len f g j acc k]
theorem outB_len (f g : Bd) : ∀ j, (outB f g j).length = f.length + g.length - 1
  | 0 => List.length_replicate
  | j + 1 => by rw [outB, innB_len, outB_len f g j]
def timesB (f g : Bd) : Bd := if f = [] ∨ g = [] then [] else trimB (outB f g f.length)
theorem getD_mem {xs : Bd} (i : Nat) : xs.getD i [] = [] ∨ xs.getD i [] ∈ xs := by
  rw [List.getD_eq_getElem?_getD]
  by_cases h : i < xs.length
  · right; rw [List.getElem?_eq_getElem h]; exact List.getElem_mem _
  · left; rw [List.getElem?_eq_none (by omega)]; rfl
theorem SmB.get {n : Nat} {f : Bd} (h : SmB n f) (h0 : 0 < n) (i : Nat) : (f.getD i []).length < n := by
  rcases getD_mem (xs := f) i with e | e
  · rw [e]; exact h0
  · exact h.2 _ e
theorem innB_sm {f g : Bd} (hf : SmB 100 f) (hg : SmB 100 g) (j : Nat) {acc : Bd} (ha : ∀ r ∈ acc, r.length < 200) : ∀ k, ∀ r ∈ innB f g j acc k, r.length < 200
  | 0, r, hr => ha r hr
  | k + 1, r, hr => by
    rw [innB] at hr
    rcases List.mem_or_eq_of_mem_set hr with h | h
    · exact innB_sm hf hg j ha k r h
    · subst h
      have h1 := plusL_len ((innB f g j acc k).getD (j + k) []) (timesL (f.getD j []) (g.getD k []))
      have h2 := timesL_len (f.getD j []) (g.getD k [])
      have h3 := hf.get (by omega) j
      have h4 := hg.get (by omega) k
      have h5 : ((innB f g j acc k).getD (j + k) []).length < 200 := by
        rcases getD_mem (xs := innB f g j acc k) (j + k) with e | e
        · rw [e]; decide
        · exact innB_sm hf hg j ha k _ e
      omega
theorem outB_sm {f g : Bd} (hf : SmB 100 f) (hg : SmB 100 g) : ∀ j, ∀ r ∈ outB f g j, r.length < 200
  | 0, r, hr => by rw [outB] at hr; rw [(List.mem_replicate.mp hr).2]; decide
  | j + 1, r, hr => innB_sm hf hg j (outB_sm hf hg j) g.length r hr
def C_board_times (ds : List D) (d : D) : Prop := ∃ f g : Bd, ds = [boardD f, boardD g] ∧ SmB 100 f ∧ SmB 100 g ∧ (∀ r ∈ g, ∀ y ∈ r, -(2 ^ 63) < y ∧ y < 2 ^ 63) ∧ d = boardD (timesB f g)
theorem len_board_times : ∀ ds d, C_board_times ds d → ds.length = 2 := by rintro _ _ ⟨a, b, rfl, _⟩; rfl
section
variable {P : Program} {w : World} {K : PySem.W.Frag} {mg : Str → Option Value} {base : Heap} {k : Nat} {X : Cx}
theorem b_without_end (h : DefX P w K mg base k N_without_end (defScope s_without_end) X) (m_len : mg "len" = none) (m_tuple : mg "tuple" = none) :
    ∀ ds d, C_without_end ds d → EvSs X (ds.map Sl.val ++ List.replicate (N_without_end.length - ds.length) Sl.un) (defBody s_without_end) (.rt d) := by
  have t := h.at'
  haveI := h.fnT
  have b1 : Blt X (defScope s_without_end) "len" (.builtin "len") := blt_of (by rw [h.mg']; exact m_len)
  have b2 : Blt X (defScope s_without_end) "tuple" (.type "tuple") := blt_of (by rw [h.mg']; exact m_tuple)
  rintro ds d (⟨xs, rfl, hl, rfl⟩ | ⟨xs, rfl, hl, rfl⟩)
  · show EvSs X [.val (intsD xs), .val (.int 0), .un] _ _
    refine es_cons (s_set t 2 (EvE.eq (ev_len t b1 (EvE.ql (ev_name t 0 rfl))) (by rw [List.length_map]))) ?_
    refine es_cons (s_while t (cut_loop (fun m => [.val (intsD xs), .val (.int 0), .val (.int (m : Int))]) xs ?_ (fun m hm => ?_) (fun m => ?_) xs.length (Nat.le_refl _))) (es_one (s_ret (EvE.eq (ev_tuple t b2 (EvN.toQ (ev_cutL (EvE.ql (ev_name t 0 rfl)) ev_noPart (ev_part (ev_name t 2 rfl))))) ?_)))
    · exact EvW.toT (ew_andF (EvT.eq (et_gt (ev_name t 2 rfl) ev_int) rfl))
    · refine EvW.toT (ew_andT (EvT.eq (et_gt (ev_name t 2 rfl) ev_int) (decide_eq_true (by omega))) (ew_and1 (et_eqI (ev_ix (EvE.ql (ev_name t 0 rfl)) (ev_sub (ev_name t 2 rfl) ev_int) ?_) (ev_name t 1 rfl))))
      exact at_ints (by omega) (by omega) hm
    · refine EvSs.eq (es_one (s_augSub t 2 rfl ev_int)) ?_
      have e : ((m + 1 : Nat) : Int) - 1 = (m : Int) := by omega
      show Out.nx [_, _, .val (.int (((m + 1 : Nat) : Int) - 1))] = _
      rw [e]
    · rw [List.take_length, cut_take xs D.int (trim_len xs), trim_pre]
  · show EvSs X [.val (rowsD xs), .val (.tup []), .un] _ _
    refine es_cons (s_set t 2 (EvE.eq (ev_len t b1 (EvE.ql (ev_name t 0 rfl))) (by rw [List.length_map]))) ?_
    refine es_cons (s_while t (cutB_loop (fun m => [.val (rowsD xs), .val (.tup []), .val (.int (m : Int))]) xs ?_ (fun m hm => ?_) (fun m => ?_) xs.length (Nat.le_refl _))) (es_one (s_ret (EvE.eq (ev_tuple t b2 (EvN.toQ (ev_cutL (EvE.ql (ev_name t 0 rfl)) ev_noPart (ev_part (ev_name t 2 rfl))))) ?_)))
    · exact EvW.toT (ew_andF (EvT.eq (et_gt (ev_name t 2 rfl) ev_int) rfl))
    · refine EvW.toT (ew_andT (EvT.eq (et_gt (ev_name t 2 rfl) ev_int) (decide_eq_true (by omega))) (ew_and1 (et_eqP t (EvE.p (d := rowD xs[m]) (ev_ix (EvE.ql (ev_name t 0 rfl)) (ev_sub (ev_name t 2 rfl) ev_int) ?_)) (EvE.p (d := rowD []) (ev_name t 1 rfl)) (shaped_row _) (shaped_row _) (eqv_row _ _))))
      exact at_map (by omega) (by omega) hm
    · refine EvSs.eq (es_one (s_augSub t 2 rfl ev_int)) ?_
      have e : ((m + 1 : Nat) : Int) - 1 = (m : Int) := by omega
      show Out.nx [_, _, .val (.int (((m + 1 : Nat) : Int) - 1))] = _
      rw [e]
    · rw [List.take_length, cut_take xs rowD (trimB_len xs), trimB_pre]
theorem b_part_at (h : DefX P w K mg base k N_part_at (defScope s_part_at) X) (m_len : mg "len" = none) :
    ∀ ds d, C_part_at ds d → EvSs X (ds.map Sl.val ++ List.replicate (N_part_at.length - ds.length) Sl.un) (defBody s_part_at) (.rt d) := by
  have t := h.at'
  have b1 : Blt X (defScope s_part_at) "len" (.builtin "len") := blt_of (by rw [h.mg']; exact m_len)
  rintro ds d (⟨f, i, rfl, rfl⟩ | ⟨f, i, rfl, rfl⟩)
  · show EvSs X [.val (rowD f), .val (.int i), .val (.int 0)] _ _
    by_cases hi : i < f.length
    · exact es_one (s_ret (ev_ifT (EvT.eq (et_lt (ev_name t 1 rfl) (ev_len t b1 (EvE.qt (ev_name t 0 rfl)))) (decide_eq_true (by rw [List.length_map]; omega))) (ev_ix (EvE.qt (ev_name t 0 rfl)) (ev_name t 1 rfl) (at_nat hi))))
    · refine es_one (s_ret (ev_ifF (EvT.eq (et_lt (ev_name t 1 rfl) (ev_len t b1 (EvE.qt (ev_name t 0 rfl)))) (decide_eq_false (by rw [List.length_map]; omega))) (EvE.eq (ev_name t 2 rfl) ?_)))
      rw [List.getD_eq_getElem?_getD, List.getElem?_eq_none (by omega)]; rfl
  · show EvSs X [.val (boardD f), .val (.int i), .val (.tup [])] _ _
    by_cases hi : i < f.length
    · refine es_one (s_ret (ev_ifT (EvT.eq (et_lt (ev_name t 1 rfl) (ev_len t b1 (EvE.qt (ev_name t 0 rfl)))) (decide_eq_true (by rw [List.length_map]; omega))) (ev_ix (EvE.qt (ev_name t 0 rfl)) (ev_name t 1 rfl) ?_)))
      rw [at_map (g := rowD) (n := i) (by omega) (by omega) hi, List.getD_eq_getElem?_getD, List.getElem?_eq_getElem hi]; rfl
    · refine es_one (s_ret (ev_ifF (EvT.eq (et_lt (ev_name t 1 rfl) (ev_len t b1 (EvE.qt (ev_name t 0 rfl)))) (decide_eq_false (by rw [List.length_map]; omega))) (EvE.eq (ev_name t 2 rfl) ?_)))
      rw [List.getD_eq_getElem?_getD, List.getElem?_eq_none (by omega)]; rfl
theorem b_row_of (h : DefX P w K mg base k N_row_of (defScope s_row_of) X) (c1 : Callee X "without_end" C_without_end) :
    ∀ ds d, C_row_of ds d → EvSs X (ds.map Sl.val ++ List.replicate (N_row_of.length - ds.length) Sl.un) (defBody s_row_of) (.rt d) := by
  rintro ds d ⟨xs, rfl, hl, rfl⟩
  have t := h.at'
  show EvSs X [.val (intsD xs)] _ _
  exact es_one (s_ret (ev_call t c1 (ea_cons (ev_name t 0 rfl) (ea_cons ev_int ea_nil)) (.inl ⟨xs, rfl, hl, rfl⟩)))
theorem b_board_of (h : DefX P w K mg base k N_board_of (defScope s_board_of) X) (c1 : Callee X "without_end" C_without_end) :
    ∀ ds d, C_board_of ds d → EvSs X (ds.map Sl.val ++ List.replicate (N_board_of.length - ds.length) Sl.un) (defBody s_board_of) (.rt d) := by
  rintro ds d ⟨xs, rfl, hl, rfl⟩
  have t := h.at'
  show EvSs X [.val (rowsD xs)] _ _
  exact es_one (s_ret (ev_call t c1 (ea_cons (ev_name t 0 rfl) (ea_cons (ev_tup ea_nil) ea_nil)) (.inr ⟨xs, rfl, hl, rfl⟩)))
theorem b_row_plus (h : DefX P w K mg base k N_row_plus (defScope s_row_plus) X) (m_max : mg "max" = none) (m_len : mg "len" = none) (m_range : mg "range" = none) (c1 : Callee X "row_of" C_row_of) (c2 : Callee X "part_at" C_part_at) :
    ∀ ds d, C_row_plus ds d → EvSs X (ds.map Sl.val ++ List.replicate (N_row_plus.length - ds.length) Sl.un) (defBody s_row_plus) (.rt d) := by
  rintro ds d ⟨f, g, rfl, hf, hg, rfl⟩
  have t := h.at'
  haveI := h.fnT
  have b1 : Blt X (defScope s_row_plus) "max" (.builtin "max") := blt_of (by rw [h.mg']; exact m_max)
  have b2 : Blt X (defScope s_row_plus) "len" (.builtin "len") := blt_of (by rw [h.mg']; exact m_len)
  have b3 : Blt X (defScope s_row_plus) "range" (.type "range") := blt_of (by rw [h.mg']; exact m_range)
  show EvSs X [.val (rowD f), .val (rowD g), .un] _ _
  refine es_cons (s_set (d := .int ((max f.length g.length : Nat) : Int)) t 2 (EvE.eq (ev_max2 t b1 (ev_len t b2 (EvE.qt (ev_name t 0 rfl))) (ev_len t b2 (EvE.qt (ev_name t 1 rfl)))) (by rw [List.length_map, List.length_map]; congr 1; omega))) ?_
  refine es_one (s_ret (ev_call t c1 (ea_cons (d := intsD ((List.range (max f.length g.length)).map fun i => f.getD i 0 + g.getD i 0)) (EvE.eq (EvN.toE (en_comp (rs := (List.range (max f.length g.length)).map fun i => D.int (f.getD i 0 + g.getD i 0)) t ["f", "g", "many", "power"] (csc (by decide +kernel)) (ei_range1 t b3 (ev_name t 2 rfl) (by omega) (by omega)) (by simp [rangeD]; exact small (by omega)) fun X' cx => ?_)) (by show D.lst _ = D.lst _; rw [List.map_map]; rfl)) ea_nil) ⟨_, rfl, by rw [List.length_map, List.length_range]; omega, rfl⟩))
  rw [Int.toNat_natCast]
  exact CRun.gen (fun (i : Nat) => D.int (0 + (i : Int))) _ (fun (i : Nat) => [.val (rowD f), .val (rowD g), .val (.int ((max f.length g.length : Nat) : Int)), .val (.int (i : Int))]) _ _ (fun x hx => by rw [Int.zero_add]; exact egn_name cx.at' 3) (fun x hx y hy => by rw [Int.zero_add]; exact egn_name cx.at' 3) fun x hx =>
    ev_add (ev_call cx.at' (cx.callee c2) (ea_cons (ev_name cx.at' 0 rfl) (ea_cons (ev_name cx.at' 3 rfl) (ea_cons ev_int ea_nil))) (.inl ⟨f, x, rfl, rfl⟩)) (ev_call cx.at' (cx.callee c2) (ea_cons (ev_name cx.at' 1 rfl) (ea_cons (ev_name cx.at' 3 rfl) (ea_cons ev_int ea_nil))) (.inl ⟨g, x, rfl, rfl⟩))
theorem b_board_plus (h : DefX P w K mg base k N_board_plus (defScope s_board_plus) X) (m_max : mg "max" = none) (m_len : mg "len" = none) (m_range : mg "range" = none) (c1 : Callee X "board_of" C_board_of) (c2 : Callee X "row_plus" C_row_plus) (c3 : Callee X "part_at" C_part_at) :
    ∀ ds d, C_board_plus ds d → EvSs X (ds.map Sl.val ++ List.replicate (N_board_plus.length - ds.length) Sl.un) (defBody s_board_plus) (.rt d) := by
  rintro ds d ⟨f, g, rfl, hf, hg, rfl⟩
  have t := h.at'
  haveI := h.fnT
  have b1 : Blt X (defScope s_board_plus) "max" (.builtin "max") := blt_of (by rw [h.mg']; exact m_max)
  have b2 : Blt X (defScope s_board_plus) "len" (.builtin "len") := blt_of (by rw [h.mg']; exact m_len)
  have b3 : Blt X (defScope s_board_plus) "range" (.type "range") := blt_of (by rw [h.mg']; exact m_range)
  have lf := hf.1
  have lg := hg.1
  show EvSs X [.val (boardD f), .val (boardD g), .un] _ _
  refine es_cons (s_set (d := .int ((max f.length g.length : Nat) : Int)) t 2 (EvE.eq (ev_max2 t b1 (ev_len t b2 (EvE.qt (ev_name t 0 rfl))) (ev_len t b2 (EvE.qt (ev_name t 1 rfl)))) (by rw [List.length_map, List.length_map]; congr 1; omega))) ?_
  refine es_one (s_ret (ev_call t c1 (ea_cons (d := rowsD ((List.range (max f.length g.length)).map fun k => plusL (f.getD k []) (g.getD k []))) (EvE.eq (EvN.toE (en_comp (rs := (List.range (max f.length g.length)).map fun k => rowD (plusL (f.getD k []) (g.getD k []))) t ["f", "g", "many", "power"] (csc (by decide +kernel)) (ei_range1 t b3 (ev_name t 2 rfl) (by omega) (by omega)) (by simp [rangeD]; exact small (by omega)) fun X' cx => ?_)) (by show D.lst _ = D.lst _; rw [List.map_map]; rfl)) ea_nil) ⟨_, rfl, by rw [List.length_map, List.length_range]; omega, rfl⟩))
  rw [Int.toNat_natCast]
  exact CRun.gen (fun (i : Nat) => D.int (0 + (i : Int))) _ (fun (i : Nat) => [.val (boardD f), .val (boardD g), .val (.int ((max f.length g.length : Nat) : Int)), .val (.int (i : Int))]) _ _ (fun x hx => by rw [Int.zero_add]; exact egn_name cx.at' 3) (fun x hx y hy => by rw [Int.zero_add]; exact egn_name cx.at' 3) fun x hx =>
    ev_call cx.at' (cx.callee c2) (ea_cons (ev_call cx.at' (cx.callee c3) (ea_cons (ev_name cx.at' 0 rfl) (ea_cons (ev_name cx.at' 3 rfl) (ea_cons (ev_tup ea_nil) ea_nil))) (.inr ⟨f, x, rfl, rfl⟩)) (ea_cons (ev_call cx.at' (cx.callee c3) (ea_cons (ev_name cx.at' 1 rfl) (ea_cons (ev_name cx.at' 3 rfl) (ea_cons (ev_tup ea_nil) ea_nil))) (.inr ⟨g, x, rfl, rfl⟩)) ea_nil)) ⟨_, _, rfl, hf.get (by omega) x, hg.get (by omega) x, rfl⟩
theorem b_board_minus (h : DefX P w K mg base k N_board_minus (defScope s_board_minus) X) (m_tuple : mg "tuple" = none) (c1 : Callee X "board_plus" C_board_plus) (c2 : Callee X "other_sign" C_other_sign) :
    ∀ ds d, C_board_minus ds d → EvSs X (ds.map Sl.val ++ List.replicate (N_board_minus.length - ds.length) Sl.un) (defBody s_board_minus) (.rt d) := by
  rintro ds d ⟨f, g, rfl, hf, hg, rfl⟩
  have t := h.at'
  haveI := h.fnT
  have b1 : Blt X (defScope s_board_minus) "tuple" (.type "tuple") := blt_of (by rw [h.mg']; exact m_tuple)
  show EvSs X [.val (boardD f), .val (boardD g)] _ _
  refine es_one (s_ret (ev_call t c1 (ea_cons (ev_name t 0 rfl) (ea_cons (d := boardD (negB g)) (EvE.eq (ev_tuple t b1 (EvN.toQ (en_comp (rs := g.map fun r => rowD (r.map fun x => -x)) t ["f", "g", "row"] (csc (by decide +kernel)) (ei_tup (ev_name t 1 rfl)) (by rw [List.length_map]; exact small hg.1) fun X' cx => ?_))) (by show D.tup _ = D.tup _; unfold negB; rw [List.map_map]; rfl)) ea_nil)) ⟨f, negB g, rfl, hf, ?_, rfl⟩))
  · exact CRun.gen rowD _ (fun r => [.val (boardD f), .val (boardD g), .val (rowD r)]) _ _ (fun x hx => egn_name cx.at' 2) (fun x hx y hy => egn_name cx.at' 2) fun x hx =>
      ev_call cx.at' (cx.callee c2) (ea_cons (ev_name cx.at' 2 rfl) ea_nil) ⟨x, rfl, hg.2 x hx, rfl⟩
  · unfold negB
    refine ⟨by rw [List.length_map]; exact hg.1, fun r hr => ?_⟩
    obtain ⟨q, hq, rfl⟩ := List.mem_map.mp hr
    rw [List.length_map]; exact hg.2 q hq
theorem rep_rows (n : Nat) : (List.replicate n [D.tup []]).flatten = (List.replicate n ([] : List Int)).map rowD := by
  induction n with
  | zero => rfl
  | succ n ih => rw [List.replicate_succ, List.flatten_cons, ih, List.replicate_succ, List.map_cons]; rfl
theorem eqv_board0 (f : Bd) : (toP (boardD f)).eqv (toP (.tup [])) = decide (f = []) := by
  show (PyData.tuple (toPs (f.map rowD))).eqv (.tuple (toPs [])) = _
  cases f with
  | nil => simp [toPs, PyData.eqv, PyData.eqvAll]
  | cons r f => simp [toPs, PyData.eqv, PyData.eqvAll]
end
/-- plain data: may be compared, equals itself -/
def Fn (n : Nat) (d : D) : Prop := (toP d).canLay0 = true ∧ (toP d).depth ≤ n ∧ (toP d).eqv (toP d) = true
theorem Fn.int (i : Int) : Fn 1 (.int i) := ⟨rfl, by simp [toP, PyData.depth], by simp [toP, PyData.eqv]⟩
theorem Fn.all {n : Nat} : ∀ {xs : List D}, (∀ x ∈ xs, Fn n x) → PyData.canLayAll0 (toPs xs) = true ∧ PyData.depthAll (toPs xs) ≤ n ∧ PyData.eqvAll (toPs xs) (toPs xs) = true
  | [], _ => ⟨rfl, by simp [toPs, PyData.depthAll], by simp [toPs, PyData.eqvAll]⟩
  | x :: xs, h => by
    obtain ⟨a1, a2, a3⟩ := h x (by simp)
    obtain ⟨b1, b2, b3⟩ := Fn.all (xs := xs) fun y hy => h y (by simp [hy])
    refine ⟨?_, ?_, ?_⟩
    · simp only [toPs, PyData.canLayAll0, a1, b1]; rfl
    · simp only [toPs, PyData.depthAll]; omega
    · simp only [toPs, PyData.eqvAll, a3, b3]; rfl
theorem Fn.tup {n : Nat} {xs : List D} (h : ∀ x ∈ xs, Fn n x) : Fn (n + 1) (.tup xs) := by
  obtain ⟨b1, b2, b3⟩ := Fn.all h
  exact ⟨by simp only [toP, PyData.canLay0]; exact b1, by simp only [toP, PyData.depth]; omega, by simp only [toP, PyData.eqv]; exact b3⟩
theorem Fn.lst {n : Nat} {xs : List D} (h : ∀ x ∈ xs, Fn n x) : Fn (n + 1) (.lst xs) := by
  obtain ⟨b1, b2, b3⟩ := Fn.all h
  exact ⟨by simp only [toP, PyData.canLay0]; exact b1, by simp only [toP, PyData.depth]; omega, by simp only [toP, PyData.eqv]; exact b3⟩
theorem Fn.sh {n : Nat} {d : D} (h : Fn n d) (hn : n ≤ 64) : SeqAt.shaped (toP d) = true := by
  show ((toP d).canLay0 && decide ((toP d).depth ≤ 64)) = true
  rw [h.1, decide_eq_true (Nat.le_trans h.2.1 hn)]; rfl
theorem fn_row (r : List Int) : Fn 2 (rowD r) := Fn.tup fun x hx => by
  obtain ⟨i, _, rfl⟩ := List.mem_map.mp hx; exact Fn.int i
theorem fn_board (b : Bd) : Fn 3 (boardD b) := Fn.tup fun x hx => by
  obtain ⟨r, _, rfl⟩ := List.mem_map.mp hx; exact fn_row r
theorem fn_rows (b : Bd) : Fn 3 (rowsD b) := Fn.lst fun x hx => by
  obtain ⟨r, _, rfl⟩ := List.mem_map.mp hx; exact fn_row r
theorem shaped_board (f : Bd) : SeqAt.shaped (toP (boardD f)) = true := (fn_board f).sh (by decide)
/-! two that are the same -/
section
variable {X : Cx} {ρ : Rho} {a b : Expr} {d : D} {pos : Pos} {N : List Str} {sc : Scope}
theorem et_same {n : Nat} (t : At X N sc) (f : Fn n d) (ha : EvE X ρ a d) (hb : EvE X ρ b d) (hn : n ≤ 64 := by decide) : EvT X ρ (.Compare a [.NotEq] [b] pos) false :=
  et_neP t ha.p hb.p (f.sh hn) (f.sh hn) (by rw [f.2.2]; rfl)
end
section
variable {P : Program} {w : World} {K : PySem.W.Frag} {mg : Str → Option Value} {base : Heap} {k : Nat} {X : Cx}
theorem b_board_times (h : DefX P w K mg base k N_board_times (defScope s_board_times) X) (m_enumerate : mg "enumerate" = none) (m_len : mg "len" = none) (c1 : Callee X "board_of" C_board_of) (c2 : Callee X "row_plus" C_row_plus) (c3 : Callee X "row_times" C_row_times) :
    ∀ ds d, C_board_times ds d → EvSs X (ds.map Sl.val ++ List.replicate (N_board_times.length - ds.length) Sl.un) (defBody s_board_times) (.rt d) := by
  rintro ds d ⟨f, g, rfl, hf, hg, hb, rfl⟩
  have t := h.at'
  haveI := h.fnT
  have b1 : Blt X (defScope s_board_times) "enumerate" (.type "enumerate") := blt_of (by rw [h.mg']; exact m_enumerate) rfl (by decide +kernel)
  have b2 : Blt X (defScope s_board_times) "len" (.builtin "len") := blt_of (by rw [h.mg']; exact m_len)
  have s0 : SeqAt.shaped (toP (.tup [])) = true := shaped_row []
  show EvSs X [.val (boardD f), .val (boardD g), .un, .un, .un, .un, .un] _ _
  by_cases h1 : f = []
  · refine es_ret (s_ifT (EvW.toT (ew_orT (et_eqP t (EvE.p (ev_name t 0 rfl)) (EvE.p (d := .tup []) (ev_tup ea_nil)) (shaped_board _) s0 (by rw [eqv_board0, h1]; rfl)))) (es_one (s_ret (EvE.eq (d := .tup []) (ev_tup ea_nil) ?_))))
    unfold timesB; rw [if_pos (.inl h1)]; rfl
  by_cases h2 : g = []
  · refine es_ret (s_ifT (EvW.toT (ew_orF (et_eqP t (EvE.p (ev_name t 0 rfl)) (EvE.p (d := .tup []) (ev_tup ea_nil)) (shaped_board _) s0 (by rw [eqv_board0, decide_eq_false h1])) (ew_or1 (et_eqP t (EvE.p (ev_name t 1 rfl)) (EvE.p (d := .tup []) (ev_tup ea_nil)) (shaped_board _) s0 (by rw [eqv_board0, h2]; rfl))))) (es_one (s_ret (EvE.eq (d := .tup []) (ev_tup ea_nil) ?_))))
    unfold timesB; rw [if_pos (.inr h2)]; rfl
  have et : timesB f g = trimB (outB f g f.length) := by unfold timesB; rw [if_neg (fun z => z.elim h1 h2)]
  have lf := List.length_pos_iff.mpr h1
  have lg := List.length_pos_iff.mpr h2
  have lf' := hf.1
  have lg' := hg.1
  refine es_cons (s_ifF (EvW.toT (ew_orF (et_eqP t (EvE.p (ev_name t 0 rfl)) (EvE.p (d := .tup []) (ev_tup ea_nil)) (shaped_board _) s0 (by rw [eqv_board0, decide_eq_false h1])) (ew_or1 (et_eqP t (EvE.p (ev_name t 1 rfl)) (EvE.p (d := .tup []) (ev_tup ea_nil)) (shaped_board _) s0 (by rw [eqv_board0, decide_eq_false h2]))))) es_nil) ?_
  have en : ((f.length : Int) + g.length - 1).toNat = f.length + g.length - 1 := by omega
  refine es_cons (s_setN (xs := (outB f g 0).map rowD) t 2 (EvN.eq (en_rep (n := (f.length : Int) + g.length - 1) (EvN.toE (en_lst (ea_cons (ev_tup ea_nil) ea_nil))) (EvE.eq (ev_sub (ev_add (ev_len t b2 (EvE.qt (ev_name t 0 rfl))) (ev_len t b2 (EvE.qt (ev_name t 1 rfl)))) ev_int) (by rw [List.length_map, List.length_map])) (by omega) (by omega) (by rw [en]; have := lineN; simp; omega)) (by rw [en, rep_rows]; rfl))) ?_
  refine es_cons (ρ' := [.val (boardD f), .val (boardD g), .own ((outB f g f.length).map rowD), .un, .un, .un, .un]) (s_for t (ei_enum t b1 (ev_name t 0 rfl)) (FRun.uptoE (fun i => [.val (boardD f), .val (boardD g), .own ((outB f g i).map rowD), .un, .un, .un, .un]) (fun i d hi => ?_) rfl ?_)) ?_
  · obtain ⟨e, he, rfl⟩ := enumD_get hi
    rw [List.getElem?_map] at he
    cases hx : f[i]? with
    | none => rw [hx] at he; cases he
    | some x =>
    rw [hx] at he; cases he
    have hi' : i < f.length := (List.getElem?_eq_some_iff.mp hx).1
    have ex : f.getD i [] = x := by rw [List.getD_eq_getElem?_getD, hx]; rfl
    refine ⟨_, eg_tup2 t 3 4, EvSs.weak (ρ1 := [.val (boardD f), .val (boardD g), .own ((outB f g (i + 1)).map rowD), .val (.int i), .val (rowD x), .un, .un]) (es_one (s_for t (ei_enum t b1 (ev_name t 1 rfl))
      (FRun.uptoE (fun j => [.val (boardD f), .val (boardD g), .own ((innB f g i (outB f g i) j).map rowD), .val (.int i), .val (rowD x), .un, .un]) (fun j d hj => ?_) rfl ?_))) (.keep (.keep (.keep (.forget (.forget (.keep (.keep .nil)))))))⟩
    · obtain ⟨e, he, rfl⟩ := enumD_get hj
      rw [List.getElem?_map] at he
      cases hy : g[j]? with
      | none => rw [hy] at he; cases he
      | some y =>
      rw [hy] at he; cases he
      have hj' : j < g.length := (List.getElem?_eq_some_iff.mp hy).1
      have ey : g.getD j [] = y := by rw [List.getD_eq_getElem?_getD, hy]; rfl
      have hl : (innB f g i (outB f g i) j).length = f.length + g.length - 1 := by rw [innB_len, outB_len]
      have hlt : i + j < (innB f g i (outB f g i) j).length := by omega
      have e1 : ((i : Int) + (j : Int)) = ((i + j : Nat) : Int) := by omega
      have hix : atI ((innB f g i (outB f g i) j).map rowD) ((i : Int) + (j : Int)) = some (rowD ((innB f g i (outB f g i) j).getD (i + j) [])) := by
        rw [at_map (g := rowD) (n := i + j) (by omega) (by omega) hlt, List.getD_eq_getElem?_getD, List.getElem?_eq_getElem hlt]; rfl
      have h3 := hf.get (by omega) i
      have h4 := hg.get (by omega) j
      have h5 : ((innB f g i (outB f g i) j).getD (i + j) []).length < 200 := by
        rcases getD_mem (xs := innB f g i (outB f g i) j) (i + j) with e | e
        · rw [e]; decide
        · exact innB_sm hf hg i (outB_sm hf hg i) j _ e
      have h6 := timesL_len (f.getD i []) (g.getD j [])
      rw [ex] at h3 h6
      rw [ey] at h4 h6
      refine ⟨_, eg_tup2 t 5 6, EvSs.weak (es_one (s_asg t (ev_call t c2 (ea_cons (ev_ix (ev_own t 2 rfl) (ev_add (ev_name t 3 rfl) (ev_name t 5 rfl)) hix) (ea_cons (ev_call t c3 (ea_cons (ev_name t 4 rfl) (ea_cons (ev_name t 6 rfl) ea_nil)) ⟨x, y, rfl, h3, h4, hb y (List.mem_of_getElem? hy), rfl⟩) ea_nil)) ⟨_, _, rfl, by omega, by omega, rfl⟩) (eg_item (j := i + j) t 2 rfl (ev_add (ev_name t 3 rfl) (ev_name t 5 rfl)) ?_))) ?_⟩
      · rw [List.length_map]; exact ix_nat (by omega) (by omega) (by omega)
      · rw [innB, List.map_set, ex, ey]
        exact .keep (.keep (.keep (.keep (.keep (.forget (.forget .nil))))))
    · rw [enumD_len, List.length_map]; rfl
  · rw [enumD_len, List.length_map]
  · refine es_freeze 2 rfl (es_one (s_ret (EvE.eq (ev_call t c1 (ea_cons (ev_name t 2 rfl) ea_nil) ⟨outB f g f.length, rfl, by rw [outB_len]; omega, rfl⟩) ?_)))
    rw [et]
end
end My

set_option linter.all false
set_option autoImplicit false
set_option maxRecDepth 100000
set_option maxHeartbeats 4000000
namespace My
open PySem L2 L2.EV
/-! ### dicts of parts -/
abbrev nk (i k : Nat) : List Int := [(i : Int), (k : Int)]
theorem nk_inj {i k a c : Nat} (h : nk i k = nk a c) : i = a ∧ k = c := by
  have h1 := (List.cons.inj h).1
  have h2 := (List.cons.inj (List.cons.inj h).2).1
  omega
def ds : KVs → (Nat → Nat → Int) → Int
  | [], _ => 0
  | p :: r, φ => p.2 * φ (p.1.getD 0 0).toNat (p.1.getD 1 0).toNat + ds r φ
structure KOk (kvs : KVs) : Prop where
  keys : ∀ p ∈ kvs, ∃ i k : Nat, p.1 = nk i k
  nd : (kvs.map (·.1)).Nodup
theorem KOk.nil : KOk [] := ⟨fun _ h => (nomatch h), List.nodup_nil⟩
theorem valI_cons (p : List Int × Int) (r : KVs) (k : List Int) : valI (p :: r) k = if p.1 = k then some p.2 else valI r k := by
  unfold valI
  rw [List.find?_cons]
  by_cases h : p.1 = k
  · rw [if_pos h, decide_eq_true h]; rfl
  · rw [if_neg h, decide_eq_false h]
theorem valI_none {k : List Int} : ∀ {kvs : KVs}, (∀ p ∈ kvs, p.1 ≠ k) → valI kvs k = none
  | [], _ => rfl
  | p :: r, h => by rw [valI_cons, if_neg (h p (by simp)), valI_none fun q hq => h q (by simp [hq])]
theorem valI_mem {k : List Int} {v : Int} : ∀ {kvs : KVs}, (kvs.map (·.1)).Nodup → (k, v) ∈ kvs → valI kvs k = some v
  | [], _, h => nomatch h
  | p :: r, nd, h => by
    rw [List.map_cons, List.nodup_cons] at nd
    rw [valI_cons]
    rcases List.mem_cons.mp h with e | h
    · rw [← e, if_pos rfl]
    · have hm : k ∈ r.map (·.1) := List.mem_map.mpr ⟨_, h, rfl⟩
      rw [if_neg (fun z : p.1 = k => nd.1 (by rw [z]; exact hm)), valI_mem nd.2 h]
theorem valI_some {k : List Int} {v : Int} : ∀ {kvs : KVs}, valI kvs k = some v → (k, v) ∈ kvs
  | [], h => by cases h
  | p :: r, h => by
    rw [valI_cons] at h
    by_cases e : p.1 = k
    · rw [if_pos e] at h; cases h; rw [← e]; simp
    · rw [if_neg e] at h; simp [valI_some h]
theorem putI_mem {kvs : KVs} {k : List Int} {v : Int} {q : List Int × Int} (h : q ∈ putI kvs k v) : q = (k, v) ∨ q ∈ kvs := by
  unfold putI at h
  split at h
  · obtain ⟨p, hp, e⟩ := List.mem_map.mp h
    by_cases z : p.1 = k
    · rw [if_pos z] at e; left; rw [← e, z]
    · rw [if_neg z] at e; right; rw [← e]; exact hp
  · rcases List.mem_append.mp h with h | h
    · exact .inr h
    · exact .inl (List.mem_singleton.mp h)
theorem putI_keys {kvs : KVs} {k : List Int} {v : Int} : (putI kvs k v).map (·.1) = if (valI kvs k).isSome = true then kvs.map (·.1) else kvs.map (·.1) ++ [k] := by
  unfold putI
  split
  · rw [List.map_map]
    refine List.map_congr_left fun p _ => ?_
    show (if p.1 = k then (p.1, v) else p).1 = p.1
    split <;> rfl
  · rw [List.map_append]; rfl
theorem KOk.put {kvs : KVs} (h : KOk kvs) (i k : Nat) (v : Int) : KOk (putI kvs (nk i k) v) := by
  refine ⟨fun p hp => ?_, ?_⟩
  · rcases putI_mem hp with e | e
    · exact ⟨i, k, by rw [e]⟩
    · exact h.keys p e
  · rw [putI_keys]
    split
    · exact h.nd
    · rename_i hn
      refine List.nodup_append.mpr ⟨h.nd, by simp, fun a ha b hb e => hn ?_⟩
      rw [List.mem_singleton] at hb
      subst hb e
      obtain ⟨p, hp, e⟩ := List.mem_map.mp ha
      have : valI kvs p.1 = some p.2 := valI_mem h.nd hp
      rw [← e, this]; rfl
theorem ds_append (φ : Nat → Nat → Int) : ∀ (a b : KVs), ds (a ++ b) φ = ds a φ + ds b φ
  | [], b => by simp [ds]
  | p :: a, b => by rw [List.cons_append, ds, ds, ds_append φ a b]; omega
theorem ds_repl (φ : Nat → Nat → Int) (i k : Nat) (v : Int) : ∀ (kvs : KVs), (kvs.map (·.1)).Nodup → ds (kvs.map fun p => if p.1 = nk i k then (p.1, v) else p) φ = ds kvs φ + (match valI kvs (nk i k) with | some o => (v - o) * φ i k | none => 0)
  | [], _ => rfl
  | p :: r, nd => by
    rw [List.map_cons, List.nodup_cons] at nd
    rw [List.map_cons, ds, ds, ds_repl φ i k v r nd.2, valI_cons]
    by_cases e : p.1 = nk i k
    · rw [if_pos e, if_pos e, valI_none fun q hq z => nd.1 (by rw [e, ← z]; exact List.mem_map.mpr ⟨_, hq, rfl⟩)]
      have e1 : (p.1.getD 0 0).toNat = i := by rw [e]; simp
      have e2 : (p.1.getD 1 0).toNat = k := by rw [e]; simp
      simp only [e1, e2]
      rw [Int.sub_mul]; omega
    · rw [if_neg e, if_neg e]; omega
theorem ds_put {kvs : KVs} (h : KOk kvs) (i k : Nat) (v : Int) (φ : Nat → Nat → Int) : ds (putI kvs (nk i k) v) φ = ds kvs φ + (v - (valI kvs (nk i k)).getD 0) * φ i k := by
  unfold putI
  cases e : valI kvs (nk i k) with
  | none =>
    rw [if_neg (by simp), ds_append]
    show ds kvs φ + (v * φ i k + 0) = _
    simp
  | some o =>
    rw [if_pos (by rfl), ds_repl φ i k v kvs h.nd, e]; rfl
/-- a dict's board -/
def boardOf (kvs : KVs) : Bd := trimB ((List.range 9).map fun k => trimI ((List.range 9).map fun i => (valI kvs (nk i k)).getD 0))
def BoardOk (b : Bd) : Prop := (b = [] ∨ ∃ ys a, b = ys ++ [a] ∧ a ≠ []) ∧ ∀ r ∈ b, RowOk r
theorem range_getD (n i : Nat) (h : Nat → Int) : ((List.range n).map h).getD i 0 = if i < n then h i else 0 := by
  rw [List.getD_eq_getElem?_getD, List.getElem?_map]
  by_cases e : i < n
  · rw [if_pos e, List.getElem?_range e]; rfl
  · rw [if_neg e, List.getElem?_eq_none (by simpa using e)]; rfl
theorem range_getB (n i : Nat) (h : Nat → List Int) : ((List.range n).map h).getD i [] = if i < n then h i else [] := by
  rw [List.getD_eq_getElem?_getD, List.getElem?_map]
  by_cases e : i < n
  · rw [if_pos e, List.getElem?_range e]; rfl
  · rw [if_neg e, List.getElem?_eq_none (by simpa using e)]; rfl
theorem coef_boardOf (kvs : KVs) (i k : Nat) : coef (boardOf kvs) i k = if i < 9 ∧ k < 9 then (valI kvs (nk i k)).getD 0 else 0 := by
  unfold coef boardOf
  rw [trimB_getD, range_getB]
  by_cases hk : k < 9
  · rw [if_pos hk, trim_getD, range_getD]
    by_cases hi : i < 9
    · rw [if_pos hi, if_pos ⟨hi, hk⟩]
    · rw [if_neg hi, if_neg (fun z => hi z.1)]
  · rw [if_neg hk, if_neg (fun z => hk z.2)]; rfl
theorem trimB_BoardOk {xs : Bd} (h : ∀ r ∈ xs, RowOk r) : BoardOk (trimB xs) := ⟨trimB_ok xs, fun r hr => h r (mem_trimB hr)⟩
theorem boardOf_ok (kvs : KVs) : BoardOk (boardOf kvs) := trimB_BoardOk fun r hr => by
  obtain ⟨k, _, rfl⟩ := List.mem_map.mp hr; exact trimOk _
theorem RowOk.nil : RowOk [] := .inl rfl
theorem BoardOk.row {b : Bd} (h : BoardOk b) (k : Nat) : RowOk (b.getD k []) := by
  rcases getD_mem (xs := b) k with e | e
  · rw [e]; exact .nil
  · exact h.2 _ e
/-! ### what the program's boards weigh -/
theorem plusL_get (f g : List Int) (i : Nat) : (plusL f g).getD i 0 = f.getD i 0 + g.getD i 0 := by
  unfold plusL
  rw [trim_getD, range_getD]
  by_cases h : i < max f.length g.length
  · rw [if_pos h]
  · rw [if_neg h, getD_over (show f.length ≤ i by omega), getD_over (show g.length ≤ i by omega)]; rfl
theorem plusL_ok (f g : List Int) : RowOk (plusL f g) := trimOk _
theorem coef_plusB (f g : Bd) (i k : Nat) : coef (plusB f g) i k = coef f i k + coef g i k := by
  unfold coef plusB
  rw [trimB_getD, range_getB]
  by_cases h : k < max f.length g.length
  · rw [if_pos h, plusL_get]
  · rw [if_neg h]
    have e1 : f.getD k [] = [] := by rw [List.getD_eq_getElem?_getD, List.getElem?_eq_none (by omega)]; rfl
    have e2 : g.getD k [] = [] := by rw [List.getD_eq_getElem?_getD, List.getElem?_eq_none (by omega)]; rfl
    rw [e1, e2]; rfl
theorem plusB_ok (f g : Bd) : BoardOk (plusB f g) := trimB_BoardOk fun r hr => by
  obtain ⟨k, _, rfl⟩ := List.mem_map.mp hr; exact plusL_ok _ _
theorem coef_negB (g : Bd) (i k : Nat) : coef (negB g) i k = - coef g i k := by
  unfold coef negB
  have e : (g.map fun r => r.map fun x => -x).getD k [] = (g.getD k []).map fun x => -x := by
    rw [List.getD_eq_getElem?_getD, List.getElem?_map, List.getD_eq_getElem?_getD]
    cases g[k]? <;> rfl
  rw [e]; exact map_getD (φ := fun x => -x) rfl _ i
theorem rs_plus (f g : List Int) (ψ : Nat → Int) : rs (plusL f g) ψ = rs f ψ + rs g ψ := by
  have hl := plusL_len f g
  rw [rs_sum (plusL f g) (max f.length g.length) ψ hl, rs_sum f (max f.length g.length) ψ (by omega), rs_sum g (max f.length g.length) ψ (by omega), ← sumN_add]
  exact sumN_congr _ fun i _ => by rw [plusL_get, Int.add_mul]
theorem sumN_mul (c : Int) (h : Nat → Int) : ∀ n, sumN n (fun i => c * h i) = c * sumN n h
  | 0 => by simp [sumN]
  | n + 1 => by rw [sumN, sumN_mul c h n, sumN, Int.mul_add]
theorem rs_inn (f g : List Int) (i : Nat) (acc : List Int) (ψ : Nat → Int) : ∀ j, i + j ≤ acc.length → rs (inn f g i acc j) ψ = rs acc ψ + sumN j (fun a => f.getD i 0 * (g.getD a 0 * ψ (i + a)))
  | 0, _ => by simp [inn, sumN]
  | j + 1, h => by
    rw [inn, rs_set _ _ _ _ (by rw [inn_len]; omega), rs_inn f g i acc ψ j (by omega), sumN]
    have e : (inn f g i acc j).getD (i + j) 0 + f.getD i 0 * g.getD j 0 - (inn f g i acc j).getD (i + j) 0 = f.getD i 0 * g.getD j 0 := by omega
    rw [e, Int.mul_assoc]; omega
theorem rs_reps (n : Nat) (ψ : Nat → Int) : rs (List.replicate n 0) ψ = 0 := by
  have h : ∀ i, (List.replicate n (0 : Int)).getD i 0 = ([] : List Int).getD i 0 := fun i => by
    rw [List.getD_eq_getElem?_getD, List.getElem?_replicate]
    split <;> simp
  rw [rs_ext h]; rfl
theorem rs_outp (f g : List Int) (ψ : Nat → Int) : ∀ i, i ≤ f.length → rs (outp f g i) ψ = sumN i (fun j => f.getD j 0 * rs g (fun a => ψ (j + a)))
  | 0, _ => by rw [outp]; exact rs_reps _ _
  | i + 1, h => by
    rw [outp, rs_inn _ _ _ _ _ _ (by rw [outp_len]; omega), rs_outp f g ψ i (by omega), sumN, sumN_mul, rs_sum g g.length _ (Nat.le_refl _)]
theorem rs_times (f g : List Int) (ψ : Nat → Int) : rs (timesL f g) ψ = rs f (fun i => rs g (fun a => ψ (i + a))) := by
  unfold timesL
  rw [rs_ext (trim_getD _), rs_outp f g ψ f.length (Nat.le_refl _), rs_sum f f.length _ (Nat.le_refl _)]
theorem bs_trim (b : Bd) (φ : Nat → Nat → Int) : bs (trimB b) φ = bs b φ := by
  rw [bs_sum (trimB b) b.length φ (trimB_len b), bs_sum b b.length φ (Nat.le_refl _)]
  exact sumN_congr _ fun k _ => by rw [trimB_getD]
theorem bs_innB (f g : Bd) (j : Nat) (acc : Bd) (φ : Nat → Nat → Int) : ∀ k, j + k ≤ acc.length → bs (innB f g j acc k) φ = bs acc φ + sumN k (fun c => rs (timesL (f.getD j []) (g.getD c [])) (fun i => φ i (j + c)))
  | 0, _ => by simp [innB, sumN]
  | k + 1, h => by
    rw [innB, bs_set _ _ _ _ (by rw [innB_len]; omega), bs_innB f g j acc φ k (by omega), sumN, rs_plus]; omega
theorem bs_reps (φ : Nat → Nat → Int) (n : Nat) : bs (List.replicate n []) φ = 0 := by
  induction n generalizing φ with
  | zero => rfl
  | succ n ih => rw [List.replicate_succ, bs, ih]; rfl
theorem bs_outB (f g : Bd) (φ : Nat → Nat → Int) : ∀ j, j ≤ f.length → bs (outB f g j) φ = sumN j (fun a => sumN g.length (fun c => rs (timesL (f.getD a []) (g.getD c [])) (fun i => φ i (a + c))))
  | 0, _ => by rw [outB]; exact bs_reps _ _
  | j + 1, h => by
    rw [outB, bs_innB _ _ _ _ _ _ (by rw [outB_len]; omega), bs_outB f g φ j (by omega), sumN]
theorem rs_sumN (f : List Int) (h : Nat → Nat → Int) : ∀ n, rs f (fun i => sumN n (fun c => h i c)) = sumN n (fun c => rs f (fun i => h i c))
  | 0 => rs_zero _ (fun _ => rfl) f
  | n + 1 => by
    show rs f (fun i => sumN n (fun c => h i c) + h i n) = _
    rw [rs_addW, rs_sumN f h n, sumN]
theorem bs_times (f g : Bd) (φ : Nat → Nat → Int) : bs (timesB f g) φ = bs f (fun i j => bs g (fun a c => φ (i + a) (j + c))) := by
  unfold timesB
  split
  · rename_i h
    rcases h with h | h
    · subst h; rfl
    · subst h
      exact (bs_zero f (fun i j => bs [] (fun a c => φ (i + a) (j + c))) fun _ _ => rfl).symm
  · rw [bs_trim, bs_outB f g φ f.length (Nat.le_refl _), bs_sum f f.length _ (Nat.le_refl _)]
    refine sumN_congr _ fun j _ => ?_
    have e : (fun i : Nat => bs g (fun a c => φ (i + a) (j + c))) = fun i => sumN g.length (fun c => rs (g.getD c []) (fun a => φ (i + a) (j + c))) := funext fun i => bs_sum g g.length _ (Nat.le_refl _)
    rw [e, rs_sumN]
    exact sumN_congr _ fun c _ => rs_times _ _ _
theorem bs_supp {b : Bd} {φ : Nat → Nat → Int} (h : ∀ i k, k < b.length → i < (b.getD k []).length → φ i k = 0) : bs b φ = 0 := by
  rw [bs_sum b b.length φ (Nat.le_refl _)]
  refine (sumN_congr (g := fun _ => 0) _ fun k hk => ?_).trans (sumN_zero _)
  rw [rs_congr (χ := fun _ => 0) _ fun i hi => h i k hk hi]
  exact rs_zero _ (fun _ => rfl) _
/-- up to n rows of up to n numbers -/
def Fit (n : Nat) (b : Bd) : Prop := b.length ≤ n ∧ ∀ k, (b.getD k []).length ≤ n
theorem Fit.out {n : Nat} {b : Bd} (h : Fit n b) {i k : Nat} (q : n ≤ i ∨ n ≤ k) : coef b i k = 0 := by
  unfold coef
  rcases q with q | q
  · exact getD_over (Nat.le_trans (h.2 k) q)
  · have e : b.getD k [] = [] := by rw [List.getD_eq_getElem?_getD, List.getElem?_eq_none (Nat.le_trans h.1 q)]; rfl
    rw [e]; rfl
theorem times_out {n m l : Nat} {f g : Bd} (hf : Fit n f) (hg : Fit m g) (hl : n + m ≤ l + 1) {i k : Nat} (q : l ≤ i ∨ l ≤ k) : coef (timesB f g) i k = 0 := by
  rw [← bs_get, bs_times]
  refine bs_supp fun a c hc ha => bs_supp fun a' c' hc' ha' => ?_
  have h1 := hf.1
  have h2 := hf.2 c
  have h3 := hg.1
  have h4 := hg.2 c'
  exact if_neg (by omega)
theorem timesB_ok (f g : Bd) : BoardOk (timesB f g) := by
  unfold timesB
  split
  · exact ⟨.inl rfl, fun _ h => (nomatch h)⟩
  · refine trimB_BoardOk ?_
    have h1 : ∀ j (acc : Bd), (∀ r ∈ acc, RowOk r) → ∀ k, ∀ r ∈ innB f g j acc k, RowOk r := by
      intro j acc ha k
      induction k with
      | zero => exact ha
      | succ k ih =>
        intro r hr
        rw [innB] at hr
        rcases List.mem_or_eq_of_mem_set hr with h | h
        · exact ih r h
        · rw [h]; exact plusL_ok _ _
    have h2 : ∀ j, ∀ r ∈ outB f g j, RowOk r := by
      intro j
      induction j with
      | zero => intro r hr; rw [outB] at hr; rw [(List.mem_replicate.mp hr).2]; exact .nil
      | succ j ih => exact h1 j _ ih _
    exact h2 _
theorem fit_of {n : Nat} {b : Bd} (hb : BoardOk b) (h : ∀ i k, n ≤ i ∨ n ≤ k → coef b i k = 0) : Fit n b := by
  have hr : ∀ k, (b.getD k []).length ≤ n := fun k => by
    rcases hb.row k with e | ⟨ys, a, e, ha⟩
    · rw [e]; exact Nat.zero_le _
    · rcases Nat.lt_or_ge n (b.getD k []).length with z | z
      · rw [e, List.length_append, List.length_singleton] at z
        have := h ys.length k (.inl (by omega))
        unfold coef at this
        rw [e, List.getD_eq_getElem?_getD, List.getElem?_append_right (Nat.le_refl _), Nat.sub_self] at this
        exact absurd this ha
      · exact z
  refine ⟨?_, hr⟩
  rcases hb.1 with e | ⟨ys, r, e, hn⟩
  · rw [e]; exact Nat.zero_le _
  · rcases Nat.lt_or_ge n b.length with z | z
    · have hk : b.getD ys.length [] = r := by rw [e, List.getD_eq_getElem?_getD, List.getElem?_append_right (Nat.le_refl _), Nat.sub_self]; rfl
      have hrow := hb.row ys.length
      rw [hk] at hrow
      rcases hrow with w | ⟨zs, a, w, ha⟩
      · exact absurd w hn
      · rw [e, List.length_append, List.length_singleton] at z
        have := h zs.length ys.length (.inr (by omega))
        unfold coef at this
        rw [hk, w, List.getD_eq_getElem?_getD, List.getElem?_append_right (Nat.le_refl _), Nat.sub_self] at this
        exact absurd this ha
    · exact z
end My

set_option linter.all false
set_option autoImplicit false
set_option maxRecDepth 100000
set_option maxHeartbeats 4000000
namespace My
open PySem L2 L2.EV
/-! ### dicts as the laws make them -/
def VB (M : Nat) (kvs : KVs) : Prop := ∀ p ∈ kvs, p.2.natAbs ≤ M
def KIn (n : Nat) (kvs : KVs) : Prop := ∀ p ∈ kvs, ∃ i k : Nat, p.1 = nk i k ∧ i < n ∧ k < n
theorem putI_len (kvs : KVs) (k : List Int) (v : Int) : (putI kvs k v).length ≤ kvs.length + 1 := by
  unfold putI
  split
  · rw [List.length_map]; omega
  · rw [List.length_append, List.length_singleton]; omega
theorem VB.put {M : Nat} {kvs : KVs} (h : VB M kvs) {k : List Int} {v : Int} (hv : v.natAbs ≤ M) : VB M (putI kvs k v) := fun p hp => by
  rcases putI_mem hp with e | e
  · rw [e]; exact hv
  · exact h p e
theorem VB.val {M : Nat} {kvs : KVs} (h : VB M kvs) (k : List Int) : ((valI kvs k).getD 0).natAbs ≤ M := by
  cases e : valI kvs k with
  | none => exact Nat.zero_le _
  | some v => exact h _ (valI_some e)
theorem KIn.put {n : Nat} {kvs : KVs} (h : KIn n kvs) {i k : Nat} (hi : i < n) (hk : k < n) (v : Int) : KIn n (putI kvs (nk i k) v) := fun p hp => by
  rcases putI_mem hp with e | e
  · exact ⟨i, k, by rw [e], hi, hk⟩
  · exact h p e
def BB (M : Nat) (b : Bd) : Prop := ∀ i k, (coef b i k).natAbs ≤ M
theorem BB.lim {M : Nat} {b : Bd} (h : BB M b) (hM : M < 2 ^ 63) : ∀ r ∈ b, ∀ y ∈ r, -(2 ^ 63) < y ∧ y < 2 ^ 63 := fun r hr y hy => by
  obtain ⟨k, hk, rfl⟩ := List.getElem_of_mem hr
  obtain ⟨i, hi, rfl⟩ := List.getElem_of_mem hy
  have := h i k
  unfold coef at this
  rw [List.getD_eq_getElem?_getD (l := b), List.getElem?_eq_getElem hk] at this
  have e : (b[k]).getD i 0 = b[k][i] := getD_at hi
  have e' : ((some b[k]).getD []).getD i 0 = b[k][i] := e
  rw [e'] at this
  omega
theorem boardOf_bb {M : Nat} {kvs : KVs} (h : VB M kvs) : BB M (boardOf kvs) := fun i k => by
  rw [coef_boardOf]
  split
  · exact h.val _
  · exact Nat.zero_le _
theorem boardOf_fit {n : Nat} {kvs : KVs} (h : KIn n kvs) : Fit n (boardOf kvs) := fit_of (boardOf_ok kvs) fun i k q => by
  rw [coef_boardOf]
  split
  · rw [valI_none fun p hp e => ?_]
    · rfl
    · obtain ⟨a, c, e', h1, h2⟩ := h p hp
      have := nk_inj (e'.symm.trans e)
      omega
  · rfl
theorem Fit.sm {n m : Nat} {b : Bd} (h : Fit n b) (hm : n < m) : SmB m b := ⟨Nat.lt_of_le_of_lt h.1 hm, fun r hr => by
  obtain ⟨k, hk, rfl⟩ := List.getElem_of_mem hr
  have := h.2 k
  rw [List.getD_eq_getElem?_getD, List.getElem?_eq_getElem hk] at this
  exact Nat.lt_of_le_of_lt this hm⟩
/-- the parts of a board -/
def pIn (b : Bd) (k : Nat) (acc : KVs) : Nat → KVs
  | 0 => acc
  | i + 1 => putI (pIn b k acc i) (nk i k) ((b.getD k []).getD i 0)
def pOut (b : Bd) : Nat → KVs
  | 0 => []
  | k + 1 => pIn b k (pOut b k) (b.getD k []).length
def partsF (b : Bd) : KVs := pOut b b.length
/-- sums of parts -/
def sumsF (A B : KVs) (s : Int) : KVs := B.foldl (fun acc q => putI acc q.1 ((valI acc q.1).getD 0 + s * q.2)) A
/-- products of parts -/
abbrev addk (p q : List Int) : List Int := [p.getD 0 0 + q.getD 0 0, p.getD 1 0 + q.getD 1 0]
def prIn (p : List Int × Int) (acc B : KVs) : KVs := B.foldl (fun acc q => putI acc (addk p.1 q.1) ((valI acc (addk p.1 q.1)).getD 0 + p.2 * q.2)) acc
def prodF (A B : KVs) : KVs := A.foldl (fun acc p => prIn p acc B) []
theorem addk_nk (a c i k : Nat) : addk (nk a c) (nk i k) = nk (a + i) (c + k) := by simp [addk, nk]
theorem prIn_ok (a c : Nat) (v : Int) (φ : Nat → Nat → Int) : ∀ (B acc : KVs), KOk acc → (∀ p ∈ B, ∃ i k : Nat, p.1 = nk i k) → KOk (prIn (nk a c, v) acc B) ∧ ds (prIn (nk a c, v) acc B) φ = ds acc φ + v * ds B (fun i k => φ (a + i) (c + k)) ∧ (prIn (nk a c, v) acc B).length ≤ acc.length + B.length
  | [], acc, h, _ => ⟨h, by simp [prIn, ds], Nat.le_refl _⟩
  | (k, x) :: B, acc, h, hB => by
    obtain ⟨i, j, e⟩ := hB (k, x) (by simp)
    have e' : k = nk i j := e
    subst e'
    have ea : addk (nk a c) (nk i j) = nk (a + i) (c + j) := addk_nk a c i j
    obtain ⟨g1, g2, g3⟩ := prIn_ok a c v φ B (putI acc (nk (a + i) (c + j)) ((valI acc (nk (a + i) (c + j))).getD 0 + v * x)) (h.put _ _ _) fun p hp => hB p (by simp [hp])
    have e0 : prIn (nk a c, v) acc ((nk i j, x) :: B) = prIn (nk a c, v) (putI acc (nk (a + i) (c + j)) ((valI acc (nk (a + i) (c + j))).getD 0 + v * x)) B := by
      show prIn (nk a c, v) (putI acc (addk (nk a c) (nk i j)) ((valI acc (addk (nk a c) (nk i j))).getD 0 + v * x)) B = _
      rw [ea]
    rw [e0]
    refine ⟨g1, ?_, ?_⟩
    · rw [g2, ds_put h, ds]
      have e1 : (valI acc (nk (a + i) (c + j))).getD 0 + v * x - (valI acc (nk (a + i) (c + j))).getD 0 = v * x := by omega
      have e2 : ((nk i j).getD 0 0).toNat = i := by simp
      have e3 : ((nk i j).getD 1 0).toNat = j := by simp
      simp only [e2, e3]
      rw [e1, Int.mul_add, ← Int.mul_assoc]; omega
    · have := putI_len acc (nk (a + i) (c + j)) ((valI acc (nk (a + i) (c + j))).getD 0 + v * x)
      rw [List.length_cons]; omega
theorem prod_go (B : KVs) (hB : ∀ p ∈ B, ∃ i k : Nat, p.1 = nk i k) (φ : Nat → Nat → Int) : ∀ (A acc : KVs), KOk acc → (∀ p ∈ A, ∃ i k : Nat, p.1 = nk i k) → KOk (A.foldl (fun acc p => prIn p acc B) acc) ∧ ds (A.foldl (fun acc p => prIn p acc B) acc) φ = ds acc φ + ds A (fun i k => ds B (fun a c => φ (i + a) (k + c))) ∧ (A.foldl (fun acc p => prIn p acc B) acc).length ≤ acc.length + A.length * B.length
  | [], acc, h, _ => ⟨h, by simp [ds], by simp⟩
  | (k, v) :: A, acc, h, hA => by
    obtain ⟨a, c, e⟩ := hA (k, v) (by simp)
    have e' : k = nk a c := e
    subst e'
    obtain ⟨f1, f2, f3⟩ := prIn_ok a c v φ B acc h hB
    obtain ⟨g1, g2, g3⟩ := prod_go B hB φ A (prIn (nk a c, v) acc B) f1 fun p hp => hA p (by simp [hp])
    rw [List.foldl_cons]
    refine ⟨g1, ?_, ?_⟩
    · rw [g2, f2, ds]
      have e2 : ((nk a c).getD 0 0).toNat = a := by simp
      have e3 : ((nk a c).getD 1 0).toNat = c := by simp
      simp only [e2, e3]; omega
    · rw [List.length_cons, Nat.succ_mul]; omega
/-! ### what they come to -/
end My

set_option linter.all false
set_option autoImplicit false
set_option maxRecDepth 100000
set_option maxHeartbeats 4000000
namespace My
open PySem L2 L2.EV
theorem trimB_loop {X : Cx} {c : Expr} {body : List Stmt} (R : Bd → Rho) (h1 : EvT X (R []) c false) (h2 : ∀ ys a, EvT X (R (ys ++ [a])) c (decide (a = []))) (h3 : ∀ ys a, EvSs X (R (ys ++ [a])) body (.nx (R ys))) :
    ∀ (n : Nat) (ys : Bd), ys.length = n → ∃ m, WRun X c body m (R ys) (.nx (R (trimB ys))) := by
  intro n
  induction n with
  | zero => intro ys e; rw [List.eq_nil_of_length_eq_zero e]; exact ⟨0, .stop h1⟩
  | succ n ih =>
    intro ys e
    rcases List.eq_nil_or_concat ys with z | ⟨zs, a, z⟩
    · rw [z] at e; cases e
    · rw [List.concat_eq_append] at z
      subst z
      by_cases ha : a = []
      · obtain ⟨m, q⟩ := ih zs (by simpa using e)
        refine ⟨m + 1, .step (EvT.eq (h2 zs a) (decide_eq_true ha)) (h3 zs a) ?_⟩
        rw [ha, trimB_zero]; exact q
      · refine ⟨0, ?_⟩
        rw [trimB_last zs ha]
        exact .stop (EvT.eq (h2 zs a) (decide_eq_false ha))
def rowK (kvs : KVs) (k : Nat) : List Int := trimI ((List.range 9).map fun i => (valI kvs (nk i k)).getD 0)
def C__law_board_of (ds : List D) (d : D) : Prop := ∃ kvs : KVs, ds = [.dic kvs] ∧ d = boardD (boardOf kvs)
theorem len__law_board_of : ∀ ds d, C__law_board_of ds d → ds.length = 1 := by rintro _ _ ⟨a, rfl, _⟩; rfl
def C__law_parts (ds : List D) (kvs : KVs) : Prop := ∃ b : Bd, ds = [boardD b] ∧ SmB 100 b ∧ kvs = partsF b
def C__law_product (ds : List D) (kvs : KVs) : Prop := ∃ A B : KVs, ds = [.dic A, .dic B] ∧ KOk A ∧ KOk B ∧ A.length ≤ 1000 ∧ B.length ≤ 1000 ∧ VB (2 ^ 63) B ∧ kvs = prodF A B
theorem len__law_product : ∀ ds d, C__law_product ds d → ds.length = 2 := by rintro _ _ ⟨a, b, rfl, _⟩; rfl
def lineF (xs : List Int) : KVs := [(nk 0 0, xs.getD 0 0 % 11 - 5), (nk 1 0, xs.getD 1 0 % 7 - 3), (nk 0 1, xs.getD 2 0 % 5 - 2)]
def C__law_line (ds : List D) (kvs : KVs) : Prop := ∃ xs : List Int, ds = [intsD xs] ∧ 3 ≤ xs.length ∧ kvs = lineF xs
theorem len__law_line : ∀ ds d, C__law_line ds d → ds.length = 1 := by rintro _ _ ⟨a, rfl, _⟩; rfl
def spotF (k : Nat) : List Int := ([nk 0 0, nk 1 0, nk 0 1, nk 2 0, nk 1 1, nk 0 2] : List (List Int)).getD k []
def csizeF (xs : List Int) : Int := 1 + xs.getD 0 0 % 4
def conGo (xs : List Int) : Nat → KVs
  | 0 => []
  | k + 1 => if xs.getD (1 + k) 0 / 16 % 3 > 0 then putI (conGo xs k) (spotF k) (xs.getD (1 + k) 0 % (2 * csizeF xs + 1) - csizeF xs) else conGo xs k
def C__law_conic (ds : List D) (kvs : KVs) : Prop := ∃ xs : List Int, ds = [intsD xs] ∧ 7 ≤ xs.length ∧ kvs = conGo xs 6
theorem len__law_conic : ∀ ds d, C__law_conic ds d → ds.length = 1 := by rintro _ _ ⟨a, rfl, _⟩; rfl
def asizeF (xs : List Int) : Int := ([3, 20, 1000, 1000000] : List Int).getD (xs.getD 0 0 % 4).toNat 0
def anyK (xs : List Int) (k : Nat) : Nat × Nat := ((xs.getD (2 + 2 * k) 0 % 5).toNat, (xs.getD (2 + 2 * k) 0 / 5 % 5).toNat)
def anyGo (xs : List Int) : Nat → KVs
  | 0 => []
  | k + 1 => putI (anyGo xs k) (nk (anyK xs k).1 (anyK xs k).2) (xs.getD (3 + 2 * k) 0 % (2 * asizeF xs + 1) - asizeF xs)
def anyF (xs : List Int) : Bd := boardOf (anyGo xs (xs.getD 1 0 % 12).toNat)
def C__law_any (ds : List D) (d : D) : Prop := ∃ xs : List Int, ds = [intsD xs] ∧ 26 ≤ xs.length ∧ d = boardD (anyF xs)
theorem len__law_any : ∀ ds d, C__law_any ds d → ds.length = 1 := by rintro _ _ ⟨a, rfl, _⟩; rfl
def C__law_formed (ds : List D) (d : D) : Prop := ∃ b : Bd, ds = [boardD b] ∧ SmB 1000 b ∧ d = .bl true
theorem asizeF_pos (xs : List Int) : 0 < asizeF xs ∧ asizeF xs ≤ 1000000 := by
  unfold asizeF
  have h : (xs.getD 0 0 % 4).toNat < 4 := by omega
  generalize (xs.getD 0 0 % 4).toNat = n at h
  match n, h with
  | 0, _ => decide
  | 1, _ => decide
  | 2, _ => decide
  | 3, _ => decide
  | n + 4, h => omega
theorem line_ok (xs : List Int) : KOk (lineF xs) ∧ KIn 2 (lineF xs) ∧ VB 5 (lineF xs) := by
  refine ⟨⟨fun p hp => ?_, by show [nk 0 0, nk 1 0, nk 0 1].Nodup; decide⟩, fun p hp => ?_, fun p hp => ?_⟩ <;>
  · unfold lineF at hp
    rcases List.mem_cons.mp hp with e | hp
    · subst e
      first
        | exact ⟨0, 0, rfl⟩
        | exact ⟨0, 0, rfl, by omega, by omega⟩
        | (show (xs.getD 0 0 % 11 - 5).natAbs ≤ 5; omega)
    · rcases List.mem_cons.mp hp with e | hp
      · subst e
        first
          | exact ⟨1, 0, rfl⟩
          | exact ⟨1, 0, rfl, by omega, by omega⟩
          | (show (xs.getD 1 0 % 7 - 3).natAbs ≤ 5; omega)
      · have e := List.mem_singleton.mp hp
        subst e
        first
          | exact ⟨0, 1, rfl⟩
          | exact ⟨0, 1, rfl, by omega, by omega⟩
          | (show (xs.getD 2 0 % 5 - 2).natAbs ≤ 5; omega)
theorem spot_nk {k : Nat} (h : k < 6) : ∃ a c : Nat, spotF k = nk a c ∧ a < 3 ∧ c < 3 := by
  match k, h with
  | 0, _ => exact ⟨0, 0, rfl, by omega, by omega⟩
  | 1, _ => exact ⟨1, 0, rfl, by omega, by omega⟩
  | 2, _ => exact ⟨0, 1, rfl, by omega, by omega⟩
  | 3, _ => exact ⟨2, 0, rfl, by omega, by omega⟩
  | 4, _ => exact ⟨1, 1, rfl, by omega, by omega⟩
  | 5, _ => exact ⟨0, 2, rfl, by omega, by omega⟩
theorem con_ok (xs : List Int) : ∀ k, k ≤ 6 → KIn 5 (conGo xs k) ∧ VB 1000000 (conGo xs k) ∧ (conGo xs k).length ≤ k
  | 0, _ => ⟨fun _ h => (nomatch h), fun _ h => (nomatch h), Nat.le_refl _⟩
  | k + 1, h => by
    obtain ⟨h1, h2, h3⟩ := con_ok xs k (by omega)
    obtain ⟨a, c, e, ha, hc⟩ := spot_nk (k := k) (by omega)
    rw [conGo]
    split
    · rw [e]
      have hs : 1 ≤ csizeF xs ∧ csizeF xs ≤ 4 := by unfold csizeF; omega
      refine ⟨h1.put (by omega) (by omega) _, h2.put ?_, ?_⟩
      · have := Int.emod_lt_of_pos (xs.getD (1 + k) 0) (show 0 < 2 * csizeF xs + 1 by omega)
        have := Int.emod_nonneg (xs.getD (1 + k) 0) (show 2 * csizeF xs + 1 ≠ 0 by omega)
        omega
      · have := putI_len (conGo xs k) (nk a c) (xs.getD (1 + k) 0 % (2 * csizeF xs + 1) - csizeF xs)
        omega
    · exact ⟨h1, h2, by omega⟩
theorem any_ok (xs : List Int) : ∀ k, KIn 5 (anyGo xs k) ∧ VB 1000000 (anyGo xs k) ∧ (anyGo xs k).length ≤ k
  | 0 => ⟨fun _ h => (nomatch h), fun _ h => (nomatch h), Nat.le_refl _⟩
  | k + 1 => by
    obtain ⟨h1, h2, h3⟩ := any_ok xs k
    obtain ⟨s1, s2⟩ := asizeF_pos xs
    rw [anyGo]
    refine ⟨h1.put (by unfold anyK; show (_ : Int).toNat < 5; omega) (by unfold anyK; show (_ : Int).toNat < 5; omega) _, h2.put ?_, ?_⟩
    · have := Int.emod_lt_of_pos (xs.getD (3 + 2 * k) 0) (show 0 < 2 * asizeF xs + 1 by omega)
      have := Int.emod_nonneg (xs.getD (3 + 2 * k) 0) (show 2 * asizeF xs + 1 ≠ 0 by omega)
      omega
    · have := putI_len (anyGo xs k) (nk (anyK xs k).1 (anyK xs k).2) (xs.getD (3 + 2 * k) 0 % (2 * asizeF xs + 1) - asizeF xs)
      omega
/-- a board as the laws draw it -/
structure LB (b : Bd) : Prop where
  ok : BoardOk b
  fit : Fit 5 b
  bb : BB 1000000 b
theorem lb_of {kvs : KVs} (h1 : KIn 5 kvs) (h2 : VB 1000000 kvs) : LB (boardOf kvs) := ⟨boardOf_ok _, boardOf_fit h1, boardOf_bb h2⟩
theorem anyF_lb (xs : List Int) : LB (anyF xs) := lb_of (any_ok xs _).1 (any_ok xs _).2.1
section
variable {P : Program} {w : World} {K : PySem.W.Frag} {mg : Str → Option Value} {base : Heap} {k : Nat} {X : Cx}
theorem b__law_board_of (h : DefX P w K mg base k N__law_board_of (defScope s__law_board_of) X) (m_range : mg "range" = none) (m_tuple : mg "tuple" = none) (m_len : mg "len" = none) (c1 : Callee X "_law_trim" C__law_trim) :
    ∀ ds d, C__law_board_of ds d → EvSs X (ds.map Sl.val ++ List.replicate (N__law_board_of.length - ds.length) Sl.un) (defBody s__law_board_of) (.rt d) := by
  rintro ds d ⟨kvs, rfl, rfl⟩
  have t := h.at'
  haveI := h.fnT
  have b1 : Blt X (defScope s__law_board_of) "range" (.type "range") := blt_of (by rw [h.mg']; exact m_range)
  have b2 : Blt X (defScope s__law_board_of) "tuple" (.type "tuple") := blt_of (by rw [h.mg']; exact m_tuple)
  have b3 : Blt X (defScope s__law_board_of) "len" (.builtin "len") := blt_of (by rw [h.mg']; exact m_len)
  show EvSs X [.val (.dic kvs), .un, .un] _ _
  refine es_cons (s_setN t 1 (en_lst ea_nil)) ?_
  refine es_cons (ρ' := [.val (.dic kvs), .own (((List.range 9).map (rowK kvs)).map rowD), .un]) (s_for t (ei_range1 t b1 ev_int (by decide) (by decide)) (FRun.uptoE (fun i => [.val (.dic kvs), .own (((List.range i).map (rowK kvs)).map rowD), .un]) (fun i d hi => ?_) rfl ?_)) ?_
  · obtain ⟨hin, rfl⟩ := range_get hi
    refine ⟨_, eg_name t 2, EvSs.weak (es_one (s_append t 1 rfl (d := rowD (rowK kvs i)) (ev_call t c1 (ea_cons (d := intsD ((List.range 9).map fun j => (valI kvs (nk j i)).getD 0)) (EvE.eq (EvN.toE (en_comp (rs := (List.range 9).map fun j => D.int ((valI kvs (nk j i)).getD 0)) t (N__law_board_of ++ [("_law_i" : Str)]) (csc (by decide +kernel)) (ei_range1 t b1 ev_int (by decide) (by decide)) (by decide) fun X' cx => ?_)) (by show D.lst _ = D.lst _; rw [List.map_map]; rfl)) ea_nil) ⟨_, rfl, by simp, rfl⟩) ?_)) ?_⟩
    · exact CRun.gen (fun (j : Nat) => D.int (0 + (j : Int))) _ (fun (j : Nat) => [.val (.dic kvs), .own (((List.range i).map (rowK kvs)).map rowD), .val (.int (i : Int)), .val (.int (j : Int))]) _ _ (fun x hx => by rw [Int.zero_add]; exact egn_name cx.at' 3) (fun x hx y hy => by rw [Int.zero_add]; exact egn_name cx.at' 3) fun x hx =>
        ev_dget (k := nk x i) (n0 := 0) cx.at' (EvE.dr (ev_name cx.at' 0 rfl)) (ea_cons (ev_tup (ea_cons (ev_name cx.at' 3 rfl) (ea_cons (ev_name cx.at' 2 rfl) ea_nil))) (ea_cons ev_int ea_nil))
    · rw [List.length_map, List.length_map, List.length_range]; exact small (by simp at hin; omega)
    · rw [List.range_succ, List.map_append, List.map_append]
      exact .keep (.keep (.forget .nil))
  · rfl
  refine es_cons (s_while t (trimB_loop (fun ys => [.val (.dic kvs), .own (ys.map rowD), .un]) ?_ (fun ys a => ?_) (fun ys a => ?_) _ ((List.range 9).map (rowK kvs)) rfl)) (es_one (s_ret (ev_tuple t b2 (ev_own t 1 rfl))))
  · exact EvW.toT (ew_andF (et_neP t (EvQ.p (ev_own t 1 rfl)) (EvE.p (EvN.toE (en_lst ea_nil))) (shaped_lst []) (shaped_lst []) (by have := eqv_lst [] []; exact congrArg not this)))
  · refine EvW.toT (ew_andT (et_neP t (EvQ.p (ev_own t 1 rfl)) (EvE.p (EvN.toE (en_lst ea_nil))) ((fn_rows (ys ++ [a])).sh (by decide)) (shaped_lst []) ?_) (ew_and1 (et_eqP t (EvE.p (d := rowD a) (ev_ix (ev_own t 1 rfl) (ev_sub (ev_len t b3 (ev_own t 1 rfl)) ev_int) ?_)) (EvE.p (d := rowD []) (ev_tup ea_nil)) (shaped_row _) (shaped_row _) (eqv_row _ _))))
    · show (!(PyData.list (toPs ((ys ++ [a]).map rowD))).eqv (.list (toPs []))) = true
      rw [toPs_map]
      cases ys with
      | nil => simp [toPs, PyData.eqv, PyData.eqvAll]
      | cons r ys => simp [toPs, PyData.eqv, PyData.eqvAll]
    · rw [List.length_map, at_map (g := rowD) (n := ys.length) (by simp) (by simp) (by simp)]
      simp
  · refine EvSs.eq (es_one (s_pop t 1 rfl (by simp))) ?_
    rw [List.map_append]
    have e : (ys.map rowD ++ [a].map rowD).dropLast = ys.map rowD := by simp
    rw [e]; rfl
theorem bd__law_product (h : DefX P w K mg base k N__law_product (defScope s__law_product) X) :
    ∀ ds d, C__law_product ds d → EvSsD X (ds.map Sl.val ++ List.replicate (N__law_product.length - ds.length) Sl.un) (defBody s__law_product) d := by
  rintro ds d ⟨A, B, rfl, hA, hB, lA, lB, vB, rfl⟩
  have t := h.at'
  haveI := h.fnT
  show EvSsD X [.val (.dic A), .val (.dic B), .un, .un, .un, .un, .un] _ _
  refine esd_cons (s_setD t 2 ed_new) ?_
  refine esd_cons (ρ' := [.val (.dic A), .val (.dic B), .dct (prodF A B), .un, .un, .un, .un]) (s_for t (ei_dic (ev_name t 0 rfl)) (FRun.uptoE (fun i => [.val (.dic A), .val (.dic B), .dct ((A.take i).foldl (fun acc p => prIn p acc B) []), .un, .un, .un, .un]) (fun i d hi => ?_) rfl ?_)) (esd_ret t 2 rfl)
  · rw [List.getElem?_map] at hi
    cases hp : A[i]? with
    | none => rw [hp] at hi; cases hi
    | some p =>
    rw [hp] at hi; cases hi
    obtain ⟨key, v⟩ := p
    have hm : (key, v) ∈ A := List.mem_of_getElem? hp
    obtain ⟨a, c, e⟩ := hA.keys _ hm
    have e' : key = nk a c := e
    subst e'
    have hv := valI_mem hA.nd hm
    have hilt : i < A.length := (List.getElem?_eq_some_iff.mp hp).1
    obtain ⟨f1, _, f3⟩ := prod_go B hB.keys (fun _ _ => 0) (A.take i) [] .nil (fun p hp => hA.keys p (List.mem_of_mem_take hp))
    have f3' : ((A.take i).foldl (fun acc p => prIn p acc B) []).length ≤ 1000 * 1000 := by
      have h1 : (A.take i).length ≤ 1000 := by rw [List.length_take]; omega
      have h2 := Nat.mul_le_mul h1 lB
      have h3 : ([] : KVs).length = 0 := rfl
      omega
    have et : A.take (i + 1) = A.take i ++ [(nk a c, v)] := take_snoc hp
    refine ⟨_, eg_tup2 t 3 4, EvSs.weak (ρ1 := [.val (.dic A), .val (.dic B), .dct ((A.take (i + 1)).foldl (fun acc p => prIn p acc B) []), .val (.int a), .val (.int c), .un, .un]) (es_one (s_for t (ei_dic (ev_name t 1 rfl))
      (FRun.uptoE (fun j => [.val (.dic A), .val (.dic B), .dct (prIn (nk a c, v) ((A.take i).foldl (fun acc p => prIn p acc B) []) (B.take j)), .val (.int a), .val (.int c), .un, .un]) (fun j d hj => ?_) rfl ?_))) (.keep (.keep (.keep (.forget (.forget (.keep (.keep .nil)))))))⟩
    · rw [List.getElem?_map] at hj
      cases hq : B[j]? with
      | none => rw [hq] at hj; cases hj
      | some q =>
      rw [hq] at hj; cases hj
      obtain ⟨key2, v2⟩ := q
      have hm2 : (key2, v2) ∈ B := List.mem_of_getElem? hq
      obtain ⟨a2, c2, e⟩ := hB.keys _ hm2
      have e' : key2 = nk a2 c2 := e
      subst e'
      have hv2 := valI_mem hB.nd hm2
      have hb2 := vB _ hm2
      have hb3 : v2.natAbs ≤ 2 ^ 63 := hb2
      have et2 : B.take (j + 1) = B.take j ++ [(nk a2 c2, v2)] := take_snoc hq
      obtain ⟨_, _, g3⟩ := prIn_ok a c v (fun _ _ => 0) (B.take j) _ f1 (fun p hp => hB.keys p (List.mem_of_mem_take hp))
      have g4 : (B.take j).length ≤ 1000 := by rw [List.length_take]; omega
      refine ⟨_, eg_tup2 t 5 6, EvSs.weak (es_one (s_asg t (ev_add (ev_dget (k := addk (nk a c) (nk a2 c2)) (n0 := 0) t (ev_dct t 2 rfl) (ea_cons (ev_tup (ea_cons (ev_add (ev_name t 3 rfl) (ev_name t 5 rfl)) (ea_cons (ev_add (ev_name t 4 rfl) (ev_name t 6 rfl)) ea_nil))) (ea_cons ev_int ea_nil)))
        (ev_mul (ev_dix (k := nk a c) t (EvE.dr (ev_name t 0 rfl)) (ev_tup (ea_cons (ev_name t 3 rfl) (ea_cons (ev_name t 4 rfl) ea_nil))) hv) (ev_dix (k := nk a2 c2) t (EvE.dr (ev_name t 1 rfl)) (ev_tup (ea_cons (ev_name t 5 rfl) (ea_cons (ev_name t 6 rfl) ea_nil))) hv2) (mul_right (by omega) (by omega))))
        (eg_dput (k := addk (nk a c) (nk a2 c2)) t 2 rfl (ev_tup (ea_cons (ev_add (ev_name t 3 rfl) (ev_name t 5 rfl)) (ea_cons (ev_add (ev_name t 4 rfl) (ev_name t 6 rfl)) ea_nil))) (by rw [lineN]; omega)))) ?_⟩
      rw [et2, show prIn (nk a c, v) ((A.take i).foldl (fun acc p => prIn p acc B) []) (B.take j ++ [(nk a2 c2, v2)]) = _ from List.foldl_append]
      exact .keep (.keep (.keep (.keep (.keep (.forget (.forget .nil))))))
    · rw [List.length_map, List.take_length, et, List.foldl_append]; rfl
  · rw [List.length_map, List.take_length]; rfl
end
end My

set_option linter.all false
set_option autoImplicit false
set_option maxRecDepth 100000
set_option maxHeartbeats 4000000
namespace My
open PySem L2 L2.EV
theorem prIn_in {n m l a c : Nat} (v : Int) (ha : a < n) (hc : c < n) (hl : n + m ≤ l + 1) : ∀ (B acc : KVs), KIn m B → KIn l acc → KIn l (prIn (nk a c, v) acc B)
  | [], acc, _, h => h
  | (k, x) :: B, acc, hB, h => by
    obtain ⟨i, j, e, hi, hj⟩ := hB (k, x) (by simp)
    have e' : k = nk i j := e
    subst e'
    show KIn l (prIn (nk a c, v) (putI acc (addk (nk a c) (nk i j)) ((valI acc (addk (nk a c) (nk i j))).getD 0 + v * x)) B)
    rw [addk_nk]
    exact prIn_in v ha hc hl B _ (fun p hp => hB p (by simp [hp])) (h.put (by omega) (by omega) _)
theorem prIn_vb {a c : Nat} (v : Int) (hv : v.natAbs ≤ 5) : ∀ (B acc : KVs) (M : Nat), VB 5 B → VB M acc → VB (M + 25 * B.length) (prIn (nk a c, v) acc B)
  | [], acc, M, _, h => h
  | (k, x) :: B, acc, M, hB, h => by
    have hx : x.natAbs ≤ 5 := hB (k, x) (by simp)
    have h1 : (v * x).natAbs ≤ 25 := by rw [Int.natAbs_mul]; exact Nat.mul_le_mul hv hx
    have h2 : VB (M + 25) (putI acc (addk (nk a c) k) ((valI acc (addk (nk a c) k)).getD 0 + v * x)) := VB.put (fun p hp => Nat.le_trans (h p hp) (by omega)) (by
      have := h.val (addk (nk a c) k)
      omega)
    have h3 := prIn_vb (a := a) (c := c) v hv B _ (M + 25) (fun p hp => hB p (by simp [hp])) h2
    intro p hp
    have := h3 p hp
    have e : ((k, x) :: B).length = B.length + 1 := rfl
    omega
theorem prod_in {n m l : Nat} (hl : n + m ≤ l + 1) {B : KVs} (hB : KIn m B) : ∀ (A acc : KVs), KIn n A → KIn l acc → KIn l (A.foldl (fun acc p => prIn p acc B) acc)
  | [], acc, _, h => h
  | (k, v) :: A, acc, hA, h => by
    obtain ⟨i, j, e, hi, hj⟩ := hA (k, v) (by simp)
    have e' : k = nk i j := e
    subst e'
    rw [List.foldl_cons]
    exact prod_in hl hB A _ (fun p hp => hA p (by simp [hp])) (prIn_in v hi hj hl B acc hB h)
theorem prod_vb {B : KVs} (hB : VB 5 B) : ∀ (A acc : KVs) (M : Nat), (∀ p ∈ A, ∃ i k : Nat, p.1 = nk i k) → VB 5 A → VB M acc → VB (M + 25 * (A.length * B.length)) (A.foldl (fun acc p => prIn p acc B) acc)
  | [], acc, M, _, _, h => by
    have e : ([] : KVs).length * B.length = 0 := by simp
    rw [e]; exact h
  | (k, v) :: A, acc, M, hk, hA, h => by
    obtain ⟨i, j, e⟩ := hk (k, v) (by simp)
    have e' : k = nk i j := e
    subst e'
    rw [List.foldl_cons]
    have h1 := prIn_vb (a := i) (c := j) v (hA (nk i j, v) (by simp)) B acc M hB h
    have h2 := prod_vb hB A _ _ (fun p hp => hk p (by simp [hp])) (fun p hp => hA p (by simp [hp])) h1
    intro p hp
    have := h2 p hp
    have e : ((nk i j, v) :: A).length * B.length = A.length * B.length + B.length := by rw [List.length_cons, Nat.succ_mul]
    omega
theorem prod_good {A B : KVs} (kA : KOk A) (iA : KIn 2 A) (iB : KIn 2 B) (vA : VB 5 A) (vB : VB 5 B) (lA : A.length ≤ 3) (lB : B.length ≤ 3) : KIn 5 (prodF A B) ∧ VB 1000000 (prodF A B) := by
  have h1 := prod_in (n := 2) (m := 2) (l := 5) (by omega) iB A [] iA (fun _ h => (nomatch h))
  have h2 := prod_vb vB A [] 0 kA.keys vA (fun _ h => (nomatch h))
  refine ⟨h1, fun p hp => ?_⟩
  have h3 := h2 p hp
  have h4 := Nat.mul_le_mul lA lB
  omega
def wayK2 (xs : List Int) : KVs := [(nk 0 0, xs.getD 1 0 % 11 - 5), (nk 1 0, xs.getD 2 0 % 7 - 3), (nk 2 0, xs.getD 3 0 % 5 - 2)]
def wayK5 (xs : List Int) : KVs := [(nk 0 0, xs.getD 1 0 % 5 - 2), (nk 1 0, 1)]
def wayK6 (xs : List Int) : KVs := [(nk 0 0, 0 - xs.getD 1 0 % 10), (nk 2 0, 1 + xs.getD 2 0 % 2), (nk 0 2, 1 + xs.getD 3 0 % 2)]
def lbK (xs : List Int) : KVs :=
  if xs.getD 0 0 % 8 < 2 then conGo (cutI xs (some 1) none) 6
  else if xs.getD 0 0 % 8 = 2 then wayK2 xs
  else if xs.getD 0 0 % 8 = 3 then prodF (lineF (cutI xs (some 1) none)) (lineF (cutI xs (some 4) none))
  else if xs.getD 0 0 % 8 = 4 then prodF (lineF (cutI xs (some 1) none)) (lineF [xs.getD 1 0, xs.getD 2 0, xs.getD 3 0])
  else if xs.getD 0 0 % 8 = 5 then prodF (wayK5 xs) (lineF (cutI xs (some 4) none))
  else if xs.getD 0 0 % 8 = 6 then wayK6 xs
  else lineF (cutI xs (some 1) none)
def lbF (c : Int) : Bd := boardOf (lbK (numsF c 12))
theorem KIn.mono {n m : Nat} {kvs : KVs} (h : KIn n kvs) (q : n ≤ m) : KIn m kvs := fun p hp => let ⟨i, k, e, a, b⟩ := h p hp; ⟨i, k, e, by omega, by omega⟩
theorem VB.mono {n m : Nat} {kvs : KVs} (h : VB n kvs) (q : n ≤ m) : VB m kvs := fun p hp => Nat.le_trans (h p hp) q
theorem wayK5_ok (xs : List Int) : KOk (wayK5 xs) ∧ KIn 2 (wayK5 xs) ∧ VB 5 (wayK5 xs) := by
  refine ⟨⟨fun p hp => ?_, by show [nk 0 0, nk 1 0].Nodup; decide⟩, fun p hp => ?_, fun p hp => ?_⟩ <;>
  · unfold wayK5 at hp
    rcases List.mem_cons.mp hp with e | hp
    · subst e
      first
        | exact ⟨0, 0, rfl⟩
        | exact ⟨0, 0, rfl, by omega, by omega⟩
        | (show (xs.getD 1 0 % 5 - 2).natAbs ≤ 5; omega)
    · have e := List.mem_singleton.mp hp
      subst e
      first
        | exact ⟨1, 0, rfl⟩
        | exact ⟨1, 0, rfl, by omega, by omega⟩
        | decide
theorem lbK_ok (xs : List Int) : KIn 5 (lbK xs) ∧ VB 1000000 (lbK xs) := by
  unfold lbK
  split
  · have := con_ok (cutI xs (some 1) none) 6 (Nat.le_refl _); exact ⟨this.1, this.2.1⟩
  split
  · refine ⟨fun p hp => ?_, fun p hp => ?_⟩ <;>
    · unfold wayK2 at hp
      rcases List.mem_cons.mp hp with e | hp
      · subst e
        first
          | exact ⟨0, 0, rfl, by omega, by omega⟩
          | (show (xs.getD 1 0 % 11 - 5).natAbs ≤ 1000000; omega)
      · rcases List.mem_cons.mp hp with e | hp
        · subst e
          first
            | exact ⟨1, 0, rfl, by omega, by omega⟩
            | (show (xs.getD 2 0 % 7 - 3).natAbs ≤ 1000000; omega)
        · have e := List.mem_singleton.mp hp
          subst e
          first
            | exact ⟨2, 0, rfl, by omega, by omega⟩
            | (show (xs.getD 3 0 % 5 - 2).natAbs ≤ 1000000; omega)
  split
  · obtain ⟨a1, a2, a3⟩ := line_ok (cutI xs (some 1) none)
    obtain ⟨b1, b2, b3⟩ := line_ok (cutI xs (some 4) none)
    exact prod_good a1 a2 b2 a3 b3 (Nat.le_refl _) (Nat.le_refl _)
  split
  · obtain ⟨a1, a2, a3⟩ := line_ok (cutI xs (some 1) none)
    obtain ⟨b1, b2, b3⟩ := line_ok [xs.getD 1 0, xs.getD 2 0, xs.getD 3 0]
    exact prod_good a1 a2 b2 a3 b3 (Nat.le_refl _) (Nat.le_refl _)
  split
  · obtain ⟨a1, a2, a3⟩ := wayK5_ok xs
    obtain ⟨b1, b2, b3⟩ := line_ok (cutI xs (some 4) none)
    exact prod_good a1 a2 b2 a3 b3 (by show 2 ≤ 3; omega) (Nat.le_refl _)
  split
  · refine ⟨fun p hp => ?_, fun p hp => ?_⟩ <;>
    · unfold wayK6 at hp
      rcases List.mem_cons.mp hp with e | hp
      · subst e
        first
          | exact ⟨0, 0, rfl, by omega, by omega⟩
          | (show (0 - xs.getD 1 0 % 10).natAbs ≤ 1000000; omega)
      · rcases List.mem_cons.mp hp with e | hp
        · subst e
          first
            | exact ⟨2, 0, rfl, by omega, by omega⟩
            | (show (1 + xs.getD 2 0 % 2).natAbs ≤ 1000000; omega)
        · have e := List.mem_singleton.mp hp
          subst e
          first
            | exact ⟨0, 2, rfl, by omega, by omega⟩
            | (show (1 + xs.getD 3 0 % 2).natAbs ≤ 1000000; omega)
  · obtain ⟨a1, a2, a3⟩ := line_ok (cutI xs (some 1) none)
    exact ⟨a2.mono (by omega), a3.mono (by omega)⟩
theorem lbF_lb (c : Int) : LB (lbF c) := lb_of (lbK_ok _).1 (lbK_ok _).2
def C__law_board (ds : List D) (d : D) : Prop := ∃ c : Int, ds = [.int c] ∧ d = boardD (lbF c)
theorem len__law_board : ∀ ds d, C__law_board ds d → ds.length = 1 := by rintro _ _ ⟨a, rfl, _⟩; rfl
theorem cut_from {xs : List Int} {n m : Nat} (h : xs.length = n) (hm : m ≤ n) : (cutI xs (some (m : Int)) none).length = n - m := by
  unfold cutI
  have e1 : HT.sIx xs.length 0 (some (m : Int)) = m := by simp only [HT.sIx]; split <;> omega
  have e2 : HT.sIx xs.length xs.length none = xs.length := by simp [HT.sIx]
  rw [List.length_take, List.length_drop, e1, e2, h]; omega
section
variable {P : Program} {w : World} {K : PySem.W.Frag} {mg : Str → Option Value} {base : Heap} {k : Nat} {X : Cx}
theorem bd__law_line (h : DefX P w K mg base k N__law_line (defScope s__law_line) X) :
    ∀ ds d, C__law_line ds d → EvSsD X (ds.map Sl.val ++ List.replicate (N__law_line.length - ds.length) Sl.un) (defBody s__law_line) d := by
  rintro ds d ⟨xs, rfl, hl, rfl⟩
  have t := h.at'
  haveI := h.fnT
  show EvSsD X [.val (intsD xs)] _ _
  refine esd_retE (EvDn.eq (ed_disp t (EvKs.cons (k := nk 0 0) (ev_tup (ea_cons ev_int (ea_cons ev_int ea_nil))) (ev_sub (ev_modP (i := xs.getD 0 0) (ev_ix (EvE.ql (ev_name t 0 rfl)) ev_int (at_nat (n := 0) (by omega))) ev_int (by decide)) ev_int)
    (EvKs.cons (k := nk 1 0) (ev_tup (ea_cons ev_int (ea_cons ev_int ea_nil))) (ev_sub (ev_modP (i := xs.getD 1 0) (ev_ix (EvE.ql (ev_name t 0 rfl)) ev_int (at_nat (n := 1) (by omega))) ev_int (by decide)) ev_int)
    (EvKs.cons (k := nk 0 1) (ev_tup (ea_cons ev_int (ea_cons ev_int ea_nil))) (ev_sub (ev_modP (i := xs.getD 2 0) (ev_ix (EvE.ql (ev_name t 0 rfl)) ev_int (at_nat (n := 2) (by omega))) ev_int (by decide)) ev_int) .nil)))) rfl)
theorem b__law_any (h : DefX P w K mg base k N__law_any (defScope s__law_any) X) (m_range : mg "range" = none) (c1 : Callee X "_law_board_of" C__law_board_of) :
    ∀ ds d, C__law_any ds d → EvSs X (ds.map Sl.val ++ List.replicate (N__law_any.length - ds.length) Sl.un) (defBody s__law_any) (.rt d) := by
  rintro ds d ⟨xs, rfl, hl, rfl⟩
  have t := h.at'
  haveI := h.fnT
  have b1 : Blt X (defScope s__law_any) "range" (.type "range") := blt_of (by rw [h.mg']; exact m_range)
  obtain ⟨s1, s2⟩ := asizeF_pos xs
  show EvSs X [.val (intsD xs), .un, .un, .un, .un] _ _
  refine es_cons (s_set (d := .int (asizeF xs)) t 1 (ev_ix (EvN.toQ (en_lst (ea_cons ev_int (ea_cons ev_int (ea_cons ev_int (ea_cons (ev_pow ev_int ev_int ⟨by decide, by decide, by decide⟩) ea_nil)))))) (ev_modP (i := xs.getD 0 0) (ev_ix (EvE.ql (ev_name t 0 rfl)) ev_int (at_nat (n := 0) (by omega))) ev_int (by decide)) ?_)) ?_
  · exact at_getD (xs := [3, 20, 1000, 1000000]) (by omega) (by show _ < 4; omega)
  refine es_cons (s_setD t 2 ed_new) ?_
  refine es_cons (ρ' := [.val (intsD xs), .val (.int (asizeF xs)), .dct (anyGo xs (xs.getD 1 0 % 12).toNat), .un, .un]) (s_for t (ei_range1 t b1 (ev_modP (i := xs.getD 1 0) (ev_ix (EvE.ql (ev_name t 0 rfl)) ev_int (at_nat (n := 1) (by omega))) ev_int (by decide)) (by omega) (by omega)) (FRun.uptoE (fun i => [.val (intsD xs), .val (.int (asizeF xs)), .dct (anyGo xs i), .un, .un]) (fun i d hi => ?_) rfl ?_)) (es_freezeD 2 rfl (es_one (s_ret (ev_call t c1 (ea_cons (ev_name t 2 rfl) ea_nil) ⟨_, rfl, rfl⟩))))
  · obtain ⟨hin, rfl⟩ := range_get hi
    have hi' : i < 12 := by omega
    obtain ⟨_, _, l3⟩ := any_ok xs i
    have e1 : (2 : Int) + 2 * (i : Int) = ((2 + 2 * i : Nat) : Int) := by omega
    have e2 : (3 : Int) + 2 * (i : Int) = ((3 + 2 * i : Nat) : Int) := by omega
    have hx : atI (xs.map D.int) (2 + 2 * (i : Int)) = some (.int (xs.getD (2 + 2 * i) 0)) := by rw [e1]; exact at_nat (by omega)
    have hy : atI (xs.map D.int) (3 + 2 * (i : Int)) = some (.int (xs.getD (3 + 2 * i) 0)) := by rw [e2]; exact at_nat (by omega)
    refine ⟨_, eg_name t 3, EvSs.weak (es_cons (s_set (d := .tup ((nk (anyK xs i).1 (anyK xs i).2).map D.int)) t 4 (EvE.eq (ev_tup (ea_cons (ev_modP (i := xs.getD (2 + 2 * i) 0) (ev_ix (EvE.ql (ev_name t 0 rfl)) (ev_add ev_int (ev_mul ev_int (ev_name t 3 rfl) (mul_left (by decide) (by decide)))) hx) ev_int (by decide)) (ea_cons (ev_modP (ev_divP (i := xs.getD (2 + 2 * i) 0) t (ev_ix (EvE.ql (ev_name t 0 rfl)) (ev_add ev_int (ev_mul ev_int (ev_name t 3 rfl) (mul_left (by decide) (by decide)))) hx) ev_int (by decide)) ev_int (by decide)) ea_nil))) ?_))
      (es_one (s_asg t (ev_sub (ev_modP (i := xs.getD (3 + 2 * i) 0) (ev_ix (EvE.ql (ev_name t 0 rfl)) (ev_add ev_int (ev_mul ev_int (ev_name t 3 rfl) (mul_left (by decide) (by decide)))) hy) (ev_add (ev_mul (i := 2) (j := asizeF xs) ev_int (ev_name t 1 rfl) (mul_left (by decide) (by decide))) ev_int) (by omega)) (ev_name t 1 rfl)) (eg_dput (k := nk (anyK xs i).1 (anyK xs i).2) t 2 rfl (ev_name t 4 rfl) (by rw [lineN]; omega))))) (.keep (.keep (.keep (.forget (.forget .nil)))))⟩
    show D.tup [.int (xs.getD (2 + 2 * i) 0 % 5), .int (xs.getD (2 + 2 * i) 0 / 5 % 5)] = D.tup [.int (((xs.getD (2 + 2 * i) 0 % 5).toNat : Nat) : Int), .int (((xs.getD (2 + 2 * i) 0 / 5 % 5).toNat : Nat) : Int)]
    rw [Int.toNat_of_nonneg (by omega), Int.toNat_of_nonneg (by omega)]
  · have e : (rangeD 0 (xs.getD 1 0 % 12).toNat).length = (xs.getD 1 0 % 12).toNat := by simp [rangeD]
    rw [e]
end
end My

set_option linter.all false
set_option autoImplicit false
set_option maxRecDepth 100000
set_option maxHeartbeats 400000
namespace My
open PySem L2 L2.EV
def spotsD : List D := [.tup [.int 0, .int 0], .tup [.int 1, .int 0], .tup [.int 0, .int 1], .tup [.int 2, .int 0], .tup [.int 1, .int 1], .tup [.int 0, .int 2]]
theorem spotsD_at {i : Nat} (h : i < 6) : atI spotsD (i : Int) = some (.tup ((spotF i).map D.int)) := by
  match i, h with
  | 0, _ => rfl
  | 1, _ => rfl
  | 2, _ => rfl
  | 3, _ => rfl
  | 4, _ => rfl
  | 5, _ => rfl
section
variable {P : Program} {w : World} {K : PySem.W.Frag} {mg : Str → Option Value} {base : Heap} {k : Nat} {X : Cx}
theorem bd__law_conic (h : DefX P w K mg base k N__law_conic (defScope s__law_conic) X) (m_range : mg "range" = none) :
    ∀ ds d, C__law_conic ds d → EvSsD X (ds.map Sl.val ++ List.replicate (N__law_conic.length - ds.length) Sl.un) (defBody s__law_conic) d := by
  rintro ds d ⟨xs, rfl, hl, rfl⟩
  have t := h.at'
  haveI := h.fnT
  have b1 : Blt X (defScope s__law_conic) "range" (.type "range") := blt_of (by rw [h.mg']; exact m_range)
  show EvSsD X [.val (intsD xs), .un, .un, .un, .un] _ _
  have two : ∀ {ρ : Rho} {i j : Int} {pos p1 p2 : Pos} {x1 n1 n2 : Nat}, EvE X ρ (.Tuple [.Constant (.int i) n1 p1, .Constant (.int j) n2 p2] x1 pos) (.tup [.int i, .int j]) := ev_tup (ea_cons ev_int (ea_cons ev_int ea_nil))
  refine esd_cons (s_set (d := .int (csizeF xs)) t 1 (ev_add ev_int (ev_modP (i := xs.getD 0 0) (ev_ix (EvE.ql (ev_name t 0 rfl)) ev_int (at_nat (n := 0) (by omega))) ev_int (by decide)))) ?_
  refine esd_cons (s_setD t 2 ed_new) ?_
  refine esd_cons (ρ' := [.val (intsD xs), .val (.int (csizeF xs)), .dct [], .own spotsD, .un]) ?_ ?_
  · refine s_setN (xs := spotsD) t 3 ?_ (hs := ?_)
    · refine en_lst (ds := spotsD) ?_ (hl := by rw [lineN]; decide)
      refine ea_cons two ?_
      refine ea_cons two ?_
      refine ea_cons two ?_
      refine ea_cons two ?_
      refine ea_cons two ?_
      refine ea_cons two ?_
      exact ea_nil
    · rfl
  refine esd_cons (ρ' := [.val (intsD xs), .val (.int (csizeF xs)), .dct (conGo xs 6), .own spotsD, .un]) (s_for t (ei_range1 t b1 ev_int (by decide) (by decide)) (FRun.uptoE (fun i => [.val (intsD xs), .val (.int (csizeF xs)), .dct (conGo xs i), .own spotsD, .un]) (fun i d hi => ?_) rfl ?_)) (esd_ret t 2 rfl)
  rotate_left
  · have e : (rangeD 0 (6 : Int).toNat).length = 6 := by simp [rangeD]
    exact congrArg (fun n => [Sl.val (intsD xs), Sl.val (.int (csizeF xs)), Sl.dct (conGo xs n), Sl.own spotsD, Sl.un]) e
  obtain ⟨hin, rfl⟩ := range_get hi
  have hi' : i < 6 := by simpa using hin
  obtain ⟨_, _, l3⟩ := con_ok xs i (by omega)
  have hs : 1 ≤ csizeF xs ∧ csizeF xs ≤ 4 := by unfold csizeF; omega
  have e1 : (1 : Int) + (i : Int) = ((1 + i : Nat) : Int) := by omega
  have hx : atI (xs.map D.int) (1 + (i : Int)) = some (.int (xs.getD (1 + i) 0)) := by rw [e1]; exact at_nat (by omega)
  have hk : atI spotsD (i : Int) = some (.tup ((spotF i).map D.int)) := by
    exact spotsD_at hi'
  refine ⟨_, eg_name t 4, EvSs.weak (ρ1 := [.val (intsD xs), .val (.int (csizeF xs)), .dct (conGo xs (i + 1)), .own spotsD, .val (.int i)]) (es_one ?_) (.keep (.keep (.keep (.keep (.forget .nil)))))⟩
  by_cases hc : xs.getD (1 + i) 0 / 16 % 3 > 0
  · refine s_ifT (EvT.eq (et_gt (ev_modP (ev_divP (i := xs.getD (1 + i) 0) t (ev_ix (EvE.ql (ev_name t 0 rfl)) (ev_add ev_int (ev_name t 4 rfl)) hx) ev_int (by decide)) ev_int (by decide)) ev_int) (decide_eq_true hc)) (EvSs.eq (es_one (s_asg t (ev_sub (ev_modP (i := xs.getD (1 + i) 0) (ev_ix (EvE.ql (ev_name t 0 rfl)) (ev_add ev_int (ev_name t 4 rfl)) hx) (ev_add (ev_mul (i := 2) (j := csizeF xs) ev_int (ev_name t 1 rfl) (mul_left (by decide) (by decide))) ev_int) (by omega)) (ev_name t 1 rfl)) (eg_dput (k := spotF i) t 2 rfl (ev_ix (ev_own t 3 rfl) (ev_name t 4 rfl) hk) (by rw [lineN]; omega)))) ?_)
    rw [show conGo xs (i + 1) = _ from if_pos hc]; rfl
  · refine s_ifF (EvT.eq (et_gt (ev_modP (ev_divP (i := xs.getD (1 + i) 0) t (ev_ix (EvE.ql (ev_name t 0 rfl)) (ev_add ev_int (ev_name t 4 rfl)) hx) ev_int (by decide)) ev_int (by decide)) ev_int) (decide_eq_false hc)) (EvSs.eq es_nil ?_)
    rw [show conGo xs (i + 1) = conGo xs i from if_neg hc]; rfl
end
end My

set_option linter.all false
set_option autoImplicit false
set_option maxRecDepth 100000
set_option maxHeartbeats 8000000
namespace My
open PySem L2 L2.EV
section
variable {P : Program} {w : World} {K : PySem.W.Frag} {mg : Str → Option Value} {base : Heap} {k : Nat} {X : Cx}
theorem b__law_board (h : DefX P w K mg base k N__law_board (defScope s__law_board) X) (cN : Callee X "_law_numbers" C__law_numbers) (cB : Callee X "_law_board_of" C__law_board_of) (cL : CalleeD X "_law_line" C__law_line) (cC : CalleeD X "_law_conic" C__law_conic) (cP : CalleeD X "_law_product" C__law_product) :
    ∀ ds d, C__law_board ds d → EvSs X (ds.map Sl.val ++ List.replicate (N__law_board.length - ds.length) Sl.un) (defBody s__law_board) (.rt d) := by
  rintro ds d ⟨c, rfl, rfl⟩
  have t := h.at'
  haveI := h.fnT
  show EvSs X [.val (.int c), .un, .un] _ _
  refine es_cons (s_set (d := intsD (numsF c 12)) t 1 (ev_call t cN (ea_cons (ev_name t 0 rfl) (ea_cons ev_int ea_nil)) ⟨c, 12, rfl, by decide, rfl⟩)) ?_
  have hl : (numsF c 12).length = 12 := numsF_len c 12
  have e0 : lbF c = boardOf (lbK (numsF c 12)) := rfl
  rw [e0]
  generalize numsF c 12 = xs at hl
  have l1 : (cutI xs (some 1) none).length = 11 := cut_from (m := 1) hl (by omega)
  have l4 : (cutI xs (some 4) none).length = 8 := cut_from (m := 4) hl (by omega)
  have hv : ∀ n : Nat, n < 12 → atI (xs.map D.int) (n : Int) = some (.int (xs.getD n 0)) := fun n hn => at_nat (by omega)
  refine es_cons (s_set (d := .int (xs.getD 0 0 % 8)) t 2 (ev_modP (i := xs.getD 0 0) (ev_ix (EvE.ql (ev_name t 1 rfl)) ev_int (hv 0 (by omega))) ev_int (by decide))) ?_
  show EvSs X [.val (.int c), .val (intsD xs), .val (.int (xs.getD 0 0 % 8))] _ _
  have fin : ∀ {kvs : KVs}, lbK xs = kvs → C__law_board_of [.dic kvs] (boardD (boardOf (lbK xs))) := fun {kvs} e => ⟨kvs, rfl, by rw [e]⟩
  have s1 : ∀ {pos p2 p : Pos} {x1 : Nat}, EvE X [.val (.int c), .val (intsD xs), .val (.int (xs.getD 0 0 % 8))] (.Subscript (.Name "_law_xs" p) (.Slice (some (.Constant (.int 1) x1 p)) none none p2) pos) (intsD (cutI xs (some 1) none)) → True := fun _ => trivial
  clear s1
  by_cases h0 : xs.getD 0 0 % 8 < 2
  · refine es_ret (s_ifT (EvT.eq (et_lt (ev_name t 2 rfl) ev_int) (decide_eq_true h0)) (es_one (s_ret (ev_call t cB (ea_cons (EvDn.toE (ed_call t cC (ea_cons (d := intsD (cutI xs (some 1) none)) (EvE.eq (EvN.toE (ev_cutL (EvE.ql (ev_name t 1 rfl)) (ev_part ev_int) ev_noPart)) (by rw [cut_ints])) ea_nil) ⟨_, rfl, by omega, rfl⟩)) ea_nil) (fin ?_)))))
    unfold lbK; rw [if_pos h0]
  refine es_cons (s_ifF (EvT.eq (et_lt (ev_name t 2 rfl) ev_int) (decide_eq_false h0)) es_nil) ?_
  by_cases h2 : xs.getD 0 0 % 8 = 2
  · refine es_ret (s_ifT (EvT.eq (et_eqI (ev_name t 2 rfl) ev_int) (decide_eq_true h2)) (es_one (s_ret (ev_call t cB (ea_cons (d := .dic (wayK2 xs)) ?_ ea_nil) (fin ?_)))))
    · refine EvDn.toE (EvDn.eq (ed_disp t (EvKs.cons (k := nk 0 0) (ev_tup (ea_cons ev_int (ea_cons ev_int ea_nil))) (ev_sub (ev_modP (i := xs.getD 1 0) (ev_ix (EvE.ql (ev_name t 1 rfl)) ev_int (hv 1 (by omega))) ev_int (by decide)) ev_int)
        (EvKs.cons (k := nk 1 0) (ev_tup (ea_cons ev_int (ea_cons ev_int ea_nil))) (ev_sub (ev_modP (i := xs.getD 2 0) (ev_ix (EvE.ql (ev_name t 1 rfl)) ev_int (hv 2 (by omega))) ev_int (by decide)) ev_int)
        (EvKs.cons (k := nk 2 0) (ev_tup (ea_cons ev_int (ea_cons ev_int ea_nil))) (ev_sub (ev_modP (i := xs.getD 3 0) (ev_ix (EvE.ql (ev_name t 1 rfl)) ev_int (hv 3 (by omega))) ev_int (by decide)) ev_int) .nil)))) rfl)
    · unfold lbK; rw [if_neg h0, if_pos h2]
  refine es_cons (s_ifF (EvT.eq (et_eqI (ev_name t 2 rfl) ev_int) (decide_eq_false h2)) es_nil) ?_
  obtain ⟨a1, a2, a3⟩ := line_ok (cutI xs (some 1) none)
  obtain ⟨d1, d2, d3⟩ := line_ok (cutI xs (some 4) none)
  by_cases h3 : xs.getD 0 0 % 8 = 3
  · refine es_ret (s_ifT (EvT.eq (et_eqI (ev_name t 2 rfl) ev_int) (decide_eq_true h3)) (es_one (s_ret (ev_call t cB (ea_cons (EvDn.toE (ed_call t cP (ea_cons (EvDn.toE (ed_call t cL (ea_cons (d := intsD (cutI xs (some 1) none)) (EvE.eq (EvN.toE (ev_cutL (EvE.ql (ev_name t 1 rfl)) (ev_part ev_int) ev_noPart)) (by rw [cut_ints])) ea_nil) ⟨_, rfl, by omega, rfl⟩)) (ea_cons (EvDn.toE (ed_call t cL (ea_cons (d := intsD (cutI xs (some 4) none)) (EvE.eq (EvN.toE (ev_cutL (EvE.ql (ev_name t 1 rfl)) (ev_part ev_int) ev_noPart)) (by rw [cut_ints])) ea_nil) ⟨_, rfl, by omega, rfl⟩)) ea_nil)) ⟨_, _, rfl, a1, d1, (show (3 : Nat) ≤ 1000 by decide), (show (3 : Nat) ≤ 1000 by decide), d3.mono (by decide), rfl⟩)) ea_nil) (fin ?_)))))
    unfold lbK; rw [if_neg h0, if_neg h2, if_pos h3]
  refine es_cons (s_ifF (EvT.eq (et_eqI (ev_name t 2 rfl) ev_int) (decide_eq_false h3)) es_nil) ?_
  by_cases h4 : xs.getD 0 0 % 8 = 4
  · obtain ⟨g1, g2, g3⟩ := line_ok [xs.getD 1 0, xs.getD 2 0, xs.getD 3 0]
    refine es_ret (s_ifT (EvT.eq (et_eqI (ev_name t 2 rfl) ev_int) (decide_eq_true h4)) (es_one (s_ret (ev_call t cB (ea_cons (EvDn.toE (ed_call t cP (ea_cons (EvDn.toE (ed_call t cL (ea_cons (d := intsD (cutI xs (some 1) none)) (EvE.eq (EvN.toE (ev_cutL (EvE.ql (ev_name t 1 rfl)) (ev_part ev_int) ev_noPart)) (by rw [cut_ints])) ea_nil) ⟨_, rfl, by omega, rfl⟩)) (ea_cons (EvDn.toE (ed_call t cL (ea_cons (d := intsD [xs.getD 1 0, xs.getD 2 0, xs.getD 3 0]) (EvN.toE (en_lst (ea_cons (ev_ix (EvE.ql (ev_name t 1 rfl)) ev_int (hv 1 (by omega))) (ea_cons (ev_ix (EvE.ql (ev_name t 1 rfl)) ev_int (hv 2 (by omega))) (ea_cons (ev_ix (EvE.ql (ev_name t 1 rfl)) ev_int (hv 3 (by omega))) ea_nil))))) ea_nil) ⟨_, rfl, Nat.le_refl _, rfl⟩)) ea_nil)) ⟨_, _, rfl, a1, g1, (show (3 : Nat) ≤ 1000 by decide), (show (3 : Nat) ≤ 1000 by decide), g3.mono (by decide), rfl⟩)) ea_nil) (fin ?_)))))
    unfold lbK; rw [if_neg h0, if_neg h2, if_neg h3, if_pos h4]
  refine es_cons (s_ifF (EvT.eq (et_eqI (ev_name t 2 rfl) ev_int) (decide_eq_false h4)) es_nil) ?_
  by_cases h5 : xs.getD 0 0 % 8 = 5
  · obtain ⟨g1, g2, g3⟩ := wayK5_ok xs
    refine es_ret (s_ifT (EvT.eq (et_eqI (ev_name t 2 rfl) ev_int) (decide_eq_true h5)) (es_one (s_ret (ev_call t cB (ea_cons (EvDn.toE (ed_call t cP (ea_cons (d := .dic (wayK5 xs)) ?_ (ea_cons (EvDn.toE (ed_call t cL (ea_cons (d := intsD (cutI xs (some 4) none)) (EvE.eq (EvN.toE (ev_cutL (EvE.ql (ev_name t 1 rfl)) (ev_part ev_int) ev_noPart)) (by rw [cut_ints])) ea_nil) ⟨_, rfl, by omega, rfl⟩)) ea_nil)) ⟨_, _, rfl, g1, d1, (show (2 : Nat) ≤ 1000 by decide), (show (3 : Nat) ≤ 1000 by decide), d3.mono (by decide), rfl⟩)) ea_nil) (fin ?_)))))
    · refine EvDn.toE (EvDn.eq (ed_disp t (EvKs.cons (k := nk 0 0) (ev_tup (ea_cons ev_int (ea_cons ev_int ea_nil))) (ev_sub (ev_modP (i := xs.getD 1 0) (ev_ix (EvE.ql (ev_name t 1 rfl)) ev_int (hv 1 (by omega))) ev_int (by decide)) ev_int)
        (EvKs.cons (k := nk 1 0) (ev_tup (ea_cons ev_int (ea_cons ev_int ea_nil))) ev_int .nil))) rfl)
    · unfold lbK; rw [if_neg h0, if_neg h2, if_neg h3, if_neg h4, if_pos h5]
  refine es_cons (s_ifF (EvT.eq (et_eqI (ev_name t 2 rfl) ev_int) (decide_eq_false h5)) es_nil) ?_
  by_cases h6 : xs.getD 0 0 % 8 = 6
  · refine es_ret (s_ifT (EvT.eq (et_eqI (ev_name t 2 rfl) ev_int) (decide_eq_true h6)) (es_one (s_ret (ev_call t cB (ea_cons (d := .dic (wayK6 xs)) ?_ ea_nil) (fin ?_)))))
    · refine EvDn.toE (EvDn.eq (ed_disp t (EvKs.cons (k := nk 0 0) (ev_tup (ea_cons ev_int (ea_cons ev_int ea_nil))) (ev_sub ev_int (ev_modP (i := xs.getD 1 0) (ev_ix (EvE.ql (ev_name t 1 rfl)) ev_int (hv 1 (by omega))) ev_int (by decide)))
        (EvKs.cons (k := nk 2 0) (ev_tup (ea_cons ev_int (ea_cons ev_int ea_nil))) (ev_add ev_int (ev_modP (i := xs.getD 2 0) (ev_ix (EvE.ql (ev_name t 1 rfl)) ev_int (hv 2 (by omega))) ev_int (by decide)))
        (EvKs.cons (k := nk 0 2) (ev_tup (ea_cons ev_int (ea_cons ev_int ea_nil))) (ev_add ev_int (ev_modP (i := xs.getD 3 0) (ev_ix (EvE.ql (ev_name t 1 rfl)) ev_int (hv 3 (by omega))) ev_int (by decide))) .nil)))) rfl)
    · unfold lbK; rw [if_neg h0, if_neg h2, if_neg h3, if_neg h4, if_neg h5, if_pos h6]
  refine es_cons (s_ifF (EvT.eq (et_eqI (ev_name t 2 rfl) ev_int) (decide_eq_false h6)) es_nil) ?_
  refine es_one (s_ret (ev_call t cB (ea_cons (EvDn.toE (ed_call t cL (ea_cons (d := intsD (cutI xs (some 1) none)) (EvE.eq (EvN.toE (ev_cutL (EvE.ql (ev_name t 1 rfl)) (ev_part ev_int) ev_noPart)) (by rw [cut_ints])) ea_nil) ⟨_, rfl, by omega, rfl⟩)) ea_nil) (fin ?_)))
  unfold lbK; rw [if_neg h0, if_neg h2, if_neg h3, if_neg h4, if_neg h5, if_neg h6]
end
end My

set_option linter.all false
set_option autoImplicit false
set_option maxRecDepth 100000
set_option maxHeartbeats 4000000
namespace My
open PySem L2 L2.EV PyProof.Rows
def slopeL (f : List Int) : List Int := (List.range (f.length - 1)).map fun (i : Nat) => (1 + (i : Int)) * f.getD (1 + i) 0
def C_slope (ds : List D) (d : D) : Prop := ∃ f : List Int, ds = [rowD f] ∧ f.length < 1000 ∧ d = rowD (slopeL f)
theorem len_slope : ∀ ds d, C_slope ds d → ds.length = 1 := by rintro _ _ ⟨a, rfl, _⟩; rfl
section
variable {P : Program} {w : World} {K : PySem.W.Frag} {mg : Str → Option Value} {base : Heap} {k : Nat} {X : Cx}
theorem b_slope (h : DefX P w K mg base k N_slope (defScope s_slope) X) (m_tuple : mg "tuple" = none) (m_range : mg "range" = none) (m_len : mg "len" = none) :
    ∀ ds d, C_slope ds d → EvSs X (ds.map Sl.val ++ List.replicate (N_slope.length - ds.length) Sl.un) (defBody s_slope) (.rt d) := by
  rintro ds d ⟨f, rfl, hf, rfl⟩
  have t := h.at'
  have b1 : Blt X (defScope s_slope) "tuple" (.type "tuple") := blt_of (by rw [h.mg']; exact m_tuple)
  have b2 : Blt X (defScope s_slope) "range" (.type "range") := blt_of (by rw [h.mg']; exact m_range)
  have b3 : Blt X (defScope s_slope) "len" (.builtin "len") := blt_of (by rw [h.mg']; exact m_len)
  show EvSs X [.val (rowD f)] _ _
  refine es_one (s_ret (EvE.eq (ev_tuple t b1 (EvN.toQ (en_comp (rs := (List.range (f.length - 1)).map fun (i : Nat) => D.int ((1 + (i : Int)) * f.getD (1 + i) 0)) t ["f", "power"] (csc (by decide +kernel)) (EvI.eq (ei_range2 t b2 ev_int (ev_len t b3 (EvE.qt (ev_name t 0 rfl))) (by rw [List.length_map]; omega)) (show _ = rangeD 1 (f.length - 1) by rw [List.length_map]; congr 1; omega)) (by simp [rangeD]; exact small (by omega)) fun X' cx => ?_))) (by show D.tup _ = D.tup _; unfold slopeL; rw [List.map_map]; rfl)))
  exact CRun.gen (fun (i : Nat) => D.int (1 + (i : Int))) _ (fun (i : Nat) => [.val (rowD f), .val (.int (1 + (i : Int)))]) _ _ (fun x hx => egn_name cx.at' 1) (fun x hx y hy => egn_name cx.at' 1) fun x hx => by
    have hx' := List.mem_range.mp hx
    exact ev_mul (ev_name cx.at' 1 rfl) (ev_ix (EvE.qt (ev_name cx.at' 0 rfl)) (ev_name cx.at' 1 rfl) (by rw [show (1 + (x : Int)) = ((1 + x : Nat) : Int) by omega]; exact at_nat (by omega))) (mul_left (by omega) (by omega))
end
def C_scaled_value (ds : List D) (d : D) : Prop := (∃ (f : List Int) (q : Rat), ds = [rowD f, frD q] ∧ VOk f q ∧ d = .int (svF q.num q.den f)) ∨ ∃ (f : List Int) (q : Rat), ds = [intsD f, frD q] ∧ VOk f q ∧ d = .int (svF q.num q.den f)
theorem len_scaled_value : ∀ ds d, C_scaled_value ds d → ds.length = 2 := by rintro _ _ (⟨f, q, rfl, _⟩ | ⟨f, q, rfl, _⟩) <;> rfl
/-- the value of a board -/
def valB : Bd → Rat → Rat → Rat
  | [], _, _ => 0
  | r :: f, x, y => evalR r x + y * valB f x y
structure BOk (f : Bd) (x y : Rat) : Prop where
  len : f.length ≤ 20
  rows : ∀ r ∈ f, VOk r x
  fr : fb 100 y
theorem fb_zero {k : Nat} (h : 1 ≤ k) : fb k (0 : Rat) := ⟨up_to (j := 1) (by show (0 : Rat).num.natAbs < 2 ^ 1; decide) h, up_to (j := 1) (by show (0 : Rat).den < 2 ^ 1; decide) h⟩
theorem valB_fb {x y : Rat} : ∀ (f : Bd), (∀ r ∈ f, VOk r x) → fb 100 y → fb (1 + 31000 * f.length) (valB f x y)
  | [], _, _ => fb_zero (Nat.le_refl _)
  | r :: f, h, hy => by
    have h1 := valB_fb f (fun q hq => h q (by simp [hq])) hy
    have h2 := fb_add (eval_fb (h r (by simp))) (fb_mul hy h1)
    exact h2.up (by rw [List.length_cons]; omega)
def C_board_value (ds : List D) (d : D) : Prop := ∃ (f : Bd) (x y : Rat), ds = [boardD f, frD x, frD y] ∧ BOk f x y ∧ d = frD (valB f x y)
theorem len_board_value : ∀ ds d, C_board_value ds d → ds.length = 3 := by rintro _ _ ⟨f, x, y, rfl, _⟩; rfl
def lenR (f : Bd) : Nat := (f.map List.length).foldl max 0
theorem foldl_max (l : List Nat) : ∀ a, a ≤ l.foldl max a ∧ (∀ x ∈ l, x ≤ l.foldl max a) ∧ (l.foldl max a = a ∨ l.foldl max a ∈ l) := by
  induction l with
  | nil => intro a; exact ⟨Nat.le_refl _, fun _ h => (nomatch h), .inl rfl⟩
  | cons y l ih =>
    intro a
    obtain ⟨h1, h2, h3⟩ := ih (max a y)
    rw [List.foldl_cons]
    refine ⟨by omega, fun x hx => ?_, ?_⟩
    · rcases List.mem_cons.mp hx with e | hx
      · subst e; omega
      · exact h2 x hx
    · rcases h3 with e | e
      · by_cases h : y ≤ a
        · left; rw [e]; omega
        · right; rw [e, show max a y = y by omega]; simp
      · right; simp [e]
theorem lenR_mem {f : Bd} {r : List Int} (h : r ∈ f) : r.length ≤ lenR f := (foldl_max (f.map List.length) 0).2.1 _ (List.mem_map.mpr ⟨_, h, rfl⟩)
theorem lenR_le {f : Bd} {n : Nat} (h : ∀ r ∈ f, r.length ≤ n) : lenR f ≤ n := by
  rcases (foldl_max (f.map List.length) 0).2.2 with e | e
  · unfold lenR; omega
  · obtain ⟨r, hr, e⟩ := List.mem_map.mp e
    unfold lenR; rw [← e]; exact h r hr
theorem maxI_len (f : Bd) : maxI ((f.map List.length).map fun n : Nat => (n : Int)) = (lenR f : Int) := by
  unfold lenR
  have : ∀ (l : List Nat) (a : Nat), (l.map fun n : Nat => (n : Int)).foldl max (a : Int) = ((l.foldl max a : Nat) : Int) := by
    intro l
    induction l with
    | nil => intro a; rfl
    | cons y l ih =>
      intro a
      rw [List.map_cons, List.foldl_cons, List.foldl_cons, ← ih]
      congr 1; omega
  exact this _ 0
def C_length_of_rows (ds : List D) (d : D) : Prop := ∃ f : Bd, ds = [boardD f] ∧ SmB 1000 f ∧ d = .int (lenR f)
theorem len_length_of_rows : ∀ ds d, C_length_of_rows ds d → ds.length = 1 := by rintro _ _ ⟨a, rfl, _⟩; rfl
def padR (m : Nat) (r : List Int) : List Int := (List.range m).map fun i => r.getD i 0
theorem padR_get {m : Nat} {r : List Int} (h : r.length ≤ m) (i : Nat) : (padR m r).getD i 0 = r.getD i 0 := by
  unfold padR
  rw [range_getD]
  by_cases hi : i < m
  · rw [if_pos hi]
  · rw [if_neg hi, getD_over (by omega)]
theorem padR_len (m : Nat) (r : List Int) : (padR m r).length = m := by simp [padR]
def abV (f : Bd) (x : Rat) : List Int := f.map fun r => svF x.num x.den (padR (lenR f) r)
def aboveF (f : Bd) (x : Rat) : List Int := lowB (trimI (abV f x))
structure AOk (f : Bd) (x : Rat) : Prop where
  len : f.length ≤ 20
  rows : ∀ r ∈ f, r.length ≤ 20 ∧ ∀ y ∈ r, y.natAbs < 2 ^ 110
  fr : fb 100 x
theorem AOk.pad {f : Bd} {x : Rat} (h : AOk f x) {r : List Int} (hr : r ∈ f) : VOk (padR (lenR f) r) x := by
  refine ⟨?_, fun y hy => ?_, h.fr⟩
  · rw [padR_len]
    exact Nat.le_trans (lenR_le fun r hr => (h.rows r hr).1) (by omega)
  · unfold padR at hy
    obtain ⟨i, _, rfl⟩ := List.mem_map.mp hy
    rw [List.getD_eq_getElem?_getD]
    by_cases hi : i < r.length
    · rw [List.getElem?_eq_getElem hi]; exact (h.rows r hr).2 _ (List.getElem_mem hi)
    · rw [List.getElem?_eq_none (by omega)]; exact pow_pos2 _
def C_row_above (ds : List D) (d : D) : Prop := ∃ (f : Bd) (x : Rat), ds = [boardD f, frD x] ∧ AOk f x ∧ d = rowD (aboveF f x)
theorem len_row_above : ∀ ds d, C_row_above ds d → ds.length = 2 := by rintro _ _ ⟨f, x, rfl, _⟩; rfl
theorem ab_eval {f : Bd} {x : Rat} {r : List Int} (hr : r ∈ f) : ((svF x.num x.den (padR (lenR f) r) : Int) : Rat) * ((x.den : Int) : Rat) = evalR r x * ((x.den : Int) : Rat) ^ lenR f := by
  rw [svF_eval x.num x.den x (frac_top x), padR_len, eval_congr (padR_get (lenR_mem hr))]
theorem ab_get (f : Bd) (x : Rat) (i : Nat) : (((abV f x).getD i 0 : Int) : Rat) * ((x.den : Int) : Rat) = evalR (f.getD i []) x * ((x.den : Int) : Rat) ^ lenR f := by
  unfold abV
  rw [List.getD_eq_getElem?_getD, List.getElem?_map, List.getD_eq_getElem?_getD]
  cases e : f[i]? with
  | none => simp [evalR]
  | some r => exact ab_eval (List.mem_of_getElem? e)
section
variable {P : Program} {w : World} {K : PySem.W.Frag} {mg : Str → Option Value} {base : Heap} {k : Nat} {X : Cx}
theorem b_scaled_value (h : DefX P w K mg base k N_scaled_value (defScope s_scaled_value) X) (m_reversed : mg "reversed" = none) :
    ∀ ds d, C_scaled_value ds d → EvSs X (ds.map Sl.val ++ List.replicate (N_scaled_value.length - ds.length) Sl.un) (defBody s_scaled_value) (.rt d) := by
  have t := h.at'
  haveI := h.fnT
  have bl : Blt X (defScope s_scaled_value) "reversed" (.type "reversed") := blt_of (by rw [h.mg']; exact m_reversed) (v := by decide +kernel)
  have go : ∀ (dd : D) (f : List Int) (q : Rat), VOk f q → (∀ {ρ : Rho} {tg : Expr} {p p1 pos : Pos}, ρ[0]? = some (.val dd) → EvI X ρ tg (.Call (.Name "reversed" p) [.Name "numbers" p1] [] pos) (f.map D.int).reverse) →
      EvSs X [.val dd, .val (frD q), .un, .un, .un, .un, .un] (defBody s_scaled_value) (.rt (.int (svF q.num q.den f))) := by
    intro dd f q v hrev
    refine es_cons (s_asg t (ev_name t 1 rfl) (eg_tup (ds := [.int q.num, .int (q.den : Int)]) t (egs_cons (eg_name t 2) (egs_cons (eg_name t 3) egs_nil)))) ?_
    refine es_cons (s_asg t (ev_tup (ea_cons ev_int (ea_cons ev_int ea_nil))) (eg_tup (ds := [.int 0, .int 1]) t (egs_cons (eg_name t 4) (egs_cons (eg_name t 5) egs_nil)))) ?_
    have hb := v.den
    refine es_cons (ρ' := [.val dd, .val (frD q), .val (.int q.num), .val (.int (q.den : Int)), .val (.int (svF q.num q.den f)), .val (.int ((q.den : Int) ^ f.length)), .un]) (s_for t (hrev rfl) (FRun.uptoE (fun i => [.val dd, .val (frD q), .val (.int q.num), .val (.int (q.den : Int)), .val (.int (svF q.num q.den (f.drop (f.length - i)))), .val (.int ((q.den : Int) ^ i)), .un]) (fun i d hi => ?_) ?_ ?_)) (es_one (s_ret (ev_name t 4 rfl)))
    · rw [← List.map_reverse, List.getElem?_map] at hi
      cases e : f.reverse[i]? with
      | none => rw [e] at hi; cases hi
      | some c =>
        rw [e] at hi; cases hi
        obtain ⟨hlt, hc⟩ := rev_ix e
        have hlen := v.len
        have hd : f.drop (f.length - (i + 1)) = c :: f.drop (f.length - i) := by
          have h1 : f.length - (i + 1) < f.length := by omega
          rw [List.drop_eq_getElem_cons h1]
          have h3 : f[f.length - (i + 1)]? = some c := by rw [show f.length - (i + 1) = f.length - 1 - i by omega]; exact hc
          have h2 : f[f.length - (i + 1)] = c := (List.getElem?_eq_some_iff.mp h3).2
          rw [h2, show f.length - (i + 1) + 1 = f.length - i by omega]
        have hld : (f.drop (f.length - i)).length = i := by rw [List.length_drop]; omega
        have hcb : c.natAbs < 2 ^ 110 := v.bd c (List.mem_of_getElem? hc)
        have hpi : ((q.den : Int) ^ i).natAbs < 2 ^ 30000 := pow_lt2 hb i (by omega)
        refine ⟨_, eg_name t 6, EvSs.weak (es_cons (s_set t 4 (ev_add (ev_mul (ev_name t 4 rfl) (ev_name t 2 rfl) (mul_ok_of (k := 30000) (by decide) (v.drop _).sv (up_to v.fr.1 (by decide)))) (ev_mul (ev_name t 6 rfl) (ev_name t 5 rfl) (mul_ok_of (k := 30000) (by decide) (up_to hcb (by decide)) hpi)))) (es_one (s_augMul t 5 rfl (ev_name t 3 rfl) (mul_ok_of (k := 30000) (by decide) hpi (up_to hb (by decide)))))) ?_⟩
        rw [hd]
        show Weak _ [.val dd, .val (frD q), .val (.int q.num), .val (.int (q.den : Int)), .val (.int (svF q.num q.den (f.drop (f.length - i)) * q.num + c * (q.den : Int) ^ (f.drop (f.length - i)).length)), .val (.int ((q.den : Int) ^ (i + 1))), .un]
        rw [hld, Int.pow_succ]
        exact .keep (.keep (.keep (.keep (.keep (.keep (.forget .nil))))))
    · rw [Nat.sub_zero, List.drop_length, Int.pow_zero]; rfl
    · rw [List.length_reverse, List.length_map, Nat.sub_self, List.drop_zero]
  rintro ds d (⟨f, q, rfl, v, rfl⟩ | ⟨f, q, rfl, v, rfl⟩)
  · exact go (rowD f) f q v fun hr => ei_rev t bl (ev_name t 0 hr)
  · exact go (intsD f) f q v fun hr => ei_revL t bl (ev_name t 0 hr)
end
section
variable {P : Program} {w : World} {K : PySem.W.Frag} {mg : Str → Option Value} {base : Heap} {k : Nat} {X : Cx}
theorem b_row_value (h : DefX P w K mg base k N_row_value (defScope s_row_value) X) (m_len : mg "len" = none) (cF : Callee X "fraction" C_fraction) (cS : Callee X "scaled_value" C_scaled_value) (cP : Callee X "power_of" C_power_of) :
    ∀ ds d, C_row_value ds d → EvSs X (ds.map Sl.val ++ List.replicate (N_row_value.length - ds.length) Sl.un) (defBody s_row_value) (.rt d) := by
  rintro ds d ⟨f, q, rfl, v, rfl⟩
  have t := h.at'
  have b1 : Blt X (defScope s_row_value) "len" (.builtin "len") := blt_of (by rw [h.mg']; exact m_len)
  show EvSs X [.val (rowD f), .val (frD q)] _ _
  by_cases hf : f = []
  · subst hf
    exact es_ret (s_ifT (et_eqP t (EvE.p (ev_name t 0 rfl)) (EvE.p (d := rowD []) (ev_tup ea_nil)) (shaped_row _) (shaped_row _) (by rw [eqv_row]; rfl)) (es_one (s_ret (EvE.eq (d := frD 0) (ev_tup (ea_cons ev_int (ea_cons ev_int ea_nil))) rfl))))
  · have hp : 0 < f.length := List.length_pos_iff.mpr hf
    have hl := v.len
    refine es_cons (s_ifF (et_eqP t (EvE.p (ev_name t 0 rfl)) (EvE.p (d := rowD []) (ev_tup ea_nil)) (shaped_row _) (shaped_row _) (by rw [eqv_row, decide_eq_false hf])) es_nil) ?_
    refine es_one (s_ret (ev_call t cF (ea_cons (ev_call t cS (ea_cons (ev_name t 0 rfl) (ea_cons (ev_name t 1 rfl) ea_nil)) (.inl ⟨f, q, rfl, v, rfl⟩)) (ea_cons (ev_call t cP (ea_cons (ev_ix (EvE.qt (ev_name t 1 rfl)) ev_int (at1 q)) (ea_cons (d := .int ((f.length - 1 : Nat) : Int)) (EvE.eq (ev_sub (ev_len t b1 (EvE.qt (ev_name t 0 rfl))) ev_int) (by rw [List.length_map]; congr 1; omega)) ea_nil)) ⟨(q.den : Int), f.length - 1, rfl, v.den, by omega, rfl⟩) ea_nil)) ⟨_, _, rfl, Int.pow_ne_zero (den_ne q), by rw [value_row q hf]⟩))
end
section
variable {P : Program} {w : World} {K : PySem.W.Frag} {mg : Str → Option Value} {base : Heap} {k : Nat} {X : Cx}
theorem b_length_of_rows (h : DefX P w K mg base k N_length_of_rows (defScope s_length_of_rows) X) (m_max : mg "max" = none) (m_len : mg "len" = none) :
    ∀ ds d, C_length_of_rows ds d → EvSs X (ds.map Sl.val ++ List.replicate (N_length_of_rows.length - ds.length) Sl.un) (defBody s_length_of_rows) (.rt d) := by
  rintro ds d ⟨f, rfl, hf, rfl⟩
  have t := h.at'
  have b1 : Blt X (defScope s_length_of_rows) "max" (.builtin "max") := blt_of (by rw [h.mg']; exact m_max)
  show EvSs X [.val (boardD f)] _ _
  refine es_one (s_ret (EvE.eq (ev_maxD (ns := (f.map List.length).map fun n : Nat => (n : Int)) t b1 (EvN.toQ (EvN.eq (en_comp (rs := f.map fun r => D.int (r.length : Int)) t ["f", "row"] (csc (by decide +kernel)) (ei_tup (ev_name t 0 rfl)) (by rw [List.length_map]; exact small hf.1) fun X' cx => ?_) ?_)) ?_) (by rw [maxI_len])))
  · exact CRun.gen rowD _ (fun r => [.val (boardD f), .val (rowD r)]) _ _ (fun x hx => egn_name cx.at' 1) (fun x hx y hy => egn_name cx.at' 1) fun x hx => EvE.eq (ev_len cx.at' (blt_of (by rw [cx.mg', h.mg']; exact m_len)) (EvE.qt (ev_name cx.at' 1 rfl))) (by rw [List.length_map])
  · rw [List.map_map, List.map_map]; rfl
  · intro n hn
    obtain ⟨m, _, rfl⟩ := List.mem_map.mp hn
    omega
end
section
variable {P : Program} {w : World} {K : PySem.W.Frag} {mg : Str → Option Value} {base : Heap} {k : Nat} {X : Cx}
theorem b_board_value (h : DefX P w K mg base k N_board_value (defScope s_board_value) X) (m_reversed : mg "reversed" = none) (cP : Callee X "plus" C_plus) (cT : Callee X "times" C_times) (cR : Callee X "row_value" C_row_value) :
    ∀ ds d, C_board_value ds d → EvSs X (ds.map Sl.val ++ List.replicate (N_board_value.length - ds.length) Sl.un) (defBody s_board_value) (.rt d) := by
  rintro ds d ⟨f, x, y, rfl, v, rfl⟩
  have t := h.at'
  haveI := h.fnT
  have bl : Blt X (defScope s_board_value) "reversed" (.type "reversed") := blt_of (by rw [h.mg']; exact m_reversed) (v := by decide +kernel)
  have hlen := v.len
  show EvSs X [.val (boardD f), .val (frD x), .val (frD y), .un, .un] _ _
  refine es_cons (s_set (d := frD 0) t 3 (EvE.eq (ev_tup (ea_cons ev_int (ea_cons ev_int ea_nil))) rfl)) ?_
  refine es_cons (ρ' := [.val (boardD f), .val (frD x), .val (frD y), .val (frD (valB f x y)), .un]) (s_for t (ei_rev t bl (ev_name t 0 rfl)) (FRun.uptoE (fun i => [.val (boardD f), .val (frD x), .val (frD y), .val (frD (valB (f.drop (f.length - i)) x y)), .un]) (fun i d hi => ?_) ?_ ?_)) (es_one (s_ret (ev_name t 3 rfl)))
  · rw [← List.map_reverse, List.getElem?_map] at hi
    cases e : f.reverse[i]? with
    | none => rw [e] at hi; cases hi
    | some r =>
      rw [e] at hi; cases hi
      obtain ⟨hlt, hc⟩ := rev_ix e
      have hd : f.drop (f.length - (i + 1)) = r :: f.drop (f.length - i) := by
        have h1 : f.length - (i + 1) < f.length := by omega
        rw [List.drop_eq_getElem_cons h1]
        have h3 : f[f.length - (i + 1)]? = some r := by rw [show f.length - (i + 1) = f.length - 1 - i by omega]; exact hc
        have h2 : f[f.length - (i + 1)] = r := (List.getElem?_eq_some_iff.mp h3).2
        rw [h2, show f.length - (i + 1) + 1 = f.length - i by omega]
      have hr := v.rows r (List.mem_of_getElem? hc)
      have b0 := valB_fb (x := x) (y := y) (f.drop (f.length - i)) (fun q hq => v.rows q (List.mem_of_mem_drop hq)) v.fr
      have hl2 : (f.drop (f.length - i)).length ≤ 20 := by rw [List.length_drop]; omega
      have b1 : fb 700000 (valB (f.drop (f.length - i)) x y) := b0.up (by omega)
      have b2 : fb 700100 (valB (f.drop (f.length - i)) x y * y) := (fb_mul b1 v.fr).up (by decide)
      refine ⟨_, eg_name t 4, EvSs.weak (es_one (s_set (d := frD (valB (f.drop (f.length - (i + 1))) x y)) t 3 (EvE.eq (ev_call t cP (ea_cons (ev_call t cT (ea_cons (ev_name t 3 rfl) (ea_cons (ev_name t 2 rfl) ea_nil)) ⟨_, y, 700000, rfl, b1, v.fr.up (by decide), by decide, rfl⟩) (ea_cons (ev_call t cR (ea_cons (ev_name t 4 rfl) (ea_cons (ev_name t 1 rfl) ea_nil)) ⟨r, x, rfl, hr, rfl⟩) ea_nil)) ⟨_, _, 700100, rfl, b2, (eval_fb hr).up (by decide), by decide, rfl⟩) ?_))) (.keep (.keep (.keep (.keep (.forget .nil)))))⟩
      rw [hd]
      show frD _ = frD (evalR r x + y * valB (f.drop (f.length - i)) x y)
      rw [Rat.add_comm, Rat.mul_comm y]
  · rw [Nat.sub_zero, List.drop_length]; rfl
  · rw [List.length_reverse, List.length_map, Nat.sub_self, List.drop_zero]
end
section
variable {P : Program} {w : World} {K : PySem.W.Frag} {mg : Str → Option Value} {base : Heap} {k : Nat} {X : Cx}
theorem b_row_above (h : DefX P w K mg base k N_row_above (defScope s_row_above) X) (m_range : mg "range" = none) (cL : Callee X "length_of_rows" C_length_of_rows) (cPl : Callee X "put_low" C_put_low) (cRo : Callee X "row_of" C_row_of) (cPa : Callee X "part_at" C_part_at) (cS : Callee X "scaled_value" C_scaled_value) :
    ∀ ds d, C_row_above ds d → EvSs X (ds.map Sl.val ++ List.replicate (N_row_above.length - ds.length) Sl.un) (defBody s_row_above) (.rt d) := by
  rintro ds d ⟨f, x, rfl, v, rfl⟩
  have t := h.at'
  haveI := h.fnT
  have hl := v.len
  have hm : lenR f ≤ 20 := lenR_le fun r hr => (v.rows r hr).1
  show EvSs X [.val (boardD f), .val (frD x), .un, .un] _ _
  refine es_cons (s_set (d := .int (lenR f)) t 2 (ev_call t cL (ea_cons (ev_name t 0 rfl) ea_nil) ⟨f, rfl, ⟨by omega, fun r hr => by have := (v.rows r hr).1; omega⟩, rfl⟩)) ?_
  refine es_cons (ρ' := [.val (boardD f), .val (frD x), .val (.int (lenR f)), .own (f.map fun r => intsD (padR (lenR f) r))]) (s_setComp (rs := f.map fun r => intsD (padR (lenR f) r)) t 3 ["f", "x", "many", "padded", "row"] (csc (by decide +kernel)) (ei_tup (ev_name t 0 rfl)) (by rw [List.length_map]; exact small (by omega)) fun X' cx => ?_) ?_
  · refine CRun.gen rowD _ (fun r => [.val (boardD f), .val (frD x), .val (.int (lenR f)), .un, .val (rowD r)]) _ _ (fun r hr => egn_cell cx 4) (fun r hr q hq => egn_cell cx 4) fun r hr => ?_
    refine EvE.eq (EvN.toE (en_comp (rs := (List.range (lenR f)).map fun i => D.int (r.getD i 0)) cx.at' ["f", "x", "many", "padded", "row", "power"] (csc (by decide +kernel)) (ei_range1 cx.at' (blt_of (by rw [cx.mg', h.mg']; exact m_range)) (ev_name cx.at' 2 rfl) (by omega) (by omega)) (by simp [rangeD]; exact small (by omega)) fun X2 cx2 => ?_)) (by show D.lst _ = D.lst _; unfold padR; rw [List.map_map]; rfl)
    rw [Int.toNat_natCast]
    exact CRun.gen (fun (i : Nat) => D.int (0 + (i : Int))) _ (fun (i : Nat) => [.val (boardD f), .val (frD x), .val (.int (lenR f)), .un, .val (rowD r), .val (.int (i : Int))]) _ _ (fun i hi => by rw [Int.zero_add]; exact egn_name cx2.at' 5) (fun i hi j hj => by rw [Int.zero_add]; exact egn_name cx2.at' 5) fun i hi => ev_call cx2.at' (cx2.callee (cx.callee cPa)) (ea_cons (ev_name cx2.at' 4 rfl) (ea_cons (ev_name cx2.at' 5 rfl) (ea_cons ev_int ea_nil))) (.inl ⟨r, i, rfl, rfl⟩)
  refine es_freeze 3 rfl ?_
  show EvSs X [.val (boardD f), .val (frD x), .val (.int (lenR f)), .val (.lst (f.map fun r => intsD (padR (lenR f) r)))] _ _
  have hal : (abV f x).length < 1000 := by unfold abV; rw [List.length_map]; omega
  refine es_one (s_ret (ev_call t cPl (ea_cons (ev_call t cRo (ea_cons (d := intsD (abV f x)) (EvE.eq (EvN.toE (en_comp (rs := f.map fun r => D.int (svF x.num x.den (padR (lenR f) r))) t ["f", "x", "many", "padded", "numbers"] (csc (by decide +kernel)) (ei_lst (ev_name t 3 rfl)) (by rw [List.length_map]; exact small (by omega)) fun X' cx => ?_)) (by show D.lst _ = D.lst _; unfold abV; rw [List.map_map]; rfl)) ea_nil) ⟨abV f x, rfl, hal, rfl⟩) ea_nil) ⟨trimI (abV f x), rfl, Nat.lt_of_le_of_lt (trim_len _) hal, fun hn => gl_pos (trimOk _) hn, rfl⟩))
  exact CRun.gen (fun r => intsD (padR (lenR f) r)) _ (fun r => [.val (boardD f), .val (frD x), .val (.int (lenR f)), .val (.lst (f.map fun r => intsD (padR (lenR f) r))), .val (intsD (padR (lenR f) r))]) _ _ (fun r hr => egn_name cx.at' 4) (fun r hr q hq => egn_name cx.at' 4) fun r hr => ev_call cx.at' (cx.callee cS) (ea_cons (ev_name cx.at' 4 rfl) (ea_cons (ev_name cx.at' 1 rfl) ea_nil)) (.inr ⟨_, x, rfl, v.pad hr, rfl⟩)
end
def slopeB (f : Bd) : Bd := (List.range (f.length - 1)).map fun (i : Nat) => timesL [1 + (i : Int)] (f.getD (1 + i) [])
theorem rs_one (c : Int) (r : List Int) (ψ : Nat → Int) : rs (timesL [c] r) ψ = c * rs r ψ := by
  rw [rs_times]
  show c * rs r (fun a => ψ (0 + a)) + 0 = _
  rw [show (fun a : Nat => ψ (0 + a)) = ψ from funext fun a => by rw [Nat.zero_add]]; omega
theorem timesL_ok (f g : List Int) : RowOk (timesL f g) := trimOk _
theorem one_get (c : Int) (r : List Int) (i : Nat) : (timesL [c] r).getD i 0 = c * r.getD i 0 := by
  rw [← rs_get, rs_one, rs_get]
theorem coef_slope (f : Bd) (i k : Nat) : coef (slopeB f) i k = (1 + (k : Int)) * coef f i (1 + k) := by
  unfold coef slopeB
  rw [range_getB]
  by_cases h : k < f.length - 1
  · rw [if_pos h, one_get]
  · rw [if_neg h]
    have e : f.getD (1 + k) [] = [] := by rw [List.getD_eq_getElem?_getD, List.getElem?_eq_none (by omega)]; rfl
    rw [e]; show (0 : Int) = _ * 0; omega
theorem row_nz {r : List Int} (h : RowOk r) (hn : r ≠ []) : ∃ i, r.getD i 0 ≠ 0 ∧ i + 1 = r.length := by
  rcases h with e | ⟨ys, a, e, ha⟩
  · exact absurd e hn
  · refine ⟨ys.length, ?_, by rw [e]; simp⟩
    rw [e, List.getD_eq_getElem?_getD, List.getElem?_append_right (Nat.le_refl _), Nat.sub_self]
    exact ha
theorem slope_ok {f : Bd} (hf : BoardOk f) : BoardOk (slopeB f) := by
  refine ⟨?_, fun r hr => ?_⟩
  · rcases Nat.lt_or_ge f.length 2 with h | h
    · left
      unfold slopeB
      rw [show f.length - 1 = 0 by omega]; rfl
    · right
      refine ⟨(List.range (f.length - 2)).map fun (i : Nat) => timesL [1 + (i : Int)] (f.getD (1 + i) []), timesL [1 + ((f.length - 2 : Nat) : Int)] (f.getD (1 + (f.length - 2)) []), ?_, fun z => ?_⟩
      · unfold slopeB
        rw [show f.length - 1 = (f.length - 2) + 1 by omega, List.range_succ, List.map_append]; rfl
      · rcases hf.1 with e | ⟨ys, r, e, hr⟩
        · rw [e] at h; simp at h
        · have hl : 1 + (f.length - 2) = ys.length := by rw [e] at h ⊢; simp at h ⊢; omega
          have hk : f.getD (1 + (f.length - 2)) [] = r := by rw [hl, e, List.getD_eq_getElem?_getD, List.getElem?_append_right (Nat.le_refl _), Nat.sub_self]; rfl
          have hrow := hf.2 r (by rw [e]; simp)
          obtain ⟨i, hi, _⟩ := row_nz hrow hr
          have := one_get (1 + ((f.length - 2 : Nat) : Int)) (f.getD (1 + (f.length - 2)) []) i
          rw [z, hk] at this
          have h0 : (1 + ((f.length - 2 : Nat) : Int)) * r.getD i 0 = 0 := this.symm
          rcases Int.mul_eq_zero.mp h0 with q | q
          · omega
          · exact hi q
  · obtain ⟨i, _, rfl⟩ := List.mem_map.mp hr
    exact timesL_ok _ _
theorem lenR_ge (f : Bd) (k : Nat) : (f.getD k []).length ≤ lenR f := by
  rcases getD_mem (xs := f) k with e | e
  · rw [e]; exact Nat.zero_le _
  · exact (foldl_max (f.map List.length) 0).2.1 _ (List.mem_map.mpr ⟨_, e, rfl⟩)
theorem lenR_is (f : Bd) : lenR f = 0 ∨ ∃ r ∈ f, r.length = lenR f := by
  rcases (foldl_max (f.map List.length) 0).2.2 with e | e
  · exact .inl e
  · obtain ⟨r, hr, e⟩ := List.mem_map.mp e; exact .inr ⟨r, hr, e⟩
def turnB (f : Bd) : Bd := (List.range (lenR f)).map fun p => trimI (f.map fun r => r.getD p 0)
theorem coef_turn (f : Bd) (i k : Nat) : coef (turnB f) i k = coef f k i := by
  unfold turnB
  show (((List.range (lenR f)).map fun p => trimI (f.map fun r => r.getD p 0)).getD k []).getD i 0 = (f.getD i []).getD k 0
  rw [range_getB]
  by_cases h : k < lenR f
  · rw [if_pos h, trim_getD, List.getD_eq_getElem?_getD, List.getElem?_map, List.getD_eq_getElem?_getD (l := f)]
    cases f[i]? <;> rfl
  · rw [if_neg h, getD_over (g := f.getD i []) (Nat.le_trans (lenR_ge f i) (by omega))]; rfl
theorem turn_ok {f : Bd} (hf : BoardOk f) : BoardOk (turnB f) := by
  refine ⟨?_, fun r hr => ?_⟩
  · rcases lenR_is f with e | ⟨r, hr, e⟩
    · left; unfold turnB; rw [e]; rfl
    · by_cases hz : lenR f = 0
      · left; unfold turnB; rw [hz]; rfl
      · right
        refine ⟨(List.range (lenR f - 1)).map fun p => trimI (f.map fun r => r.getD p 0), trimI (f.map fun r => r.getD (lenR f - 1) 0), ?_, fun z => ?_⟩
        · unfold turnB
          conv => lhs; rw [show lenR f = (lenR f - 1) + 1 by omega]
          rw [List.range_succ, List.map_append]; rfl
        · obtain ⟨i, hi, hl⟩ := row_nz (hf.2 r hr) (fun q => by rw [q] at e; simp at e; omega)
          obtain ⟨k, hk, hkr⟩ := List.getElem_of_mem hr
          have h1 := trim_getD (f.map fun r => r.getD (lenR f - 1) 0) k
          rw [z, List.getD_eq_getElem?_getD (l := f.map fun r => r.getD (lenR f - 1) 0), List.getElem?_map, List.getElem?_eq_getElem hk, hkr] at h1
          have h2 : (0 : Int) = r.getD (lenR f - 1) 0 := h1
          rw [show lenR f - 1 = i by omega] at h2
          exact hi h2.symm
  · obtain ⟨p, _, rfl⟩ := List.mem_map.mp hr
    exact trimOk _
theorem turn_fit {n : Nat} {f : Bd} (hf : BoardOk f) (h : Fit n f) : Fit n (turnB f) := fit_of (turn_ok hf) fun i k q => by rw [coef_turn]; exact h.out (by omega)
theorem slope_fit {n : Nat} {f : Bd} (hf : BoardOk f) (h : Fit n f) : Fit n (slopeB f) := fit_of (slope_ok hf) fun i k q => by rw [coef_slope, h.out (by omega)]; simp
def C_slope_up (ds : List D) (d : D) : Prop := ∃ f : Bd, ds = [boardD f] ∧ SmB 100 f ∧ (∀ r ∈ f, ∀ y ∈ r, -(2 ^ 63) < y ∧ y < 2 ^ 63) ∧ d = boardD (slopeB f)
theorem len_slope_up : ∀ ds d, C_slope_up ds d → ds.length = 1 := by rintro _ _ ⟨a, rfl, _⟩; rfl
def C_turned (ds : List D) (d : D) : Prop := ∃ f : Bd, ds = [boardD f] ∧ SmB 1000 f ∧ d = boardD (turnB f)
theorem len_turned : ∀ ds d, C_turned ds d → ds.length = 1 := by rintro _ _ ⟨a, rfl, _⟩; rfl
section
variable {P : Program} {w : World} {K : PySem.W.Frag} {mg : Str → Option Value} {base : Heap} {k : Nat} {X : Cx}
theorem b_slope_up (h : DefX P w K mg base k N_slope_up (defScope s_slope_up) X) (m_tuple : mg "tuple" = none) (m_range : mg "range" = none) (m_len : mg "len" = none) (c1 : Callee X "row_times" C_row_times) :
    ∀ ds d, C_slope_up ds d → EvSs X (ds.map Sl.val ++ List.replicate (N_slope_up.length - ds.length) Sl.un) (defBody s_slope_up) (.rt d) := by
  rintro ds d ⟨f, rfl, hf, hb, rfl⟩
  have t := h.at'
  have b1 : Blt X (defScope s_slope_up) "tuple" (.type "tuple") := blt_of (by rw [h.mg']; exact m_tuple)
  have b2 : Blt X (defScope s_slope_up) "range" (.type "range") := blt_of (by rw [h.mg']; exact m_range)
  have b3 : Blt X (defScope s_slope_up) "len" (.builtin "len") := blt_of (by rw [h.mg']; exact m_len)
  have hl := hf.1
  show EvSs X [.val (boardD f)] _ _
  refine es_one (s_ret (EvE.eq (ev_tuple t b1 (EvN.toQ (en_comp (rs := (List.range (f.length - 1)).map fun (i : Nat) => rowD (timesL [1 + (i : Int)] (f.getD (1 + i) []))) t ["f", "power"] (csc (by decide +kernel)) (ei_range2 t b2 ev_int (ev_len t b3 (EvE.qt (ev_name t 0 rfl))) ⟨by decide, by decide, by omega, by rw [List.length_map]; omega⟩) (by simp [rangeD]; exact small (by omega)) fun X' cx => ?_))) ?_))
  · have e : (((f.map rowD).length : Int) - 1).toNat = f.length - 1 := by rw [List.length_map]; omega
    rw [e]
    refine CRun.gen (fun (i : Nat) => D.int (1 + (i : Int))) _ (fun (i : Nat) => [.val (boardD f), .val (.int (1 + (i : Int)))]) _ _ (fun x hx => egn_name cx.at' 1) (fun x hx y hy => egn_name cx.at' 1) fun x hx => ?_
    have hx' : 1 + x < f.length := by have := List.mem_range.mp hx; omega
    have er : atI (f.map rowD) (1 + (x : Int)) = some (rowD (f.getD (1 + x) [])) := by
      rw [at_map (g := rowD) (n := 1 + x) (by omega) (by omega) hx', List.getD_eq_getElem?_getD, List.getElem?_eq_getElem hx']; rfl
    exact ev_call cx.at' (cx.callee c1) (ea_cons (ev_tup (ea_cons (ev_name cx.at' 1 rfl) ea_nil)) (ea_cons (ev_ix (EvE.qt (ev_name cx.at' 0 rfl)) (ev_name cx.at' 1 rfl) er) ea_nil)) ⟨[1 + (x : Int)], _, rfl, (show 1 < 100 by decide), hf.get (by omega) _, fun y hy => by
      rcases getD_mem (xs := f) (1 + x) with e | e
      · rw [e] at hy; exact nomatch hy
      · exact hb _ e y hy, rfl⟩
  · show D.tup _ = D.tup _
    unfold slopeB; rw [List.map_map]; rfl
end
section
variable {P : Program} {w : World} {K : PySem.W.Frag} {mg : Str → Option Value} {base : Heap} {k : Nat} {X : Cx}
theorem b_turned (h : DefX P w K mg base k N_turned (defScope s_turned) X) (m_tuple : mg "tuple" = none) (m_range : mg "range" = none) (c1 : Callee X "row_of" C_row_of) (c2 : Callee X "part_at" C_part_at) (c3 : Callee X "length_of_rows" C_length_of_rows) :
    ∀ ds d, C_turned ds d → EvSs X (ds.map Sl.val ++ List.replicate (N_turned.length - ds.length) Sl.un) (defBody s_turned) (.rt d) := by
  rintro ds d ⟨f, rfl, hf, rfl⟩
  have t := h.at'
  have b1 : Blt X (defScope s_turned) "tuple" (.type "tuple") := blt_of (by rw [h.mg']; exact m_tuple)
  have b2 : Blt X (defScope s_turned) "range" (.type "range") := blt_of (by rw [h.mg']; exact m_range)
  have hl := hf.1
  have hm : lenR f ≤ 1000 := lenR_le fun r hr => Nat.le_of_lt (hf.2 r hr)
  show EvSs X [.val (boardD f)] _ _
  refine es_one (s_ret (EvE.eq (ev_tuple t b1 (EvN.toQ (en_comp (rs := (List.range (lenR f)).map fun p => rowD (trimI (f.map fun r => r.getD p 0))) t ["f", "power"] (csc (by decide +kernel)) (ei_range1 t b2 (ev_call t c3 (ea_cons (ev_name t 0 rfl) ea_nil) ⟨f, rfl, hf, rfl⟩) (by omega) (by omega)) (by simp [rangeD]; rw [lineN]; omega) fun X' cx => ?_))) ?_))
  · rw [Int.toNat_natCast]
    refine CRun.gen (fun (i : Nat) => D.int (0 + (i : Int))) _ (fun (i : Nat) => [.val (boardD f), .val (.int (i : Int))]) _ _ (fun x hx => by rw [Int.zero_add]; exact egn_cell cx 1) (fun x hx y hy => by rw [Int.zero_add]; exact egn_cell cx 1) fun x hx => ?_
    refine ev_call cx.at' (cx.callee c1) (ea_cons (d := intsD (f.map fun r => r.getD x 0)) (EvE.eq (EvN.toE (en_comp (rs := f.map fun r => D.int (r.getD x 0)) cx.at' ["f", "power", "row"] (csc (by decide +kernel)) (ei_tup (ev_name cx.at' 0 rfl)) (by rw [List.length_map]; exact small hf.1) fun X2 cx2 => ?_)) (by show D.lst _ = D.lst _; rw [List.map_map]; rfl)) ea_nil) ⟨_, rfl, by rw [List.length_map]; exact hl, rfl⟩
    exact CRun.gen rowD _ (fun r => [.val (boardD f), .val (.int (x : Int)), .val (rowD r)]) _ _ (fun y hy => egn_name cx2.at' 2) (fun y hy z hz => egn_name cx2.at' 2) fun y hy => ev_call cx2.at' (cx2.callee (cx.callee c2)) (ea_cons (ev_name cx2.at' 2 rfl) (ea_cons (ev_name cx2.at' 1 rfl) (ea_cons ev_int ea_nil))) (.inl ⟨y, x, rfl, rfl⟩)
  · show D.tup _ = D.tup _
    unfold turnB; rw [List.map_map]; rfl
end
theorem rs_bd {A B : Nat} : ∀ (f : List Int) (ψ : Nat → Int), (∀ x ∈ f, x.natAbs ≤ A) → (∀ i, (ψ i).natAbs ≤ B) → (rs f ψ).natAbs ≤ f.length * (A * B)
  | [], ψ, _, _ => by simp [rs]
  | a :: f, ψ, h, hb => by
    have h1 := rs_bd f (fun i => ψ (i + 1)) (fun x hx => h x (by simp [hx])) fun i => hb (i + 1)
    have h2 : (a * ψ 0).natAbs ≤ A * B := by rw [Int.natAbs_mul]; exact Nat.mul_le_mul (h a (by simp)) (hb 0)
    rw [rs, List.length_cons, Nat.succ_mul]
    omega
theorem bs_bd {A B n : Nat} : ∀ (f : Bd) (φ : Nat → Nat → Int), (∀ r ∈ f, r.length ≤ n ∧ ∀ x ∈ r, x.natAbs ≤ A) → (∀ i k, (φ i k).natAbs ≤ B) → (bs f φ).natAbs ≤ f.length * (n * (A * B))
  | [], φ, _, _ => by simp [bs]
  | r :: f, φ, h, hb => by
    have h1 := bs_bd f (fun i k => φ i (k + 1)) (fun x hx => h x (by simp [hx])) fun i k => hb i (k + 1)
    have h2 := rs_bd r (fun i => φ i 0) (h r (by simp)).2 fun i => hb i 0
    have h3 := Nat.mul_le_mul_right (A * B) (h r (by simp)).1
    rw [bs, List.length_cons, Nat.succ_mul]
    omega
theorem LB.rows {f : Bd} {M : Nat} (hf : Fit 5 f) (hb : BB M f) : ∀ r ∈ f, r.length ≤ 5 ∧ ∀ x ∈ r, x.natAbs ≤ M := fun r hr => by
  obtain ⟨k, hk, rfl⟩ := List.getElem_of_mem hr
  have e : f.getD k [] = f[k] := by rw [List.getD_eq_getElem?_getD, List.getElem?_eq_getElem hk]; rfl
  refine ⟨by rw [← e]; exact hf.2 k, fun x hx => ?_⟩
  obtain ⟨i, hi, rfl⟩ := List.getElem_of_mem hx
  have := hb i k
  unfold coef at this
  rw [e, getD_at hi] at this
  exact this
theorem times_bb {f g : Bd} {M M' : Nat} (hf : Fit 5 f) (hg : Fit 5 g) (bf : BB M f) (bg : BB M' g) : BB (5 * (5 * (M * (5 * (5 * (M' * 1)))))) (timesB f g) := fun i k => by
  rw [← bs_get, bs_times]
  refine Nat.le_trans (bs_bd f _ (LB.rows hf bf) fun a c => Nat.le_trans (bs_bd g (B := 1) _ (LB.rows hg bg) fun a' c' => ?_) (Nat.mul_le_mul_right _ hg.1)) (Nat.mul_le_mul_right _ hf.1)
  unfold del2
  split <;> decide
theorem num_pos (q : Rat) : 0 < q.num ↔ 0 < q := by
  rw [Rat.lt_iff]
  show _ ↔ (0 : Int) * _ < q.num * ((1 : Nat) : Int)
  omega
theorem num_neg (q : Rat) : q.num < 0 ↔ q < 0 := by
  rw [Rat.lt_iff]
  show _ ↔ q.num * ((1 : Nat) : Int) < (0 : Int) * _
  omega
theorem sg_same {u v c d : Rat} (hc : 0 < c) (hd : 0 < d) (e : u * c = d * v) : (0 < u ↔ 0 < v) ∧ (u < 0 ↔ v < 0) := by
  have pos : ∀ {a b : Rat}, 0 < a → 0 < b → 0 < a * b := Rat.mul_pos
  have up : 0 < u → 0 < v := fun h => by
    have h1 := pos h hc
    rcases (by grind : v < 0 ∨ v = 0 ∨ 0 < v) with q | q | q
    · have h2 := pos hd (show 0 < -v by grind)
      grind
    · grind
    · exact q
  have dn : u < 0 → v < 0 := fun h => by
    have h1 := pos (show 0 < -u by grind) hc
    rcases (by grind : v < 0 ∨ v = 0 ∨ 0 < v) with q | q | q
    · exact q
    · grind
    · have h2 := pos hd q
      grind
  have up' : 0 < v → 0 < u := fun h => by
    have h1 := pos hd h
    rcases (by grind : u < 0 ∨ u = 0 ∨ 0 < u) with q | q | q
    · have h2 := pos (show 0 < -u by grind) hc
      grind
    · grind
    · exact q
  have dn' : v < 0 → u < 0 := fun h => by
    have h1 := pos hd (show 0 < -v by grind)
    rcases (by grind : u < 0 ∨ u = 0 ∨ 0 < u) with q | q | q
    · exact q
    · grind
    · have h2 := pos q hc
      grind
  exact ⟨⟨up, up'⟩, dn, dn'⟩
theorem den_pos (x : Rat) : 0 < ((x.den : Int)) := by have := x.den_nz; omega
theorem pow_cast (b : Int) : ∀ n : Nat, ((b ^ n : Int) : Rat) = (b : Rat) ^ n
  | 0 => by simp
  | n + 1 => by rw [Int.pow_succ, Rat.intCast_mul, pow_cast b n, Rat.pow_succ]
theorem eval_ab {x y D E : Rat} {s : List Int → Int} : ∀ (g : Bd), (∀ r ∈ g, ((s r : Int) : Rat) * D = evalR r x * E) → evalR (g.map s) y * D = E * valB g x y
  | [], _ => by simp [evalR, valB]
  | r :: g, h => by
    have h1 := h r (by simp)
    have h2 := eval_ab (y := y) g fun q hq => h q (by simp [hq])
    show ((s r : Int) + y * evalR (g.map s) y) * D = E * (evalR r x + y * valB g x y)
    grind
theorem eval_mul (c : Int) (q : Rat) : ∀ (f : List Int), evalR (f.map fun x => c * x) q = (c : Rat) * evalR f q
  | [] => by simp [evalR]
  | a :: f => by
    have := eval_mul c q f
    show ((c * a : Int) : Rat) + q * evalR (f.map fun x => c * x) q = (c : Rat) * ((a : Rat) + q * evalR f q)
    rw [this, Rat.intCast_mul]
    grind
theorem low_mul {f : List Int} (h : f ≠ [] → gl f ≠ 0) : (lowB f).map (fun x => (gl f : Int) * x) = f := by
  unfold lowB
  rw [List.map_map]
  by_cases hf : f = []
  · subst hf; rfl
  have hg : (0 : Int) < (gl f : Int) := by have := h hf; omega
  conv => rhs; rw [← List.map_id f]
  refine List.map_congr_left fun y hy => ?_
  have hd : (gl f : Int) ∣ y := by
    have : gl f ∣ y.natAbs := by
      have key : ∀ (l : List Int) (a : Nat), (l.foldl (fun g x => Nat.gcd g x.natAbs) a) ∣ a ∧ ∀ z ∈ l, (l.foldl (fun g x => Nat.gcd g x.natAbs) a) ∣ z.natAbs := by
        intro l
        induction l with
        | nil => intro a; exact ⟨Nat.dvd_refl _, fun _ h => (nomatch h)⟩
        | cons b l ih =>
          intro a
          obtain ⟨k1, k2⟩ := ih (Nat.gcd a b.natAbs)
          rw [List.foldl_cons]
          refine ⟨Nat.dvd_trans k1 (Nat.gcd_dvd_left _ _), fun z hz => ?_⟩
          rcases List.mem_cons.mp hz with e | hz
          · subst e; exact Nat.dvd_trans k1 (Nat.gcd_dvd_right _ _)
          · exact k2 z hz
      exact (key f 0).2 y hy
    exact Int.ofNat_dvd_left.mpr this
  show (gl f : Int) * y.fdiv (gl f : Int) = y
  rw [Int.fdiv_eq_ediv_of_nonneg y (by omega), Int.mul_ediv_cancel' hd]
theorem above_sign (f : Bd) (x y : Rat) : (0 < (evalR (aboveF f x) y).num ↔ 0 < (valB f x y).num) ∧ ((evalR (aboveF f x) y).num < 0 ↔ (valB f x y).num < 0) := by
  rw [num_pos, num_pos, num_neg, num_neg]
  have hD : (0 : Rat) < ((x.den : Int) : Rat) := Rat.intCast_pos.mpr (den_pos x)
  have hE : (0 : Rat) < ((x.den : Int) : Rat) ^ lenR f := by rw [← pow_cast]; exact Rat.intCast_pos.mpr (Int.pow_pos (den_pos x))
  have h1 : evalR (abV f x) y * ((x.den : Int) : Rat) = ((x.den : Int) : Rat) ^ lenR f * valB f x y := eval_ab f fun r hr => ab_eval hr
  rw [← eval_trim] at h1
  by_cases hn : trimI (abV f x) = []
  · have e0 : aboveF f x = [] := by unfold aboveF; rw [hn]; rfl
    rw [e0]
    rw [hn] at h1
    exact sg_same hD hE h1
  · have hg := gl_pos (trimOk _) hn
    have h2 := low_mul (f := trimI (abV f x)) fun _ => hg
    have h3 : evalR (trimI (abV f x)) y = ((gl (trimI (abV f x)) : Int) : Rat) * evalR (aboveF f x) y := by
      conv => lhs; rw [← h2]
      exact eval_mul _ y _
    rw [h3] at h1
    have hG : (0 : Rat) < ((gl (trimI (abV f x)) : Int) : Rat) := Rat.intCast_pos.mpr (by omega)
    exact sg_same (Rat.mul_pos hG hD) hE (by grind)
theorem cut_mid {xs : List Int} {n a b : Nat} (h : xs.length = n) (ha : a ≤ b) (hb : b ≤ n) : (cutI xs (some (a : Int)) (some (b : Int))).length = b - a := by
  unfold cutI
  have e1 : HT.sIx xs.length 0 (some (a : Int)) = a := by simp only [HT.sIx]; split <;> omega
  have e2 : HT.sIx xs.length xs.length (some (b : Int)) = b := by simp only [HT.sIx]; split <;> omega
  rw [List.length_take, List.length_drop, e1, e2, h]; omega
theorem fr_int (n : Int) : frD ((n : Int) : Rat) = rowD [n, 1] := by
  unfold frD
  rw [Rat.num_intCast, Rat.den_intCast]; rfl
theorem low_bd {M : Nat} {f : List Int} (h : ∀ x ∈ f, x.natAbs < M) (hg : f ≠ [] → gl f ≠ 0) : ∀ x ∈ lowB f, x.natAbs < M := fun x hx => by
  obtain ⟨y, hy, rfl⟩ := List.mem_map.mp hx
  have h1 := h y hy
  have hg' : (0 : Int) < (gl f : Int) := by have := hg (List.ne_nil_of_mem hy); omega
  rw [Int.fdiv_eq_ediv_of_nonneg y (by omega)]
  have h2 : (y / (gl f : Int)).natAbs ≤ y.natAbs := by
    rcases Int.le_total 0 y with q | q
    · have a := Int.ediv_nonneg q (show 0 ≤ (gl f : Int) by omega)
      have b := Int.ediv_le_self (gl f : Int) q
      omega
    · have e := Int.emod_add_mul_ediv y (gl f : Int)
      have m := Int.emod_nonneg y (show (gl f : Int) ≠ 0 by omega)
      have m2 := Int.emod_lt_of_pos y hg'
      have a : y / (gl f : Int) ≤ 0 := by
        rcases (by omega : 0 < y / (gl f : Int) ∨ y / (gl f : Int) ≤ 0) with z | z
        · have := Int.mul_pos hg' z
          omega
        · exact z
      have b : y ≤ y / (gl f : Int) := by
        rcases (by omega : y / (gl f : Int) < y ∨ y ≤ y / (gl f : Int)) with z | z
        · have h3 : (gl f : Int) * (y / (gl f : Int) + 1) ≤ 1 * (y / (gl f : Int) + 1) := Int.mul_le_mul_of_nonpos_right (by omega) (by omega)
          rw [Int.mul_add] at h3
          omega
        · exact z
      omega
  omega
end My

set_option linter.all false
set_option autoImplicit false
set_option maxRecDepth 100000
set_option maxHeartbeats 4000000
namespace My
open PySem L2 L2.EV PyProof.Rows
/-! ### sums of fractions -/
def sumQ : Nat → (Nat → Rat) → Rat
  | 0, _ => 0
  | n + 1, h => sumQ n h + h n
theorem sumQ_congr {h g : Nat → Rat} : ∀ n, (∀ i, i < n → h i = g i) → sumQ n h = sumQ n g
  | 0, _ => rfl
  | n + 1, e => by rw [sumQ, sumQ, sumQ_congr n (fun i hi => e i (by omega)), e n (by omega)]
theorem sumQ_add (h g : Nat → Rat) : ∀ n, sumQ n (fun i => h i + g i) = sumQ n h + sumQ n g
  | 0 => by simp only [sumQ]; grind
  | n + 1 => by simp only [sumQ]; rw [sumQ_add h g n]; grind
theorem sumQ_mul (c : Rat) (h : Nat → Rat) : ∀ n, sumQ n (fun i => c * h i) = c * sumQ n h
  | 0 => by simp only [sumQ]; grind
  | n + 1 => by simp only [sumQ]; rw [sumQ_mul c h n]; grind
theorem sumQ_zero : ∀ n, sumQ n (fun _ => 0) = 0
  | 0 => rfl
  | n + 1 => by simp only [sumQ]; rw [sumQ_zero n]; grind
theorem sumQ_front (h : Nat → Rat) : ∀ n, sumQ (n + 1) h = h 0 + sumQ n (fun i => h (i + 1))
  | 0 => by simp only [sumQ]; grind
  | n + 1 => by
    have := sumQ_front h n
    rw [sumQ, this]; simp only [sumQ]; grind
theorem sumQ_swap (h : Nat → Nat → Rat) (m : Nat) : ∀ n, sumQ n (fun i => sumQ m (fun j => h i j)) = sumQ m (fun j => sumQ n (fun i => h i j))
  | 0 => by simp only [sumQ]; rw [sumQ_zero]
  | n + 1 => by
    simp only [sumQ]
    rw [sumQ_swap h m n, ← sumQ_add]
theorem psum_sum (f : List Int) (q : Rat) : ∀ n, psum f q n = sumQ n (fun i => (f.getD i 0 : Rat) * q ^ i)
  | 0 => rfl
  | n + 1 => by rw [psum, sumQ, psum_sum f q n]
/-- a board's rows at x -/
def VQ (f : Bd) (x : Rat) (k : Nat) : Rat := evalR (f.getD k []) x
theorem VQ_over {f : Bd} {x : Rat} {k : Nat} (h : f.length ≤ k) : VQ f x k = 0 := by
  unfold VQ; rw [List.getD_eq_getElem?_getD, List.getElem?_eq_none h]; rfl
theorem valB_sum (x y : Rat) : ∀ (f : Bd) (n : Nat), f.length ≤ n → valB f x y = sumQ n (fun k => VQ f x k * y ^ k)
  | [], n, _ => by
    rw [sumQ_congr (g := fun _ => 0) n fun i _ => by rw [VQ_over (Nat.zero_le _), Rat.zero_mul], sumQ_zero]; rfl
  | r :: f, 0, h => by simp at h
  | r :: f, n + 1, h => by
    rw [sumQ_front]
    have e : sumQ n (fun i => VQ (r :: f) x (i + 1) * y ^ (i + 1)) = y * sumQ n (fun k => VQ f x k * y ^ k) := by
      rw [← sumQ_mul]
      refine sumQ_congr n fun i _ => ?_
      show VQ f x i * y ^ (i + 1) = y * (VQ f x i * y ^ i)
      rw [Rat.pow_succ]; grind
    rw [e, ← valB_sum x y f n (by simpa using h)]
    show evalR r x + y * valB f x y = evalR r x * y ^ 0 + y * valB f x y
    rw [Rat.pow_zero, Rat.mul_one]
theorem VQ_plus (f g : Bd) (x : Rat) (k : Nat) : VQ (plusB f g) x k = VQ f x k + VQ g x k := by
  unfold VQ
  rw [← eval_plus]
  refine eval_congr fun i => ?_
  have := coef_plusB f g i k
  unfold coef at this
  rw [this, plusL_get]
theorem eval_negR (x : Rat) : ∀ r : List Int, evalR (r.map fun x => -x) x = - evalR r x
  | [] => by show (0 : Rat) = -0; grind
  | a :: r => by
    show ((-a : Int) : Rat) + x * evalR (r.map fun x => -x) x = -((a : Rat) + x * evalR r x)
    rw [eval_negR x r, Rat.intCast_neg]; grind
theorem VQ_neg (g : Bd) (x : Rat) (k : Nat) : VQ (negB g) x k = - VQ g x k := by
  unfold VQ
  rw [← eval_negR]
  congr 1
  unfold negB
  rw [List.getD_eq_getElem?_getD, List.getElem?_map, List.getD_eq_getElem?_getD]
  cases g[k]? <;> rfl
theorem val_plus (f g : Bd) (x y : Rat) : valB (plusB f g) x y = valB f x y + valB g x y := by
  generalize hn : max (plusB f g).length (max f.length g.length) = n
  rw [valB_sum x y (plusB f g) n (by omega), valB_sum x y f n (by omega), valB_sum x y g n (by omega), ← sumQ_add]
  exact sumQ_congr n fun k _ => by rw [VQ_plus]; grind
theorem val_neg (g : Bd) (x y : Rat) : valB (negB g) x y = - valB g x y := by
  have hl : (negB g).length = g.length := by unfold negB; rw [List.length_map]
  rw [valB_sum x y (negB g) g.length (by omega), valB_sum x y g g.length (by omega)]
  have e := sumQ_mul (-1) (fun k => VQ g x k * y ^ k) g.length
  rw [show -sumQ g.length (fun k => VQ g x k * y ^ k) = -1 * sumQ g.length (fun k => VQ g x k * y ^ k) by grind, ← e]
  exact sumQ_congr _ fun k _ => by rw [VQ_neg]; grind
theorem val_minus (f g : Bd) (x y : Rat) : valB (plusB f (negB g)) x y = valB f x y - valB g x y := by
  rw [val_plus, val_neg]; grind
theorem VQ_sum {f : Bd} {x : Rat} {k n : Nat} (h : (f.getD k []).length ≤ n) : VQ f x k = sumQ n (fun i => (coef f i k : Rat) * x ^ i) := by
  unfold VQ
  rw [← psum_ge h, psum_sum]; rfl
theorem val_turn (f : Bd) (x y : Rat) : valB (turnB f) y x = valB f x y := by
  generalize hn : max f.length (lenR f) = n
  have hl : (turnB f).length ≤ n := by unfold turnB; rw [List.length_map, List.length_range]; omega
  have hr : ∀ k, ((turnB f).getD k []).length ≤ n := fun k => by
    unfold turnB
    rw [range_getB]
    split
    · refine Nat.le_trans (trim_len _) ?_
      rw [List.length_map]; omega
    · exact Nat.zero_le _
  rw [valB_sum y x (turnB f) n hl, valB_sum x y f n (by omega)]
  have e1 : sumQ n (fun k => VQ (turnB f) y k * x ^ k) = sumQ n (fun k => sumQ n (fun i => (coef f k i : Rat) * y ^ i * x ^ k)) := sumQ_congr n fun k _ => by
    rw [VQ_sum (hr k), Rat.mul_comm, ← sumQ_mul]
    exact sumQ_congr n fun i _ => by rw [coef_turn]; grind
  have e2 : sumQ n (fun k => VQ f x k * y ^ k) = sumQ n (fun k => sumQ n (fun i => (coef f i k : Rat) * x ^ i * y ^ k)) := sumQ_congr n fun k _ => by
    rw [VQ_sum (Nat.le_trans (lenR_ge f k) (show lenR f ≤ n by omega)), Rat.mul_comm, ← sumQ_mul]
    exact sumQ_congr n fun i _ => by grind
  rw [e1, e2, sumQ_swap]
  exact sumQ_congr n fun k _ => sumQ_congr n fun i _ => by grind
/-! ### products -/
def wsum (f : Bd) (x : Rat) (ψ : Nat → Rat) (n : Nat) : Rat := sumQ n (fun k => VQ f x k * ψ k)
theorem wsum_set {f : Bd} {x : Rat} {ψ : Nat → Rat} {p : Nat} {v : List Int} (hp : p < f.length) : ∀ n, wsum (f.set p v) x ψ n = wsum f x ψ n + (if p < n then (evalR v x - VQ f x p) * ψ p else 0)
  | 0 => by show (0 : Rat) = 0 + _; rw [if_neg (by omega)]; grind
  | n + 1 => by
    show wsum (f.set p v) x ψ n + VQ (f.set p v) x n * ψ n = (wsum f x ψ n + VQ f x n * ψ n) + _
    rw [wsum_set hp n]
    by_cases h : p = n
    · subst h
      have e : VQ (f.set p v) x p = evalR v x := by unfold VQ; rw [List.getD_eq_getElem?_getD, List.getElem?_set_self hp]; rfl
      rw [e, if_neg (by omega), if_pos (by omega)]
      grind
    · have e : VQ (f.set p v) x n = VQ f x n := by unfold VQ; rw [List.getD_eq_getElem?_getD, List.getElem?_set_ne h, List.getD_eq_getElem?_getD]
      rw [e]
      by_cases h2 : p < n
      · rw [if_pos h2, if_pos (by omega)]; grind
      · rw [if_neg h2, if_neg (by omega)]; grind
theorem wsum_inn (f g : Bd) (x : Rat) (ψ : Nat → Rat) (j : Nat) (acc : Bd) {n : Nat} : ∀ k, j + k ≤ acc.length → j + k ≤ n → wsum (innB f g j acc k) x ψ n = wsum acc x ψ n + VQ f x j * wsum g x (fun b => ψ (j + b)) k
  | 0, _, _ => by
    show wsum acc x ψ n = wsum acc x ψ n + VQ f x j * 0
    grind
  | k + 1, h1, h2 => by
    show wsum ((innB f g j acc k).set (j + k) _) x ψ n = wsum acc x ψ n + VQ f x j * (wsum g x (fun b => ψ (j + b)) k + VQ g x k * ψ (j + k))
    rw [wsum_set (by rw [innB_len]; omega), if_pos (by omega), wsum_inn f g x ψ j acc k (by omega) (by omega), eval_plus, eval_times]
    show _ + (VQ (innB f g j acc k) x (j + k) + VQ f x j * VQ g x k - VQ (innB f g j acc k) x (j + k)) * ψ (j + k) = _
    grind
theorem wsum_zero (x : Rat) (ψ : Nat → Rat) (m n : Nat) : wsum (List.replicate m []) x ψ n = 0 := by
  unfold wsum
  rw [sumQ_congr (g := fun _ => 0) n fun i _ => ?_, sumQ_zero]
  have e : (List.replicate m ([] : List Int)).getD i [] = [] := by
    rw [List.getD_eq_getElem?_getD, List.getElem?_replicate]
    split <;> rfl
  unfold VQ
  rw [e]
  show (0 : Rat) * _ = 0
  grind
theorem wsum_outB (f g : Bd) (x : Rat) (ψ : Nat → Rat) (hg : g ≠ []) : ∀ j, j ≤ f.length → wsum (outB f g j) x ψ (f.length + g.length) = wsum f x (fun a => wsum g x (fun b => ψ (a + b)) g.length) j
  | 0, _ => wsum_zero x ψ _ _
  | j + 1, h => by
    have hl : 0 < g.length := List.length_pos_iff.mpr hg
    show wsum (innB f g j (outB f g j) g.length) x ψ _ = wsum f x _ j + VQ f x j * _
    rw [wsum_inn f g x ψ j (outB f g j) g.length (by rw [outB_len]; omega) (by omega), wsum_outB f g x ψ hg j (by omega)]
theorem wsum_ge {f : Bd} {x : Rat} {ψ : Nat → Rat} : ∀ {n : Nat}, f.length ≤ n → wsum f x ψ n = wsum f x ψ f.length := by
  intro n h
  obtain ⟨m, rfl⟩ : ∃ m, n = f.length + m := ⟨n - f.length, by omega⟩
  clear h
  induction m with
  | zero => rfl
  | succ m ih =>
    show wsum f x ψ (f.length + m) + VQ f x (f.length + m) * ψ (f.length + m) = _
    rw [ih, VQ_over (by omega)]; grind
theorem wsum_times (f g : Bd) (x : Rat) (ψ : Nat → Rat) {n : Nat} (hn : f.length + g.length ≤ n) : wsum (timesB f g) x ψ n = wsum f x (fun a => wsum g x (fun b => ψ (a + b)) g.length) f.length := by
  have z : ∀ (φ : Nat → Rat) (m : Nat), wsum [] x φ m = 0 := fun φ m => wsum_zero x φ 0 m
  unfold timesB
  split
  · rename_i h
    rw [z]
    rcases h with e | e
    · rw [e]; rfl
    · rw [e]
      have : wsum f x (fun a => wsum [] x (fun b => ψ (a + b)) ([] : Bd).length) f.length = wsum f x (fun _ => 0) f.length := rfl
      rw [this]
      unfold wsum
      rw [sumQ_congr (g := fun _ => 0) _ fun i _ => by rw [Rat.mul_zero], sumQ_zero]
  · rename_i h
    have hg : g ≠ [] := fun e => h (.inr e)
    rw [← wsum_outB f g x ψ hg f.length (Nat.le_refl _)]
    have hl : (outB f g f.length).length = f.length + g.length - 1 := outB_len f g f.length
    rw [wsum_ge (Nat.le_trans (trimB_len _) (show (outB f g f.length).length ≤ n by omega)), ← wsum_ge (f := trimB (outB f g f.length)) (n := f.length + g.length) (Nat.le_trans (trimB_len _) (by omega))]
    unfold wsum
    exact sumQ_congr _ fun k _ => by unfold VQ; rw [trimB_getD]
theorem pow_add2 (q : Rat) (i : Nat) : ∀ j, q ^ (i + j) = q ^ i * q ^ j
  | 0 => by rw [Nat.add_zero, Rat.pow_zero, Rat.mul_one]
  | j + 1 => by rw [← Nat.add_assoc, Rat.pow_succ, Rat.pow_succ, pow_add2 q i j, Rat.mul_assoc]
theorem val_times (f g : Bd) (x y : Rat) : valB (timesB f g) x y = valB f x y * valB g x y := by
  have hl : (timesB f g).length ≤ f.length + g.length := by
    unfold timesB
    split
    · exact Nat.zero_le _
    · refine Nat.le_trans (trimB_len _) ?_
      rw [outB_len]; omega
  rw [valB_sum x y (timesB f g) _ hl, valB_sum x y f _ (Nat.le_refl _), valB_sum x y g _ (Nat.le_refl _)]
  have h := wsum_times f g x (fun k => y ^ k) (Nat.le_refl _)
  unfold wsum at h
  rw [h, Rat.mul_comm, ← sumQ_mul]
  refine sumQ_congr _ fun a _ => ?_
  have e : sumQ g.length (fun b => VQ g x b * y ^ (a + b)) = y ^ a * sumQ g.length (fun b => VQ g x b * y ^ b) := by
    rw [← sumQ_mul]
    exact sumQ_congr _ fun b _ => by rw [pow_add2]; grind
  show VQ f x a * sumQ g.length (fun b => VQ g x b * y ^ (a + b)) = _
  rw [e]; grind
/-! ### rows above -/
theorem above_get (f : Bd) (x : Rat) : ∃ A B : Int, 0 < A ∧ 0 < B ∧ ∀ j, (((aboveF f x).getD j 0 : Int) : Rat) * (A : Rat) = VQ f x j * (B : Rat) := by
  have hD := den_pos x
  by_cases hn : trimI (abV f x) = []
  · refine ⟨(x.den : Int), (x.den : Int) ^ lenR f, hD, Int.pow_pos hD, fun j => ?_⟩
    have e0 : aboveF f x = [] := by unfold aboveF; rw [hn]; rfl
    have h1 := ab_get f x j
    rw [← trim_getD, hn] at h1
    rw [e0, pow_cast]; exact h1
  · have hg := gl_pos (trimOk _) hn
    refine ⟨(gl (trimI (abV f x)) : Int) * (x.den : Int), (x.den : Int) ^ lenR f, Int.mul_pos (by omega) hD, Int.pow_pos hD, fun j => ?_⟩
    have h2 := low_mul (f := trimI (abV f x)) fun _ => hg
    have h3 : (trimI (abV f x)).getD j 0 = (gl (trimI (abV f x)) : Int) * (aboveF f x).getD j 0 := by
      conv => lhs; rw [← h2]
      show ((aboveF f x).map _).getD j 0 = _
      rw [List.getD_eq_getElem?_getD, List.getElem?_map, List.getD_eq_getElem?_getD]
      cases (aboveF f x)[j]? with
      | none => simp
      | some z => rfl
    have h1 := ab_get f x j
    rw [← trim_getD, h3, Rat.intCast_mul] at h1
    rw [pow_cast, Rat.intCast_mul]
    unfold VQ
    rw [← h1]; grind
theorem above_of {f : Bd} {x : Rat} {h : List Int} {A B : Int} (hA : 0 < A) (hB : 0 < B) (ok : RowOk h) (e : ∀ j, ((h.getD j 0 : Int) : Rat) * (A : Rat) = VQ f x j * (B : Rat)) : aboveF f x = lowB h := by
  have et : trimI h = h := row_ext (trimOk _) ok fun i => trim_getD h i
  rw [← et]
  unfold aboveF
  refine low_trim (a := (x.den : Int) * B) (b := (x.den : Int) ^ lenR f * A) (Int.mul_pos (den_pos x) hB) (Int.mul_pos (Int.pow_pos (den_pos x)) hA) fun i => ?_
  apply Rat.intCast_inj.mp
  rw [Rat.intCast_mul, Rat.intCast_mul, Rat.intCast_mul, Rat.intCast_mul, pow_cast]
  have h1 := ab_get f x i
  have h2 := e i
  unfold VQ at h2
  grind
theorem above_slope (f : Bd) (x : Rat) (ok : RowOk (slopeL (aboveF f x))) : aboveF (slopeB f) x = lowB (slopeL (aboveF f x)) := by
  obtain ⟨A, B, hA, hB, e⟩ := above_get f x
  refine above_of hA hB ok fun j => ?_
  have e1 : (slopeL (aboveF f x)).getD j 0 = (1 + (j : Int)) * (aboveF f x).getD (1 + j) 0 := by
    unfold slopeL
    rw [range_getD]
    split
    · rfl
    · rw [getD_over (by omega)]; simp
  have e2 : VQ (slopeB f) x j = ((1 + (j : Int) : Int) : Rat) * VQ f x (1 + j) := by
    have h1 : VQ (slopeB f) x j = evalR (timesL [1 + (j : Int)] (f.getD (1 + j) [])) x := eval_congr fun i => by
      rw [one_get]; exact coef_slope f i j
    rw [h1, eval_times]
    show (((1 + (j : Int) : Int) : Rat) + x * 0) * VQ f x (1 + j) = _
    grind
  rw [e1, e2, Rat.intCast_mul]
  have := e (1 + j)
  grind
theorem slopeL_ok {f : List Int} (h : RowOk f) : RowOk (slopeL f) := by
  rcases Nat.lt_or_ge f.length 2 with q | q
  · left; unfold slopeL; rw [show f.length - 1 = 0 by omega]; rfl
  · rcases h with e | ⟨ys, a, e, ha⟩
    · rw [e] at q; simp at q
    · right
      have hl : f.length = ys.length + 1 := by rw [e]; simp
      refine ⟨(List.range (f.length - 2)).map fun (i : Nat) => (1 + (i : Int)) * f.getD (1 + i) 0, (1 + ((f.length - 2 : Nat) : Int)) * a, ?_, fun z => ?_⟩
      · unfold slopeL
        rw [show f.length - 1 = (f.length - 2) + 1 by omega, List.range_succ, List.map_append]
        congr 1
        show [_ * f.getD (1 + (f.length - 2)) 0] = _
        have : f.getD (1 + (f.length - 2)) 0 = a := by
          rw [show 1 + (f.length - 2) = ys.length by omega, e, List.getD_eq_getElem?_getD, List.getElem?_append_right (Nat.le_refl _), Nat.sub_self]; rfl
        rw [this]
      · rcases Int.mul_eq_zero.mp z with p | p
        · omega
        · exact ha p
theorem sumN_cast (h : Nat → Int) : ∀ n, ((sumN n h : Int) : Rat) = sumQ n (fun i => ((h i : Int) : Rat))
  | 0 => rfl
  | n + 1 => by rw [sumN, sumQ, Rat.intCast_add, sumN_cast h n]
theorem aboveF_ok (f : Bd) (x : Rat) : RowOk (aboveF f x) := by
  by_cases hn : trimI (abV f x) = []
  · left; unfold aboveF; rw [hn]; rfl
  · have hg := gl_pos (trimOk (abV f x)) hn
    have h2 := low_mul (f := trimI (abV f x)) fun _ => hg
    rcases List.eq_nil_or_concat (aboveF f x) with e | ⟨ys, a, e⟩
    · exact .inl e
    · rw [List.concat_eq_append] at e
      refine .inr ⟨ys, a, e, fun ha => ?_⟩
      have h3 : trimI (abV f x) = ys.map (fun z => (gl (trimI (abV f x)) : Int) * z) ++ [0] := by
        conv => lhs; rw [← h2]
        show (aboveF f x).map _ = _
        rw [e, ha, List.map_append]; simp
      rcases trimOk (abV f x) with q | ⟨zs, b, q, hb⟩
      · exact hn q
      · rw [q] at h3
        have := List.append_inj_right' h3 rfl
        exact hb (List.cons.inj this).1
theorem above_times (f g : Bd) (x : Rat) : aboveF (timesB f g) x = lowB (timesL (aboveF f x) (aboveF g x)) := by
  obtain ⟨A, B, hA, hB, e⟩ := above_get f x
  obtain ⟨A', B', hA', hB', e'⟩ := above_get g x
  refine above_of (Int.mul_pos hA hA') (Int.mul_pos hB hB') (timesL_ok _ _) fun i => ?_
  generalize aboveF f x = u at e
  generalize aboveF g x = v at e'
  generalize hn : max (max f.length u.length) (max g.length v.length) = n
  have k1 : (timesL u v).getD i 0 = sumN n (fun a => u.getD a 0 * sumN n (fun b => v.getD b 0 * (if a + b = i then 1 else 0))) := by
    rw [← rs_get, rs_times, rs_sum u n _ (by omega)]
    exact sumN_congr n fun a _ => by rw [rs_sum v n _ (by omega)]
  have k2 : VQ (timesB f g) x i = sumQ n (fun a => VQ f x a * sumQ n (fun b => VQ g x b * (if a + b = i then 1 else 0))) := by
    have h := wsum_times f g x (fun k => if k = i then 1 else 0) (n := f.length + g.length + (i + 1)) (by omega)
    have l : wsum (timesB f g) x (fun k => if k = i then 1 else 0) (f.length + g.length + (i + 1)) = VQ (timesB f g) x i := by
      have pick : ∀ m, i < m → wsum (timesB f g) x (fun k => if k = i then 1 else 0) m = VQ (timesB f g) x i := by
        intro m
        induction m with
        | zero => intro h; omega
        | succ m ih =>
          intro hm
          show wsum (timesB f g) x _ m + VQ (timesB f g) x m * (if m = i then 1 else 0) = _
          by_cases q : m = i
          · subst q
            have z : wsum (timesB f g) x (fun k => if k = m then 1 else 0) m = 0 := by
              unfold wsum
              rw [sumQ_congr (g := fun _ => 0) m fun j hj => by show _ * (if j = m then (1 : Rat) else 0) = 0; rw [if_neg (by omega), Rat.mul_zero], sumQ_zero]
            rw [z, if_pos rfl]; grind
          · rw [ih (by omega), if_neg q]; grind
      exact pick _ (by omega)
    rw [← l, h, ← wsum_ge (f := f) (n := n) (by omega)]
    unfold wsum
    refine sumQ_congr n fun a _ => ?_
    have := wsum_ge (f := g) (x := x) (ψ := fun b => if a + b = i then 1 else 0) (n := n) (by omega)
    unfold wsum at this
    exact congrArg (VQ f x a * ·) this.symm
  rw [k1, k2, sumN_cast, Rat.mul_comm, ← sumQ_mul, Rat.mul_comm _ (((B * B' : Int)) : Rat), ← sumQ_mul]
  refine sumQ_congr n fun a _ => ?_
  rw [Rat.intCast_mul (u.getD a 0), sumN_cast]
  have e3 : ((A' : Int) : Rat) * sumQ n (fun b => (((v.getD b 0 * (if a + b = i then 1 else 0) : Int)) : Rat)) = ((B' : Int) : Rat) * sumQ n (fun b => VQ g x b * (if a + b = i then 1 else 0)) := by
    rw [← sumQ_mul, ← sumQ_mul]
    refine sumQ_congr n fun b _ => ?_
    have := e' b
    by_cases q : a + b = i
    · rw [if_pos q, if_pos q, Int.mul_one]; grind
    · rw [if_neg q, if_neg q, Int.mul_zero]; simp
  have e4 := e a
  rw [Rat.intCast_mul, Rat.intCast_mul]
  generalize sumQ n (fun b => (((v.getD b 0 * (if a + b = i then 1 else 0) : Int)) : Rat)) = S at e3 ⊢
  generalize sumQ n (fun b => VQ g x b * (if a + b = i then 1 else 0)) = T at e3 ⊢
  grind
theorem above_zero (f : Bd) (x y : Rat) : evalR (aboveF f x) y = 0 ↔ valB f x y = 0 := by
  obtain ⟨h1, h2⟩ := above_sign f x y
  rw [← Rat.num_eq_zero, ← Rat.num_eq_zero]
  omega
end My

set_option linter.all false
set_option autoImplicit false
set_option maxRecDepth 100000
set_option maxHeartbeats 8000000
namespace My
open PySem L2 L2.EV PyProof.Rows
def wF (c : Int) : Bd := if (numsF c 40).getD 39 0 % 3 = 1 then anyF (cutI (numsF c 40) (some 12) (some 38)) else lbF c
theorem wF_lb (c : Int) : LB (wF c) := by
  unfold wF
  split
  · exact anyF_lb _
  · exact lbF_lb _
def sizeG (xs : List Int) : Int := if xs.getD 2 0 % 4 = 0 then 9 else if xs.getD 2 0 % 4 = 1 then 50 else if xs.getD 2 0 % 4 = 2 then 3 else 1
def fracG (xs : List Int) : Rat := Rat.divInt (xs.getD 0 0 % (2 * sizeG xs + 1) - sizeG xs) (1 + xs.getD 1 0 % sizeG xs)
def C__law_fraction (ds : List D) (d : D) : Prop := ∃ c : Int, ds = [.int c, .int 50] ∧ d = frD (fracG (numsF c 3))
section
variable {P : Program} {w : World} {K : PySem.W.Frag} {mg : Str → Option Value} {base : Heap} {k : Nat} {X : Cx}
end
theorem rowsN {n M : Nat} {f : Bd} (hf : Fit n f) (hb : BB M f) : ∀ r ∈ f, r.length ≤ n ∧ ∀ x ∈ r, x.natAbs ≤ M := fun r hr => by
  obtain ⟨k, hk, rfl⟩ := List.getElem_of_mem hr
  have e : f.getD k [] = f[k] := by rw [List.getD_eq_getElem?_getD, List.getElem?_eq_getElem hk]; rfl
  refine ⟨by rw [← e]; exact hf.2 k, fun x hx => ?_⟩
  obtain ⟨i, hi, rfl⟩ := List.getElem_of_mem hx
  have := hb i k
  unfold coef at this
  rw [e, getD_at hi] at this
  exact this
theorem aok_of {n M : Nat} {f : Bd} {x : Rat} (hf : Fit n f) (hb : BB M f) (hn : n ≤ 20) (hM : M < 2 ^ 60) (hx : fb 7 x) : AOk f x := ⟨by have := hf.1; omega, fun r hr => by
  obtain ⟨h1, h2⟩ := rowsN hf hb r hr
  exact ⟨by omega, fun y hy => up_to (Nat.lt_of_le_of_lt (h2 y hy) hM) (by decide)⟩, hx.up (by decide)⟩
theorem vok_of {n M : Nat} {f : Bd} {x : Rat} (hf : Fit n f) (hb : BB M f) (hn : n ≤ 20) (hM : M < 2 ^ 60) (hx : fb 7 x) : ∀ r ∈ f, VOk r x := fun r hr => by
  obtain ⟨h1, h2⟩ := rowsN hf hb r hr
  exact ⟨by omega, fun y hy => up_to (Nat.lt_of_le_of_lt (h2 y hy) hM) (by decide), hx.up (by decide)⟩
theorem bok_of {n M : Nat} {f : Bd} {x y : Rat} (hf : Fit n f) (hb : BB M f) (hn : n ≤ 20) (hM : M < 2 ^ 60) (hx : fb 7 x) (hy : fb 7 y) : BOk f x y := ⟨by have := hf.1; omega, vok_of hf hb hn hM hx, hy.up (by decide)⟩
theorem plus_fit {n : Nat} {f g : Bd} (hf : Fit n f) (hg : Fit n g) : Fit n (plusB f g) := fit_of (plusB_ok f g) fun i k q => by rw [coef_plusB, hf.out (by omega), hg.out (by omega)]; rfl
theorem minus_fit {n : Nat} {f g : Bd} (hf : Fit n f) (hg : Fit n g) : Fit n (plusB f (negB g)) := fit_of (plusB_ok f _) fun i k q => by rw [coef_plusB, coef_negB, hf.out (by omega), hg.out (by omega)]; rfl
theorem plus_bb {M : Nat} {f g : Bd} (hf : BB M f) (hg : BB M g) : BB (2 * M) (plusB f g) := fun i k => by
  have := hf i k; have := hg i k; rw [coef_plusB]; omega
theorem minus_bb {M : Nat} {f g : Bd} (hf : BB M f) (hg : BB M g) : BB (2 * M) (plusB f (negB g)) := fun i k => by
  have := hf i k; have := hg i k; rw [coef_plusB, coef_negB]; omega
theorem turn_bb {M : Nat} {f : Bd} (hf : BB M f) : BB M (turnB f) := fun i k => by rw [coef_turn]; exact hf k i
theorem slope_bb' {f : Bd} (hf : Fit 5 f) (bf : BB 1000000 f) : BB 5000000 (slopeB f) := fun i k => by
  rw [coef_slope]
  by_cases h : 5 ≤ 1 + k
  · rw [hf.out (.inr h)]; simp
  · have h1 := bf i (1 + k)
    rw [Int.natAbs_mul]
    have h2 : (1 + (k : Int)).natAbs ≤ 5 := by omega
    exact Nat.le_trans (Nat.mul_le_mul h2 h1) (by decide)
theorem val_fb {f : Bd} {x y : Rat} (hf : LB f) (hx : fb 7 x) (hy : fb 7 y) : fb 200000 (valB f x y) := by
  have hl := hf.fit.1
  exact (valB_fb f (vok_of hf.fit hf.bb (by decide) (by decide) hx) (hy.up (by decide))).up (by omega)
theorem above_bd {f : Bd} (h : LB f) {x : Rat} (hx : fb 7 x) : (aboveF f x).length ≤ 5 ∧ ∀ z ∈ aboveF f x, z.natAbs < 2 ^ 60 := by
  have hl := h.fit.1
  have hr := rowsN h.fit h.bb
  have hm : lenR f ≤ 5 := lenR_le fun r q => (hr r q).1
  have hab : ∀ z ∈ abV f x, z.natAbs < 2 ^ 60 := fun z hz => by
    obtain ⟨r, hq, rfl⟩ := List.mem_map.mp hz
    have hb := svF_bd (t := x.num) (b := (x.den : Int)) (m := 20) (h := 7) hx.1 (by rw [Int.natAbs_natCast]; exact hx.2) (padR (lenR f) r) fun q hp => by
      unfold padR at hp
      obtain ⟨i, _, rfl⟩ := List.mem_map.mp hp
      rw [List.getD_eq_getElem?_getD]
      by_cases hi : i < r.length
      · rw [List.getElem?_eq_getElem hi]
        have := (hr r hq).2 _ (List.getElem_mem hi)
        show (r[i]).natAbs < 1048576
        omega
      · rw [List.getElem?_eq_none (by omega)]; decide
    rw [padR_len] at hb
    exact up_to hb (by omega)
  refine ⟨?_, ?_⟩
  · unfold aboveF
    rw [lowB_len]
    have := trim_len (abV f x)
    have e : (abV f x).length = f.length := by unfold abV; rw [List.length_map]
    omega
  · exact low_bd (fun z hz => hab z (mem_trim hz)) fun hn => gl_pos (trimOk _) hn
def C__law_drawn (ds : List D) (d : D) : Prop := ∃ c : Int, ds = [.int c] ∧ d = boardD (wF c)
theorem len__law_drawn : ∀ ds d, C__law_drawn ds d → ds.length = 1 := by rintro _ _ ⟨c, rfl, _⟩; rfl
def szP (xs : List Int) : Int := if xs.getD 4 0 % 3 = 0 then 9 else if xs.getD 4 0 % 3 = 1 then 50 else 3
theorem szP_bd (xs : List Int) : 1 ≤ szP xs ∧ szP xs ≤ 50 := by
  unfold szP
  split
  · decide
  · split <;> decide
theorem szP_den (xs : List Int) (k : Nat) : 1 ≤ 1 + xs.getD k 0 % szP xs ∧ 1 + xs.getD k 0 % szP xs ≤ 50 := by
  obtain ⟨h1, h2⟩ := szP_bd xs
  have h3 := Int.emod_nonneg (xs.getD k 0) (show szP xs ≠ 0 by omega)
  have h4 := Int.emod_lt_of_pos (xs.getD k 0) (show 0 < szP xs by omega)
  omega
def pairG (xs : List Int) (k : Nat) : Rat := if xs.getD 4 0 / 3 % 3 = 1 then ((xs.getD (2 * k) 0 % 5 - 2 : Int) : Rat) else Rat.divInt (xs.getD (2 * k) 0 % 101 - 50) (1 + xs.getD (2 * k + 1) 0 % szP xs)
theorem pairG_fb (xs : List Int) (k : Nat) : fb 7 (pairG xs k) := by
  unfold pairG
  split
  · refine ⟨?_, ?_⟩
    · rw [Rat.num_intCast]; show _ < 128; omega
    · rw [Rat.den_intCast]; decide
  · have h5 := szP_den xs (2 * k + 1)
    refine fb_divInt (by omega) ?_ ?_
    · show _ < 128; omega
    · show _ < 128; omega
def C__law_pair (ds : List D) (d : D) : Prop := ∃ xs : List Int, ds = [intsD xs] ∧ 5 ≤ xs.length ∧ d = .lst [frD (pairG xs 0), frD (pairG xs 1)]
theorem len__law_pair : ∀ ds d, C__law_pair ds d → ds.length = 1 := by rintro _ _ ⟨c, rfl, _⟩; rfl
def C__law_right (ds : List D) (d : D) : Prop := ∃ (f g : Bd) (x y : Rat), ds = [boardD f, boardD g, frD x, frD y] ∧ LB f ∧ LB g ∧ fb 7 x ∧ fb 7 y ∧ d = .bl true
theorem len__law_right : ∀ ds d, C__law_right ds d → ds.length = 4 := by rintro _ _ ⟨f, g, x, y, rfl, _⟩; rfl
def C_law (ds : List D) (d : D) : Prop := ∃ (ns : List Int), ds = [.scr ns] ∧ ns.length ≤ 63 ∧ d = .bl true
theorem len_law : ∀ ds d, C_law ds d → ds.length = 1 := by rintro _ _ ⟨a, rfl, _⟩; rfl
theorem law_true (ns : List Int) (h : ns.length ≤ 63) : C_law [.scr ns] (.bl true) := ⟨ns, rfl, h, rfl⟩
section
variable {P : Program} {w : World} {K : PySem.W.Frag} {mg : Str → Option Value} {base : Heap} {k : Nat} {X : Cx}
theorem b__law_drawn (h : DefX P w K mg base k N__law_drawn (defScope s__law_drawn) X) (cN : Callee X "_law_numbers" C__law_numbers) (cB : Callee X "_law_board" C__law_board) (cA : Callee X "_law_any" C__law_any) :
    ∀ ds d, C__law_drawn ds d → EvSs X (ds.map Sl.val ++ List.replicate (N__law_drawn.length - ds.length) Sl.un) (defBody s__law_drawn) (.rt d) := by
  rintro ds d ⟨c, rfl, rfl⟩
  have t := h.at'
  haveI := h.fnT
  show EvSs X [.val (.int c), .un] _ _
  have hl : (numsF c 40).length = 40 := numsF_len c 40
  have l1 : (cutI (numsF c 40) (some 12) (some 38)).length = 26 := cut_mid (a := 12) (b := 38) hl (by omega) (by omega)
  have hv : atI ((numsF c 40).map D.int) 39 = some (.int ((numsF c 40).getD 39 0)) := at_nat (n := 39) (by omega)
  refine es_cons (s_set (d := intsD (numsF c 40)) t 1 (ev_call t cN (ea_cons (ev_name t 0 rfl) (ea_cons ev_int ea_nil)) ⟨c, 40, rfl, by decide, rfl⟩)) ?_
  by_cases hc : (numsF c 40).getD 39 0 % 3 = 1
  · have e : wF c = anyF (cutI (numsF c 40) (some 12) (some 38)) := by unfold wF; rw [if_pos hc]
    rw [e]
    exact es_ret (s_ifT (EvT.eq (et_eqI (ev_modP (i := (numsF c 40).getD 39 0) (ev_ix (EvE.ql (ev_name t 1 rfl)) ev_int hv) ev_int (by decide)) ev_int) (decide_eq_true hc)) (es_one (s_ret (ev_call t cA (ea_cons (d := intsD (cutI (numsF c 40) (some 12) (some 38))) (EvE.eq (EvN.toE (ev_cutL (EvE.ql (ev_name t 1 rfl)) (ev_part ev_int) (ev_part ev_int))) (by rw [cut_ints])) ea_nil) ⟨_, rfl, by omega, rfl⟩))))
  · have e : wF c = lbF c := by unfold wF; rw [if_neg hc]
    rw [e]
    exact es_cons (s_ifF (EvT.eq (et_eqI (ev_modP (i := (numsF c 40).getD 39 0) (ev_ix (EvE.ql (ev_name t 1 rfl)) ev_int hv) ev_int (by decide)) ev_int) (decide_eq_false hc)) es_nil) (es_one (s_ret (ev_call t cB (ea_cons (ev_name t 0 rfl) ea_nil) ⟨c, rfl, rfl⟩)))
theorem b__law_pair (h : DefX P w K mg base k N__law_pair (defScope s__law_pair) X) (m_range : mg "range" = none) (cL : Callee X "_law_low" C__law_low) :
    ∀ ds d, C__law_pair ds d → EvSs X (ds.map Sl.val ++ List.replicate (N__law_pair.length - ds.length) Sl.un) (defBody s__law_pair) (.rt d) := by
  rintro ds d ⟨xs, rfl, hl, rfl⟩
  have t := h.at'
  haveI := h.fnT
  have b1 : Blt X (defScope s__law_pair) "range" (.type "range") := blt_of (by rw [h.mg']; exact m_range)
  show EvSs X [.val (intsD xs), .un, .un, .un] _ _
  obtain ⟨h1, h2⟩ := szP_bd xs
  have hv4 : atI (xs.map D.int) 4 = some (.int (xs.getD 4 0)) := at_nat (n := 4) (by omega)
  refine es_cons (s_setN t 1 (en_lst ea_nil)) ?_
  refine es_cons (ρ' := [.val (intsD xs), .own [frD (pairG xs 0), frD (pairG xs 1)], .un, .un]) (s_for t (ei_range1 t b1 ev_int (by decide) (by decide)) (FRun.uptoE (fun i => [.val (intsD xs), .own ((List.range i).map fun k => frD (pairG xs k)), .un, .un]) (fun i d hi => ?_) rfl rfl)) (es_freeze 1 rfl (es_one (s_ret (ev_name t 1 rfl))))
  obtain ⟨hin, rfl⟩ := range_get hi
  have hi' : i < 2 := by simpa using hin
  have h3 := szP_den xs (2 * i + 1)
  have a1 : atI (xs.map D.int) (2 * (i : Int)) = some (.int (xs.getD (2 * i) 0)) := by
    rw [show (2 * (i : Int)) = ((2 * i : Nat) : Int) by omega]; exact at_nat (n := 2 * i) (by omega)
  have a2 : atI (xs.map D.int) (2 * (i : Int) + 1) = some (.int (xs.getD (2 * i + 1) 0)) := by
    rw [show (2 * (i : Int) + 1) = ((2 * i + 1 : Nat) : Int) by omega]; exact at_nat (n := 2 * i + 1) (by omega)
  have hsz : atI ([9, 50, 3].map D.int) (xs.getD 4 0 % 3) = some (.int (szP xs)) := by
    unfold szP
    have hm : xs.getD 4 0 % 3 = 0 ∨ xs.getD 4 0 % 3 = 1 ∨ xs.getD 4 0 % 3 = 2 := by omega
    rcases hm with e | e | e <;> rw [e] <;> rfl
  refine ⟨_, eg_name t 2, EvSs.weak (ρ1 := [.val (intsD xs), .own ((List.range (i + 1)).map fun k => frD (pairG xs k)), .val (.int (i : Int)), .val (frD (pairG xs i))]) (es_cons (s_set (d := frD (Rat.divInt (xs.getD (2 * i) 0 % 101 - 50) (1 + xs.getD (2 * i + 1) 0 % szP xs))) t 3 (ev_call t cL (ea_cons (ev_sub (ev_modP (i := xs.getD (2 * i) 0) (ev_ix (EvE.ql (ev_name t 0 rfl)) (ev_mul ev_int (ev_name t 2 rfl) (mul_left (by decide) (by decide))) a1) ev_int (by decide)) ev_int) (ea_cons (ev_add ev_int (ev_modP (i := xs.getD (2 * i + 1) 0) (j := szP xs) (ev_ix (EvE.ql (ev_name t 0 rfl)) (ev_add (ev_mul ev_int (ev_name t 2 rfl) (mul_left (by decide) (by decide))) ev_int) a2) (ev_ix (EvN.toQ (en_lst (ea_cons ev_int (ea_cons ev_int (ea_cons ev_int ea_nil))))) (ev_modP (i := xs.getD 4 0) (ev_ix (EvE.ql (ev_name t 0 rfl)) ev_int hv4) ev_int (by decide)) hsz) (by omega))) ea_nil)) ⟨_, _, rfl, by omega, rfl⟩)) (es_cons (ρ' := [.val (intsD xs), .own ((List.range i).map fun k => frD (pairG xs k)), .val (.int (i : Int)), .val (frD (pairG xs i))]) ?i1 (es_one ?ap))) (.keep (.keep (.forget (.forget .nil))))⟩
  case i1 =>
    by_cases hc : xs.getD 4 0 / 3 % 3 = 1
    · have e : pairG xs i = ((xs.getD (2 * i) 0 % 5 - 2 : Int) : Rat) := by unfold pairG; rw [if_pos hc]
      rw [e, fr_int]
      exact s_ifT (EvT.eq (et_eqI (ev_modP (ev_divP (i := xs.getD 4 0) t (ev_ix (EvE.ql (ev_name t 0 rfl)) ev_int hv4) ev_int (by decide)) ev_int (by decide)) ev_int) (decide_eq_true hc)) (es_one (s_set t 3 (ev_tup (ea_cons (ev_sub (ev_modP (i := xs.getD (2 * i) 0) (ev_ix (EvE.ql (ev_name t 0 rfl)) (ev_mul ev_int (ev_name t 2 rfl) (mul_left (by decide) (by decide))) a1) ev_int (by decide)) ev_int) (ea_cons ev_int ea_nil)))))
    · have e : pairG xs i = Rat.divInt (xs.getD (2 * i) 0 % 101 - 50) (1 + xs.getD (2 * i + 1) 0 % szP xs) := by unfold pairG; rw [if_neg hc]
      rw [e]
      exact s_ifF (EvT.eq (et_eqI (ev_modP (ev_divP (i := xs.getD 4 0) t (ev_ix (EvE.ql (ev_name t 0 rfl)) ev_int hv4) ev_int (by decide)) ev_int (by decide)) ev_int) (decide_eq_false hc)) es_nil
  case ap =>
    refine EvS.eq (s_append t 1 rfl (d := frD (pairG xs i)) (ev_name t 3 rfl) (by rw [List.length_map, List.length_range]; exact small (by omega))) ?_
    rw [List.range_succ, List.map_append]; rfl
theorem b__law_right (h : DefX P w K mg base k N__law_right (defScope s__law_right) X) (cBV : Callee X "board_value" C_board_value) (cP : Callee X "plus" C_plus) (cM : Callee X "minus" C_minus) (cT : Callee X "times" C_times) (cRA : Callee X "row_above" C_row_above) (cPL : Callee X "put_low" C_put_low) (cBP : Callee X "board_plus" C_board_plus) (cBM : Callee X "board_minus" C_board_minus) (cBT : Callee X "board_times" C_board_times) (cRT : Callee X "row_times" C_row_times) (cSU : Callee X "slope_up" C_slope_up) (cSl : Callee X "slope" C_slope) (cRV : Callee X "row_value" C_row_value) (cTu : Callee X "turned" C_turned) :
    ∀ ds d, C__law_right ds d → EvSs X (ds.map Sl.val ++ List.replicate (N__law_right.length - ds.length) Sl.un) (defBody s__law_right) (.rt d) := by
  rintro ds d ⟨f, g, x, y, rfl, hf, hg, hx, hy, rfl⟩
  have t := h.at'
  haveI := h.fnT
  have sf : SmB 100 f := hf.fit.sm (by omega)
  have sg : SmB 100 g := hg.fit.sm (by omega)
  have sf1 : SmB 1000 f := hf.fit.sm (by omega)
  have sg1 : SmB 1000 g := hg.fit.sm (by omega)
  have lg := hg.bb.lim (by decide)
  have lf := hf.bb.lim (by decide)
  have f9 : Fit 9 (timesB f g) := fit_of (timesB_ok _ _) fun i k q => times_out hf.fit hg.fit (l := 9) (by omega) q
  have b9 := times_bb hf.fit hg.fit hf.bb hg.bb
  have o1 : BOk f x y := bok_of hf.fit hf.bb (by decide) (by decide) hx hy
  have o2 : BOk g x y := bok_of hg.fit hg.bb (by decide) (by decide) hx hy
  have o3 : BOk (plusB f g) x y := bok_of (plus_fit hf.fit hg.fit) (plus_bb hf.bb hg.bb) (by decide) (by decide) hx hy
  have o4 : BOk (plusB f (negB g)) x y := bok_of (minus_fit hf.fit hg.fit) (minus_bb hf.bb hg.bb) (by decide) (by decide) hx hy
  have o5 : BOk (timesB f g) x y := bok_of f9 b9 (by decide) (by decide) hx hy
  have o6 : BOk (turnB f) y x := bok_of (turn_fit hf.ok hf.fit) (turn_bb hf.bb) (by decide) (by decide) hy hx
  have o7 : BOk (turnB (timesB f g)) y x := bok_of (turn_fit (timesB_ok _ _) f9) (turn_bb b9) (by decide) (by decide) hy hx
  have u1 := val_fb hf hx hy
  have u2 := val_fb hg hx hy
  have q1 : AOk f x := aok_of hf.fit hf.bb (by decide) (by decide) hx
  have q2 : AOk g x := aok_of hg.fit hg.bb (by decide) (by decide) hx
  have q3 : AOk (timesB f g) x := aok_of f9 b9 (by decide) (by decide) hx
  have q4 : AOk (slopeB f) x := aok_of (slope_fit hf.ok hf.fit) (slope_bb' hf.fit hf.bb) (by decide) (by decide) hx
  obtain ⟨r1, r2⟩ := above_bd hf hx
  obtain ⟨r3, r4⟩ := above_bd hg hx
  have va : VOk (aboveF f x) y := ⟨by omega, fun z hz => up_to (r2 z hz) (by decide), hy.up (by decide)⟩
  have hz := above_zero f x y
  have hsl := slopeL_ok (aboveF_ok f x)
  have e5 := above_times f g x
  have e6 := above_slope f x hsl
  have lt : (timesL (aboveF f x) (aboveF g x)).length < 1000 := Nat.lt_of_le_of_lt (timesL_len _ _) (by omega)
  have ls : (slopeL (aboveF f x)).length < 1000 := by unfold slopeL; rw [List.length_map, List.length_range]; omega
  show EvSs X [.val (boardD f), .val (boardD g), .val (frD x), .val (frD y), .un, .un, .un, .un] _ _
  refine es_cons (s_set (d := frD (valB f x y)) t 4 (ev_call t cBV (ea_cons (ev_name t 0 rfl) (ea_cons (ev_name t 2 rfl) (ea_cons (ev_name t 3 rfl) ea_nil))) ⟨f, x, y, rfl, o1, rfl⟩)) ?_
  refine es_cons (s_set (d := frD (valB g x y)) t 5 (ev_call t cBV (ea_cons (ev_name t 1 rfl) (ea_cons (ev_name t 2 rfl) (ea_cons (ev_name t 3 rfl) ea_nil))) ⟨g, x, y, rfl, o2, rfl⟩)) ?_
  refine es_cons (s_ifF (et_same (d := frD (valB f x y + valB g x y)) t (fn_row _) (EvE.eq (ev_call t cBV (ea_cons (ev_call t cBP (ea_cons (ev_name t 0 rfl) (ea_cons (ev_name t 1 rfl) ea_nil)) ⟨f, g, rfl, sf1, sg1, rfl⟩) (ea_cons (ev_name t 2 rfl) (ea_cons (ev_name t 3 rfl) ea_nil))) ⟨plusB f g, x, y, rfl, o3, rfl⟩) (by rw [val_plus])) (ev_call t cP (ea_cons (ev_name t 4 rfl) (ea_cons (ev_name t 5 rfl) ea_nil)) ⟨_, _, 200000, rfl, u1, u2, by decide, rfl⟩)) es_nil) ?_
  refine es_cons (s_ifF (et_same (d := frD (valB f x y - valB g x y)) t (fn_row _) (EvE.eq (ev_call t cBV (ea_cons (ev_call t cBM (ea_cons (ev_name t 0 rfl) (ea_cons (ev_name t 1 rfl) ea_nil)) ⟨f, g, rfl, sf1, sg1, rfl⟩) (ea_cons (ev_name t 2 rfl) (ea_cons (ev_name t 3 rfl) ea_nil))) ⟨plusB f (negB g), x, y, rfl, o4, rfl⟩) (by rw [val_minus])) (ev_call t cM (ea_cons (ev_name t 4 rfl) (ea_cons (ev_name t 5 rfl) ea_nil)) ⟨_, _, 200000, rfl, u1, u2, by decide, rfl⟩)) es_nil) ?_
  refine es_cons (s_ifF (et_same (d := frD (valB f x y * valB g x y)) t (fn_row _) (EvE.eq (ev_call t cBV (ea_cons (ev_call t cBT (ea_cons (ev_name t 0 rfl) (ea_cons (ev_name t 1 rfl) ea_nil)) ⟨f, g, rfl, sf, sg, lg, rfl⟩) (ea_cons (ev_name t 2 rfl) (ea_cons (ev_name t 3 rfl) ea_nil))) ⟨timesB f g, x, y, rfl, o5, rfl⟩) (by rw [val_times])) (ev_call t cT (ea_cons (ev_name t 4 rfl) (ea_cons (ev_name t 5 rfl) ea_nil)) ⟨_, _, 200000, rfl, u1, u2, by decide, rfl⟩)) es_nil) ?_
  refine es_cons (s_ifF (EvW.toT (ew_orF (et_same (d := frD (valB f x y)) t (fn_row _) (EvE.eq (ev_call t cBV (ea_cons (ev_call t cTu (ea_cons (ev_name t 0 rfl) ea_nil) ⟨f, rfl, sf1, rfl⟩) (ea_cons (ev_name t 3 rfl) (ea_cons (ev_name t 2 rfl) ea_nil))) ⟨turnB f, y, x, rfl, o6, rfl⟩) (by rw [val_turn])) (ev_name t 4 rfl))
    (ew_or1 (et_same (d := frD (valB f x y * valB g x y)) t (fn_row _) (EvE.eq (ev_call t cBV (ea_cons (ev_call t cTu (ea_cons (ev_call t cBT (ea_cons (ev_name t 0 rfl) (ea_cons (ev_name t 1 rfl) ea_nil)) ⟨f, g, rfl, sf, sg, lg, rfl⟩) ea_nil) ⟨timesB f g, rfl, f9.sm (by omega), rfl⟩) (ea_cons (ev_name t 3 rfl) (ea_cons (ev_name t 2 rfl) ea_nil))) ⟨turnB (timesB f g), y, x, rfl, o7, rfl⟩) (by rw [val_turn, val_times])) (ev_call t cT (ea_cons (ev_name t 4 rfl) (ea_cons (ev_name t 5 rfl) ea_nil)) ⟨_, _, 200000, rfl, u1, u2, by decide, rfl⟩))))) es_nil) ?_
  refine es_cons (ρ' := [.val (boardD f), .val (boardD g), .val (frD x), .val (frD y), .val (frD (valB f x y)), .val (frD (valB g x y)), .val (rowD (aboveF f x)), .val (rowD (aboveF g x))]) (s_par t 6 7 (ev_call t cRA (ea_cons (ev_name t 0 rfl) (ea_cons (ev_name t 2 rfl) ea_nil)) ⟨f, x, rfl, q1, rfl⟩) (ev_call t cRA (ea_cons (ev_name t 1 rfl) (ea_cons (ev_name t 2 rfl) ea_nil)) ⟨g, x, rfl, q2, rfl⟩) (by decide)) ?_
  refine es_cons (s_ifF (et_same (d := rowD (lowB (timesL (aboveF f x) (aboveF g x)))) t (fn_row _) (EvE.eq (ev_call t cRA (ea_cons (ev_call t cBT (ea_cons (ev_name t 0 rfl) (ea_cons (ev_name t 1 rfl) ea_nil)) ⟨f, g, rfl, sf, sg, lg, rfl⟩) (ea_cons (ev_name t 2 rfl) ea_nil)) ⟨timesB f g, x, rfl, q3, rfl⟩) (by rw [e5])) (ev_call t cPL (ea_cons (ev_call t cRT (ea_cons (ev_name t 6 rfl) (ea_cons (ev_name t 7 rfl) ea_nil)) ⟨aboveF f x, aboveF g x, rfl, by omega, by omega, fun z hz => by have := r4 z hz; omega, rfl⟩) ea_nil) ⟨_, rfl, lt, fun hn => gl_pos (timesL_ok _ _) hn, rfl⟩)) es_nil) ?_
  refine es_cons (s_ifF (et_same (d := rowD (lowB (slopeL (aboveF f x)))) t (fn_row _) (EvE.eq (ev_call t cRA (ea_cons (ev_call t cSU (ea_cons (ev_name t 0 rfl) ea_nil) ⟨f, rfl, sf, lf, rfl⟩) (ea_cons (ev_name t 2 rfl) ea_nil)) ⟨slopeB f, x, rfl, q4, rfl⟩) (by rw [e6])) (ev_call t cPL (ea_cons (ev_call t cSl (ea_cons (ev_name t 6 rfl) ea_nil) ⟨aboveF f x, rfl, by omega, rfl⟩) ea_nil) ⟨_, rfl, ls, fun hn => gl_pos hsl hn, rfl⟩)) es_nil) ?_
  refine es_one (s_ret (EvE.eq (ev_eqB t (ev_eqF (q := 0) t (ev_call t cRV (ea_cons (ev_name t 6 rfl) (ea_cons (ev_name t 3 rfl) ea_nil)) ⟨aboveF f x, y, rfl, va, rfl⟩) (EvE.eq (ev_tup (ea_cons ev_int (ea_cons ev_int ea_nil))) rfl)) (ev_eqF (q := 0) t (ev_name t 4 rfl) (EvE.eq (ev_tup (ea_cons ev_int (ea_cons ev_int ea_nil))) rfl))) ?_))
  have : decide (evalR (aboveF f x) y = 0) = decide (valB f x y = 0) := decide_eq_decide.mpr hz
  rw [this]; simp
theorem b_law (h : DefX P w K mg base k N_law (defScope s_law) X) (m_range : mg "range" = none) (cD : Callee X "_law_drawn" C__law_drawn) (cN : Callee X "_law_numbers" C__law_numbers) (cC : Callee X "_law_cell" C__law_cell) (cP : Callee X "_law_pair" C__law_pair) (cR : Callee X "_law_right" C__law_right) :
    ∀ ds d, C_law ds d → EvSs X (ds.map Sl.val ++ List.replicate (N_law.length - ds.length) Sl.un) (defBody s_law) (.rt d) := by
  rintro ds d ⟨ns, rfl, hn, rfl⟩
  have t := h.at'
  haveI := h.fnT
  have b1 : Blt X (defScope s_law) "range" (.type "range") := blt_of (by rw [h.mg']; exact m_range)
  show EvSs X [.val (.scr ns), .un, .un, .un, .un, .un, .un] _ _
  have hf := wF_lb (cellF ns 0)
  have hg := wF_lb (cellF ns 1)
  have hl : (numsF (cellF ns 2) 15).length = 15 := numsF_len _ 15
  refine es_cons (s_set (d := boardD (wF (cellF ns 0))) t 1 (ev_call t cD (ea_cons (ev_call t cC (ea_cons (ev_name t 0 rfl) (ea_cons ev_int ea_nil)) ⟨ns, 0, rfl, by decide, by decide, rfl⟩) ea_nil) ⟨_, rfl, rfl⟩)) ?_
  refine es_cons (s_set (d := boardD (wF (cellF ns 1))) t 2 (ev_call t cD (ea_cons (ev_call t cC (ea_cons (ev_name t 0 rfl) (ea_cons ev_int ea_nil)) ⟨ns, 1, rfl, by decide, by decide, rfl⟩) ea_nil) ⟨_, rfl, rfl⟩)) ?_
  refine es_cons (s_set (d := intsD (numsF (cellF ns 2) 15)) t 3 (ev_call t cN (ea_cons (ev_call t cC (ea_cons (ev_name t 0 rfl) (ea_cons ev_int ea_nil)) ⟨ns, 2, rfl, by decide, by decide, rfl⟩) (ea_cons ev_int ea_nil)) ⟨_, 15, rfl, by decide, rfl⟩)) ?_
  generalize wF (cellF ns 0) = f at hf
  generalize wF (cellF ns 1) = g at hg
  generalize numsF (cellF ns 2) 15 = xs at hl
  refine es_cons (s_for t (ei_range1 t b1 ev_int (by decide) (by decide)) (FRun.same _ _ fun d hd => ?_)) (es_one (s_ret ev_bl))
  obtain ⟨i, hi0⟩ := List.getElem?_of_mem hd
  obtain ⟨hi, rfl⟩ := range_get hi0
  have hi' : i < 3 := by simpa using hi
  have hc : 5 ≤ (cutI xs (some (5 * (i : Int))) none).length := by
    have e : (5 * (i : Int)) = ((5 * i : Nat) : Int) := by omega
    rw [e]
    unfold cutI
    have e1 : HT.sIx xs.length 0 (some ((5 * i : Nat) : Int)) = 5 * i := by simp only [HT.sIx]; split <;> omega
    have e2 : HT.sIx xs.length xs.length none = xs.length := by simp [HT.sIx]
    rw [List.length_take, List.length_drop, e1, e2, hl]; omega
  have hx := pairG_fb (cutI xs (some (5 * (i : Int))) none) 0
  have hy := pairG_fb (cutI xs (some (5 * (i : Int))) none) 1
  refine ⟨_, eg_name t 4, EvSs.weak (ρ1 := [.val (.scr ns), .val (boardD f), .val (boardD g), .val (intsD xs), .val (.int (i : Int)), .val (frD (pairG (cutI xs (some (5 * (i : Int))) none) 0)), .val (frD (pairG (cutI xs (some (5 * (i : Int))) none) 1))]) (es_cons (s_asg t (ev_call t cP (ea_cons (d := intsD (cutI xs (some (5 * (i : Int))) none)) (EvE.eq (EvN.toE (ev_cutL (EvE.ql (ev_name t 3 rfl)) (ev_part (ev_mul ev_int (ev_name t 4 rfl) (mul_left (by decide) (by decide)))) ev_noPart)) (by rw [cut_ints])) ea_nil) ⟨_, rfl, hc, rfl⟩) (eg_lst t (egs_cons (eg_name t 5) (egs_cons (eg_name t 6) egs_nil)))) (es_one ?_)) (.keep (.keep (.keep (.keep (.forget (.forget (.forget .nil)))))))⟩
  exact s_ifF (EvW.toT (ew_orF (EvT.eq (et_not (et_bl (ev_call t cR (ea_cons (ev_name t 1 rfl) (ea_cons (ev_name t 2 rfl) (ea_cons (ev_name t 5 rfl) (ea_cons (ev_name t 6 rfl) ea_nil)))) ⟨f, g, _, _, rfl, hf, hg, hx, hy, rfl⟩))) rfl) (ew_or1 (EvT.eq (et_not (et_bl (ev_call t cR (ea_cons (ev_name t 2 rfl) (ea_cons (ev_name t 1 rfl) (ea_cons (ev_name t 6 rfl) (ea_cons (ev_name t 5 rfl) ea_nil)))) ⟨g, f, _, _, rfl, hg, hf, hy, hx, rfl⟩))) rfl)))) es_nil
end
end My

set_option linter.all false
set_option autoImplicit false
set_option maxRecDepth 100000
namespace My
open PySem L2 L2.EV PyProof.Rows
set_option maxHeartbeats 4000000 in
theorem all_mk {l : PySem.W.OpenLaw} {w : World} {K : PySem.W.Frag} {h : Heap} {mg : Str → Option Value} {fa f1 f2 f3 f4 f5 f6 f7 f8 f9 f10 f11 f12 f13 f14 f15 f16 f17 f18 f19 f20 f21 f22 f23 f24 f25 f26 f27 f28 f29 f30 f31 f32 f33 f34 f35 f36 f37 f38 f39 : Addr} (ht : l.prog.given.tree = none) (X : K.In h) (G : h.Ns mainGlobals mg) (hfa : mg "law" = some (.ref fa))
    {od1 an1 od2 an2 od3 an3 od4 an4 od5 an5 od6 an6 od7 an7 od8 an8 od9 an9 od10 an10 od11 an11 od12 an12 od13 an13 od14 an14 od15 an15 od16 an16 od17 an17 od18 an18 od19 an19 od20 an20 od21 an21 od22 an22 od23 an23 od24 an24 od25 an25 od26 an26 od27 an27 od28 an28 od29 an29 od30 an30 od31 an31 od32 an32 od33 an33 od34 an34 od35 an35 od36 an36 od37 an37 od38 an38 od39 an39 : Option Addr} {sl1 sl2 sl3 sl4 sl5 sl6 sl7 sl8 sl9 sl10 sl11 sl12 sl13 sl14 sl15 sl16 sl17 sl18 sl19 sl20 sl21 sl22 sl23 sl24 sl25 sl26 sl27 sl28 sl29 sl30 sl31 sl32 sl33 sl34 sl35 sl36 sl37 sl38 sl39 : Array (Option Value)} {oc1 kV1 dc1 pm1 cd1 ct1 oc2 kV2 dc2 pm2 cd2 ct2 oc3 kV3 dc3 pm3 cd3 ct3 oc4 kV4 dc4 pm4 cd4 ct4 oc5 kV5 dc5 pm5 cd5 ct5 oc6 kV6 dc6 pm6 cd6 ct6 oc7 kV7 dc7 pm7 cd7 ct7 oc8 kV8 dc8 pm8 cd8 ct8 oc9 kV9 dc9 pm9 cd9 ct9 oc10 kV10 dc10 pm10 cd10 ct10 oc11 kV11 dc11 pm11 cd11 ct11 oc12 kV12 dc12 pm12 cd12 ct12 oc13 kV13 dc13 pm13 cd13 ct13 oc14 kV14 dc14 pm14 cd14 ct14 oc15 kV15 dc15 pm15 cd15 ct15 oc16 kV16 dc16 pm16 cd16 ct16 oc17 kV17 dc17 pm17 cd17 ct17 oc18 kV18 dc18 pm18 cd18 ct18 oc19 kV19 dc19 pm19 cd19 ct19 oc20 kV20 dc20 pm20 cd20 ct20 oc21 kV21 dc21 pm21 cd21 ct21 oc22 kV22 dc22 pm22 cd22 ct22 oc23 kV23 dc23 pm23 cd23 ct23 oc24 kV24 dc24 pm24 cd24 ct24 oc25 kV25 dc25 pm25 cd25 ct25 oc26 kV26 dc26 pm26 cd26 ct26 oc27 kV27 dc27 pm27 cd27 ct27 oc28 kV28 dc28 pm28 cd28 ct28 oc29 kV29 dc29 pm29 cd29 ct29 oc30 kV30 dc30 pm30 cd30 ct30 oc31 kV31 dc31 pm31 cd31 ct31 oc32 kV32 dc32 pm32 cd32 ct32 oc33 kV33 dc33 pm33 cd33 ct33 oc34 kV34 dc34 pm34 cd34 ct34 oc35 kV35 dc35 pm35 cd35 ct35 oc36 kV36 dc36 pm36 cd36 ct36 oc37 kV37 dc37 pm37 cd37 ct37 oc38 kV38 dc38 pm38 cd38 ct38 oc39 kV39 dc39 pm39 cd39 ct39 : Value}
    (a1 : PySem.W.nsIn K mainGlobals "common_divisor" = some (some (.ref f1))) (l1 : K.lookup f1 = some ⟨oc1, od1, .func (PySem.W.fnOf "common_divisor" "common_divisor" (defArgs s_common_divisor) (defBody s_common_divisor) (defScope s_common_divisor) .none kV1 dc1 pm1 an1 cd1 ct1), sl1⟩) (c1 : PySem.W.codeIn K cd1 "common_divisor" = true) (k1 : PySem.W.keepIn K (.ref f1) = true)
    (a2 : PySem.W.nsIn K mainGlobals "fraction" = some (some (.ref f2))) (l2 : K.lookup f2 = some ⟨oc2, od2, .func (PySem.W.fnOf "fraction" "fraction" (defArgs s_fraction) (defBody s_fraction) (defScope s_fraction) .none kV2 dc2 pm2 an2 cd2 ct2), sl2⟩) (c2 : PySem.W.codeIn K cd2 "fraction" = true) (k2 : PySem.W.keepIn K (.ref f2) = true)
    (a3 : PySem.W.nsIn K mainGlobals "plus" = some (some (.ref f3))) (l3 : K.lookup f3 = some ⟨oc3, od3, .func (PySem.W.fnOf "plus" "plus" (defArgs s_plus) (defBody s_plus) (defScope s_plus) .none kV3 dc3 pm3 an3 cd3 ct3), sl3⟩) (c3 : PySem.W.codeIn K cd3 "plus" = true) (k3 : PySem.W.keepIn K (.ref f3) = true)
    (a4 : PySem.W.nsIn K mainGlobals "minus" = some (some (.ref f4))) (l4 : K.lookup f4 = some ⟨oc4, od4, .func (PySem.W.fnOf "minus" "minus" (defArgs s_minus) (defBody s_minus) (defScope s_minus) .none kV4 dc4 pm4 an4 cd4 ct4), sl4⟩) (c4 : PySem.W.codeIn K cd4 "minus" = true) (k4 : PySem.W.keepIn K (.ref f4) = true)
    (a5 : PySem.W.nsIn K mainGlobals "times" = some (some (.ref f5))) (l5 : K.lookup f5 = some ⟨oc5, od5, .func (PySem.W.fnOf "times" "times" (defArgs s_times) (defBody s_times) (defScope s_times) .none kV5 dc5 pm5 an5 cd5 ct5), sl5⟩) (c5 : PySem.W.codeIn K cd5 "times" = true) (k5 : PySem.W.keepIn K (.ref f5) = true)
    (a6 : PySem.W.nsIn K mainGlobals "without_end" = some (some (.ref f6))) (l6 : K.lookup f6 = some ⟨oc6, od6, .func (PySem.W.fnOf "without_end" "without_end" (defArgs s_without_end) (defBody s_without_end) (defScope s_without_end) .none kV6 dc6 pm6 an6 cd6 ct6), sl6⟩) (c6 : PySem.W.codeIn K cd6 "without_end" = true) (k6 : PySem.W.keepIn K (.ref f6) = true)
    (a7 : PySem.W.nsIn K mainGlobals "part_at" = some (some (.ref f7))) (l7 : K.lookup f7 = some ⟨oc7, od7, .func (PySem.W.fnOf "part_at" "part_at" (defArgs s_part_at) (defBody s_part_at) (defScope s_part_at) .none kV7 dc7 pm7 an7 cd7 ct7), sl7⟩) (c7 : PySem.W.codeIn K cd7 "part_at" = true) (k7 : PySem.W.keepIn K (.ref f7) = true)
    (a8 : PySem.W.nsIn K mainGlobals "row_of" = some (some (.ref f8))) (l8 : K.lookup f8 = some ⟨oc8, od8, .func (PySem.W.fnOf "row_of" "row_of" (defArgs s_row_of) (defBody s_row_of) (defScope s_row_of) .none kV8 dc8 pm8 an8 cd8 ct8), sl8⟩) (c8 : PySem.W.codeIn K cd8 "row_of" = true) (k8 : PySem.W.keepIn K (.ref f8) = true)
    (a9 : PySem.W.nsIn K mainGlobals "row_plus" = some (some (.ref f9))) (l9 : K.lookup f9 = some ⟨oc9, od9, .func (PySem.W.fnOf "row_plus" "row_plus" (defArgs s_row_plus) (defBody s_row_plus) (defScope s_row_plus) .none kV9 dc9 pm9 an9 cd9 ct9), sl9⟩) (c9 : PySem.W.codeIn K cd9 "row_plus" = true) (k9 : PySem.W.keepIn K (.ref f9) = true)
    (a10 : PySem.W.nsIn K mainGlobals "other_sign" = some (some (.ref f10))) (l10 : K.lookup f10 = some ⟨oc10, od10, .func (PySem.W.fnOf "other_sign" "other_sign" (defArgs s_other_sign) (defBody s_other_sign) (defScope s_other_sign) .none kV10 dc10 pm10 an10 cd10 ct10), sl10⟩) (c10 : PySem.W.codeIn K cd10 "other_sign" = true) (k10 : PySem.W.keepIn K (.ref f10) = true)
    (a11 : PySem.W.nsIn K mainGlobals "row_times" = some (some (.ref f11))) (l11 : K.lookup f11 = some ⟨oc11, od11, .func (PySem.W.fnOf "row_times" "row_times" (defArgs s_row_times) (defBody s_row_times) (defScope s_row_times) .none kV11 dc11 pm11 an11 cd11 ct11), sl11⟩) (c11 : PySem.W.codeIn K cd11 "row_times" = true) (k11 : PySem.W.keepIn K (.ref f11) = true)
    (a12 : PySem.W.nsIn K mainGlobals "slope" = some (some (.ref f12))) (l12 : K.lookup f12 = some ⟨oc12, od12, .func (PySem.W.fnOf "slope" "slope" (defArgs s_slope) (defBody s_slope) (defScope s_slope) .none kV12 dc12 pm12 an12 cd12 ct12), sl12⟩) (c12 : PySem.W.codeIn K cd12 "slope" = true) (k12 : PySem.W.keepIn K (.ref f12) = true)
    (a13 : PySem.W.nsIn K mainGlobals "put_low" = some (some (.ref f13))) (l13 : K.lookup f13 = some ⟨oc13, od13, .func (PySem.W.fnOf "put_low" "put_low" (defArgs s_put_low) (defBody s_put_low) (defScope s_put_low) .none kV13 dc13 pm13 an13 cd13 ct13), sl13⟩) (c13 : PySem.W.codeIn K cd13 "put_low" = true) (k13 : PySem.W.keepIn K (.ref f13) = true)
    (a14 : PySem.W.nsIn K mainGlobals "scaled_value" = some (some (.ref f14))) (l14 : K.lookup f14 = some ⟨oc14, od14, .func (PySem.W.fnOf "scaled_value" "scaled_value" (defArgs s_scaled_value) (defBody s_scaled_value) (defScope s_scaled_value) .none kV14 dc14 pm14 an14 cd14 ct14), sl14⟩) (c14 : PySem.W.codeIn K cd14 "scaled_value" = true) (k14 : PySem.W.keepIn K (.ref f14) = true)
    (a15 : PySem.W.nsIn K mainGlobals "power_of" = some (some (.ref f15))) (l15 : K.lookup f15 = some ⟨oc15, od15, .func (PySem.W.fnOf "power_of" "power_of" (defArgs s_power_of) (defBody s_power_of) (defScope s_power_of) .none kV15 dc15 pm15 an15 cd15 ct15), sl15⟩) (c15 : PySem.W.codeIn K cd15 "power_of" = true) (k15 : PySem.W.keepIn K (.ref f15) = true)
    (a16 : PySem.W.nsIn K mainGlobals "row_value" = some (some (.ref f16))) (l16 : K.lookup f16 = some ⟨oc16, od16, .func (PySem.W.fnOf "row_value" "row_value" (defArgs s_row_value) (defBody s_row_value) (defScope s_row_value) .none kV16 dc16 pm16 an16 cd16 ct16), sl16⟩) (c16 : PySem.W.codeIn K cd16 "row_value" = true) (k16 : PySem.W.keepIn K (.ref f16) = true)
    (a17 : PySem.W.nsIn K mainGlobals "board_of" = some (some (.ref f17))) (l17 : K.lookup f17 = some ⟨oc17, od17, .func (PySem.W.fnOf "board_of" "board_of" (defArgs s_board_of) (defBody s_board_of) (defScope s_board_of) .none kV17 dc17 pm17 an17 cd17 ct17), sl17⟩) (c17 : PySem.W.codeIn K cd17 "board_of" = true) (k17 : PySem.W.keepIn K (.ref f17) = true)
    (a18 : PySem.W.nsIn K mainGlobals "board_plus" = some (some (.ref f18))) (l18 : K.lookup f18 = some ⟨oc18, od18, .func (PySem.W.fnOf "board_plus" "board_plus" (defArgs s_board_plus) (defBody s_board_plus) (defScope s_board_plus) .none kV18 dc18 pm18 an18 cd18 ct18), sl18⟩) (c18 : PySem.W.codeIn K cd18 "board_plus" = true) (k18 : PySem.W.keepIn K (.ref f18) = true)
    (a19 : PySem.W.nsIn K mainGlobals "board_minus" = some (some (.ref f19))) (l19 : K.lookup f19 = some ⟨oc19, od19, .func (PySem.W.fnOf "board_minus" "board_minus" (defArgs s_board_minus) (defBody s_board_minus) (defScope s_board_minus) .none kV19 dc19 pm19 an19 cd19 ct19), sl19⟩) (c19 : PySem.W.codeIn K cd19 "board_minus" = true) (k19 : PySem.W.keepIn K (.ref f19) = true)
    (a20 : PySem.W.nsIn K mainGlobals "board_times" = some (some (.ref f20))) (l20 : K.lookup f20 = some ⟨oc20, od20, .func (PySem.W.fnOf "board_times" "board_times" (defArgs s_board_times) (defBody s_board_times) (defScope s_board_times) .none kV20 dc20 pm20 an20 cd20 ct20), sl20⟩) (c20 : PySem.W.codeIn K cd20 "board_times" = true) (k20 : PySem.W.keepIn K (.ref f20) = true)
    (a21 : PySem.W.nsIn K mainGlobals "slope_up" = some (some (.ref f21))) (l21 : K.lookup f21 = some ⟨oc21, od21, .func (PySem.W.fnOf "slope_up" "slope_up" (defArgs s_slope_up) (defBody s_slope_up) (defScope s_slope_up) .none kV21 dc21 pm21 an21 cd21 ct21), sl21⟩) (c21 : PySem.W.codeIn K cd21 "slope_up" = true) (k21 : PySem.W.keepIn K (.ref f21) = true)
    (a22 : PySem.W.nsIn K mainGlobals "length_of_rows" = some (some (.ref f22))) (l22 : K.lookup f22 = some ⟨oc22, od22, .func (PySem.W.fnOf "length_of_rows" "length_of_rows" (defArgs s_length_of_rows) (defBody s_length_of_rows) (defScope s_length_of_rows) .none kV22 dc22 pm22 an22 cd22 ct22), sl22⟩) (c22 : PySem.W.codeIn K cd22 "length_of_rows" = true) (k22 : PySem.W.keepIn K (.ref f22) = true)
    (a23 : PySem.W.nsIn K mainGlobals "turned" = some (some (.ref f23))) (l23 : K.lookup f23 = some ⟨oc23, od23, .func (PySem.W.fnOf "turned" "turned" (defArgs s_turned) (defBody s_turned) (defScope s_turned) .none kV23 dc23 pm23 an23 cd23 ct23), sl23⟩) (c23 : PySem.W.codeIn K cd23 "turned" = true) (k23 : PySem.W.keepIn K (.ref f23) = true)
    (a24 : PySem.W.nsIn K mainGlobals "board_value" = some (some (.ref f24))) (l24 : K.lookup f24 = some ⟨oc24, od24, .func (PySem.W.fnOf "board_value" "board_value" (defArgs s_board_value) (defBody s_board_value) (defScope s_board_value) .none kV24 dc24 pm24 an24 cd24 ct24), sl24⟩) (c24 : PySem.W.codeIn K cd24 "board_value" = true) (k24 : PySem.W.keepIn K (.ref f24) = true)
    (a25 : PySem.W.nsIn K mainGlobals "row_above" = some (some (.ref f25))) (l25 : K.lookup f25 = some ⟨oc25, od25, .func (PySem.W.fnOf "row_above" "row_above" (defArgs s_row_above) (defBody s_row_above) (defScope s_row_above) .none kV25 dc25 pm25 an25 cd25 ct25), sl25⟩) (c25 : PySem.W.codeIn K cd25 "row_above" = true) (k25 : PySem.W.keepIn K (.ref f25) = true)
    (a26 : PySem.W.nsIn K mainGlobals "_law_cell" = some (some (.ref f26))) (l26 : K.lookup f26 = some ⟨oc26, od26, .func (PySem.W.fnOf "_law_cell" "_law_cell" (defArgs s__law_cell) (defBody s__law_cell) (defScope s__law_cell) .none kV26 dc26 pm26 an26 cd26 ct26), sl26⟩) (c26 : PySem.W.codeIn K cd26 "_law_cell" = true) (k26 : PySem.W.keepIn K (.ref f26) = true)
    (a27 : PySem.W.nsIn K mainGlobals "_law_numbers" = some (some (.ref f27))) (l27 : K.lookup f27 = some ⟨oc27, od27, .func (PySem.W.fnOf "_law_numbers" "_law_numbers" (defArgs s__law_numbers) (defBody s__law_numbers) (defScope s__law_numbers) .none kV27 dc27 pm27 an27 cd27 ct27), sl27⟩) (c27 : PySem.W.codeIn K cd27 "_law_numbers" = true) (k27 : PySem.W.keepIn K (.ref f27) = true)
    (a28 : PySem.W.nsIn K mainGlobals "_law_trim" = some (some (.ref f28))) (l28 : K.lookup f28 = some ⟨oc28, od28, .func (PySem.W.fnOf "_law_trim" "_law_trim" (defArgs s__law_trim) (defBody s__law_trim) (defScope s__law_trim) .none kV28 dc28 pm28 an28 cd28 ct28), sl28⟩) (c28 : PySem.W.codeIn K cd28 "_law_trim" = true) (k28 : PySem.W.keepIn K (.ref f28) = true)
    (a29 : PySem.W.nsIn K mainGlobals "_law_board_of" = some (some (.ref f29))) (l29 : K.lookup f29 = some ⟨oc29, od29, .func (PySem.W.fnOf "_law_board_of" "_law_board_of" (defArgs s__law_board_of) (defBody s__law_board_of) (defScope s__law_board_of) .none kV29 dc29 pm29 an29 cd29 ct29), sl29⟩) (c29 : PySem.W.codeIn K cd29 "_law_board_of" = true) (k29 : PySem.W.keepIn K (.ref f29) = true)
    (a30 : PySem.W.nsIn K mainGlobals "_law_product" = some (some (.ref f30))) (l30 : K.lookup f30 = some ⟨oc30, od30, .func (PySem.W.fnOf "_law_product" "_law_product" (defArgs s__law_product) (defBody s__law_product) (defScope s__law_product) .none kV30 dc30 pm30 an30 cd30 ct30), sl30⟩) (c30 : PySem.W.codeIn K cd30 "_law_product" = true) (k30 : PySem.W.keepIn K (.ref f30) = true)
    (a31 : PySem.W.nsIn K mainGlobals "_law_line" = some (some (.ref f31))) (l31 : K.lookup f31 = some ⟨oc31, od31, .func (PySem.W.fnOf "_law_line" "_law_line" (defArgs s__law_line) (defBody s__law_line) (defScope s__law_line) .none kV31 dc31 pm31 an31 cd31 ct31), sl31⟩) (c31 : PySem.W.codeIn K cd31 "_law_line" = true) (k31 : PySem.W.keepIn K (.ref f31) = true)
    (a32 : PySem.W.nsIn K mainGlobals "_law_conic" = some (some (.ref f32))) (l32 : K.lookup f32 = some ⟨oc32, od32, .func (PySem.W.fnOf "_law_conic" "_law_conic" (defArgs s__law_conic) (defBody s__law_conic) (defScope s__law_conic) .none kV32 dc32 pm32 an32 cd32 ct32), sl32⟩) (c32 : PySem.W.codeIn K cd32 "_law_conic" = true) (k32 : PySem.W.keepIn K (.ref f32) = true)
    (a33 : PySem.W.nsIn K mainGlobals "_law_board" = some (some (.ref f33))) (l33 : K.lookup f33 = some ⟨oc33, od33, .func (PySem.W.fnOf "_law_board" "_law_board" (defArgs s__law_board) (defBody s__law_board) (defScope s__law_board) .none kV33 dc33 pm33 an33 cd33 ct33), sl33⟩) (c33 : PySem.W.codeIn K cd33 "_law_board" = true) (k33 : PySem.W.keepIn K (.ref f33) = true)
    (a34 : PySem.W.nsIn K mainGlobals "_law_low" = some (some (.ref f34))) (l34 : K.lookup f34 = some ⟨oc34, od34, .func (PySem.W.fnOf "_law_low" "_law_low" (defArgs s__law_low) (defBody s__law_low) (defScope s__law_low) .none kV34 dc34 pm34 an34 cd34 ct34), sl34⟩) (c34 : PySem.W.codeIn K cd34 "_law_low" = true) (k34 : PySem.W.keepIn K (.ref f34) = true)
    (a35 : PySem.W.nsIn K mainGlobals "_law_any" = some (some (.ref f35))) (l35 : K.lookup f35 = some ⟨oc35, od35, .func (PySem.W.fnOf "_law_any" "_law_any" (defArgs s__law_any) (defBody s__law_any) (defScope s__law_any) .none kV35 dc35 pm35 an35 cd35 ct35), sl35⟩) (c35 : PySem.W.codeIn K cd35 "_law_any" = true) (k35 : PySem.W.keepIn K (.ref f35) = true)
    (a36 : PySem.W.nsIn K mainGlobals "_law_drawn" = some (some (.ref f36))) (l36 : K.lookup f36 = some ⟨oc36, od36, .func (PySem.W.fnOf "_law_drawn" "_law_drawn" (defArgs s__law_drawn) (defBody s__law_drawn) (defScope s__law_drawn) .none kV36 dc36 pm36 an36 cd36 ct36), sl36⟩) (c36 : PySem.W.codeIn K cd36 "_law_drawn" = true) (k36 : PySem.W.keepIn K (.ref f36) = true)
    (a37 : PySem.W.nsIn K mainGlobals "_law_pair" = some (some (.ref f37))) (l37 : K.lookup f37 = some ⟨oc37, od37, .func (PySem.W.fnOf "_law_pair" "_law_pair" (defArgs s__law_pair) (defBody s__law_pair) (defScope s__law_pair) .none kV37 dc37 pm37 an37 cd37 ct37), sl37⟩) (c37 : PySem.W.codeIn K cd37 "_law_pair" = true) (k37 : PySem.W.keepIn K (.ref f37) = true)
    (a38 : PySem.W.nsIn K mainGlobals "_law_right" = some (some (.ref f38))) (l38 : K.lookup f38 = some ⟨oc38, od38, .func (PySem.W.fnOf "_law_right" "_law_right" (defArgs s__law_right) (defBody s__law_right) (defScope s__law_right) .none kV38 dc38 pm38 an38 cd38 ct38), sl38⟩) (c38 : PySem.W.codeIn K cd38 "_law_right" = true) (k38 : PySem.W.keepIn K (.ref f38) = true)
    (a39 : PySem.W.nsIn K mainGlobals "law" = some (some (.ref f39))) (l39 : K.lookup f39 = some ⟨oc39, od39, .func (PySem.W.fnOf "law" "law" (defArgs s_law) (defBody s_law) (defScope s_law) .none kV39 dc39 pm39 an39 cd39 ct39), sl39⟩) (c39 : PySem.W.codeIn K cd39 "law" = true) (k39 : PySem.W.keepIn K (.ref f39) = true)
    (z_abs : PySem.W.nsIn K mainGlobals "abs" = some none)
    (z_len : PySem.W.nsIn K mainGlobals "len" = some none)
    (z_tuple : PySem.W.nsIn K mainGlobals "tuple" = some none)
    (z_max : PySem.W.nsIn K mainGlobals "max" = some none)
    (z_range : PySem.W.nsIn K mainGlobals "range" = some none)
    (z_enumerate : PySem.W.nsIn K mainGlobals "enumerate" = some none)
    (z_reversed : PySem.W.nsIn K mainGlobals "reversed" = some none)
    (z_int : PySem.W.nsIn K mainGlobals "int" = some none)
    (z_list : PySem.W.nsIn K mainGlobals "list" = some none)
    : ∃ fd : FuncData, (∀ (s : Shared) (v : Value), BindsTo s fd ⟨[v], []⟩ [("_law_script", v)]) ∧ ∀ base : Heap, K.In base → base.Ns mainGlobals mg → FnOk l.prog w K mg base CX0 7 fa fd ["_law_script"] (spC K C_law) := by
  have e := hfa.symm.trans (PySem.W.mg_of X G a39)
  cases e
  have m_abs := PySem.W.mg_none_of X G z_abs
  have m_len := PySem.W.mg_none_of X G z_len
  have m_tuple := PySem.W.mg_none_of X G z_tuple
  have m_max := PySem.W.mg_none_of X G z_max
  have m_range := PySem.W.mg_none_of X G z_range
  have m_enumerate := PySem.W.mg_none_of X G z_enumerate
  have m_reversed := PySem.W.mg_none_of X G z_reversed
  have m_int := PySem.W.mg_none_of X G z_int
  have m_list := PySem.W.mg_none_of X G z_list
  have F1 := fun_mk (st := s_common_divisor) l1 c1 k1
  have m1 := PySem.W.mg_of X G a1
  have bd1 := F1.binds (ps := ["a", "b"]) fun _ _ _ _ _ _ us hl => match us, hl with | [_, _], _ => rfl
  have F2 := fun_mk (st := s_fraction) l2 c2 k2
  have m2 := PySem.W.mg_of X G a2
  have bd2 := F2.binds (ps := ["top", "bottom"]) fun _ _ _ _ _ _ us hl => match us, hl with | [_, _], _ => rfl
  have F3 := fun_mk (st := s_plus) l3 c3 k3
  have m3 := PySem.W.mg_of X G a3
  have bd3 := F3.binds (ps := ["a", "b"]) fun _ _ _ _ _ _ us hl => match us, hl with | [_, _], _ => rfl
  have F4 := fun_mk (st := s_minus) l4 c4 k4
  have m4 := PySem.W.mg_of X G a4
  have bd4 := F4.binds (ps := ["a", "b"]) fun _ _ _ _ _ _ us hl => match us, hl with | [_, _], _ => rfl
  have F5 := fun_mk (st := s_times) l5 c5 k5
  have m5 := PySem.W.mg_of X G a5
  have bd5 := F5.binds (ps := ["a", "b"]) fun _ _ _ _ _ _ us hl => match us, hl with | [_, _], _ => rfl
  have F6 := fun_mk (st := s_without_end) l6 c6 k6
  have m6 := PySem.W.mg_of X G a6
  have bd6 := F6.binds (ps := ["parts", "nought"]) fun _ _ _ _ _ _ us hl => match us, hl with | [_, _], _ => rfl
  have F7 := fun_mk (st := s_part_at) l7 c7 k7
  have m7 := PySem.W.mg_of X G a7
  have bd7 := F7.binds (ps := ["parts", "power", "nought"]) fun _ _ _ _ _ _ us hl => match us, hl with | [_, _, _], _ => rfl
  have F8 := fun_mk (st := s_row_of) l8 c8 k8
  have m8 := PySem.W.mg_of X G a8
  have bd8 := F8.binds (ps := ["numbers"]) fun _ _ _ _ _ _ us hl => match us, hl with | [_], _ => rfl
  have F9 := fun_mk (st := s_row_plus) l9 c9 k9
  have m9 := PySem.W.mg_of X G a9
  have bd9 := F9.binds (ps := ["f", "g"]) fun _ _ _ _ _ _ us hl => match us, hl with | [_, _], _ => rfl
  have F10 := fun_mk (st := s_other_sign) l10 c10 k10
  have m10 := PySem.W.mg_of X G a10
  have bd10 := F10.binds (ps := ["f"]) fun _ _ _ _ _ _ us hl => match us, hl with | [_], _ => rfl
  have F11 := fun_mk (st := s_row_times) l11 c11 k11
  have m11 := PySem.W.mg_of X G a11
  have bd11 := F11.binds (ps := ["f", "g"]) fun _ _ _ _ _ _ us hl => match us, hl with | [_, _], _ => rfl
  have F12 := fun_mk (st := s_slope) l12 c12 k12
  have m12 := PySem.W.mg_of X G a12
  have bd12 := F12.binds (ps := ["f"]) fun _ _ _ _ _ _ us hl => match us, hl with | [_], _ => rfl
  have F13 := fun_mk (st := s_put_low) l13 c13 k13
  have m13 := PySem.W.mg_of X G a13
  have bd13 := F13.binds (ps := ["f"]) fun _ _ _ _ _ _ us hl => match us, hl with | [_], _ => rfl
  have F14 := fun_mk (st := s_scaled_value) l14 c14 k14
  have m14 := PySem.W.mg_of X G a14
  have bd14 := F14.binds (ps := ["numbers", "at"]) fun _ _ _ _ _ _ us hl => match us, hl with | [_, _], _ => rfl
  have F15 := fun_mk (st := s_power_of) l15 c15 k15
  have m15 := PySem.W.mg_of X G a15
  have bd15 := F15.binds (ps := ["number", "many"]) fun _ _ _ _ _ _ us hl => match us, hl with | [_, _], _ => rfl
  have F16 := fun_mk (st := s_row_value) l16 c16 k16
  have m16 := PySem.W.mg_of X G a16
  have bd16 := F16.binds (ps := ["f", "at"]) fun _ _ _ _ _ _ us hl => match us, hl with | [_, _], _ => rfl
  have F17 := fun_mk (st := s_board_of) l17 c17 k17
  have m17 := PySem.W.mg_of X G a17
  have bd17 := F17.binds (ps := ["rows"]) fun _ _ _ _ _ _ us hl => match us, hl with | [_], _ => rfl
  have F18 := fun_mk (st := s_board_plus) l18 c18 k18
  have m18 := PySem.W.mg_of X G a18
  have bd18 := F18.binds (ps := ["f", "g"]) fun _ _ _ _ _ _ us hl => match us, hl with | [_, _], _ => rfl
  have F19 := fun_mk (st := s_board_minus) l19 c19 k19
  have m19 := PySem.W.mg_of X G a19
  have bd19 := F19.binds (ps := ["f", "g"]) fun _ _ _ _ _ _ us hl => match us, hl with | [_, _], _ => rfl
  have F20 := fun_mk (st := s_board_times) l20 c20 k20
  have m20 := PySem.W.mg_of X G a20
  have bd20 := F20.binds (ps := ["f", "g"]) fun _ _ _ _ _ _ us hl => match us, hl with | [_, _], _ => rfl
  have F21 := fun_mk (st := s_slope_up) l21 c21 k21
  have m21 := PySem.W.mg_of X G a21
  have bd21 := F21.binds (ps := ["f"]) fun _ _ _ _ _ _ us hl => match us, hl with | [_], _ => rfl
  have F22 := fun_mk (st := s_length_of_rows) l22 c22 k22
  have m22 := PySem.W.mg_of X G a22
  have bd22 := F22.binds (ps := ["f"]) fun _ _ _ _ _ _ us hl => match us, hl with | [_], _ => rfl
  have F23 := fun_mk (st := s_turned) l23 c23 k23
  have m23 := PySem.W.mg_of X G a23
  have bd23 := F23.binds (ps := ["f"]) fun _ _ _ _ _ _ us hl => match us, hl with | [_], _ => rfl
  have F24 := fun_mk (st := s_board_value) l24 c24 k24
  have m24 := PySem.W.mg_of X G a24
  have bd24 := F24.binds (ps := ["f", "x", "y"]) fun _ _ _ _ _ _ us hl => match us, hl with | [_, _, _], _ => rfl
  have F25 := fun_mk (st := s_row_above) l25 c25 k25
  have m25 := PySem.W.mg_of X G a25
  have bd25 := F25.binds (ps := ["f", "x"]) fun _ _ _ _ _ _ us hl => match us, hl with | [_, _], _ => rfl
  have F26 := fun_mk (st := s__law_cell) l26 c26 k26
  have m26 := PySem.W.mg_of X G a26
  have bd26 := F26.binds (ps := ["_law_script", "_law_k"]) fun _ _ _ _ _ _ us hl => match us, hl with | [_, _], _ => rfl
  have F27 := fun_mk (st := s__law_numbers) l27 c27 k27
  have m27 := PySem.W.mg_of X G a27
  have bd27 := F27.binds (ps := ["_law_cell_here", "_law_many"]) fun _ _ _ _ _ _ us hl => match us, hl with | [_, _], _ => rfl
  have F28 := fun_mk (st := s__law_trim) l28 c28 k28
  have m28 := PySem.W.mg_of X G a28
  have bd28 := F28.binds (ps := ["_law_parts"]) fun _ _ _ _ _ _ us hl => match us, hl with | [_], _ => rfl
  have F29 := fun_mk (st := s__law_board_of) l29 c29 k29
  have m29 := PySem.W.mg_of X G a29
  have bd29 := F29.binds (ps := ["_law_parts"]) fun _ _ _ _ _ _ us hl => match us, hl with | [_], _ => rfl
  have F30 := fun_mk (st := s__law_product) l30 c30 k30
  have m30 := PySem.W.mg_of X G a30
  have bd30 := F30.binds (ps := ["_law_one", "_law_other"]) fun _ _ _ _ _ _ us hl => match us, hl with | [_, _], _ => rfl
  have F31 := fun_mk (st := s__law_line) l31 c31 k31
  have m31 := PySem.W.mg_of X G a31
  have bd31 := F31.binds (ps := ["_law_xs"]) fun _ _ _ _ _ _ us hl => match us, hl with | [_], _ => rfl
  have F32 := fun_mk (st := s__law_conic) l32 c32 k32
  have m32 := PySem.W.mg_of X G a32
  have bd32 := F32.binds (ps := ["_law_xs"]) fun _ _ _ _ _ _ us hl => match us, hl with | [_], _ => rfl
  have F33 := fun_mk (st := s__law_board) l33 c33 k33
  have m33 := PySem.W.mg_of X G a33
  have bd33 := F33.binds (ps := ["_law_cell_here"]) fun _ _ _ _ _ _ us hl => match us, hl with | [_], _ => rfl
  have F34 := fun_mk (st := s__law_low) l34 c34 k34
  have m34 := PySem.W.mg_of X G a34
  have bd34 := F34.binds (ps := ["_law_top", "_law_bottom"]) fun _ _ _ _ _ _ us hl => match us, hl with | [_, _], _ => rfl
  have F35 := fun_mk (st := s__law_any) l35 c35 k35
  have m35 := PySem.W.mg_of X G a35
  have bd35 := F35.binds (ps := ["_law_xs"]) fun _ _ _ _ _ _ us hl => match us, hl with | [_], _ => rfl
  have F36 := fun_mk (st := s__law_drawn) l36 c36 k36
  have m36 := PySem.W.mg_of X G a36
  have bd36 := F36.binds (ps := ["_law_cell_here"]) fun _ _ _ _ _ _ us hl => match us, hl with | [_], _ => rfl
  have F37 := fun_mk (st := s__law_pair) l37 c37 k37
  have m37 := PySem.W.mg_of X G a37
  have bd37 := F37.binds (ps := ["_law_xs"]) fun _ _ _ _ _ _ us hl => match us, hl with | [_], _ => rfl
  have F38 := fun_mk (st := s__law_right) l38 c38 k38
  have m38 := PySem.W.mg_of X G a38
  have bd38 := F38.binds (ps := ["_law_f", "_law_g", "_law_x", "_law_y"]) fun _ _ _ _ _ _ us hl => match us, hl with | [_, _, _, _], _ => rfl
  have F39 := fun_mk (st := s_law) l39 c39 k39
  have m39 := PySem.W.mg_of X G a39
  refine ⟨PySem.W.fnOf "law" "law" (defArgs s_law) (defBody s_law) (defScope s_law) .none kV39 dc39 pm39 an39 cd39 ct39, fun s v => .of_eq rfl, fun base KB _ => ?_⟩
  have ok1 : FnOk l.prog w K mg base CX0 1 _ _ _ (spC K C_common_divisor) := fn_ev ht F1 sc_common_divisor len_common_divisor fun XX hX => b_common_divisor hX m_abs 
  have ok2 : FnOk l.prog w K mg base CX0 2 _ _ _ (spC K C_fraction) := fn_ev ht F2 sc_fraction len_fraction fun XX hX => b_fraction hX  (hX.callee ok1 (by decide) m1 k1 bd1)
  have ok3 : FnOk l.prog w K mg base CX0 3 _ _ _ (spC K C_plus) := fn_ev ht F3 sc_plus len_plus fun XX hX => b_plus hX  (hX.callee ok2 (by decide) m2 k2 bd2)
  have ok4 : FnOk l.prog w K mg base CX0 3 _ _ _ (spC K C_minus) := fn_ev ht F4 sc_minus len_minus fun XX hX => b_minus hX  (hX.callee ok2 (by decide) m2 k2 bd2)
  have ok5 : FnOk l.prog w K mg base CX0 3 _ _ _ (spC K C_times) := fn_ev ht F5 sc_times len_times fun XX hX => b_times hX  (hX.callee ok2 (by decide) m2 k2 bd2)
  have ok6 : FnOk l.prog w K mg base CX0 1 _ _ _ (spC K C_without_end) := fn_ev ht F6 sc_without_end len_without_end fun XX hX => b_without_end hX m_len m_tuple 
  have ok7 : FnOk l.prog w K mg base CX0 1 _ _ _ (spC K C_part_at) := fn_ev ht F7 sc_part_at len_part_at fun XX hX => b_part_at hX m_len 
  have ok8 : FnOk l.prog w K mg base CX0 2 _ _ _ (spC K C_row_of) := fn_ev ht F8 sc_row_of len_row_of fun XX hX => b_row_of hX  (hX.callee ok6 (by decide) m6 k6 bd6)
  have ok9 : FnOk l.prog w K mg base CX0 3 _ _ _ (spC K C_row_plus) := fn_ev ht F9 sc_row_plus len_row_plus fun XX hX => b_row_plus hX m_max m_len m_range (hX.callee ok8 (by decide) m8 k8 bd8) (hX.callee ok7 (by decide) m7 k7 bd7)
  have ok10 : FnOk l.prog w K mg base CX0 1 _ _ _ (spC K C_other_sign) := fn_ev ht F10 sc_other_sign len_other_sign fun XX hX => b_other_sign hX m_tuple 
  have ok11 : FnOk l.prog w K mg base CX0 3 _ _ _ (spC K C_row_times) := fn_ev ht F11 sc_row_times len_row_times fun XX hX => b_row_times hX m_enumerate m_len (hX.callee ok8 (by decide) m8 k8 bd8)
  have ok12 : FnOk l.prog w K mg base CX0 1 _ _ _ (spC K C_slope) := fn_ev ht F12 sc_slope len_slope fun XX hX => b_slope hX m_tuple m_range m_len 
  have ok13 : FnOk l.prog w K mg base CX0 2 _ _ _ (spC K C_put_low) := fn_ev ht F13 sc_put_low len_put_low fun XX hX => b_put_low hX m_tuple (hX.callee ok1 (by decide) m1 k1 bd1)
  have ok14 : FnOk l.prog w K mg base CX0 1 _ _ _ (spC K C_scaled_value) := fn_ev ht F14 sc_scaled_value len_scaled_value fun XX hX => b_scaled_value hX m_reversed 
  have ok15 : FnOk l.prog w K mg base CX0 1 _ _ _ (spC K C_power_of) := fn_ev ht F15 sc_power_of len_power_of fun XX hX => b_power_of hX m_range 
  have ok16 : FnOk l.prog w K mg base CX0 3 _ _ _ (spC K C_row_value) := fn_ev ht F16 sc_row_value len_row_value fun XX hX => b_row_value hX m_len (hX.callee ok2 (by decide) m2 k2 bd2) (hX.callee ok14 (by decide) m14 k14 bd14) (hX.callee ok15 (by decide) m15 k15 bd15)
  have ok17 : FnOk l.prog w K mg base CX0 2 _ _ _ (spC K C_board_of) := fn_ev ht F17 sc_board_of len_board_of fun XX hX => b_board_of hX  (hX.callee ok6 (by decide) m6 k6 bd6)
  have ok18 : FnOk l.prog w K mg base CX0 4 _ _ _ (spC K C_board_plus) := fn_ev ht F18 sc_board_plus len_board_plus fun XX hX => b_board_plus hX m_max m_len m_range (hX.callee ok17 (by decide) m17 k17 bd17) (hX.callee ok9 (by decide) m9 k9 bd9) (hX.callee ok7 (by decide) m7 k7 bd7)
  have ok19 : FnOk l.prog w K mg base CX0 5 _ _ _ (spC K C_board_minus) := fn_ev ht F19 sc_board_minus len_board_minus fun XX hX => b_board_minus hX m_tuple (hX.callee ok18 (by decide) m18 k18 bd18) (hX.callee ok10 (by decide) m10 k10 bd10)
  have ok20 : FnOk l.prog w K mg base CX0 4 _ _ _ (spC K C_board_times) := fn_ev ht F20 sc_board_times len_board_times fun XX hX => b_board_times hX m_enumerate m_len (hX.callee ok17 (by decide) m17 k17 bd17) (hX.callee ok9 (by decide) m9 k9 bd9) (hX.callee ok11 (by decide) m11 k11 bd11)
  have ok21 : FnOk l.prog w K mg base CX0 4 _ _ _ (spC K C_slope_up) := fn_ev ht F21 sc_slope_up len_slope_up fun XX hX => b_slope_up hX m_tuple m_range m_len (hX.callee ok11 (by decide) m11 k11 bd11)
  have ok22 : FnOk l.prog w K mg base CX0 1 _ _ _ (spC K C_length_of_rows) := fn_ev ht F22 sc_length_of_rows len_length_of_rows fun XX hX => b_length_of_rows hX m_max m_len 
  have ok23 : FnOk l.prog w K mg base CX0 3 _ _ _ (spC K C_turned) := fn_ev ht F23 sc_turned len_turned fun XX hX => b_turned hX m_tuple m_range (hX.callee ok8 (by decide) m8 k8 bd8) (hX.callee ok7 (by decide) m7 k7 bd7) (hX.callee ok22 (by decide) m22 k22 bd22)
  have ok24 : FnOk l.prog w K mg base CX0 4 _ _ _ (spC K C_board_value) := fn_ev ht F24 sc_board_value len_board_value fun XX hX => b_board_value hX m_reversed (hX.callee ok3 (by decide) m3 k3 bd3) (hX.callee ok5 (by decide) m5 k5 bd5) (hX.callee ok16 (by decide) m16 k16 bd16)
  have ok25 : FnOk l.prog w K mg base CX0 3 _ _ _ (spC K C_row_above) := fn_ev ht F25 sc_row_above len_row_above fun XX hX => b_row_above hX m_range (hX.callee ok22 (by decide) m22 k22 bd22) (hX.callee ok13 (by decide) m13 k13 bd13) (hX.callee ok8 (by decide) m8 k8 bd8) (hX.callee ok7 (by decide) m7 k7 bd7) (hX.callee ok14 (by decide) m14 k14 bd14)
  have ok26 : FnOk l.prog w K mg base CX0 1 _ _ _ (spC K C__law_cell) := fn_ev ht F26 sc__law_cell len__law_cell fun XX hX => b__law_cell hX m_len 
  have ok27 : FnOk l.prog w K mg base CX0 1 _ _ _ (spC K C__law_numbers) := fn_ev ht F27 sc__law_numbers len__law_numbers fun XX hX => b__law_numbers hX m_range m_abs m_int 
  have ok28 : FnOk l.prog w K mg base CX0 1 _ _ _ (spC K C__law_trim) := fn_ev ht F28 sc__law_trim len__law_trim fun XX hX => b__law_trim hX m_list m_tuple m_len 
  have ok29 : FnOk l.prog w K mg base CX0 2 _ _ _ (spC K C__law_board_of) := fn_ev ht F29 sc__law_board_of len__law_board_of fun XX hX => b__law_board_of hX m_range m_tuple m_len (hX.callee ok28 (by decide) m28 k28 bd28)
  have okd30 : FnOk l.prog w K mg base CX0 1 _ _ _ (spD K C__law_product) := fn_evD ht F30 sc__law_product len__law_product fun XX hX => bd__law_product hX  
  have okd31 : FnOk l.prog w K mg base CX0 1 _ _ _ (spD K C__law_line) := fn_evD ht F31 sc__law_line len__law_line fun XX hX => bd__law_line hX  
  have okd32 : FnOk l.prog w K mg base CX0 1 _ _ _ (spD K C__law_conic) := fn_evD ht F32 sc__law_conic len__law_conic fun XX hX => bd__law_conic hX m_range 
  have ok33 : FnOk l.prog w K mg base CX0 3 _ _ _ (spC K C__law_board) := fn_ev ht F33 sc__law_board len__law_board fun XX hX => b__law_board hX  (hX.callee ok27 (by decide) m27 k27 bd27) (hX.callee ok29 (by decide) m29 k29 bd29) (hX.calleeD okd31 (by decide) m31 k31 bd31) (hX.calleeD okd32 (by decide) m32 k32 bd32) (hX.calleeD okd30 (by decide) m30 k30 bd30)
  have ok34 : FnOk l.prog w K mg base CX0 1 _ _ _ (spC K C__law_low) := fn_ev ht F34 sc__law_low len__law_low fun XX hX => b__law_low hX m_abs 
  have ok35 : FnOk l.prog w K mg base CX0 3 _ _ _ (spC K C__law_any) := fn_ev ht F35 sc__law_any len__law_any fun XX hX => b__law_any hX m_range (hX.callee ok29 (by decide) m29 k29 bd29)
  have ok36 : FnOk l.prog w K mg base CX0 4 _ _ _ (spC K C__law_drawn) := fn_ev ht F36 sc__law_drawn len__law_drawn fun XX hX => b__law_drawn hX  (hX.callee ok27 (by decide) m27 k27 bd27) (hX.callee ok33 (by decide) m33 k33 bd33) (hX.callee ok35 (by decide) m35 k35 bd35)
  have ok37 : FnOk l.prog w K mg base CX0 2 _ _ _ (spC K C__law_pair) := fn_ev ht F37 sc__law_pair len__law_pair fun XX hX => b__law_pair hX m_range (hX.callee ok34 (by decide) m34 k34 bd34)
  have ok38 : FnOk l.prog w K mg base CX0 6 _ _ _ (spC K C__law_right) := fn_ev ht F38 sc__law_right len__law_right fun XX hX => b__law_right hX  (hX.callee ok24 (by decide) m24 k24 bd24) (hX.callee ok3 (by decide) m3 k3 bd3) (hX.callee ok4 (by decide) m4 k4 bd4) (hX.callee ok5 (by decide) m5 k5 bd5) (hX.callee ok25 (by decide) m25 k25 bd25) (hX.callee ok13 (by decide) m13 k13 bd13) (hX.callee ok18 (by decide) m18 k18 bd18) (hX.callee ok19 (by decide) m19 k19 bd19) (hX.callee ok20 (by decide) m20 k20 bd20) (hX.callee ok11 (by decide) m11 k11 bd11) (hX.callee ok21 (by decide) m21 k21 bd21) (hX.callee ok12 (by decide) m12 k12 bd12) (hX.callee ok16 (by decide) m16 k16 bd16) (hX.callee ok23 (by decide) m23 k23 bd23)
  have ok39 : FnOk l.prog w K mg base CX0 7 _ _ _ (spC K C_law) := fn_ev ht F39 sc_law len_law fun XX hX => b_law hX m_range (hX.callee ok36 (by decide) m36 k36 bd36) (hX.callee ok27 (by decide) m27 k27 bd27) (hX.callee ok26 (by decide) m26 k26 bd26) (hX.callee ok37 (by decide) m37 k37 bd37) (hX.callee ok38 (by decide) m38 k38 bd38)
  exact ok39
theorem walk {l : PySem.W.OpenLaw} {q : Program} {loose : List Str} {XP : (Str → Option Value) → Heap → Prop} {YP : World → Heap → Prop} {d : DefRec} {K : Params → PySem.W.Frag} (hq : importsNone q = true) (hn : l.most = some 63) (hdf : d.params.defaults = [])
    (hY : ∀ (w : World) (h : Heap), YP w h → (K w.params).In h)
    (F : ∀ (w : World) (mg : Str → Option Value) (fa : Addr) (h : Heap), (K w.params).In h → h.Ns mainGlobals mg → mg d.name = some (.ref fa) →
      ∃ fd : FuncData, (∀ (s : Shared) (u : Value), BindsTo s fd ⟨[u], []⟩ [("_law_script", u)]) ∧ ∀ base : Heap, (K w.params).In base → base.Ns mainGlobals mg → FnOk l.prog w (K w.params) mg base CX0 7 fa fd ["_law_script"] (spC (K w.params) C_law)) :
    PySem.W.WalkO q loose XP YP l.row.toRowW d [] (fun f vs => PySem.call f vs) :=
  L2.walk_of (n := 63) (k := 7) (x := "_law_script") (CX := fun _ => CX0) (sp := fun w => spC (K w.params) C_law) hq hn (by decide) hdf ⟨rfl, by decide, by decide⟩ hY F (fun _ H a ns hl hO hS => ⟨H, [.scr ns], .bl true, .refl _, .cons (.scr hS) .nil, law_true ns hl, fun v F' H' x r => by cases r; rfl⟩) fun _ _ _ _ _ z => z

end My
open PySem PySem.W PyProof.Rows
set_option maxRecDepth 100000 in
set_option maxHeartbeats 0 in
theorem PySem.Challenge.cw_planestacks_k28_whole_values_go_along_holds : PySem.Challenge.rw_planestacks_k28_whole_values_go_along.Holds := by
  w_on; o_law; k_head; (case hw => w_witness2)
  k_fill
  refine My.walk (l := PySem.Challenge.rw_planestacks_k28_whole_values_go_along) (by decide +kernel) rfl rfl (fun w h Y => PySem.W.kIn_of Y) ?F
  case F =>
    intro w mg fa h KX G hmg
    refine' My.all_mk rfl KX G hmg ?a1 ?l1 ?c1 ?k1 ?a2 ?l2 ?c2 ?k2 ?a3 ?l3 ?c3 ?k3 ?a4 ?l4 ?c4 ?k4 ?a5 ?l5 ?c5 ?k5 ?a6 ?l6 ?c6 ?k6 ?a7 ?l7 ?c7 ?k7 ?a8 ?l8 ?c8 ?k8 ?a9 ?l9 ?c9 ?k9 ?a10 ?l10 ?c10 ?k10 ?a11 ?l11 ?c11 ?k11 ?a12 ?l12 ?c12 ?k12 ?a13 ?l13 ?c13 ?k13 ?a14 ?l14 ?c14 ?k14 ?a15 ?l15 ?c15 ?k15 ?a16 ?l16 ?c16 ?k16 ?a17 ?l17 ?c17 ?k17 ?a18 ?l18 ?c18 ?k18 ?a19 ?l19 ?c19 ?k19 ?a20 ?l20 ?c20 ?k20 ?a21 ?l21 ?c21 ?k21 ?a22 ?l22 ?c22 ?k22 ?a23 ?l23 ?c23 ?k23 ?a24 ?l24 ?c24 ?k24 ?a25 ?l25 ?c25 ?k25 ?a26 ?l26 ?c26 ?k26 ?a27 ?l27 ?c27 ?k27 ?a28 ?l28 ?c28 ?k28 ?a29 ?l29 ?c29 ?k29 ?a30 ?l30 ?c30 ?k30 ?a31 ?l31 ?c31 ?k31 ?a32 ?l32 ?c32 ?k32 ?a33 ?l33 ?c33 ?k33 ?a34 ?l34 ?c34 ?k34 ?a35 ?l35 ?c35 ?k35 ?a36 ?l36 ?c36 ?k36 ?a37 ?l37 ?c37 ?k37 ?a38 ?l38 ?c38 ?k38 ?a39 ?l39 ?c39 ?k39 ?z_abs ?z_len ?z_tuple ?z_max ?z_range ?z_enumerate ?z_reversed ?z_int ?z_list
    (case a1 => k_is)
    (case l1 => k_is)
    (case c1 => k_is)
    (case k1 => k_is)
    (case a2 => k_is)
    (case l2 => k_is)
    (case c2 => k_is)
    (case k2 => k_is)
    (case a3 => k_is)
    (case l3 => k_is)
    (case c3 => k_is)
    (case k3 => k_is)
    (case a4 => k_is)
    (case l4 => k_is)
    (case c4 => k_is)
    (case k4 => k_is)
    (case a5 => k_is)
    (case l5 => k_is)
    (case c5 => k_is)
    (case k5 => k_is)
    (case a6 => k_is)
    (case l6 => k_is)
    (case c6 => k_is)
    (case k6 => k_is)
    (case a7 => k_is)
    (case l7 => k_is)
    (case c7 => k_is)
    (case k7 => k_is)
    (case a8 => k_is)
    (case l8 => k_is)
    (case c8 => k_is)
    (case k8 => k_is)
    (case a9 => k_is)
    (case l9 => k_is)
    (case c9 => k_is)
    (case k9 => k_is)
    (case a10 => k_is)
    (case l10 => k_is)
    (case c10 => k_is)
    (case k10 => k_is)
    (case a11 => k_is)
    (case l11 => k_is)
    (case c11 => k_is)
    (case k11 => k_is)
    (case a12 => k_is)
    (case l12 => k_is)
    (case c12 => k_is)
    (case k12 => k_is)
    (case a13 => k_is)
    (case l13 => k_is)
    (case c13 => k_is)
    (case k13 => k_is)
    (case a14 => k_is)
    (case l14 => k_is)
    (case c14 => k_is)
    (case k14 => k_is)
    (case a15 => k_is)
    (case l15 => k_is)
    (case c15 => k_is)
    (case k15 => k_is)
    (case a16 => k_is)
    (case l16 => k_is)
    (case c16 => k_is)
    (case k16 => k_is)
    (case a17 => k_is)
    (case l17 => k_is)
    (case c17 => k_is)
    (case k17 => k_is)
    (case a18 => k_is)
    (case l18 => k_is)
    (case c18 => k_is)
    (case k18 => k_is)
    (case a19 => k_is)
    (case l19 => k_is)
    (case c19 => k_is)
    (case k19 => k_is)
    (case a20 => k_is)
    (case l20 => k_is)
    (case c20 => k_is)
    (case k20 => k_is)
    (case a21 => k_is)
    (case l21 => k_is)
    (case c21 => k_is)
    (case k21 => k_is)
    (case a22 => k_is)
    (case l22 => k_is)
    (case c22 => k_is)
    (case k22 => k_is)
    (case a23 => k_is)
    (case l23 => k_is)
    (case c23 => k_is)
    (case k23 => k_is)
    (case a24 => k_is)
    (case l24 => k_is)
    (case c24 => k_is)
    (case k24 => k_is)
    (case a25 => k_is)
    (case l25 => k_is)
    (case c25 => k_is)
    (case k25 => k_is)
    (case a26 => k_is)
    (case l26 => k_is)
    (case c26 => k_is)
    (case k26 => k_is)
    (case a27 => k_is)
    (case l27 => k_is)
    (case c27 => k_is)
    (case k27 => k_is)
    (case a28 => k_is)
    (case l28 => k_is)
    (case c28 => k_is)
    (case k28 => k_is)
    (case a29 => k_is)
    (case l29 => k_is)
    (case c29 => k_is)
    (case k29 => k_is)
    (case a30 => k_is)
    (case l30 => k_is)
    (case c30 => k_is)
    (case k30 => k_is)
    (case a31 => k_is)
    (case l31 => k_is)
    (case c31 => k_is)
    (case k31 => k_is)
    (case a32 => k_is)
    (case l32 => k_is)
    (case c32 => k_is)
    (case k32 => k_is)
    (case a33 => k_is)
    (case l33 => k_is)
    (case c33 => k_is)
    (case k33 => k_is)
    (case a34 => k_is)
    (case l34 => k_is)
    (case c34 => k_is)
    (case k34 => k_is)
    (case a35 => k_is)
    (case l35 => k_is)
    (case c35 => k_is)
    (case k35 => k_is)
    (case a36 => k_is)
    (case l36 => k_is)
    (case c36 => k_is)
    (case k36 => k_is)
    (case a37 => k_is)
    (case l37 => k_is)
    (case c37 => k_is)
    (case k37 => k_is)
    (case a38 => k_is)
    (case l38 => k_is)
    (case c38 => k_is)
    (case k38 => k_is)
    (case a39 => k_is)
    (case l39 => k_is)
    (case c39 => k_is)
    (case k39 => k_is)
    (case z_abs => k_is)
    (case z_len => k_is)
    (case z_tuple => k_is)
    (case z_max => k_is)
    (case z_range => k_is)
    (case z_enumerate => k_is)
    (case z_reversed => k_is)
    (case z_int => k_is)
    (case z_list => k_is)


