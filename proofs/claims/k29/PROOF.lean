import PyProof.Rows.All
import Wide.All
import OpenK.AllK
import Wide.FinOn
import Lean
import PyProof.EqAt
import PyProof.EqKinds
import PyProof.TupleCall
import PySem.Challenge.RW_planestacks_k29_terms_read
set_option Elab.async false
set_option linter.all false
set_option maxRecDepth 100000
namespace L2
open PySem PySem.Spec PyProof.Rows
abbrev Key:=Sum Int Str
def eIF:Key->Value->Bool
 | .inl k,v=>Value.isInt k v
 | .inr x,v=>Value.isStrOf x v
def eSQ (w:World):Key->Int
 | .inl k=>hashInt k
 | .inr x=>hashStr w x
theorem qZ:∀ {k:Key} {v:Value},eIF k v=true->(∃ i t,k=Sum.inl i/\v=Value.int i t)\/(∃ x t,k=Sum.inr x/\v=Value.str x t)
 | .inl i,v,h=>by
  obtain ⟨t,e⟩:=Value.isInt_shape (k:=i) (v:=v) h
  exact .inl ⟨i,t,rfl,e⟩
 | .inr x,v,h=>by
  obtain ⟨t,e⟩:=Value.isStrOf_shape (x:=x) (v:=v) h
  exact .inr ⟨x,t,rfl,e⟩
theorem eMT (a b:Int):decide ((Sum.inl a:Key)=Sum.inl b)=(a == b):=by
 by_cases e:a=b
 ·subst e; simp
 ·have h:¬ (Sum.inl a:Key)=Sum.inl b:=fun q=>e (Sum.inl.inj q)
  rw [decide_eq_false h]
  exact (beq_eq_false_iff_ne.mpr e).symm
theorem eMQ (a b:Str):decide ((Sum.inr a:Key)=Sum.inr b)=decide (a=b):=by
 by_cases e:a=b
 ·subst e; simp
 ·have h:¬ (Sum.inr a:Key)=Sum.inr b:=fun q=>e (Sum.inr.inj q)
  rw [decide_eq_false h,decide_eq_false e]
theorem eMS (a:Int) (b:Str):decide ((Sum.inl a:Key)=Sum.inr b)=false:=decide_eq_false (fun q=>nomatch q)
theorem eMR (a:Str) (b:Int):decide ((Sum.inr a:Key)=Sum.inl b)=false:=decide_eq_false (fun q=>nomatch q)
def aIU (prog:Program) (w:World):PySem.KeyKind prog w Key where
 is:=eIF
 hash:=eSQ w
 inj:=fun v a b ha hb=>by
  rcases qZ ha with ⟨i,t,rfl,rfl⟩ | ⟨x,t,rfl,rfl⟩
  ·rcases qZ hb with ⟨j,u,rfl,e⟩ | ⟨y,u,rfl,e⟩
   ·injection e with e1 _; rw [e1]
   ·exact nomatch e
  ·rcases qZ hb with ⟨j,u,rfl,e⟩ | ⟨y,u,rfl,e⟩
   ·exact nomatch e
   ·injection e with e1 _; rw [e1]
 byValue:=fun k v h=>by
  rcases qZ h with ⟨i,t,rfl,rfl⟩ | ⟨x,t,rfl,rfl⟩ <;> rfl
 pyHash:=fun hv h=>by
  rcases qZ hv with ⟨i,t,rfl,rfl⟩ | ⟨x,t,rfl,rfl⟩
  ·exact wpAny_pyHash_int h
  ·exact wpAny_pyHash_str h
 eqBool:=fun hu hv h=>by
  rcases qZ hu with ⟨i,t,rfl,rfl⟩ | ⟨x,t,rfl,rfl⟩
  ·rcases qZ hv with ⟨j,u,rfl,rfl⟩ | ⟨y,u,rfl,rfl⟩
   ·rw [eMT] at h; exact wpAny_eqBool_int h
   ·rw [eMS] at h; exact SeqAt.EqAt.int_str i t y u _ _ _ _ h
  ·rcases qZ hv with ⟨j,u,rfl,rfl⟩ | ⟨y,u,rfl,rfl⟩
   ·rw [eMR] at h; exact SeqAt.EqAt.str_int x t j u _ _ _ _ h
   ·rw [eMQ] at h; exact wpAny_eqBool_str h
 «strs»:=fun k x t v h=>by
  rcases qZ h with ⟨i,u,rfl,e⟩ | ⟨y,u,rfl,e⟩
  ·exact nomatch e
  ·injection e with e1 _
   subst e1
   cases v <;> rfl
inductive V where
 | non | bl (b:Bool) | int (i:Int) | str (x:Str) | byt (b:Array UInt8) | flt (b:UInt64) | ref (a:Addr) | ty (n:String)
 deriving DecidableEq
def RelV:V->Value->Prop
 | .non,u=>u=Value.none
 | .bl b,u=>u=Value.bool b
 | .int i,u=>∃ t,u=Value.int i t
 | .str x,u=>∃ t,u=Value.str x t
 | .byt b,u=>∃ t,u=Value.bytes b t
 | .flt b,u=>∃ t,u=Value.float b t
 | .ref a,u=>u=Value.ref a
 | .ty n,u=>u=Value.type n
abbrev Vals:List V->List Value->Prop:=Paired RelV
theorem Vals.length {xs:List V} {us:List Value} (r:Vals xs us):xs.length=us.length:=Paired.length r
theorem Vals.get:∀ {xs:List V} {us:List Value} {i:Nat} {x:V},Vals xs us->xs[i]? = some x->∃ u,us[i]? = some u/\RelV x u
 | _,_,_,_,.nil,e=>by simp at e
 | _,_,0,_,.cons r _,e=>by simp at e; subst e; exact ⟨_,rfl,r⟩
 | _,_,i+1,x,.cons _ t,e=>by
  obtain ⟨u,h1,h2⟩:=Vals.get (i:=i) (x:=x) t (by simpa using e)
  exact ⟨u,by simpa using h1,h2⟩
theorem Vals.set {x:V} {u:Value} (r:RelV x u):∀ {xs:List V} {us:List Value} (i:Nat),Vals xs us->Vals (xs.set i x) (us.set i u)
 | _,_,_,.nil=>.nil
 | _,_,0,.cons _ t=>.cons r t
 | _,_,i+1,.cons q t=>.cons q (Vals.set r i t)
theorem Vals.append:∀ {xs ys:List V} {us ws:List Value},Vals xs us->Vals ys ws->Vals (xs++ys) (us++ws)
 | _,_,_,_,.nil,s=>s
 | _,_,_,_,.cons r t,s=>.cons r (Vals.append t s)
theorem Vals.take:∀ {xs:List V} {us:List Value} (n:Nat),Vals xs us->Vals (xs.take n) (us.take n)
 | _,_,0,_=>.nil
 | _,_,_+1,.nil=>.nil
 | _,_,n+1,.cons r t=>.cons r (Vals.take n t)
theorem Vals.drop:∀ {xs:List V} {us:List Value} (n:Nat),Vals xs us->Vals (xs.drop n) (us.drop n)
 | _,_,0,r=>r
 | _,_,_+1,.nil=>.nil
 | _,_,n+1,.cons _ t=>Vals.drop n t
def RelO:Option V->Option Value->Prop
 | some v,some u=>RelV v u
 | none,none=>True
 | _,_=>False
def KV {κ:Type}:List (κ × V)->List (κ × Value)->Prop:=Paired fun (p:κ × V) (q:κ × Value)=>p.1=q.1/\RelV p.2 q.2
def kV:Key->V
 | .inl i=>.int i
 | .inr x=>.str x
inductive HO where
 /-- a list -/
 | lst (xs:List V)
 /-- a tuple (never changes) -/
 | tup (xs:List V)
 /-- a dict whose keys are ints and texts; one whose keys are tuples of ints and texts (the empty one is both) -/
 | dK (kvs:List (Key × V)) | dT (kvs:List (List Key × V))
 /-- a set of ints: its members,its size -/
 | set (S:Int->Bool) (n:Nat)
 /-- an instance of the class at C,its dict at dx,its attributes -/
 | ins (C dx:Addr) (fs:List (Str × V))
 /-- the dict of the instance at x -/
 | own (x:Addr)
 /-- the dict of an exception -/
 | xd (fs:List (Str × V))
 /-- a bound method,f of x -/
 | met (f x:Addr)
 /-- a range object lo,lo+1,.. below hi -/
 | rng (lo hi:Int)
 /-- a thing that is known to the object (the script; a dict while a loop walks it): read,never written while it is so -/
 | frz (o:Obj) (u:HO)
 /-- a code object's table -/
 | tbl (ps:Array Value)
 /-- any other thing,by what is true of its one object (a def of one's own: SetO a S n:=HO.ext fun h=>..) -/
 | ext (φ:Heap->Prop)
abbrev Hp:=Addr->Option HO
def upd (H:Hp) (a:Addr) (o:HO):Hp:=fun b=>if b=a then some o else H b
theorem yH {H:Hp} {a:Addr} {o:HO}:upd H a o a=some o:=by unfold upd; rw [if_pos rfl]
theorem yI {H:Hp} {a b:Addr} {o:HO} (h:b≠a):upd H a o b=H b:=by unfold upd; rw [if_neg h]
theorem aWT {H:Hp} {a:Addr} {o u:HO}:upd (upd H a o) a u=upd H a u:=by
 funext b; unfold upd; split <;> rfl
theorem zZ {H:Hp} {a b:Addr} {o:HO} (h:H a=some o) (h':H b=none):a≠b:=by
 intro e; subst e; rw [h] at h'; cases h'
section
variable (P:Program) (w:World)
def ObjOk (H:Hp) (h:Heap) (a:Addr):HO->Prop
 | .lst xs=>xs.length<=sizeLine/\∃ (its:List Value) (n:Nat),Vals xs its/\h.get? a=some { cls:=.type "list",data:=.seq its.toArray n }
 | .tup xs=>xs.length<=sizeLine/\∃ its:List Value,Vals xs its/\IsTup h a its.toArray
 | .dK kvs=>kvs.length<=sizeLine/\(a == sysModules)=false/\∃ vs,KV kvs vs/\h.DictOf (aIU P w) a vs
 | .dT kvs=>kvs.length<=sizeLine/\(a == sysModules)=false/\∃ xs:List (List Key × Addr × Value),
   Paired (fun (p:List Key × V) (q:List Key × Addr × Value)=>p.1=q.1/\H q.2.1=some (.tup (p.1.map kV))/\RelV p.2 q.2.2) kvs xs /\
   ∃ o es ep,h.get? a=some o/\o.ExactDict/\o.data = .dict es ep/\es.toList=xs.map (entryOfKey (tupleKind (aIU P w)))/\(xs.map (·.1)).Nodup
 | .set S n=>h.SetOf (intKind P w) a S n
 | .ins C dx fs=>H dx=some (.own a)/\fs.length<=1000/\dx≠a/\h.get? a=some (PySem.W.instObj C dx) /\
   ∃ mA,h.Ns1 dx mA/\(∀ f,RelO (fs.lookup f) (mA f))/\PySem.Within mA (fs.map (·.1))
 | .own _=>∃ o,h.get? a=some o
 | .xd fs=>∃ mA,h.Ns1 a mA/\∀ f,RelO (fs.lookup f) (mA f)
 | .rng lo hi=>∃ t u v,h.get? a=some { cls:=.type "range",data:=.fields #[.int lo t,.int hi u,.int 1 v] }
 | .frz o u=>h.get? a=some o/\ObjOk H h a u
 | .tbl ps=>h.get? a=some { cls:=.none,data:=.fields ps }
 | .met f x=>h.get? a=some (PySem.W.methodObj (.ref f) (.ref x))
 | .ext φ=>φ h/\(∃ o,h.get? a=some o)/\∀ h1 h2:Heap,φ h1->(∀ o,h1.get? a=some o->h2.get? a=some o)->φ h2
def HOk (H:Hp) (h:Heap):Prop:=∀ a o,H a=some o->ObjOk P w H h a o
end
section
variable {P:Program} {w:World} {H H':Hp} {h h':Heap} {a:Addr} {o:HO}
theorem ObjOk.lt (x:ObjOk P w H h a o):a < h.objs.size:=by
 cases o with
 | lst xs=>obtain ⟨_,_,_,_,e⟩:=x; exact Heap.lt_size e
 | tup xs=>obtain ⟨_,_,_,p⟩:=x; exact p.lt
 | dK kvs=>obtain ⟨_,_,_,_,o,_,_,e,_⟩:=x; exact Heap.lt_size e
 | dT kvs=>obtain ⟨_,_,_,_,o,_,_,e,_⟩:=x; exact Heap.lt_size e
 | set S n=>obtain ⟨o,_,_,_,e,_⟩:=x; exact Heap.lt_size e
 | ins C dx fs=>obtain ⟨_,_,_,e,_⟩:=x; exact Heap.lt_size e
 | own y=>obtain ⟨_,e⟩:=x; exact Heap.lt_size e
 | xd fs=>obtain ⟨_,⟨_,_,_,e,_⟩,_⟩:=x; exact Heap.lt_size e
 | rng lo hi=>obtain ⟨_,_,_,e⟩:=x; exact Heap.lt_size e
 | frz ob u=>obtain ⟨e,_⟩:=x; exact Heap.lt_size e
 | tbl ps=>exact Heap.lt_size (show h.get? a=some _ from x)
 | met f y=>exact Heap.lt_size (show h.get? a=some _ from x)
 | ext φ=>obtain ⟨_,⟨_,e⟩,_⟩:=x; exact Heap.lt_size e
theorem Paired.mapP {α β:Type} {F G:α->β->Prop}:∀ {l₁:List α} {l₂:List β},Paired F l₁ l₂->(∀ a b,F a b->G a b)->Paired G l₁ l₂
 | _,_,.nil,_=>.nil
 | _,_,.cons r t,f=>.cons (f _ _ r) (Paired.mapP t f)
theorem ObjOk.stay (x:ObjOk P w H h a o) (k:∀ b u,(b=a\/H b=some (.own a))->h.get? b=some u->h'.get? b=some u)
  (ho:∀ b,H b=some (.own a)->H' b=some (.own a)) (ht:∀ b xs,H b=some (.tup xs)->H' b=some (.tup xs)):ObjOk P w H' h' a o:=by
 induction o with
 | lst xs=>obtain ⟨z,its,n,r,e⟩:=x; exact ⟨z,its,n,r,k _ _ (.inl rfl) e⟩
 | tup xs=>obtain ⟨z,its,r,ob,e,c⟩:=x; exact ⟨z,its,r,ob,k _ _ (.inl rfl) e,c⟩
 | dK kvs=>obtain ⟨z,y,vs,r,ob,es,ep,e,c⟩:=x; exact ⟨z,y,vs,r,ob,es,ep,k _ _ (.inl rfl) e,c⟩
 | dT kvs=>
  obtain ⟨z,y,xs,r,ob,es,ep,e,c⟩:=x
  exact ⟨z,y,xs,Paired.mapP r fun p q z=>⟨z.1,ht _ _ z.2.1,z.2.2⟩,ob,es,ep,k _ _ (.inl rfl) e,c⟩
 | set S n=>obtain ⟨ob,es,ep,t,e,c⟩:=x; exact ⟨ob,es,ep,t,k _ _ (.inl rfl) e,c⟩
 | ins C dx fs=>
  obtain ⟨d,z,ne,e,mA,⟨od,es,ep,e2,c⟩,r⟩:=x
  exact ⟨ho _ d,z,ne,k _ _ (.inl rfl) e,mA,⟨od,es,ep,k _ _ (.inr d) e2,c⟩,r⟩
 | own y=>obtain ⟨ob,e⟩:=x; exact ⟨ob,k _ _ (.inl rfl) e⟩
 | xd fs=>obtain ⟨mA,⟨od,es,ep,e,c⟩,r⟩:=x; exact ⟨mA,⟨od,es,ep,k _ _ (.inl rfl) e,c⟩,r⟩
 | rng lo hi=>obtain ⟨t,u,v,e⟩:=x; exact ⟨t,u,v,k _ _ (.inl rfl) e⟩
 | frz ob u ih=>obtain ⟨e,q⟩:=x; exact ⟨k _ _ (.inl rfl) e,ih q⟩
 | tbl ps=>
  have e:h.get? a=some { cls:=.none,data:=.fields ps }:=x
  show h'.get? a=some { cls:=.none,data:=.fields ps }
  exact k a _ (.inl rfl) e
 | met f y=>
  have e:h.get? a=some (PySem.W.methodObj (.ref f) (.ref y)):=x
  show h'.get? a=some (PySem.W.methodObj (.ref f) (.ref y))
  exact k a _ (.inl rfl) e
 | ext φ=>obtain ⟨p,⟨o,e⟩,st⟩:=x; exact ⟨st _ _ p fun o q=>k _ _ (.inl rfl) q,⟨o,k _ _ (.inl rfl) e⟩,st⟩
theorem HOk.lt (x:HOk P w H h) (e:H a=some o):a < h.objs.size:=(x a o e).lt
theorem HOk.fresh (x:HOk P w H h) (e:h.objs.size<=a):H a=none:=by
 cases q:H a with
 | none=>rfl
 | some u=>exact absurd (Nat.lt_of_lt_of_le (x.lt q) e) (Nat.lt_irrefl _)
theorem HOk.kept (x:HOk P w H h) (k:∀ b u,h.get? b=some u->h'.get? b=some u):HOk P w H h':=fun a o e=>
 (x a o e).stay (fun b u _ q=>k b u q) (fun _ q=>q) fun _ _ q=>q
theorem HOk.laid (x:HOk P w H h) (k:∀ b u,h.get? b=some u->h'.get? b=some u) (hp:h.objs.size<=a) (new:ObjOk P w (upd H a o) h' a o):HOk P w (upd H a o) h':=fun b u e=>by
 have hn:=x.fresh hp
 by_cases hb:b=a
 ·subst hb; rw [yH] at e; cases e; exact new
 ·rw [yI hb] at e
  exact (x b u e).stay (fun c v _ q=>k c v q) (fun c q=>by rw [yI (zZ q hn)]; exact q) fun c xs q=>by rw [yI (zZ q hn)]; exact q
end
def Rd (H:Hp) (a:Addr) (u:HO):Prop:=H a=some u\/∃ o,H a=some (.frz o u)
theorem Rd.ok {P:Program} {w:World} {H:Hp} {h:Heap} {a:Addr} {u:HO} (r:Rd H a u) (x:HOk P w H h):ObjOk P w H h a u:=by
 rcases r with r | ⟨o,r⟩
 ·exact x a u r
 ·obtain ⟨_,q⟩:=x a _ r
  exact q
def Mut:Option HO->Prop
 | some (.lst _)=>True
 | some (.dK _)=>True
 | some (.dT _)=>True
 | some (.set _ _)=>True
 | some (.ins _ _ _)=>True
 | some (.ext _)=>True
 | _=>False
section
variable {P:Program} {w:World} {H:Hp} {h h':Heap} {x e:Addr} {o':HO}
theorem HOk.write (ok:HOk P w H h) (mu:Mut (H x)) (he:e=x\/H e=some (.own x)) (k:∀ b u,b≠e->h.get? b=some u->h'.get? b=some u) (heo:∃ u,h'.get? e=some u)
  (new:ObjOk P w (upd H x o') h' x o'):HOk P w (upd H x o') h':=fun b u q=>by
 have nown:∀ c y,H c=some (.own y)->c≠x:=fun c y r z=>by subst z; rw [r] at mu; exact mu
 have ntup:∀ c xs,H c=some (.tup xs)->c≠x:=fun c xs r z=>by subst z; rw [r] at mu; exact mu
 by_cases hb:b=x
 ·subst hb; rw [yH] at q; cases q; exact new
 ·rw [yI hb] at q
  by_cases hbe:b=e
  ·have q':H b=some (.own x):=by
    rcases he with z | z
    ·exact absurd (hbe.trans z) hb
    ·rw [hbe]; exact z
   rw [q] at q'; cases q'
   obtain ⟨v,hv⟩:=heo
   exact ⟨v,by rw [hbe]; exact hv⟩
  ·refine (ok b u q).stay (fun c v hc r=>k c v ?_ r) (fun c r=>by rw [yI (nown c b r)]; exact r) fun c xs r=>by rw [yI (ntup c xs r)]; exact r
   rcases hc with rfl | hc
   ·exact hbe
   ·rintro rfl
    rcases he with z | z
    ·exact nown c b hc z
    ·rw [hc] at z; cases z; exact hb rfl
end
structure Un (fs ex:List Addr) (H H':Hp) (h h':Heap):Prop where
 keep:∀ b o,h.get? b=some o->H b=none->b ∉ fs->b ∉ ex->h'.get? b=some o
 slot:∀ b o,h.get? b=some o->H b=none->b∈fs->b ∉ ex->∃ sl,h'.get? b=some { o with slots:=sl }
 free:∀ b o,h.get? b=some o->H b=none->b ∉ ex->H' b=none
 there:∀ b o,h.get? b=some o->b ∉ ex->∃ o',h'.get? b=some o'
 tups:∀ b xs,H b=some (.tup xs)->H' b=some (.tup xs)
 frzs:∀ b o u,H b=some (.frz o u)->H' b=some (.frz o u)
 tbls:∀ b ps,H b=some (.tbl ps)->∃ more,H' b=some (.tbl (ps++more))
section
variable {fs fs' ex ex':List Addr} {H H1 H2:Hp} {h h1 h2 h':Heap} {a x e:Addr} {o:HO}
theorem Un.any (u:Un fs ex H H1 h h1) {b:Addr} {ob:Obj} (q:h.get? b=some ob) (n:H b=none) (hx:b ∉ ex):∃ sl,h1.get? b=some { ob with slots:=sl }:=by
 by_cases hb:b∈fs
 ·exact u.slot b ob q n hb hx
 ·exact ⟨ob.slots,u.keep b ob q n hb hx⟩
theorem Un.kept (k:∀ b u,h.get? b=some u->h'.get? b=some u):Un fs ex H H h h':=
 ⟨fun b ob q _ _ _=>k b ob q,fun b ob q _ _ _=>⟨ob.slots,k b ob q⟩,fun _ _ _ n _=>n,fun b ob q _=>⟨ob,k b ob q⟩,fun _ _ q=>q,fun _ _ _ q=>q,fun _ ps q=>⟨#[],by rw [q]; simp⟩⟩
theorem Un.refl:Un fs ex H H h h:=Un.kept fun _ _ q=>q
theorem Un.laid (k:∀ b u,h.get? b=some u->h'.get? b=some u) (hp:h.objs.size<=a) (hn:H a=none):Un fs ex H (upd H a o) h h' where
 keep:=fun b u q _ _ _=>k b u q
 slot:=fun b u q _ _ _=>⟨u.slots,k b u q⟩
 free:=fun b u q n _=>by rw [yI (Nat.ne_of_lt (Nat.lt_of_lt_of_le (Heap.lt_size q) hp))]; exact n
 there:=fun b u q _=>⟨u,k b u q⟩
 tups:=fun b xs q=>by rw [yI (zZ q hn)]; exact q
 frzs:=fun b u xs q=>by rw [yI (zZ q hn)]; exact q
 tbls:=fun b ps q=>⟨#[],by rw [yI (zZ q hn),q]; simp⟩
theorem Un.write (mu:Mut (H x)) (he:e=x\/H e=some (.own x)) (k:∀ b u,b≠e->h.get? b=some u->h'.get? b=some u) (heo:∃ u,h'.get? e=some u):Un fs ex H (upd H x o) h h':=by
 have hx:∀ b,H b=none->b≠x:=fun b n z=>by subst z; rw [n] at mu; exact mu
 have hb:∀ b,H b=none->b≠e:=fun b n z=>by
  subst z
  rcases he with r | r
  ·exact hx b n r
  ·rw [n] at r; cases r
 have hm:∀ b u,H b=some u->¬ Mut (some u)->b≠x:=fun b u q nm z=>by subst z; rw [q] at mu; exact nm mu
 refine ⟨fun b u q n _ _=>k b u (hb b n) q,fun b u q n _ _=>⟨u.slots,k b u (hb b n) q⟩,fun b u q n _=>by rw [yI (hx b n)]; exact n,fun b u q _=>?_,
  fun b xs q=>by rw [yI (hm b _ q fun z=>z)]; exact q,fun b u xs q=>by rw [yI (hm b _ q fun z=>z)]; exact q,fun b ps q=>⟨#[],by rw [yI (hm b _ q fun z=>z),q]; simp⟩⟩
 by_cases hbe:b=e
 ·subst hbe; exact heo
 ·exact ⟨u,k b u hbe q⟩
end
def trk (h:Heap) (H:Hp):List Addr:=(List.range h.objs.size).filter fun a=>(H a).isSome
def eBO (h:Heap) (H:Hp):Heap:=PySem.W.hideAll h (trk h H)
theorem aZO (h:Heap) (H:Hp):(eBO h H).objs.size=h.objs.size:=PySem.W.hideAll_size _ _
theorem eCW {h:Heap} {H:Hp} {b:Addr} {o:Obj} (e:h.get? b=some o) (n:H b=none):(eBO h H).get? b=some o:=
 PySem.W.hideAll_get _ e fun hm=>by
  have q:(H b).isSome=true:=(List.mem_filter.mp hm).2
  rw [n] at q; simp at q
theorem eHV {h:Heap} {H:Hp} {b:Addr} {o:Obj} (e:(eBO h H).get? b=some o):h.get? b=some o/\H b=none:=by
 have e':h.get? b=some o:=PySem.W.of_hideAll (trk h H) e
 refine ⟨e',?_⟩
 cases q:H b with
 | none=>rfl
 | some x=>
  have hm:b∈trk h H:=List.mem_filter.mpr ⟨List.mem_range.mpr (Heap.lt_size e'),by simp [q]⟩
  have z:(eBO h H).get? b=none:=PySem.W.hideAll_none (trk h H) hm
  rw [z] at e; cases e
def eJO (g h:Heap) (L:Addr):List (Addr × Obj):=(List.range h.objs.size).filterMap fun a=>if a=L\/(g.get? a).isSome=true then none else (h.get? a).map fun o=>(a,o)
def qU (g h:Heap) (L d:Addr):List (Addr × Obj):=(eJO g h L).filter fun p=>decide (p.1≠d)
structure Mod (K:PySem.W.Frag) (mg:Str->Option Value) (base:Heap):Prop where
 kin:K.In base
 glob:base.Ns mainGlobals mg
 blt:∃ mb,base.Ns builtinsNs mb/\∀ x:Str,x ≠ "__name__" -> mb x=bootBuiltins x
 nolimit:base.NoLimit
 seer:base.NoSeer
structure Cx where
 prog:Program
 w:World
 K:PySem.W.Frag
 mg:Str->Option Value
 base:Heap
 A:Around
 N:List Str
 s₀:Shared
 H₀:Hp
 env:Env
 outer:List Env
 stack:List Env
 ex:List Addr
 fn:Str->Bool
 calm:Bool
 pn:List (Addr × Obj)
 xe:Value->Shared->Prop
def frs (l:List Env):List Addr:=l.filterMap (·.frame)
abbrev Cx.fs (X:Cx):List Addr:=frs X.outer
def Vis (sc:Scope) (x:Str):Prop:=sc.names.lookup x=some .local\/sc.names.lookup x=some .cell\/sc.names.lookup x=some .free
def Loc (sc:Scope) (x:Str):Prop:=sc.names.lookup x=some .local\/sc.names.lookup x=some .cell
def eTD (env:Env) (h:Heap) (m:Str->Option Value) (x:Str) (u:Value):Prop:=
 (env.kindOf x=some .local/\m x=some u)\/((env.kindOf x=some .cell\/env.kindOf x=some .free)/\∃ c,env.cells.lookup x=some c/\h.IsCell c (some u))
structure Cx.Ok (X:Cx):Prop where
 mod:Mod X.K X.mg X.base
 kind:X.env.scope.kind = .function
 glob:X.env.globals=mainGlobals
 blt:X.env.builtins=builtinsNs
 above:X.s₀.heap.objs.size<=X.env.locals
 inj:∀ x y c,X.env.cells.lookup x=some c->X.env.cells.lookup y=some c->x=y
 has:∀ x,(X.env.kindOf x=some .cell\/X.env.kindOf x=some .free)->∃ c,X.env.cells.lookup x=some c
 cab:∀ x c,X.fn x=true->X.env.cells.lookup x=some c->X.s₀.heap.objs.size<=c
 hd:X.calm=true->X.A.handled=none
 frames:X.A.frames=some X.stack
 stk:X.stack=X.outer\/(X.stack=X.env :: X.outer/\X.env.frame=some X.env.locals)
 exf:∀ b∈X.ex,b≠X.env.locals/\∀ x c,X.env.cells.lookup x=some c->c≠b
 bs:∀ b o,X.base.get? b=some o->X.s₀.heap.get? b=some o/\X.H₀ b=none
 bsz:X.base.objs.size<=X.s₀.heap.objs.size
 noex:∀ b o,X.base.get? b=some o->b ∉ X.ex
 exfs:∀ b∈X.ex,b ∉ X.fs
 funs:X.s₀.heap.FunFrames X.base X.outer
 frf:∀ b∈X.fs,X.H₀ b=none
structure Inv (X:Cx) (pins:List (Addr × Obj)) (σ:List (Option V)) (H:Hp) (s:Shared):Prop where
 ok:X.Ok
 os:s.os=X.s₀.os
 bare:AllBare s.gens
 base:Un X.fs X.ex X.H₀ H X.s₀.heap s.heap
 loc:∃ m,s.heap.Ns X.env.locals m/\∀ (i:Nat) (x:Str) (v:V),X.N[i]? = some x->σ[i]? = some (some v)->Vis X.env.scope x->∃ u,RelV v u/\eTD X.env s.heap m x u
 cell:∀ x c,X.env.cells.lookup x=some c->∃ v,s.heap.IsCell c v
 free:H X.env.locals=none
 freeC:∀ x c,X.env.cells.lookup x=some c->H c=none
 pin:∀ p∈X.pn++pins,s.heap.get? p.1=some p.2/\H p.1=none/\p.1≠X.env.locals/\p.1 ∉ X.fs/\∀ v,p.2.data ≠ .cell v
 hok:HOk X.prog X.w H s.heap
 len:σ.length=X.N.length
section
variable {X:Cx} {pins:List (Addr × Obj)} {σ:List (Option V)} {H H':Hp} {s:Shared} {h':Heap}
theorem Cx.Ok.nofr (ok:X.Ok) {b:Addr} {o:Obj} (e:X.base.get? b=some o):b ∉ X.fs:=fun hb=>by
 have:=(ok.funs.mem hb).1
 rw [e] at this; cases this
theorem Inv.bs (I:Inv X pins σ H s):∀ b o,X.base.get? b=some o->s.heap.get? b=some o/\H b=none:=fun b o e=>
 ⟨I.base.keep b o (I.ok.bs b o e).1 (I.ok.bs b o e).2 (I.ok.nofr e) (I.ok.noex b o e),I.base.free b o (I.ok.bs b o e).1 (I.ok.bs b o e).2 (I.ok.noex b o e)⟩
theorem Inv.bk (I:Inv X pins σ H s):∀ b o,X.base.get? b=some o->s.heap.get? b=some o:=fun b o e=>(I.bs b o e).1
theorem Inv.mod (I:Inv X pins σ H s):Mod X.K X.mg X.base:=I.ok.mod
theorem Inv.kIn (I:Inv X pins σ H s):X.K.In s.heap:=I.ok.mod.kin.keeps I.bk
theorem Inv.nolimit (I:Inv X pins σ H s):s.heap.NoLimit:=I.ok.mod.nolimit.keeps I.bk
theorem Inv.lt (I:Inv X pins σ H s):X.env.locals < s.heap.objs.size:=let ⟨_,hn,_⟩:=I.loc; hn.lt
theorem Inv.sz (I:Inv X pins σ H s):X.s₀.heap.objs.size<=s.heap.objs.size:=Nat.le_trans I.ok.above (Nat.le_of_lt I.lt)
theorem Inv.nofs (I:Inv X pins σ H s) {a:Addr} (h:s.heap.objs.size<=a):a ∉ X.fs:=fun hb=>by
 obtain ⟨_,o,ho,_⟩:=I.ok.funs.mem hb
 exact absurd (Nat.lt_of_lt_of_le (Heap.lt_size ho) (Nat.le_trans I.sz h)) (Nat.lt_irrefl _)
theorem Inv.cne (I:Inv X pins σ H s):∀ x c,X.env.cells.lookup x=some c->c≠X.env.locals:=fun x c e z=>by
 obtain ⟨v,o,ho,hd⟩:=I.cell x c e
 obtain ⟨m,⟨o',es,ep,ho',hd',_⟩,_⟩:=I.loc
 rw [z,ho'] at ho; cases ho; rw [hd'] at hd; cases hd
theorem Inv.funs (I:Inv X pins σ H s):s.heap.FunFrames X.base X.outer:=by
 have all:∀ (l:List Env),(∀ b∈frs l,b∈X.fs)->X.s₀.heap.FunFrames X.base l->s.heap.FunFrames X.base l:=by
  intro l
  induction l with
  | nil=>intro _ _; trivial
  | cons env r ih=>
   intro hs hl
   obtain ⟨hk,⟨L,o,hf,hn,ho,hd⟩,hr⟩:=hl
   have hL:L∈X.fs:=hs L (by unfold frs; rw [List.filterMap_cons,hf]; exact List.mem_cons_self)
   obtain ⟨sl,e⟩:=I.base.slot L o ho (I.ok.frf L hL) hL fun z=>I.ok.exfs L z hL
   exact ⟨hk,⟨L,_,hf,hn,e,hd⟩,ih (fun b hb=>hs b (by unfold frs; rw [List.filterMap_cons,hf]; exact List.mem_cons_of_mem _ hb)) hr⟩
 exact all X.outer (fun _ hb=>hb) I.ok.funs
theorem Inv.stack (I:Inv X pins σ H s):s.heap.FunFrames X.base X.stack:=by
 rcases I.ok.stk with e | ⟨e,hf⟩
 ·rw [e]; exact I.funs
 ·rw [e]
  obtain ⟨m,hn,_⟩:=I.loc
  refine .cons (by rw [I.ok.kind]; decide) hf hn ?_ I.funs
  exact Heap.get?_none_of_le (Nat.le_trans I.ok.bsz I.ok.above)
theorem Inv.stkSub (I:Inv X pins σ H s):∀ b∈frs X.stack,b∈X.env.locals :: X.fs:=fun b hb=>by
 rcases I.ok.stk with e | ⟨e,hf⟩
 ·rw [e] at hb; exact List.mem_cons_of_mem _ hb
 ·rw [e] at hb
  unfold frs at hb
  rw [List.filterMap_cons,hf] at hb
  exact hb
theorem Inv.stkFree (I:Inv X pins σ H s):∀ b∈frs X.stack,H b=none:=fun b hb=>by
 rcases List.mem_cons.mp (I.stkSub b hb) with e | hb
 ·rw [e]; exact I.free
 ·obtain ⟨_,o,ho,_⟩:=I.ok.funs.mem hb
  exact I.base.free b o ho (I.ok.frf b hb) fun z=>I.ok.exfs b z hb
theorem Inv.step {g':Array GenState} {t':Nat} {d':Drawn} {ch:List Addr} (I:Inv X pins σ H s)
  (hch:∀ b∈ch,(b∈X.ex\/X.s₀.heap.objs.size<=b)/\b≠X.env.locals/\(∀ x c,X.env.cells.lookup x=some c->c≠b)/\∀ p∈X.pn++pins,p.1≠b)
  (keep:∀ b o,b≠X.env.locals->b ∉ X.fs->b ∉ ch->s.heap.get? b=some o->H b=none->h'.get? b=some o)
  (slot:∀ b o,b≠X.env.locals->b∈X.fs->b ∉ ch->s.heap.get? b=some o->H b=none->∃ sl,h'.get? b=some { o with slots:=sl }) (free:∀ b o,b ∉ ch->s.heap.get? b=some o->H b=none->H' b=none)
  (there:∀ b o,b ∉ ch->s.heap.get? b=some o->∃ o',h'.get? b=some o')
  (tups:∀ b xs,H b=some (.tup xs)->H' b=some (.tup xs)) (frzs:∀ b o u,H b=some (.frz o u)->H' b=some (.frz o u)) (tbls:∀ b ps,H b=some (.tbl ps)->∃ more,H' b=some (.tbl (ps++more)))
  (ns:∀ m,s.heap.Ns X.env.locals m->h'.Ns X.env.locals m) (hok:HOk X.prog X.w H' h') (hg:AllBare g') :
  Inv X pins σ H' { s with heap:=h',gens:=g',drawn:=d',toks:=t' }:=by
 have neL:∀ b o,X.s₀.heap.get? b=some o->b≠X.env.locals:=fun b o e=>Nat.ne_of_lt (Nat.lt_of_lt_of_le (Heap.lt_size e) I.ok.above)
 have neC:∀ b o,X.s₀.heap.get? b=some o->b ∉ X.ex->b ∉ ch:=fun b o e hx hb=>by
  rcases (hch b hb).1 with z | z
  ·exact hx z
  ·exact absurd (Nat.lt_of_lt_of_le (Heap.lt_size e) z) (Nat.lt_irrefl _)
 have cellK:∀ x c,X.env.cells.lookup x=some c->∀ v,s.heap.IsCell c v->h'.IsCell c v:=fun x c e v ⟨o,ho,hd⟩=>by
  have nch:c ∉ ch:=fun z=>(hch c z).2.2.1 x c e rfl
  by_cases hc:c∈X.fs
  ·obtain ⟨sl,q⟩:=slot c o (I.cne x c e) hc nch ho (I.freeC x c e)
   exact ⟨_,q,hd⟩
  ·exact ⟨o,keep c o (I.cne x c e) hc nch ho (I.freeC x c e),hd⟩
 refine ⟨I.ok,I.os,hg,⟨fun b o e n hb hx=>?_,fun b o e n hb hx=>?_,fun b o e n hx=>?_,fun b o e hx=>?_,fun b xs e=>tups b xs (I.base.tups b xs e),fun b o xs e=>frzs b o xs (I.base.frzs b o xs e),fun b ps e=>?_⟩,?_,fun x c e=>?_,?_,fun x c e=>?_,fun p hp=>?_,hok,I.len⟩
 ·exact keep b o (neL b o e) hb (neC b o e hx) (I.base.keep b o e n hb hx) (I.base.free b o e n hx)
 ·obtain ⟨sl,e1⟩:=I.base.slot b o e n hb hx
  obtain ⟨sl',e2⟩:=slot b _ (neL b o e) hb (neC b o e hx) e1 (I.base.free b o e n hx)
  exact ⟨sl',e2⟩
 ·obtain ⟨o',e1⟩:=I.base.there b o e hx
  exact free b o' (neC b o e hx) e1 (I.base.free b o e n hx)
 ·obtain ⟨o',e1⟩:=I.base.there b o e hx
  exact there b o' (neC b o e hx) e1
 ·obtain ⟨m1,e1⟩:=I.base.tbls b ps e
  obtain ⟨m2,e2⟩:=tbls b _ e1
  exact ⟨m1++m2,by rw [e2,Array.append_assoc]⟩
 ·obtain ⟨m,hn,hl⟩:=I.loc
  refine ⟨m,ns m hn,fun i x v e1 e2 e3=>?_⟩
  obtain ⟨u,r,l⟩:=hl i x v e1 e2 e3
  refine ⟨u,r,?_⟩
  rcases l with l | ⟨k,c,e,z⟩
  ·exact .inl l
  ·exact .inr ⟨k,c,e,cellK x c e _ z⟩
 ·obtain ⟨v,z⟩:=I.cell x c e
  exact ⟨v,cellK x c e v z⟩
 ·obtain ⟨m,⟨o,_,_,ho,_⟩,_⟩:=I.loc
  exact free _ o (fun z=>(hch _ z).2.1 rfl) ho I.free
 ·obtain ⟨v,o,ho,hd⟩:=I.cell x c e
  exact free c o (fun z=>(hch c z).2.2.1 x c e rfl) ho (I.freeC x c e)
 ·obtain ⟨e,n,ne,nf,d⟩:=I.pin p hp
  have nch:p.1 ∉ ch:=fun z=>(hch p.1 z).2.2.2 p hp rfl
  exact ⟨keep p.1 p.2 ne nf nch e n,free p.1 p.2 nch e n,ne,nf,d⟩
theorem Inv.un {t':Nat} (I:Inv X pins σ H s) (u:Un X.fs [] H H' s.heap h') (hok:HOk X.prog X.w H' h'):Inv X pins σ H' { s with heap:=h',toks:=t' }:=by
 obtain ⟨m,⟨o,es,ep,ho,r⟩,_⟩:=id I.loc
 obtain ⟨sl,hL⟩:=u.any ho I.free (by simp)
 exact I.step (g':=s.gens) (d':=s.drawn) (ch:=[]) (fun _ z=>nomatch z) (fun b o _ hb _ e n=>u.keep b o e n hb (by simp)) (fun b o _ hb _ e n=>u.slot b o e n hb (by simp)) (fun b o _ e n=>u.free b o e n (by simp)) (fun b o _ e=>u.there b o e (by simp)) u.tups u.frzs u.tbls (fun m' hm=>by
  obtain ⟨o',es',ep',ho',r'⟩:=hm
  rw [ho] at ho'; cases ho'
  exact ⟨_,es',ep',hL,r'⟩) hok I.bare
theorem Inv.call {g':Array GenState} {t':Nat} {d':Drawn} {ch:List Addr} (I:Inv X pins σ H s) (u:Un (frs X.stack) ch H H' s.heap h') (hok:HOk X.prog X.w H' h') (hg:AllBare g')
  (hch:∀ b∈ch,(b∈X.ex\/X.s₀.heap.objs.size<=b)/\b≠X.env.locals/\(∀ x c,X.env.cells.lookup x=some c->c≠b)/\∀ p∈X.pn++pins,p.1≠b) :
  Inv X pins σ H' { s with heap:=h',gens:=g',drawn:=d',toks:=t' }:=by
 obtain ⟨m,⟨o,es,ep,ho,r⟩,_⟩:=id I.loc
 obtain ⟨sl,hL⟩:=u.any ho I.free fun z=>(hch _ z).2.1 rfl
 exact I.step (ch:=ch) hch (fun b o hL hb hc e n=>u.keep b o e n (fun z=>(List.mem_cons.mp (I.stkSub b z)).elim hL hb) hc) (fun b o _ _ hc e n=>u.any e n hc) (fun b o hc e n=>u.free b o e n hc) (fun b o hc e=>u.there b o e hc) u.tups u.frzs u.tbls (fun m' hm=>by
  obtain ⟨o',es',ep',ho',r'⟩:=hm
  rw [ho] at ho'; cases ho'
  exact ⟨_,es',ep',hL,r'⟩) hok hg
theorem Inv.turned {t':Nat} {it:Addr} (I:Inv X pins σ H s) (k:∀ b o,b≠it->s.heap.get? b=some o->h'.get? b=some o) (hn:H it=none) (hL:it≠X.env.locals)
  (h1:it∈X.ex\/X.s₀.heap.objs.size<=it) (h2:∀ x c,X.env.cells.lookup x=some c->c≠it) (h3:∀ p∈X.pn++pins,p.1≠it):Inv X pins σ H { s with heap:=h',toks:=t' }:=by
 have nit:∀ b u,H b=some u->b≠it:=fun b u e z=>by rw [z,hn] at e; cases e
 refine I.step (g':=s.gens) (d':=s.drawn) (ch:=[it]) (fun b hb=>?_) (fun b o _ _ hc e _=>k b o (fun z=>hc (by simp [z])) e) (fun b o _ _ hc e _=>⟨o.slots,k b o (fun z=>hc (by simp [z])) e⟩) (fun _ _ _ _ n=>n)
  (fun b o hc e=>⟨o,k b o (fun z=>hc (by simp [z])) e⟩) (fun _ _ e=>e) (fun _ _ _ e=>e) (fun b ps e=>⟨#[],by rw [e]; simp⟩) (fun m hm=>?_) (fun b u e=>?_) I.bare
 ·have e:b=it:=by simpa using hb
  subst e
  exact ⟨h1,hL,h2,h3⟩
 ·obtain ⟨o,es,ep,ho,r⟩:=hm
  exact ⟨o,es,ep,k _ o (Ne.symm hL) ho,r⟩
 ·refine (I.hok b u e).stay (fun c v hc q=>k c v ?_ q) (fun _ q=>q) fun _ _ q=>q
  rcases hc with z | z
  ·rw [z]; exact nit b u e
  ·exact nit c _ z
theorem Inv.tok (I:Inv X pins σ H s) (t:Nat):Inv X pins σ H { s with toks:=t }:=I.un (h':=s.heap) (t':=t) Un.refl I.hok
theorem Inv.kept {t':Nat} (I:Inv X pins σ H s) (k:∀ b u,s.heap.get? b=some u->h'.get? b=some u):Inv X pins σ H { s with heap:=h',toks:=t' }:=I.un (Un.kept k) (I.hok.kept k)
theorem Inv.laid {a:Addr} {o:HO} {t':Nat} (I:Inv X pins σ H s) (k:∀ b u,s.heap.get? b=some u->h'.get? b=some u) (hp:s.heap.objs.size<=a) (new:ObjOk X.prog X.w (upd H a o) h' a o) :
  Inv X pins σ (upd H a o) { s with heap:=h',toks:=t' }:=I.un (Un.laid k hp (I.hok.fresh hp)) (I.hok.laid k hp new)
theorem Inv.write {x e:Addr} {o:HO} {t':Nat} (I:Inv X pins σ H s) (mu:Mut (H x)) (he:e=x\/H e=some (.own x)) (k:∀ b u,b≠e->s.heap.get? b=some u->h'.get? b=some u) (heo:∃ u,h'.get? e=some u)
  (new:ObjOk X.prog X.w (upd H x o) h' x o):Inv X pins σ (upd H x o) { s with heap:=h',toks:=t' }:=I.un (Un.write mu he k heo) (I.hok.write mu he k heo new)
theorem Inv.pins_of {pins':List (Addr × Obj)} (I:Inv X pins σ H s) (h:∀ p∈pins',s.heap.get? p.1=some p.2/\H p.1=none/\p.1≠X.env.locals/\p.1 ∉ X.fs/\∀ v,p.2.data ≠ .cell v):Inv X pins' σ H s:=
 ⟨I.ok,I.os,I.bare,I.base,I.loc,I.cell,I.free,I.freeC,fun p hp=>(List.mem_append.mp hp).elim (fun z=>I.pin p (List.mem_append_left _ z)) (h p),I.hok,I.len⟩
theorem aUF {N:List Str} (hN:N.Nodup) {i j:Nat} {x:Str} (a:N[i]? = some x) (b:N[j]? = some x):i=j:=by
 obtain ⟨h1,e1⟩:=List.getElem?_eq_some_iff.mp a
 obtain ⟨h2,e2⟩:=List.getElem?_eq_some_iff.mp b
 exact (List.getElem_inj hN).mp (e1.trans e2.symm)
theorem aXI {M:Model} {A:Around} {E:Value->Shared->Prop} {i:Nat} {x:Str} {v:V} {u:Value} {Q:Unit->Shared->Prop} (I:Inv X pins σ H s) (hN:X.N.Nodup) (hi:X.N[i]? = some x) (hx:Loc X.env.scope x) (r:RelV v u)
  (h:∀ s',Inv X pins (σ.set i (some v)) H s'->(∃ a,Heap.SameBut a s.heap s'.heap/\(a=X.env.locals\/X.env.cells.lookup x=some a))->Q () s') (hf:X.fn x=true\/X.env.scope.names.lookup x=some .local:=by first | exact .inl rfl | exact .inr rfl | assumption):wpAny M A (storeName X.env x u) Q E s:=by
 obtain ⟨m,hn,hl⟩:=id I.loc
 have hcls:(X.env.scope.kind == .class || (X.env.scope.kind == .module && X.env.locals != X.env.globals))=false:=by rw [I.ok.kind]; rfl
 have hiσ:i < σ.length:=by rw [I.len]; exact (List.getElem?_eq_some_iff.mp hi).1
 have cne:=I.cne
 have tracked:∀ {a:Addr} {h':Heap},(∃ o,s.heap.get? a=some o/\H a=none)->Heap.SameBut a s.heap h'->HOk X.prog X.w H h':=fun {a h'} ha hs b ob e=>by
  obtain ⟨_,_,hfree⟩:=ha
  refine (I.hok b ob e).stay (fun c w' hc q=>(hs.2 c ?_).trans q) (fun _ q=>q) fun _ _ q=>q
  rintro rfl
  rcases hc with rfl | hc
  ·rw [hfree] at e; cases e
  ·rw [hfree] at hc; cases hc
 rcases hx with hk | hk
 ·refine wpAny_storeName_local hk hn (fun h' hn' hs=>?_) hcls
  obtain ⟨oL,_,_,hoL,_⟩:=id hn
  refine h _ ⟨I.ok,I.os,I.bare,⟨fun b o e n hb hx=>?_,fun b o e n hb hx=>?_,I.base.free,fun b o e hx=>?_,I.base.tups,I.base.frzs,I.base.tbls⟩,⟨_,hn',fun j y v' e1 e2 e3=>?_⟩,fun y c e=>?_,I.free,I.freeC,fun p hp=>?_,tracked ⟨oL,hoL,I.free⟩ hs,by simpa using I.len⟩ ⟨_,hs,.inl rfl⟩
  ·exact (hs.2 b (Nat.ne_of_lt (Nat.lt_of_lt_of_le (Heap.lt_size e) I.ok.above))).trans (I.base.keep b o e n hb hx)
  ·obtain ⟨sl,e1⟩:=I.base.slot b o e n hb hx
   exact ⟨sl,(hs.2 b (Nat.ne_of_lt (Nat.lt_of_lt_of_le (Heap.lt_size e) I.ok.above))).trans e1⟩
  ·obtain ⟨o',e1⟩:=I.base.there b o e hx
   exact ⟨o',(hs.2 b (Nat.ne_of_lt (Nat.lt_of_lt_of_le (Heap.lt_size e) I.ok.above))).trans e1⟩
  ·by_cases hj:j=i
   ·subst hj
    rw [hi] at e1; cases e1
    rw [List.getElem?_set_self hiσ] at e2
    cases e2
    exact ⟨u,r,.inl ⟨hk,by simp⟩⟩
   ·rw [List.getElem?_set_ne (Ne.symm hj)] at e2
    obtain ⟨u',r',q⟩:=hl j y v' e1 e2 e3
    refine ⟨u',r',?_⟩
    rcases q with ⟨k,e⟩ | ⟨k,c,e,z⟩
    ·refine .inl ⟨k,?_⟩
     have:y≠x:=fun e=>hj (aUF hN e1 (e ▸ hi))
     simp [this,e]
    ·exact .inr ⟨k,c,e,z.sameBut hs (cne y c e)⟩
  ·obtain ⟨w',z⟩:=I.cell y c e
   exact ⟨w',z.sameBut hs (cne y c e)⟩
  ·obtain ⟨e,n,ne,nf,d⟩:=I.pin p hp
   exact ⟨(hs.2 p.1 ne).trans e,n,ne,nf,d⟩
 ·have hfn:X.fn x=true:=by
   rcases hf with z | z
   ·exact z
   ·rw [z] at hk; cases hk
  obtain ⟨c,hc⟩:=I.ok.has x (.inl hk)
  obtain ⟨w',z⟩:=I.cell x c hc
  refine wpAny_storeName_cell I.ok.kind hk hc z (fun h' hc' hs=>?_)
  obtain ⟨oc,hoc,hocd⟩:=id z
  refine h { s with heap:=h' } ⟨I.ok,I.os,I.bare,⟨fun b o e n hb hx=>?_,fun b o e n hb hx=>?_,I.base.free,fun b o e hx=>?_,I.base.tups,I.base.frzs,I.base.tbls⟩,⟨m,hn.sameBut hs (Ne.symm (cne x c hc)),fun j y v' e1 e2 e3=>?_⟩,fun y c' e=>?_,I.free,I.freeC,fun p hp=>?_,tracked ⟨oc,hoc,I.freeC x c hc⟩ hs,by simpa using I.len⟩ ⟨c,hs,.inr hc⟩
  ·exact (hs.2 b (Nat.ne_of_lt (Nat.lt_of_lt_of_le (Heap.lt_size e) (I.ok.cab x c hfn hc)))).trans (I.base.keep b o e n hb hx)
  ·obtain ⟨sl,e1⟩:=I.base.slot b o e n hb hx
   exact ⟨sl,(hs.2 b (Nat.ne_of_lt (Nat.lt_of_lt_of_le (Heap.lt_size e) (I.ok.cab x c hfn hc)))).trans e1⟩
  ·obtain ⟨o',e1⟩:=I.base.there b o e hx
   exact ⟨o',(hs.2 b (Nat.ne_of_lt (Nat.lt_of_lt_of_le (Heap.lt_size e) (I.ok.cab x c hfn hc)))).trans e1⟩
  ·by_cases hj:j=i
   ·subst hj
    rw [hi] at e1; cases e1
    rw [List.getElem?_set_self hiσ] at e2
    cases e2
    exact ⟨u,r,.inr ⟨.inl hk,c,hc,hc'⟩⟩
   ·rw [List.getElem?_set_ne (Ne.symm hj)] at e2
    obtain ⟨u',r',q⟩:=hl j y v' e1 e2 e3
    refine ⟨u',r',?_⟩
    rcases q with q | ⟨k,c',e,z'⟩
    ·exact .inl q
    ·refine .inr ⟨k,c',e,z'.sameBut hs ?_⟩
     rintro rfl
     exact hj (aUF hN e1 (I.ok.inj _ _ _ e hc ▸ hi))
  ·by_cases hcc:c' = c
   ·subst hcc; exact ⟨_,hc'⟩
   ·obtain ⟨w2,z2⟩:=I.cell y c' e
    exact ⟨w2,z2.sameBut hs hcc⟩
  ·obtain ⟨e,n,ne,nf,d⟩:=I.pin p hp
   refine ⟨(hs.2 p.1 ?_).trans e,n,ne,nf,d⟩
   intro q
   rw [q,hoc] at e
   have q':oc=p.2:=Option.some.inj e
   exact d w' (by rw [<- q']; exact hocd)
theorem aFB {M:Model} {A:Around} {E:Value->Shared->Prop} {i:Nat} {x:Str} {v:V} {u:Value} {Q:Unit->Shared->Prop} (I:Inv X pins σ H s) (hN:X.N.Nodup) (hi:X.N[i]? = some x) (hx:Loc X.env.scope x) (r:RelV v u)
  (h:∀ s',Inv X pins (σ.set i (some v)) H s'->Q () s') (hf:X.fn x=true\/X.env.scope.names.lookup x=some .local:=by first | exact .inl rfl | exact .inr rfl | assumption):wpAny M A (storeName X.env x u) Q E s:=
 aXI I hN hi hx r (fun s' I' _=>h s' I') hf
theorem Inv.call' {s':Shared} {ch:List Addr} (I:Inv X pins σ H s) (ho:s'.os=s.os) (u:Un (frs X.stack) ch H H' s.heap s'.heap) (hok:HOk X.prog X.w H' s'.heap) (hg:AllBare s'.gens)
  (hch:∀ b∈ch,(b∈X.ex\/X.s₀.heap.objs.size<=b)/\b≠X.env.locals/\(∀ x c,X.env.cells.lookup x=some c->c≠b)/\∀ p∈X.pn++pins,p.1≠b):Inv X pins σ H' s':=by
 obtain ⟨h',g',d',t',o'⟩:=s'
 have e:o' = s.os:=ho
 subst e
 exact I.call (g':=g') (t':=t') (d':=d') u hok hg hch
end
abbrev XK:=Value->Option Addr->Hp->Prop
abbrev St:=List (Option V)
abbrev VK:=V->Hp->Prop
abbrev TE:=St->Hp->VK->Prop
abbrev TT:=St->Hp->(Bool->Hp->Prop)->Prop
abbrev TA:=St->Hp->(List V->Hp->Prop)->Prop
structure aFS where
 nx:St->Hp->Prop
 rt:VK
 bk:St->Hp->Prop:=fun _ _=>False
 ct:St->Hp->Prop:=fun _ _=>False
abbrev TS:=aFS->St->Hp->Prop
def EP (X:Cx) (pins:List (Addr × Obj)) (σ:St) (Q:VK) (u:Value) (s':Shared):Prop:=∃ v H',Inv X pins σ H' s'/\RelV v u/\Q v H'
def TP (X:Cx) (pins:List (Addr × Obj)) (σ:St) (Q:Bool->Hp->Prop) (b:Bool) (s':Shared):Prop:=∃ H',Inv X pins σ H' s'/\Q b H'
def AP (X:Cx) (pins:List (Addr × Obj)) (σ:St) (Q:List V->Hp->Prop) (us:List Value) (s':Shared):Prop:=∃ vs H',Inv X pins σ H' s'/\Vals vs us/\Q vs H'
def SP (X:Cx) (pins:List (Addr × Obj)) (D:aFS) (f:Flow) (s':Shared):Prop:=
 match f with
 | .next=>∃ σ' H',Inv X pins σ' H' s'/\D.nx σ' H'
 | .brk=>∃ σ' H',Inv X pins σ' H' s'/\D.bk σ' H'
 | .cont=>∃ σ' H',Inv X pins σ' H' s'/\D.ct σ' H'
 | .ret u=>∃ v σ' H',Inv X pins σ' H' s'/\RelV v u/\D.rt v H'
def PE (X:Cx) (e:Expr) (t:TE):Prop:=
 ∀ (pins:List (Addr × Obj)) (s:Shared) (σ:St) (H:Hp) (Q:VK),Inv X pins σ H s->t σ H Q->wpAny (model X.prog X.w) X.A (eval e X.env) (EP X pins σ Q) X.xe s
def PT (X:Cx) (e:Expr) (t:TT):Prop:=
 ∀ (pins:List (Addr × Obj)) (s:Shared) (σ:St) (H:Hp) (Q:Bool->Hp->Prop),Inv X pins σ H s->t σ H Q->wpAny (model X.prog X.w) X.A (isTrue e X.env (eval e X.env)) (TP X pins σ Q) X.xe s
def PW (X:Cx) (e:Expr) (t:TT):Prop:=
 ∀ (whole:Sem Value) (pins:List (Addr × Obj)) (s:Shared) (σ:St) (H:Hp) (Q:Bool->Hp->Prop),Inv X pins σ H s->t σ H Q->wpAny (model X.prog X.w) X.A (isTrue e X.env whole) (TP X pins σ Q) X.xe s
def PA (X:Cx) (es:List Expr) (t:TA):Prop:=
 ∀ (pos:Pos) (pins:List (Addr × Obj)) (s:Shared) (σ:St) (H:Hp) (Q:List V->Hp->Prop),Inv X pins σ H s->t σ H Q->wpAny (model X.prog X.w) X.A (spliced (backTo pos (starEach es X.env))) (AP X pins σ Q) X.xe s
def PS (X:Cx) (st:Stmt) (t:TS):Prop:=
 ∀ (pins:List (Addr × Obj)) (s:Shared) (σ:St) (H:Hp) (D:aFS),Inv X pins σ H s->t D σ H->wpAny (model X.prog X.w) X.A (exec st X.env) (SP X pins D) X.xe s
def PSs (X:Cx) (st:List Stmt) (t:TS):Prop:=
 ∀ (pins:List (Addr × Obj)) (s:Shared) (σ:St) (H:Hp) (D:aFS),Inv X pins σ H s->t D σ H->wpAny (model X.prog X.w) X.A (execs st X.env) (SP X pins D) X.xe s
theorem thn {α:Type} {t:Sem α} {Q Q':α->Shared->Prop} {M:Model} {A:Around} {E:Value->Shared->Prop} {s:Shared} (h:wpAny M A t Q E s) (hQ:∀ a s,Q a s->Q' a s):wpAny M A t Q' E s:=wpAny_mono h hQ fun _ _ x=>x
section
variable {X:Cx}
theorem bin {a b:Expr} {ta tb:TE} (ha:PE X a ta) (hb:PE X b tb) {pins:List (Addr × Obj)} {s:Shared} {σ:St} {H:Hp} {R:V->V->Hp->Prop} (I:Inv X pins σ H s) (h:ta σ H fun x H1=>tb σ H1 fun y H2=>R x y H2)
  {α:Type} {Q:α->Shared->Prop} {f:Value->Value->Sem α}
  (hf:∀ v u s2 x y H2,Inv X pins σ H2 s2->RelV x v->RelV y u->R x y H2->wpAny (model X.prog X.w) X.A (f v u) Q X.xe s2) :
  wpAny (model X.prog X.w) X.A (eval a X.env) (fun v s₁=>wpAny (model X.prog X.w) X.A (eval b X.env) (fun u s₂=>wpAny (model X.prog X.w) X.A (f v u) Q X.xe s₂) X.xe s₁) X.xe s:=by
 refine thn (ha pins s σ H _ I h) fun v s1 ⟨x,H1,I1,r1,q1⟩=>?_
 refine thn (hb pins s1 σ H1 _ I1 q1) fun u s2 ⟨y,H2,I2,r2,q2⟩=>?_
 exact hf v u s2 x y H2 I2 r1 r2 q2
def eQY (i:Nat):TE:=fun σ H Q=>∃ v,σ[i]? = some (some v)/\Q v H
def tC (v:V):TE:=fun _ H Q=>Q v H
theorem eLQ {i:Nat} {x:Str} {pos:Pos} (hN:X.N[i]? = some x) (hv:Vis X.env.scope x) (hd:(x == ("__debug__" : Str))=false:=by decide) (hcd:(x == ("__classdict__" : Str))=false:=by decide):PE X (.Name x pos) (eQY i):=by
 intro pins s σ H Q I h
 obtain ⟨v,e,h⟩:=h
 obtain ⟨m,hn,hl⟩:=I.loc
 obtain ⟨u,r,l⟩:=hl i x v hN e hv
 have fin:EP X pins σ Q u s:=⟨v,H,I,r,h⟩
 rcases l with ⟨hk,hm⟩ | ⟨hk,c,hc,hcell⟩
 ·exact wpAny_Name (wpAny_loadName_local I.ok.kind hk hn hm fin) hd
 ·rcases hk with hk | hk
  ·exact wpAny_Name (wpAny_loadName_cell I.ok.kind hk hc hcell fin) hd
  ·exact wpAny_Name (wpAny_loadName_free I.ok.kind hk hc hcell fin hcd) hd
theorem eER {i j pos}:PE X (.Constant (.int i) j pos) (tC (.int i)):=fun _ _ _ H _ I h=>wpAny_Constant_int ⟨.int i,H,I.tok _,⟨_,rfl⟩,h⟩
theorem ePV {b j pos}:PE X (.Constant (.bool b) j pos) (tC (.bl b)):=fun _ _ _ H _ I h=>Constant_bool ⟨.bl b,H,I,rfl,h⟩
theorem aYP {x j pos}:PE X (.Constant (.str x) j pos) (tC (.str x)):=fun _ _ _ H _ I h=>Calls.Constant_str ⟨.str x,H,I.tok _,⟨_,rfl⟩,h⟩
def Gl (X:Cx) (x:Str):Prop:=X.env.kindOf x=some .globalImplicit
theorem aSD {E:Value->Shared->Prop} {pins:List (Addr × Obj)} {s:Shared} {σ:St} {H:Hp} {x:Str} {u:Value} {pos:Pos} {Q:Value->Shared->Prop} (I:Inv X pins σ H s) (hg:Gl X x) (hm:X.mg x=some u) (h:Q u s)
  (hd:(x == ("__debug__" : Str))=false:=by decide):wpAny (model X.prog X.w) X.A (eval (.Name x pos) X.env) Q E s:=
 Calls.Name_function_global I.ok.kind hg (Calls.loadGlobal_global (by rw [I.ok.glob]; exact I.mod.glob.keeps I.bk) hm h) hd
theorem aPW {E:Value->Shared->Prop} {pins:List (Addr × Obj)} {s:Shared} {σ:St} {H:Hp} {x:Str} {u:Value} {pos:Pos} {Q:Value->Shared->Prop} (I:Inv X pins σ H s) (hg:Gl X x) (hm:X.mg x=none) (hv:bootBuiltins x=some u) (h:Q u s)
  (hn:x ≠ "__name__" := by decide) (hd:(x == ("__debug__" : Str))=false:=by decide):wpAny (model X.prog X.w) X.A (eval (.Name x pos) X.env) Q E s:=by
 obtain ⟨mb,h1,h2⟩:=I.mod.blt
 exact Calls.Name_function_global I.ok.kind hg (Calls.loadGlobal_builtin (by rw [I.ok.glob]; exact I.mod.glob.keeps I.bk) hm (by rw [I.ok.blt]; exact h1.keeps I.bk) ((h2 x hn).trans hv) h) hd
theorem aRU {x:Str} {v:V} {u:Value} {pos:Pos} (hg:Gl X x) (hm:X.mg x=some u) (r:RelV v u) (hd:(x == ("__debug__" : Str))=false:=by decide):PE X (.Name x pos) (tC v):=
 fun _ _ _ H _ I h=>aSD I hg hm ⟨v,H,I,r,h⟩ hd
theorem aYQ {x:Str} {v:V} {u:Value} {pos:Pos} (hg:Gl X x) (hm:X.mg x=none) (hv:bootBuiltins x=some u) (r:RelV v u) (hn:x ≠ "__name__" := by decide) (hd:(x == ("__debug__" : Str))=false:=by decide):PE X (.Name x pos) (tC v):=
 fun _ _ _ H _ I h=>aPW I hg hm hv ⟨v,H,I,r,h⟩ hn hd
variable {a b:Expr} {ta tb:TE} {pos:Pos}
def PC (X:Cx) (op:CmpOp) (a b:Expr) (t:TE):Prop:=
 ∀ (pins:List (Addr × Obj)) (s:Shared) (σ:St) (H:Hp) (Q:VK),Inv X pins σ H s->t σ H Q ->
  wpAny (model X.prog X.w) X.A (eval a X.env) (fun v s₁=>wpAny (model X.prog X.w) X.A (eval b X.env) (fun u s₂=>wpAny (model X.prog X.w) X.A (compareOp op v u) (EP X pins σ Q) X.xe s₂) X.xe s₁) X.xe s
theorem qY (b:Expr) {op:CmpOp} (h:op ≠ .In) (h2:op ≠ .NotIn):behindInMarks op b=false:=by
 have e1:(op == CmpOp.In)=false:=by cases op <;> first | rfl | exact absurd rfl h
 have e2:(op == CmpOp.NotIn)=false:=by cases op <;> first | rfl | exact absurd rfl h2
 cases b <;> simp [behindInMarks,e1,e2]
def tB (t:TE):TT:=fun σ H Q=>t σ H fun x H1=>∃ c,x = .bl c/\Q c H1
theorem eRC {op:CmpOp} {t:TE} (h:PC X op a b t) (h1:behindInMarks op b=false:=by first | exact qY _ (by decide) (by decide) | rfl):PT X (.Compare a [op] [b] pos) (tB t):=by
 intro pins s σ H Q I hw
 refine wpAny_isTrue_Compare1 (thn (h pins s σ H _ I hw) fun v s1 h1=>thn h1 fun u s2 h2=>thn h2 fun c s3 ⟨x,H1,I1,r1,q1⟩=>?_) h1
 obtain ⟨d,rfl,q⟩:=q1
 cases r1
 exact wpAny_truthy_bool ⟨H1,I1,q⟩
theorem eLH {e:Expr} {t:TE} (h:PE X e t) (he:∀ whole,isTrue e X.env whole=(do let v <- whole; standAt e.pos; holding [v] (truthy v)):=by intro _; rfl):PT X e (tB t):=by
 intro pins s σ H Q I hw
 refine isTrue_plain (thn (h pins s σ H _ I hw) fun v s1 ⟨x,H1,I1,r1,q1⟩=>?_) (he _)
 obtain ⟨d,rfl,q⟩:=q1
 cases r1
 exact wpAny_truthy_bool ⟨H1,I1,q⟩
variable {tA tB':TT} {qU:List Expr}
def eSG (t u:TT):TT:=fun σ H Q=>t σ H fun c H1=>if c=true then u σ H1 Q else Q false H1
def tOr (t u:TT):TT:=fun σ H Q=>t σ H fun c H1=>if c=true then Q true H1 else u σ H1 Q
def eRY (t:TT):TT:=fun σ H Q=>t σ H fun c H1=>Q (!c) H1
theorem eHD (ha:PT X a tA):PW X (.BoolOp .And [a] pos) tA:=by
 intro wh pins s σ H Q I h
 refine isTrue_and (thn (ha pins s σ H Q I h) fun c s1 e=>?_)
 cases c with
 | true=>exact isTrue_and_nil e
 | false=>exact e
theorem eLE (ha:PT X a tA):PW X (.BoolOp .Or [a] pos) tA:=by
 intro wh pins s σ H Q I h
 refine isTrue_or (thn (ha pins s σ H Q I h) fun c s1 e=>?_)
 cases c with
 | false=>exact isTrue_or_nil e
 | true=>exact e
theorem eEI (ha:PT X a tA) (hb:PW X (.BoolOp .And (b :: qU) pos) tB'):PW X (.BoolOp .And (a :: b :: qU) pos) (eSG tA tB'):=by
 intro wh pins s σ H Q I h
 refine isTrue_and (thn (ha pins s σ H _ I h) fun c s1 ⟨H1,I1,q1⟩=>?_)
 cases c with
 | true=>exact hb wh pins s1 σ H1 Q I1 q1
 | false=>exact ⟨H1,I1,q1⟩
theorem eLF (ha:PT X a tA) (hb:PW X (.BoolOp .Or (b :: qU) pos) tB'):PW X (.BoolOp .Or (a :: b :: qU) pos) (tOr tA tB'):=by
 intro wh pins s σ H Q I h
 refine isTrue_or (thn (ha pins s σ H _ I h) fun c s1 ⟨H1,I1,q1⟩=>?_)
 cases c with
 | true=>exact ⟨H1,I1,q1⟩
 | false=>exact hb wh pins s1 σ H1 Q I1 q1
theorem eLI (ha:PT X a tA):PT X (.UnaryOp .Not a pos) (eRY tA):=by
 intro pins s σ H Q I h
 exact isTrue_not (ha pins s σ H (fun c H1=>Q (!c) H1) I h)
def ePN (ta tb:TE):TE:=fun σ H Q=>ta σ H fun x H1=>∃ c,x = .bl c/\if c=true then tb σ H1 Q else Q (.bl false) H1
def ePG (ta:TE):TE:=fun σ H Q=>ta σ H fun x H1=>∃ c,x = .bl c/\Q (.bl (!c)) H1
theorem eLS {op} {t:TE} (h:PE X a t):PE X (.BoolOp op [a] pos) t:=fun pins s σ H Q I hw=>BoolOp_one (h pins s σ H Q I hw)
theorem eES (ha:PE X a ta) (hb:PE X (.BoolOp .And (b :: qU) pos) tb):PE X (.BoolOp .And (a :: b :: qU) pos) (ePN ta tb):=by
 intro pins s σ H Q I h
 refine BoolOp_and (thn (ha pins s σ H _ I h) fun v s1 ⟨x,H1,I1,r1,q1⟩=>?_)
 obtain ⟨c,rfl,q1⟩:=q1
 cases r1
 refine wpAny_truthy_bool ?_
 cases c with
 | true=>exact hb pins s1 σ H1 Q I1 q1
 | false=>exact ⟨.bl false,H1,I1,rfl,q1⟩
theorem eLT (ha:PE X a ta):PE X (.UnaryOp .Not a pos) (ePG ta):=by
 intro pins s σ H Q I h
 refine UnaryOp_ (thn (ha pins s σ H _ I h) fun v s1 ⟨x,H1,I1,r1,q1⟩=>?_)
 obtain ⟨c,rfl,q1⟩:=q1
 cases r1
 exact not_of (wpAny_truthy_bool ⟨.bl (!c),H1,I1,rfl,q1⟩)
def tIf (t:TT) (ta tb:TE):TE:=fun σ H Q=>t σ H fun c H1=>if c=true then ta σ H1 Q else tb σ H1 Q
theorem aHN {c:Expr} (hc:PT X c tA) (ha:PE X a ta) (hb:PE X b tb):PE X (.IfExp c a b pos) (tIf tA ta tb):=by
 intro pins s σ H Q I h
 refine wpAny_IfExp (thn (hc pins s σ H _ I h) fun d s1 ⟨H1,I1,q1⟩=>?_)
 cases d with
 | true=>exact ha pins s1 σ H1 Q I1 q1
 | false=>exact hb pins s1 σ H1 Q I1 q1
end
def SqL (K:PySem.W.Frag) (H:Hp) (a:Addr) (xs:List V):Prop:=
 Rd H a (.lst xs) \/
  ∃ (o:Obj) (its:Array Value) (n:Nat),K.lookup a=some o/\o.cls = .type "list" /\ o.dict=none/\o.data = .seq its n/\its.size<=sizeLine/\Vals xs its.toList
def SqT (K:PySem.W.Frag) (H:Hp) (a:Addr) (xs:List V):Prop:=
 Rd H a (.tup xs) \/
  ∃ (o:Obj) (its:Array Value) (n:Nat),K.lookup a=some o/\o.cls = .type "tuple" /\ o.data = .seq its n/\its.size<=sizeLine/\Vals xs its.toList
def eSZ:Value->Option V
 | .none=>some .non
 | .bool b=>some (.bl b)
 | .int i _=>some (.int i)
 | .str x _=>some (.str x)
 | .bytes b _=>some (.byt b)
 | .float b _=>some (.flt b)
 | .ref a=>some (.ref a)
 | .type n=>some (.ty n)
 | _=>none
theorem RelV.abs {x:V} {u:Value} (r:RelV x u):eSZ u=some x:=by
 cases x with
 | non=>cases r; rfl
 | bl _=>cases r; rfl
 | int _=>obtain ⟨t,rfl⟩:=r; rfl
 | str _=>obtain ⟨t,rfl⟩:=r; rfl
 | byt _=>obtain ⟨t,rfl⟩:=r; rfl
 | flt _=>obtain ⟨t,rfl⟩:=r; rfl
 | ref _=>cases r; rfl
 | ty _=>cases r; rfl
theorem RelV.inj {x y:V} {u:Value} (r:RelV x u) (q:RelV y u):x=y:=Option.some.inj (r.abs.symm.trans q.abs)
theorem Vals.inj:∀ {xs ys:List V} {us:List Value},Vals xs us->Vals ys us->xs=ys
 | _,_,_,.nil,.nil=>rfl
 | _,_,_,.cons r t,.cons r' t'=>by rw [r.inj r',Vals.inj t t']
section
variable {X:Cx} {pins:List (Addr × Obj)} {σ:St} {H:Hp} {s:Shared} {a:Addr} {xs ys:List V}
theorem SqL.of {K:PySem.W.Frag} (h:H a=some (.lst xs)):SqL K H a xs:=.inl (.inl h)
theorem SqT.of {K:PySem.W.Frag} (h:H a=some (.tup xs)):SqT K H a xs:=.inl (.inl h)
theorem Inv.list (I:Inv X pins σ H s) (h:SqL X.K H a xs):∃ its:List Value,Vals xs its/\PlainL s.heap a its.toArray/\xs.length<=sizeLine:=by
 rcases h with h | ⟨o,its,n,hk,hc,hd,hs,hz,r⟩
 ·obtain ⟨z,its,n,r,e⟩:=h.ok I.hok
  exact ⟨its,r,⟨_,n,e,rfl,rfl,rfl⟩,z⟩
 ·refine ⟨its.toList,r,⟨o,n,I.kIn a o hk,hc,hd,by simpa using hs⟩,?_⟩
  have e:=r.length
  simp only [Array.length_toList] at e
  omega
theorem Inv.tuple (I:Inv X pins σ H s) (h:SqT X.K H a xs):∃ its:List Value,Vals xs its/\IsTup s.heap a its.toArray/\xs.length<=sizeLine:=by
 rcases h with h | ⟨o,its,n,hk,hc,hs,hz,r⟩
 ·obtain ⟨z,its,r,p⟩:=h.ok I.hok
  exact ⟨its,r,p,z⟩
 ·refine ⟨its.toList,r,⟨o,I.kIn a o hk,hc,n,by simpa using hs⟩,?_⟩
  have e:=r.length
  simp only [Array.length_toList] at e
  omega
theorem Inv.list_inj (I:Inv X pins σ H s) (h:SqL X.K H a xs) (h':SqL X.K H a ys):xs=ys:=by
 obtain ⟨its,r,⟨o,n,e,_,_,d⟩,_⟩:=I.list h
 obtain ⟨its',r',⟨o',n',e',_,_,d'⟩,_⟩:=I.list h'
 rw [e] at e'; cases e'
 rw [d] at d'
 injection d' with d1 _
 have:its=its':=by simpa using congrArg Array.toList d1
 subst this
 exact r.inj r'
theorem Inv.tuple_inj (I:Inv X pins σ H s) (h:SqT X.K H a xs) (h':SqT X.K H a ys):xs=ys:=by
 obtain ⟨its,r,⟨o,e,_,n,d⟩,_⟩:=I.tuple h
 obtain ⟨its',r',⟨o',e',_,n',d'⟩,_⟩:=I.tuple h'
 rw [e] at e'; cases e'
 rw [d] at d'
 injection d' with d1 _
 have:its=its':=by simpa using congrArg Array.toList d1
 subst this
 exact r.inj r'
end
abbrev Cx.wish (X:Cx) (E:Value->Shared->Prop):Cx:={ X with xe:=E }
abbrev Cx.nox (X:Cx):Cx:=X.wish fun _ _=>False
theorem Cx.Ok.wish {X:Cx} (ok:X.Ok) (E:Value->Shared->Prop):(X.wish E).Ok:=
 ⟨ok.mod,ok.kind,ok.glob,ok.blt,ok.above,ok.inj,ok.has,ok.cab,ok.hd,ok.frames,ok.stk,ok.exf,ok.bs,ok.bsz,ok.noex,ok.exfs,ok.funs,ok.frf⟩
theorem Cx.Ok.unwish {X:Cx} {E:Value->Shared->Prop} (ok:(X.wish E).Ok):X.Ok:=
 ⟨ok.mod,ok.kind,ok.glob,ok.blt,ok.above,ok.inj,ok.has,ok.cab,ok.hd,ok.frames,ok.stk,ok.exf,ok.bs,ok.bsz,ok.noex,ok.exfs,ok.funs,ok.frf⟩
section
variable {X:Cx} {pins:List (Addr × Obj)} {σ:St} {H:Hp} {s:Shared} {E:Value->Shared->Prop}
theorem Inv.wish (I:Inv X pins σ H s) (E:Value->Shared->Prop):Inv (X.wish E) pins σ H s:=⟨I.ok.wish E,I.os,I.bare,I.base,I.loc,I.cell,I.free,I.freeC,I.pin,I.hok,I.len⟩
theorem Inv.unwish (I:Inv (X.wish E) pins σ H s):Inv X pins σ H s:=⟨I.ok.unwish,I.os,I.bare,I.base,I.loc,I.cell,I.free,I.freeC,I.pin,I.hok,I.len⟩
theorem SP.unwish {D:aFS} {f:Flow} {s':Shared} (h:SP (X.wish E) pins D f s'):SP X pins D f s':=by
 cases f with
 | next=>obtain ⟨σ',H',I,q⟩:=h; exact ⟨σ',H',I.unwish,q⟩
 | brk=>obtain ⟨σ',H',I,q⟩:=h; exact ⟨σ',H',I.unwish,q⟩
 | cont=>obtain ⟨σ',H',I,q⟩:=h; exact ⟨σ',H',I.unwish,q⟩
 | ret u=>obtain ⟨v,σ',H',I,r,q⟩:=h; exact ⟨v,σ',H',I.unwish,r,q⟩
theorem PSs.nox {st:List Stmt} {t:TS} (h:PSs X.nox st t):PSs X st t:=fun pins s σ H D I hw=>
 wpAny_mono (h pins s σ H D (I.wish _) hw) (fun _ _ q=>q.unwish) fun _ _ z=>False.elim z
end
section
variable {X:Cx} {st:Stmt} {qU:List Stmt} {t u:TS} {e:Expr} {te:TE} {pos:Pos}
def ePH:TS:=fun D σ H=>D.nx σ H
def eRV (t u:TS):TS:=fun D σ H=>t { D with nx:=u D } σ H
theorem eHF:PSs X [] ePH:=fun _ _ σ H _ I h=>wpAny_execs_nil ⟨σ,H,I,h⟩
theorem vH (h1:PS X st t) (h2:PSs X qU u):PSs X (st :: qU) (eRV t u):=by
 intro pins s σ H D I h
 refine wpAny_execs_cons (thn (h1 pins s σ H { D with nx:=u D } I h) fun f s1 q=>?_)
 cases f with
 | next=>
  obtain ⟨σ',H',I',q⟩:=q
  exact h2 pins s1 σ' H' D I' q
 | ret v=>exact q
 | brk=>exact q
 | cont=>exact q
theorem aGA (h1:PS X st t):PSs X [st] t:=by
 intro pins s σ H D I h
 refine wpAny_execs_cons (thn (h1 pins s σ H D I h) fun f s1 q=>?_)
 cases f with
 | next=>exact wpAny_execs_nil q
 | ret v=>exact q
 | brk=>exact q
 | cont=>exact q
theorem Inv.quiet {pins:List (Addr × Obj)} {σ:St} {H:Hp} {s:Shared} (I:Inv X pins σ H s):interactive X.env=false:=by simp [interactive,I.ok.kind]
def ePJ (te:TE):TS:=fun D σ H=>te σ H fun _ H1=>D.nx σ H1
theorem aEP (he:PE X e te) (hs:swapsWith e none pos.line X.env=pure false:=by rfl):PS X (.Expr e pos) (ePJ te):=by
 intro pins s σ H D I h
 exact wpAny_Expr_any (thn (he pins s σ H _ I h) fun v s1 ⟨x,H1,I1,r1,q1⟩=>⟨σ,H1,I1,q1⟩) I.quiet hs
def eRW (te:TE):TS:=fun D σ H=>te σ H D.rt
theorem aPC (he:PE X e te):PS X (.Return (some e) pos) (eRW te):=by
 intro pins s σ H D I h
 exact wpAny_Return_some (thn (he pins s σ H _ I h) fun v s1 ⟨x,H1,I1,r1,q1⟩=>⟨x,σ,H1,I1,r1,q1⟩)
def ePE:TS:=fun D _ H=>D.rt .non H
theorem eHG:PS X (.Return none pos) ePE:=fun _ _ σ H _ I h=>wpAny_Return_none ⟨.non,σ,H,I,rfl,h⟩
def eSB (c:TT) (t u:TS):TS:=fun D σ H=>c σ H fun b H1=>if b=true then t D σ H1 else u D σ H1
theorem aPD {c:Expr} {a b:List Stmt} {tc:TT} (hc:PT X c tc) (ha:PSs X a t) (hb:PSs X b u):PS X (.If c a b pos) (eSB tc t u):=by
 intro pins s σ H D I h
 refine wpAny_If (thn (hc pins s σ H _ I h) fun d s1 ⟨H1,I1,q1⟩=>?_)
 cases d with
 | true=>exact ha pins s1 σ H1 D I1 q1
 | false=>exact hb pins s1 σ H1 D I1 q1
end
abbrev TG:=V->St->Hp->(St->Hp->Prop)->Prop
abbrev TGs:=List V->St->Hp->(St->Hp->Prop)->Prop
def PG (X:Cx) (target:Expr) (t:TG):Prop:=
 ∀ (pins:List (Addr × Obj)) (s:Shared) (σ:St) (H:Hp) (v:V) (u:Value) (Q:St->Hp->Prop),Inv X pins σ H s->RelV v u->t v σ H Q ->
  wpAny (model X.prog X.w) X.A (assign target X.env u) (fun _ s'=>∃ σ' H',Inv X pins σ' H' s'/\Q σ' H') X.xe s
def PGs (X:Cx) (ts:List Expr) (t:TGs):Prop:=
 ∀ (pins:List (Addr × Obj)) (s:Shared) (σ:St) (H:Hp) (vs:List V) (us:List Value) (Q:St->Hp->Prop),Inv X pins σ H s->Vals vs us->t vs σ H Q ->
  wpAny (model X.prog X.w) X.A (assignInOrder ((assignEach ts X.env).map (·.2)) us) (fun _ s'=>∃ σ' H',Inv X pins σ' H' s'/\Q σ' H') X.xe s
abbrev eJW:=V->V->V->Hp->(Hp->Prop)->Prop
def eOW (X:Cx) (t:eJW):Prop:=
 ∀ (pins:List (Addr × Obj)) (s:Shared) (σ:St) (H:Hp) (o i v:V) (ov iv u:Value) (Q:Hp->Prop),Inv X pins σ H s->RelV o ov->RelV i iv->RelV v u->t o i v H Q ->
  wpAny (model X.prog X.w) X.A (setItem ov iv u) (fun _ s'=>∃ H',Inv X pins σ H' s'/\Q H') X.xe s
abbrev TIp:=V->V->Hp->VK->Prop
def PIp (X:Cx) (op:Operator) (t:TIp):Prop:=
 ∀ (pins:List (Addr × Obj)) (s:Shared) (σ:St) (H:Hp) (x y:V) (v u:Value) (Q:VK),Inv X pins σ H s->RelV x v->RelV y u->t x y H Q ->
  wpAny (model X.prog X.w) X.A (inplaceOp op v u) (EP X pins σ Q) X.xe s
section
variable {X:Cx} {pos:Pos}
def eNF (i:Nat):TG:=fun v σ H Q=>Q (σ.set i (some v)) H
theorem aMV {i:Nat} {x:Str} (hN:X.N.Nodup) (hi:X.N[i]? = some x) (hx:Loc X.env.scope x) (hf:X.fn x=true\/X.env.scope.names.lookup x=some .local:=by first | exact .inl rfl | exact .inr rfl | assumption):PG X (.Name x pos) (eNF i):=by
 intro pins s σ H v u Q I r h
 exact wpAny_assign_Name (aFB I hN hi hx r (fun s' I'=>⟨_,H,I',h⟩) hf)
def eSW:TGs:=fun vs σ H Q=>vs=[]/\Q σ H
def eQK (t:TG) (u:TGs):TGs:=fun vs σ H Q=>∃ v r,vs=v :: r/\t v σ H fun σ' H'=>u r σ' H' Q
theorem aYO:PGs X [] eSW:=by
 intro pins s σ H vs us Q I r h
 obtain ⟨e,h⟩:=h
 subst e
 cases r
 exact assignInOrder_nil ⟨σ,H,I,h⟩
theorem aMU {e:Expr} {es:List Expr} {t:TG} {u:TGs} (h1:PG X e t) (h2:PGs X es u)
  (hs:(assignEach (e :: es) X.env).map (·.2)=assign e X.env :: (assignEach es X.env).map (·.2):=by rfl):PGs X (e :: es) (eQK t u):=by
 intro pins s σ H vs us Q I r h
 obtain ⟨v,vr,e1,h⟩:=h
 subst e1
 cases r with
 | cons r rr=>
  rw [hs]
  refine assignInOrder_cons (thn (h1 pins s σ H _ _ _ I r h) fun _ s1 ⟨σ1,H1,I1,q1⟩=>?_)
  exact h2 pins s1 σ1 H1 _ _ Q I1 rr q1
def eSU (K:PySem.W.Frag) (n:Nat) (t:TGs):TG:=fun v σ H Q=>∃ a xs,v = .ref a/\SqT K H a xs/\xs.length=n/\t xs σ H Q
theorem eEO {es:List Expr} {k:Nat} {t:TGs} {n:Nat} (hc:X.calm=true) (h:PGs X es t)
  (hn:(assignEach es X.env).length=n:=by rfl) (hst:(assignEach es X.env).findIdx? (·.1)=none:=by rfl):PG X (.Tuple es k pos) (eSU X.K n t):=by
 intro pins s σ H v u Q I r hw
 obtain ⟨a,xs,e1,hq,hl,hw⟩:=hw
 subst e1
 cases r
 obtain ⟨its,rv,ht,hz⟩:=I.tuple hq
 refine assign_Tuple_tuple (I.ok.hd hc) ht (by simp [hn,<- hl,rv.length]) hst fun h' hx=>?_
 have I1:Inv X pins σ H { s with heap:=h' }:=I.kept (t':=s.toks) fun b o e=>hx b o (Nat.ne_of_lt (Heap.lt_size e)) e
 exact h pins _ σ H xs _ Q I1 (by simpa using rv) hw
def eSV (to ti:TE) (t:eJW):TG:=fun v σ H Q=>to σ H fun o H1=>ti σ H1 fun i H2=>t o i v H2 fun H3=>Q σ H3
theorem eEP {o i:Expr} {to ti:TE} {t:eJW} (ho:PE X o to) (hi:PE X i ti) (hs:eOW X t)
  (ha:∀ v,assign (.Subscript o i pos) X.env v=(do
   let ov <- holding [v] (eval o X.env)
   let iv <- holding [v,ov] (eval i X.env)
   standAt pos
   holding [v,ov,iv] (setItem ov iv v)
   release [v,ov,iv] []):=by intro _; rfl):PG X (.Subscript o i pos) (eSV to ti t):=by
 intro pins s σ H v u Q I r h
 rw [ha]
 refine wpAny_bind (wpAny_holding (thn (ho pins s σ H _ I h) fun ov s1 ⟨x,H1,I1,r1,q1⟩=>?_))
 refine wpAny_bind (wpAny_holding (thn (hi pins s1 σ H1 _ I1 q1) fun iv s2 ⟨y,H2,I2,r2,q2⟩=>?_))
 refine wpAny_bind (wpAny_standAt (wpAny_bind (wpAny_holding (thn (hs pins s2 σ H2 x y v ov iv u _ I2 r1 r2 r q2) fun _ s3 ⟨H3,I3,q3⟩=>?_))))
 exact wpAny_release ⟨σ,H3,I3,q3⟩
def eQZ (te:TE) (g:TG):TS:=fun D σ H=>te σ H fun x H1=>g x σ H1 D.nx
theorem eEK {tg e:Expr} {te:TE} {g:TG} (he:PE X e te) (hg:PG X tg g) (hs:swapsWithSole [tg] e pos.line X.env=pure false:=by rfl) (hw:swappedStores [tg] e X.env=pure none:=by rfl)
  (h1:(assignEach [tg] X.env).map (·.2)=[assign tg X.env]:=by rfl):PS X (.Assign [tg] e pos) (eQZ te g):=by
 intro pins s σ H D I h
 refine wpAny_Assign_stores (thn (he pins s σ H _ I h) fun v s1 ⟨x,H1,I1,r1,q1⟩=>?_) hs hw
 rw [h1]
 exact thn (hg pins s1 σ H1 x v _ I1 r1 q1) fun _ s2 q=>q
theorem aIM {i:Nat} {x:Str} {e:Expr} {te:TE} {pos':Pos} (hN:X.N.Nodup) (hi:X.N[i]? = some x) (hx:Loc X.env.scope x) (he:PE X e te) (hs:swapsWith e (some (.Name x pos')) pos.line X.env=pure false:=by rfl) (hf:X.fn x=true\/X.env.scope.names.lookup x=some .local:=by first | exact .inl rfl | exact .inr rfl | assumption) :
  PS X (.Assign [.Name x pos'] e pos) (eQZ te (eNF i)):=by
 intro pins s σ H D I h
 refine wpAny_Assign_Name (thn (he pins s σ H _ I h) fun v s1 ⟨y,H1,I1,r1,q1⟩=>?_) hs
 exact aFB I1 hN hi hx r1 (fun s2 I2=>⟨_,H1,I2,q1⟩) hf
def eRX (i j:Nat) (ta:TA):TS:=fun D σ H=>ta σ H fun vs H1=>∃ v w,vs=[v,w]/\D.nx ((σ.set i (some v)).set j (some w)) H1
theorem eLJ {i j:Nat} {x y:Str} {a b:Expr} {ta:TA} {px py pt:Pos} {kt k2 pt2} (hc:X.calm=true) (hN:X.N.Nodup) (hi:X.N[i]? = some x) (hj:X.N[j]? = some y) (hij:i≠j)
  (hx:X.env.scope.names.lookup x=some .local) (hy:X.env.scope.names.lookup y=some .local) (ha:PA X [a,b] ta)
  (hw:swappedStores [.Tuple [.Name x px,.Name y py] kt pt] (.Tuple [a,b] k2 pt2) X.env=pure (some [x,y]))
  (hs:swapsWithSole [.Tuple [.Name x px,.Name y py] kt pt] (.Tuple [a,b] k2 pt2) pos.line X.env=pure false:=by rfl) :
  PS X (.Assign [.Tuple [.Name x px,.Name y py] kt pt] (.Tuple [a,b] k2 pt2) pos) (eRX i j ta):=by
 intro pins s σ H D I h
 rw [exec_Assign_arm]
 refine wpAny_bind (wpAny_standAt ?_)
 rw [hs]
 refine wpAny_bind (wpAny_pure ?_)
 rw [if_neg (by decide)]
 refine wpAny_bind (Tuple_ (thn (ha _ pins s σ H _ I h) fun us s1 ⟨vs,H1,I1,r1,q1⟩=>?_))
 obtain ⟨v,w,e1,q1⟩:=q1
 subst e1
 obtain ⟨u1,u2,rfl,rv,rw'⟩:∃ u1 u2,us=[u1,u2]/\RelV v u1/\RelV w u2:=by
  cases r1 with
  | cons p q=>
   cases q with
   | cons p' q'=>
    cases q'
    exact ⟨_,_,rfl,p,p'⟩
 refine wpAny_newObj_type ?_ (by show 2<=sizeLine; decide)
 have I2:Inv X pins σ H1 { s1 with heap:=s1.heap.push { cls:=.type "tuple",data:=.seq [u1,u2].toArray } }:=I1.kept (t':=s1.toks) fun b o e=>Heap.get?_push_of_some _ e
 rw [hw]
 refine wpAny_bind (wpAny_pure ?_)
 show wpAny (model X.prog X.w) X.A (do rule "assign.swapped-stores"; let items <- unpackItems (.ref s1.heap.objs.size) 2 none; assignInOrder [fun v=>bindName X.env y v,fun v=>bindName X.env x v] items.reverse; pure Flow.next) _ _ _
 refine wpAny_bind (wpAny_rule (wpAny_bind (unpackItems_tuple (items:=#[u1,u2]) (I.ok.hd hc) (IsTup.new s1.heap _) fun h' hx'=>?_)))
 have I3:=I2.kept (h':=h') (t':=s1.toks) fun b o e=>hx' b o (Nat.ne_of_lt (Heap.lt_size e)) e
 show wpAny _ _ (assignInOrder [fun v=>bindName X.env y v,fun v=>bindName X.env x v] [u2,u1] >>= fun _=>pure Flow.next) _ _ _
 refine wpAny_bind (assignInOrder_cons (wpAny_bindName (aFB I3 hN hj (.inl hy) rw' (fun s2 I4=>?_) (.inr hy))))
 refine assignInOrder_cons (wpAny_bindName (aFB I4 hN hi (.inl hx) rv (fun s3 I5=>assignInOrder_nil (wpAny_pure ?_)) (.inr hx)))
 rw [List.set_comm _ _ (Ne.symm hij)] at I5
 exact ⟨_,H1,I5,q1⟩
def eSF (i:Nat) (te:TE) (ti:TIp):TS:=fun D σ H=>∃ x,σ[i]? = some (some x)/\te σ H fun y H1=>ti x y H1 fun z H2=>D.nx (σ.set i (some z)) H2
theorem eLK {i:Nat} {x:Str} {e:Expr} {te:TE} {op:Operator} {ti:TIp} {pos':Pos} (hN:X.N.Nodup) (hi:X.N[i]? = some x) (hx:Loc X.env.scope x) (he:PE X e te) (ho:PIp X op ti) (hf:X.fn x=true\/X.env.scope.names.lookup x=some .local:=by first | exact .inl rfl | exact .inr rfl | assumption) :
  PS X (.AugAssign (.Name x pos') op e pos) (eSF i te ti):=by
 intro pins s σ H D I h
 obtain ⟨v,e1,h⟩:=h
 obtain ⟨m,hn,hl⟩:=I.loc
 have vis:Vis X.env.scope x:=by rcases hx with k | k; exact .inl k; exact .inr (.inl k)
 obtain ⟨u,r,l⟩:=hl i x v hi e1 vis
 refine wpAny_AugAssign_Name ?_
 have go:wpAny (model X.prog X.w) X.A (eval e X.env) (fun w s₂=>wpAny (model X.prog X.w) X.A (inplaceOp op u w) (fun r s₃=>wpAny (model X.prog X.w) X.A (storeName X.env x r) (fun _=>SP X pins D .next) X.xe s₃) X.xe s₂) X.xe s:=by
  refine thn (he pins s σ H _ I h) fun w s1 ⟨y,H1,I1,r1,q1⟩=>?_
  refine thn (ho pins s1 σ H1 v y u w _ I1 r r1 q1) fun z s2 ⟨zv,H2,I2,r2,q2⟩=>?_
  exact aFB I2 hN hi hx r2 (fun s3 I3=>⟨_,H2,I3,q2⟩) hf
 rcases l with ⟨hk,hm⟩ | ⟨hk,c,hc,hcell⟩
 ·exact wpAny_loadName_local I.ok.kind hk hn hm go
 ·rcases hk with hk | hk
  ·exact wpAny_loadName_cell I.ok.kind hk hc hcell go
  ·rcases hx with k | k
   ·have:X.env.scope.names.lookup x=some .free:=hk
    rw [k] at this; cases this
   ·have:X.env.scope.names.lookup x=some .free:=hk
    rw [k] at this; cases this
def ePM (to ti te:TE) (tget:V->V->Hp->VK->Prop) (tip:TIp) (tset:eJW):TS:=fun D σ H=>to σ H fun o H1=>ti σ H1 fun i H2=>tget o i H2 fun x H3=>te σ H3 fun y H4=>tip x y H4 fun z H5=>tset o i z H5 fun H6=>D.nx σ H6
def eRM (X:Cx) (t:V->V->Hp->VK->Prop):Prop:=
 ∀ (pins:List (Addr × Obj)) (s:Shared) (σ:St) (H:Hp) (o i:V) (ov iv:Value) (Q:VK),Inv X pins σ H s->RelV o ov->RelV i iv->t o i H Q ->
  wpAny (model X.prog X.w) X.A (getItem ov iv) (EP X pins σ Q) X.xe s
theorem eHH {o i e:Expr} {to ti te:TE} {tget:V->V->Hp->VK->Prop} {tip:TIp} {tset:eJW} {op:Operator} {tpos:Pos} (ho:PE X o to) (hi:PE X i ti) (hg:eRM X tget) (he:PE X e te) (hp:PIp X op tip) (hs:eOW X tset)
  (ha:∀ ov iv new,augStore i ov iv new=(do holding [new,ov,iv] (setItem ov iv new); release [new,ov,iv] []; pure .next):=by intros; rfl):PS X (.AugAssign (.Subscript o i tpos) op e pos) (ePM to ti te tget tip tset):=by
 intro pins s σ H D I h
 refine wpAny_AugAssign_SubscriptAny (thn (ho pins s σ H _ I h) fun ov s1 ⟨x1,H1,I1,r1,q1⟩=>?_) ha
 refine thn (hi pins s1 σ H1 _ I1 q1) fun iv s2 ⟨x2,H2,I2,r2,q2⟩=>?_
 refine thn (hg pins s2 σ H2 x1 x2 ov iv _ I2 r1 r2 q2) fun old s3 ⟨x3,H3,I3,r3,q3⟩=>?_
 refine thn (he pins s3 σ H3 _ I3 q3) fun v s4 ⟨x4,H4,I4,r4,q4⟩=>?_
 refine thn (hp pins s4 σ H4 x3 x4 old v _ I4 r3 r4 q4) fun new s5 ⟨x5,H5,I5,r5,q5⟩=>?_
 exact thn (hs pins s5 σ H5 x1 x2 x5 ov iv new _ I5 r1 r2 r5 q5) fun _ s6 ⟨H6,I6,q6⟩=>⟨σ,H6,I6,q6⟩
end
section
variable {X:Cx} {pos:Pos}
def eKH (c:TT) (tb:TS):TS:=fun D σ H=>∃ W:Nat->St->Hp->Prop,(∃ m,W m σ H)/\∀ m σ H,W m σ H ->
 c σ H fun b H1=>if b=true then ∃ N:St->Hp->Prop,(∀ σ' H',N σ' H'->∃ m',m' < m/\W m' σ' H')/\tb { D with nx:=N,ct:=N,bk:=D.nx } σ H1 else D.nx σ H1
theorem aTS {c:Expr} {body:List Stmt} {tc:TT} {tb:TS} (hp:PassesOwn (model X.prog X.w) X.A X.env X.xe) (hc:PT X c tc) (hb:PSs X body tb):PS X (.While c body [] pos) (eKH tc tb):=by
 intro pins s σ H D I h
 obtain ⟨W,⟨m0,w0⟩,turn⟩:=h
 refine wpAny_While (codeAny_whileLoop (fun n s'=>∃ σ' H',Inv X pins σ' H' s'/\W n σ' H') ?_ m0 ⟨σ,H,I,w0⟩)
 rintro n s1 ⟨σ1,H1,I1,w1⟩
 refine wpAny_passesOwn hp (thn (hc pins s1 σ1 H1 _ I1 (turn n σ1 H1 w1)) fun b s2 ⟨H2,I2,q2⟩=>?_)
 cases b with
 | true=>
  obtain ⟨N,hN,q2⟩:=q2
  rw [if_pos rfl]
  refine wpAny_passesOwn hp (thn (hb pins s2 σ1 H2 _ I2 q2) fun f s3 q3=>?_)
  cases f with
  | next=>
   obtain ⟨σ3,H3,I3,n3⟩:=q3
   obtain ⟨m',hm,w3⟩:=hN σ3 H3 n3
   exact ⟨m',hm,σ3,H3,I3,w3⟩
  | cont=>
   obtain ⟨σ3,H3,I3,n3⟩:=q3
   obtain ⟨m',hm,w3⟩:=hN σ3 H3 n3
   exact ⟨m',hm,σ3,H3,I3,w3⟩
  | brk=>exact q3
  | ret v=>exact q3
 | false=>
  rw [if_neg Bool.false_ne_true]
  exact wpAny_execs_nil ⟨σ1,H2,I2,q2⟩
end
structure It where
 go:Nat->Hp->Prop
 yld:Nat->Hp->V->Hp->Prop
 stop:Nat->Hp->Prop
 hot:Prop
def eQW (X:Cx):Prop:=∃ (ea:Addr) (oe:Obj) (u:HO) (vs:Array Value),X.A.handled=some (.ref ea)/\X.H₀ ea=some (.frz oe u)/\oe.data = .fields vs/\vs[2]? = some .none
def aVD (X:Cx) (pins:List (Addr × Obj)) (H:Hp) (b:Addr):Prop:=
 H b=none/\b≠X.env.locals/\b ∉ X.fs/\(b∈X.ex\/X.s₀.heap.objs.size<=b)/\(∀ x c,X.env.cells.lookup x=some c->c≠b)/\∀ p∈X.pn++pins,p.1≠b
theorem Inv.fpOk {X:Cx} {pins:List (Addr × Obj)} {σ:St} {H H':Hp} {s:Shared} {b:Addr} (I:Inv X pins σ H s) (hb:s.heap.objs.size<=b) (hn:H' b=none):aVD X pins H' b:=by
 refine ⟨hn,Nat.ne_of_gt (Nat.lt_of_lt_of_le I.lt hb),I.nofs hb,.inr (Nat.le_trans I.sz hb),fun x c e z=>?_,fun p hp z=>?_⟩
 ·obtain ⟨v,q⟩:=I.cell x c e
  exact absurd (Nat.lt_of_lt_of_le q.lt (by rw [z]; exact hb)) (Nat.lt_irrefl _)
 ·exact absurd (Nat.lt_of_lt_of_le (Heap.lt_size (I.pin p hp).1) (by rw [z]; exact hb)) (Nat.lt_irrefl _)
structure eDK (P:Program) (w:World) (K:PySem.W.Frag) (tg:Expr) (J:It) (fp:List Addr) (it:Addr) (tn:Nat->Heap->Prop):Prop where
 mem:it∈fp
 obj:∀ i h,tn i h->∀ b∈fp,∃ o,h.get? b=some o/\∀ v,o.data ≠ .cell v
 keep:∀ i h h',tn i h->(∀ b∈fp,∀ o,h.get? b=some o->h'.get? b=some o)->tn i h'
 item:∀ (X:Cx),X.prog=P->X.w=w->X.K=K->(X.calm=true\/(J.hot/\eQW X))->∀ (i:Nat) (pins:List (Addr × Obj)) (s:Shared) (σ:St) (H:Hp) (E:Value->Shared->Prop),Inv X pins σ H s->(∀ b∈fp,aVD X pins H b)->tn i s.heap->J.go i H ->
  wpAny (model P w) X.A (pyNext (.ref it)) (fun r s1=>∃ u,r=some u /\
   wpAny (model P w) X.A (letOwnedTupleGo tg (.ref it) u) (fun _ s2=>∃ x H',Inv X pins σ H' s2/\RelV x u/\J.yld i H x H'/\tn (i+1) s2.heap/\∀ b∈fp,H' b=none) E s1) E s
 done:∀ (X:Cx),X.prog=P->X.w=w->X.K=K->(X.calm=true\/(J.hot/\eQW X))->∀ (i:Nat) (pins:List (Addr × Obj)) (s:Shared) (σ:St) (H:Hp) (E:Value->Shared->Prop),Inv X pins σ H s->(∀ b∈fp,aVD X pins H b)->tn i s.heap->J.stop i H ->
  wpAny (model P w) X.A (pyNext (.ref it)) (fun r s1=>r=none/\Inv X pins σ H s1) E s
 self:∀ (A:Around) (i:Nat) (s:Shared) (Q:Value->Shared->Prop) (E:Value->Shared->Prop),tn i s.heap->Q (.ref it) s->wpAny (model P w) A (pyIter (.ref it)) Q E s
abbrev TI:=St->Hp->(It->Hp->Prop)->Prop
def PIE (X:Cx) (pins:List (Addr × Obj)) (σ:St) (tg:Expr) (R:It->Hp->Prop) (itv:Value) (s2:Shared):Prop:=
 ∃ (it:Addr) (fp:List Addr) (tn:Nat->Heap->Prop) (J:It) (H':Hp),itv = .ref it/\Inv X pins σ H' s2/\eDK X.prog X.w X.K tg J fp it tn/\tn 0 s2.heap/\(∀ b∈fp,aVD X pins H' b)/\R J H'
def PI (X:Cx) (tg iter:Expr) (wi:TI):Prop:=
 ∀ (pins:List (Addr × Obj)) (s:Shared) (σ:St) (H:Hp) (R:It->Hp->Prop),Inv X pins σ H s->wi σ H R ->
  wpAny (model X.prog X.w) X.A (eval iter X.env) (fun v s1=>wpAny (model X.prog X.w) X.A (pyIter v) (PIE X pins σ tg R) X.xe s1) X.xe s
theorem eCX {M:Model} {A:Around} {E:Value->Shared->Prop} {s:Shared} {tg:Expr} {it:Addr} {u:Value} {o:Obj} {n:String} {vs:Array Value} {Q:Unit->Shared->Prop} (ho:s.heap.get? it=some o) (hc:o.cls = .type n) (hd:o.data = .fields vs)
    (hn:["enumerate", "zip", "dict_itemiterator", "dict_reverseitemiterator", "odict_iterator", "itertools.zip_longest", "itertools.pairwise"].contains n=false) (hQ:Q () s):wpAny M A (letOwnedTupleGo tg (.ref it) u) Q E s:=by
  unfold letOwnedTupleGo
  cases tg <;> first
    | exact wpAny_pure hQ
    | (cases u <;> first
        | exact wpAny_pure hQ
        | (refine wpAny_bind (wpAny_load ho ?_)
           rw [hc,hd]
           show wpAny M A (if (["enumerate", "zip", "dict_itemiterator", "dict_reverseitemiterator", "odict_iterator", "itertools.zip_longest", "itertools.pairwise"].contains n && vs[0]? == some (rawInt _))=true then _ else _) Q E s
           rw [if_neg (by intro h; rw [hn,Bool.false_and] at h; cases h)]
           exact wpAny_pure hQ))
def Itl (K:PySem.W.Frag) (a:Addr):It:=
 ⟨fun i H=>∃ xs x,SqL K H a xs/\xs[i]? = some x,fun i H x H'=>H' = H/\∀ xs,SqL K H a xs->xs[i]? = some x,fun i H=>∃ xs,SqL K H a xs/\xs.length<=i,False⟩
def Itt (K:PySem.W.Frag) (a:Addr):It:=
 ⟨fun i H=>∃ xs x,SqT K H a xs/\xs[i]? = some x,fun i H x H'=>H' = H/\∀ xs,SqT K H a xs->xs[i]? = some x,fun i H=>∃ xs,SqT K H a xs/\xs.length<=i,False⟩
def Itr (lo:Int) (n:Nat):It:=⟨fun i _=>i < n,fun i H x H'=>H' = H/\x = .int (lo+i),fun i _=>n<=i,True⟩
theorem aWW {P:Program} {w:World} {K:PySem.W.Frag} {tg:Expr} (a it:Addr):eDK P w K tg (Itl K a) [it] it (fun i h=>h.IsListIter it a i) where
 mem:=by simp
 obj:=fun i h st b hb=>by
  have e:b=it:=by simpa using hb
  subst e
  obtain ⟨o,e,c,d⟩:=st
  exact ⟨o,e,fun v z=>by rw [d] at z; cases z⟩
 keep:=fun i h h' st k=>st.at fun o e=>k it (by simp) o e
 item:=by
  intro X hP hw hK hc i pins s σ H E I hf st hg
  subst hP hw hK
  replace hc:=hc.resolve_right fun z=>z.1
  obtain ⟨xs,x,hq,hx⟩:=hg
  obtain ⟨its,rv,p,hz⟩:=I.list hq
  obtain ⟨u,hu,ru⟩:=rv.get hx
  obtain ⟨f0,f1,f2,f3,f4,f5⟩:=hf it (by simp)
  refine wpAny_pyNext_list_item st p.isList (x:=u) (by simpa using hu) fun h' st' sb=>?_
  have I1:Inv X pins σ H { s with heap:=h' }:=I.turned (t':=s.toks) (fun b o hb e=>(sb.2 b hb).trans e) f0 f1 f3 f4 f5
  obtain ⟨o,e,c,d⟩:=id st'
  exact ⟨u,rfl,eCX (s:={ s with heap:=h' }) e c d (by decide) ⟨x,H,I1,ru,⟨rfl,fun ys hy=>by rw [I.list_inj hy hq]; exact hx⟩,st',fun b hb=>(hf b hb).1⟩⟩
 done:=by
  intro X hP hw hK hc i pins s σ H E I hf st hg
  subst hP hw hK
  replace hc:=hc.resolve_right fun z=>z.1
  obtain ⟨xs,hq,hx⟩:=hg
  obtain ⟨its,rv,p,hz⟩:=I.list hq
  obtain ⟨f0,f1,f2,f3,f4,f5⟩:=hf it (by simp)
  have hl:=rv.length
  exact wpAny_pyNext_list_end (I.ok.hd hc) st p.isList (by simp; omega) fun h' eb=>⟨rfl,I.turned (t':=s.toks) (fun b o hb e=>eb b o hb e) f0 f1 f3 f4 f5⟩
 self:=fun _ _ _ _ _ st h=>wpAny_pyIter_listiter st h
theorem aVE {P:Program} {w:World} {K:PySem.W.Frag} {tg:Expr} (a it:Addr):eDK P w K tg (Itt K a) [it] it (fun i h=>h.IsTupleIter it a i) where
 mem:=by simp
 obj:=fun i h st b hb=>by
  have e:b=it:=by simpa using hb
  subst e
  obtain ⟨o,e,c,d⟩:=st
  exact ⟨o,e,fun v z=>by rw [d] at z; cases z⟩
 keep:=fun i h h' st k=>st.at fun o e=>k it (by simp) o e
 item:=by
  intro X hP hw hK hc i pins s σ H E I hf st hg
  subst hP hw hK
  replace hc:=hc.resolve_right fun z=>z.1
  obtain ⟨xs,x,hq,hx⟩:=hg
  obtain ⟨its,rv,p,hz⟩:=I.tuple hq
  obtain ⟨u,hu,ru⟩:=rv.get hx
  obtain ⟨f0,f1,f2,f3,f4,f5⟩:=hf it (by simp)
  refine wpAny_pyNext_tuple_item st (show s.heap.IsTuple a its.toArray from p) (x:=u) (by simpa using hu) fun h' st' sb=>?_
  have I1:Inv X pins σ H { s with heap:=h' }:=I.turned (t':=s.toks) (fun b o hb e=>(sb.2 b hb).trans e) f0 f1 f3 f4 f5
  obtain ⟨o,e,c,d⟩:=id st'
  exact ⟨u,rfl,eCX (s:={ s with heap:=h' }) e c d (by decide) ⟨x,H,I1,ru,⟨rfl,fun ys hy=>by rw [I.tuple_inj hy hq]; exact hx⟩,st',fun b hb=>(hf b hb).1⟩⟩
 done:=by
  intro X hP hw hK hc i pins s σ H E I hf st hg
  subst hP hw hK
  replace hc:=hc.resolve_right fun z=>z.1
  obtain ⟨xs,hq,hx⟩:=hg
  obtain ⟨its,rv,p,hz⟩:=I.tuple hq
  obtain ⟨f0,f1,f2,f3,f4,f5⟩:=hf it (by simp)
  have hl:=rv.length
  exact wpAny_pyNext_tuple_end (I.ok.hd hc) st (show s.heap.IsTuple a its.toArray from p) (by simp; omega) fun h' eb=>⟨rfl,I.turned (t':=s.toks) (fun b o hb e=>eb b o hb e) f0 f1 f3 f4 f5⟩
 self:=fun _ _ _ _ _ st h=>wpAny_pyIter_tupleiter st h
theorem aNS:entryFor table "proto.unchain" = some Builtin.«proto.unchain»:=entryFor_of_tree (by kernel_rfl)
theorem aMO {prog:Program} {w:World} {A:Around} {E:Value->Shared->Prop} {s:Shared} {it ea:Addr} {x left step:Int} {oe:Obj} {vs:Array Value} {Q:Option Value->Shared->Prop} (hh:A.handled=some (.ref ea)) (he:s.heap.get? ea=some oe) (hd:oe.data = .fields vs) (h2:vs[2]? = some .none)
  (hit:IsRangeIter s.heap it x left step) (hleft:left<=0) (hQ:∀ h',Heap.ExtBut it s.heap h'->Q none { s with heap:=h' }):wpAny (model prog w) A (pyNext (.ref it)) Q E s:=by
 have hT:s.TypeIs (.ref it) "range_iterator" := ⟨_,hit,rfl⟩
 unfold pyNext
 refine wpAny_bind (wpAny_attempt (wpAny_callSpecial?_slot (name:=Str.ofString "__next__") hT F.slot_range_iterator_next (wpAny_call_entry F.slot_range_iterator_next hT F.entry_range_iterator_next ?_ (F.args_range_iterator_next_1 _))))
 show wpAny _ _ (field (.ref it) 0 >>= _) _ _ s
 refine wpAny_bind (wpAny_field hit rfl (x:=rawInt x) rfl ?_)
 show wpAny _ _ (field (.ref it) 1 >>= _) _ _ s
 refine wpAny_bind (wpAny_field hit rfl (x:=rawInt left) rfl ?_)
 show wpAny _ _ (field (.ref it) 2 >>= _) _ _ s
 refine wpAny_bind (wpAny_field hit rfl (x:=rawInt step) rfl ?_)
 show wpAny _ _ (if left<=0 then _ else _) _ _ s
 rw [if_pos hleft]
 refine wpAny_bind (wpAny_rule (wpAny_bind ?_))
 show wpAny _ _ (newExc (.type "StopIteration") [] >>= _) _ _ _
 refine wpAny_bind ?_
 simp only [newExc,newTuple]
 refine wpAny_bind (wpAny_newObj_type ?_ (by size_fits))
 refine wpAny_bind (m:=firstArgMember _ _) (wpAny_of_eq (a:=Value.none) (by first | rfl | (simp only [firstArgMember]; rfl)) ?_)
 refine wpAny_newObj_type ?_ (by size_fits)
 have hlt:ea < s.heap.objs.size:=Heap.lt_size he
 simp only [raiseNew]
 refine wpAny_bind (wpAny_handled ?_)
 rw [show A.in1.handled=some (.ref ea) from hh]
 dsimp only
 have ne:(Value.ref ea != Value.ref (s.heap.push { cls:=.type "tuple",data:=.seq ([]:List Value).toArray }).objs.size)=true:=by
  rw [Heap.size_push]
  have:ea≠s.heap.objs.size+1:=Nat.ne_of_lt (Nat.lt_succ_of_lt hlt)
  simp [this]
 rw [if_pos ne]
 have he':((s.heap.push { cls:=.type "tuple",data:=.seq ([]:List Value).toArray }).push { cls:=.type "StopIteration",data:=.fields (#[.ref s.heap.objs.size,.none,.none,.none,.bool false,Value.none]++ownMembersOf (.type "StopIteration") []) }).get? ea=some oe:=Heap.get?_push_of_some _ (Heap.get?_push_of_some _ he)
 refine wpAny_bind (wpAny_holding (wpAny_runValue (codeAny_builtin aNS ?_)))
 unfold Builtin.«proto.unchain»
 dsimp only
 refine wpAny_bind (wpAny_field he' hd h2 ?_)
 rw [if_pos (by decide)]
 refine wpAny_pure ?_
 dsimp only
 refine wpAny_bind ?_
 simp only [updateField]
 refine wpAny_bind (wpAny_load (Heap.get?_push_size _ rfl) ?_)
 dsimp only
 rw [if_pos (by rw [Array.size_append]; show 2 < 6+_; omega)]
 refine wpAny_update (Heap.get?_push_size _ rfl) ?_
 refine wpAny_throw ?_
 refine wpAny_bind (wpAny_isInstance (T := "StopIteration") (b:=true) ⟨_,Heap.get?_update_self _ (Heap.get?_push_size _ rfl) rfl,rfl⟩ isSubtype_stop ?_)
 refine wpAny_pure (hQ _ fun b o hb q=>?_)
 have hb2:b < s.heap.objs.size:=Heap.lt_size q
 rw [Heap.get?_update_other _ _ (by rw [Heap.size_push]; exact Nat.ne_of_gt (Nat.lt_succ_of_lt hb2))]
 exact Heap.get?_push_of_some _ (Heap.get?_push_of_some _ q)
theorem aVF {P:Program} {w:World} {K:PySem.W.Frag} {tg:Expr} (it:Addr) (lo:Int) (n:Nat):eDK P w K tg (Itr lo n) [it] it (fun i h=>IsRangeIter h it (lo+(i:Nat) * 1) ((n:Int) - (i:Nat)) 1) where
 mem:=by simp
 obj:=fun i h st b hb=>by
  have e:b=it:=by simpa using hb
  subst e
  exact ⟨_,st,fun v z=>by
   have z':Data.fields _=Data.cell v:=z
   cases z'⟩
 keep:=fun i h h' st k=>k it (by simp) _ st
 item:=by
  intro X hP hw hK hc i pins s σ H E I hf st hg
  subst hP hw hK
  obtain ⟨f0,f1,f2,f3,f4,f5⟩:=hf it (by simp)
  refine wpAny_pyNext_range_item st (by have:i < n:=hg; omega) fun h' st' sb=>?_
  have I1:Inv X pins σ H { s with heap:=h',toks:=s.toks+1 }:=I.turned (fun b o hb e=>(sb.2 b hb).trans e) f0 f1 f3 f4 f5
  have e1:lo+(i:Nat) * 1+1=lo+((i+1:Nat):Int) * 1:=by omega
  have e2:(n:Int) - (i:Nat) - 1=(n:Int) - ((i+1:Nat):Int):=by omega
  rw [e1,e2] at st'
  refine ⟨_,rfl,eCX (s:={ s with heap:=h',toks:=s.toks+1 }) (n := "range_iterator") st' rfl rfl (by decide) ⟨.int (lo+i),H,I1,⟨s.toks,?_⟩,⟨rfl,rfl⟩,st',fun b hb=>(hf b hb).1⟩⟩
  rw [Int.mul_one]
 done:=by
  intro X hP hw hK hc i pins s σ H E I hf st hg
  subst hP hw hK
  obtain ⟨f0,f1,f2,f3,f4,f5⟩:=hf it (by simp)
  rcases hc with hc | ⟨_,ea,oe,u,vs,k1,k2,k3,k4⟩
  rotate_left
  ·obtain ⟨ho,_⟩:=(show ObjOk X.prog X.w H s.heap ea (.frz oe u) from I.hok ea _ (I.base.frzs ea oe u k2))
   exact aMO k1 ho k3 k4 st (by have:n<=i:=hg; omega) fun h' eb=>⟨rfl,I.turned (t':=s.toks) (fun b o hb e=>eb b o hb e) f0 f1 f3 f4 f5⟩
  exact wpAny_pyNext_range_end (I.ok.hd hc) st (by have:n<=i:=hg; omega) fun h' eb=>⟨rfl,I.turned (t':=s.toks) (fun b o hb e=>eb b o hb e) f0 f1 f3 f4 f5⟩
 self:=fun _ _ _ _ _ st h=>wpAny_pyIter_rangeiter st h
section
variable {X:Cx} {tg:Expr}
def eQH (K:PySem.W.Frag) (tl:TE):TI:=fun σ H R=>tl σ H fun x H1=>∃ a,x = .ref a/\(∃ xs,SqL K H1 a xs)/\R (Itl K a) H1
def eSR (K:PySem.W.Frag) (tl:TE):TI:=fun σ H R=>tl σ H fun x H1=>∃ a,x = .ref a/\(∃ xs,SqT K H1 a xs)/\R (Itt K a) H1
theorem aYN {l:Expr} {tl:TE} (hl:PE X l tl):PI X tg l (eQH X.K tl):=by
 intro pins s σ H R I h
 refine thn (hl pins s σ H _ I h) fun v s1 ⟨x,H1,I1,r1,q1⟩=>?_
 obtain ⟨a,e,⟨xs,hq⟩,q⟩:=q1
 subst e
 cases r1
 obtain ⟨its,rv,p,hz⟩:=I1.list hq
 refine wpAny_pyIter_list p.isList ?_
 refine ⟨s1.heap.objs.size,[s1.heap.objs.size],_,_,H1,rfl,I1.kept (t':=s1.toks) fun b o e=>Heap.get?_push_of_some _ e,aWW a _,⟨_,Heap.get?_push_size _ rfl,rfl,rfl⟩,fun b hb=>?_,q⟩
 have e:b=s1.heap.objs.size:=by simpa using hb
 subst e
 exact I1.fpOk (Nat.le_refl _) (I1.hok.fresh (Nat.le_refl _))
theorem eLM {l:Expr} {tl:TE} (hl:PE X l tl):PI X tg l (eSR X.K tl):=by
 intro pins s σ H R I h
 refine thn (hl pins s σ H _ I h) fun v s1 ⟨x,H1,I1,r1,q1⟩=>?_
 obtain ⟨a,e,⟨xs,hq⟩,q⟩:=q1
 subst e
 cases r1
 obtain ⟨its,rv,p,hz⟩:=I1.tuple hq
 refine wpAny_pyIter_tuple (show s1.heap.IsTuple a its.toArray from p) ?_
 refine ⟨s1.heap.objs.size,[s1.heap.objs.size],_,_,H1,rfl,I1.kept (t':=s1.toks) fun b o e=>Heap.get?_push_of_some _ e,aVE a _,⟨_,Heap.get?_push_size _ rfl,rfl,rfl⟩,fun b hb=>?_,q⟩
 have e:b=s1.heap.objs.size:=by simpa using hb
 subst e
 exact I1.fpOk (Nat.le_refl _) (I1.hok.fresh (Nat.le_refl _))
theorem eCG {pins:List (Addr × Obj)} {σ:St} {H:Hp} {s:Shared} {R:It->Hp->Prop} {E:Value->Shared->Prop} {lo hi:Int} {t u v:Tok} {tk:Nat} (I:Inv X pins σ H s) (h1 : -(2 ^ 62)<=lo) (h2:lo < 2 ^ 62) (h3 : -(2 ^ 62)<=hi) (h4:hi < 2 ^ 62)
  (q:R (Itr lo (hi - lo).toNat) H):wpAny (model X.prog X.w) X.A (pyIter (.ref s.heap.objs.size)) (PIE X pins σ tg R) E { s with heap:=s.heap.push { cls:=.type "range",data:=.fields #[.int lo t,.int hi u,.int 1 v] },toks:=tk }:=by
 refine wpAny_pyIter_range (IsRange.new ..) (small_one h1 h2 h3 h4) ?_
 have I1:Inv X pins σ H { s with heap:=s.heap.push { cls:=.type "range",data:=.fields #[.int lo t,.int hi u,.int 1 v] },toks:=tk }:=I.kept fun b o e=>Heap.get?_push_of_some _ e
 refine ⟨(s.heap.push { cls:=.type "range",data:=.fields #[.int lo t,.int hi u,.int 1 v] }).objs.size,[(s.heap.push { cls:=.type "range",data:=.fields #[.int lo t,.int hi u,.int 1 v] }).objs.size],_,_,H,rfl,
  I1.kept (t':=tk) fun b o e=>Heap.get?_push_of_some _ e,aVF _ lo (hi - lo).toNat,?_,fun b hb=>?_,q⟩
 ·have e1:lo+((0:Nat):Int) * 1=lo:=by simp
  have e2:(((hi - lo).toNat:Nat):Int) - ((0:Nat):Int)=Builtin.Range.rangeSize lo hi 1:=by rw [rangeSize_one]; split <;> omega
  show IsRangeIter _ _ (lo+((0:Nat):Int) * 1) ((((hi - lo).toNat:Nat):Int) - ((0:Nat):Int)) 1
  rw [e1,e2]
  exact Heap.get?_push_size _ rfl
 ·have e:b=(s.heap.push { cls:=.type "range",data:=.fields #[.int lo t,.int hi u,.int 1 v] }).objs.size:=by simpa using hb
  subst e
  exact I1.fpOk (Nat.le_refl _) (I1.hok.fresh (Nat.le_refl _))
def eQG (ta:TA):TI:=fun σ H R=>ta σ H fun vs H1=>∃ j:Int,vs=[.int j]/\-(2 ^ 62)<=j/\j < 2 ^ 62/\R (Itr 0 j.toNat) H1
theorem aPH {a:Expr} {ta:TA} {p pos:Pos} (hg:Gl X "range") (hm:X.mg "range" = none) (ha:PA X [a] ta) (hs:starEach [a] X.env=[(false,eval a X.env)]:=by rfl):PI X tg (.Call (.Name "range" p) [a] [] pos) (eQG ta):=by
 intro pins s σ H R I h
 refine Call_ (aPW I hg hm boot_range (PyProof.Rows.callWith_type1 (thn (ha pos pins s σ H _ I h) fun us s1 ⟨vs,H1,I1,r1,q1⟩=>?_) hs rfl))
 obtain ⟨j,e,q1,q2,q⟩:=q1
 subst e
 cases r1 with
 | cons r rr=>
  cases rr
  obtain ⟨t,rfl⟩:=r
  exact call_range_1 (eCG I1 (by omega) (by omega) q1 q2 (by simpa using q))
def eSC (wi:TI) (g:TG) (tb:TS):TS:=fun D σ H=>wi σ H fun J H1=>∃ W:Nat->Nat->St->Hp->Prop,(∃ m,W 0 m σ H1)/\∀ i m σ H,W i m σ H ->
 (J.stop i H/\D.nx σ H)\/(J.go i H/\∃ N:St->Hp->Prop,(∀ σ' H',N σ' H'->∃ m',m' < m/\W (i+1) m' σ' H')/\∀ x H',J.yld i H x H'->g x σ H' fun σ2 H2=>tb { D with nx:=N,ct:=N,bk:=D.nx } σ2 H2)
def aTV (fp:List Addr) (h:Heap):List (Addr × Obj):=fp.filterMap fun b=>(h.get? b).map fun o=>(b,o)
theorem aDU {fp:List Addr} {h:Heap} {b:Addr} {o:Obj} (hb:b∈fp) (e:h.get? b=some o):(b,o)∈aTV fp h:=List.mem_filterMap.mpr ⟨b,hb,by rw [e]; rfl⟩
theorem aYT {fp:List Addr} {h:Heap} {p:Addr × Obj} (hp:p∈aTV fp h):p.1∈fp/\h.get? p.1=some p.2:=by
 obtain ⟨b,hb,e⟩:=List.mem_filterMap.mp hp
 cases q:h.get? b with
 | none=>rw [q] at e; cases e
 | some o=>
  rw [q] at e
  have e':(b,o)=p:=Option.some.inj e
  subst e'
  exact ⟨hb,q⟩
theorem Inv.pinned {pins:List (Addr × Obj)} {σ:St} {H:Hp} {s:Shared} {fp:List Addr} (I:Inv X pins σ H s) (hf:∀ b∈fp,aVD X pins H b) (ho:∀ b∈fp,∃ o,s.heap.get? b=some o/\∀ v,o.data ≠ .cell v):Inv X (pins++aTV fp s.heap) σ H s:=
 I.pins_of fun p hp=>(List.mem_append.mp hp).elim (fun z=>I.pin p (List.mem_append_right _ z)) fun z=>by
  obtain ⟨hb,e⟩:=aYT z
  obtain ⟨f0,f1,f2,_⟩:=hf p.1 hb
  obtain ⟨o,e',d⟩:=ho p.1 hb
  rw [e] at e'; cases e'
  exact ⟨e,f0,f1,f2,d⟩
theorem Inv.unpinned {pins pl:List (Addr × Obj)} {σ:St} {H:Hp} {s:Shared} (I:Inv X (pins++pl) σ H s):Inv X pins σ H s:=I.pins_of fun p hp=>I.pin p (List.mem_append_right _ (List.mem_append_left _ hp))
theorem aYA {iter:Expr} {body:List Stmt} {wi:TI} {g:TG} {tb:TS} {pos:Pos} (hp:PassesOwn (model X.prog X.w) X.A X.env X.xe) (hc:X.calm=true) (hi:PI X tg iter wi) (hg:PG X tg g) (hb:PSs X body tb)
  (hs:∀ x,foldedSetIterable iter X.env x=pure x:=by intro _; rfl):PS X (.For tg iter body [] pos) (eSC wi g tb):=by
 intro pins s σ H D I h
 refine wpAny_For (thn (hi pins s σ H _ I h) fun v s1 h1=>thn h1 fun itv s2 h2=>?_) hs
 obtain ⟨it,fp,tn,J,H2,e,I2,T,st2,f2,W,⟨m0,w0⟩,turn⟩:=h2
 subst e
 have stat:∀ {H':Hp},(∀ b∈fp,H' b=none)->∀ b∈fp,aVD X pins H' b:=fun hn b hb=>⟨hn b hb,(f2 b hb).2⟩
 refine codeAny_forLoop_any (fun n s'=>∃ i σ' H',Inv X pins σ' H' s'/\tn i s'.heap/\(∀ b∈fp,H' b=none)/\W i n σ' H') ?_ m0 ⟨0,σ,H2,I2,st2,fun b hb=>(f2 b hb).1,w0⟩
 rintro n s3 ⟨i,σ3,H3,I3,st3,fr3,w3⟩
 rcases turn i n σ3 H3 w3 with ⟨stop,qn⟩ | ⟨go,N,hN,step⟩
 ·refine wpAny_passesOwn hp (thn (T.done X rfl rfl rfl (.inl hc) i pins s3 σ3 H3 X.xe I3 (stat fr3) st3 stop) fun r s4 ⟨hr,I4⟩=>?_)
  subst hr
  exact wpAny_execs_nil ⟨σ3,H3,I4,qn⟩
 ·refine wpAny_passesOwn hp (thn (T.item X rfl rfl rfl (.inl hc) i pins s3 σ3 H3 X.xe I3 (stat fr3) st3 go) fun r s4 ⟨u,hr,h4⟩=>?_)
  subst hr
  refine wpAny_passesOwn hp (thn h4 fun _ s5 ⟨x,H5,I5,r5,y5,st5,fr5⟩=>?_)
  have I5':=I5.pinned (stat fr5) (T.obj _ _ st5)
  refine wpAny_passesOwn hp (thn (hg _ s5 σ3 H5 x u _ I5' r5 (step x H5 y5)) fun _ s6 ⟨σ6,H6,I6,q6⟩=>?_)
  refine wpAny_passesOwn hp (thn (hb _ s6 σ6 H6 _ I6 q6) fun f s7 q7=>?_)
  have again:∀ {σ7:St} {H7:Hp},Inv X (pins++aTV fp s5.heap) σ7 H7 s7->N σ7 H7->∃ m,m < n/\∃ i σ' H',Inv X pins σ' H' s7/\tn i s7.heap/\(∀ b∈fp,H' b=none)/\W i m σ' H':=fun {σ7 H7} I7 n7=>by
   obtain ⟨m',hm,w7⟩:=hN σ7 H7 n7
   refine ⟨m',hm,i+1,σ7,H7,I7.unpinned,T.keep _ _ _ st5 fun b hb o e=>(I7.pin (b,o) (List.mem_append_right _ (List.mem_append_right _ (aDU hb e)))).1,fun b hb=>?_,w7⟩
   obtain ⟨o,e,d⟩:=T.obj _ _ st5 b hb
   exact (I7.pin (b,o) (List.mem_append_right _ (List.mem_append_right _ (aDU hb e)))).2.1
  cases f with
  | next=>obtain ⟨σ7,H7,I7,n7⟩:=q7; exact again I7 n7
  | cont=>obtain ⟨σ7,H7,I7,n7⟩:=q7; exact again I7 n7
  | brk=>obtain ⟨σ7,H7,I7,q7⟩:=q7; exact ⟨σ7,H7,I7.unpinned,q7⟩
  | ret v=>obtain ⟨x7,σ7,H7,I7,r7,q7⟩:=q7; exact ⟨x7,σ7,H7,I7.unpinned,r7,q7⟩
end
abbrev R2:=V->V->Hp->VK->Prop
def OpR (X:Cx) (f:Value->Value->Sem Value) (r:R2):Prop:=
 ∀ (pins:List (Addr × Obj)) (s:Shared) (σ:St) (H:Hp) (x y:V) (v u:Value) (Q:VK),Inv X pins σ H s->RelV x v->RelV y u->r x y H Q ->
  wpAny (model X.prog X.w) X.A (f v u) (EP X pins σ Q) X.xe s
def UnR (X:Cx) (f:Value->Sem Value) (r:V->Hp->VK->Prop):Prop:=
 ∀ (pins:List (Addr × Obj)) (s:Shared) (σ:St) (H:Hp) (x:V) (v:Value) (Q:VK),Inv X pins σ H s->RelV x v->r x H Q ->
  wpAny (model X.prog X.w) X.A (f v) (EP X pins σ Q) X.xe s
def aCM (X:Cx) (f:Value) (r:List V->Hp->VK->Prop):Prop:=
 ∀ (pins:List (Addr × Obj)) (s:Shared) (σ:St) (H:Hp) (xs:List V) (us:List Value) (Q:VK),Inv X pins σ H s->Vals xs us->r xs H Q ->
  wpAny (model X.prog X.w) X.A (call f us) (EP X pins σ Q) X.xe s
def eTA (X:Cx) (r:V->Hp->(Bool->Hp->Prop)->Prop):Prop:=
 ∀ (pins:List (Addr × Obj)) (s:Shared) (σ:St) (H:Hp) (x:V) (v:Value) (Q:Bool->Hp->Prop),Inv X pins σ H s->RelV x v->r x H Q ->
  wpAny (model X.prog X.w) X.A (truthy v) (TP X pins σ Q) X.xe s
def tOp (r:R2) (ta tb:TE):TE:=fun σ H Q=>ta σ H fun x H1=>tb σ H1 fun y H2=>r x y H2 Q
def tUn (r:V->Hp->VK->Prop) (ta:TE):TE:=fun σ H Q=>ta σ H fun x H1=>r x H1 Q
def rI (C:Int->Int->Prop) (g:Int->Int->V):R2:=fun x y H Q=>∃ i j,x = .int i/\y = .int j/\C i j/\Q (g i j) H
def rI0 (g:Int->Int->V):R2:=fun x y H Q=>∃ i j,x = .int i/\y = .int j/\Q (g i j) H
def rU (g:Int->V):V->Hp->VK->Prop:=fun x H Q=>∃ i,x = .int i/\Q (g i) H
section
variable {X:Cx} {a b c:Expr} {ta tb tc:TE} {pos:Pos}
theorem eQR (ha:PE X a ta) (hb:PE X b tb) {pins:List (Addr × Obj)} {s:Shared} {σ:St} {H:Hp} {R:V->V->Hp->Prop} (I:Inv X pins σ H s)
  (h:ta σ H fun x H1=>tb σ H1 fun y H2=>R x y H2) {Q:Value->Shared->Prop} {f:Value->Value->Sem Value}
  (hf:∀ v u s2 x y H2,Inv X pins σ H2 s2->RelV x v->RelV y u->R x y H2->wpAny (model X.prog X.w) X.A (f v u) Q X.xe s2) :
  wpAny (model X.prog X.w) X.A (eval a X.env) (fun v s₁=>wpAny (model X.prog X.w) X.A (eval b X.env) (fun u s₂=>wpAny (model X.prog X.w) X.A (f v u) Q X.xe s₂) X.xe s₁) X.xe s:=by
 refine thn (ha pins s σ H _ I h) fun v s1 ⟨x,H1,I1,r1,q1⟩=>?_
 refine thn (hb pins s1 σ H1 _ I1 q1) fun u s2 ⟨y,H2,I2,r2,q2⟩=>?_
 exact hf v u s2 x y H2 I2 r1 r2 q2
theorem aPI {op:Operator} {r:R2} (ho:OpR X (binaryOp op) r) (ha:PE X a ta) (hb:PE X b tb):PE X (.BinOp a op b pos) (tOp r ta tb):=by
 intro pins s σ H Q I h
 exact wpAny_BinOp (eQR ha hb I h fun v u s2 x y H2 I2 rx ry q=>ho pins s2 σ H2 x y v u Q I2 rx ry q)
theorem ePU {op:UnaryOp} {r:V->Hp->VK->Prop} (ho:UnR X (unaryOp op) r) (ha:PE X a ta):PE X (.UnaryOp op a pos) (tUn r ta):=by
 intro pins s σ H Q I h
 exact UnaryOp_ (thn (ha pins s σ H _ I h) fun v s1 ⟨x,H1,I1,r1,q1⟩=>ho pins s1 σ H1 x v Q I1 r1 q1)
theorem opI {f:Value->Value->Sem Value} {C:Int->Int->Prop} {g:Int->Int->Int}
  (rule:∀ (i j:Int) (t u:Tok) (s:Shared) (Q:Value->Shared->Prop) (E:Value->Shared->Prop),C i j->Q (.int (g i j) s.toks) { s with toks:=s.toks+1 }->wpAny (model X.prog X.w) X.A (f (.int i t) (.int j u)) Q E s) :
  OpR X f (rI C fun i j=>.int (g i j)):=by
 intro pins s σ H x y v u Q I rx ry h
 obtain ⟨i,j,rfl,rfl,hc,q⟩:=h
 obtain ⟨t,rfl⟩:=rx
 obtain ⟨t',rfl⟩:=ry
 exact rule i j t t' s _ _ hc ⟨.int (g i j),H,I.tok _,⟨_,rfl⟩,q⟩
theorem ePZ {f:Value->Value->Sem Value} {g:Int->Int->Int}
  (rule:∀ (i j:Int) (t u:Tok) (s:Shared) (Q:Value->Shared->Prop) (E:Value->Shared->Prop),Q (.int (g i j) s.toks) { s with toks:=s.toks+1 }->wpAny (model X.prog X.w) X.A (f (.int i t) (.int j u)) Q E s) :
  OpR X f (rI0 fun i j=>.int (g i j)):=by
 intro pins s σ H x y v u Q I rx ry h
 obtain ⟨i,j,rfl,rfl,q⟩:=h
 obtain ⟨t,rfl⟩:=rx
 obtain ⟨t',rfl⟩:=ry
 exact rule i j t t' s _ _ ⟨.int (g i j),H,I.tok _,⟨_,rfl⟩,q⟩
theorem eQA {f:Value->Value->Sem Value} {g:Int->Int->Bool}
  (rule:∀ (i j:Int) (t u:Tok) (s:Shared) (Q:Value->Shared->Prop) (E:Value->Shared->Prop),Q (.bool (g i j)) s->wpAny (model X.prog X.w) X.A (f (.int i t) (.int j u)) Q E s) :
  OpR X f (rI0 fun i j=>.bl (g i j)):=by
 intro pins s σ H x y v u Q I rx ry h
 obtain ⟨i,j,rfl,rfl,q⟩:=h
 obtain ⟨t,rfl⟩:=rx
 obtain ⟨t',rfl⟩:=ry
 exact rule i j t t' s _ _ ⟨.bl (g i j),H,I,rfl,q⟩
def eRQ (i j:Int):Prop:=0<=j/\j<=1000000/\i.natAbs < 2 ^ 64
theorem eMC:OpR X (binaryOp .Add) (rI0 fun i j=>.int (i+j)):=ePZ fun _ _ _ _ _ _ _ q=>add_int q
theorem eLW:OpR X (binaryOp .Sub) (rI0 fun i j=>.int (i - j)):=ePZ fun _ _ _ _ _ _ _ q=>sub_int q
theorem eEW:OpR X (binaryOp .Mod) (rI (fun _ j=>0 < j) fun i j=>.int (i % j)):=opI fun i j _ _ _ _ _ hc q=>by
 have h1:(0:Int) < j:=hc
 exact mod_int' (by omega) (by rw [Int.fmod_eq_emod_of_nonneg i (by omega)]; exact q)
theorem eLY:OpR X (binaryOp .Pow) (rI eRQ fun i j=>.int (i ^ j.toNat)):=opI fun _ _ _ _ _ _ _ hc q=>pow_int_small hc.1 hc.2.1 hc.2.2 q
theorem eMB:OpR X (binaryOp .BitAnd) (rI0 fun i j=>.int (Builtin.bitAnd i j)):=ePZ fun _ _ _ _ _ _ _ q=>and_int q
theorem unI {f:Value->Sem Value} {g:Int->Int}
  (rule:∀ (i:Int) (t:Tok) (s:Shared) (Q:Value->Shared->Prop) (E:Value->Shared->Prop),Q (.int (g i) s.toks) { s with toks:=s.toks+1 }->wpAny (model X.prog X.w) X.A (f (.int i t)) Q E s) :
  UnR X f (rU fun i=>.int (g i)):=by
 intro pins s σ H x v Q I rx h
 obtain ⟨i,rfl,q⟩:=h
 obtain ⟨t,rfl⟩:=rx
 exact rule i t s _ _ ⟨.int (g i),H,I.tok _,⟨_,rfl⟩,q⟩
theorem eJY:UnR X (unaryOp .USub) (rU fun i=>.int (-i)):=unI fun _ _ _ _ _ q=>neg_int q
end
def eRA:V->V->Bool
 | .non,.non=>true | .non,.int _=>true | .int _,.non=>true | .non,.bl _=>true | .bl _,.non=>true | .non,.str _=>true | .str _,.non=>true
 | .int _,.int _=>true | .bl _,.bl _=>true | .str _,.str _=>true | .byt _,.byt _=>true
 | .int _,.str _=>true | .str _,.int _=>true | .bl _,.str _=>true | .str _,.bl _=>true
 | _,_=>false
def rEq:R2:=fun x y H Q=>eRA x y=true/\Q (.bl (decide (x=y))) H
def rNe:R2:=fun x y H Q=>eRA x y=true/\Q (.bl (!decide (x=y))) H
theorem aSK {i j:Int}:decide (V.int i=V.int j)=(i == j):=by
 rw [Bool.eq_iff_iff]
 simp
theorem eFW {i j:Bool}:decide (V.bl i=V.bl j)=(i == j):=by
 rw [Bool.eq_iff_iff]
 simp
theorem eAN {i j:Str}:decide (V.str i=V.str j)=(i == j):=by
 rw [Bool.eq_iff_iff]
 simp
theorem eAO {i j:Array UInt8}:decide (V.byt i=V.byt j)=(i.toList == j.toList):=by
 rw [Bool.eq_iff_iff]
 cases i
 cases j
 simp
section
variable {X:Cx} {a b c:Expr} {ta tb tc:TE} {pos:Pos}
theorem zX {pins:List (Addr × Obj)} {σ:St} {H:Hp} {s:Shared} {Q:VK} {k k':Bool} (I:Inv X pins σ H s) (q:Q (.bl k) H) (e:k=k'):EP X pins σ Q (.bool k') s:=by
 subst e
 exact ⟨.bl k,H,I,rfl,q⟩
theorem ePY:OpR X (compareOp .Eq) rEq:=by
 intro pins s σ H x y v u Q I rx ry h
 obtain ⟨hs,q⟩:=h
 cases x with
 | non=>
  cases rx
  cases y with
  | non=>cases ry; exact PySem.EqNone.eq_none_none (zX I q (by simp))
  | bl j=>cases ry; exact PySem.EqNone.eq_none_bool (zX I q (by simp))
  | int j=>obtain ⟨t',rfl⟩:=ry; exact PySem.EqNone.eq_none_int (zX I q (by simp))
  | str j=>obtain ⟨t',rfl⟩:=ry; exact PySem.EqNone.eq_none_str (zX I q (by simp))
  | _=>exact absurd (show false=true from hs) Bool.false_ne_true
 | bl i=>
  cases rx
  cases y with
  | non=>cases ry; exact PySem.EqNone.eq_bool_none (zX I q (by simp))
  | bl j=>cases ry; exact eq_bool (zX I q eFW)
  | str j=>obtain ⟨t',rfl⟩:=ry; exact PySem.EqMixed.eq_bool_str (zX I q (by simp))
  | _=>exact absurd (show false=true from hs) Bool.false_ne_true
 | int i=>
  obtain ⟨t,rfl⟩:=rx
  cases y with
  | non=>cases ry; exact PySem.EqNone.eq_int_none (zX I q (by simp))
  | int j=>obtain ⟨t',rfl⟩:=ry; exact eq_int (zX I q aSK)
  | str j=>obtain ⟨t',rfl⟩:=ry; exact PySem.EqMixed.eq_int_str (zX I q (by simp))
  | _=>exact absurd (show false=true from hs) Bool.false_ne_true
 | str i=>
  obtain ⟨t,rfl⟩:=rx
  cases y with
  | non=>cases ry; exact PySem.EqNone.eq_str_none (zX I q (by simp))
  | bl j=>cases ry; exact PySem.EqMixed.eq_str_bool (zX I q (by simp))
  | int j=>obtain ⟨t',rfl⟩:=ry; exact PySem.EqMixed.eq_str_int (zX I q (by simp))
  | str j=>obtain ⟨t',rfl⟩:=ry; exact eq_str (zX I q eAN)
  | _=>exact absurd (show false=true from hs) Bool.false_ne_true
 | byt i=>
  obtain ⟨t,rfl⟩:=rx
  cases y with
  | byt j=>obtain ⟨t',rfl⟩:=ry; exact PySem.W.eq_bytes (zX I q eAO)
  | _=>exact absurd (show false=true from hs) Bool.false_ne_true
 | _=>cases y <;> exact absurd (show false=true from hs) Bool.false_ne_true
theorem ePW:OpR X (compareOp .NotEq) rNe:=by
 intro pins s σ H x y v u Q I rx ry h
 obtain ⟨hs,q⟩:=h
 cases x with
 | non=>
  cases rx
  cases y with
  | non=>cases ry; exact PySem.EqNone.ne_none_none (zX I q (by simp))
  | bl j=>cases ry; exact PySem.EqNone.ne_none_bool (zX I q (by simp))
  | int j=>obtain ⟨t',rfl⟩:=ry; exact PySem.EqNone.ne_none_int (zX I q (by simp))
  | str j=>obtain ⟨t',rfl⟩:=ry; exact PySem.EqNone.ne_none_str (zX I q (by simp))
  | _=>exact absurd (show false=true from hs) Bool.false_ne_true
 | bl i=>
  cases rx
  cases y with
  | non=>cases ry; exact PySem.EqNone.ne_bool_none (zX I q (by simp))
  | bl j=>cases ry; exact ne_bool (zX I q (congrArg not eFW))
  | str j=>obtain ⟨t',rfl⟩:=ry; exact PySem.EqMixed.ne_bool_str (zX I q (by simp))
  | _=>exact absurd (show false=true from hs) Bool.false_ne_true
 | int i=>
  obtain ⟨t,rfl⟩:=rx
  cases y with
  | non=>cases ry; exact PySem.EqNone.ne_int_none (zX I q (by simp))
  | int j=>obtain ⟨t',rfl⟩:=ry; exact ne_int (zX I q (congrArg not aSK))
  | str j=>obtain ⟨t',rfl⟩:=ry; exact PySem.EqMixed.ne_int_str (zX I q (by simp))
  | _=>exact absurd (show false=true from hs) Bool.false_ne_true
 | str i=>
  obtain ⟨t,rfl⟩:=rx
  cases y with
  | non=>cases ry; exact PySem.EqNone.ne_str_none (zX I q (by simp))
  | bl j=>cases ry; exact PySem.EqMixed.ne_str_bool (zX I q (by simp))
  | int j=>obtain ⟨t',rfl⟩:=ry; exact PySem.EqMixed.ne_str_int (zX I q (by simp))
  | str j=>obtain ⟨t',rfl⟩:=ry; exact ne_str (zX I q (congrArg not eAN))
  | _=>exact absurd (show false=true from hs) Bool.false_ne_true
 | byt i=>
  obtain ⟨t,rfl⟩:=rx
  cases y with
  | byt j=>obtain ⟨t',rfl⟩:=ry; exact PySem.W.ne_bytes (zX I q (congrArg not eAO))
  | _=>exact absurd (show false=true from hs) Bool.false_ne_true
 | _=>cases y <;> exact absurd (show false=true from hs) Bool.false_ne_true
theorem eLZ:OpR X (compareOp .Lt) (rI0 fun i j=>.bl (decide (i < j))):=eQA fun _ _ _ _ _ _ _ q=>lt_int q
theorem eHS:OpR X (compareOp .Gt) (rI0 fun i j=>.bl (decide (j < i))):=eQA fun _ _ _ _ _ _ _ q=>gt_int q
theorem ePX:OpR X (compareOp .GtE) (rI0 fun i j=>.bl (decide (j<=i))):=eQA fun _ _ _ _ _ _ _ q=>ge_int q
theorem aPN:OpR X (compareOp .In) (fun x y H Q=>∃ i j,x = .str i/\y = .str j/\Q (.bl (!(Builtin.Str.occurrences j i 0 j.length 1).isEmpty)) H):=by
 intro pins s σ H x y v u Q I rx ry h
 obtain ⟨i,j,rfl,rfl,q⟩:=h
 obtain ⟨t,rfl⟩:=rx
 obtain ⟨t',rfl⟩:=ry
 exact in_str (zX I q rfl)
theorem eRF (b:Expr) {op:CmpOp} (h:op ≠ .In:=by decide) (h2:op ≠ .NotIn:=by decide):behindInMarks op b=false:=by
 have e1:(op == CmpOp.In)=false:=by cases op <;> first | rfl | exact absurd rfl h
 have e2:(op == CmpOp.NotIn)=false:=by cases op <;> first | rfl | exact absurd rfl h2
 cases b <;> simp [behindInMarks,e1,e2]
theorem aMW {op:CmpOp} {r:R2} (ho:OpR X (compareOp op) r) (ha:PE X a ta) (hb:PE X b tb) (hm:behindInMarks op b=false):PE X (.Compare a [op] [b] pos) (tOp r ta tb):=by
 intro pins s σ H Q I h
 exact wpAny_Compare1 (eQR ha hb I h fun v u s2 x y H2 I2 rx ry q=>ho pins s2 σ H2 x y v u Q I2 rx ry q) hm
def ePD (t:TE):TT:=fun σ H Q=>t σ H fun x H'=>∃ k,x = .bl k/\Q k H'
theorem vY {op:CmpOp} {r:R2} (ho:OpR X (compareOp op) r) (ha:PE X a ta) (hb:PE X b tb) (hm:behindInMarks op b=false):PT X (.Compare a [op] [b] pos) (ePD (tOp r ta tb)):=by
 intro pins s σ H Q I h
 refine wpAny_isTrue_Compare1 (thn (ha pins s σ H _ I h) fun v s1 ⟨x,H1,I1,r1,q1⟩=>thn (hb pins s1 σ H1 _ I1 q1) fun u s2 ⟨y,H2,I2,r2,q2⟩=>
  thn (ho pins s2 σ H2 x y v u _ I2 r1 r2 q2) fun c s3 ⟨z,H3,I3,r3,k,e,q3⟩=>?_) hm
 subst e
 cases r3
 exact wpAny_truthy_bool ⟨H3,I3,q3⟩
def eRL (K:PySem.W.Frag) (x:V) (H:Hp) (k:Bool):Prop:=
 match x with
 | .non=>k=false
 | .bl b=>k=b
 | .int i=>k=(i != 0)
 | .str y=>y.length<=sizeLine/\k=((y.length:Int) != 0)
 | .byt y=>y.size<=sizeLine/\k=((y.size:Int) != 0)
 | .ref p=>(∃ xs,SqL K H p xs/\k = !xs.isEmpty)\/(∃ xs,SqT K H p xs/\k = !xs.isEmpty)\/∃ kvs,H p=some (.dK kvs)/\k = !kvs.isEmpty
 | _=>False
theorem aVW {κ:Type} {kvs:List (κ × V)} {vs:List (κ × Value)} (r:KV kvs vs):(!vs.isEmpty) = !kvs.isEmpty:=by
 cases r <;> rfl
theorem aLS {xs:List V} {its:List Value} (r:Vals xs its):(!its.toArray.isEmpty) = !xs.isEmpty:=by
 cases r <;> simp
theorem aGP:(sizeLine:Nat) < 2 ^ 63:=by rw [sizeLine_eq]; decide
theorem eKA:eTA X (fun x H Q=>∃ k,eRL X.K x H k/\Q k H):=by
 intro pins s σ H x v Q I rx h
 obtain ⟨k,e,q⟩:=h
 have hl:=aGP
 have hs:sizeLine=16777216:=sizeLine_eq
 cases x with
 | non=>
  cases rx
  have e':k=false:=e
  subst e'
  exact truthy_none ⟨H,I,q⟩
 | bl b=>
  cases rx
  have e':k=b:=e
  subst e'
  exact wpAny_truthy_bool ⟨H,I,q⟩
 | int i=>
  obtain ⟨t,rfl⟩:=rx
  have e':k=(i != 0):=e
  subst e'
  exact PySem.P.truthy_int ⟨H,I,q⟩
 | str y=>
  obtain ⟨t,rfl⟩:=rx
  obtain ⟨hy,e'⟩:y.length<=sizeLine/\k=((y.length:Int) != 0):=e
  subst e'
  exact PySem.P.truthy_str (by omega) ⟨H,I.tok _,q⟩
 | byt y=>
  obtain ⟨t,rfl⟩:=rx
  obtain ⟨hy,e'⟩:y.size<=sizeLine/\k=((y.size:Int) != 0):=e
  subst e'
  exact PySem.W.truthy_bytes (by omega) ⟨H,I.tok _,q⟩
 | ref p=>
  cases rx
  have e':(∃ xs,SqL X.K H p xs/\k = !xs.isEmpty)\/(∃ xs,SqT X.K H p xs/\k = !xs.isEmpty)\/∃ kvs,H p=some (.dK kvs)/\k = !kvs.isEmpty:=e
  rcases e' with ⟨xs,hx,e'⟩ | ⟨xs,hx,e'⟩ | ⟨kvs,hx,e'⟩
  ·subst e'
   obtain ⟨its,r,pl,hz⟩:=I.list hx
   have hlen:=r.length
   exact wpAny_truthy_list pl.isList (by simp only [List.size_toArray]; omega) ⟨H,I.tok _,by rw [aLS r]; exact q⟩
  ·subst e'
   obtain ⟨its,r,pl,hz⟩:=I.tuple hx
   have hlen:=r.length
   exact truthy_tuple pl (by simp only [List.size_toArray]; omega) ⟨H,I.tok _,by rw [aLS r]; exact q⟩
  ·subst e'
   obtain ⟨hz,hS,vs,r,m⟩:kvs.length<=sizeLine/\(p == sysModules)=false/\∃ vs,KV kvs vs/\s.heap.DictOf (aIU X.prog X.w) p vs:=I.hok p _ hx
   have hlen:kvs.length=vs.length:=Paired.length r
   exact wpAny_truthy_dict hS m (by omega) ⟨H,I.tok _,by rw [aVW r]; exact q⟩
 | _=>exact (show False from e).elim
theorem eCI (ha:PE X a ta) (he:∀ whole,isTrue a X.env whole=(do let v <- whole; standAt a.pos; holding [v] (truthy v))) :
  PT X a (fun σ H Q=>ta σ H fun x H'=>∃ k,eRL X.K x H' k/\Q k H'):=by
 intro pins s σ H Q I h
 exact isTrue_plain (thn (ha pins s σ H _ I h) fun v s1 ⟨x,H1,I1,r1,q1⟩=>eKA pins s1 σ H1 x v Q I1 r1 q1) (he _)
theorem aLR:OpR X (binaryOp .Add) (fun x y H Q=>∃ i j,x = .str i/\y = .str j/\i.length+j.length<=sizeLine/\Q (.str (i++j)) H):=by
 intro pins s σ H x y v u Q I rx ry h
 obtain ⟨i,j,rfl,rfl,hz,q⟩:=h
 obtain ⟨t,rfl⟩:=rx
 obtain ⟨t',rfl⟩:=ry
 exact add_str (fun t' tk=>⟨.str (i++j),H,I.tok _,⟨_,rfl⟩,q⟩) hz
theorem aFV {x:V} {us:List Value} (r:Vals [x] us):∃ u,us=[u]/\RelV x u:=by
 cases r with
 | cons r1 r2=>cases r2; exact ⟨_,rfl,r1⟩
theorem aWR {x y:V} {us:List Value} (r:Vals [x,y] us):∃ u w',us=[u,w']/\RelV x u/\RelV y w':=by
 cases r with
 | cons r1 r2=>
  cases r2 with
  | cons r3 r4=>cases r4; exact ⟨_,_,rfl,r1,r3⟩
theorem eDG:aCM X (.builtin "abs") (fun xs H Q=>∃ i,xs=[.int i]/\Q (.int (if i < 0 then -i else i)) H):=by
 intro pins s σ H xs us Q I r h
 obtain ⟨i,rfl,q⟩:=h
 obtain ⟨u,rfl,t,rfl⟩:=aFV r
 exact call_abs_int fun u tk=>⟨.int (if i < 0 then -i else i),H,I.tok _,⟨_,rfl⟩,q⟩
theorem eAU (hc:X.calm=true):aCM X (.builtin "max") (fun xs H Q=>∃ i j,xs=[.int i,.int j]/\Q (.int (if j > i then j else i)) H):=by
 intro pins s σ H xs us Q I r h
 obtain ⟨i,j,rfl,q⟩:=h
 obtain ⟨u,w',rfl,⟨t,rfl⟩,⟨t',rfl⟩⟩:=aWR r
 refine max_two_ints (I.ok.hd hc) fun h' tk k=>⟨_,H,I.kept k,?_,q⟩
 by_cases hj:j > i
 ·rw [if_pos hj,if_pos hj]; exact ⟨_,rfl⟩
 ·rw [if_neg hj,if_neg hj]; exact ⟨_,rfl⟩
theorem eAT (hc:X.calm=true):aCM X (.builtin "min") (fun xs H Q=>∃ i j,xs=[.int i,.int j]/\Q (.int (if j < i then j else i)) H):=by
 intro pins s σ H xs us Q I r h
 obtain ⟨i,j,rfl,q⟩:=h
 obtain ⟨u,w',rfl,⟨t,rfl⟩,⟨t',rfl⟩⟩:=aWR r
 refine min_two_ints (I.ok.hd hc) fun h' tk k=>⟨_,H,I.kept k,?_,q⟩
 by_cases hj:j < i
 ·rw [if_pos hj,if_pos hj]; exact ⟨_,rfl⟩
 ·rw [if_neg hj,if_neg hj]; exact ⟨_,rfl⟩
theorem eAV:aCM X (.type "int") (fun xs H Q=>(∃ i,xs=[.int i]/\Q (.int i) H)\/∃ k,xs=[.bl k]/\Q (.int (if k then 1 else 0)) H):=by
 intro pins s σ H xs us Q I r h
 rcases h with ⟨i,rfl,q⟩ | ⟨k,rfl,q⟩
 ·obtain ⟨u,rfl,t,rfl⟩:=aFV r
  exact call_int_int ⟨.int i,H,I,⟨_,rfl⟩,q⟩
 ·obtain ⟨u,rfl,r1⟩:=aFV r
  cases r1
  exact call_int_bool ⟨.int (if k then 1 else 0),H,I.tok _,⟨_,rfl⟩,q⟩
theorem aQL:aCM X (.type "str") (fun xs H Q=>∃ i,xs=[.int i]/\i.natAbs.log2 < 1920/\Q (.str (toString i)) H):=by
 intro pins s σ H xs us Q I r h
 obtain ⟨i,rfl,hz,q⟩:=h
 obtain ⟨u,rfl,t,rfl⟩:=aFV r
 exact PySem.P.str_of_int hz ⟨.str _,H,I.tok _,⟨_,rfl⟩,q⟩
end
structure ObjM (h:Heap) (x dx C:Addr) (mA:Str->Option Value):Prop where
 obj:h.get? x=some (PySem.W.instObj C dx)
 ns:h.Ns1 dx mA
 ne:dx≠x
theorem aZF {h:Heap} {dx:Addr} {mA:Str->Option Value} (n:h.Ns1 dx mA):∃ od,h.get? dx=some od/\∀ name,PySem.W.lookIn name od=some (mA name):=by
 obtain ⟨o,es,ep,ho,hd,hk,_,hm⟩:=n
 refine ⟨o,ho,fun name=>?_⟩
 have e:=hm name
 unfold nsFind findBy at e
 rw [<- Array.find?_toList] at e
 unfold PySem.W.lookIn
 rw [hd]
 dsimp only
 split
 ·rename_i y q
  rw [q] at e
  exact congrArg some e
 ·rename_i q
  rw [q] at e
  have a:es.toList.any (·.refKey)=false:=by
   rw [List.any_eq_false]
   intro y hy
   obtain ⟨z,t,hkey⟩:=hk y (Array.mem_toList_iff.mp hy)
   simp [DictEntry.refKey,hkey]
  have a':¬ es.toList.any (·.refKey)=true:=by rw [a]; exact Bool.false_ne_true
  rw [if_neg a']
  exact congrArg some e
theorem ObjM.look {h:Heap} {x dx C:Addr} {mA:Str->Option Value} (I:ObjM h x dx C mA):∃ od,PySem.W.InstAt h x (PySem.W.instObj C dx) C (some od)/\∀ name,PySem.W.lookIn name od=some (mA name):=
 let ⟨od,ho,hl⟩:=aZF I.ns
 ⟨od,⟨I.obj,rfl,rfl,ho⟩,hl⟩
section
variable {prog:Program} {w:World} {A:Around} {E:Value->Shared->Prop} {s:Shared} {K:PySem.W.Frag} {x dx C f:Addr} {mA:Str->Option Value} {name:Str} {v:Value}
theorem eIJ {expr:Bool} {Q:Value->Shared->Prop} (X:K.In s.heap) (I:ObjM s.heap x dx C mA) (hg:PySem.W.plainGet K C name=true) (hh:PySem.W.hasDictIn K C=true)
  (ha:PySem.W.findIn K (.ref C) name=some none) (hv:mA name=some v) (hv':PySem.W.handedIn v=true) (h:Q v { s with toks:=s.toks+1 }) :
  wpAny (model prog w) A (getAttr (.ref x) name expr) Q E s:=by
 obtain ⟨od,J,hl⟩:=I.look
 exact PySem.W.get_value X J (PySem.W.plainGet_of hg).1 (PySem.W.findObj_own hh ha rfl (by rw [hl,hv])) hv' h
theorem eGS {ns:List Str} {Q:Unit->Shared->Prop} (X:K.In s.heap) (I:ObjM s.heap x dx C mA)
  (hs:PySem.W.findIn K (.ref C) "__setattr__" = some (some (.builtin "object.__setattr__"))) (hp:PySem.W.plainOver K C=true) (ht:PySem.W.takerIn K C name=some none) (hh:PySem.W.hasDictIn K C=true)
  (hw:PySem.Within mA ns) (hsz:ns.length<=sizeLine)
  (h:∀ h',ObjM h' x dx C (fun y=>if y=name then some v else mA y)->Heap.SameBut dx s.heap h'->Q () { s with heap:=h',toks:=s.toks+2 }) :
  wpAny (model prog w) A (setAttr (.ref x) name v) Q E s:=by
 obtain ⟨od,J,hl⟩:=I.look
 refine PySem.W.set_plain X J hs (PySem.W.osa_open (s:={ s with toks:=s.toks+1 }) (r:=none) X J hp ht fun b=>?_)
 obtain ⟨cd,hc,hd'⟩:=PySem.W.any_some hh
 have hx:s.heap.get? x=some ⟨.ref C,some dx,.plain,#[]⟩:=I.obj
 refine wpAny_bind (wpAny_pure (wpAny_bind (wpAny_bind (wpAny_loadPart hx (wpAny_bind (PySem.W.Looks.here (s:={ s with toks:=s.toks+1 }) (PySem.W.looks_clsIn X hc) ?_))))))
 rw [hd']
 refine wpAny_pure (a:=some dx) (wpAny_bind (wpAny_pure (wpAny_bind ?_)))
 refine wpAny_nsSet1 (s:={ s with toks:=s.toks+1 }) I.ns fun h' hn2 hs2=>?_
 obtain ⟨oD,esD,epD,hoD,hdD,hcD⟩:=hn2.count (PySem.Within.cons name v hw)
 refine wpAny_bind (wpAny_lookBehind hoD (by rw [hdD]; exact pastItsLine_dict (Nat.le_trans hcD (by rw [List.length_cons]; omega))) ?_)
 exact wpAny_pure (h _ ⟨(hs2.2 _ (Ne.symm I.ne)).trans I.obj,hn2,I.ne⟩ hs2)
theorem eCP {R:Result->Shared->Prop} {vs:List Value} {kw:List (Str × Value)} (X:K.In s.heap) (hm:PySem.W.makesIn K C=true)
  (hi:PySem.W.findIn K (.ref C) "__init__" = some (some (.ref f))) (hf:PySem.W.typeIn K (.ref f)=some (.type "function"))
  (h:codeAny (model prog w) (A.under (.builtin "type.__call__" ⟨.ref C :: vs,kw⟩)) (.call (.ref f) ⟨.ref (s.heap.objs.size+1) :: vs,kw⟩) (PySem.W.InitBack (s.heap.objs.size+1) R)
   { s with heap:=(s.heap.push PySem.W.emptyDict).push (PySem.W.instObj C s.heap.objs.size) }) :
  codeAny (model prog w) A (.call (.ref C) ⟨vs,kw⟩) R s:=by
 obtain ⟨hh,g,d,t,os⟩:=s
 exact PySem.W.make_core (PySem.W.makes_of X hm) (PySem.W.looks_findIn X hi) (fun self=>PySem.W.bind_fn X self hf) (.inl rfl) h
end
def aMP (f:Str) (v:V):List (Str × V)->List (Str × V)
 | []=>[(f,v)]
 | (g,x) :: r=>if g=f then (g,v) :: r else (g,x) :: aMP f v r
theorem aIW (f g:Str) (v:V):∀ fs:List (Str × V),(aMP f v fs).lookup g=if g=f then some v else fs.lookup g
 | []=>by
  show List.lookup g [(f,v)]=_
  by_cases h:g=f
  ·have hb:(g == f)=true:=beq_iff_eq.mpr h
   simp only [List.lookup,hb,if_pos h]
  ·have hb:(g == f)=false:=beq_eq_false_iff_ne.mpr h
   simp only [List.lookup,hb,if_neg h]
 | (k,x) :: r=>by
  have ih:=aIW f g v r
  rw [show aMP f v ((k,x) :: r)=(if k=f then (k,v) :: r else (k,x) :: aMP f v r) from rfl]
  by_cases hk:k=f
  ·rw [if_pos hk]
   by_cases h:g=k
   ·have hb:(g == k)=true:=beq_iff_eq.mpr h
    simp only [List.lookup,hb,if_pos (h.trans hk)]
   ·have hb:(g == k)=false:=beq_eq_false_iff_ne.mpr h
    simp only [List.lookup,hb,if_neg (fun e:g=f=>h (e.trans hk.symm))]
  ·rw [if_neg hk]
   by_cases h:g=k
   ·have hb:(g == k)=true:=beq_iff_eq.mpr h
    simp only [List.lookup,hb,if_neg (fun e:g=f=>hk (h.symm.trans e))]
   ·have hb:(g == k)=false:=beq_eq_false_iff_ne.mpr h
    simp only [List.lookup,hb]
    exact ih
theorem aJI (f:Str) (v:V):∀ fs:List (Str × V),f∈(aMP f v fs).map (·.1)/\∀ g,g∈fs.map (·.1)->g∈(aMP f v fs).map (·.1)
 | []=>⟨by simp [aMP],fun g h=>by simp at h⟩
 | (k,x) :: r=>by
  obtain ⟨i1,i2⟩:=aJI f v r
  rw [show aMP f v ((k,x) :: r)=(if k=f then (k,v) :: r else (k,x) :: aMP f v r) from rfl]
  by_cases hk:k=f
  ·rw [if_pos hk]
   subst hk
   exact ⟨by simp,fun g h=>by simpa using h⟩
  ·rw [if_neg hk]
   refine ⟨?_,fun g h=>?_⟩
   ·rw [List.map_cons]
    exact List.mem_cons_of_mem _ i1
   ·rw [List.map_cons] at h ⊢
    rcases List.mem_cons.mp h with e | e
    ·exact List.mem_cons.mpr (.inl e)
    ·exact List.mem_cons_of_mem _ (i2 g e)
theorem aIX (f:Str) (v:V):∀ fs:List (Str × V),(aMP f v fs).length<=fs.length+1
 | []=>by simp [aMP]
 | (k,x) :: r=>by
  have ih:=aIX f v r
  rw [show aMP f v ((k,x) :: r)=(if k=f then (k,v) :: r else (k,x) :: aMP f v r) from rfl]
  by_cases hk:k=f
  ·rw [if_pos hk,List.length_cons,List.length_cons]; omega
  ·rw [if_neg hk,List.length_cons,List.length_cons]; omega
theorem RelO.some_of {v:V} {o:Option Value} (r:RelO (some v) o):∃ u,o=some u/\RelV v u:=by
 cases o with
 | none=>exact (show False from r).elim
 | some u=>exact ⟨u,rfl,r⟩
theorem aZQ {v:V} {u:Value} (r:RelV v u):PySem.W.handedIn u=true:=by
 cases v with
 | non=>cases (show u=Value.none from r); rfl
 | bl b=>cases (show u=Value.bool b from r); rfl
 | int i=>obtain ⟨t,e⟩:=(show ∃ t,u=Value.int i t from r); cases e; rfl
 | str x=>obtain ⟨t,e⟩:=(show ∃ t,u=Value.str x t from r); cases e; rfl
 | byt b=>obtain ⟨t,e⟩:=(show ∃ t,u=Value.bytes b t from r); cases e; rfl
 | flt b=>obtain ⟨t,e⟩:=(show ∃ t,u=Value.float b t from r); cases e; rfl
 | ref a=>cases (show u=Value.ref a from r); rfl
 | ty n=>cases (show u=Value.type n from r); rfl
section
variable {P:Program} {w:World} {H H':Hp} {h h':Heap} {a C dx:Addr} {fs fs':List (Str × V)}
theorem aSE (hok:HOk P w H h) (e:H a=some (.ins C dx fs)):∃ mA,ObjM h a dx C mA/\(∀ f,RelO (fs.lookup f) (mA f))/\PySem.Within mA (fs.map (·.1))/\fs.length<=1000/\H dx=some (.own a):=by
 obtain ⟨d,z,ne,ob,mA,n,r,q⟩:=(show ObjOk P w H h a (.ins C dx fs) from hok a _ e)
 exact ⟨mA,⟨ob,n,ne⟩,r,q,z,d⟩
end
structure Cls (K:PySem.W.Frag) (C:Addr):Prop where
 pg:PySem.W.plainGet K C Str.empty=true
 hd:PySem.W.hasDictIn K C=true
 po:PySem.W.plainOver K C=true
 sa:PySem.W.findIn K (.ref C) "__setattr__" = some (some (.builtin "object.__setattr__"))
theorem Cls.get {K:PySem.W.Frag} {C:Addr} (c:Cls K C) (f:Str):PySem.W.plainGet K C f=true:=c.pg
def NoAttr (K:PySem.W.Frag) (C:Addr) (f:Str):Prop:=PySem.W.findIn K (.ref C) f=some none
theorem NoAttr.taker {K:PySem.W.Frag} {C:Addr} {f:Str} (n:NoAttr K C f):PySem.W.takerIn K C f=some none:=by
 unfold PySem.W.takerIn
 rw [show PySem.W.findIn K (.ref C) f=some none from n]
 rfl
section
variable {X:Cx} {pins:List (Addr × Obj)} {σ:St} {H:Hp} {s:Shared} {a C dx:Addr} {fs:List (Str × V)} {f:Str} {v:V} {A:Around} {E:Value->Shared->Prop}
theorem aLT {b:Bool} {Q:Value->Shared->Prop} (I:Inv X pins σ H s) (e:H a=some (.ins C dx fs)) (c:Cls X.K C) (n:NoAttr X.K C f) (l:fs.lookup f=some v)
  (h:∀ u s',Inv X pins σ H s'->RelV v u->Q u s'):wpAny (model X.prog X.w) A (getAttr (.ref a) f b) Q E s:=by
 obtain ⟨mA,O,r,_,_,_⟩:=aSE I.hok e
 obtain ⟨u,hu,ru⟩:=RelO.some_of (v:=v) (o:=mA f) (by rw [<- l]; exact r f)
 exact eIJ I.kIn O (c.get f) c.hd n hu (aZQ ru) (h u _ (I.tok _) ru)
theorem aLL {y:V} {u:Value} {Q:Unit->Shared->Prop} (I:Inv X pins σ H s) (e:H a=some (.ins C dx fs)) (c:Cls X.K C) (n:NoAttr X.K C f) (hl:fs.length < 1000) (ry:RelV y u)
  (h:∀ s',Inv X pins σ (upd H a (.ins C dx (aMP f y fs))) s'->Q () s'):wpAny (model X.prog X.w) A (setAttr (.ref a) f u) Q E s:=by
 obtain ⟨mA,O,r,wi,_,ho⟩:=aSE I.hok e
 have hz:(fs.map (·.1)).length<=sizeLine:=by rw [List.length_map,sizeLine_eq]; omega
 refine eGS I.kIn O c.sa c.po n.taker c.hd wi hz fun h' O' sb=>h _ ?_
 have hd:∃ o,h'.get? dx=some o:=let ⟨o,_,_,e',_⟩:=O'.ns; ⟨o,e'⟩
 refine I.write (x:=a) (e:=dx) (by rw [e]; exact True.intro) (.inr ho) (fun b q hb z=>(sb.2 b hb).trans z) hd ?_
 refine ⟨by rw [yI O.ne]; exact ho,?_,O.ne,O'.obj,_,O'.ns,fun g=>?_,fun g hg=>?_⟩
 ·have:=aIX f y fs; omega
 ·show RelO ((aMP f y fs).lookup g) (if g=f then some u else mA g)
  rw [aIW]
  by_cases q:g=f
  ·rw [if_pos q,if_pos q]; exact ry
  ·rw [if_neg q,if_neg q]; exact r g
 ·by_cases q:g=f
  ·rw [q]; exact (aJI f y fs).1
  ·refine (aJI f y fs).2 g (wi g fun z=>hg ?_)
   show (if g=f then some u else mA g)=none
   rw [if_neg q]; exact z
theorem Inv.made (I:Inv X pins σ H s):Inv X pins σ (upd (upd H s.heap.objs.size (.own (s.heap.objs.size+1))) (s.heap.objs.size+1) (.ins C s.heap.objs.size []))
  { s with heap:=(s.heap.push PySem.W.emptyDict).push (PySem.W.instObj C s.heap.objs.size) }:=by
 have e1:(s.heap.push PySem.W.emptyDict).get? s.heap.objs.size=some PySem.W.emptyDict:=Heap.get?_push_size s.heap rfl
 have e2:((s.heap.push PySem.W.emptyDict).push (PySem.W.instObj C s.heap.objs.size)).get? (s.heap.objs.size+1)=some (PySem.W.instObj C s.heap.objs.size):=by
  have:=Heap.get?_push_size (s.heap.push PySem.W.emptyDict) (o:=PySem.W.instObj C s.heap.objs.size) rfl
  rwa [Heap.size_push] at this
 have e3:(s.heap.push PySem.W.emptyDict).Ns s.heap.objs.size (fun _=>none):=⟨PySem.W.emptyDict,#[],_,e1,rfl,(fun e he=>absurd he (by simp)),fun _=>rfl⟩
 have I1:=I.laid (a:=s.heap.objs.size) (o:=.own (s.heap.objs.size+1)) (h':=s.heap.push PySem.W.emptyDict) (t':=s.toks) (fun b u q=>Heap.get?_push_of_some _ q) (Nat.le_refl _) ⟨_,e1⟩
 refine I1.laid (a:=s.heap.objs.size+1) (o:=.ins C s.heap.objs.size []) (t':=s.toks) (fun b u q=>Heap.get?_push_of_some _ q) (Nat.le_of_eq (Heap.size_push _ _)) ?_
 have ne:s.heap.objs.size≠s.heap.objs.size+1:=Nat.ne_of_lt (Nat.lt_succ_self _)
 refine ⟨by rw [yI ne,yH],Nat.zero_le _,ne,e2,fun _=>none,(Heap.Ns1.of_empty e3).at fun o q=>Heap.get?_push_of_some _ q,fun _=>True.intro,fun y hy=>absurd rfl hy⟩
theorem eJN {prog:Program} {w:World} {env:Env} {e:Expr} {f:Str} {pos:Pos} {s:Shared} {Q:Value->Shared->Prop} (hb:attributeBase e f env (eval e env)=eval e env)
  (h:wpAny (model prog w) A (eval e env) (fun o s₁=>wpAny (model prog w) A (getAttr o f true) Q E s₁) E s):wpAny (model prog w) A (eval (.Attribute e f pos) env) Q E s:=
 Attribute_any_ h (by rw [arm_eval_Attribute,hb])
end
def eSD (K:PySem.W.Frag) (ta:TE) (f:Str):TE:=fun σ H Q=>ta σ H fun x H1=>∃ a C dx fs v,x = .ref a/\H1 a=some (.ins C dx fs)/\Cls K C/\NoAttr K C f/\fs.lookup f=some v/\Q v H1
def eSI (K:PySem.W.Frag) (ta tv:TE) (f:Str):TS:=fun D σ H=>tv σ H fun y H1=>ta σ H1 fun x H2=>∃ a C dx fs,x = .ref a/\H2 a=some (.ins C dx fs)/\Cls K C/\NoAttr K C f/\fs.length < 1000 /\
 D.nx σ (upd H2 a (.ins C dx (aMP f y fs)))
def eTE (X:Cx) (op:Operator) (rd:V->V->Hp->VK->Prop):Prop:=
 ∀ (pins:List (Addr × Obj)) (s:Shared) (σ:St) (H:Hp) (x y:V) (u v:Value) (Q:VK),Inv X pins σ H s->RelV x u->RelV y v->rd x y H Q->wpAny (model X.prog X.w) X.A (inplaceOp op u v) (EP X pins σ Q) X.xe s
def eGT (K:PySem.W.Frag) (ta tv:TE) (rd:V->V->Hp->VK->Prop) (f:Str):TS:=fun D σ H=>ta σ H fun x H1=>∃ a C dx fs v,x = .ref a/\H1 a=some (.ins C dx fs)/\Cls K C/\NoAttr K C f/\fs.lookup f=some v /\
 tv σ H1 fun y H2=>rd v y H2 fun z H3=>∃ dx' fs',H3 a=some (.ins C dx' fs')/\fs'.length < 1000/\D.nx σ (upd H3 a (.ins C dx' (aMP f z fs')))
section
variable {X:Cx} {o e value:Expr} {f:Str} {pos pos' tpos:Pos} {ta tv:TE}
theorem aTY (he:PE X e ta) (hb:attributeBase e f X.env (eval e X.env)=eval e X.env):PE X (.Attribute e f pos) (eSD X.K ta f):=by
 intro pins s σ H Q I h
 refine eJN hb (thn (he pins s σ H _ I h) fun u s1 ⟨x,H1,I1,rx,a,C,dx,fs,v,ex,ea,c,n,l,q⟩=>?_)
 subst ex
 obtain rfl:u=Value.ref a:=rx
 exact aLT I1 ea c n l fun u' s2 I2 ru=>⟨v,H1,I2,ru,q⟩
theorem aYC (ha:PE X o ta) (hv:PE X value tv) (hs:swapsWith value (some (.Attribute o f pos')) pos.line X.env=pure false):PS X (.Assign [.Attribute o f pos'] value pos) (eSI X.K ta tv f):=by
 intro pins s σ H D I h
 refine plainObj_wpAny_Assign_Attribute (thn (hv pins s σ H _ I h) fun u s1 ⟨y,H1,I1,ry,q⟩=>thn (ha pins s1 σ H1 _ I1 q) fun ov s2 ⟨x,H2,I2,rx,a,C,dx,fs,ex,ea,c,n,l,q2⟩=>?_) hs
 subst ex
 obtain rfl:ov=Value.ref a:=rx
 exact aLL I2 ea c n l ry fun s3 I3=>⟨σ,_,I3,q2⟩
theorem aYB {op:Operator} {rd:V->V->Hp->VK->Prop} (ha:PE X o ta) (hv:PE X value tv) (hop:eTE X op rd):PS X (.AugAssign (.Attribute o f tpos) op value pos) (eGT X.K ta tv rd f):=by
 intro pins s σ H D I h
 refine wpAny_AugAssign_AttributeAny (thn (ha pins s σ H _ I h) fun ov s1 ⟨x,H1,I1,rx,a,C,dx,fs,v,ex,ea,c,n,l,q⟩=>?_)
 subst ex
 obtain rfl:ov=Value.ref a:=rx
 refine aLT I1 ea c n l fun u s2 I2 ru=>thn (hv pins s2 σ H1 _ I2 q) fun w3 s3 ⟨y,H2,I3,ry,q3⟩=>thn (hop pins s3 σ H2 v y u w3 _ I3 ru ry q3) fun w4 s4 ⟨z,H3,I4,rz,dx',fs',ea',l',q4⟩=>?_
 exact aLL I4 ea' c n l' rz fun s5 I5=>⟨σ,_,I5,q4⟩
def eSP:V->V->Hp->VK->Prop:=fun x y H Q=>∃ i j,x = .int i/\y = .int j/\Q (.int (i+j)) H
end
section
variable {X:Cx} {pins:List (Addr × Obj)} {σ:St} {H:Hp} {s:Shared} {A:Around} {E:Value->Shared->Prop} {Q:Value->Shared->Prop} {c:Value} {b:Bool}
inductive aWM (K:PySem.W.Frag) (H:Hp):V->Value->Prop where
 | non:aWM K H .non (.type "NoneType")
 | bl (x:Bool):aWM K H (.bl x) (.type "bool")
 | int (i:Int):aWM K H (.int i) (.type "int")
 | str (x:Str):aWM K H (.str x) (.type "str")
 | flt (x:UInt64):aWM K H (.flt x) (.type "float")
 | lst {a:Addr} {xs:List V} (e:H a=some (.lst xs)):aWM K H (.ref a) (.type "list")
 | frz {a:Addr} {o:Obj} {xs:List V} (e:H a=some (.frz o (.lst xs))):aWM K H (.ref a) (.type "list")
 | tup {a:Addr} {xs:List V} (e:H a=some (.tup xs)):aWM K H (.ref a) (.type "tuple")
 | dK {a:Addr} {kvs:List (Key × V)} (e:H a=some (.dK kvs)):aWM K H (.ref a) (.type "dict")
 | dT {a:Addr} {kvs:List (List Key × V)} (e:H a=some (.dT kvs)):aWM K H (.ref a) (.type "dict")
 | ins {a C dx:Addr} {fs:List (Str × V)} (e:H a=some (.ins C dx fs)) (cl:Cls K C) (ha:PySem.W.findIn K (.ref C) "__class__" = some (some (.builtin "object.__class__")))
   (hn:PySem.W.specialIn K (.builtin "object.__class__") "__get__" = some (some (.builtin "getset_descriptor.__get__"))) (htk:PySem.W.takesIn K (.builtin "object.__class__")=some true)
   (hm:PySem.W.mroIn K C (.type "object")=some true):aWM K H (.ref a) (.ref C)
theorem aZM {x:V} {u t:Value} (I:Inv X pins σ H s) (rx:RelV x u) (ty:aWM X.K H x t) (e:PySem.W.kitOne X.K t c=some b) (h:∀ tk,Q (.bool b) { s with toks:=tk }) :
  wpAny (model X.prog X.w) A (call (.builtin "isinstance") [u,c]) Q E s:=by
 cases ty with
 | non=>cases (show u=Value.none from rx); exact PySem.W.kia_one PySem.W.kitx_none I.kIn True.intro e (fun z=>nomatch z) h
 | bl y=>cases (show u=Value.bool y from rx); exact PySem.W.kia_one PySem.W.kitx_bool I.kIn True.intro e (fun z=>nomatch z) h
 | int i=>obtain ⟨t,q⟩:=(show ∃ t,u=Value.int i t from rx); cases q; exact PySem.W.kia_one PySem.W.kitx_int I.kIn True.intro e (fun z=>nomatch z) h
 | str y=>obtain ⟨t,q⟩:=(show ∃ t,u=Value.str y t from rx); cases q; exact PySem.W.kia_one PySem.W.kitx_str I.kIn True.intro e (fun z=>nomatch z) h
 | flt y=>obtain ⟨t,q⟩:=(show ∃ t,u=Value.float y t from rx); cases q; exact PySem.W.kia_one PySem.W.kitx_float I.kIn True.intro e (fun z=>nomatch z) h
 | @lst a xs ea=>
  cases (show u=Value.ref a from rx)
  obtain ⟨_,_,n,_,h1⟩:=(show ObjOk X.prog X.w H s.heap a (.lst xs) from I.hok a _ ea)
  exact PySem.W.kia_one PySem.W.kitx_list I.kIn ⟨_,h1,rfl⟩ e (fun z=>nomatch z) h
 | @frz a ob xs ea=>
  cases (show u=Value.ref a from rx)
  obtain ⟨_,_,_,n,_,h1⟩:=(show ObjOk X.prog X.w H s.heap a (.frz ob (.lst xs)) from I.hok a _ ea)
  exact PySem.W.kia_one PySem.W.kitx_list I.kIn ⟨_,h1,rfl⟩ e (fun z=>nomatch z) h
 | @tup a xs ea=>
  cases (show u=Value.ref a from rx)
  obtain ⟨_,_,_,p⟩:=(show ObjOk X.prog X.w H s.heap a (.tup xs) from I.hok a _ ea)
  obtain ⟨o,h1,h2,_⟩:=p
  exact PySem.W.kia_one PySem.W.kitx_tuple I.kIn ⟨o,h1,h2⟩ e (fun z=>nomatch z) h
 | @dK a kvs ea=>
  cases (show u=Value.ref a from rx)
  obtain ⟨_,_,vs,_,p⟩:=(show ObjOk X.prog X.w H s.heap a (.dK kvs) from I.hok a _ ea)
  obtain ⟨o,es,ep,h1,h2,_⟩:=p
  exact PySem.W.kia_one PySem.W.kitx_dict I.kIn ⟨o,h1,h2.1⟩ e (fun z=>nomatch z) h
 | @dT a kvs ea=>
  cases (show u=Value.ref a from rx)
  obtain ⟨_,_,xs,_,o,es,ep,h1,h2,_⟩:=(show ObjOk X.prog X.w H s.heap a (.dT kvs) from I.hok a _ ea)
  exact PySem.W.kia_one PySem.W.kitx_dict I.kIn ⟨o,h1,h2.1⟩ e (fun z=>nomatch z) h
 | @ins a C dx fs ea cl ha hn htk hm=>
  cases (show u=Value.ref a from rx)
  obtain ⟨mA,O,_⟩:=aSE I.hok ea
  obtain ⟨od,J,_⟩:=O.look
  exact PySem.W.kia_one (PySem.W.kitx_own (cl.get _) cl.hd ha hn htk hm) I.kIn J e (fun z=>nomatch z) h
end
structure Room (k:Nat) (A:Around):Prop where
 hd:A.handled=none
 dp:A.depth+3 * k+105 < recursionLimit
 un:A.units+16 * k+200 < cLine
theorem Room.mono {j k:Nat} {A:Around} (r:Room k A) (h:j<=k):Room j A:=⟨r.hd,by have:=r.dp; omega,by have:=r.un; omega⟩
theorem Room.deeper {k:Nat} {A:Around} (r:Room (k+1) A) (env:Env):Room k (A.deeper env):=
 ⟨r.hd,by have:=r.dp; show A.depth+1+3 * k+105 < _; omega,by have:=r.un; show A.units+3+16 * k+200 < _; omega⟩
theorem aVU {A:Around} {C:Addr} {us:List Value} {kw:List (Str × Value)}:(A.under (.builtin "type.__call__" ⟨.ref C :: us,kw⟩)).depth=A.depth+1:=by
 first | rfl | simp [Around.under,Code.weight,Code.isCreation,Code.isGuard,Code.isCaller,Code.frames,Code.isFrame,guardIds]
theorem aVT {A:Around} {C:Addr} {us:List Value} {kw:List (Str × Value)}:(A.under (.builtin "type.__call__" ⟨.ref C :: us,kw⟩)).units=A.units+1:=by
 first | rfl | simp [Around.under,Code.cUnits,Code.frames,Code.isFrame]
theorem Room.make {k:Nat} {A:Around} (r:Room (k+1) A) (C:Addr) (us:List Value) (kw:List (Str × Value)):Room k (A.under (.builtin "type.__call__" ⟨.ref C :: us,kw⟩)):=
 ⟨r.hd,by have:=r.dp; rw [aVU]; omega,by have:=r.un; rw [aVT]; omega⟩
theorem Room.dp100 {k:Nat} {A:Around} (r:Room k A):A.depth+100 < recursionLimit:=by have:=r.dp; omega
theorem Room.depth {k:Nat} {A:Around} (r:Room k A):A.depth < recursionLimit:=by have:=r.dp; omega
theorem Room.units {k:Nat} {A:Around} (r:Room k A):A.units+64 < cLine:=by have:=r.un; omega
def eRZ:TA:=fun _ H Q=>Q [] H
def ePK (ta:TE) (tr:TA):TA:=fun σ H Q=>ta σ H fun x H1=>tr σ H1 fun xs H2=>Q (x :: xs) H2
section
variable {X:Cx} {e:Expr} {es:List Expr} {te:TE} {t:TA} {pos:Pos}
theorem vD:PA X [] eRZ:=fun _ _ _ _ H Q I h=>Calls.spliced_nil ⟨[],H,I,.nil,h⟩
theorem zL (ha:PE X e te) (hr:PA X es t) (hs:starEach (e :: es) X.env=(false,eval e X.env) :: starEach es X.env:=by rfl):PA X (e :: es) (ePK te t):=by
 intro pos pins s σ H Q I h
 rw [hs]
 show wpAny _ _ (spliced ((false,eval e X.env) :: backTo pos (starEach es X.env))) _ _ s
 refine Calls.spliced_cons (thn (ha pins s σ H _ I h) fun u s1 ⟨x,H1,I1,r1,q1⟩=>?_)
 exact thn (hr pos pins s1 σ H1 _ I1 q1) fun us s2 ⟨xs,H2,I2,r2,q2⟩=>⟨x :: xs,H2,I2,.cons r1 r2,q2⟩
def eRU (t:TA):TE:=fun σ H Q=>t σ H fun xs H1=>xs.length<=sizeLine/\∀ p,H1 p=none->Q (.ref p) (upd H1 p (.tup xs))
def eSA (t:TA):TE:=fun σ H Q=>t σ H fun xs H1=>xs.length<=sizeLine/\∀ p,H1 p=none->Q (.ref p) (upd H1 p (.lst xs))
theorem eLR {x1} (h:PA X es t):PE X (.Tuple es x1 pos) (eRU t):=by
 intro pins s σ H Q I hq
 refine wpAny_Tuple_spliced (thn (h pos pins s σ H _ I hq) fun us s1 ⟨xs,H1,I1,r,z,q⟩=>⟨by rw [<- r.length]; exact z,?_⟩)
 have hf:H1 s1.heap.objs.size=none:=I1.hok.fresh (Nat.le_refl _)
 refine ⟨.ref s1.heap.objs.size,upd H1 s1.heap.objs.size (.tup xs),I1.laid (t':=s1.toks) (fun b u e=>Heap.get?_push_of_some _ e) (Nat.le_refl _) ?_,rfl,q _ hf⟩
 exact ⟨z,us,r,⟨_,Heap.get?_push_size _ rfl,rfl,_,rfl⟩⟩
theorem eEQ (h:PA X es t):PE X (.List es pos) (eSA t):=by
 intro pins s σ H Q I hq
 refine wpAny_List_spliced (thn (h pos pins s σ H _ I hq) fun us s1 ⟨xs,H1,I1,r,z,q⟩=>⟨by rw [<- r.length]; exact z,?_⟩)
 have hf:H1 s1.heap.objs.size=none:=I1.hok.fresh (Nat.le_refl _)
 refine ⟨.ref s1.heap.objs.size,upd H1 s1.heap.objs.size (.lst xs),I1.laid (t':=s1.toks) (fun b u e=>Heap.get?_push_of_some _ e) (Nat.le_refl _) ?_,rfl,q _ hf⟩
 exact ⟨z,us,0,r,Heap.get?_push_size _ rfl⟩
end
abbrev Sp:=List V->Hp->VK->XK->Prop
abbrev CXT:=List Env->Hp->Shared->XK->Value->Shared->Prop
structure Env0 (P:Program) (w:World) (K:PySem.W.Frag) (mg:Str->Option Value) (base:Heap) (A:Around) (outer:List Env) (s:Shared) (H:Hp):Prop where
 frames:A.frames=some outer
 mod:Mod K mg base
 bs:∀ b o,base.get? b=some o->s.heap.get? b=some o/\H b=none
 bsz:base.objs.size<=s.heap.objs.size
 funs:s.heap.FunFrames base outer
 frf:∀ b∈frs outer,H b=none
 hok:HOk P w H s.heap
 bare:AllBare s.gens
def CE (outer:List Env) (P:Program) (w:World) (H:Hp) (s:Shared) (Q:VK) (u:Value) (s':Shared):Prop:=
 ∃ v H',s'.os=s.os/\AllBare s'.gens/\Un (frs outer) [] H H' s.heap s'.heap/\HOk P w H' s'.heap/\RelV v u/\Q v H'
def CR (CX:CXT) (outer:List Env) (P:Program) (w:World) (H:Hp) (s:Shared) (Q:VK) (E:XK) (r:Result) (s':Shared):Prop:=
 match r with
 | .ok (.ret u)=>CE outer P w H s Q u s'
 | .ok _=>False
 | .error e=>CX outer H s E e s'
structure qL (P:Program) (w:World) (K:PySem.W.Frag) (mg:Str->Option Value) (base:Heap) (CX:CXT) (k:Nat) (f:Addr) (fd:FuncData) (ps:List Str) (sp:Sp):Prop where
 len:∀ vs H Q E,sp vs H Q E->vs.length=ps.length
 run:∀ (A:Around) (outer:List Env) (s:Shared) (H:Hp) (args:Args) (us:List Value) (vs:List V) (Q:VK) (E:XK),Room k A->Env0 P w K mg base A outer s H->BindsTo s fd args (ps.zip us)->Vals vs us->sp vs H Q E ->
  codeAny (model P w) A (.call (.ref f) args) (CR CX outer P w H s Q E) s
theorem Env0.make {P:Program} {w:World} {K:PySem.W.Frag} {mg:Str->Option Value} {base:Heap} {A:Around} {outer:List Env} {s:Shared} {H:Hp} (e:Env0 P w K mg base A outer s H) (C:Addr) (us:List Value) (kw:List (Str × Value)) :
  Env0 P w K mg base (A.under (.builtin "type.__call__" ⟨.ref C :: us,kw⟩)) outer s H:=⟨by first | exact e.frames | (simpa [Around.under,Code.envs,Code.isFrame,pushEnvs] using e.frames),e.mod,e.bs,e.bsz,e.funs,e.frf,e.hok,e.bare⟩
section
variable {X:Cx} {pins:List (Addr × Obj)} {σ:St} {H:Hp} {s s':Shared}
theorem Inv.env0 (I:Inv X pins σ H s):Env0 X.prog X.w X.K X.mg X.base X.A X.stack s H:=
 ⟨I.ok.frames,I.ok.mod,I.bs,Nat.le_trans I.ok.bsz I.sz,I.stack,I.stkFree,I.hok,I.bare⟩
theorem Inv.after {Q:VK} {u:Value} (I:Inv X pins σ H s) (h:CE X.stack X.prog X.w H s Q u s'):EP X pins σ Q u s':=by
 obtain ⟨v,H',os,bare,un,hok,r,q⟩:=h
 obtain ⟨hh,g,d,t,os'⟩:=s'
 obtain rfl:os' = s.os:=os
 exact ⟨v,H',I.call (h':=hh) (g':=g) (d':=d) (t':=t) (ch:=[]) un hok bare (fun b z=>absurd z (by simp)),r,q⟩
end
def ePL (sp:Sp) (dvs:List V) (E:XK) (t:TA):TE:=fun σ H Q=>t σ H fun vs H1=>sp (vs++dvs) H1 Q E
def ePI (C:Addr) (sp:Sp) (dvs:List V) (E:XK) (t:TA):TE:=fun σ H Q=>t σ H fun vs H1=>∀ x dx,H1 x=none->H1 dx=none->dx≠x ->
 sp (.ref x :: (vs++dvs)) (upd (upd H1 dx (.own x)) x (.ins C dx [])) (fun v H2=>v = .non/\Q (.ref x) H2) E
def Binds (K:PySem.W.Frag) (fd:FuncData) (ps:List Str) (ds:List Value):Prop:=
 ∀ (s:Shared) (us:List Value),K.In s.heap->(us++ds).length=ps.length->BindsTo s fd ⟨us,[]⟩ (ps.zip (us++ds))
theorem Binds.all {K:PySem.W.Frag} {fd:FuncData} {ps:List Str} (h:∀ us:List Value,us.length=ps.length->bindArgs fd ⟨us,[]⟩=pure (ps.zip us)):Binds K fd ps []:=fun s us _ hl=>by
 rw [List.append_nil] at hl ⊢
 exact .of_eq (h us hl)
def aBZ (CX:CXT) (X:Cx) (E:XK):Prop:=∀ (pins:List (Addr × Obj)) (σ:St) (H:Hp) (s:Shared) (e:Value) (s':Shared),Inv X pins σ H s->CX X.stack H s E e s'->X.xe e s'
section
variable {X:Cx} {CX:CXT} {k:Nat} {f C:Addr} {fd:FuncData} {ps:List Str} {sp:Sp} {dvs:List V} {ds:List Value} {E:XK} {x m:Str} {p pos apos:Pos} {e o:Expr} {es:List Expr} {ta:TE} {t:TA}
theorem eKY {pins:List (Addr × Obj)} {σ:St} {H:Hp} {s:Shared} {Q:VK} {us:List Value} {vs:List V} (F:qL X.prog X.w X.K X.mg X.base CX k f fd ps sp) (hr:Room k X.A) (hb:Binds X.K fd ps ds) (hd:Vals dvs ds) (hx:aBZ CX X E)
  (I:Inv X pins σ H s) (r:Vals vs us) (h:sp (vs++dvs) H Q E):wpAny (model X.prog X.w) X.A (call (.ref f) us) (EP X pins σ Q) X.xe s:=by
 have r2:Vals (vs++dvs) (us++ds):=r.append hd
 have hl:(us++ds).length=ps.length:=by rw [<- r2.length]; exact F.len _ _ _ _ h
 refine wpAny_call (codeAny_mono (F.run X.A X.stack s H ⟨us,[]⟩ (us++ds) (vs++dvs) Q E hr I.env0 (hb s us I.kIn hl) r2 h) fun r s' hq=>?_)
 cases r with
 | error e=>exact hx pins σ H s e s' I hq
 | ok fl=>
  cases fl with
  | ret u=>exact I.after hq
  | next=>exact False.elim hq
  | brk=>exact False.elim hq
  | cont=>exact False.elim hq
theorem aEQ (F:qL X.prog X.w X.K X.mg X.base CX k f fd ps sp) (hr:Room k X.A) (hg:Gl X x) (hm:X.mg x=some (.ref f)) (hk:PySem.W.keepIn X.K (.ref f)=true) (hb:Binds X.K fd ps ds) (hd:Vals dvs ds) (hx:aBZ CX X E)
  (ha:PA X (e :: es) t) (hdb:(x == ("__debug__" : Str))=false:=by decide) (he:starEach (e :: es) X.env=(false,eval e X.env) :: starEach es X.env:=by rfl) (hpl:(backTo pos (starEach es X.env)).any (·.1)=false:=by rfl) :
  PE X (.Call (.Name x p) (e :: es) [] pos) (ePL sp dvs E t):=by
 intro pins s σ H Q I h
 refine wpAny_Call_Name_kw (aSD I hg hm ?_ hdb)
 refine PySem.W.callWith_K (h₀:=X.base) I.ok.mod.kin hk (thn (ha pos pins s σ H _ I h) fun us s1 ⟨vs,H1,I1,r,q⟩=>⟨I1.kIn,?_⟩) he hpl
 exact eKY F hr hb hd hx I1 r q
structure Mk (K:PySem.W.Frag) (C f:Addr):Prop where
 makes:PySem.W.makesIn K C=true
 init:PySem.W.findIn K (.ref C) "__init__" = some (some (.ref f))
 fn:PySem.W.isFn K (.ref f)=true
 kp:PySem.W.keepIn K (.ref C)=true
theorem eBZ {pins:List (Addr × Obj)} {σ:St} {H:Hp} {s:Shared} {Q:VK} {us:List Value} {vs:List V} (M:Mk X.K C f) (F:qL X.prog X.w X.K X.mg X.base CX k f fd ps sp) (hr:Room (k+1) X.A) (hb:Binds X.K fd ps ds) (hd:Vals dvs ds)
  (hx:aBZ CX X E) (I:Inv X pins σ H s) (r:Vals vs us)
  (h:∀ x dx,H x=none->H dx=none->dx≠x->sp (.ref x :: (vs++dvs)) (upd (upd H dx (.own x)) x (.ins C dx [])) (fun v H2=>v = .non/\Q (.ref x) H2) E) :
  wpAny (model X.prog X.w) X.A (call (.ref C) us) (EP X pins σ Q) X.xe s:=by
 have hq:=h (s.heap.objs.size+1) s.heap.objs.size (I.hok.fresh (Nat.le_succ _)) (I.hok.fresh (Nat.le_refl _)) (Nat.ne_of_lt (Nat.lt_succ_self _))
 have I2:=Inv.made (C:=C) I
 have r2:Vals (V.ref (s.heap.objs.size+1) :: (vs++dvs)) (Value.ref (s.heap.objs.size+1) :: (us++ds)):=.cons rfl (r.append hd)
 have hl:(Value.ref (s.heap.objs.size+1) :: us++ds).length=ps.length:=by
  have e:=r2.length
  rw [F.len _ _ _ _ hq] at e
  exact e.symm
 refine wpAny_call (eCP (f:=f) I.kIn M.makes M.init (beq_iff_eq.mp M.fn) (codeAny_mono (F.run _ X.stack _ _ ⟨Value.ref (s.heap.objs.size+1) :: us,[]⟩ (Value.ref (s.heap.objs.size+1) :: (us++ds)) _ _ E (hr.make C us [])
  (I2.env0.make C us []) (hb _ (Value.ref (s.heap.objs.size+1) :: us) I2.kIn hl) r2 hq) fun r s' hq'=>?_))
 cases r with
 | error e=>exact hx pins σ _ _ e s' I2 hq'
 | ok fl=>
  cases fl with
  | ret u=>
   obtain ⟨v,H',I3,rv,ev,q3⟩:=I2.after hq'
   subst ev
   exact ⟨rv,⟨V.ref (s.heap.objs.size+1),H',I3,rfl,q3⟩⟩
  | next=>exact False.elim hq'
  | brk=>exact False.elim hq'
  | cont=>exact False.elim hq'
theorem eHN (M:Mk X.K C f) (F:qL X.prog X.w X.K X.mg X.base CX k f fd ps sp) (hr:Room (k+1) X.A) (hg:Gl X x) (hm:X.mg x=some (.ref C)) (hb:Binds X.K fd ps ds) (hd:Vals dvs ds) (hx:aBZ CX X E)
  (ha:PA X (e :: es) t) (hdb:(x == ("__debug__" : Str))=false:=by decide) (he:starEach (e :: es) X.env=(false,eval e X.env) :: starEach es X.env:=by rfl) (hpl:(backTo pos (starEach es X.env)).any (·.1)=false:=by rfl) :
  PE X (.Call (.Name x p) (e :: es) [] pos) (ePI C sp dvs E t):=by
 intro pins s σ H Q I h
 refine wpAny_Call_Name_kw (aSD I hg hm ?_ hdb)
 refine PySem.W.callWith_K (h₀:=X.base) I.ok.mod.kin M.kp (thn (ha pos pins s σ H _ I h) fun us s1 ⟨vs,H1,I1,r,q⟩=>⟨I1.kIn,?_⟩) he hpl
 exact eBZ M F hr hb hd hx I1 r q
end
structure yL (N P:List Str) (sc:Scope):Prop where
 kind:sc.kind = .function
 co:sc.isCoroutine=false
 gen:sc.isGenerator=false
 nd:N.Nodup
 pre:N.take P.length=P
 par:∀ x∈P,sc.names.lookup x=some .local\/sc.names.lookup x=some .cell
 nofree:∀ y∈sc.names,y.2 ≠ .free
theorem aQS {kindOf:Str->Option NameKind} {x:Str}:∀ {binds:List (Str × Value)} {m:Str->Option Value},(∀ v,(x,v) ∉ binds)->bindL kindOf binds m x=m x
 | [],_,_=>rfl
 | (n,v) :: r,m,h=>by
  unfold bindL
  rw [aQS fun w hw=>h w (List.mem_cons_of_mem _ hw)]
  split
  ·have:x≠n:=by rintro rfl; exact h v List.mem_cons_self
   simp [this]
  ·rfl
theorem aQU {kindOf:Str->Option NameKind} {x:Str}:∀ {binds:List (Str × Value)} {m:Str->Option Value},(∀ v,(x,v) ∉ binds)->bindC kindOf binds m x=m x
 | [],_,_=>rfl
 | (n,v) :: r,m,h=>by
  unfold bindC
  rw [aQU fun w hw=>h w (List.mem_cons_of_mem _ hw)]
  split
  ·rfl
  ·have:x≠n:=by rintro rfl; exact h v List.mem_cons_self
   simp [this]
theorem aQT {kindOf:Str->Option NameKind} {x:Str} {v:Value}:∀ {P:List Str} {vs:List Value} {i:Nat} {m:Str->Option Value},P.Nodup->P[i]? = some x->vs[i]? = some v->kindOf x=some .local ->
  bindL kindOf (P.zip vs) m x=some v
 | [],_,_,_,_,h,_,_=>by simp at h
 | _ :: _,[],_,_,_,_,h,_=>by simp at h
 | p :: P,w :: vs,0,m,nd,h1,h2,hk=>by
  simp at h1 h2; subst h1; subst h2
  show bindL kindOf ((p,w) :: P.zip vs) m p=_
  unfold bindL
  rw [aQS fun v hv=>(List.nodup_cons.mp nd).1 (List.of_mem_zip hv).1,if_pos hk]
  simp
 | p :: P,w :: vs,i+1,m,nd,h1,h2,hk=>by
  show bindL kindOf ((p,w) :: P.zip vs) m x=_
  unfold bindL
  exact aQT (i:=i) (List.nodup_cons.mp nd).2 (by simpa using h1) (by simpa using h2) hk
theorem aQV {kindOf:Str->Option NameKind} {x:Str} {v:Value}:∀ {P:List Str} {vs:List Value} {i:Nat} {m:Str->Option Value},P.Nodup->P[i]? = some x->vs[i]? = some v->kindOf x≠some .local ->
  bindC kindOf (P.zip vs) m x=some v
 | [],_,_,_,_,h,_,_=>by simp at h
 | _ :: _,[],_,_,_,_,h,_=>by simp at h
 | p :: P,w :: vs,0,m,nd,h1,h2,hk=>by
  simp at h1 h2; subst h1; subst h2
  show bindC kindOf ((p,w) :: P.zip vs) m p=_
  unfold bindC
  rw [aQU fun v hv=>(List.nodup_cons.mp nd).1 (List.of_mem_zip hv).1,if_neg hk]
  simp
 | p :: P,w :: vs,i+1,m,nd,h1,h2,hk=>by
  show bindC kindOf ((p,w) :: P.zip vs) m x=_
  unfold bindC
  exact aQV (i:=i) (List.nodup_cons.mp nd).2 (by simpa using h1) (by simpa using h2) hk
def start (N:List Str) (vs:List V):St:=vs.map some++List.replicate (N.length - vs.length) none
def aUV (CX:CXT) (P:Program) (w:World) (K:PySem.W.Frag) (mg:Str->Option Value) (base:Heap) (N:List Str) (qual:Str) (scope:Scope) (f:Addr) (cd:Value) (A:Around) (outer:List Env) (s:Shared) (H:Hp) (E:XK):Cx where
 prog:=P
 w:=w
 K:=K
 mg:=mg
 base:=base
 A:=A.deeper (envOfC qual scope s.heap.objs.size f cd)
 N:=N
 s₀:=s
 H₀:=H
 env:=envOfC qual scope s.heap.objs.size f cd
 outer:=outer
 stack:=envOfC qual scope s.heap.objs.size f cd :: outer
 ex:=[]
 calm:=true
 fn:=fun _=>true
 pn:=[]
 xe:=fun e s'=>wpAny (model P w) (A.deeper (envOfC qual scope s.heap.objs.size f cd)) (leaving (envOfC qual scope s.heap.objs.size f cd) e) (fun _ s''=>CX outer H s E e s'') (fun e' s''=>CX outer H s E e' s'') s'
theorem aUY {sc:Scope} {n:Nat} {x:Str} (h:sc.names.lookup x=some .cell):∃ c,(cellsFrom n sc.names []).lookup x=some c:=by
 have q:=PySem.W.cellsFrom_some sc.names n [] (.inl h)
 exact Option.isSome_iff_exists.mp q
theorem aZN {CX:CXT} {P:Program} {w:World} {K:PySem.W.Frag} {mg:Str->Option Value} {base:Heap} {N ps:List Str} {qual:Str} {scope:Scope} {f:Addr} {cd:Value} {A:Around} {outer:List Env} {s s1:Shared} {H:Hp} {E:XK} {us:List Value} {vs:List V}
  (S:yL N ps scope) (hd:A.handled=none) (e0:Env0 P w K mg base A outer s H) (hl:vs.length=ps.length) (r:Vals vs us)
  (x:InCallC s s.heap.objs.size (bindL (envOfC qual scope s.heap.objs.size f cd).kindOf (ps.zip us) fun _=>none) (cellsFrom (s.heap.objs.size+1) scope.names []) (bindC (envOfC qual scope s.heap.objs.size f cd).kindOf (ps.zip us) fun _=>none) s1) :
  Inv (aUV CX P w K mg base N qual scope f cd A outer s H E) [] (start N vs) H s1:=by
 have hpl:ps.length<=N.length:=by have:=congrArg List.length S.pre; rw [List.length_take] at this; omega
 obtain ⟨h1,tk,rfl,hk⟩:=x.done
 have noA:∀ b:Addr,b ∉ (aUV CX P w K mg base N qual scope f cd A outer s H E).ex:=fun b z=>absurd (show b∈([]:List Addr) from z) (by simp)
 refine ⟨⟨e0.mod,S.kind,rfl,rfl,Nat.le_refl _,fun y z c h1 h2=>?_,fun y hy=>?_,fun y c _ h=>?_,fun _=>hd,Around.frames_deeper e0.frames,.inr ⟨rfl,rfl⟩,fun b z=>absurd z (noA b),e0.bs,e0.bsz,fun b _ _=>noA b,fun b z=>absurd z (noA b),e0.funs,e0.frf⟩,
  rfl,e0.bare,Un.kept hk,⟨_,x.toInCall.ns,fun i y v h1 h2 h3=>?_⟩,fun y c h=>⟨_,x.cell y c h⟩,e0.hok.fresh (Nat.le_refl _),fun y c h=>?_,fun p hp=>absurd (show p∈([]:List (Addr × Obj)) from hp) (by simp),e0.hok.kept hk,?_⟩
 ·exact name_of_addr x.apart (PySem.mem_of_lookup h1) (PySem.mem_of_lookup h2)
 ·have hy:scope.names.lookup y=some .cell\/scope.names.lookup y=some .free:=hy
  rcases hy with hy | hy
  ·exact aUY hy
  ·exact absurd rfl (S.nofree _ (PySem.mem_of_lookup hy))
 ·exact Nat.le_of_lt (x.above y c (PySem.mem_of_lookup h))
 ·have hi:i < vs.length:=by
   unfold start at h2
   by_cases hi:i < vs.length
   ·exact hi
   ·rw [List.getElem?_append_right (by simpa using hi)] at h2
    rw [List.getElem?_replicate] at h2
    split at h2 <;> cases h2
  have ha:vs[i]? = some v:=by
   unfold start at h2
   rw [List.getElem?_append_left (by simpa using hi),List.getElem?_map] at h2
   cases e:vs[i]? with
   | none=>rw [e] at h2; cases h2
   | some a=>rw [e] at h2; cases h2; rfl
  obtain ⟨u,hu,rv⟩:=r.get ha
  have hp:ps[i]? = some y:=by
   rw [<- S.pre,List.getElem?_take_of_lt (by omega)]; exact h1
  have ndP:ps.Nodup:=by rw [<- S.pre]; exact S.nd.sublist (List.take_sublist _ _)
  refine ⟨u,rv,?_⟩
  rcases S.par y (List.mem_of_getElem? hp) with k | k
  ·exact .inl ⟨k,aQT ndP hp hu k⟩
  ·obtain ⟨c,e⟩:=aUY (n:=s.heap.objs.size+1) k
   refine .inr ⟨.inl k,c,e,?_⟩
   have q:=x.cell y c e
   rw [aQV ndP hp hu (by show scope.names.lookup y≠_; rw [k]; decide)] at q
   exact q
 ·exact e0.hok.fresh (Nat.le_of_lt (x.above y c (PySem.mem_of_lookup h)))
 ·unfold start
  show _=N.length
  rw [List.length_append,List.length_map,List.length_replicate]
  omega
theorem eQL {CX:CXT} {P:Program} {w:World} {K:PySem.W.Frag} {mg:Str->Option Value} {base:Heap} {k:Nat} {f:Addr} {name qual:Str} {params:Arguments} {body:List Stmt} {scope:Scope} {dV kV doc pm cdv ct oc:Value} {an od:Option Addr}
  {osl:Array (Option Value)} {N ps:List Str} {sp:Sp} (lk:K.lookup f=some ⟨oc,od,.func (PySem.W.fnOf name qual params body scope dV kV doc pm an cdv ct),osl⟩) (hcd:PySem.W.codeIn K cdv qual=true) (S:yL N ps scope)
  (len:∀ vs H Q E,sp vs H Q E->vs.length=ps.length)
  (hbody:∀ (A:Around) (outer:List Env) (s:Shared) (H:Hp) (vs:List V) (Q:VK) (E:XK),Room k (A.deeper (envOfC qual scope s.heap.objs.size f cdv))->sp vs H Q E ->
   ∃ t,PSs (aUV CX P w K mg base N qual scope f cdv A outer s H E) body t/\t { nx:=fun _ H'=>Q .non H',rt:=Q } (start N vs) H) :
  qL P w K mg base CX (k+1) f (PySem.W.fnOf name qual params body scope dV kV doc pm an cdv ct) ps sp:=by
 refine ⟨len,fun A outer s H args us vs Q E hr e0 hb r hsp=>?_⟩
 have hl:=len _ _ _ _ hsp
 have KX:K.In s.heap:=e0.mod.kin.keeps fun b o e=>(e0.bs b o e).1
 have lim:s.heap.NoLimit:=e0.mod.nolimit.keeps fun b o e=>(e0.bs b o e).1
 have hkind:∀ y∈ps.zip us,scope.names.lookup y.1=some .local\/(scope.names.lookup y.1=some .cell/\((cellsFrom (s.heap.objs.size+1) scope.names []).lookup y.1).isSome=true):=fun ⟨n,v⟩ hy=>by
  rcases S.par n (List.of_mem_zip hy).1 with q | q
  ·exact .inl q
  ·exact .inr ⟨q,PySem.W.cellsFrom_some _ _ _ (.inl q)⟩
 refine codeAny_call_function hr.depth (KX _ _ lk) rfl S.co S.gen rfl (PySem.W.codeRec_of KX hcd) (hb _ _ _ _ ?_)
 refine wpAny_newFunctionEnv_cells S.kind hkind fun env he s1 x=>?_
 subst he
 refine ⟨lim.keeps x.toInCall.keep,codeAny_func ?_⟩
 obtain ⟨t,ht,hq⟩:=hbody A outer s H vs Q E (hr.deeper _) hsp
 have I:Inv (aUV CX P w K mg base N qual scope f cdv A outer s H E) [] (start N vs) H s1:=aZN S hr.hd e0 hl r x
 refine wpAny_mono (ht [] s1 (start N vs) H _ I hq) (fun fl s' hs=>?_) fun e s' hs=>hs
 have fin:∀ {σ':St} {H':Hp} {v:V} {u:Value},Inv (aUV CX P w K mg base N qual scope f cdv A outer s H E) [] σ' H' s'->RelV v u->Q v H'->CE outer P w H s Q u s':=
  fun {σ' H' v u} J rv q=>⟨v,H',J.os,J.bare,J.base,J.hok,rv,q⟩
 cases fl with
 | ret u=>
  obtain ⟨v,σ',H',J,rv,q⟩:=hs
  exact fin J rv q
 | next=>
  obtain ⟨σ',H',J,q⟩:=hs
  exact fin (v:=V.non) (u:=Value.none) J rfl q
 | brk=>
  obtain ⟨_,_,_,q⟩:=hs
  exact False.elim q
 | cont=>
  obtain ⟨_,_,_,q⟩:=hs
  exact False.elim q
section
variable {X:Cx} {x:Str} {p pos:Pos} {e:Expr} {es:List Expr} {t:TA} {id T:String} {r:List V->Hp->VK->Prop}
def tCB (r:List V->Hp->VK->Prop) (t:TA):TE:=fun σ H Q=>t σ H fun vs H1=>r vs H1 Q
theorem aDS (hc:aCM X (.builtin id) r) (hg:Gl X x) (hm:X.mg x=none) (hv:bootBuiltins x=some (.builtin id)) (ha:PA X (e :: es) t) (hn:x ≠ "__name__" := by decide) (hdb:(x == ("__debug__" : Str))=false:=by decide)
  (he:starEach (e :: es) X.env=(false,eval e X.env) :: starEach es X.env:=by rfl) (hpl:(backTo pos (starEach es X.env)).any (·.1)=false:=by rfl):PE X (.Call (.Name x p) (e :: es) [] pos) (tCB r t):=by
 intro pins s σ H Q I h
 refine wpAny_Call_Name_kw (aPW I hg hm hv ?_ hn hdb)
 exact PyProof.Rows.callWith_builtin1 (thn (ha pos pins s σ H _ I h) fun us s1 ⟨vs,H1,I1,r1,q1⟩=>hc pins s1 σ H1 vs us Q I1 r1 q1) he hpl
theorem aDE (hc:aCM X (.type T) r) (hg:Gl X x) (hm:X.mg x=none) (hv:bootBuiltins x=some (.type T)) (ha:PA X (e :: es) t) (hn:x ≠ "__name__" := by decide) (hdb:(x == ("__debug__" : Str))=false:=by decide)
  (he:starEach (e :: es) X.env=(false,eval e X.env) :: starEach es X.env:=by rfl) (hpl:(backTo pos (starEach es X.env)).any (·.1)=false:=by rfl):PE X (.Call (.Name x p) (e :: es) [] pos) (tCB r t):=by
 intro pins s σ H Q I h
 refine wpAny_Call_Name_kw (aPW I hg hm hv ?_ hn hdb)
 exact PyProof.Rows.callWith_type1 (thn (ha pos pins s σ H _ I h) fun us s1 ⟨vs,H1,I1,r1,q1⟩=>hc pins s1 σ H1 vs us Q I1 r1 q1) he hpl
end
end L2
namespace HT
open PySem PyProof.Rows
section
open PySem.SeqAt
open PySem.AutoSeq1 (wpAny_loadPart')
open PySem.MeetsSeq PySem.MeetsSeq2 PySem.MeetsSeq3
end
section
variable {prog:Program} {w:World} {A:Around} {E:Value->Shared->Prop} {s:Shared}
def sIx (n d:Nat):Option Int->Nat
 | none=>d
 | some v=>if v < 0 then (v+(n:Int)).toNat else min v.toNat n
theorem sIx_none (n d:Nat):sIx n d none=d:=rfl
theorem sIx_nat (n d k:Nat):sIx n d (some (k:Int))=min k n:=by
 show (if (k:Int) < 0 then ((k:Int)+(n:Int)).toNat else min (k:Int).toNat n)=min k n
 rw [if_neg (by omega),Int.toNat_natCast]
end
end HT
namespace L2
open PySem PySem.Spec PyProof.Rows
abbrev TO:=St->Hp->(Option Int->Hp->Prop)->Prop
def PO (X:Cx) (e:Option Expr) (t:TO):Prop:=
 ∀ (pins:List (Addr × Obj)) (s:Shared) (σ:St) (H:Hp) (Q:Option Int->Hp->Prop),Inv X pins σ H s->t σ H Q ->
  wpAny (model X.prog X.w) X.A (evalPart e X.env) (fun u s'=>∃ o H',Inv X pins σ H' s'/\IsPart u o/\Q o H') X.xe s
def eGL:TO:=fun _ H Q=>Q none H
def ePF (t:TE):TO:=fun σ H Q=>t σ H fun x H1=>∃ i,x = .int i/\Q (some i) H1
section
variable {X:Cx} {e:Expr} {te:TE} {lo hi:Option Expr} {tl th:TO} {pos p2:Pos}
theorem eHK:PO X none eGL:=by
 intro pins s σ H Q I h
 rw [evalPart_none]
 exact wpAny_pure ⟨none,H,I,.none,h⟩
theorem aRT (h:PE X e te):PO X (some e) (ePF te):=by
 intro pins s σ H Q I hw
 rw [evalPart_some]
 refine thn (h pins s σ H _ I hw) fun u s1 ⟨x,H1,I1,r1,q1⟩=>?_
 obtain ⟨i,rfl,q⟩:=q1
 obtain ⟨t,rfl⟩:=r1
 exact ⟨some i,H1,I1,.int i t,q⟩
def SlR (X:Cx) (r:V->Option Int->Option Int->Hp->VK->Prop):Prop:=
 ∀ (pins:List (Addr × Obj)) (s:Shared) (σ:St) (H:Hp) (x:V) (v vl vu:Value) (lo hi:Option Int) (sl:Addr) (Q:VK),Inv X pins σ H s->RelV x v->s.heap.IsSliceOf sl vl vu .none->IsPart vl lo->IsPart vu hi->r x lo hi H Q ->
  ∃ T id,typeLookup (.type T) "__getitem__" = pure (some (.builtin id))/\s.TypeIs v T/\wpAny (model X.prog X.w) X.A (getItem v (.ref sl)) (EP X pins σ Q) X.xe s
def tSl (r:V->Option Int->Option Int->Hp->VK->Prop) (te:TE) (tl th:TO):TE:=fun σ H Q=>te σ H fun x H1=>tl σ H1 fun l H2=>th σ H2 fun u H3=>r x l u H3 Q
theorem aTX {r:V->Option Int->Option Int->Hp->VK->Prop} (hr:SlR X r) (he:PE X e te) (hl:PO X lo tl) (hu:PO X hi th):PE X (.Subscript e (.Slice lo hi none p2) pos) (tSl r te tl th):=by
 intro pins s σ H Q I h
 refine Subscript_ (thn (he pins s σ H _ I h) fun v s1 ⟨x,H1,I1,r1,q1⟩=>?_)
 refine wpAny_Slice (thn (hl pins s1 σ H1 _ I1 q1) fun vl s2 ⟨l,H2,I2,pl,q2⟩=>thn (hu pins s2 σ H2 _ I2 q2) fun vu s3 ⟨u,H3,I3,pu,q3⟩=>?_)
 rw [evalPart_none]
 refine wpAny_pure ?_
 have I4:Inv X pins σ H3 { s3 with heap:=s3.heap.push { cls:=.type "slice",data:=.fields #[vl,vu,.none] } }:=I3.kept (t':=s3.toks) fun b ob q=>Heap.get?_push_of_some _ q
 obtain ⟨T,id,hT,ht,hg⟩:=hr pins { s3 with heap:=s3.heap.push { cls:=.type "slice",data:=.fields #[vl,vu,.none] } } σ H3 x v vl vu l u s3.heap.objs.size Q I4 r1 (Heap.IsSliceOf.new ..) pl pu q3
 show wpAny (model X.prog X.w) X.A (subscriptTail e (.Slice lo hi none p2) v (.ref s3.heap.objs.size)) (EP X pins σ Q) X.xe { s3 with heap:=s3.heap.push { cls:=.type "slice",data:=.fields #[vl,vu,.none] } }
 exact tail_any (ops:=[.ref s3.heap.objs.size,v]) ht hT hg (by with_unfolding_all rfl)
def eJU (xs:List V) (lo hi:Option Int):List V:=(xs.drop (HT.sIx xs.length 0 lo)).take (HT.sIx xs.length xs.length hi - HT.sIx xs.length 0 lo)
theorem aSL (xs:List V) (lo hi:Option Int):(eJU xs lo hi).length<=xs.length:=by
 unfold eJU
 rw [List.length_take,List.length_drop]
 omega
end
def ixN (n:Nat) (i:Int):Option Nat:=if 0<=i then (if i < n then some i.toNat else none) else if -(n:Int)<=i then some (i+n).toNat else none
def atI {α:Type} (xs:List α) (i:Int):Option α:=(ixN xs.length i).bind fun j=>xs[j]?
theorem aZL {n:Nat} {i:Int} {j:Nat} (h:ixN n i=some j):seqIndex? i n=some j/\j < n/\-(n:Int)<=i/\i < n:=by
 unfold ixN at h
 by_cases h0:0<=i
 ·rw [if_pos h0] at h
  by_cases h1:i < n
  ·rw [if_pos h1] at h
   have e:i.toNat=j:=Option.some.inj h
   exact ⟨by rw [seqIndex_of h0 h1,e],by omega,by omega,h1⟩
  ·rw [if_neg h1] at h; cases h
 ·rw [if_neg h0] at h
  by_cases h1 : -(n:Int)<=i
  ·rw [if_pos h1] at h
   have e:(i+n).toNat=j:=Option.some.inj h
   exact ⟨by rw [seqIndex_neg (by omega) h1,e],by omega,h1,by omega⟩
  ·rw [if_neg h1] at h; cases h
theorem aOG {α:Type} {xs:List α} {i:Int} {v:α} (h:atI xs i=some v):∃ j,seqIndex? i xs.length=some j/\xs[j]? = some v/\j < xs.length/\-(xs.length:Int)<=i/\i < xs.length:=by
 unfold atI at h
 cases e:ixN xs.length i with
 | none=>rw [e] at h; cases h
 | some j=>
  rw [e] at h
  obtain ⟨h1,h2,h3,h4⟩:=aZL e
  exact ⟨j,h1,h,h2,h3,h4⟩
theorem jR {α:Type} {xs:List α} {j:Nat} {v:α} (h:xs[j]? = some v):atI xs (j:Int)=some v:=by
 have hj:j < xs.length:=(List.getElem?_eq_some_iff.mp h).1
 have e:ixN xs.length (j:Int)=some j:=by
  unfold ixN
  rw [if_pos (by omega),if_pos (by omega)]; simp
 unfold atI; rw [e]; exact h
def aGH (b:Expr):Prop:=∀ o i,subscripted b false o i=operate [o,i] (getItem o i)
def IxR (X:Cx) (r:R2):Prop:=
 ∀ (value slice:Expr) (pins:List (Addr × Obj)) (s:Shared) (σ:St) (H:Hp) (x y:V) (v u:Value) (Q:VK),Inv X pins σ H s->RelV x v->RelV y u->r x y H Q ->
  subscripted slice false v u=operate [v,u] (getItem v u)->wpAny (model X.prog X.w) X.A (subscriptTail value slice v u) (EP X pins σ Q) X.xe s
def MtR (X:Cx) (id:String) (r:V->List V->Hp->VK->Prop):Prop:=
 ∀ (pins:List (Addr × Obj)) (s:Shared) (σ:St) (H:Hp) (x:V) (xs:List V) (v:Value) (us:List Value) (Q:VK),Inv X pins σ H s->RelV x v->Vals xs us->r x xs H Q ->
  wpAny (model X.prog X.w) X.A (call (.builtin id) (v :: us)) (EP X pins σ Q) X.xe s
section
variable {X:Cx} {a b:Expr} {ta tb:TE} {pos:Pos}
theorem eCJ {r:R2} (hr:IxR X r) (ha:PE X a ta) (hb:PE X b tb) (hs:aGH b):PE X (.Subscript a b pos) (tOp r ta tb):=by
 intro pins s σ H Q I h
 exact Subscript_ (eQR ha hb I h fun v u s2 x y H2 I2 rx ry q=>hr a b pins s2 σ H2 x y v u Q I2 rx ry q (hs _ _))
def eRB (K:PySem.W.Frag):R2:=fun x y H Q=>∃ p xs i v,x = .ref p/\y = .int i/\SqL K H p xs/\atI xs i=some v/\Q v H
def eSM (K:PySem.W.Frag):R2:=fun x y H Q=>∃ p xs i v,x = .ref p/\y = .int i/\SqT K H p xs/\atI xs i=some v/\Q v H
def eSN:R2:=fun x y H Q=>∃ z i c,x = .str z/\y = .int i/\z.length<=sizeLine/\atI z.cps.toList i=some c/\Q (.str ⟨#[c]⟩) H
theorem aZK:IxR X (eRB X.K):=by
 intro value slice pins s σ H x y v u Q I rx ry h hs
 obtain ⟨p,xs,i,z,rfl,rfl,hq,he,q⟩:=h
 cases rx
 obtain ⟨t,rfl⟩:=ry
 obtain ⟨its,r,pl,hz⟩:=I.list hq
 obtain ⟨j,h1,h2,h3,h4,h5⟩:=aOG he
 obtain ⟨w,ew,rw'⟩:=r.get h2
 have hl:=r.length
 have hn:=aGP
 have fin:EP X pins σ Q w s:=⟨z,H,I,rw',q⟩
 by_cases h0:0<=i
 ·have hj:i.toNat=j:=by
   rw [seqIndex_of h0 h5] at h1
   exact Option.some.inj h1
  exact item_listR pl.isList h0 (by omega) (by rw [hj]; simpa using ew) fin hs
 ·have hj:(i+(its.toArray.size:Int)).toNat=j:=by
   rw [seqIndex_neg (by omega) h4] at h1
   rw [List.size_toArray,<- hl]
   exact Option.some.inj h1
  exact subscriptTail_builtinR (x:=w) pl.isList.typeIs slot_list_getitem.lookup
   (wpAny_getItem_list_neg (Q:=fun r s'=>r=w/\EP X pins σ Q r s') pl.isList (by omega) (by rw [List.size_toArray] <;> omega) (by omega) (by rw [hj]; simpa using ew) ⟨rfl,fin⟩) hs
theorem eMV:IxR X (eSM X.K):=by
 intro value slice pins s σ H x y v u Q I rx ry h hs
 obtain ⟨p,xs,i,z,rfl,rfl,hq,he,q⟩:=h
 cases rx
 obtain ⟨t,rfl⟩:=ry
 obtain ⟨its,r,pl,hz⟩:=I.tuple hq
 obtain ⟨j,h1,h2,h3,h4,h5⟩:=aOG he
 obtain ⟨w,ew,rw'⟩:=r.get h2
 have hl:=r.length
 have hn:=aGP
 have fin:EP X pins σ Q w s:=⟨z,H,I,rw',q⟩
 exact subscriptTail_builtinR (x:=w) pl.typeIs slot_tuple_getitem.lookup
  (getItem_tuple (j:=j) (Q:=fun r s'=>r=w/\EP X pins σ Q r s') pl (by omega) (by omega) (by rw [List.size_toArray,<- hl]; exact h1) (by simpa using ew) ⟨rfl,fin⟩) hs
theorem eMW:IxR X eSN:=by
 intro value slice pins s σ H x y v u Q I rx ry h hs
 obtain ⟨z,i,c,rfl,rfl,hz,he,q⟩:=h
 obtain ⟨t,rfl⟩:=rx
 obtain ⟨t',rfl⟩:=ry
 obtain ⟨j,h1,h2,h3,h4,h5⟩:=aOG he
 have hl:z.cps.toList.length=z.length:=by simp [Str.length]
 rw [hl] at h1 h4 h5
 have hn:=aGP
 exact tail_any (typeIs_str s z t) slot_str_getitem.lookup (getItem_str (c:=c) (by
  have e1:decide (i < -(2 ^ 63:Int))=false:=decide_eq_false (by omega)
  have e2:decide (i ≥ 2 ^ 63)=false:=decide_eq_false (by omega)
  rw [e1,e2,Bool.or_false]) (by rw [h1]; simpa using h2) ⟨.str ⟨#[c]⟩,H,I.tok _,⟨_,rfl⟩,q⟩) hs
theorem aVS (its:List Value) (n j:Nat) (u:Value):Obj.mapSeq (·.setIfInBounds j u) { cls:=.type "list",data:=.seq its.toArray n } = { cls:=.type "list",data:=.seq (its.set j u).toArray n }:=by
 simp [Obj.mapSeq]
theorem Inv.lst {pins:List (Addr × Obj)} {σ:St} {H:Hp} {s:Shared} {p:Addr} {xs:List V} (I:Inv X pins σ H s) (h:H p=some (.lst xs)) :
  ∃ (its:List Value) (n:Nat),Vals xs its/\s.heap.get? p=some { cls:=.type "list",data:=.seq its.toArray n }/\xs.length<=sizeLine:=by
 obtain ⟨z,its,n,r,e⟩:=I.hok p _ h
 exact ⟨its,n,r,e,z⟩
theorem Inv.lstUpd {pins:List (Addr × Obj)} {σ:St} {H:Hp} {s:Shared} {p:Addr} {xs ys:List V} {its its':List Value} {n n':Nat} {f:Obj->Obj} (I:Inv X pins σ H s) (h:H p=some (.lst xs))
  (ho:s.heap.get? p=some { cls:=.type "list",data:=.seq its.toArray n }) (hf:f { cls:=.type "list",data:=.seq its.toArray n } = { cls:=.type "list",data:=.seq its'.toArray n' }) (r:Vals ys its') (hz:ys.length<=sizeLine) (t:Nat) :
  Inv X pins σ (upd H p (.lst ys)) { s with heap:=s.heap.update p f,toks:=t }:=by
 have e:(s.heap.update p f).get? p=some { cls:=.type "list",data:=.seq its'.toArray n' }:=by
  rw [Heap.get?_update_self f ho (by rw [hf] <;> rfl),hf]
 refine I.write (x:=p) (e:=p) (by rw [h]; trivial) (.inl rfl) (fun b u hb q=>(Heap.get?_update_other _ _ (Ne.symm hb)).trans q) ⟨_,e⟩ ?_
 exact ⟨hz,its',n',r,e⟩
def ePQ:V->V->V->Hp->(Hp->Prop)->Prop:=fun o i v H Q=>∃ p xs k j,o = .ref p/\i = .int k/\H p=some (.lst xs)/\ixN xs.length k=some j/\Q (upd H p (.lst (xs.set j v)))
theorem aTM:eOW X ePQ:=by
 intro pins s σ H o i v ov iv u Q I ro ri rv h
 obtain ⟨p,xs,k,j,rfl,rfl,hp,hj,q⟩:=h
 cases ro
 obtain ⟨t,rfl⟩:=ri
 obtain ⟨its,n,r,ho,hz⟩:=I.lst hp
 obtain ⟨h1,h2,h3,h4⟩:=aZL hj
 have hl:=r.length
 have hn:=aGP
 have I':Inv X pins σ (upd H p (.lst (xs.set j v))) { s with heap:=s.heap.update p (Obj.mapSeq (·.setIfInBounds j u)) }:=
  I.lstUpd hp ho (aVS its n j u) (r.set rv j) (by rw [List.length_set]; exact hz) s.toks
 by_cases h0:0<=k
 ·have hk:k.toNat=j:=by
   rw [seqIndex_of h0 h4] at h1
   exact Option.some.inj h1
  exact PySem.W.ki_setAt ho h0 (by omega) (by rw [List.size_toArray,<- hl]; exact h4) (by rw [hk]; exact ⟨_,I',q⟩)
 ·have hk:(k+(its.toArray.size:Int)).toNat=j:=by
   rw [seqIndex_neg (by omega) h3] at h1
   rw [List.size_toArray,<- hl]
   exact Option.some.inj h1
  exact PySem.W.ki_setBack ho (by omega) (by rw [List.size_toArray,<- hl]; exact h3) (by omega) (by rw [hk]; exact ⟨_,I',q⟩)
theorem aOP (lo hi:Option Int) (n:Nat):(sliceBounds lo hi none n).1=((HT.sIx n 0 lo:Nat):Int)/\(sliceBounds lo hi none n).2.1=((HT.sIx n n hi:Nat):Int)/\(sliceBounds lo hi none n).2.2=1:=by
 refine ⟨?_,?_,rfl⟩
 ·cases lo with
  | none=>simp [sliceBounds,HT.sIx]
  | some i=>
   simp only [sliceBounds,HT.sIx,Option.getD_none,show (1:Int) > 0 by decide,if_true]
   by_cases h:i < 0
   ·simp only [h,if_true] <;> omega
   ·simp only [h,if_false] <;> omega
 ·cases hi with
  | none=>simp [sliceBounds,HT.sIx]
  | some i=>
   simp only [sliceBounds,HT.sIx,Option.getD_none,show (1:Int) > 0 by decide,if_true]
   by_cases h:i < 0
   ·simp only [h,if_true] <;> omega
   ·simp only [h,if_false] <;> omega
theorem aMD (its:List Value) (lo hi:Option Int):slicePick its.toArray lo hi none=((its.drop (HT.sIx its.length 0 lo)).take (HT.sIx its.length its.length hi - HT.sIx its.length 0 lo)).toArray:=by
 obtain ⟨h1,h2,h3⟩:=aOP lo hi its.toArray.size
 unfold slicePick
 rw [h1,h2,h3]
 simp only [sliceRange_one,pick_run,List.size_toArray] <;> rfl
def eSJ (K:PySem.W.Frag):V->Option Int->Option Int->Hp->VK->Prop:=fun x lo hi H Q=>∃ a xs,x = .ref a/\SqL K H a xs/\∀ p,H p=none->Q (.ref p) (upd H p (.lst (eJU xs lo hi)))
theorem eGR:SlR X (eSJ X.K):=by
 intro pins s σ H x v vl vu lo hi sl Q I rx hs pl pu h
 obtain ⟨a,xs,rfl,hx,q⟩:=h
 cases rx
 obtain ⟨its,r,ht,hz⟩:=I.list hx
 have hlen:=r.length
 refine ⟨"list",_,slot_list_getitem.lookup,ht.isList.typeIs,?_⟩
 refine wpAny_getItem_list_slice ht.isList hs pl pu .none (by simp) ?_ (by rw [List.size_toArray] <;> omega)
 rw [aMD,<- hlen]
 refine ⟨.ref s.heap.objs.size,_,I.laid (t':=s.toks) (o:=.lst (eJU xs lo hi)) (fun b ob q=>Heap.get?_push_of_some _ q) (Nat.le_refl _) ?_,rfl,q _ (I.hok.fresh (Nat.le_refl _))⟩
 exact ⟨Nat.le_trans (aSL xs lo hi) hz,_,0,(r.drop (HT.sIx xs.length 0 lo)).take (HT.sIx xs.length xs.length hi - HT.sIx xs.length 0 lo),Heap.get?_push_size _ rfl⟩
theorem aGV:aCM X (.builtin "len") (fun xs H Q=>∃ p ys,xs=[.ref p]/\(SqL X.K H p ys\/SqT X.K H p ys)/\Q (.int ys.length) H):=by
 intro pins s σ H xs us Q I r h
 obtain ⟨p,ys,rfl,hq,q⟩:=h
 obtain ⟨u,rfl,rx⟩:=aFV r
 cases rx
 have hn:=aGP
 rcases hq with hq | hq
 ·obtain ⟨its,r',pl,hz⟩:=I.list hq
  have hlen:=r'.length
  exact Calls.call_len_list pl.isList (by simp only [List.size_toArray] <;> omega) ⟨.int ys.length,H,I.tok _,⟨s.toks+1,by rw [List.size_toArray,hlen]⟩,q⟩
 ·obtain ⟨its,r',pl,hz⟩:=I.tuple hq
  have hlen:=r'.length
  exact len_tuple pl (by simp only [List.size_toArray] <;> omega) ⟨.int ys.length,H,I.tok _,⟨s.toks+1,by rw [List.size_toArray,hlen]⟩,q⟩
theorem aQN:aCM X (.builtin "len") (fun xs H Q=>∃ z,xs=[.str z]/\z.length<=sizeLine/\Q (.int z.length) H):=by
 intro pins s σ H xs us Q I r h
 obtain ⟨z,rfl,hz,q⟩:=h
 obtain ⟨u,rfl,t,rfl⟩:=aFV r
 have hn:=aGP
 exact len_str (by omega) ⟨.int z.length,H,I.tok _,⟨_,rfl⟩,q⟩
theorem aQM:aCM X (.type "list") (fun xs H Q=>∃ p ys,xs=[.ref p]/\(SqL X.K H p ys\/SqT X.K H p ys)/\∀ l,H l=none->Q (.ref l) (upd H l (.lst ys))):=by
 intro pins s σ H xs us Q I r h
 obtain ⟨p,ys,rfl,hq,q⟩:=h
 obtain ⟨u,rfl,rx⟩:=aFV r
 cases rx
 have fin:∀ (its:List Value),Vals ys its->ys.length<=sizeLine->∀ (h':Heap) (c':Nat),(∀ b o',s.heap.get? b=some o'->h'.get? b=some o') ->
   h'.get? s.heap.objs.size=some { cls:=.type "list",dict:=none,data:=.seq its.toArray c',slots:=#[] }->EP X pins σ Q (.ref s.heap.objs.size) { s with heap:=h' }:=fun its r' hz h' c' kp e=>
  ⟨.ref s.heap.objs.size,_,I.laid (t':=s.toks) kp (Nat.le_refl _) (show ObjOk X.prog X.w _ h' _ (.lst ys) from ⟨hz,its,c',r',e⟩),rfl,q _ (I.hok.fresh (Nat.le_refl _))⟩
 rcases hq with hq | hq
 ·obtain ⟨its,r',pl,hz⟩:=I.list hq
  have hlen:=r'.length
  obtain ⟨o,ho,hc,n,hd⟩:=pl.isList
  exact call_list_seq p (.inl rfl) ho hc hd (fun h' c' kp e=>fin its r' hz h' c' kp e) (by simp only [List.size_toArray] <;> omega)
 ·obtain ⟨its,r',pl,hz⟩:=I.tuple hq
  have hlen:=r'.length
  obtain ⟨o,ho,hc,n,hd⟩:=pl
  exact call_list_seq p (.inr rfl) ho hc hd (fun h' c' kp e=>fin its r' hz h' c' kp e) (by simp only [List.size_toArray] <;> omega)
theorem aNV:aCM X (.type "tuple") (fun xs H Q=>∃ p ys,xs=[.ref p]/\((SqL X.K H p ys/\∀ l,H l=none->Q (.ref l) (upd H l (.tup ys)))\/(SqT X.K H p ys/\Q (.ref p) H))):=by
 intro pins s σ H xs us Q I r h
 obtain ⟨p,ys,rfl,h⟩:=h
 obtain ⟨u,rfl,rx⟩:=aFV r
 cases rx
 rcases h with ⟨hq,q⟩ | ⟨hq,q⟩
 ·obtain ⟨its,r',pl,hz⟩:=I.list hq
  have hlen:=r'.length
  refine call_tuple_list pl.isList (fun h' kp=>?_) (by simp only [List.size_toArray] <;> omega)
  have I1:Inv X pins σ H { s with heap:=h' }:=I.kept (t':=s.toks) kp
  have I2:Inv X pins σ (upd H h'.objs.size (.tup ys)) { s with heap:=h'.push { cls:=.type "tuple",data:=.seq its.toArray } }:=
   I1.laid (t':=s.toks) (fun b o e=>Heap.get?_push_of_some _ e) (Nat.le_refl _) (show ObjOk X.prog X.w _ _ _ (.tup ys) from ⟨hz,its,r',IsTup.new _ _⟩)
  exact ⟨.ref h'.objs.size,_,I2,rfl,q _ (I1.hok.fresh (Nat.le_refl _))⟩
 ·obtain ⟨its,r',pl,hz⟩:=I.tuple hq
  exact call_tuple_same pl ⟨.ref p,H,I,rfl,q⟩
def tyV (K:PySem.W.Frag) (T:String) (x:V) (H:Hp):Prop:=match x with
 | .str _=>T = "str"
 | .int _=>T = "int"
 | .ref p=>(T = "list" /\ ∃ xs,SqL K H p xs)\/(T = "tuple" /\ ∃ o,K.lookup p=some o/\o.cls = .type "tuple" /\ o.dict=none) \/
   (T = "dict" /\ ((∃ kvs,H p=some (.dK kvs))\/∃ kvs,H p=some (.dT kvs)))\/(T = "set" /\ ∃ S n,H p=some (.set S n))
 | _=>False
theorem eDM {pins:List (Addr × Obj)} {σ:St} {H:Hp} {s:Shared} {T:String} {x:V} {v:Value} (I:Inv X pins σ H s) (r:RelV x v) (ty:tyV X.K T x H) :
  s.TypeIs v T/\∀ a,v = .ref a->∃ ob,s.heap.get? a=some ob/\ob.dict=none:=by
 cases x with
 | str z=>
  obtain ⟨t,rfl⟩:=r
  cases (show T = "str" from ty)
  exact ⟨typeIs_str s z t,fun _ e=>nomatch e⟩
 | int i=>
  obtain ⟨t,rfl⟩:=r
  cases (show T = "int" from ty)
  exact ⟨typeIs_int s i t,fun _ e=>nomatch e⟩
 | ref p=>
  cases r
  rcases ty with ⟨rfl,xs,hq⟩ | ⟨rfl,o,hk,hc,hd⟩ | ⟨rfl,hk⟩ | ⟨rfl,S,n,hk⟩
  ·obtain ⟨its,_,pl,_⟩:=I.list hq
   refine ⟨pl.isList.typeIs,fun a e=>?_⟩
   cases e
   obtain ⟨o,n,e,c,hd,_⟩:=pl
   exact ⟨o,e,hd⟩
  ·refine ⟨⟨o,I.kIn p o hk,hc⟩,fun a e=>?_⟩
   cases e
   exact ⟨o,I.kIn _ o hk,hd⟩
  ·have z:∃ o,s.heap.get? p=some o/\o.ExactDict:=by
    rcases hk with ⟨kvs,hk⟩ | ⟨kvs,hk⟩
    ·obtain ⟨_,_,_,_,o,_,_,e,ex,_⟩:=I.hok p _ hk
     exact ⟨o,e,ex⟩
    ·obtain ⟨_,_,_,_,o,_,_,e,ex,_⟩:=I.hok p _ hk
     exact ⟨o,e,ex⟩
   obtain ⟨o,e,ex⟩:=z
   refine ⟨⟨o,e,ex.1⟩,fun a e2=>?_⟩
   cases e2
   exact ⟨o,e,ex.2.1⟩
  ·obtain ⟨o,_,_,_,e,ex,_⟩:=I.hok p _ hk
   refine ⟨⟨o,e,ex.1⟩,fun a e2=>?_⟩
   cases e2
   exact ⟨o,e,ex.2.1⟩
 | _=>exact False.elim ty
def eSE (K:PySem.W.Frag) (T:String) (r:V->List V->Hp->VK->Prop) (to:TE):TE:=fun σ H Q=>to σ H fun x H1=>tyV K T x H1/\r x [] H1 Q
def tBM (K:PySem.W.Frag) (T:String) (r:V->List V->Hp->VK->Prop) (to:TE) (t:TA):TE:=fun σ H Q=>to σ H fun x H1=>tyV K T x H1/\t σ H1 fun xs H2=>r x xs H2 Q
variable {o e:Expr} {es:List Expr} {to:TE} {t:TA} {name:Str} {apos cpos:Pos} {T id:String} {r:V->List V->Hp->VK->Prop}
theorem aTZ (pa:PlainAttrs T) (slot:Slot T name id) (hty:typeOf (.builtin id)=pure (.type "method_descriptor")) (hm:MtR X id r) (ho:PE X o to)
  (hbase:attributeBase o name X.env (eval o X.env)=eval o X.env:=by rfl) (hline:(apos.endLine == cpos.line)=true:=by rfl):PE X (.Call (.Attribute o name apos) [] [] cpos) (eSE X.K T r to):=by
 intro pins s σ H Q I h
 refine wpAny_Call_method0_late hbase hline (thn (ho pins s σ H _ I h) fun v s1 ⟨x,H1,I1,r1,ty,q1⟩=>?_)
 obtain ⟨h1,h2⟩:=eDM I1 r1 ty
 exact ⟨T,id,pa,slot,hty,h1,h2,Calls.callWith_builtin rfl (PySem.evalArgs_none (hm pins s1 σ H1 x [] v [] Q I1 r1 .nil q1))⟩
theorem eHO (pa:PlainAttrs T) (slot:Slot T name id) (hty:typeOf (.builtin id)=pure (.type "method_descriptor")) (hm:MtR X id r) (ho:PE X o to) (ha:PA X (e :: es) t)
  (hbase:attributeBase o name X.env (eval o X.env)=eval o X.env:=by rfl)
  (hfew:((backTo cpos (starEach (e :: es) X.env)).all (fun x=>!x.1) && (backToKw cpos (keywordEach [] X.env)).all (fun x=>x.1.isSome)
   && decide ((e :: es).length+([]:List Keyword).length+(if ([]:List Keyword).isEmpty then 0 else 1) < 30))=true:=by rfl)
  (hline:(apos.endLine == cpos.line)=true:=by rfl) (hs:starEach (e :: es) X.env=(false,eval e X.env) :: starEach es X.env:=by rfl) (hplain:(backTo cpos (starEach es X.env)).any (·.1)=false:=by rfl) :
  PE X (.Call (.Attribute o name apos) (e :: es) [] cpos) (tBM X.K T r to t):=by
 intro pins s σ H Q I h
 refine wpAny_Call_method_late hbase hfew hline rfl (thn (ho pins s σ H _ I h) fun v s1 ⟨x,H1,I1,r1,ty,q1⟩=>?_)
 obtain ⟨h1,h2⟩:=eDM I1 r1 ty
 refine ⟨T,id,pa,slot,hty,h1,h2,?_⟩
 have hA:=ha cpos pins s1 σ H1 _ I1 q1
 rw [hs] at hA ⊢
 refine Calls.callWith_builtin (by show (false || (backTo cpos (starEach es X.env)).any (·.1))=false; rw [hplain] <;> rfl) (Calls.evalArgs_plain ?_)
 exact thn hA fun us s2 ⟨vs,H2,I2,r2,q2⟩=>hm pins s2 σ H2 x vs v us Q I2 r1 r2 q2
/- xs.append(e),list.index on a module's tuple .. are MtR facts of 06m -/
end
def MtM (X:Cx) (id:String) (r:V->List V->Hp->VK->Prop):Prop:=
 ∀ (pins:List (Addr × Obj)) (s:Shared) (σ:St) (H:Hp) (x:V) (xs:List V) (v:Value) (us:List Value) (Q:VK),Inv X pins σ H s->RelV x v->Vals xs us->r x xs H Q ->
  wpAny (model X.prog X.w) X.A (call (.builtin id) (v :: us)) (EP X pins σ Q) X.xe s
theorem Vals.one:∀ {x:V} {us:List Value},Vals [x] us->∃ u,us=[u]/\RelV x u
 | _,_,.cons r .nil=>⟨_,rfl,r⟩
theorem Vals.zero:∀ {us:List Value},Vals [] us->us=[]
 | _,.nil=>rfl
theorem Vals.dropLast {xs:List V} {us:List Value} (h:Vals xs us):Vals xs.dropLast us.dropLast:=by
 induction h with
 | nil=>exact .nil
 | cons r t ih=>
  cases t with
  | nil=>exact .nil
  | cons q t'=>exact .cons r ih
theorem Vals.rep {xs:List V} {us:List Value} (h:Vals xs us):∀ k:Nat,Vals (List.replicate k xs).flatten (List.replicate k us).flatten
 | 0=>.nil
 | k+1=>by
  rw [List.replicate_succ,List.replicate_succ,List.flatten_cons,List.flatten_cons]
  exact Vals.append h (Vals.rep h k)
theorem aVX {α:Type} (l:List α):l.eraseIdx (l.length - 1)=l.dropLast:=by
 induction l with
 | nil=>rfl
 | cons a r ih=>
  cases r with
  | nil=>rfl
  | cons b r=>
   have e:(a :: b :: r).length - 1=((b :: r).length - 1)+1:=by
    have h1:(a :: b :: r).length=r.length+2:=rfl
    have h2:(b :: r).length=r.length+1:=rfl
    omega
   rw [e,List.eraseIdx_cons_succ,ih]
   all_goals rfl
theorem aPY (its:List Value):∀ (k:Nat) (acc:List Value),
  List.foldl (fun x1 x2=>x1++x2) acc.toArray (List.replicate k its.toArray)=(acc++(List.replicate k its).flatten).toArray
 | 0,acc=>by simp
 | k+1,acc=>by
  have e:acc.toArray++its.toArray=(acc++its).toArray:=by simp
  have e2:(acc++its)++(List.replicate k its).flatten=acc++(List.replicate (k+1) its).flatten:=by
   rw [List.replicate_succ,List.flatten_cons,List.append_assoc]
  rw [<- e2,<- aPY its k (acc++its),<- e,List.replicate_succ,List.foldl_cons]
section
variable {X:Cx} {pins:List (Addr × Obj)} {σ:St} {H:Hp} {s:Shared} {l b:Addr} {xs ys zs:List V}
theorem Inv.lset {its its':List Value} {n:Nat} {f:Array Value->Array Value} {t':Nat} (I:Inv X pins σ H s) (hH:H l=some (.lst xs))
  (e:s.heap.get? l=some { cls:=.type "list",data:=.seq its.toArray n }) (hf:f its.toArray=its'.toArray) (hv:Vals ys its') (hz:ys.length<=sizeLine) :
  Inv X pins σ (upd H l (.lst ys)) { s with heap:=s.heap.update l (Obj.mapSeq f),toks:=t' }:=by
 have q:=PySem.IsL.update e f
 rw [hf] at q
 refine I.write (x:=l) (e:=l) (by rw [hH]; exact trivial) (.inl rfl) (fun b' u hb hu=>(Heap.get?_update_other s.heap (Obj.mapSeq f) (Ne.symm hb)).trans hu) ⟨_,q⟩ ?_
 exact ⟨hz,its',_,hv,q⟩
theorem Inv.lnew {its:List Value} {t':Nat} (I:Inv X pins σ H s) (hv:Vals ys its) (hz:ys.length<=sizeLine) :
  Inv X pins σ (upd H s.heap.objs.size (.lst ys)) { s with heap:=s.heap.push { cls:=.type "list",data:=.seq its.toArray },toks:=t' }:=
 I.laid (fun _ _ q=>Heap.get?_push_of_some _ q) (Nat.le_refl _) ⟨hz,its,0,hv,Heap.get?_push_size _ rfl⟩
theorem Inv.fresh (I:Inv X pins σ H s):H s.heap.objs.size=none:=I.hok.fresh (Nat.le_refl _)
theorem Inv.lstM (I:Inv X pins σ H s) (hH:H l=some (.lst xs)):xs.length<=sizeLine/\∃ (its:List Value) (n:Nat),Vals xs its/\xs.length=its.length/\s.heap.get? l=some { cls:=.type "list",data:=.seq its.toArray n }:=by
 obtain ⟨z,its,n,r,e⟩:=I.hok l _ hH
 exact ⟨z,its,n,r,r.length,e⟩
theorem aUE {n:Nat} (h:n<=sizeLine):Builtin.List.listTooLong n=false:=by
 unfold Builtin.List.listTooLong
 exact decide_eq_false (by omega)
end
section
variable {X:Cx}
def eHC:V->List V->Hp->VK->Prop:=fun x vs H Q=>∃ l xs y,x = .ref l/\vs=[y]/\H l=some (.lst xs)/\xs.length < sizeLine/\Q .non (upd H l (.lst (xs++[y])))
theorem aFJ:MtM X "list.append" eHC:=by
 intro pins s σ H x vs v us Q I rx rv h
 obtain ⟨l,xs,y,rfl,rfl,hH,hz,q⟩:=h
 cases rx
 obtain ⟨u,rfl,ru⟩:=rv.one
 obtain ⟨z,its,n,r,hl,e⟩:=I.lstM hH
 refine call_meets F.slot_list_append ⟨_,e,rfl⟩ F.entry_list_append (F.args_list_append_2 _ _) (PySem.list_append l its.toArray n u (by rw [List.size_toArray]; omega)) ⟨e,?_⟩
 refine ⟨.non,_,I.lset (its':=its++[u]) hH e (by simp) (r.append (.cons ru .nil)) ?_,rfl,q⟩
 rw [List.length_append,List.length_singleton]
 omega
def eHB:V->List V->Hp->VK->Prop:=fun x vs H Q=>∃ l b xs zs,x = .ref l/\vs=[.ref b]/\H l=some (.lst xs)/\H b=some (.lst zs)/\xs.length+zs.length<=sizeLine/\Q .non (upd H l (.lst (xs++zs)))
theorem eMH:MtM X "list.extend" eHB:=by
 intro pins s σ H x vs v us Q I rx rv h
 obtain ⟨l,b,xs,zs,rfl,rfl,hH,hB,hz,q⟩:=h
 cases rx
 obtain ⟨u,rfl,ru⟩:=rv.one
 cases ru
 obtain ⟨z,its,n,r,hl,e⟩:=I.lstM hH
 obtain ⟨z2,its2,n2,r2,hl2,e2⟩:=I.lstM hB
 have hsz:its.toArray.size+its2.toArray.size<=sizeLine:=by rw [List.size_toArray,List.size_toArray]; omega
 have hlong:¬ (!its.toArray.isEmpty && Builtin.List.listTooLong (its.toArray.size+its2.toArray.size))=true:=by
  rw [aUE hsz,Bool.and_false]
  exact Bool.false_ne_true
 refine call_meets F.slot_list_extend ⟨_,e,rfl⟩ F.entry_list_extend (F.args_list_extend_2 _ _)
  (AutoSeq1.list_extend_list_list_0 l its.toArray n b its2.toArray n2 hlong (by rw [List.size_toArray]; omega) (by omega)) ⟨e,e2,?_⟩
 refine ⟨.non,_,I.lset (its':=its++its2) hH e (by simp) (r.append r2) ?_,rfl,q⟩
 rw [List.length_append]
 omega
def eSL:V->List V->Hp->VK->Prop:=fun x vs H Q=>∃ l xs y,x = .ref l/\vs=[]/\H l=some (.lst xs)/\xs[xs.length - 1]? = some y/\Q y (upd H l (.lst xs.dropLast))
theorem aYX:MtM X "list.pop" eSL:=by
 intro pins s σ H x vs v us Q I rx rv h
 obtain ⟨l,xs,y,rfl,rfl,hH,hy,q⟩:=h
 cases rx
 have hus:=rv.zero
 subst hus
 obtain ⟨z,its,n,r,hl,e⟩:=I.lstM hH
 obtain ⟨u,hu,ru⟩:=r.get hy
 have hy':its.toArray[its.toArray.size - 1]? = some u:=by
  show its.toArray[its.length - 1]? = some u
  rw [<- Array.getElem?_toList,<- hl]
  exact hu
 refine call_meets F.slot_list_pop ⟨_,e,rfl⟩ F.entry_list_pop (F.args_list_pop_1 _) (MeetsSeq.list_pop_last l its.toArray n u hy' (by rw [List.size_toArray]; omega)) ⟨e,?_⟩
 refine ⟨y,_,I.lset (its':=its.dropLast) hH e ?_ r.dropLast ?_,ru,q⟩
 ·show its.toArray.eraseIdxIfInBounds (its.toArray.size - 1)=its.dropLast.toArray
  rw [List.size_toArray,List.eraseIdxIfInBounds_toArray,aVX]
 ·rw [List.length_dropLast]
  omega
def eSO:R2:=fun x y H Q=>∃ l b xs zs,x = .ref l/\y = .ref b/\H l=some (.lst xs)/\H b=some (.lst zs)/\xs.length+zs.length<=sizeLine/\∀ p,H p=none->Q (.ref p) (upd H p (.lst (xs++zs)))
theorem eMA:OpR X (binaryOp .Add) eSO:=by
 intro pins s σ H x y v u Q I rx ry h
 obtain ⟨l,b,xs,zs,rfl,rfl,hH,hB,hz,q⟩:=h
 cases rx
 cases ry
 obtain ⟨z,its,n,r,hl,e⟩:=I.lstM hH
 obtain ⟨z2,its2,n2,r2,hl2,e2⟩:=I.lstM hB
 refine PySem.P.add_list e e2 ?_ (by rw [List.size_toArray,List.size_toArray]; omega)
 have ea:its.toArray++its2.toArray=(its++its2).toArray:=by simp
 rw [ea]
 exact ⟨.ref _,_,I.lnew (t':=s.toks) (r.append r2) (by rw [List.length_append]; omega),rfl,q _ I.fresh⟩
def eSK:R2:=fun x y H Q=>∃ l k xs,x = .ref l/\y = .int k/\H l=some (.lst xs)/\-(2 ^ 63)<=k/\k < 2 ^ 63/\xs.length * k.toNat<=sizeLine /\
 ∀ p,H p=none->Q (.ref p) (upd H p (.lst (List.replicate k.toNat xs).flatten))
theorem eIB {α:Type} (xs:List α) (k:Nat):(List.replicate k xs).flatten.length=k * xs.length:=by
 induction k with
 | zero=>simp
 | succ k ih=>rw [List.replicate_succ,List.flatten_cons,List.length_append,ih,Nat.succ_mul,Nat.add_comm]
theorem eLX:OpR X (binaryOp .Mult) eSK:=by
 intro pins s σ H x y v u Q I rx ry h
 obtain ⟨l,k,xs,rfl,rfl,hH,h1,h2,hz,q⟩:=h
 cases rx
 obtain ⟨t,rfl⟩:=ry
 obtain ⟨z,its,n,r,hl,e⟩:=I.lstM hH
 have hlen:its.toArray.size * k.toNat<=sizeLine:=by rw [List.size_toArray,<- hl]; exact hz
 have hcap:¬ its.toArray.size * k.toNat > (2 ^ 63 - 1) / 8:=by
  have:(sizeLine:Nat)<=(2 ^ 63 - 1) / 8:=by decide
  omega
 have hfit:¬ (!Builtin.List.listFitsIndex k)=true:=by
  rw [fitsIndex_both h1 h2]
  exact Bool.false_ne_true
 have hlong:¬ Builtin.List.listTooLong (its.toArray.size * k.toNat)=true:=by
  rw [aUE hlen]
  exact Bool.false_ne_true
 have hnew:List.foldl (fun x1 x2=>x1++x2) #[] (List.replicate (if its.toArray.isEmpty=true then 0 else k.toNat) its.toArray)=(List.replicate k.toNat its).flatten.toArray:=by
  have f0:∀ m:Nat,List.foldl (fun x1 x2=>x1++x2) #[] (List.replicate m its.toArray)=(List.replicate m its).flatten.toArray:=fun m=>by
   have:=aPY its m []
   rw [List.nil_append] at this
   exact this
  rw [f0]
  cases its with
  | nil=>simp
  | cons a r'=>rw [if_neg (by simp)]
 refine wpAny_binaryOp_repeat_ref (T := "list") (U := "int") (by decide) ⟨_,e,rfl⟩ (fun s'=>typeIs_int s' k t) noFill_list_mul F.fills_int_mul F.slot_int_rmul repeat_list F.slot_int_index.lookup
  (call_meets F.slot_int_rmul (typeIs_int s k t) F.entry_int_rmul (F.args_int_rmul_2 _ _) (int___rmul___int_list k t l its.toArray n)
   ⟨e,rfl,⟨_,e,rfl⟩,call_meets F.slot_list_mul ⟨_,e,rfl⟩ F.entry_list_mul (F.args_list_mul_2 _ _) (AutoListH.list___mul___list_int_3 l its.toArray n k t hfit hcap hlong) ⟨e,?_⟩⟩)
 rw [hnew]
 exact ⟨.ref _,_,I.lnew (t':=s.toks) (r.rep k.toNat) (by rw [eIB,Nat.mul_comm]; exact hz),rfl,q _ I.fresh⟩
end
end L2
namespace Att
open PySem PySem.W PySem.Calls PyProof.Rows
theorem aJJ {P:Params} {h:Heap}:∀ (ns:List Int) (vs:List Value),WellAll P h vs (ns.map WData.int)->IntsAre vs ns:=by
 intro ns
 induction ns with
 | nil=>
  intro vs w
  rw [List.map_nil] at w
  cases w
  exact .nil
 | cons n ns ih=>
  intro vs w
  rw [List.map_cons] at w
  cases w with
  | cons a b=>
   cases a
   exact .cons _ _ (ih _ b)
theorem aXN {l:OpenLaw} {n:Nat} (hn:l.most=some n) {P:Params} {h:Heap} {args:List WData} {vals:List Value}
  (hpre:l.row.toRowW.claim.pre args=true) (hwl:WellAll P h vals args) :
  ∃ a vs ns,vals=[Value.ref a]/\args=[WData.list (ns.map WData.int)]/\h.get? a=some { cls:=.type "list",data:=.seq vs.toArray }/\IntsAre vs ns/\ns.length<=n:=by
 have hsh:WShape.hasAll [] args [.list .int]=true:=(pre_splitW hpre).1
 have hc:l.pre.holds [] { args:=args }=true:=(pre_splitW hpre).2
 obtain ⟨d,r,rfl,h1,h2⟩:=hasAllW_cons hsh
 obtain rfl:=hasAllW_nil h2
 obtain ⟨xs,rfl,h3⟩:=hasW_list h1
 obtain ⟨ns,rfl⟩:=items_int h3
 have hlen:ns.length<=n:=by
  unfold OpenLaw.pre at hc
  have h4:(WTm.not (.lt (.lit (.int (n:Int))) (.len (.arg 0)))).holds [] { args:=[.list (ns.map .int)] }=true:=by
   have h4:=(holds_andW hc).1
   rw [hn] at h4
   exact h4
  have h5:=condW_of h4 (w_not (w_lt w_lit (w_len_list (w_arg rfl))))
  rw [List.length_map] at h5
  refine Nat.le_of_not_lt fun q=>?_
  have q':(n:Int) < ((ns.length:Nat):Int):=by omega
  first
   | (rw [decide_eq_true q'] at h5; exact absurd h5 (by decide))
   | (simp at h5; omega)
 cases hwl with
 | cons w1 w2=>
  cases w2
  cases w1 with
  | list ho hall=>exact ⟨_,_,ns,rfl,rfl,ho,aJJ ns _ hall,hlen⟩
theorem aYK (l:OpenLaw) (args:List WData):l.row.toRowW.claim.post args (.bool true) args=true:=
 postW_of (r:=l.row.toRowW) (X:=(true == true))
  (show WShape.has [] (.bool true) .bool=true by first | rfl | decide | simp [WShape.has,WShape.arms,WShape.armsAll])
  (show (WTm.eq .res (.lit (.bool true))).value [] { args:=args,res:=some (.bool true),after:=args }=some (.bool (true == true)) from w_eq_bool (w_res rfl) w_lit) rfl
theorem attach_call {l:OpenLaw} {n:Nat} {q:Program} {loose:List Str} {XP:(Str->Option Value)->Heap->Prop} {YP:World->Heap->Prop} {d:DefRec}
  (hn:l.most=some n) (hdf:d.params.defaults=[])
  (call:∀ (w:World) (s₀ s₁:Shared) (mg mb:Str->Option Value) (fa:Addr) (o:Obj) (pm cd doc:Value) (a:Addr) (vs:List Value) (ns:List Int),
   Ground q loose [] XP w s₀ mg mb s₁.heap->YP w s₁.heap ->
   s₁.heap.get? fa=some o->o.data = .func (docDef d.name d.params d.body d.scope pm cd doc)->s₁.heap.CodeRec cd d.name->mg d.name=some (.ref fa) ->
   s₁.heap.get? a=some { cls:=.type "list",data:=.seq vs.toArray }->IntsAre vs ns->ns.length<=n->s₁.gens = #[] ->
   codeAny (model l.prog w) callerA (.call (.ref fa) ⟨[.ref a],[]⟩) (fun r s'=>r = .ok (.ret (.bool true))/\OldK s₁.heap s'.heap/\s'.os=s₁.os/\AllBare s'.gens) s₁) :
  WalkO q loose XP YP l.row.toRowW d [] (fun f vs=>PySem.call f vs):=by
 intro w s₀ s₁ mg mb G Y fa o pm cd doc dV kV ho hd hcd hD hmg hg args vals as hpre hlay hrd hwl hlo
 obtain rfl:dV = .none:=Dflts.none hD hdf
 obtain rfl:kV = .none:=Dflts.noKw hD
 obtain ⟨a,vs,ns,rfl,rfl,hobj,hints,hlen⟩:=aXN hn hpre hwl
 refine enter_call (codeAny_mono (call w s₀ s₁ mg mb fa o pm cd doc a vs ns G Y ho (fd_plain hd) hcd hmg hobj hints hlen hg) fun r s' hq=>?_)
 obtain ⟨rfl,h2,h3,h4⟩:=hq
 exact ⟨.inl ⟨.bool true,.bool true,[],rfl,fun _=>rfl,.bool true,aYK l _,fun _=>⟨List.Pairwise.nil,fun _ hm=>(nomatch hm)⟩⟩,h2,h3,h4⟩
section
variable {prog:Program} {w:World} {A:Around} {E:Value->Shared->Prop} {s:Shared} {K:Frag}
def eRH (h:Heap) (L d:Addr):List (Addr × Obj):=(List.range h.objs.size).filterMap fun a=>if a=L\/a=d then none else (h.get? a).map fun o=>(a,o)
end
end Att
namespace L2
open PySem PySem.Spec PyProof.Rows
theorem aON:∀ {vs:List Value} {ns:List Int},IntsAre vs ns->Vals (ns.map V.int) vs
 | _,_,.nil=>.nil
 | _,_,.cons n t h=>.cons ⟨t,rfl⟩ (aON h)
def eQV (H:Hp):Prop:=∀ b,H b=none\/∃ o xs,H b=some (.frz o (.lst xs))
theorem eCT {P:Program} {w:World} {K:PySem.W.Frag} {mg mb:Str->Option Value} {CX:CXT} {k:Nat} {fa a:Addr} {fd:FuncData} {x:Str} {sp:Sp} {s₁:Shared} {vs:List Value} {ns:List Int}
  (KX:K.In s₁.heap) (hns:s₁.heap.Ns mainGlobals mg) (hb:s₁.heap.Ns builtinsNs mb) (hbb:∀ x:Str,x ≠ "__name__" -> mb x=bootBuiltins x) (hlim:s₁.heap.NoLimit) (hseer:s₁.heap.NoSeer) (hg:s₁.gens = #[])
  (ha:s₁.heap.get? a=some { cls:=.type "list",data:=.seq vs.toArray }) (hi:IntsAre vs ns) (hl:ns.length<=sizeLine) (hr:Room k callerA)
  (F:∀ base:Heap,K.In base->base.Ns mainGlobals mg->qL P w K mg base CX k fa fd [x] sp) (hbind:∀ (s:Shared) (u:Value),BindsTo s fd ⟨[u],[]⟩ [(x,u)])
  (hsp:∀ H:Hp,eQV H->SqL K H a (ns.map V.int)->sp [.ref a] H (fun v _=>v = .bl true) fun _ _ _=>False)
  (hCX:∀ H e s',CX [] H s₁ (fun _ _ _=>False) e s'->False) :
  codeAny (model P w) callerA (.call (.ref fa) ⟨[.ref a],[]⟩) (fun r s'=>r = .ok (.ret (.bool true))/\OldK s₁.heap s'.heap/\s'.os=s₁.os/\AllBare s'.gens) s₁:=by
 have rv:=aON hi
 have lenV:=hi.length
 have core:∀ H:Hp,eQV H->SqL K H a (ns.map V.int)->HOk P w H s₁.heap->(∀ b,H b≠none->b=a)->(H a≠none->K.lookup a=none) ->
   codeAny (model P w) callerA (.call (.ref fa) ⟨[.ref a],[]⟩) (fun r s'=>r = .ok (.ret (.bool true))/\OldK s₁.heap s'.heap/\s'.os=s₁.os/\AllBare s'.gens) s₁:=by
  intro H hO hS hok hA hK
  have base_of:∀ {b:Addr} {o:Obj},s₁.heap.get? b=some o->H b=none->(eBO s₁.heap H).get? b=some o:=fun e n=>eCW e n
  have noA:∀ {b:Addr} {o:Obj} {es:Array DictEntry} {ep:Nat},s₁.heap.get? b=some o->o.data = .dict es ep->H b=none:=fun {b o es ep} e d=>by
   cases q:H b with
   | none=>rfl
   | some u=>
    have e':b=a:=hA b (by rw [q]; simp)
    subst e'
    rw [ha] at e; cases e
    have d':Data.seq vs.toArray _=Data.dict es ep:=d
    cases d'
  have nsK:∀ {b:Addr} {m:Str->Option Value},s₁.heap.Ns b m->(eBO s₁.heap H).Ns b m:=fun {b m} ⟨o,es,ep,e,d,r⟩=>⟨o,es,ep,base_of e (noA e d),d,r⟩
  have hKb:K.In (eBO s₁.heap H):=fun b o e=>base_of (KX b o e) (by
   cases q:H b with
   | none=>rfl
   | some u=>
    have e':b=a:=hA b (by rw [q]; simp)
    subst e'
    rw [hK (by rw [q]; simp)] at e; cases e)
  have hSeer:(eBO s₁.heap H).NoSeer:={
   statics:=let ⟨mc,a1,b1⟩:=hseer.statics; ⟨mc,nsK a1,b1⟩
   mods:=let ⟨mc,a1,b1⟩:=hseer.mods; ⟨mc,nsK a1,b1⟩
   imp:=let ⟨mc,a1,b1⟩:=hseer.imp; ⟨mc,nsK a1,b1⟩
   main:=let ⟨mg',bm,ob,a1,b1,c1,d1,e1⟩:=hseer.main; ⟨mg',bm,ob,nsK a1,b1,base_of c1 (by
    cases q:H bm with
    | none=>rfl
    | some u=>
     have e':bm=a:=hA bm (by rw [q]; simp)
     subst e'
     rw [ha] at c1; cases c1
     injection d1 with d2
     exact absurd d2 (by decide)),d1,e1⟩ }
  have hM:Mod K mg (eBO s₁.heap H):=⟨hKb,nsK hns,⟨mb,nsK hb,hbb⟩,let ⟨mc,h1,h2⟩:=hlim; ⟨mc,nsK h1,h2⟩,hSeer⟩
  have e0:Env0 P w K mg (eBO s₁.heap H) callerA [] s₁ H:=⟨rfl,hM,fun b o e=>eHV e,Nat.le_of_eq (aZO _ _),trivial,fun b hb=>absurd (show b∈([]:List Addr) from hb) (by simp),hok,.of_eq hg⟩
  refine codeAny_mono ((F _ hKb (nsK hns)).run callerA [] s₁ H ⟨[.ref a],[]⟩ [.ref a] [.ref a] _ _ hr e0 (hbind s₁ (.ref a)) (.cons rfl .nil) (hsp H hO hS)) fun r s' h=>?_
  cases r with
  | error e=>exact (hCX H e s' h).elim
  | ok fl=>
   cases fl with
   | next=>exact False.elim h
   | brk=>exact False.elim h
   | cont=>exact False.elim h
   | ret u=>
    obtain ⟨v,H',os,bare,un,hok',r',q⟩:=h
    have q':v = .bl true:=q
    subst q'
    obtain rfl:u=Value.bool true:=r'
    refine ⟨rfl,OldK.of_keep fun b o e=>?_,os,bare⟩
    cases q:H b with
    | none=>exact un.keep b o e q (by intro z; exact absurd (show b∈([]:List Addr) from z) (by simp)) (by simp)
    | some u=>
     rcases hO b with z | ⟨ob,xs,z⟩
     ·rw [q] at z; cases z
     ·have z2:=un.frzs b ob _ z
      obtain ⟨e1,_⟩:=hok b _ z
      obtain ⟨e2,_⟩:=hok' b _ z2
      rw [e] at e1; cases e1
      exact e2
 cases hk:K.lookup a with
 | some o=>
  have e:=KX a o hk
  rw [ha] at e
  cases e
  refine core (fun _=>none) (fun _=>.inl rfl) (.inr ⟨_,vs.toArray,_,hk,rfl,rfl,rfl,by rw [List.size_toArray,lenV]; exact hl,by simpa using rv⟩) (fun b u z=>by have z':(none:Option HO)=some u:=z; cases z') (fun b z=>absurd rfl z) fun z=>absurd rfl z
 | none=>
  refine core (fun b=>if b=a then some (.frz { cls:=.type "list",data:=.seq vs.toArray } (.lst (ns.map V.int))) else none) (fun b=>?_) (.inl (.inr ⟨{ cls:=.type "list",data:=.seq vs.toArray },if_pos rfl⟩)) (fun b u z=>?_) (fun b z=>?_) fun _=>hk
  ·by_cases hb:b=a
   ·exact .inr ⟨_,_,if_pos hb⟩
   ·exact .inl (if_neg hb)
  ·by_cases hb:b=a
   ·have z':=(if_pos hb).symm.trans z
    cases z'
    subst hb
    exact ⟨ha,by rw [List.length_map]; exact hl,vs,_,rv,ha⟩
   ·have z':=(if_neg hb).symm.trans z
    cases z'
  ·by_cases hb:b=a
   ·exact hb
   ·exact absurd (if_neg hb) z
theorem walk_of {l:PySem.W.OpenLaw} {n k:Nat} {q:Program} {loose:List Str} {XP:(Str->Option Value)->Heap->Prop} {YP:World->Heap->Prop} {d:DefRec} {K:Params->PySem.W.Frag} {CX:World->CXT} {sp:World->Sp} {x:Str}
  (hq:importsNone q=true) (hn:l.most=some n) (hn2:n<=sizeLine) (hdf:d.params.defaults=[]) (hr:Room k callerA)
  (hY:∀ (w:World) (h:Heap),YP w h->(K w.params).In h)
  (F:∀ (w:World) (mg:Str->Option Value) (fa:Addr) (h:Heap),(K w.params).In h->h.Ns mainGlobals mg->mg d.name=some (.ref fa) ->
   ∃ fd:FuncData,(∀ (s:Shared) (u:Value),BindsTo s fd ⟨[u],[]⟩ [(x,u)]) /\
    ∀ base:Heap,(K w.params).In base->base.Ns mainGlobals mg->qL l.prog w (K w.params) mg base (CX w) k fa fd [x] (sp w))
  (hsp:∀ (w:World) (H:Hp) (a:Addr) (ns:List Int),ns.length<=n->eQV H->SqL (K w.params) H a (ns.map V.int)->sp w [.ref a] H (fun v _=>v = .bl true) fun _ _ _=>False)
  (hCX:∀ (w:World) (H:Hp) (s:Shared) (e:Value) (s':Shared),CX w [] H s (fun _ _ _=>False) e s'->False) :
  PySem.W.WalkO q loose XP YP l.row.toRowW d [] (fun f vs=>PySem.call f vs):=by
 refine Att.attach_call hn hdf fun w s₀ s₁ mg mb fa o pm cd doc a vs ns G Y ho hd hcd hmg hobj hints hlen hg=>?_
 have KX:=hY w _ Y
 obtain ⟨fd,hb,hF⟩:=F w mg fa _ KX G.T.g hmg
 exact eCT KX G.T.g G.T.b G.T.builtins G.T.nolimit (G.T.seer hq) hg hobj hints (Nat.le_trans hlen hn2) hr hF hb (fun H hO hS=>hsp w H a ns hlen hO hS) fun H e s'=>hCX w H s₁ e s'
end L2
/- THE LAST THEOREM (shape; LID,My.* are yours):
   My.Adr: a structure of the addresses that your layer names (classes,functions); My.Txt K t: a structure (Prop) of the equations over K;
   My.txt_mk : {K} {implicit addresses ..} (e1:nsIn K mainGlobals "law" = some (some (.ref f))) (e2:K.lookup f=some ⟨oc,od,.func (fnOf "law" "law" params body scope dV kV doc pm an cdv ct),sl⟩) (e3:codeIn K cdv "law" = true) .. : ∃ t,My.Txt K t
(the tactic k_is has no namespace: write k_is) -/
namespace L2
open PySem PySem.Spec PyProof.Rows
def yN (s:Stmt):Arguments:=match s with
 | .FunctionDef _ a _ _ _ _ _ _ _ _=>a
 | _=>{ posonlyargs:=[],args:=[],vararg:=none,kwonlyargs:=[],kw_defaults:=[],kwarg:=none,defaults:=[] }
def yF (s:Stmt):List Stmt:=match s with
 | .FunctionDef _ _ b _ _ _ _ _ _ _=>b
 | _=>[]
def yC (s:Stmt):Scope:=match s with
 | .FunctionDef _ _ _ _ _ _ sc _ _ _=>sc
 | _=>{ kind:=.function,names:=[],isGenerator:=false,isCoroutine:=false }
abbrev CX0:CXT:=fun _ _ _ _ _ _=>False
abbrev E0:XK:=fun _ _ _=>False
theorem aPJ {X:Cx}:aBZ CX0 X E0:=fun _ _ _ _ _ _ _ h=>h.elim
structure Fun (K:PySem.W.Frag) (x qual:Str) (st:Stmt) (f:Addr) (fd:FuncData):Prop where
 ex:∃ (oc:Value) (od:Option Addr) (kV doc pm:Value) (an:Option Addr) (cdv ct:Value) (osl:Array (Option Value)),
  fd=PySem.W.fnOf x qual (yN st) (yF st) (yC st) .none kV doc pm an cdv ct/\K.lookup f=some ⟨oc,od,.func fd,osl⟩/\PySem.W.codeIn K cdv qual=true
 kp:PySem.W.keepIn K (.ref f)=true
section
variable {P:Program} {w:World} {K:PySem.W.Frag} {mg:Str->Option Value} {base:Heap}
theorem Fun.ok {x qual:Str} {st:Stmt} {f:Addr} {fd:FuncData} {N ps:List Str} {k:Nat} {sp:Sp} (F:Fun K x qual st f fd) (S:yL N ps (yC st)) (len:∀ vs H Q E,sp vs H Q E->vs.length=ps.length)
  (hbody:∀ (cdv:Value) (A:Around) (outer:List Env) (s:Shared) (H:Hp) (vs:List V) (Q:VK) (E:XK),Room k (A.deeper (envOfC qual (yC st) s.heap.objs.size f cdv))->sp vs H Q E ->
   ∃ t,PSs (aUV CX0 P w K mg base N qual (yC st) f cdv A outer s H E).nox (yF st) t/\t { nx:=fun _ H'=>Q .non H',rt:=Q } (start N vs) H):qL P w K mg base CX0 (k+1) f fd ps sp:=by
 obtain ⟨oc,od,kV,doc,pm,an,cdv,ct,osl,rfl,lk,hcd⟩:=F.ex
 refine eQL lk hcd S len fun A outer s H vs Q E hr hsp=>?_
 obtain ⟨t,h,q⟩:=hbody cdv A outer s H vs Q E hr hsp
 exact ⟨t,h.nox,q⟩
theorem Fun.binds {x qual:Str} {st:Stmt} {f:Addr} {fd:FuncData} {ps:List Str} (F:Fun K x qual st f fd)
  (h:∀ (kV doc pm:Value) (an:Option Addr) (cdv ct:Value) (us:List Value),us.length=ps.length->bindArgs (PySem.W.fnOf x qual (yN st) (yF st) (yC st) .none kV doc pm an cdv ct) ⟨us,[]⟩=pure (ps.zip us)):Binds K fd ps []:=by
 obtain ⟨oc,od,kV,doc,pm,an,cdv,ct,osl,rfl,lk,hcd⟩:=F.ex
 exact .all (h kV doc pm an cdv ct)
theorem yW {x qual:Str} {st:Stmt} {f:Addr} {oc:Value} {od an:Option Addr} {osl:Array (Option Value)} {kV doc pm cdv ct:Value} (l:K.lookup f=some ⟨oc,od,.func (PySem.W.fnOf x qual (yN st) (yF st) (yC st) .none kV doc pm an cdv ct),osl⟩)
  (c:PySem.W.codeIn K cdv qual=true) (k:PySem.W.keepIn K (.ref f)=true):Fun K x qual st f (PySem.W.fnOf x qual (yN st) (yF st) (yC st) .none kV doc pm an cdv ct):=⟨⟨oc,od,kV,doc,pm,an,cdv,ct,osl,rfl,l,c⟩,k⟩
end
def Same (H H':Hp):Prop:=∀ b o,H b=some o->H' b=some o
theorem Same.refl (H:Hp):Same H H:=fun _ _ h=>h
theorem Same.trans {H H1 H2:Hp} (a:Same H H1) (b:Same H1 H2):Same H H2:=fun c o h=>b c o (a c o h)
theorem Same.free {H H':Hp} (e:Same H H') {l:Addr} (h:H' l=Option.none):H l=Option.none:=by
 cases q:H l with
 | none=>rfl
 | some o=>
  rw [e l o q] at h
  cases h
theorem Same.seq {K:PySem.W.Frag} {H H':Hp} {a:Addr} {xs:List V} (e:Same H H') (h:SqL K H a xs):SqL K H' a xs:=by
 rcases h with (h | ⟨o,h⟩) | h
 ·exact .inl (.inl (e _ _ h))
 ·exact .inl (.inr ⟨o,e _ _ h⟩)
 ·exact .inr h
end L2
namespace L2.EV
open PySem PySem.Spec PyProof.Rows
inductive D where
 | non | bl (b:Bool) | int (i:Int) | str (x:Str) | tup (xs:List D) | lst (xs:List D) | scr (ns:List Int) | exc (C:Addr) | exh (C ea:Addr) | dic (kvs:List (List Int × Int)) | adr (p:Addr) | stt (q:Addr)
def eNL (a C:Addr):Heap->Prop:=fun h=>∃ ob vs,h.get? a=some ob/\ob.cls = .ref C/\ob.data = .fields vs/\vs[2]? = some .none
def eQP (o:Obj) (xs:List (List Int × Addr × Int)):Prop:=o.ExactDict/\∃ (es:Array DictEntry) (ep:Nat) (ys:List (List Int × Addr × Value)),o.data = .dict es ep/\(∀ (P:Program) (w:World),es.toList=ys.map (entryOfKey (tupleKind (intKind P w)))) /\
 Paired (fun (x:List Int × Addr × Int) (y:List Int × Addr × Value)=>y.1=x.1/\y.2.1=x.2.1/\RelV (.int x.2.2) y.2.2) xs ys/\(ys.map (·.1)).Nodup
def aAX (a:Addr) (xs:List (List Int × Addr × Int)):Heap->Prop:=fun h=>xs.length<=sizeLine/\(a == sysModules)=false/\∃ o,h.get? a=some o/\eQP o xs
def DicR (F:Hp) (kvs:List (List Int × Int)) (xs:List (List Int × Addr × Int)):Prop:=kvs=xs.map (fun x=>(x.1,x.2.2))/\∀ x∈xs,F x.2.1=some (.tup (x.1.map V.int))
theorem DicR.mono {F F':Hp} {kvs:List (List Int × Int)} {xs:List (List Int × Addr × Int)} (h:Same F F') (r:DicR F kvs xs):DicR F' kvs xs:=⟨r.1,fun x hx=>h _ _ (r.2 x hx)⟩
mutual
inductive Rep (K:PySem.W.Frag) (F:Hp):V->D->Prop where
 | non:Rep K F .non .non
 | bl (b:Bool):Rep K F (.bl b) (.bl b)
 | int (i:Int):Rep K F (.int i) (.int i)
 | str (x:Str):Rep K F (.str x) (.str x)
 | tup {a:Addr} {vs:List V} {ds:List D}:F a=some (.tup vs)->RepL K F vs ds->Rep K F (.ref a) (.tup ds)
 | lst {a:Addr} {vs:List V} {ds:List D}:F a=some (.lst vs)->RepL K F vs ds->Rep K F (.ref a) (.lst ds)
 | scr {a:Addr} {ns:List Int}:SqL K F a (ns.map V.int)->Rep K F (.ref a) (.scr ns)
 | exc {a C:Addr} {ob:Obj}:F a=some (.frz ob (.ext (eNL a C)))->Rep K F (.ref a) (.exc C)
 | exh {a C:Addr} {ob:Obj}:F a=some (.frz ob (.ext (eNL a C)))->Rep K F (.ref a) (.exh C a)
 | dic {a:Addr} {ob:Obj} {kvs:List (List Int × Int)} {xs:List (List Int × Addr × Int)}:F a=some (.frz ob (.ext (aAX a xs)))->DicR F kvs xs->Rep K F (.ref a) (.dic kvs)
 | adr (a:Addr):Rep K F (.ref a) (.adr a)
 | stt {a q:Addr}:F a=some (.dK [(Sum.inr "xs",.ref q)])->Rep K F (.ref a) (.stt q)
inductive RepL (K:PySem.W.Frag) (F:Hp):List V->List D->Prop where
 | nil:RepL K F [] []
 | cons {v:V} {d:D} {vs:List V} {ds:List D}:Rep K F v d->RepL K F vs ds->RepL K F (v :: vs) (d :: ds)
end
section
variable {K:PySem.W.Frag} {F F':Hp}
mutual
theorem Rep.mono (h:Same F F'):∀ {v:V} {d:D},Rep K F v d->Rep K F' v d
 | _,_,.non=>.non
 | _,_,.bl b=>.bl b
 | _,_,.int i=>.int i
 | _,_,.str x=>.str x
 | _,_,.tup e r=>.tup (h _ _ e) (RepL.mono h r)
 | _,_,.lst e r=>.lst (h _ _ e) (RepL.mono h r)
 | _,_,.scr e=>.scr (h.seq e)
 | _,_,.exc e=>.exc (h _ _ e)
 | _,_,.exh e=>.exh (h _ _ e)
 | _,_,.dic e r=>.dic (h _ _ e) (r.mono h)
 | _,_,.adr a=>.adr a
 | _,_,.stt e=>.stt (h _ _ e)
theorem RepL.mono (h:Same F F'):∀ {vs:List V} {ds:List D},RepL K F vs ds->RepL K F' vs ds
 | _,_,.nil=>.nil
 | _,_,.cons r t=>.cons (Rep.mono h r) (RepL.mono h t)
end
theorem RepL.length:∀ {vs:List V} {ds:List D},RepL K F vs ds->vs.length=ds.length
 | _,_,.nil=>rfl
 | _,_,.cons _ t=>congrArg Nat.succ (RepL.length t)
theorem RepL.get:∀ {vs:List V} {ds:List D} {i:Nat} {d:D},RepL K F vs ds->ds[i]? = some d->∃ v,vs[i]? = some v/\Rep K F v d
 | _,_,_,_,.nil,e=>by simp at e
 | _,_,0,_,.cons r _,e=>by simp at e; subst e; exact ⟨_,rfl,r⟩
 | _,_,i+1,d,.cons _ t,e=>by
  obtain ⟨v,h1,h2⟩:=RepL.get (i:=i) (d:=d) t (by simpa using e)
  exact ⟨v,by simpa using h1,h2⟩
theorem RepL.append:∀ {vs us:List V} {ds es:List D},RepL K F vs ds->RepL K F us es->RepL K F (vs++us) (ds++es)
 | _,_,_,_,.nil,s=>s
 | _,_,_,_,.cons r t,s=>.cons r (RepL.append t s)
theorem RepL.take:∀ {vs:List V} {ds:List D} (n:Nat),RepL K F vs ds->RepL K F (vs.take n) (ds.take n)
 | _,_,0,_=>.nil
 | _,_,_+1,.nil=>.nil
 | _,_,n+1,.cons r t=>.cons r (RepL.take n t)
theorem RepL.drop:∀ {vs:List V} {ds:List D} (n:Nat),RepL K F vs ds->RepL K F (vs.drop n) (ds.drop n)
 | _,_,0,r=>r
 | _,_,_+1,.nil=>.nil
 | _,_,n+1,.cons _ t=>RepL.drop n t
theorem RepL.set {v:V} {d:D} (r:Rep K F v d):∀ {vs:List V} {ds:List D} (i:Nat),RepL K F vs ds->RepL K F (vs.set i v) (ds.set i d)
 | _,_,_,.nil=>.nil
 | _,_,0,.cons _ t=>.cons r t
 | _,_,i+1,.cons q t=>.cons q (RepL.set r i t)
theorem RepL.dropLast {vs:List V} {ds:List D} (h:RepL K F vs ds):RepL K F vs.dropLast ds.dropLast:=by
 rw [List.dropLast_eq_take,List.dropLast_eq_take,h.length]
 exact h.take _
theorem RepL.rep {vs:List V} {ds:List D} (h:RepL K F vs ds):∀ k:Nat,RepL K F (List.replicate k vs).flatten (List.replicate k ds).flatten
 | 0=>.nil
 | k+1=>by
  rw [List.replicate_succ,List.replicate_succ,List.flatten_cons,List.flatten_cons]
  exact RepL.append h (RepL.rep h k)
theorem RepL.ints:∀ ns:List Int,RepL K F (ns.map V.int) (ns.map D.int)
 | []=>.nil
 | n :: ns=>.cons (.int n) (RepL.ints ns)
theorem RepL.of_ints:∀ {ns:List Int} {vs:List V},RepL K F vs (ns.map D.int)->vs=ns.map V.int
 | [],_,h=>by cases h; rfl
 | n :: ns,_,h=>by
  cases h with
  | cons r t=>cases r; rw [List.map_cons,RepL.of_ints t]
end
structure B0 where
 F:Hp
 H:Hp
structure Ext (B:B0) (F H:Hp):Prop where
 sub:Same F H
 sh:Same B.H H
 sf:Same B.F F
 nw:∀ a,F a≠none->B.F a≠none\/B.H a=none
inductive Sl where
 | un | val (d:D) | own (xs:List D) | dct (kvs:List (List Int × Int))
structure DOk (B:B0) (F H:Hp) (σ:St) (ρ:List Sl):Prop where
 dcts:∀ (i:Nat) kvs,ρ[i]? = some (.dct kvs)->∃ a es,σ[i]? = some (some (.ref a))/\H a=some (.ext (aAX a es))/\F a=none/\B.H a=none/\DicR F kvs es
 distD:∀ (i j:Nat) xs ys a,ρ[i]? = some (.dct xs)->ρ[j]? = some (.dct ys)->σ[i]? = some (some (.ref a))->σ[j]? = some (some (.ref a))->i=j
theorem DOk.to {B:B0} {F F' H H':Hp} {σ σ':St} {ρ ρ':List Sl} (k:DOk B F H σ ρ) (hF:Same F F') (hH:∀ a φ,H a=some (.ext φ)->F a=none->B.H a=none->H' a=some (.ext φ)/\F' a=none)
  (hρ:∀ (i:Nat) kvs,ρ'[i]? = some (.dct kvs)->ρ[i]? = some (.dct kvs)/\σ'[i]? = σ[i]?):DOk B F' H' σ' ρ':=by
 refine ⟨fun i kvs e=>?_,fun i j xs ys a e1 e2 e3 e4=>?_⟩
 ·obtain ⟨q,z⟩:=hρ i kvs e
  obtain ⟨a,es,h1,h2,h3,h4,h5⟩:=k.dcts i kvs q
  obtain ⟨g1,g2⟩:=hH a _ h2 h3 h4
  exact ⟨a,es,z.trans h1,g1,g2,h4,h5.mono hF⟩
 ·obtain ⟨q1,z1⟩:=hρ i xs e1
  obtain ⟨q2,z2⟩:=hρ j ys e2
  exact k.distD i j xs ys a q1 q2 (z1 ▸ e3) (z2 ▸ e4)
theorem aRJ {σ:St} {ρ:List Sl} {i:Nat} {v:Option V} {s:Sl} (hs:∀ kvs,s ≠ .dct kvs) (j:Nat) (kvs:List (List Int × Int)) (h:(ρ.set i s)[j]? = some (.dct kvs)):ρ[j]? = some (.dct kvs)/\(σ.set i v)[j]? = σ[j]?:=by
 by_cases e:i=j
 ·subst e
  rw [List.getElem?_set_self'] at h
  cases z:ρ[i]? with
  | none=>rw [z] at h; cases h
  | some w=>rw [z] at h; exact absurd (Option.some.inj h) (hs kvs)
 ·rw [List.getElem?_set_ne e] at h ⊢
  exact ⟨h,rfl⟩
theorem aME {σ:St} {ρ:List Sl} {i:Nat} {s:Sl} (hs:∀ kvs,s ≠ .dct kvs) (j:Nat) (kvs:List (List Int × Int)) (h:(ρ.set i s)[j]? = some (.dct kvs)):ρ[j]? = some (.dct kvs)/\σ[j]? = σ[j]?:=
 ⟨(aRJ (σ:=[]) (v:=none) hs j kvs h).1,rfl⟩
structure Ok (K:PySem.W.Frag) (B:B0) (F H:Hp) (σ:St) (ρ:List Sl):Prop extends Ext B F H where
 len:σ.length=ρ.length
 vals:∀ (i:Nat) d,ρ[i]? = some (.val d)->∃ v,σ[i]? = some (some v)/\Rep K F v d
 owns:∀ (i:Nat) xs,ρ[i]? = some (.own xs)->∃ a vs,σ[i]? = some (some (.ref a))/\H a=some (.lst vs)/\F a=none/\B.H a=none/\RepL K F vs xs
 dist:∀ (i j:Nat) xs ys a,ρ[i]? = some (.own xs)->ρ[j]? = some (.own ys)->σ[i]? = some (some (.ref a))->σ[j]? = some (some (.ref a))->i=j
 dic:DOk B F H σ ρ
theorem yK {H:Hp} {p:Addr} {o:HO} (h:H p=none):Same H (upd H p o):=fun b u q=>by rw [yI (zZ q h)]; exact q
theorem aMA {F H:Hp} {p:Addr} {o:HO} (h:Same F H):Same (upd F p o) (upd H p o):=fun b u q=>by
 by_cases hb:b=p
 ·subst hb; rw [yH] at q ⊢; exact q
 ·rw [yI hb] at q ⊢; exact h b u q
section
variable {K:PySem.W.Frag} {B:B0} {F H F' H':Hp} {σ:St} {ρ:List Sl} {p:Addr} {o:HO}
theorem Ext.refl (h:Same F H):Ext ⟨F,H⟩ F H:=⟨h,.refl _,.refl _,fun a q=>.inl q⟩
theorem Ext.trans (x:Ext B F H) (y:Ext ⟨F,H⟩ F' H'):Ext B F' H':=
 ⟨y.sub,x.sh.trans y.sh,x.sf.trans y.sf,fun a q=>by
  rcases y.nw a q with z | z
  ·exact x.nw a z
  ·exact .inr (x.sh.free z)⟩
theorem Ext.grow (x:Ext B F H) (hp:H p=none):Ext B (upd F p o) (upd H p o):=
 ⟨aMA x.sub,x.sh.trans (yK hp),x.sf.trans (yK (x.sub.free hp)),fun a q=>by
  by_cases h:a=p
  ·subst h; exact .inr (x.sh.free hp)
  ·rw [yI h] at q; exact x.nw a q⟩
theorem Ok.ext (k:Ok K B F H σ ρ) (y:Ext ⟨F,H⟩ F' H'):Ok K B F' H' σ ρ:=by
 refine ⟨k.toExt.trans y,k.len,fun i d e=>?_,fun i xs e=>?_,k.dist,k.dic.to y.sf (fun a φ e1 e2 e3=>⟨y.sh _ _ e1,?_⟩) fun _ _ e=>⟨e,rfl⟩⟩
 rotate_left 2
 ·cases q:F' a with
  | none=>rfl
  | some u=>
   rcases y.nw a (by rw [q]; exact fun z=>nomatch z) with z | z
   ·exact absurd e2 z
   ·have z':H a=none:=z
    rw [e1] at z'; cases z'
 ·obtain ⟨v,h1,h2⟩:=k.vals i d e
  exact ⟨v,h1,h2.mono y.sf⟩
 ·obtain ⟨a,vs,h1,h2,h3,h4,h5⟩:=k.owns i xs e
  refine ⟨a,vs,h1,y.sh _ _ h2,?_,h4,h5.mono y.sf⟩
  cases q:F' a with
  | none=>rfl
  | some u=>
   rcases y.nw a (by rw [q]; exact fun z=>nomatch z) with z | z
   ·exact absurd h3 z
   ·have z':H a=none:=z
    rw [h2] at z'; cases z'
theorem Ok.growH (k:Ok K B F H σ ρ) (hp:H p=none):Ok K B F (upd H p o) σ ρ:=
 k.ext ⟨k.sub.trans (yK hp),yK hp,.refl _,fun a q=>.inl q⟩
def NoOwn (σ:St) (ρ:List Sl) (p:Addr):Prop:=∀ (i:Nat) xs,ρ[i]? = some (.own xs)->σ[i]? ≠ some (some (.ref p))
theorem Ok.noOwn (k:Ok K B F H σ ρ) (hp:H p=none):NoOwn σ ρ p:=fun i xs e q=>by
 obtain ⟨a,vs,h1,h2,_⟩:=k.owns i xs e
 rw [h1] at q
 cases q
 rw [hp] at h2; cases h2
theorem Ok.setVal {v:V} {d:D} (k:Ok K B F H σ ρ) (i:Nat) (r:Rep K F v d):Ok K B F H (σ.set i (some v)) (ρ.set i (.val d)):=by
 refine ⟨k.toExt,by rw [List.length_set,List.length_set,k.len],fun j e q=>?_,fun j xs q=>?_,fun j l xs ys a q1 q2 q3 q4=>?_,k.dic.to (.refl _) (fun _ _ e1 e2 _=>⟨e1,e2⟩) (aRJ fun _ z=>nomatch z)⟩
 ·by_cases h:i=j
  ·subst h
   rw [List.getElem?_set_self'] at q
   cases z:ρ[i]? with
   | none=>rw [z] at q; cases q
   | some w=>
    rw [z] at q; cases q
    have hi:i < σ.length:=by rw [k.len]; exact (List.getElem?_eq_some_iff.mp z).1
    exact ⟨v,by rw [List.getElem?_set_self hi],r⟩
  ·rw [List.getElem?_set_ne h] at q ⊢
   exact k.vals j e q
 ·by_cases h:i=j
  ·subst h
   rw [List.getElem?_set_self'] at q
   cases z:ρ[i]? with
   | none=>rw [z] at q; cases q
   | some w=>rw [z] at q; cases q
  ·rw [List.getElem?_set_ne h] at q ⊢
   exact k.owns j xs q
 ·have n1:i≠j:=by
   rintro rfl
   rw [List.getElem?_set_self'] at q1
   cases z:ρ[i]? with
   | none=>rw [z] at q1; cases q1
   | some w=>rw [z] at q1; cases q1
  have n2:i≠l:=by
   rintro rfl
   rw [List.getElem?_set_self'] at q2
   cases z:ρ[i]? with
   | none=>rw [z] at q2; cases q2
   | some w=>rw [z] at q2; cases q2
  rw [List.getElem?_set_ne n1] at q1 q3
  rw [List.getElem?_set_ne n2] at q2 q4
  exact k.dist j l xs ys a q1 q2 q3 q4
theorem Ok.setOwn {vs:List V} {ds:List D} (k:Ok K B F H σ ρ) (i:Nat) (hp:H p=some (.lst vs)) (hf:F p=none) (hb:B.H p=none) (hn:NoOwn σ ρ p) (r:RepL K F vs ds) :
  Ok K B F H (σ.set i (some (.ref p))) (ρ.set i (.own ds)):=by
 refine ⟨k.toExt,by rw [List.length_set,List.length_set,k.len],fun j e q=>?_,fun j xs q=>?_,fun j l xs ys a q1 q2 q3 q4=>?_,k.dic.to (.refl _) (fun _ _ e1 e2 _=>⟨e1,e2⟩) (aRJ fun _ z=>nomatch z)⟩
 ·by_cases h:i=j
  ·subst h
   rw [List.getElem?_set_self'] at q
   cases z:ρ[i]? with
   | none=>rw [z] at q; cases q
   | some w=>rw [z] at q; cases q
  ·rw [List.getElem?_set_ne h] at q ⊢
   exact k.vals j e q
 ·by_cases h:i=j
  ·subst h
   rw [List.getElem?_set_self'] at q
   cases z:ρ[i]? with
   | none=>rw [z] at q; cases q
   | some w=>
    rw [z] at q; cases q
    have hi:i < σ.length:=by rw [k.len]; exact (List.getElem?_eq_some_iff.mp z).1
    exact ⟨p,vs,by rw [List.getElem?_set_self hi],hp,hf,hb,r⟩
  ·rw [List.getElem?_set_ne h] at q ⊢
   exact k.owns j xs q
 ·by_cases n1:i=j
  ·by_cases n2:i=l
   ·exact n1.symm.trans n2
   ·subst n1
    rw [List.getElem?_set_ne n2] at q2 q4
    have hi:i < σ.length:=by
     have:=(List.getElem?_eq_some_iff.mp q3).1
     rw [List.length_set] at this; exact this
    rw [List.getElem?_set_self hi] at q3
    cases q3
    exact absurd q4 (hn l ys q2)
  ·by_cases n2:i=l
   ·subst n2
    rw [List.getElem?_set_ne n1] at q1 q3
    have hi:i < σ.length:=by
     have:=(List.getElem?_eq_some_iff.mp q4).1
     rw [List.length_set] at this; exact this
    rw [List.getElem?_set_self hi] at q4
    cases q4
    exact absurd q3 (hn j xs q1)
   ·rw [List.getElem?_set_ne n1] at q1 q3
    rw [List.getElem?_set_ne n2] at q2 q4
    exact k.dist j l xs ys a q1 q2 q3 q4
theorem Ok.chgOwn {vs ws:List V} {xs ds:List D} {i:Nat} (k:Ok K B F H σ ρ) (hi:ρ[i]? = some (.own xs)) (hs:σ[i]? = some (some (.ref p))) (r:RepL K F ws ds) :
  Ok K B F (upd H p (.lst ws)) σ (ρ.set i (.own ds)):=by
 obtain ⟨a,us,h1,h2,h3,h4,h5⟩:=k.owns i xs hi
 rw [h1] at hs
 cases hs
 have hlt:i < ρ.length:=(List.getElem?_eq_some_iff.mp hi).1
 refine ⟨⟨fun b u q=>?_,fun b u q=>?_,k.sf,k.nw⟩,by rw [List.length_set,k.len],fun j e q=>?_,fun j ys q=>?_,fun j l ys zs b q1 q2 q3 q4=>?_,k.dic.to (.refl _) (fun b φ e1 e2 _=>⟨by rw [yI (fun z=>by subst z; rw [h2] at e1; cases e1)]; exact e1,e2⟩) (aME fun _ z=>nomatch z)⟩
 ·have ne:b≠p:=fun z=>by subst z; rw [h3] at q; cases q
  rw [yI ne]; exact k.sub b u q
 ·have ne:b≠p:=fun z=>by subst z; rw [h4] at q; cases q
  rw [yI ne]; exact k.sh b u q
 ·by_cases h:i=j
  ·subst h
   rw [List.getElem?_set_self hlt] at q; cases q
  ·rw [List.getElem?_set_ne h] at q
   exact k.vals j e q
 ·by_cases h:i=j
  ·subst h
   rw [List.getElem?_set_self hlt] at q; cases q
   exact ⟨p,ws,h1,yH,h3,h4,r⟩
  ·rw [List.getElem?_set_ne h] at q
   obtain ⟨b,us',g1,g2,g3,g4,g5⟩:=k.owns j ys q
   have ne:b≠p:=fun z=>by subst z; exact h (k.dist i j xs ys b hi q h1 g1)
   exact ⟨b,us',g1,by rw [yI ne]; exact g2,g3,g4,g5⟩
 ·have own:∀ (m:Nat) ys,(ρ.set i (.own ds))[m]? = some (.own ys)->∃ zs,ρ[m]? = some (.own zs):=fun m ys q=>by
   by_cases h:i=m
   ·subst h; exact ⟨xs,hi⟩
   ·rw [List.getElem?_set_ne h] at q; exact ⟨ys,q⟩
  obtain ⟨y1,z1⟩:=own j ys q1
  obtain ⟨y2,z2⟩:=own l zs q2
  exact k.dist j l _ _ b z1 z2 q3 q4
theorem Ok.freezeAt {xs:List D} {i:Nat} (k:Ok K B F H σ ρ) (hi:ρ[i]? = some (.own xs)):∃ F',Same F F'/\Ok K B F' H σ (ρ.set i (.val (.lst xs))):=by
 obtain ⟨a,us,h1,h2,h3,h4,h5⟩:=k.owns i xs hi
 have hlt:i < ρ.length:=(List.getElem?_eq_some_iff.mp hi).1
 have sf:Same F (upd F a (.lst us)):=yK h3
 have nown:∀ (j:Nat) ys,(ρ.set i (.val (.lst xs)))[j]? = some (.own ys)->i≠j/\ρ[j]? = some (.own ys):=fun j ys q=>by
  by_cases h:i=j
  ·subst h; rw [List.getElem?_set_self hlt] at q; cases q
  ·rw [List.getElem?_set_ne h] at q; exact ⟨h,q⟩
 refine ⟨upd F a (.lst us),sf,⟨fun b u q=>?_,k.sh,k.sf.trans sf,fun b q=>?_⟩,by rw [List.length_set,k.len],fun j e q=>?_,fun j ys q=>?_,fun j l ys zs b q1 q2 q3 q4=>?_,k.dic.to sf (fun b φ e1 e2 _=>⟨e1,by rw [yI (fun z=>by subst z; rw [h2] at e1; cases e1)]; exact e2⟩) (aME fun _ z=>nomatch z)⟩
 ·by_cases h:b=a
  ·subst h; rw [yH] at q; cases q; exact h2
  ·rw [yI h] at q; exact k.sub b u q
 ·by_cases h:b=a
  ·subst h; exact .inr h4
  ·rw [yI h] at q; exact k.nw b q
 ·by_cases h:i=j
  ·subst h
   rw [List.getElem?_set_self hlt] at q; cases q
   exact ⟨_,h1,.lst yH (h5.mono sf)⟩
  ·rw [List.getElem?_set_ne h] at q
   obtain ⟨v,g1,g2⟩:=k.vals j e q
   exact ⟨v,g1,g2.mono sf⟩
 ·obtain ⟨h,q⟩:=nown j ys q
  obtain ⟨b,us',g1,g2,g3,g4,g5⟩:=k.owns j ys q
  have ne:b≠a:=fun z=>by subst z; exact h (k.dist i j xs ys b hi q h1 g1)
  exact ⟨b,us',g1,g2,by rw [yI ne]; exact g3,g4,g5.mono sf⟩
 ·exact k.dist j l _ _ b (nown j ys q1).2 (nown l zs q2).2 q3 q4
end
set_option autoImplicit false
structure wE (X:Cx) (e:Expr) (σ:St) (H:Hp) (Q:VK):Prop where
 go:∀ (pins:List (Addr × Obj)) (s:Shared),Inv X pins σ H s->wpAny (model X.prog X.w) X.A (eval e X.env) (EP X pins σ Q) X.xe s
instance wE_f {X:Cx} {e:Expr} {σ:St} {H:Hp} {Q:VK}:CoeFun (wE X e σ H Q) (fun _=>∀ (pins:List (Addr × Obj)) (s:Shared),Inv X pins σ H s->wpAny (model X.prog X.w) X.A (eval e X.env) (EP X pins σ Q) X.xe s):=⟨wE.go⟩
structure wT (X:Cx) (e:Expr) (σ:St) (H:Hp) (Q:(Bool->Hp->Prop)):Prop where
 go:∀ (pins:List (Addr × Obj)) (s:Shared),Inv X pins σ H s->wpAny (model X.prog X.w) X.A (isTrue e X.env (eval e X.env)) (TP X pins σ Q) X.xe s
instance wT_f {X:Cx} {e:Expr} {σ:St} {H:Hp} {Q:Bool->Hp->Prop}:CoeFun (wT X e σ H Q) (fun _=>∀ (pins:List (Addr × Obj)) (s:Shared),Inv X pins σ H s->wpAny (model X.prog X.w) X.A (isTrue e X.env (eval e X.env)) (TP X pins σ Q) X.xe s):=⟨wT.go⟩
structure wW (X:Cx) (e:Expr) (σ:St) (H:Hp) (Q:(Bool->Hp->Prop)):Prop where
 go:∀ (whole:Sem Value) (pins:List (Addr × Obj)) (s:Shared),Inv X pins σ H s->wpAny (model X.prog X.w) X.A (isTrue e X.env whole) (TP X pins σ Q) X.xe s
instance wW_f {X:Cx} {e:Expr} {σ:St} {H:Hp} {Q:Bool->Hp->Prop}:CoeFun (wW X e σ H Q) (fun _=>∀ (whole:Sem Value) (pins:List (Addr × Obj)) (s:Shared),Inv X pins σ H s->wpAny (model X.prog X.w) X.A (isTrue e X.env whole) (TP X pins σ Q) X.xe s):=⟨wW.go⟩
structure wA (X:Cx) (es:List Expr) (σ:St) (H:Hp) (Q:(List V->Hp->Prop)):Prop where
 go:∀ (pos:Pos) (pins:List (Addr × Obj)) (s:Shared),Inv X pins σ H s->wpAny (model X.prog X.w) X.A (spliced (backTo pos (starEach es X.env))) (AP X pins σ Q) X.xe s
instance wA_f {X:Cx} {es:List Expr} {σ:St} {H:Hp} {Q:List V->Hp->Prop}:CoeFun (wA X es σ H Q) (fun _=>∀ (pos:Pos) (pins:List (Addr × Obj)) (s:Shared),Inv X pins σ H s->wpAny (model X.prog X.w) X.A (spliced (backTo pos (starEach es X.env))) (AP X pins σ Q) X.xe s):=⟨wA.go⟩
structure wS (X:Cx) (st:Stmt) (D:aFS) (σ:St) (H:Hp):Prop where
 go:∀ (pins:List (Addr × Obj)) (s:Shared),Inv X pins σ H s->wpAny (model X.prog X.w) X.A (exec st X.env) (SP X pins D) X.xe s
instance wS_f {X:Cx} {st:Stmt} {D:aFS} {σ:St} {H:Hp}:CoeFun (wS X st D σ H) (fun _=>∀ (pins:List (Addr × Obj)) (s:Shared),Inv X pins σ H s->wpAny (model X.prog X.w) X.A (exec st X.env) (SP X pins D) X.xe s):=⟨wS.go⟩
structure wSs (X:Cx) (st:List Stmt) (D:aFS) (σ:St) (H:Hp):Prop where
 go:∀ (pins:List (Addr × Obj)) (s:Shared),Inv X pins σ H s->wpAny (model X.prog X.w) X.A (execs st X.env) (SP X pins D) X.xe s
instance wSs_f {X:Cx} {st:List Stmt} {D:aFS} {σ:St} {H:Hp}:CoeFun (wSs X st D σ H) (fun _=>∀ (pins:List (Addr × Obj)) (s:Shared),Inv X pins σ H s->wpAny (model X.prog X.w) X.A (execs st X.env) (SP X pins D) X.xe s):=⟨wSs.go⟩
structure wO (X:Cx) (e:Option Expr) (σ:St) (H:Hp) (Q:(Option Int->Hp->Prop)):Prop where
 go:∀ (pins:List (Addr × Obj)) (s:Shared),Inv X pins σ H s->wpAny (model X.prog X.w) X.A (evalPart e X.env) (fun u s'=>∃ o H',Inv X pins σ H' s'/\IsPart u o/\Q o H') X.xe s
instance wO_f {X:Cx} {e:Option Expr} {σ:St} {H:Hp} {Q:Option Int->Hp->Prop}:CoeFun (wO X e σ H Q) (fun _=>∀ (pins:List (Addr × Obj)) (s:Shared),Inv X pins σ H s->wpAny (model X.prog X.w) X.A (evalPart e X.env) (fun u s'=>∃ o H',Inv X pins σ H' s'/\IsPart u o/\Q o H') X.xe s):=⟨wO.go⟩
structure wG (X:Cx) (e:Expr) (v:V) (σ:St) (H:Hp) (Q:(St->Hp->Prop)):Prop where
 go:∀ (pins:List (Addr × Obj)) (s:Shared) (u:Value),Inv X pins σ H s->RelV v u->wpAny (model X.prog X.w) X.A (assign e X.env u) (fun _ s'=>∃ σ' H',Inv X pins σ' H' s'/\Q σ' H') X.xe s
instance wG_f {X:Cx} {e:Expr} {v:V} {σ:St} {H:Hp} {Q:St->Hp->Prop}:CoeFun (wG X e v σ H Q) (fun _=>∀ (pins:List (Addr × Obj)) (s:Shared) (u:Value),Inv X pins σ H s->RelV v u->wpAny (model X.prog X.w) X.A (assign e X.env u) (fun _ s'=>∃ σ' H',Inv X pins σ' H' s'/\Q σ' H') X.xe s):=⟨wG.go⟩
section
variable {X:Cx} {e:Expr} {es:List Expr} {st:Stmt} {sts:List Stmt} {oe:Option Expr}
theorem yX:PE X e (wE X e):=fun pins s _ _ _ I h=>h pins s I
theorem aKR:PT X e (wT X e):=fun pins s _ _ _ I h=>h pins s I
theorem eOQ:PW X e (wW X e):=fun wh pins s _ _ _ I h=>h wh pins s I
theorem aVP:PA X es (wA X es):=fun pos pins s _ _ _ I h=>h pos pins s I
theorem aWO:PS X st (wS X st):=fun pins s _ _ _ I h=>h pins s I
theorem jF:PSs X sts (wSs X sts):=fun pins s _ _ _ I h=>h pins s I
theorem eRD:PO X oe (wO X oe):=fun pins s _ _ _ I h=>h pins s I
theorem eJT:PG X e (wG X e):=fun pins s _ _ _ u _ I r h=>h pins s u I r
end
abbrev Rho:=List Sl
def EvE (X:Cx) (ρ:Rho) (e:Expr) (d:D):Prop:=∀ (B:B0) (F H:Hp) (σ:St) (Q:VK),Ok X.K B F H σ ρ ->
 (∀ v F' H',Ext ⟨F,H⟩ F' H'->Rep X.K F' v d->Q v H')->wE X e σ H Q
def EvN (X:Cx) (ρ:Rho) (e:Expr) (xs:List D):Prop:=∀ (B:B0) (F H:Hp) (σ:St) (Q:VK),Ok X.K B F H σ ρ ->
 (∀ p vs F' H',Ext ⟨F,H⟩ F' H'->H p=none->H' p=some (.lst vs)->F' p=none->RepL X.K F' vs xs->Q (.ref p) H')->wE X e σ H Q
def SqB (K:PySem.W.Frag) (k:Bool) (H:Hp) (a:Addr) (vs:List V):Prop:=if k=true then SqL K H a vs else SqT K H a vs
def EvQ (X:Cx) (ρ:Rho) (e:Expr) (k:Bool) (xs:List D):Prop:=∀ (B:B0) (F H:Hp) (σ:St) (Q:VK),Ok X.K B F H σ ρ ->
 (∀ a vs F' H',Ext ⟨F,H⟩ F' H'->SqB X.K k H' a vs->RepL X.K F' vs xs->Q (.ref a) H')->wE X e σ H Q
def EvT (X:Cx) (ρ:Rho) (e:Expr) (b:Bool):Prop:=∀ (B:B0) (F H:Hp) (σ:St) (Q:Bool->Hp->Prop),Ok X.K B F H σ ρ ->
 (∀ F' H',Ext ⟨F,H⟩ F' H'->Q b H')->wT X e σ H Q
def EvW (X:Cx) (ρ:Rho) (e:Expr) (b:Bool):Prop:=∀ (B:B0) (F H:Hp) (σ:St) (Q:Bool->Hp->Prop),Ok X.K B F H σ ρ ->
 (∀ F' H',Ext ⟨F,H⟩ F' H'->Q b H')->wW X e σ H Q
def Pl (e:Expr):Prop:=∀ (es:List Expr) (env:Env),starEach (e :: es) env=(false,eval e env) :: starEach es env
def PlA:List Expr->Prop
 | []=>True
 | e :: es=>Pl e/\PlA es
theorem PlA.any {env:Env} {pos:Pos}:∀ {es:List Expr},PlA es->(backTo pos (starEach es env)).any (·.1)=false
 | [],_=>rfl
 | e :: es,h=>by
  rw [h.1 es env]
  show (false || (backTo pos (starEach es env)).any (·.1))=false
  rw [PlA.any h.2]; rfl
def EvA (X:Cx) (ρ:Rho) (es:List Expr) (ds:List D):Prop:=PlA es/\∀ (B:B0) (F H:Hp) (σ:St) (Q:List V->Hp->Prop),Ok X.K B F H σ ρ ->
 (∀ vs F' H',Ext ⟨F,H⟩ F' H'->RepL X.K F' vs ds->Q vs H')->wA X es σ H Q
def EvO (X:Cx) (ρ:Rho) (e:Option Expr) (o:Option Int):Prop:=∀ (B:B0) (F H:Hp) (σ:St) (Q:Option Int->Hp->Prop),Ok X.K B F H σ ρ ->
 (∀ F' H',Ext ⟨F,H⟩ F' H'->Q o H')->wO X e σ H Q
inductive Out where
 | nx (ρ:Rho) | rt (d:D)
def Post (K:PySem.W.Frag) (B:B0) (F₀:Hp) (E:aFS):Out->Prop
 | .nx ρ=>∀ F H σ,Ok K B F H σ ρ->Same F₀ F->E.nx σ H
 | .rt d=>∀ v F H,Ext B F H->Rep K F v d->E.rt v H
theorem Post.later {K:PySem.W.Frag} {B:B0} {F₀ F₁:Hp} {E:aFS} {o:Out} (h:Post K B F₀ E o) (s:Same F₀ F₁):Post K B F₁ E o:=by
 cases o with
 | nx ρ=>exact fun F H σ k s'=>h F H σ k (s.trans s')
 | rt d=>exact h
def EvS (X:Cx) (ρ:Rho) (st:Stmt) (o:Out):Prop:=∀ (B:B0) (F H:Hp) (σ:St) (E:aFS),Ok X.K B F H σ ρ->Post X.K B F E o->wS X st E σ H
def EvSs (X:Cx) (ρ:Rho) (sts:List Stmt) (o:Out):Prop:=∀ (B:B0) (F H:Hp) (σ:St) (E:aFS),Ok X.K B F H σ ρ->Post X.K B F E o->wSs X sts E σ H
def EvG (X:Cx) (ρ:Rho) (tg:Expr) (d:D) (ρ':Rho):Prop:=∀ (B:B0) (F H:Hp) (σ:St) (v:V) (Q:St->Hp->Prop),Ok X.K B F H σ ρ->Rep X.K F v d ->
 (∀ F' H' σ',Ok X.K B F' H' σ' ρ'->Same F F'->Q σ' H')->wG X tg v σ H Q
def EvGn (X:Cx) (ρ:Rho) (tg:Expr) (d:D) (ρ':Rho):Prop:=∀ (B:B0) (F H:Hp) (σ:St) (v:V) (Q:St->Hp->Prop),Ok X.K B F H σ ρ->Rep X.K F v d ->
 (∀ σ',Ok X.K B F H σ' ρ'->(∀ p,NoOwn σ ρ p->NoOwn σ' ρ' p)->Q σ' H)->wG X tg v σ H Q
theorem Ext.t {F H F' H' F2 H2:Hp} (x:Ext ⟨F,H⟩ F' H') (y:Ext ⟨F',H'⟩ F2 H2):Ext ⟨F,H⟩ F2 H2:=x.trans y
section
variable {X:Cx} {ρ:Rho} {e a b c:Expr} {d:D} {pos:Pos}
theorem EvE.of {t:TE} (h:PE X e t) (r:∀ (B:B0) (F H:Hp) (σ:St) (Q:VK),Ok X.K B F H σ ρ->(∀ v F' H',Ext ⟨F,H⟩ F' H'->Rep X.K F' v d->Q v H')->t σ H Q):EvE X ρ e d:=
 fun B F H σ Q k q=>.mk fun pins s I=>h pins s σ H Q I (r B F H σ Q k q)
theorem EvN.of {t:TE} {xs:List D} (h:PE X e t) (r:∀ (B:B0) (F H:Hp) (σ:St) (Q:VK),Ok X.K B F H σ ρ ->
  (∀ p vs F' H',Ext ⟨F,H⟩ F' H'->H p=none->H' p=some (.lst vs)->F' p=none->RepL X.K F' vs xs->Q (.ref p) H')->t σ H Q):EvN X ρ e xs:=
 fun B F H σ Q k q=>.mk fun pins s I=>h pins s σ H Q I (r B F H σ Q k q)
theorem EvQ.of {t:TE} {k:Bool} {xs:List D} (h:PE X e t) (r:∀ (B:B0) (F H:Hp) (σ:St) (Q:VK),Ok X.K B F H σ ρ ->
  (∀ a vs F' H',Ext ⟨F,H⟩ F' H'->SqB X.K k H' a vs->RepL X.K F' vs xs->Q (.ref a) H')->t σ H Q):EvQ X ρ e k xs:=
 fun B F H σ Q k q=>.mk fun pins s I=>h pins s σ H Q I (r B F H σ Q k q)
theorem EvT.of {t:TT} {b:Bool} (h:PT X e t) (r:∀ (B:B0) (F H:Hp) (σ:St) (Q:Bool->Hp->Prop),Ok X.K B F H σ ρ->(∀ F' H',Ext ⟨F,H⟩ F' H'->Q b H')->t σ H Q):EvT X ρ e b:=
 fun B F H σ Q k q=>.mk fun pins s I=>h pins s σ H Q I (r B F H σ Q k q)
theorem EvW.of {t:TT} {b:Bool} (h:PW X e t) (r:∀ (B:B0) (F H:Hp) (σ:St) (Q:Bool->Hp->Prop),Ok X.K B F H σ ρ->(∀ F' H',Ext ⟨F,H⟩ F' H'->Q b H')->t σ H Q):EvW X ρ e b:=
 fun B F H σ Q k q=>.mk fun wh pins s I=>h wh pins s σ H Q I (r B F H σ Q k q)
theorem EvS.of {st:Stmt} {o:Out} {t:TS} (h:PS X st t) (r:∀ (B:B0) (F H:Hp) (σ:St) (E:aFS),Ok X.K B F H σ ρ->Post X.K B F E o->t E σ H):EvS X ρ st o:=
 fun B F H σ E k q=>.mk fun pins s I=>h pins s σ H E I (r B F H σ E k q)
theorem EvSs.of {sts:List Stmt} {o:Out} {t:TS} (h:PSs X sts t) (r:∀ (B:B0) (F H:Hp) (σ:St) (E:aFS),Ok X.K B F H σ ρ->Post X.K B F E o->t E σ H):EvSs X ρ sts o:=
 fun B F H σ E k q=>.mk fun pins s I=>h pins s σ H E I (r B F H σ E k q)
theorem EvG.of {ρ':Rho} {t:TG} (h:PG X e t) (r:∀ (B:B0) (F H:Hp) (σ:St) (v:V) (Q:St->Hp->Prop),Ok X.K B F H σ ρ->Rep X.K F v d->(∀ F' H' σ',Ok X.K B F' H' σ' ρ'->Same F F'->Q σ' H')->t v σ H Q):EvG X ρ e d ρ':=
 fun B F H σ v Q k rv q=>.mk fun pins s u I ru=>h pins s σ H v u Q I ru (r B F H σ v Q k rv q)
theorem EvGn.of {ρ':Rho} {t:TG} (h:PG X e t) (r:∀ (B:B0) (F H:Hp) (σ:St) (v:V) (Q:St->Hp->Prop),Ok X.K B F H σ ρ->Rep X.K F v d->(∀ σ',Ok X.K B F H σ' ρ'->(∀ p,NoOwn σ ρ p->NoOwn σ' ρ' p)->Q σ' H)->t v σ H Q):EvGn X ρ e d ρ':=
 fun B F H σ v Q k rv q=>.mk fun pins s u I ru=>h pins s σ H v u Q I ru (r B F H σ v Q k rv q)
theorem NoOwn.setVal {σ:St} {ρ:Rho} {p:Addr} (h:NoOwn σ ρ p) (i:Nat) (v:Option V) (d:D):NoOwn (σ.set i v) (ρ.set i (.val d)) p:=fun j xs e q=>by
 by_cases hj:i=j
 ·subst hj
  rw [List.getElem?_set_self'] at e
  cases z:ρ[i]? with
  | none=>rw [z] at e; cases e
  | some w=>rw [z] at e; cases e
 ·rw [List.getElem?_set_ne hj] at e q
  exact h j xs e q
theorem Ext.freeze {F H F' H':Hp} {p:Addr} {vs:List V} (x:Ext ⟨F,H⟩ F' H') (h0:H p=none) (hp:H' p=some (.lst vs)) (hf:F' p=none):Ext ⟨F,H⟩ (upd F' p (.lst vs)) H':=
 ⟨fun b u q=>by
  by_cases h:b=p
  ·subst h; rw [yH] at q; cases q; exact hp
  ·rw [yI h] at q; exact x.sub b u q,x.sh,x.sf.trans (yK hf),fun a q=>by
  by_cases h:a=p
  ·subst h; exact .inr h0
  ·rw [yI h] at q; exact x.nw a q⟩
theorem EvN.toE {xs:List D} (h:EvN X ρ e xs):EvE X ρ e (.lst xs):=fun B F H σ Q k q=>
 h B F H σ Q k fun p vs F' H' x h0 hp hf r=>q _ _ _ (x.freeze h0 hp hf) (.lst yH (r.mono (yK hf)))
theorem SqB.mono {K:PySem.W.Frag} {k:Bool} {H H':Hp} {a:Addr} {vs:List V} (s:Same H H') (h:SqB K k H a vs):SqB K k H' a vs:=by
 cases k with
 | true=>exact s.seq h
 | false=>
  have h':SqT K H a vs:=h
  show SqT K H' a vs
  rcases h' with (h | ⟨o,h⟩) | h
  ·exact .inl (.inl (s _ _ h))
  ·exact .inl (.inr ⟨o,s _ _ h⟩)
  ·exact .inr h
theorem EvE.ql {xs:List D} (h:EvE X ρ e (.lst xs)):EvQ X ρ e true xs:=fun B F H σ Q k q=>
 h B F H σ Q k fun v F' H' x r=>by
  cases r with
  | lst hf rl=>exact q _ _ _ _ x (show SqL _ _ _ _ from SqL.of (x.sub _ _ hf)) rl
theorem EvE.qt {xs:List D} (h:EvE X ρ e (.tup xs)):EvQ X ρ e false xs:=fun B F H σ Q k q=>
 h B F H σ Q k fun v F' H' x r=>by
  cases r with
  | tup hf rl=>exact q _ _ _ _ x (show SqT _ _ _ _ from SqT.of (x.sub _ _ hf)) rl
theorem EvE.qs {ns:List Int} (h:EvE X ρ e (.scr ns)):EvQ X ρ e true (ns.map D.int):=fun B F H σ Q k q=>
 h B F H σ Q k fun v F' H' x r=>by
  cases r with
  | scr hs=>exact q _ _ _ _ x (show SqL _ _ _ _ from x.sub.seq hs) (RepL.ints ns)
theorem EvN.toQ {xs:List D} (h:EvN X ρ e xs):EvQ X ρ e true xs:=h.toE.ql
structure At (X:Cx) (N:List Str) (sc:Scope):Prop where
 eN:X.N=N
 eS:X.env.scope=sc
 calm:X.calm=true
 nd:X.N.Nodup
 nox:X.xe=fun _ _=>False
 un:X.A.units+64 < cLine
 dp:X.A.depth+100 < recursionLimit
 tree:X.prog.given.tree=none
 fr:∃ env l,X.stack=env :: l/\env.scope.isGenerator=false/\env.scope.isCoroutine=false/\env.builtins=builtinsNs/\env.globals=mainGlobals
structure At0 (X:Cx) (N:List Str) (sc:Scope):Prop where
 eN:X.N=N
 eS:X.env.scope=sc
 nd:X.N.Nodup
 nox:X.xe=fun _ _=>False
 un:X.A.units+64 < cLine
 dp:X.A.depth+100 < recursionLimit
 tree:X.prog.given.tree=none
 fr:∃ env l,X.stack=env :: l/\env.scope.isGenerator=false/\env.scope.isCoroutine=false/\env.builtins=builtinsNs/\env.globals=mainGlobals
theorem At.z {X:Cx} {N:List Str} {sc:Scope} (t:At X N sc):At0 X N sc:=⟨t.eN,t.eS,t.nd,t.nox,t.un,t.dp,t.tree,t.fr⟩
theorem At0.at {X:Cx} {N:List Str} {sc:Scope} (t:At0 X N sc) (h:X.calm=true):At X N sc:=⟨t.eN,t.eS,h,t.nd,t.nox,t.un,t.dp,t.tree,t.fr⟩
def eRN (A:Around) (H:Hp):Prop:=∃ (ea:Addr) (oe:Obj) (u:HO) (vs:Array Value),A.handled=some (.ref ea)/\H ea=some (.frz oe u)/\oe.data = .fields vs/\vs[2]? = some .none
class FnT (X:Cx):Prop where
 fn:∀ x,X.fn x=true
variable {N:List Str} {sc:Scope}
theorem At.pass (a:At X N sc):PassesOwn (model X.prog X.w) X.A X.env X.xe:=by rw [a.nox]; exact PassesOwn.never
def aDQ (sc:Scope) (x:Str):Bool:=match sc.names.lookup x with
 | some .local=>true
 | some .cell=>true
 | some .free=>true
 | _=>false
def aRB (sc:Scope) (x:Str):Bool:=match sc.names.lookup x with
 | some .local=>true
 | some .cell=>true
 | _=>false
theorem eJX {x:Str} (h:aDQ sc x=true):Vis sc x:=by
 unfold aDQ at h
 cases e:sc.names.lookup x with
 | none=>rw [e] at h; cases h
 | some k=>
  rw [e] at h
  cases k <;> first | exact .inl e | exact .inr (.inl e) | exact .inr (.inr e) | cases h
theorem eMM {x:Str} (h:aRB sc x=true):Loc sc x:=by
 unfold aRB at h
 cases e:sc.names.lookup x with
 | none=>rw [e] at h; cases h
 | some k=>
  rw [e] at h
  cases k <;> first | exact .inl e | exact .inr e | cases h
def qK (x:Str):Bool:=!(x == ("__debug__" : Str)) && !(x == ("__classdict__" : Str))
theorem aVO (t:At X N sc) {i:Nat} {x:Str} (hN:N[i]? = some x) (hv:aDQ sc x=true) (hx:qK x=true):PE X (.Name x pos) (eQY i):=by
 unfold qK at hx
 rw [Bool.and_eq_true,Bool.not_eq_true',Bool.not_eq_true'] at hx
 exact eLQ (by rw [t.eN]; exact hN) (by rw [t.eS]; exact eJX hv) hx.1 hx.2
theorem yA (t:At X N sc) (i:Nat) {x:Str} (hr:ρ[i]? = some (.val d)) (hN:N[i]? = some x:=by rfl) (hv:aDQ sc x=true:=by rfl) (hx:qK x=true:=by rfl):EvE X ρ (.Name x pos) d:=
 .of (aVO t hN hv hx) fun B F H σ Q k q=>by
  obtain ⟨v,h1,h2⟩:=k.vals i d hr
  exact ⟨v,h1,q v F H (.refl k.sub) h2⟩
theorem aBD (t:At X N sc) (i:Nat) {x:Str} {xs:List D} (hr:ρ[i]? = some (.own xs)) (hN:N[i]? = some x:=by rfl) (hv:aDQ sc x=true:=by rfl) (hx:qK x=true:=by rfl):EvQ X ρ (.Name x pos) true xs:=
 .of (aVO t hN hv hx) fun B F H σ Q k q=>by
  obtain ⟨p,vs,h1,h2,h3,h4,h5⟩:=k.owns i xs hr
  exact ⟨_,h1,q p vs F H (.refl k.sub) (show SqL _ _ _ _ from SqL.of h2) h5⟩
theorem yD {i:Int} {j:Nat}:EvE X ρ (.Constant (.int i) j pos) (.int i):=.of eER fun B F H σ Q k q=>q _ F H (.refl k.sub) (.int i)
theorem eNP {b:Bool} {j:Nat}:EvE X ρ (.Constant (.bool b) j pos) (.bl b):=.of ePV fun B F H σ Q k q=>q _ F H (.refl k.sub) (.bl b)
theorem ev_str {x:Str} {j:Nat}:EvE X ρ (.Constant (.str x) j pos) (.str x):=.of aYP fun B F H σ Q k q=>q _ F H (.refl k.sub) (.str x)
theorem two {da db:D} (ha:EvE X ρ a da) (hb:EvE X ρ b db) {B:B0} {F H:Hp} {σ:St} {R:V->V->Hp->Prop} (k:Ok X.K B F H σ ρ)
  (h:∀ x y F' H',Ext ⟨F,H⟩ F' H'->Rep X.K F' x da->Rep X.K F' y db->R x y H'):wE X a σ H fun x H1=>wE X b σ H1 fun y H2=>R x y H2:=
 ha B F H σ _ k fun x F1 H1 x1 r1=>hb B F1 H1 σ _ (k.ext x1) fun y F2 H2 x2 r2=>h x y F2 H2 (x1.t x2) (r1.mono x2.sf) r2
theorem aNR {op:Operator} {i j m:Int} {C:Int->Int->Prop} {g:Int->Int->Int} (ho:OpR X (binaryOp op) (rI C fun i j=>.int (g i j))) (ha:EvE X ρ a (.int i)) (hb:EvE X ρ b (.int j)) (hc:C i j) (hm:g i j=m) :
  EvE X ρ (.BinOp a op b pos) (.int m):=
 .of (aPI ho yX yX) fun B F H σ Q k q=>two ha hb k fun x y F' H' x' rx ry=>by
  cases rx; cases ry; subst hm
  exact ⟨i,j,rfl,rfl,hc,q _ F' H' x' (.int _)⟩
theorem aNQ {op:Operator} {i j m:Int} {g:Int->Int->Int} (ho:OpR X (binaryOp op) (rI0 fun i j=>.int (g i j))) (ha:EvE X ρ a (.int i)) (hb:EvE X ρ b (.int j)) (hm:g i j=m) :
  EvE X ρ (.BinOp a op b pos) (.int m):=
 .of (aPI ho yX yX) fun B F H σ Q k q=>two ha hb k fun x y F' H' x' rx ry=>by
  cases rx; cases ry; subst hm
  exact ⟨i,j,rfl,rfl,q _ F' H' x' (.int _)⟩
theorem jI {i j:Int} (ha:EvE X ρ a (.int i)) (hb:EvE X ρ b (.int j)):EvE X ρ (.BinOp a .Add b pos) (.int (i+j)):=aNQ eMC ha hb rfl
theorem aCV {i j:Int} (ha:EvE X ρ a (.int i)) (hb:EvE X ρ b (.int j)):EvE X ρ (.BinOp a .Sub b pos) (.int (i - j)):=aNQ eLW ha hb rfl
theorem eHR:OpR X (binaryOp .Mult) (rI IntMulOk fun i j=>.int (i * j)):=opI fun _ _ _ _ _ _ _ hc q=>mul_int q hc
theorem At.pylong (t:At X N sc) {pins:List (Addr × Obj)} {σ:St} {H:Hp} {s:Shared} (I:Inv X pins σ H s):PylongRoom (model X.prog X.w) X.A s:=by
 obtain ⟨env,l,h1,h2,h3,h4,h5⟩:=t.fr
 exact PylongRoom.of I.nolimit t.dp (SeerAt.of (I.ok.mod.seer.keeps I.bk) t.tree (by rw [I.ok.frames,h1]) h2 h3 h4 h5)
theorem eHT (t:At X N sc):OpR X (binaryOp .FloorDiv) (rI (fun _ j=>j≠0) fun i j=>.int (i.fdiv j)):=by
 intro pins s σ H x y v u Q I rx ry h
 obtain ⟨i,j,rfl,rfl,hc,q⟩:=h
 obtain ⟨t1,rfl⟩:=rx
 obtain ⟨t2,rfl⟩:=ry
 exact floordiv_int hc ⟨.int (i.fdiv j),H,I.tok _,⟨_,rfl⟩,q⟩ (.inr (t.pylong I))
theorem aBE {i j:Int} (ha:EvE X ρ a (.int i)) (hb:EvE X ρ b (.int j)) (hc:IntMulOk i j):EvE X ρ (.BinOp a .Mult b pos) (.int (i * j)):=aNR eHR ha hb hc rfl
theorem aAO (t:At X N sc) {i j:Int} (ha:EvE X ρ a (.int i)) (hb:EvE X ρ b (.int j)) (h0:0 < j):EvE X ρ (.BinOp a .FloorDiv b pos) (.int (i / j)):=
 aNR (eHT t) ha hb (by omega) (Int.fdiv_eq_ediv_of_nonneg i (by omega))
theorem yR {i j:Int} (ha:EvE X ρ a (.int i)) (hb:EvE X ρ b (.int j)) (h0:0 < j):EvE X ρ (.BinOp a .Mod b pos) (.int (i % j)):=aNR eEW ha hb h0 rfl
theorem aJM {i j:Int} (ha:EvE X ρ a (.int i)) (hb:EvE X ρ b (.int j)) (h0:eRQ i j):EvE X ρ (.BinOp a .Pow b pos) (.int (i ^ j.toNat)):=aNR eLY ha hb h0 rfl
theorem aJN {i:Int} (ha:EvE X ρ a (.int i)):EvE X ρ (.UnaryOp .USub a pos) (.int (-i)):=
 .of (ePU eJY yX) fun B F H σ Q k q=>ha B F H σ _ k fun x F' H' x' rx=>by
  cases rx
  exact ⟨i,rfl,q _ F' H' x' (.int _)⟩
theorem eIV {op:CmpOp} {i j:Int} {g:Int->Int->Bool} (ho:OpR X (compareOp op) (rI0 fun i j=>.bl (g i j))) (ha:EvE X ρ a (.int i)) (hb:EvE X ρ b (.int j)) (hm:behindInMarks op b=false):EvE X ρ (.Compare a [op] [b] pos) (.bl (g i j)):=
 .of (aMW ho yX yX hm) fun B F H σ Q k q=>two ha hb k fun x y F' H' x' rx ry=>by
  cases rx; cases ry
  exact ⟨i,j,rfl,rfl,q _ F' H' x' (.bl _)⟩
theorem eNN {i j:Int} (ha:EvE X ρ a (.int i)) (hb:EvE X ρ b (.int j)):EvE X ρ (.Compare a [.Gt] [b] pos) (.bl (decide (j < i))):=eIV eHS ha hb (qY _ (by decide) (by decide))
end
mutual
def toP:D->PyData
 | .non=>.none
 | .bl b=>.bool b
 | .int i=>.int i
 | .str x=>.str x
 | .tup xs=>.tuple (toPs xs)
 | .lst xs=>.list (toPs xs)
 | .scr ns=>.list (ns.map PyData.int)
 | .exc _=>.dict []
 | .exh _ _=>.dict []
 | .dic _=>.dict []
 | .adr _=>.dict []
 | .stt _=>.dict []
def toPs:List D->List PyData
 | []=>[]
 | d :: ds=>toP d :: toPs ds
end
theorem aTG (xs:List D):toPs xs=xs.map toP:=by
 induction xs with
 | nil=>rfl
 | cons d ds ih=>rw [toPs,ih,List.map_cons]
theorem aAK (ns:List Int):toPs (ns.map D.int)=ns.map PyData.int:=by
 rw [aTG,List.map_map]; rfl
section
variable {X:Cx} {pins:List (Addr × Obj)} {σ:St} {F H:Hp} {s:Shared}
theorem aPB:∀ {ns:List Int} {us:List Value},Vals (ns.map V.int) us->∃ as,ReadsAll s.heap us (ns.map PyData.int) as
 | [],_,r=>by cases r; exact ⟨_,.nil⟩
 | n :: ns,_,r=>by
  rw [List.map_cons] at r
  cases r with
  | cons r1 r2=>
   obtain ⟨as,h⟩:=aPB r2
   obtain ⟨t,rfl⟩:=r1
   exact ⟨_,.cons (Reads.int n t) h⟩
mutual
theorem Rep.reads (I:Inv X pins σ H s) (sub:Same F H):∀ {v:V} {d:D} {u:Value},Rep X.K F v d->RelV v u->(toP d).canLay0=true->∃ as,Reads s.heap u (toP d) as
 | _,_,u,.non,r,hs=>by cases (show u=Value.none from r); exact ⟨_,Reads.none⟩
 | _,_,u,.bl b,r,hs=>by cases (show u=Value.bool b from r); exact ⟨_,Reads.bool b⟩
 | _,_,u,.int i,r,hs=>by obtain ⟨t,e⟩:=(show ∃ t,u=Value.int i t from r); cases e; exact ⟨_,Reads.int i t⟩
 | _,_,u,.str x,r,hs=>by obtain ⟨t,e⟩:=(show ∃ t,u=Value.str x t from r); cases e; exact ⟨_,Reads.str x t⟩
 | _,_,u,.tup (a:=a) h rl,r,hs=>by
  cases (show u=Value.ref a from r)
  obtain ⟨its,rv,p,_⟩:=I.tuple (SqT.of (sub _ _ h))
  obtain ⟨o,e,c,n,dt⟩:=p
  obtain ⟨as,ra⟩:=RepL.reads I sub rl rv (by simpa [toP,PyData.canLay0] using hs)
  exact ⟨_,Reads.tuple e c dt (by simpa using ra)⟩
 | _,_,u,.lst (a:=a) h rl,r,hs=>by
  cases (show u=Value.ref a from r)
  obtain ⟨its,rv,p,_⟩:=I.list (SqL.of (sub _ _ h))
  obtain ⟨o,e,c,n,dt⟩:=p.isList
  obtain ⟨as,ra⟩:=RepL.reads I sub rl rv (by simpa [toP,PyData.canLay0] using hs)
  exact ⟨_,Reads.list e c dt (by simpa using ra)⟩
 | _,_,u,.exc h,r,hs=>by simp [toP,PyData.canLay0] at hs
 | _,_,u,.exh h,r,hs=>by simp [toP,PyData.canLay0] at hs
 | _,_,u,.dic h _,r,hs=>by simp [toP,PyData.canLay0] at hs
 | _,_,u,.adr _,r,hs=>by simp [toP,PyData.canLay0] at hs
 | _,_,u,.stt _,r,hs=>by simp [toP,PyData.canLay0] at hs
 | _,_,u,.scr (a:=a) h,r,hs=>by
  cases (show u=Value.ref a from r)
  obtain ⟨its,rv,p,_⟩:=I.list (sub.seq h)
  obtain ⟨o,e,c,n,dt⟩:=p.isList
  obtain ⟨as,ra⟩:=aPB (s:=s) rv
  exact ⟨_,Reads.list e c dt (by simpa using ra)⟩
theorem RepL.reads (I:Inv X pins σ H s) (sub:Same F H):∀ {vs:List V} {ds:List D} {us:List Value},RepL X.K F vs ds->Vals vs us->PyData.canLayAll0 (toPs ds)=true->∃ as,ReadsAll s.heap us (toPs ds) as
 | _,_,_,.nil,r,hs=>by cases r; exact ⟨_,.nil⟩
 | _,_,_,.cons r1 r2,r,hs=>by
  cases r with
  | cons q1 q2=>
   rw [toPs,PyData.canLayAll0,Bool.and_eq_true] at hs
   have hs2:=hs
   obtain ⟨as,h1⟩:=Rep.reads I sub r1 q1 hs2.1
   obtain ⟨bs,h2⟩:=RepL.reads I sub r2 q2 hs2.2
   exact ⟨_,.cons h1 h2⟩
end
theorem SqB.reads {k:Bool} {a:Addr} {vs:List V} {xs:List D} (I:Inv X pins σ H s) (sub:Same F H) (h:SqB X.K k H a vs) (r:RepL X.K F vs xs) (hs:(if k=true then PyData.list (toPs xs) else .tuple (toPs xs)).canLay0=true):∃ as,Reads s.heap (.ref a) (if k=true then PyData.list (toPs xs) else .tuple (toPs xs)) as:=by
 cases k with
 | true=>
  obtain ⟨its,rv,p,_⟩:=I.list (show SqL _ _ _ _ from h)
  obtain ⟨o,e,c,n,dt⟩:=p.isList
  obtain ⟨as,ra⟩:=RepL.reads I sub r rv (by simpa [PyData.canLay0] using hs)
  exact ⟨_,Reads.list e c dt (by simpa using ra)⟩
 | false=>
  obtain ⟨its,rv,p,_⟩:=I.tuple (show SqT _ _ _ _ from h)
  obtain ⟨o,e,c,n,dt⟩:=p
  obtain ⟨as,ra⟩:=RepL.reads I sub r rv (by simpa [PyData.canLay0] using hs)
  exact ⟨_,Reads.tuple e c dt (by simpa using ra)⟩
end
def RdP (X:Cx) (H:Hp) (v:V) (p:PyData):Prop:=p.canLay0=true->∀ (H':Hp),Same H H'->∀ (pins:List (Addr × Obj)) (σ:St) (s:Shared) (u:Value),Inv X pins σ H' s->RelV v u->∃ as,Reads s.heap u p as
def EvP (X:Cx) (ρ:Rho) (e:Expr) (p:PyData):Prop:=∀ (B:B0) (F H:Hp) (σ:St) (Q:VK),Ok X.K B F H σ ρ->(∀ v F' H',Ext ⟨F,H⟩ F' H'->RdP X H' v p->Q v H')->wE X e σ H Q
section
variable {X:Cx} {ρ:Rho} {e a b c:Expr} {d:D} {pos:Pos} {N:List Str} {sc:Scope}
theorem EvE.p (h:EvE X ρ e d):EvP X ρ e (toP d):=fun B F H σ Q k q=>h B F H σ Q k fun v F' H' x r=>q v F' H' x fun hs H2 s2 pins σ s u I ru=>r.reads I (x.sub.trans s2) ru hs
theorem EvQ.p {k:Bool} {xs:List D} (h:EvQ X ρ e k xs):EvP X ρ e (if k=true then PyData.list (toPs xs) else .tuple (toPs xs)):=fun B F H σ Q k' q=>h B F H σ Q k' fun a vs F' H' x hs r=>q _ F' H' x fun hc H2 s2 pins σ s u I ru=>by
 cases (show u=Value.ref a from ru)
 exact SqB.reads I (x.sub.trans s2) (hs.mono s2) r hc
theorem eCF (t:At X N sc) {p q:PyData} (sp:SeqAt.shaped p=true) (sq:SeqAt.shaped q=true):OpR X (compareOp .Eq) (fun x y H Q=>RdP X H x p/\RdP X H y q/\Q (.bl (p.eqv q)) H):=by
 intro pins s σ H x y v u Q I rx ry h
 obtain ⟨h1,h2,h3⟩:=h
 obtain ⟨as,r1⟩:=h1 (SeqAt.canLay_of_shaped sp) H (.refl _) pins σ s v I rx
 obtain ⟨bs,r2⟩:=h2 (SeqAt.canLay_of_shaped sq) H (.refl _) pins σ s u I ry
 exact eq_dataH r1 r2 sp sq t.un ⟨.bl _,H,I,rfl,h3⟩
theorem eLD (t:At X N sc) {p q:PyData} (sp:SeqAt.shaped p=true) (sq:SeqAt.shaped q=true):OpR X (compareOp .NotEq) (fun x y H Q=>RdP X H x p/\RdP X H y q/\Q (.bl (!p.eqv q)) H):=by
 intro pins s σ H x y v u Q I rx ry h
 obtain ⟨h1,h2,h3⟩:=h
 obtain ⟨as,r1⟩:=h1 (SeqAt.canLay_of_shaped sp) H (.refl _) pins σ s v I rx
 obtain ⟨bs,r2⟩:=h2 (SeqAt.canLay_of_shaped sq) H (.refl _) pins σ s u I ry
 exact ne_dataH r1 r2 sp sq t.un ⟨.bl _,H,I,rfl,h3⟩
theorem RdP.mono {H H':Hp} {v:V} {p:PyData} (h:RdP X H v p) (s:Same H H'):RdP X H' v p:=fun hc H2 s2=>h hc H2 (s.trans s2)
theorem eDQ {p q:PyData} (ha:EvP X ρ a p) (hb:EvP X ρ b q) {B:B0} {F H:Hp} {σ:St} {R:V->V->Hp->Prop} (k:Ok X.K B F H σ ρ)
  (h:∀ x y F' H',Ext ⟨F,H⟩ F' H'->RdP X H' x p->RdP X H' y q->R x y H'):wE X a σ H fun x H1=>wE X b σ H1 fun y H2=>R x y H2:=
 ha B F H σ _ k fun x F1 H1 x1 r1=>hb B F1 H1 σ _ (k.ext x1) fun y F2 H2 x2 r2=>h x y F2 H2 (x1.t x2) (r1.mono x2.sh) r2
theorem eNO (t:At X N sc) {p q:PyData} (ha:EvP X ρ a p) (hb:EvP X ρ b q) (sp:SeqAt.shaped p=true) (sq:SeqAt.shaped q=true) {r:Bool} (hr:p.eqv q=r):EvE X ρ (.Compare a [.Eq] [b] pos) (.bl r):=
 .of (aMW (eCF t sp sq) yX yX (qY _ (by decide) (by decide))) fun B F H σ Q k q=>eDQ ha hb k fun x y F' H' x' rx ry=>⟨rx,ry,by rw [hr]; exact q _ F' H' x' (.bl r)⟩
theorem eNM (t:At X N sc) {p q:PyData} (ha:EvP X ρ a p) (hb:EvP X ρ b q) (sp:SeqAt.shaped p=true) (sq:SeqAt.shaped q=true) {r:Bool} (hr:(!p.eqv q)=r):EvE X ρ (.Compare a [.NotEq] [b] pos) (.bl r):=
 .of (aMW (eLD t sp sq) yX yX (qY _ (by decide) (by decide))) fun B F H σ Q k q=>eDQ ha hb k fun x y F' H' x' rx ry=>⟨rx,ry,by rw [hr]; exact q _ F' H' x' (.bl r)⟩
theorem RepL.at {K:PySem.W.Frag} {F:Hp} {vs:List V} {xs:List D} {i:Int} {d:D} (r:RepL K F vs xs) (h:atI xs i=some d):∃ v,atI vs i=some v/\Rep K F v d:=by
 unfold atI at h ⊢
 rw [r.length]
 cases e:ixN xs.length i with
 | none=>rw [e] at h; cases h
 | some j=>
  rw [e] at h
  obtain ⟨v,h1,h2⟩:=r.get h
  exact ⟨v,h1,h2⟩
theorem qe {k:Bool} {xs:List D} {db:D} (ha:EvQ X ρ a k xs) (hb:EvE X ρ b db) {B:B0} {F H:Hp} {σ:St} {R:V->V->Hp->Prop} (k':Ok X.K B F H σ ρ)
  (h:∀ l vs y F' H',Ext ⟨F,H⟩ F' H'->SqB X.K k H' l vs->RepL X.K F' vs xs->Rep X.K F' y db->R (.ref l) y H'):wE X a σ H fun x H1=>wE X b σ H1 fun y H2=>R x y H2:=
 ha B F H σ _ k' fun l vs F1 H1 x1 s1 r1=>hb B F1 H1 σ _ (k'.ext x1) fun y F2 H2 x2 r2=>h l vs y F2 H2 (x1.t x2) (s1.mono x2.sh) (r1.mono x2.sf) r2
theorem zB {k:Bool} {xs:List D} {i:Int} (ha:EvQ X ρ a k xs) (hb:EvE X ρ b (.int i)) (h:atI xs i=some d) (hs:aGH b:=by intro _ _; rfl):EvE X ρ (.Subscript a b pos) d:=by
 cases k with
 | true=>
  exact .of (eCJ aZK yX yX hs) fun B F H σ Q k' q=>qe ha hb k' fun l vs y F' H' x' sl rl ry=>by
   cases ry
   obtain ⟨v,h1,h2⟩:=rl.at h
   exact ⟨l,vs,i,v,rfl,rfl,sl,h1,q v F' H' x' h2⟩
 | false=>
  exact .of (eCJ eMV yX yX hs) fun B F H σ Q k' q=>qe ha hb k' fun l vs y F' H' x' sl rl ry=>by
   cases ry
   obtain ⟨v,h1,h2⟩:=rl.at h
   exact ⟨l,vs,i,v,rfl,rfl,sl,h1,q v F' H' x' h2⟩
theorem aFP:EvO X ρ none none:=fun B F H σ Q k q=>.mk fun pins s I=>eHK pins s σ H Q I (q F H (.refl k.sub))
theorem aBK {i:Int} (h:EvE X ρ e (.int i)):EvO X ρ (some e) (some i):=fun B F H σ Q k q=>.mk fun pins s I=>aRT yX pins s σ H Q I (h B F H σ _ k fun v F' H' x r=>by
 cases r
 exact ⟨i,rfl,q F' H' x⟩)
def cutD (xs:List D) (lo hi:Option Int):List D:=(xs.drop (HT.sIx xs.length 0 lo)).take (HT.sIx xs.length xs.length hi - HT.sIx xs.length 0 lo)
theorem RepL.cut {K:PySem.W.Frag} {F:Hp} {vs:List V} {xs:List D} (r:RepL K F vs xs) (lo hi:Option Int):RepL K F (eJU vs lo hi) (cutD xs lo hi):=by
 unfold eJU cutD
 rw [r.length]
 exact (r.drop _).take _
theorem aEU {xs:List D} {lo hi:Option Expr} {l h:Option Int} {p2:Pos} (ha:EvQ X ρ a true xs) (hl:EvO X ρ lo l) (hh:EvO X ρ hi h):EvN X ρ (.Subscript a (.Slice lo hi none p2) pos) (cutD xs l h):=
 .of (aTX eGR yX eRD eRD) fun B F H σ Q k q=>ha B F H σ _ k fun p vs F1 H1 x1 s1 r1=>hl B F1 H1 σ _ (k.ext x1) fun F2 H2 x2=>hh B F2 H2 σ _ (k.ext (x1.t x2)) fun F3 H3 x3=>by
  have x:=x1.t (x2.t x3)
  refine ⟨p,vs,rfl,(s1.mono x2.sh).mono x3.sh,fun l' hl'=>?_⟩
  have r3:=(r1.mono x2.sf).mono x3.sf
  exact q l' _ F3 _ ⟨x.sub.trans (yK hl'),x.sh.trans (yK hl'),x.sf,x.nw⟩ (x.sh.free hl') yH (x.sub.free hl') (r3.cut l h)
theorem yE:EvA X ρ [] []:=⟨trivial,fun B F H σ Q k q=>.mk fun pos pins s I=>vD pos pins s σ H Q I (q [] F H (.refl k.sub) .nil)⟩
theorem yB {es:List Expr} {ds:List D} (h1:EvE X ρ e d) (h2:EvA X ρ es ds) (hs:Pl e:=by intro _ _; rfl):EvA X ρ (e :: es) (d :: ds):=
 ⟨⟨hs,h2.1⟩,fun B F H σ Q k q=>.mk fun pos pins s I=>zL yX aVP (hs _ _) pos pins s σ H Q I (h1 B F H σ _ k fun v F1 H1 x1 r1=>h2.2 B F1 H1 σ _ (k.ext x1) fun vs F2 H2 x2 r2=>q _ F2 H2 (x1.t x2) (.cons (r1.mono x2.sf) r2))⟩
theorem yM {es:List Expr} {ds:List D} {x1:Nat} (h:EvA X ρ es ds) (hl:ds.length<=sizeLine:=by exact Nat.le_of_ble_eq_true rfl):EvE X ρ (.Tuple es x1 pos) (.tup ds):=
 .of (eLR aVP) fun B F H σ Q k q=>h.2 B F H σ _ k fun vs F' H' x r=>⟨by rw [r.length]; exact hl,fun p hp=>q _ _ _ (x.grow hp) (.tup yH (r.mono (yK (x.sub.free hp))))⟩
theorem yQ {es:List Expr} {ds:List D} (h:EvA X ρ es ds) (hl:ds.length<=sizeLine:=by exact Nat.le_of_ble_eq_true rfl):EvN X ρ (.List es pos) ds:=
 .of (eEQ aVP) fun B F H σ Q k q=>h.2 B F H σ _ k fun vs F' H' x r=>⟨by rw [r.length]; exact hl,fun p hp=>q p vs F' _ ⟨x.sub.trans (yK hp),x.sh.trans (yK hp),x.sf,x.nw⟩ (x.sh.free hp) yH (x.sub.free hp) r⟩
theorem wU {xs ys:List D} (ha:EvE X ρ a (.lst xs)) (hb:EvE X ρ b (.lst ys)) (hz:xs.length+ys.length<=sizeLine):EvN X ρ (.BinOp a .Add b pos) (xs++ys):=
 .of (aPI eMA yX yX) fun B F H σ Q k q=>two ha hb k fun x y F' H' x' rx ry=>by
  cases rx with
  | lst h1 r1=>
   cases ry with
   | lst h2 r2=>
    refine ⟨_,_,_,_,rfl,rfl,x'.sub _ _ h1,x'.sub _ _ h2,by rw [r1.length,r2.length]; exact hz,fun p hp=>?_⟩
    exact q p _ F' _ ⟨x'.sub.trans (yK hp),x'.sh.trans (yK hp),x'.sf,x'.nw⟩ (x'.sh.free hp) yH (x'.sub.free hp) (r1.append r2)
theorem aLY {xs:List D} {n:Int} (ha:EvE X ρ a (.lst xs)) (hb:EvE X ρ b (.int n)) (h1 : -(2 ^ 63)<=n) (h2:n < 2 ^ 63) (hz:xs.length * n.toNat<=sizeLine):EvN X ρ (.BinOp a .Mult b pos) (List.replicate n.toNat xs).flatten:=
 .of (aPI eLX yX yX) fun B F H σ Q k q=>two ha hb k fun x y F' H' x' rx ry=>by
  cases rx with
  | lst g1 r1=>
   cases ry
   refine ⟨_,n,_,rfl,rfl,x'.sub _ _ g1,h1,h2,by rw [r1.length]; exact hz,fun p hp=>?_⟩
   exact q p _ F' _ ⟨x'.sub.trans (yK hp),x'.sh.trans (yK hp),x'.sf,x'.nw⟩ (x'.sh.free hp) yH (x'.sub.free hp) (r1.rep _)
theorem aGE {r:Bool} (ha:EvT X ρ a r):EvW X ρ (.BoolOp .And [a] pos) r:=.of (eHD aKR) fun B F H σ Q k q=>ha B F H σ Q k q
theorem aFO {r:Bool} (ha:EvT X ρ a r):EvW X ρ (.BoolOp .Or [a] pos) r:=.of (eLE aKR) fun B F H σ Q k q=>ha B F H σ Q k q
theorem aDH {qU:List Expr} {r:Bool} (ha:EvT X ρ a true) (hb:EvW X ρ (.BoolOp .And (b :: qU) pos) r):EvW X ρ (.BoolOp .And (a :: b :: qU) pos) r:=
 .of (eEI aKR eOQ) fun B F H σ Q k q=>ha B F H σ _ k fun F1 H1 x1=>by rw [if_pos rfl]; exact hb B F1 H1 σ _ (k.ext x1) fun F2 H2 x2=>q F2 H2 (x1.t x2)
theorem aET {qU:List Expr} (ha:EvT X ρ a false):EvW X ρ (.BoolOp .And (a :: b :: qU) pos) false:=
 .of (eEI aKR eOQ) fun B F H σ Q k q=>ha B F H σ _ k fun F1 H1 x1=>by rw [if_neg Bool.false_ne_true]; exact q F1 H1 x1
theorem aDG {qU:List Expr} {r:Bool} (ha:EvT X ρ a false) (hb:EvW X ρ (.BoolOp .Or (b :: qU) pos) r):EvW X ρ (.BoolOp .Or (a :: b :: qU) pos) r:=
 .of (eLF aKR eOQ) fun B F H σ Q k q=>ha B F H σ _ k fun F1 H1 x1=>by rw [if_neg Bool.false_ne_true]; exact hb B F1 H1 σ _ (k.ext x1) fun F2 H2 x2=>q F2 H2 (x1.t x2)
theorem aLU {qU:List Expr} (ha:EvT X ρ a true):EvW X ρ (.BoolOp .Or (a :: b :: qU) pos) true:=
 .of (eLF aKR eOQ) fun B F H σ Q k q=>ha B F H σ _ k fun F1 H1 x1=>by rw [if_pos rfl]; exact q F1 H1 x1
theorem EvW.toT {r:Bool} (h:EvW X ρ e r):EvT X ρ e r:=fun B F H σ Q k q=>.mk fun pins s I=>h B F H σ Q k q _ pins s I
theorem aLW {r:Bool} (ha:EvT X ρ a r):EvT X ρ (.UnaryOp .Not a pos) (!r):=.of (eLI aKR) fun B F H σ Q k q=>ha B F H σ _ k q
theorem eFO {op:BoolOp} (h:EvE X ρ a d):EvE X ρ (.BoolOp op [a] pos) d:=.of (eLS yX) fun B F H σ Q k q=>h B F H σ Q k q
theorem aZZ {qU:List Expr} (ha:EvE X ρ a (.bl true)) (hb:EvE X ρ (.BoolOp .And (b :: qU) pos) d):EvE X ρ (.BoolOp .And (a :: b :: qU) pos) d:=
 .of (eES yX yX) fun B F H σ Q k q=>ha B F H σ _ k fun v F1 H1 x1 r=>by
  cases r
  exact ⟨true,rfl,by rw [if_pos rfl]; exact hb B F1 H1 σ _ (k.ext x1) fun v F2 H2 x2 r2=>q v F2 H2 (x1.t x2) r2⟩
theorem eIW {qU:List Expr} (ha:EvE X ρ a (.bl false)):EvE X ρ (.BoolOp .And (a :: b :: qU) pos) (.bl false):=
 .of (eES yX yX) fun B F H σ Q k q=>ha B F H σ _ k fun v F1 H1 x1 r=>by
  cases r
  exact ⟨false,rfl,by rw [if_neg Bool.false_ne_true]; exact q _ F1 H1 x1 (.bl false)⟩
theorem eIS {r:Bool} (ha:EvE X ρ a (.bl r)):EvE X ρ (.UnaryOp .Not a pos) (.bl (!r)):=
 .of (eLT yX) fun B F H σ Q k q=>ha B F H σ _ k fun v F1 H1 x1 rv=>by
  cases rv
  exact ⟨r,rfl,q _ F1 H1 x1 (.bl _)⟩
theorem aUO (hc:EvT X ρ c true) (ha:EvE X ρ a d):EvE X ρ (.IfExp c a b pos) d:=
 .of (aHN aKR yX yX) fun B F H σ Q k q=>hc B F H σ _ k fun F1 H1 x1=>by rw [if_pos rfl]; exact ha B F1 H1 σ _ (k.ext x1) fun v F2 H2 x2 r2=>q v F2 H2 (x1.t x2) r2
theorem aPZ (hc:EvT X ρ c false) (hb:EvE X ρ b d):EvE X ρ (.IfExp c a b pos) d:=
 .of (aHN aKR yX yX) fun B F H σ Q k q=>hc B F H σ _ k fun F1 H1 x1=>by rw [if_neg Bool.false_ne_true]; exact hb B F1 H1 σ _ (k.ext x1) fun v F2 H2 x2 r2=>q v F2 H2 (x1.t x2) r2
theorem eFU {i:Int} (ha:EvE X ρ e (.int i)) (he:∀ whole,isTrue e X.env whole=(do let v <- whole; standAt e.pos; holding [v] (truthy v)):=by intro _; rfl):EvT X ρ e (i != 0):=
 .of (eCI yX he) fun B F H σ Q k q=>ha B F H σ _ k fun v F1 H1 x1 r=>by
  cases r
  exact ⟨_,rfl,q F1 H1 x1⟩
theorem aHF {r:Bool} (ha:EvE X ρ e (.bl r)) (he:∀ whole,isTrue e X.env whole=(do let v <- whole; standAt e.pos; holding [v] (truthy v)):=by intro _; rfl):EvT X ρ e r:=
 .of (eLH yX he) fun B F H σ Q k q=>ha B F H σ _ k fun v F1 H1 x1 rv=>by
  cases rv
  exact ⟨r,rfl,q F1 H1 x1⟩
end
section
variable {X:Cx} {ρ:Rho} {e a b c:Expr} {d:D} {pos:Pos} {N:List Str} {sc:Scope}
theorem aQA {op:CmpOp} {r:R2} {da db:D} {k:Bool} (ho:OpR X (compareOp op) r) (ha:EvE X ρ a da) (hb:EvE X ρ b db) (hm:behindInMarks op b=false)
  (hr:∀ (F H:Hp) x y (Q:VK),Rep X.K F x da->Rep X.K F y db->Q (.bl k) H->r x y H Q):EvT X ρ (.Compare a [op] [b] pos) k:=
 .of (vY ho yX yX hm) fun B F H σ Q k' q=>two ha hb k' fun x y F' H' x' rx ry=>hr F' H' x y _ rx ry ⟨k,rfl,q F' H' x'⟩
theorem aBV {i j:Int} (ha:EvE X ρ a (.int i)) (hb:EvE X ρ b (.int j)):EvT X ρ (.Compare a [.Lt] [b] pos) (decide (i < j)):=aQA eLZ ha hb (qY _ (by decide) (by decide)) fun F H x y Q rx ry q=>by cases rx; cases ry; exact ⟨i,j,rfl,rfl,q⟩
theorem aEB {i j:Int} (ha:EvE X ρ a (.int i)) (hb:EvE X ρ b (.int j)):EvT X ρ (.Compare a [.Gt] [b] pos) (decide (j < i)):=aQA eHS ha hb (qY _ (by decide) (by decide)) fun F H x y Q rx ry q=>by cases rx; cases ry; exact ⟨i,j,rfl,rfl,q⟩
theorem eNS {i j:Int} (ha:EvE X ρ a (.int i)) (hb:EvE X ρ b (.int j)):EvT X ρ (.Compare a [.GtE] [b] pos) (decide (j<=i)):=aQA ePX ha hb (qY _ (by decide) (by decide)) fun F H x y Q rx ry q=>by cases rx; cases ry; exact ⟨i,j,rfl,rfl,q⟩
theorem aUT {i j:Int}:decide (V.int i=V.int j)=decide (i=j):=by rw [aSK,Bool.beq_eq_decide_eq]
theorem vS {i j:Int} (ha:EvE X ρ a (.int i)) (hb:EvE X ρ b (.int j)):EvT X ρ (.Compare a [.Eq] [b] pos) (decide (i=j)):=aQA ePY ha hb (qY _ (by decide) (by decide)) fun F H x y Q rx ry q=>by
 cases rx; cases ry; exact ⟨rfl,by rw [aUT]; exact q⟩
theorem aUP {i j:Int} (ha:EvE X ρ a (.int i)) (hb:EvE X ρ b (.int j)):EvT X ρ (.Compare a [.NotEq] [b] pos) (!decide (i=j)):=aQA ePW ha hb (qY _ (by decide) (by decide)) fun F H x y Q rx ry q=>by
 cases rx; cases ry; exact ⟨rfl,by rw [aUT]; exact q⟩
theorem aBW (t:At X N sc) {p q:PyData} (ha:EvP X ρ a p) (hb:EvP X ρ b q) (sp:SeqAt.shaped p=true) (sq:SeqAt.shaped q=true) {r:Bool} (hr:p.eqv q=r):EvT X ρ (.Compare a [.Eq] [b] pos) r:=
 .of (vY (eCF t sp sq) yX yX (qY _ (by decide) (by decide))) fun B F H σ Q k q=>eDQ ha hb k fun x y F' H' x' rx ry=>⟨rx,ry,r,by rw [hr],q F' H' x'⟩
theorem aLX (t:At X N sc) {p q:PyData} (ha:EvP X ρ a p) (hb:EvP X ρ b q) (sp:SeqAt.shaped p=true) (sq:SeqAt.shaped q=true) {r:Bool} (hr:(!p.eqv q)=r):EvT X ρ (.Compare a [.NotEq] [b] pos) r:=
 .of (vY (eLD t sp sq) yX yX (qY _ (by decide) (by decide))) fun B F H σ Q k q=>eDQ ha hb k fun x y F' H' x' rx ry=>⟨rx,ry,r,by rw [hr],q F' H' x'⟩
structure Blt (X:Cx) (sc:Scope) (x:Str) (u:Value):Prop where
 g:sc.names.lookup x=some .globalImplicit
 m:X.mg x=none
 v:bootBuiltins x=some u
 n:x ≠ "__name__"
 d:(x == ("__debug__" : Str))=false
theorem vZ (t:At X N sc) {x:Str} (h:sc.names.lookup x=some .globalImplicit):Gl X x:=by
 show X.env.scope.names.lookup x=_
 rw [t.eS]; exact h
variable {x:Str} {p:Pos} {es:List Expr} {ds:List D}
theorem aHT (t:At X N sc) {id:String} {r:List V->Hp->VK->Prop} (bl:Blt X sc x (.builtin id)) (hc:aCM X (.builtin id) r) (ha:EvA X ρ (e :: es) ds)
  (hr:∀ (F H:Hp) vs (Q:VK),Same F H->RepL X.K F vs ds->(∀ v F' H',Ext ⟨F,H⟩ F' H'->Rep X.K F' v d->Q v H')->r vs H Q):EvE X ρ (.Call (.Name x p) (e :: es) [] pos) d:=
 .of (aDS hc (vZ t bl.g) bl.m bl.v aVP bl.n bl.d (ha.1.1 _ _) (PlA.any ha.1.2)) fun B F H σ Q k q=>ha.2 B F H σ _ k fun vs F' H' x' rv=>hr F' H' vs Q x'.sub rv fun v F2 H2 x2 r2=>q v F2 H2 (x'.t x2) r2
theorem aJO (t:At X N sc) {T:String} {r:List V->Hp->VK->Prop} (bl:Blt X sc x (.type T)) (hc:aCM X (.type T) r) (ha:EvA X ρ (e :: es) ds)
  (hr:∀ (F H:Hp) vs (Q:VK),Same F H->RepL X.K F vs ds->(∀ v F' H',Ext ⟨F,H⟩ F' H'->Rep X.K F' v d->Q v H')->r vs H Q):EvE X ρ (.Call (.Name x p) (e :: es) [] pos) d:=
 .of (aDE hc (vZ t bl.g) bl.m bl.v aVP bl.n bl.d (ha.1.1 _ _) (PlA.any ha.1.2)) fun B F H σ Q k q=>ha.2 B F H σ _ k fun vs F' H' x' rv=>hr F' H' vs Q x'.sub rv fun v F2 H2 x2 r2=>q v F2 H2 (x'.t x2) r2
theorem RepL.one {K:PySem.W.Frag} {F:Hp} {vs:List V} {d:D} (h:RepL K F vs [d]):∃ v,vs=[v]/\Rep K F v d:=by
 cases h with
 | cons r t=>cases t; exact ⟨_,rfl,r⟩
theorem RepL.two {K:PySem.W.Frag} {F:Hp} {vs:List V} {d e:D} (h:RepL K F vs [d,e]):∃ v u,vs=[v,u]/\Rep K F v d/\Rep K F u e:=by
 cases h with
 | cons r t=>obtain ⟨u,rfl,q⟩:=t.one; exact ⟨_,_,rfl,r,q⟩
theorem vF (t:At X N sc) {k:Bool} {xs:List D} (bl:Blt X sc x (.builtin "len")) (ha:EvQ X ρ e k xs) (hpe:Pl e:=by intro _ _; rfl):EvE X ρ (.Call (.Name x p) [e] [] pos) (.int xs.length):=
 .of (aDS aGV (vZ t bl.g) bl.m bl.v (zL yX vD (hpe _ _)) bl.n bl.d (hpe _ _) rfl) fun B F H σ Q k' q=>ha B F H σ _ k' fun l vs F' H' x' sl rl=>by
  refine ⟨l,vs,rfl,?_,?_⟩
  ·cases k with
   | true=>exact .inl sl
   | false=>exact .inr sl
  ·rw [rl.length]; exact q _ F' H' x' (.int _)
theorem eFT (t:At X N sc) {i:Int} (bl:Blt X sc x (.builtin "abs")) (ha:EvE X ρ e (.int i)) (hpe:Pl e:=by intro _ _; rfl):EvE X ρ (.Call (.Name x p) [e] [] pos) (.int i.natAbs):=
 aHT t bl eDG (yB ha yE hpe) fun F H vs Q sub r q=>by
  obtain ⟨v,rfl,rv⟩:=r.one
  cases rv
  have e:(if i < 0 then -i else i)=(i.natAbs:Int):=by split <;> omega
  exact ⟨i,rfl,by rw [e]; exact q _ F H (.refl sub) (.int _)⟩
theorem aSF (t:At X N sc) {i j:Int} (bl:Blt X sc x (.builtin "max")) (ha:EvE X ρ a (.int i)) (hb:EvE X ρ b (.int j)) (hpa:Pl a:=by intro _ _; rfl) (hpb:Pl b:=by intro _ _; rfl):EvE X ρ (.Call (.Name x p) [a,b] [] pos) (.int (max i j)):=
 aHT t bl (eAU t.calm) (yB ha (yB hb yE hpb) hpa) fun F H vs Q sub r q=>by
  obtain ⟨v,u,rfl,rv,ru⟩:=r.two
  cases rv; cases ru
  have e:(if j > i then j else i)=max i j:=by split <;> omega
  exact ⟨i,j,rfl,by rw [e]; exact q _ F H (.refl sub) (.int _)⟩
theorem eIT (t:At X N sc) {i j:Int} (bl:Blt X sc x (.builtin "min")) (ha:EvE X ρ a (.int i)) (hb:EvE X ρ b (.int j)) (hpa:Pl a:=by intro _ _; rfl) (hpb:Pl b:=by intro _ _; rfl):EvE X ρ (.Call (.Name x p) [a,b] [] pos) (.int (min i j)):=
 aHT t bl (eAT t.calm) (yB ha (yB hb yE hpb) hpa) fun F H vs Q sub r q=>by
  obtain ⟨v,u,rfl,rv,ru⟩:=r.two
  cases rv; cases ru
  have e:(if j < i then j else i)=min i j:=by split <;> omega
  exact ⟨i,j,rfl,by rw [e]; exact q _ F H (.refl sub) (.int _)⟩
theorem aZW (t:At X N sc) {k:Bool} (bl:Blt X sc x (.type "int")) (ha:EvE X ρ e (.bl k)) (hpe:Pl e:=by intro _ _; rfl):EvE X ρ (.Call (.Name x p) [e] [] pos) (.int (if k then 1 else 0)):=
 aJO t bl eAV (yB ha yE hpe) fun F H vs Q sub r q=>by
  obtain ⟨v,rfl,rv⟩:=r.one
  cases rv
  exact .inr ⟨k,rfl,q _ F H (.refl sub) (.int _)⟩
theorem eJC (t:At X N sc) {k:Bool} {xs:List D} (bl:Blt X sc x (.type "list")) (ha:EvQ X ρ e k xs) (hpe:Pl e:=by intro _ _; rfl):EvN X ρ (.Call (.Name x p) [e] [] pos) xs:=
 .of (aDE aQM (vZ t bl.g) bl.m bl.v (zL yX vD (hpe _ _)) bl.n bl.d (hpe _ _) rfl) fun B F H σ Q k' q=>ha B F H σ _ k' fun l vs F' H' x' sl rl=>by
  refine ⟨l,vs,rfl,?_,fun p hp=>?_⟩
  ·cases k with
   | true=>exact .inl sl
   | false=>exact .inr sl
  ·exact q p vs F' _ ⟨x'.sub.trans (yK hp),x'.sh.trans (yK hp),x'.sf,x'.nw⟩ (x'.sh.free hp) yH (x'.sub.free hp) rl
theorem aDV (t:At X N sc) {xs:List D} (bl:Blt X sc x (.type "tuple")) (ha:EvQ X ρ e true xs) (hpe:Pl e:=by intro _ _; rfl):EvE X ρ (.Call (.Name x p) [e] [] pos) (.tup xs):=
 .of (aDE aNV (vZ t bl.g) bl.m bl.v (zL yX vD (hpe _ _)) bl.n bl.d (hpe _ _) rfl) fun B F H σ Q k' q=>ha B F H σ _ k' fun l vs F' H' x' sl rl=>by
  refine ⟨l,vs,rfl,.inl ⟨sl,fun p hp=>?_⟩⟩
  exact q _ _ _ (x'.grow hp) (.tup yH (rl.mono (yK (x'.sub.free hp))))
def tyD:D->Value
 | .non=>.type "NoneType" | .bl _=>.type "bool" | .int _=>.type "int" | .str _=>.type "str" | .tup _=>.type "tuple" | .lst _=>.type "list" | .scr _=>.type "list" | .exc C=>.ref C | .exh C _=>.ref C | .dic _=>.type "dict" | .adr _=>.type "dict" | .stt _=>.type "dict"
theorem eRT {F H:Hp} (sub:Same F H) {v:V} {d:D} (r:Rep X.K F v d) (hd:∀ ns,d ≠ .scr ns) (hx:∀ C ea,d ≠ .exc C/\d ≠ .exh C ea/\d ≠ .adr C:=by intro _ _; exact And.intro (fun h=>by cases h) (And.intro (fun h=>by cases h) (fun h=>by cases h))) (hq:∀ kvs,d ≠ .dic kvs:=by intro _ h; cases h):aWM X.K H v (tyD d):=by
 cases r with
 | non=>exact .non
 | bl b=>exact .bl b
 | int i=>exact .int i
 | str x=>exact .str x
 | tup h _=>exact .tup (sub _ _ h)
 | lst h _=>exact .lst (sub _ _ h)
 | scr h=>exact absurd rfl (hd _)
 | exc h=>exact absurd rfl (hx _ 0).1
 | exh h=>exact absurd rfl (hx _ _).2.1
 | adr a=>exact absurd rfl (hx a 0).2.2
 | stt h=>exact .dK (sub _ _ h)
 | dic h _=>exact absurd rfl (hq _)
theorem eNA {T:String} {k:Bool} (hx:∀ C ea,d ≠ .exc C/\d ≠ .exh C ea/\d ≠ .adr C) (hd:∀ ns,d ≠ .scr ns) (hq:∀ kvs,d ≠ .dic kvs) (hk:PySem.W.kitOne X.K (tyD d) (.type T)=some k) :
  aCM X (.builtin "isinstance") (fun xs H Q=>∃ x F,xs=[x,.ty T]/\Same F H/\Rep X.K F x d/\Q (.bl k) H):=by
 intro pins s σ H xs us Q I r h
 obtain ⟨v,F,rfl,sub,rv,q⟩:=h
 obtain ⟨u,w,rfl,ru,rw'⟩:=aWR r
 cases (show w=Value.type T from rw')
 exact aZM I ru (eRT sub rv hd hx hq) hk fun tk=>⟨.bl k,H,I.tok tk,rfl,q⟩
theorem aEI (t:At X N sc) {T:String} {y:Str} {k:Bool} {py:Pos} (bl:Blt X sc x (.builtin "isinstance")) (bt:Blt X sc y (.type T)) (ha:EvE X ρ a d) (hk:PySem.W.kitOne X.K (tyD d) (.type T)=some k) (hd:∀ ns,d ≠ .scr ns:=by intro _ h; cases h) (hpa:Pl a:=by intro _ _; rfl) (hx:∀ C ea,d ≠ .exc C/\d ≠ .exh C ea/\d ≠ .adr C:=by intro _ _; exact And.intro (fun h=>by cases h) (And.intro (fun h=>by cases h) (fun h=>by cases h))) (hq:∀ kvs,d ≠ .dic kvs:=by intro _ h; cases h) :
  EvE X ρ (.Call (.Name x p) [a,.Name y py] [] pos) (.bl k):=
 .of (aDS (eNA hx hd hq hk) (vZ t bl.g) bl.m bl.v (zL yX (zL (aYQ (v:=.ty T) (vZ t bt.g) bt.m bt.v rfl bt.n bt.d) vD) (hpa _ _)) bl.n bl.d (hpa _ _) rfl) fun B F H σ Q k' q=>
  ha B F H σ _ k' fun v F' H' x' r=>⟨v,F',rfl,x'.sub,r,q _ F' H' x' (.bl k)⟩
theorem RepL.bls {K:PySem.W.Frag} {F:Hp}:∀ {bs:List Bool} {vs:List V},RepL K F vs (bs.map D.bl)->vs=bs.map V.bl
 | [],_,h=>by cases h; rfl
 | b :: bs,_,h=>by
  cases h with
  | cons r t=>cases r; rw [List.map_cons,RepL.bls t]
theorem aVA:∀ {bs:List Bool} {us:List Value},Vals (bs.map V.bl) us->LSm.BoolsAre us bs
 | [],_,r=>by cases r; exact .nil
 | b :: bs,_,r=>by
  rw [List.map_cons] at r
  cases r with
  | cons r1 r2=>
   cases (show _=Value.bool b from r1)
   exact .cons b (aVA r2)
theorem eAW (hc:X.calm=true):aCM X (.builtin "all") (fun xs H Q=>∃ (l:Addr) (bs:List Bool),xs=[.ref l]/\SqL X.K H l (bs.map V.bl)/\Q (.bl (bs.all id)) H):=by
 intro pins s σ H xs us Q I r h
 obtain ⟨l,bs,rfl,sl,q⟩:=h
 obtain ⟨u,rfl,ru⟩:=aFV r
 cases (show u=Value.ref l from ru)
 obtain ⟨vs,rv,pl,hz⟩:=I.list sl
 have hb:=aVA rv
 have hl:=pl.isList
 have hlt:l < s.heap.objs.size:=by obtain ⟨_,e,_⟩:=hl; exact Heap.lt_size e
 refine call_all_walk (wpAny_pyIter_list hl ?_)
 refine ⟨s.heap.objs.size,[s.heap.objs.size,l],[s.heap.objs.size],vs.toArray.size,_,_,fun i=>(bs[i]?).getD true,rfl,Walks.list (A:=X.A.in1) (I.ok.hd hc) _ l (Nat.ne_of_lt hlt) vs.toArray,
  ⟨⟨_,Heap.get?_push_size _ rfl,rfl,rfl⟩,hl.push _⟩,fun i v s' Q' E' hP hQ=>?_,fun h' tk hk=>?_⟩
 ·obtain ⟨b,e,rfl⟩:=hb.get i v (by simpa using hP)
  simp only [e,Option.getD_some] at hQ
  exact wpAny_truthy_bool hQ
 ·have e:((List.range vs.toArray.size).all fun i=>(bs[i]?).getD true)=bs.all id:=by
   rw [List.size_toArray,hb.length]; exact LSm.range_all bs
  rw [e]
  exact ⟨.bl _,H,I.kept (LSm.kept_iter hk),rfl,q⟩
theorem eAA (t:At X N sc) {bs:List Bool} (bl:Blt X sc x (.builtin "all")) (ha:EvQ X ρ e true (bs.map D.bl)) (hpe:Pl e:=by intro _ _; rfl):EvE X ρ (.Call (.Name x p) [e] [] pos) (.bl (bs.all id)):=
 .of (aDS (eAW t.calm) (vZ t bl.g) bl.m bl.v (zL yX vD (hpe _ _)) bl.n bl.d (hpe _ _) rfl) fun B F H σ Q k' q=>ha B F H σ _ k' fun l vs F' H' x' sl rl=>by
  have e:=rl.bls
  subst e
  exact ⟨l,bs,rfl,sl,q _ F' H' x' (.bl _)⟩
def spC (K:PySem.W.Frag) (C:List D->D->Prop):Sp:=fun vs H Q _=>∃ F ds d,Same F H/\RepL K F vs ds/\C ds d/\∀ v F' H',Ext ⟨F,H⟩ F' H'->Rep K F' v d->Q v H'
def Callee (X:Cx) (x:Str) (C:List D->D->Prop):Prop:=∃ (f:Addr) (fd:FuncData) (ps:List Str) (k:Nat),qL X.prog X.w X.K X.mg X.base CX0 k f fd ps (spC X.K C)/\Room k X.A/\X.mg x=some (.ref f)/\PySem.W.keepIn X.K (.ref f)=true/\Binds X.K fd ps []
theorem yU (t:At X N sc) {C:List D->D->Prop} (h:Callee X x C) (ha:EvA X ρ (e :: es) ds) (hC:C ds d) (hg:sc.names.lookup x=some .globalImplicit:=by rfl) (hdb:(x == ("__debug__" : Str))=false:=by rfl):EvE X ρ (.Call (.Name x p) (e :: es) [] pos) d:=by
 obtain ⟨f,fd,ps,k,F,hr,hm,hk,hb⟩:=h
 have pz:aBZ CX0 X E0:=aPJ
 refine .of (aEQ F hr (vZ t hg) hm hk hb .nil pz aVP hdb (ha.1.1 _ _) (PlA.any ha.1.2)) fun B F' H σ Q k' q=>ha.2 B F' H σ _ k' fun vs F1 H1 x1 r1=>?_
 refine ⟨F1,ds,d,x1.sub,by rw [List.append_nil]; exact r1,hC,fun v F2 H2 x2 r2=>q v F2 H2 (x1.t x2) r2⟩
def dE (sc:Scope):Env:={ scope:=sc,locals:=0,globals:=0,cells:=[],qual := "",func:=none,code:=.none,frame:=none,builtins:=0 }
theorem aRI {ts:List Expr} {v:Expr} {env env':Env} (h:env.scope=env'.scope):swappedStores ts v env=swappedStores ts v env':=by
 unfold swappedStores Env.blockKind Env.kindOf
 rw [h]
variable {st:Stmt} {qU:List Stmt} {o:Out} {ρ':Rho}
theorem qQ:EvSs X ρ [] (.nx ρ):=.of eHF fun B F H σ E k q=>q F H σ k (.refl _)
theorem yG (h1:EvS X ρ st (.nx ρ')) (h2:EvSs X ρ' qU o):EvSs X ρ (st :: qU) o:=
 .of (vH aWO jF) fun B F H σ E k q=>h1 B F H σ _ k fun F1 H1 σ1 k1 s1=>h2 B F1 H1 σ1 E k1 (q.later s1)
theorem aBX (h1:EvS X ρ st (.rt d)):EvSs X ρ (st :: qU) (.rt d):=
 .of (vH aWO jF) fun B F H σ E k q=>h1 B F H σ _ k q
theorem yJ (h1:EvS X ρ st o):EvSs X ρ [st] o:=.of (aGA aWO) fun B F H σ E k q=>h1 B F H σ E k q
theorem wR {xs:List D} (i:Nat) (hi:ρ[i]? = some (.own xs)) (h:EvSs X (ρ.set i (.val (.lst xs))) qU o):EvSs X ρ qU o:=fun B F H σ E k q=>by
 obtain ⟨F',sf,k'⟩:=k.freezeAt hi
 exact h B F' H σ E k' (q.later sf)
theorem zO (h:EvE X ρ e d):EvS X ρ (.Return (some e) pos) (.rt d):=
 .of (aPC yX) fun B F H σ E k q=>h B F H σ _ k fun v F' H' x r=>q v F' H' (k.toExt.trans x) r
theorem aBJ {ss us:List Stmt} (hc:EvT X ρ c true) (h:EvSs X ρ ss o):EvS X ρ (.If c ss us pos) o:=
 .of (aPD aKR jF jF) fun B F H σ E k q=>hc B F H σ _ k fun F1 H1 x1=>by rw [if_pos rfl]; exact h B F1 H1 σ E (k.ext x1) (q.later x1.sf)
theorem wM {ss us:List Stmt} (hc:EvT X ρ c false) (h:EvSs X ρ us o):EvS X ρ (.If c ss us pos) o:=
 .of (aPD aKR jF jF) fun B F H σ E k q=>hc B F H σ _ k fun F1 H1 x1=>by rw [if_neg Bool.false_ne_true]; exact h B F1 H1 σ E (k.ext x1) (q.later x1.sf)
theorem hfT [FnT X] {x:Str}:X.fn x=true\/X.env.scope.names.lookup x=some .local:=.inl (FnT.fn x)
theorem At.loc (t:At X N sc) {x:Str} (hx:aRB sc x=true):Loc X.env.scope x:=by rw [t.eS]; exact eMM hx
theorem At.ix (t:At X N sc) {i:Nat} {x:Str} (h:N[i]? = some x):X.N[i]? = some x:=by rw [t.eN]; exact h
theorem zK [FnT X] (t:At X N sc) (i:Nat) {pos':Pos} (h:EvE X ρ e d) (hi:N[i]? = some x:=by rfl) (hx:aRB sc x=true:=by rfl) (hs:swapsWith e (some (.Name x pos')) pos.line X.env=pure false:=by rfl) :
  EvS X ρ (.Assign [.Name x pos'] e pos) (.nx (ρ.set i (.val d))):=
 .of (aIM (i:=i) t.nd (t.ix hi) (t.loc hx) yX hs hfT) fun B F H σ E k q=>h B F H σ _ k fun v F' H' x' r=>q F' H' _ ((k.ext x').setVal i r) x'.sf
theorem aFE [FnT X] (t:At X N sc) (i:Nat) {pos':Pos} {xs:List D} (h:EvN X ρ e xs) (hi:N[i]? = some x:=by rfl) (hx:aRB sc x=true:=by rfl) (hs:swapsWith e (some (.Name x pos')) pos.line X.env=pure false:=by rfl) :
  EvS X ρ (.Assign [.Name x pos'] e pos) (.nx (ρ.set i (.own xs))):=
 .of (aIM (i:=i) t.nd (t.ix hi) (t.loc hx) yX hs hfT) fun B F H σ E k q=>h B F H σ _ k fun p vs F' H' x' h0 hp hf r=>
  q F' H' _ ((k.ext x').setOwn i hp hf (k.sh.free h0) (k.noOwn h0) r) x'.sf
theorem eDZ [FnT X] (t:At X N sc) (i:Nat) {op:Operator} {g:Int->Int->Int} {C:Int->Int->Prop} {n m:Int} {pos':Pos} (ho:OpR X (inplaceOp op) (rI C fun i j=>.int (g i j))) (hr:ρ[i]? = some (.val (.int n))) (h:EvE X ρ e (.int m)) (hc:C n m) (hi:N[i]? = some x:=by rfl) (hx:aRB sc x=true:=by rfl) :
  EvS X ρ (.AugAssign (.Name x pos') op e pos) (.nx (ρ.set i (.val (.int (g n m))))):=
 .of (eLK (i:=i) t.nd (t.ix hi) (t.loc hx) yX (show PIp X op (rI C fun i j=>.int (g i j)) from ho) hfT) fun B F H σ E k q=>by
  obtain ⟨v,h1,h2⟩:=k.vals i _ hr
  cases h2
  exact ⟨_,h1,h B F H σ _ k fun v F' H' x' r=>by
   cases r
   exact ⟨n,m,rfl,rfl,hc,q F' H' _ ((k.ext x').setVal i (.int _)) x'.sf⟩⟩
theorem aUK:OpR X (inplaceOp .Add) (rI (fun _ _=>True) fun i j=>.int (i+j)):=opI fun _ _ _ _ _ _ _ _ q=>iadd_int q
theorem eCV:OpR X (inplaceOp .Sub) (rI (fun _ _=>True) fun i j=>.int (i - j)):=opI fun _ _ _ _ _ _ _ _ q=>isub_int q
theorem eBX [FnT X] (t:At X N sc) (i:Nat) {n m:Int} {pos':Pos} (hr:ρ[i]? = some (.val (.int n))) (h:EvE X ρ e (.int m)) (hi:N[i]? = some x:=by rfl) (hx:aRB sc x=true:=by rfl) :
  EvS X ρ (.AugAssign (.Name x pos') .Add e pos) (.nx (ρ.set i (.val (.int (n+m))))):=eDZ t i aUK hr h trivial hi hx
theorem aTN [FnT X] (t:At X N sc) (i:Nat) {n m:Int} {pos':Pos} (hr:ρ[i]? = some (.val (.int n))) (h:EvE X ρ e (.int m)) (hi:N[i]? = some x:=by rfl) (hx:aRB sc x=true:=by rfl) :
  EvS X ρ (.AugAssign (.Name x pos') .Sub e pos) (.nx (ρ.set i (.val (.int (n - m))))):=eDZ t i eCV hr h trivial hi hx
theorem zA [FnT X] (t:At X N sc) (i:Nat) (hi:N[i]? = some x:=by rfl) (hx:aRB sc x=true:=by rfl):EvG X ρ (.Name x pos) d (ρ.set i (.val d)):=
 .of (aMV (i:=i) t.nd (t.ix hi) (t.loc hx) hfT) fun B F H σ v Q k r q=>q F H _ (k.setVal i r) (.refl _)
theorem aGF [FnT X] (t:At X N sc) (i j:Nat) {y:Str} {u v:D} {px py:Pos} {kt:Nat} (hi:N[i]? = some x:=by rfl) (hj:N[j]? = some y:=by rfl) (hx:aRB sc x=true:=by rfl) (hy:aRB sc y=true:=by rfl) :
  EvG X ρ (.Tuple [.Name x px,.Name y py] kt pos) (.tup [u,v]) ((ρ.set i (.val u)).set j (.val v)):=
 .of (eEO t.calm (aMU (aMV (i:=i) t.nd (t.ix hi) (t.loc hx) hfT) (aMU (aMV (i:=j) t.nd (t.ix hj) (t.loc hy) hfT) aYO))) fun B F H σ w Q k r q=>by
  cases r with
  | tup h rl=>
   obtain ⟨v1,v2,rfl,r1,r2⟩:=rl.two
   exact ⟨_,_,rfl,SqT.of (k.sub _ _ h),rfl,_,_,rfl,_,_,rfl,rfl,q F H _ ((k.setVal i r1).setVal j r2) (.refl _)⟩
theorem qN (t:At X N sc) (i:Nat) (hi:N[i]? = some x:=by rfl) (hx:sc.names.lookup x=some .local:=by rfl):EvGn X ρ (.Name x pos) d (ρ.set i (.val d)):=
 .of (aMV (i:=i) t.nd (t.ix hi) (by rw [t.eS]; exact .inl hx) (by rw [t.eS]; exact .inr hx)) fun B F H σ v Q k r q=>q _ (k.setVal i r) fun p h=>h.setVal i _ d
theorem eBY (t:At X N sc) {tg:Expr} (h:EvE X ρ e d) (hg:EvG X ρ tg d ρ') (hs:swapsWithSole [tg] e pos.line X.env=pure false:=by rfl) (hw:swappedStores [tg] e (dE sc)=pure none:=by rfl)
  (h1:(assignEach [tg] X.env).map (·.2)=[assign tg X.env]:=by rfl):EvS X ρ (.Assign [tg] e pos) (.nx ρ'):=
 .of (eEK yX eJT hs ((aRI (show X.env.scope=(dE sc).scope from t.eS)).trans hw) h1) fun B F H σ E k q=>h B F H σ _ k fun v F1 H1 x1 r1=>hg B F1 H1 σ v _ (k.ext x1) r1 fun F2 H2 σ2 k2 s2=>q F2 H2 σ2 k2 (x1.sf.trans s2)
theorem aPK (t:At X N sc) {i:Nat} {xs:List D} (hr:ρ[i]? = some (.own xs)) (hN:N[i]? = some x) (hv:aDQ sc x=true) (hx:qK x=true) {B:B0} {F H:Hp} {σ:St} {Q:VK} (k:Ok X.K B F H σ ρ)
  (h:∀ p vs,σ[i]? = some (some (.ref p))->H p=some (.lst vs)->RepL X.K F vs xs->Q (.ref p) H):wE X (.Name x pos) σ H Q:=.mk fun pins s I=>by
 obtain ⟨p,vs,h1,h2,h3,h4,h5⟩:=k.owns i xs hr
 exact aVO t hN hv hx pins s σ H Q I ⟨_,h1,h p vs h1 h2 h5⟩
theorem aHM (t:At X N sc) (i:Nat) {xs:List D} {apos cpos:Pos} {y:Str} (hr:ρ[i]? = some (.own xs)) (h:EvE X ρ e d) (hz:xs.length < sizeLine) (hN:N[i]? = some y:=by rfl) (hv:aDQ sc y=true:=by rfl) (hx:qK y=true:=by rfl)
  (hs:starEach [e] X.env=(false,eval e X.env) :: starEach [] X.env:=by rfl) (hline:(apos.endLine == cpos.line)=true:=by rfl) (hpl:(backTo cpos (starEach [] X.env)).any (·.1)=false:=by rfl)
  (hfew:((backTo cpos (starEach [e] X.env)).all (fun x=>!x.1) && (backToKw cpos (keywordEach [] X.env)).all (fun x=>x.1.isSome) && decide (([e]:List Expr).length+([]:List Keyword).length+(if ([]:List Keyword).isEmpty then 0 else 1) < 30))=true:=by rfl)
  (hsw:swapsWith (.Call (.Attribute (.Name y p) "append" apos) [e] [] cpos) none pos.line X.env=pure false:=by rfl) :
  EvS X ρ (.Expr (.Call (.Attribute (.Name y p) "append" apos) [e] [] cpos) pos) (.nx (ρ.set i (.own (xs++[d])))):=
 .of (aEP (eHO PySem.F.plainAttrs_list PySem.F.slot_list_append PySem.F.type_list_append aFJ yX (zL yX vD hs) rfl hfew hline hs hpl) hsw) fun B F H σ E k q=>
  aPK t hr hN hv hx k fun l vs h1 h2 h3=>⟨.inl ⟨rfl,_,SqL.of h2⟩,h B F H σ _ k fun v F' H' x' r=>by
   have k':=k.ext x'
   have h2':=x'.sh _ _ h2
   refine ⟨l,vs,v,rfl,rfl,h2',by rw [h3.length]; exact hz,?_⟩
   exact q F' _ _ (k'.chgOwn (vs:=vs) hr h1 ((h3.mono x'.sf).append (.cons r .nil))) x'.sf⟩
theorem eKX (t:At X N sc) (i:Nat) {xs:List D} {apos cpos:Pos} {y:Str} (hr:ρ[i]? = some (.own xs)) (hz:xs≠[]) (hN:N[i]? = some y:=by rfl) (hv:aDQ sc y=true:=by rfl) (hx:qK y=true:=by rfl)
  (hline:(apos.endLine == cpos.line)=true:=by rfl) (hsw:swapsWith (.Call (.Attribute (.Name y p) "pop" apos) [] [] cpos) none pos.line X.env=pure false:=by rfl) :
  EvS X ρ (.Expr (.Call (.Attribute (.Name y p) "pop" apos) [] [] cpos) pos) (.nx (ρ.set i (.own xs.dropLast))):=
 .of (aEP (aTZ PySem.F.plainAttrs_list PySem.F.slot_list_pop PySem.F.type_list_pop aYX yX rfl hline) hsw) fun B F H σ E k q=>
  aPK t hr hN hv hx k fun l vs h1 h2 h3=>⟨.inl ⟨rfl,_,SqL.of h2⟩,by
   have hl:=h3.length
   have hne:vs≠[]:=fun z=>hz (List.eq_nil_of_length_eq_zero (by rw [<- hl,z]; rfl))
   obtain ⟨w,hw⟩:∃ w,vs[vs.length - 1]? = some w:=⟨vs[vs.length - 1]'(by have:=List.length_pos_iff.mpr hne; omega),List.getElem?_eq_getElem _⟩
   exact ⟨l,vs,w,rfl,rfl,h2,hw,q F _ _ (k.chgOwn (vs:=vs) hr h1 h3.dropLast) (.refl _)⟩⟩
theorem eJE (t:At X N sc) (i:Nat) {xs:List D} {n:Int} {j:Nat} {y:Str} (hr:ρ[i]? = some (.own xs)) (h:EvE X ρ b (.int n)) (hj:ixN xs.length n=some j) (hN:N[i]? = some y:=by rfl) (hv:aDQ sc y=true:=by rfl) (hx:qK y=true:=by rfl)
  (ha:∀ v,assign (.Subscript (.Name y p) b pos) X.env v=(do
   let ov <- holding [v] (eval (.Name y p) X.env)
   let iv <- holding [v,ov] (eval b X.env)
   standAt pos
   holding [v,ov,iv] (setItem ov iv v)
   release [v,ov,iv] []):=by intro _; rfl):EvG X ρ (.Subscript (.Name y p) b pos) d (ρ.set i (.own (xs.set j d))):=
 .of (eEP yX yX aTM ha) fun B F H σ v Q k r q=>
  aPK t hr hN hv hx k fun l vs h1 h2 h3=>h B F H σ _ k fun w F' H' x' rw'=>by
   cases rw'
   have h2':=x'.sh _ _ h2
   refine ⟨l,vs,n,j,rfl,rfl,h2',by rw [h3.length]; exact hj,?_⟩
   exact q F' _ _ ((k.ext x').chgOwn (vs:=vs) hr h1 ((h3.mono x'.sf).set (r.mono x'.sf) j)) x'.sf
theorem aZR:eRM X (eRB X.K):=by
 intro pins s σ H o i ov iv Q I ro ri h
 obtain ⟨p,xs,n,z,rfl,rfl,hq,he,q⟩:=h
 cases ro
 obtain ⟨t,rfl⟩:=ri
 obtain ⟨its,r,pl,hz⟩:=I.list hq
 obtain ⟨j,h1,h2,h3,h4,h5⟩:=aOG he
 obtain ⟨w,ew,rw'⟩:=r.get h2
 have hl:=r.length
 have hn:=aGP
 have fin:EP X pins σ Q w s:=⟨z,H,I,rw',q⟩
 by_cases h0:0<=n
 ·have hj:n.toNat=j:=by
   rw [seqIndex_of h0 h5] at h1
   exact Option.some.inj h1
  exact wpAny_getItem_list pl.isList h0 (by omega) (by rw [hj]; simpa using ew) fin
 ·have hj:(n+(its.toArray.size:Int)).toNat=j:=by
   rw [seqIndex_neg (by omega) h4] at h1
   rw [List.size_toArray,<- hl]
   exact Option.some.inj h1
  exact wpAny_getItem_list_neg pl.isList (by omega) (by rw [List.size_toArray] <;> omega) (by omega) (by rw [hj]; simpa using ew) fin
theorem aXR (t:At X N sc) (i:Nat) {op:Operator} {g:Int->Int->Int} {C:Int->Int->Prop} {xs:List D} {n u m:Int} {j:Nat} {y:Str} {tpos:Pos} (ho:OpR X (inplaceOp op) (rI C fun i j=>.int (g i j))) (hr:ρ[i]? = some (.own xs))
  (hb:EvE X ρ b (.int n)) (hj:ixN xs.length n=some j) (hu:xs[j]? = some (.int u)) (he:EvE X ρ e (.int m)) (hc:C u m) (hN:N[i]? = some y:=by rfl) (hv:aDQ sc y=true:=by rfl) (hx:qK y=true:=by rfl)
  (ha:∀ ov iv new,augStore b ov iv new=(do holding [new,ov,iv] (setItem ov iv new); release [new,ov,iv] []; pure .next):=by intros; rfl) :
  EvS X ρ (.AugAssign (.Subscript (.Name y p) b tpos) op e pos) (.nx (ρ.set i (.own (xs.set j (.int (g u m)))))):=
 .of (eHH yX yX aZR yX (show PIp X op (rI C fun i j=>.int (g i j)) from ho) aTM ha) fun B F H σ E k q=>
  aPK t hr hN hv hx k fun l vs h1 h2 h3=>hb B F H σ _ k fun w F1 H1 x1 rw'=>by
   cases rw'
   have h21:=x1.sh _ _ h2
   have hat:atI xs n=some (.int u):=by unfold atI; rw [hj]; exact hu
   obtain ⟨w,hw1,hw2⟩:=(h3.mono x1.sf).at hat
   cases hw2
   refine ⟨l,vs,n,_,rfl,rfl,SqL.of h21,hw1,he B F1 H1 σ _ (k.ext x1) fun w F2 H2 x2 rw2=>?_⟩
   cases rw2
   have h22:=x2.sh _ _ h21
   refine ⟨u,m,rfl,rfl,hc,l,vs,n,j,rfl,rfl,h22,by rw [h3.length]; exact hj,?_⟩
   exact q F2 _ _ ((k.ext (x1.t x2)).chgOwn (vs:=vs) hr h1 (((h3.mono x1.sf).mono x2.sf).set (.int _) j)) (x1.t x2).sf
end
structure wI (X:Cx) (tg e:Expr) (σ:St) (H:Hp) (R:It->Hp->Prop):Prop where
 go:∀ (pins:List (Addr × Obj)) (s:Shared),Inv X pins σ H s->wpAny (model X.prog X.w) X.A (eval e X.env) (fun v s1=>wpAny (model X.prog X.w) X.A (pyIter v) (PIE X pins σ tg R) X.xe s1) X.xe s
instance wI_f {X:Cx} {tg e:Expr} {σ:St} {H:Hp} {R:It->Hp->Prop}:CoeFun (wI X tg e σ H R) (fun _=>∀ (pins:List (Addr × Obj)) (s:Shared),Inv X pins σ H s->wpAny (model X.prog X.w) X.A (eval e X.env) (fun v s1=>wpAny (model X.prog X.w) X.A (pyIter v) (PIE X pins σ tg R) X.xe s1) X.xe s):=⟨wI.go⟩
theorem eRE {X:Cx} {tg e:Expr}:PI X tg e (wI X tg e):=fun pins s _ _ _ I h=>h pins s I
def eBJ (K:PySem.W.Frag) (J:It) (F:Hp) (ds:List D):Prop:=∀ (i:Nat) (F2 H2:Hp),Same F F2->Same F2 H2 ->
 (∀ d,ds[i]? = some d->J.go i H2/\∀ x H',J.yld i H2 x H'->∃ F',Ext ⟨F2,H2⟩ F' H'/\Rep K F' x d)/\(ds.length<=i->J.stop i H2)
def EvI (X:Cx) (ρ:Rho) (tg e:Expr) (ds:List D):Prop:=∀ (B:B0) (F H:Hp) (σ:St) (R:It->Hp->Prop),Ok X.K B F H σ ρ ->
 (∀ J F' H',Ext ⟨F,H⟩ F' H'->eBJ X.K J F' ds->R J H')->wI X tg e σ H R
section
variable {X:Cx} {ρ:Rho} {tg e a b c:Expr} {d:D} {pos:Pos} {N:List Str} {sc:Scope} {ds:List D}
theorem EvI.of {t:TI} (h:PI X tg e t) (r:∀ (B:B0) (F H:Hp) (σ:St) (R:It->Hp->Prop),Ok X.K B F H σ ρ->(∀ J F' H',Ext ⟨F,H⟩ F' H'->eBJ X.K J F' ds->R J H')->t σ H R):EvI X ρ tg e ds:=
 fun B F H σ R k q=>.mk fun pins s I=>h pins s σ H R I (r B F H σ R k q)
theorem eIH {K:PySem.W.Frag} {F:Hp} {l:Addr} {vs:List V} (hs:∀ H,Same F H->SqL K H l vs) (r:RepL K F vs ds):eBJ K (Itl K l) F ds:=fun i F2 H2 s1 s2=>
 ⟨fun d hd=>by
  obtain ⟨v,hv,rv⟩:=r.get hd
  have sq:=hs H2 (s1.trans s2)
  refine ⟨⟨vs,v,sq,hv⟩,fun x H' y=>?_⟩
  obtain ⟨rfl,y⟩:=y
  have e:=y vs sq
  rw [hv] at e; cases e
  exact ⟨F2,.refl s2,rv.mono s1⟩,fun h=>⟨vs,hs H2 (s1.trans s2),by rw [r.length]; exact h⟩⟩
theorem eMX {K:PySem.W.Frag} {F:Hp} {l:Addr} {vs:List V} (hs:∀ H,Same F H->SqT K H l vs) (r:RepL K F vs ds):eBJ K (Itt K l) F ds:=fun i F2 H2 s1 s2=>
 ⟨fun d hd=>by
  obtain ⟨v,hv,rv⟩:=r.get hd
  have sq:=hs H2 (s1.trans s2)
  refine ⟨⟨vs,v,sq,hv⟩,fun x H' y=>?_⟩
  obtain ⟨rfl,y⟩:=y
  have e:=y vs sq
  rw [hv] at e; cases e
  exact ⟨F2,.refl s2,rv.mono s1⟩,fun h=>⟨vs,hs H2 (s1.trans s2),by rw [r.length]; exact h⟩⟩
theorem eAF (h:EvE X ρ e (.lst ds)):EvI X ρ tg e ds:=.of (aYN yX) fun B F H σ R k q=>h B F H σ _ k fun v F' H' x r=>by
 cases r with
 | lst hf rl=>exact ⟨_,rfl,⟨_,SqL.of (x.sub _ _ hf)⟩,q _ F' H' x (eIH (fun H2 s2=>SqL.of (s2 _ _ hf)) rl)⟩
theorem aQC (h:EvE X ρ e (.tup ds)):EvI X ρ tg e ds:=.of (eLM yX) fun B F H σ R k q=>h B F H σ _ k fun v F' H' x r=>by
 cases r with
 | tup hf rl=>exact ⟨_,rfl,⟨_,SqT.of (x.sub _ _ hf)⟩,q _ F' H' x (eMX (fun H2 s2=>SqT.of (s2 _ _ hf)) rl)⟩
def jO (lo:Int) (n:Nat):List D:=(List.range n).map fun (i:Nat)=>D.int (lo+(i:Int))
theorem eFH {K:PySem.W.Frag} {F:Hp} {lo:Int} {n:Nat}:eBJ K (Itr lo n) F (jO lo n):=fun i F2 H2 s1 s2=>
 ⟨fun d hd=>by
  unfold jO at hd
  rw [List.getElem?_map] at hd
  have hi:i < n:=by
   by_cases h:i < n
   ·exact h
   ·rw [List.getElem?_eq_none (by simpa using h)] at hd; cases hd
  rw [List.getElem?_range hi] at hd
  cases hd
  refine ⟨hi,fun x H' y=>?_⟩
  obtain ⟨rfl,rfl⟩:=y
  exact ⟨F2,.refl s2,.int _⟩,fun h=>by
   have h':n<=i:=by simpa [jO] using h
   exact h'⟩
theorem jT (t:At X N sc) {j:Int} {p:Pos} (bl:Blt X sc "range" (.type "range")) (h:EvE X ρ a (.int j)) (h1 : -(2 ^ 62)<=j) (h2:j < 2 ^ 62) (hs:Pl a:=by intro _ _; rfl):EvI X ρ tg (.Call (.Name "range" p) [a] [] pos) (jO 0 j.toNat):=
 .of (aPH (vZ t bl.g) bl.m (zL yX vD (hs _ _)) (hs _ _)) fun B F H σ R k q=>h B F H σ _ k fun v F' H' x r=>by
  cases r
  exact ⟨j,rfl,h1,h2,q _ F' H' x eFH⟩
inductive FRun (X:Cx) (tg:Expr) (body:List Stmt):List D->Rho->Out->Prop where
 | nil {ρ:Rho}:FRun X tg body [] ρ (.nx ρ)
 | cons {d:D} {ds:List D} {ρ ρ1 ρ2:Rho} {o:Out}:EvG X ρ tg d ρ1->EvSs X ρ1 body (.nx ρ2)->FRun X tg body ds ρ2 o->FRun X tg body (d :: ds) ρ o
 | ret {d r:D} {ds:List D} {ρ ρ1:Rho}:EvG X ρ tg d ρ1->EvSs X ρ1 body (.rt r)->FRun X tg body (d :: ds) ρ (.rt r)
theorem aAQ {α:Type} {xs ys:List α} {x:α} {i:Nat} (h:xs.drop i=x :: ys):xs[i]? = some x/\xs.drop (i+1)=ys/\i < xs.length:=by
 have hi:i < xs.length:=by
  by_cases q:i < xs.length
  ·exact q
  ·rw [List.drop_eq_nil_of_le (by omega)] at h; cases h
 have e:=List.drop_eq_getElem_cons hi
 rw [h] at e
 injection e with e1 e2
 exact ⟨by rw [List.getElem?_eq_getElem hi,e1],e2.symm,hi⟩
theorem aCW (t:At X N sc) {body:List Stmt} {o:Out} (hi:EvI X ρ tg e ds) (h:FRun X tg body ds ρ o) (hs:∀ x,foldedSetIterable e X.env x=pure x:=by intro _; rfl):EvS X ρ (.For tg e body [] pos) o:=
 .of (aYA t.pass t.calm eRE eJT jF hs) fun B F H σ E k q=>hi B F H σ _ k fun J F1 H1 x1 J1=>by
  refine ⟨fun i m σ H=>∃ ρ' F',Ok X.K B F' H σ ρ'/\Same F1 F'/\FRun X tg body (ds.drop i) ρ' o/\m=ds.length - i,⟨ds.length,ρ,F1,k.ext x1,.refl _,by simpa using h,by simp⟩,?_⟩
  rintro i m σ H ⟨ρ',F',k',sf,run,rfl⟩
  have q':Post X.K B F' E o:=q.later (x1.sf.trans sf)
  have J2:=J1 i F' H sf k'.sub
  generalize e1:ds.drop i=qU at run
  cases run with
  | nil=>
   have hl:ds.length<=i:=by
    have:=congrArg List.length e1
    rw [List.length_drop,List.length_nil] at this
    omega
   exact .inl ⟨J2.2 hl,q' F' H σ k' (.refl _)⟩
  | @cons d0 ds0 ρ0 ρ1 ρ2 o0 g b r=>
   obtain ⟨hd,hr,hlt⟩:=aAQ e1
   obtain ⟨go,yl⟩:=J2.1 _ hd
   refine .inr ⟨go,fun σ' H'=>∃ F'',Ok X.K B F'' H' σ' ρ2/\Same F1 F'',fun σ' H' ⟨F'',k'',s''⟩=>⟨ds.length - (i+1),by omega,_,F'',k'',s'',by rw [hr]; exact r,rfl⟩,fun x H' y=>?_⟩
   obtain ⟨F2,x2,rx⟩:=yl x H' y
   refine g B F2 H' σ x _ (k'.ext x2) rx fun F3 H3 σ3 k3 s3=>b B F3 H3 σ3 _ k3 fun F4 H4 σ4 k4 s4=>⟨F4,k4,sf.trans (x2.sf.trans (s3.trans s4))⟩
  | ret g b=>
   obtain ⟨hd,hr,hlt⟩:=aAQ e1
   obtain ⟨go,yl⟩:=J2.1 _ hd
   refine .inr ⟨go,fun _ _=>False,fun σ' H' z=>z.elim,fun x H' y=>?_⟩
   obtain ⟨F2,x2,rx⟩:=yl x H' y
   exact g B F2 H' σ x _ (k'.ext x2) rx fun F3 H3 σ3 k3 s3=>b B F3 H3 σ3 _ k3 q
theorem FRun.of (body:List Stmt) (R:Nat->Rho):∀ (ds:List D) (i:Nat),(∀ (j:Nat) d,ds[j]? = some d->∃ ρ1,EvG X (R (i+j)) tg d ρ1/\EvSs X ρ1 body (.nx (R (i+j+1))))->FRun X tg body ds (R i) (.nx (R (i+ds.length)))
 | [],i,_=>.nil
 | d :: ds,i,h=>by
  obtain ⟨ρ1,h1,h2⟩:=h 0 d rfl
  refine .cons h1 h2 ?_
  have r:=FRun.of body R ds (i+1) fun j e he=>by
   have:=h (j+1) e (by simpa using he)
   rw [show i+1+j=i+(j+1) by omega]
   exact this
  rw [show i+(d :: ds).length=i+1+ds.length by simp; omega]
  exact r
inductive WRun (X:Cx) (c:Expr) (body:List Stmt):Nat->Rho->Out->Prop where
 | stop {ρ:Rho}:EvT X ρ c false->WRun X c body 0 ρ (.nx ρ)
 | step {n:Nat} {ρ ρ1:Rho} {o:Out}:EvT X ρ c true->EvSs X ρ body (.nx ρ1)->WRun X c body n ρ1 o->WRun X c body (n+1) ρ o
 | ret {ρ:Rho} {r:D}:EvT X ρ c true->EvSs X ρ body (.rt r)->WRun X c body 0 ρ (.rt r)
theorem aIJ (t:At X N sc) {body:List Stmt} {o:Out} (h:∃ n,WRun X c body n ρ o):EvS X ρ (.While c body [] pos) o:=
 .of (aTS t.pass aKR jF) fun B F H σ E k q=>by
  obtain ⟨n,h⟩:=h
  refine ⟨fun m σ H=>∃ ρ' F',Ok X.K B F' H σ ρ'/\Same F F'/\WRun X c body m ρ' o,⟨n,ρ,F,k,.refl _,h⟩,?_⟩
  rintro m σ H ⟨ρ',F',k',sf,run⟩
  cases run with
  | stop hc=>
   refine hc B F' H σ _ k' fun F1 H1 x1=>?_
   rw [if_neg Bool.false_ne_true]
   exact q F1 H1 σ (k'.ext x1) (sf.trans x1.sf)
  | @step n0 ρ0 ρ1 o0 hc hb r=>
   refine hc B F' H σ _ k' fun F1 H1 x1=>?_
   rw [if_pos rfl]
   exact ⟨fun σ' H'=>∃ F'',Ok X.K B F'' H' σ' ρ1/\Same F F'',fun σ' H' ⟨F'',k'',s''⟩=>⟨_,Nat.lt_succ_self _,_,F'',k'',s'',r⟩,hb B F1 H1 σ _ (k'.ext x1) fun F2 H2 σ2 k2 s2=>⟨F2,k2,sf.trans (x1.sf.trans s2)⟩⟩
  | ret hc hb=>
   refine hc B F' H σ _ k' fun F1 H1 x1=>?_
   rw [if_pos rfl]
   exact ⟨fun _ _=>False,fun σ' H' z=>z.elim,hb B F1 H1 σ _ (k'.ext x1) q⟩
structure DefX (P:Program) (w:World) (K:PySem.W.Frag) (mg:Str->Option Value) (base:Heap) (k:Nat) (N:List Str) (sc:Scope) (X:Cx):Prop where
 at':At X N sc
 prog:X.prog=P
 w':X.w=w
 k':X.K=K
 mg':X.mg=mg
 base':X.base=base
 room:Room k X.A
 fnT:FnT X
 stk:X.stack=X.env :: X.outer/\X.env.frame=some X.env.locals
theorem aCH {K:PySem.W.Frag} {F H:Hp} {vs:List V} (sub:Same F H) (r:RepL K F vs ds) (n:Nat):Ok K ⟨F,H⟩ F H (vs.map some++List.replicate n none) (ds.map Sl.val++List.replicate n Sl.un):=by
 have hl:=r.length
 have own:∀ (i:Nat) xs,(ds.map Sl.val++List.replicate n Sl.un)[i]? ≠ some (.own xs):=fun i xs h=>by
  by_cases hi:i < ds.length
  ·rw [List.getElem?_append_left (by simpa using hi),List.getElem?_map] at h
   cases e:ds[i]? with
   | none=>rw [e] at h; cases h
   | some d=>rw [e] at h; cases h
  ·rw [List.getElem?_append_right (by simpa using hi),List.getElem?_replicate] at h
   split at h <;> cases h
 have ownD:∀ (i:Nat) xs,(ds.map Sl.val++List.replicate n Sl.un)[i]? ≠ some (.dct xs):=fun i xs h=>by
  by_cases hi:i < ds.length
  ·rw [List.getElem?_append_left (by simpa using hi),List.getElem?_map] at h
   cases e:ds[i]? with
   | none=>rw [e] at h; cases h
   | some d=>rw [e] at h; cases h
  ·rw [List.getElem?_append_right (by simpa using hi),List.getElem?_replicate] at h
   split at h <;> cases h
 refine ⟨.refl sub,by simp [hl],fun i d h=>?_,fun i xs h=>absurd h (own i xs),fun i j xs ys a h=>absurd h (own i xs),⟨fun i kvs h=>absurd h (ownD i kvs),fun i j xs ys a h=>absurd h (ownD i xs)⟩⟩
 by_cases hi:i < ds.length
 ·rw [List.getElem?_append_left (by simpa using hi),List.getElem?_map] at h
  cases e:ds[i]? with
  | none=>rw [e] at h; cases h
  | some d'=>
   rw [e] at h; cases h
   obtain ⟨v,hv,rv⟩:=r.get e
   exact ⟨v,by rw [List.getElem?_append_left (by rw [List.length_map]; omega),List.getElem?_map,hv]; rfl,rv⟩
 ·rw [List.getElem?_append_right (by simpa using hi),List.getElem?_replicate] at h
  split at h <;> cases h
theorem wQ {P:Program} (htree:P.given.tree=none) {w:World} {K:PySem.W.Frag} {mg:Str->Option Value} {base:Heap} {x qual:Str} {st:Stmt} {f:Addr} {fd:FuncData} {N ps:List Str} {k:Nat} {C:List D->D->Prop} (F:Fun K x qual st f fd) (S:yL N ps (yC st))
  (len:∀ ds d,C ds d->ds.length=ps.length)
  (body:∀ X,DefX P w K mg base k N (yC st) X->∀ ds d,C ds d->EvSs X (ds.map Sl.val++List.replicate (N.length - ds.length) Sl.un) (yF st) (.rt d)):qL P w K mg base CX0 (k+1) f fd ps (spC K C):=by
 refine F.ok S (fun vs H Q E h=>?_) (fun cdv A outer s H vs Q E hr h=>?_)
 ·obtain ⟨F',ds,d,sub,r,hC,q⟩:=h
  rw [r.length]; exact len ds d hC
 ·obtain ⟨F',ds,d,sub,r,hC,q⟩:=h
  refine ⟨_,jF,?_⟩
  have hx:DefX P w K mg base k N (yC st) (aUV CX0 P w K mg base N qual (yC st) f cdv A outer s H E).nox:=
   ⟨⟨rfl,rfl,rfl,S.nd,rfl,hr.units,hr.dp100,htree,⟨_,_,rfl,S.gen,S.co,rfl,rfl⟩⟩,rfl,rfl,rfl,rfl,rfl,hr,⟨fun _=>rfl⟩,rfl,rfl⟩
  have hb:=body _ hx ds d hC
  have hk:Ok K ⟨F',H⟩ F' H (start N vs) (ds.map Sl.val++List.replicate (N.length - ds.length) Sl.un):=by
   unfold start
   rw [r.length]
   exact aCH sub r _
  exact hb ⟨F',H⟩ F' H _ _ hk fun v F2 H2 x2 r2=>q v F2 H2 x2 r2
theorem DefX.callee {P:Program} {w:World} {K:PySem.W.Frag} {mg:Str->Option Value} {base:Heap} {k j:Nat} {f:Addr} {fd:FuncData} {ps:List Str} {x:Str} {C:List D->D->Prop} (h:DefX P w K mg base k N sc X)
  (F:qL P w K mg base CX0 j f fd ps (spC K C)) (hj:j<=k) (hm:mg x=some (.ref f)) (hk:PySem.W.keepIn K (.ref f)=true) (hb:Binds K fd ps []):Callee X x C:=by
 obtain ⟨h0,rfl,rfl,rfl,rfl,rfl,hr,_⟩:=h
 exact ⟨f,fd,ps,j,F,hr.mono hj,hm,hk,hb⟩
end
def aXX (scope sc:Scope):Scope:={ scope with names:=scope.names.map fun (n,k)=>if (k == .free && sc.kind == .function && sc.names.lookup n == some .cell) then (n,.cell) else (n,k) }
theorem aTP {scope:Scope} {env:Env} {sc:Scope} (h:env.scope=sc):relabel scope env=aXX scope sc:=by subst h; rfl
theorem aSM (env:Env):∀ (names:List (Str × NameKind)) (cs:List (Str × Addr)),(∀ n,(n,NameKind.free)∈names->∃ c,env.cells.lookup n=some c) ->
  (∀ n c,cs.lookup n=some c->env.cells.lookup n=some c) ->
  ∃ cl:List (Str × Addr),(forIn (m:=Sem) names cs fun (x:Str × NameKind) r=>if x.2 == .free then do let c <- cellOf env x.1; pure (ForInStep.yield ((x.1,c) :: r)) else pure (ForInStep.yield r))=pure cl /\
   (∀ n c,cl.lookup n=some c->env.cells.lookup n=some c)/\(∀ n,(n,NameKind.free)∈names->∃ c,cl.lookup n=some c)/\(∀ n c,cs.lookup n=some c->∃ c',cl.lookup n=some c')
 | [],cs,_,h=>⟨cs,rfl,h,(fun n hn=>nomatch hn),fun n c e=>⟨c,e⟩⟩
 | (n,k) :: r,cs,hf,h=>by
  rw [List.forIn_cons]
  by_cases hk:k = .free
  ·subst hk
   obtain ⟨c,hc⟩:=hf n List.mem_cons_self
   have hcell:cellOf env n=pure c:=by unfold cellOf; rw [hc]
   have h':∀ m c',((n,c) :: cs).lookup m=some c'->env.cells.lookup m=some c':=fun m c' e=>by
    rw [List.lookup_cons] at e
    cases hm:m == n with
    | true=>rw [hm] at e; cases e; rw [eq_of_beq hm]; exact hc
    | false=>rw [hm] at e; exact h m c' e
   obtain ⟨cl,e1,e2,e3,e4⟩:=aSM env r ((n,c) :: cs) (fun m hm=>hf m (List.mem_cons_of_mem _ hm)) h'
   refine ⟨cl,?_,e2,fun m hm=>?_,fun m c' e=>?_⟩
   ·show ((do let c <- cellOf env n; pure (ForInStep.yield ((n,c) :: cs))) >>= _:Sem (List (Str × Addr)))=_
    rw [hcell]
    exact e1
   ·rcases List.mem_cons.mp hm with z | z
    ·cases z
     exact e4 n c (by rw [List.lookup_cons,beq_self_eq_true])
    ·exact e3 m z
   ·by_cases hm:m=n
    ·subst hm; exact e4 m c (by rw [List.lookup_cons,beq_self_eq_true])
    ·exact e4 m c' (by rw [List.lookup_cons,beq_eq_false_iff_ne.mpr hm]; exact e)
  ·have hb:(k == NameKind.free)=false:=beq_eq_false_iff_ne.mpr hk
   obtain ⟨cl,e1,e2,e3,e4⟩:=aSM env r cs (fun m hm=>hf m (List.mem_cons_of_mem _ hm)) h
   refine ⟨cl,?_,e2,fun m hm=>?_,e4⟩
   ·show ((if (k == NameKind.free)=true then _ else pure (ForInStep.yield cs)) >>= _:Sem (List (Str × Addr)))=_
    rw [hb,if_neg Bool.false_ne_true]
    exact e1
   ·rcases List.mem_cons.mp hm with z | z
    ·cases z; exact absurd rfl hk
    ·exact e3 m z
theorem aWC {env:Env} {scope:Scope} (hf:∀ n,(n,NameKind.free)∈scope.names->∃ c,env.cells.lookup n=some c) :
  ∃ cl:List (Str × Addr),closureFor scope env=pure cl/\(∀ n c,cl.lookup n=some c->env.cells.lookup n=some c)/\(∀ n,(n,NameKind.free)∈scope.names->∃ c,cl.lookup n=some c):=by
 obtain ⟨cl,e1,e2,e3,_⟩:=aSM env scope.names [] hf (fun n c e=>nomatch e)
 refine ⟨cl,?_,e2,e3⟩
 show (forIn (m:=Sem) scope.names ([]:List (Str × Addr)) (fun (x:Str × NameKind) r=>if x.2 == .free then do let c <- cellOf env x.1; pure (ForInStep.yield ((x.1,c) :: r)) else pure (ForInStep.yield r)) >>= fun s=>pure s)=pure cl
 rw [e1]; rfl
structure aKC (N:List Str) (sc:Scope) (N':List Str) (scope:Scope):Prop where
 kind:scope.kind = .function
 cells:∀ y∈scope.names,y.2 = .cell->scope.names.lookup y.1=some .cell
 names:∀ y∈scope.names,y.2 = .local->scope.names.lookup y.1=some .local
 free:∀ y∈scope.names,y.2 = .free->sc.names.lookup y.1=some .cell
 fun':sc.kind = .function
 nd:N'.Nodup
 old:∀ (i:Nat) x,i < N.length->N'[i]? = some x->aDQ (aXX scope sc) x=true->N[i]? = some x/\scope.names.lookup x=some .free
 len:N.length<=N'.length
def eHP (scope:Scope) (x:Str):Bool:=match scope.names.lookup x with
 | some .cell=>true
 | _=>false
structure FC (names:List (Str × NameKind)) (cells:List (Str × Addr)) (n:Nat) (cl:List (Str × Addr)) (h:Heap):Prop where
 look:∀ m c,cl.lookup m=some c->(cells.lookup m=some c/\¬ (m,NameKind.cell)∈names)\/(n<=c/\(m,NameKind.cell)∈names/\h.IsCell c none)
 has:∀ m,((m,NameKind.cell)∈names\/∃ c,cells.lookup m=some c)->∃ c,cl.lookup m=some c
 inj:∀ x y c,n<=c->cl.lookup x=some c->cl.lookup y=some c->x=y
theorem aES {M:Model} {A:Around} {E:Value->Shared->Prop}:∀ (names:List (Str × NameKind)) (cells:List (Str × Addr)) (s:Shared) (Q:List (Str × Addr)->Shared->Prop),(∀ m c,cells.lookup m=some c->c < s.heap.objs.size) ->
  (∀ cl h,(∀ b o,s.heap.get? b=some o->h.get? b=some o)->FC names cells s.heap.objs.size cl h->Q cl { s with heap:=h }) ->
  wpAny M A (forIn names cells fun x __s=>match x with
   | (name,kind)=>if (kind == NameKind.cell)=true then do
     let a <- alloc { cls:=Value.type "cell",data:=Data.cell none }
     pure (ForInStep.yield ((name,a) :: __s))
    else pure (ForInStep.yield __s)) Q E s
 | [],cells,s,Q,hb,q=>by
  refine wpAny_pure (q cells s.heap (fun _ _ e=>e) ⟨fun m c e=>.inl ⟨e,fun z=>nomatch z⟩,fun m hm=>hm.elim (fun z=>nomatch z) id,fun x y c hc e _=>absurd (hb x c e) (Nat.not_lt_of_le hc)⟩)
 | (name,kind) :: qU,cells,s,Q,hb,q=>by
  rw [List.forIn_cons]
  by_cases hk:kind = .cell
  ·subst hk
   refine wpAny_bind ?_
   show wpAny M A (alloc _ >>= _) _ _ s
   refine wpAny_bind (wpAny_alloc (wpAny_pure ?_))
   have hsz:(s.heap.push { cls:=Value.type "cell",data:=Data.cell none }).objs.size=s.heap.objs.size+1:=by rw [Heap.size_push]
   refine aES qU _ _ _ (fun m c e=>?_) fun cl h kp f=>q cl h (fun b o e=>kp b o (Heap.get?_push_of_some _ e)) ⟨fun m c e=>?_,fun m hm=>f.has m ?_,fun x y c hc ex ey=>?_⟩
   ·show c < (s.heap.push { cls:=Value.type "cell",data:=Data.cell none }).objs.size
    rw [hsz]
    rw [List.lookup_cons] at e
    split at e
    ·cases e; exact Nat.lt_succ_self _
    ·exact Nat.lt_succ_of_lt (hb m c e)
   ·have f':=f.look m c e
    rcases f' with ⟨e1,e2⟩ | ⟨e1,e2,e3⟩
    ·rw [List.lookup_cons] at e1
     split at e1
     ·rename_i hm
      cases e1
      have hm':m=name:=by simpa using hm
      subst hm'
      exact .inr ⟨Nat.le_refl _,by simp,⟨_,kp _ _ (Heap.get?_push_size _ rfl),rfl⟩⟩
     ·rename_i hm
      have hm':m≠name:=by simpa using hm
      exact .inl ⟨e1,fun z=>by
       rcases List.mem_cons.mp z with z | z
       ·exact hm' (congrArg Prod.fst z)
       ·exact e2 z⟩
    ·have e1':s.heap.objs.size+1<=c:=by rw [<- hsz]; exact e1
     exact .inr ⟨by omega,by simp [e2],e3⟩
   ·rcases hm with hm | ⟨c,hc⟩
    ·rcases List.mem_cons.mp hm with z | z
     ·right
      have:m=name:=congrArg Prod.fst z
      subst this
      exact ⟨s.heap.objs.size,by rw [List.lookup_cons]; simp⟩
     ·exact .inl z
    ·right
     rw [List.lookup_cons]
     split
     ·exact ⟨_,rfl⟩
     ·exact ⟨c,hc⟩
   ·by_cases hc':s.heap.objs.size+1<=c
    ·exact f.inj x y c (by show (s.heap.push _).objs.size<=c; rw [hsz]; exact hc') ex ey
    ·have one:∀ z,cl.lookup z=some c->z=name:=fun z ez=>by
      rcases f.look z c ez with ⟨e1,_⟩ | ⟨e1,_⟩
      ·rw [List.lookup_cons] at e1
       split at e1
       ·rename_i hm; simpa using hm
       ·exact absurd (hb z c e1) (Nat.not_lt_of_le hc)
      ·exact absurd (show s.heap.objs.size+1<=c from Nat.le_trans (Nat.le_of_eq hsz.symm) e1) hc'
     rw [one x ex,one y ey]
  ·have hk':(kind == NameKind.cell)=false:=by simpa using hk
   have mem:∀ m,(m,NameKind.cell)∈(name,kind) :: qU ↔ (m,NameKind.cell)∈qU:=fun m=>by
    constructor
    ·intro z
     rcases List.mem_cons.mp z with z | z
     ·exact absurd (congrArg Prod.snd z).symm hk
     ·exact z
    ·intro z; simp [z]
   refine wpAny_bind ?_
   show wpAny M A (if (kind == NameKind.cell)=true then _ else _) _ _ s
   rw [hk',if_neg Bool.false_ne_true]
   refine wpAny_pure (aES qU cells s Q hb fun cl h kp f=>q cl h kp ⟨fun m c e=>?_,fun m hm=>f.has m ?_,f.inj⟩)
   ·rw [mem]; exact f.look m c e
   ·rw [mem] at hm; exact hm
theorem aRY {M:Model} {A:Around} {E:Value->Shared->Prop} {s:Shared} {scope:Scope} {env:Env} {cl:List (Str × Addr)} {Q:Env->Shared->Prop} (hb:∀ m c,cl.lookup m=some c->c < s.heap.objs.size)
  (h:∀ cl' h',(∀ b o,s.heap.get? b=some o->h'.get? b=some o)->(∃ m,h'.Ns s.heap.objs.size m)->FC scope.names cl s.heap.objs.size cl' h'->Q { scope:=scope,locals:=s.heap.objs.size,globals:=env.globals,cells:=cl',qual:=env.qual,func:=none,code:=env.code,frame:=env.frame,builtins:=env.builtins } { s with heap:=h' }) :
  wpAny M A (newFunctionEnv scope env.globals cl [] env.qual none .none (some env)) Q E s:=by
 unfold newFunctionEnv
 refine wpAny_bind (wpAny_alloc ?_)
 have hsz:(s.heap.push { cls:=Value.type "dict",data:=Data.dict #[] }).objs.size=s.heap.objs.size+1:=by rw [Heap.size_push]
 refine wpAny_bind (aES scope.names cl _ _ (fun m c e=>?_) fun cl' h' kp f=>?_)
 ·show c < (s.heap.push { cls:=Value.type "dict",data:=Data.dict #[] }).objs.size
  rw [hsz]; exact Nat.lt_succ_of_lt (hb m c e)
 ·refine wpAny_bind (wpAny_pure (wpAny_pure ?_))
  obtain ⟨o,es,ep,g1,g2,g3,g4⟩:=Heap.Ns.new s.heap (.type "dict")
  refine h cl' h' (fun b o e=>kp b o (Heap.get?_push_of_some _ e)) ⟨_,o,es,ep,kp _ _ g1,g2,g3,g4⟩ ⟨fun m c e=>?_,f.has,fun x y c hc ex ey=>?_⟩
  ·rcases f.look m c e with z | ⟨z1,z2,z3⟩
   ·exact .inl z
   ·have z1':s.heap.objs.size+1<=c:=Nat.le_trans (Nat.le_of_eq hsz.symm) z1
    exact .inr ⟨Nat.le_of_succ_le z1',z2,z3⟩
  ·by_cases hc':s.heap.objs.size+1<=c
   ·exact f.inj x y c (Nat.le_trans (Nat.le_of_eq hsz) hc') ex ey
   ·have e:c=s.heap.objs.size:=Nat.le_antisymm (Nat.le_of_lt_succ (Nat.lt_of_not_le hc')) hc
    rcases f.look x c ex with ⟨z,_⟩ | ⟨z,_⟩
    ·exact absurd (hb x c z) (Nat.not_lt_of_le hc)
    ·have z':s.heap.objs.size+1<=c:=Nat.le_trans (Nat.le_of_eq hsz.symm) z
     exact absurd z' hc'
structure CompX0 (X X':Cx) (N':List Str) (sc':Scope) (ow:Str->Bool):Prop where
 at0:At0 X' N' sc'
 cal:X'.calm=X.calm
 prog:X'.prog=X.prog
 w':X'.w=X.w
 k':X'.K=X.K
 mg':X'.mg=X.mg
 base':X'.base=X.base
 a':X'.A=X.A
 fn':∀ x,ow x=true->X'.fn x=true
structure CompX (X X':Cx) (N':List Str) (sc':Scope) (ow:Str->Bool):Prop where
 at':At X' N' sc'
 prog:X'.prog=X.prog
 w':X'.w=X.w
 k':X'.K=X.K
 mg':X'.mg=X.mg
 base':X'.base=X.base
 a':X'.A=X.A
 fn':∀ x,ow x=true->X'.fn x=true
section
variable {X X':Cx} {N N':List Str} {sc sc':Scope} {ow:Str->Bool}
theorem CompX0.calm (h:CompX0 X X' N' sc' ow) (hc:X.calm=true):CompX X X' N' sc' ow:=⟨h.at0.at (h.cal.trans hc),h.prog,h.w',h.k',h.mg',h.base',h.a',h.fn'⟩
theorem CompX.callee {x:Str} {C:List D->D->Prop} (h:CompX X X' N' sc' ow) (c:Callee X x C):Callee X' x C:=by
 obtain ⟨f,fd,ps,k,F,hr,hm,hk,hb⟩:=c
 refine ⟨f,fd,ps,k,?_,?_,?_,?_,?_⟩
 ·rw [h.prog,h.w',h.k',h.mg',h.base']; exact F
 ·rw [h.a']; exact hr
 ·rw [h.mg']; exact hm
 ·rw [h.k']; exact hk
 ·rw [h.k']; exact hb
end
inductive CRun (X:Cx) (tg elt:Expr) (ifs:List Expr):List D->Rho->List D->Prop where
 | nil {ρ:Rho}:CRun X tg elt ifs [] ρ []
 | take {d r:D} {ds rs:List D} {ρ ρ1:Rho}:EvGn X ρ tg d ρ1->(ifs=[]\/∃ c,ifs=[c]/\EvT X ρ1 c true)->EvE X ρ1 elt r->CRun X tg elt ifs ds ρ1 rs->CRun X tg elt ifs (d :: ds) ρ (r :: rs)
 | skip {d:D} {ds rs:List D} {ρ ρ1:Rho} {c:Expr}:EvGn X ρ tg d ρ1->ifs=[c]->EvT X ρ1 c false->CRun X tg elt ifs ds ρ1 rs->CRun X tg elt ifs (d :: ds) ρ rs
section
variable {prog:Program} {w:World} {A:Around} {R:Result->Shared->Prop} {s:Shared}
theorem aQJ {elt target iter:Expr} {ifs:List Expr} {scope:Scope} {pos:Pos} {it acc:Value} {env:Env} (I:Nat->Shared->Prop)
  (turn:∀ n s,I n s->wpAny (model prog w) A (pyNext it) (fun r s₁=>match r with
   | none=>R (.ok .next) s₁
   | some v=>wpAny (model prog w) A (letOwnedTupleGo target it v) (fun _ s₀=>wpAny (model prog w) A (assign target env v) (fun _ s₂=>
     wpAny (model prog w) A (forIn ifs true fun c r=>if r=true then do let ok <- isTrue c env (eval c env); pure (ForInStep.yield ok) else pure (ForInStep.yield r)) (fun ok s₃=>
      if ok=true then wpAny (model prog w) A (eval elt env) (fun x s₄=>
       wpAny (model prog w) A (call (.builtin "list.append") [acc,x]) (fun _ s₅=>∃ m,m < n/\I m s₅) (fun _ _=>False) s₄) (fun _ _=>False) s₃
      else ∃ m,m < n/\I m s₃) (fun _ _=>False) s₂) (fun _ _=>False) s₀) (fun _ _=>False) s₁) (fun _ _=>False) s)
  (n:Nat) (h:I n s) :
  codeAny (model prog w) A (.compLoop (.ListComp elt [⟨target,iter,ifs,0⟩] scope pos) 0 it acc env) R s:=by
 refine codeAny_loop rfl I (fun n s hI=>?_) n h
 show wpAny _ A ((compTurn (.ListComp elt [⟨target,iter,ifs,0⟩] scope pos) 0 it acc env).onRaise (fun x=>do noteFrame x env; theTreesLotGoes x)) _ _ s
 refine wpAny_noted ?_
 rw [compTurn_list]
 refine wpAny_bind (wpAny_standAt (wpAny_bind (wpAny_mono (turn n s hI) (fun r s₁ h₁=>?_) fun _ _ h'=>h'.elim)))
 cases r with
 | none=>exact wpAny_pure h₁
 | some v=>
  refine wpAny_bind (wpAny_mono h₁ (fun _ s₀ h₀=>wpAny_bind (wpAny_mono h₀ (fun _ s₂ h₂=>wpAny_bind (wpAny_mono h₂ (fun ok s₃ h₃=>?_) fun _ _ h'=>h'.elim)) fun _ _ h'=>h'.elim)) fun _ _ h'=>h'.elim)
  cases ok with
  | false=>exact wpAny_pure ⟨rfl,h₃⟩
  | true=>
   exact wpAny_bind (wpAny_bind (wpAny_mono h₃ (fun x s₄ h₄=>wpAny_bind (wpAny_mono h₄ (fun _ s₅ h₅=>wpAny_pure (wpAny_pure ⟨rfl,h₅⟩)) fun _ _ h'=>h'.elim)) fun _ _ h'=>h'.elim))
end
theorem Ok.chgFree {K:PySem.W.Frag} {B:B0} {F H:Hp} {σ:St} {ρ:Rho} {p:Addr} {o:HO} (k:Ok K B F H σ ρ) (hf:F p=none) (hb:B.H p=none) (hn:NoOwn σ ρ p) (hl:∃ vs,H p=some (.lst vs)):Ok K B F (upd H p o) σ ρ:=by
 refine ⟨⟨fun b u q=>?_,fun b u q=>?_,k.sf,k.nw⟩,k.len,k.vals,fun i xs e=>?_,k.dist,k.dic.to (.refl _) (fun b φ e1 e2 _=>⟨by rw [yI (fun z=>by subst z; obtain ⟨vs,hl⟩:=hl; rw [hl] at e1; cases e1)]; exact e1,e2⟩) fun _ _ e=>⟨e,rfl⟩⟩
 ·have ne:b≠p:=fun z=>by subst z; rw [hf] at q; cases q
  rw [yI ne]; exact k.sub b u q
 ·have ne:b≠p:=fun z=>by subst z; rw [hb] at q; cases q
  rw [yI ne]; exact k.sh b u q
 ·obtain ⟨a,vs,h1,h2,h3,h4,h5⟩:=k.owns i xs e
  have ne:a≠p:=fun z=>by subst z; exact hn i xs e h1
  exact ⟨a,vs,h1,by rw [yI ne]; exact h2,h3,h4,h5⟩
theorem Ok.more {K:PySem.W.Frag} {B:B0} {F H:Hp} {σ:St} {ρ:Rho} (k:Ok K B F H σ ρ) (n:Nat):Ok K B F H (σ++List.replicate n none) (ρ++List.replicate n .un):=by
 have get:∀ (i:Nat) s,(ρ++List.replicate n Sl.un)[i]? = some s->s ≠ .un->ρ[i]? = some s/\(σ++List.replicate n none)[i]? = σ[i]?:=fun i s h hn=>by
  by_cases hi:i < ρ.length
  ·rw [List.getElem?_append_left hi] at h
   exact ⟨h,List.getElem?_append_left (by rw [k.len]; exact hi)⟩
  ·rw [List.getElem?_append_right (by omega),List.getElem?_replicate] at h
   split at h
   ·cases h; exact absurd rfl hn
   ·cases h
 refine ⟨k.toExt,by simp [k.len],fun i d h=>?_,fun i xs h=>?_,fun i j xs ys a h1 h2 h3 h4=>?_,k.dic.to (.refl _) (fun _ _ e1 e2 _=>⟨e1,e2⟩) fun i kvs h=>get i _ h fun z=>nomatch z⟩
 ·obtain ⟨e1,e2⟩:=get i _ h fun z=>nomatch z
  rw [e2]; exact k.vals i d e1
 ·obtain ⟨e1,e2⟩:=get i _ h fun z=>nomatch z
  rw [e2]; exact k.owns i xs e1
 ·obtain ⟨e1,e2⟩:=get i _ h1 fun z=>nomatch z
  obtain ⟨g1,g2⟩:=get j _ h2 fun z=>nomatch z
  rw [e2] at h3; rw [g2] at h4
  exact k.dist i j xs ys a e1 g1 h3 h4
theorem aBU {names:List (Str × NameKind)} {x:Str} {k:NameKind} (h:names.lookup x=some k):(x,k)∈names:=PySem.mem_of_lookup h
theorem aLN {scope sc:Scope} (hf:sc.kind = .function) (fr:∀ y∈scope.names,y.2 = .free->sc.names.lookup y.1=some .cell) {x:Str} {k:NameKind} (h:(aXX scope sc).names.lookup x=some k) :
  ∃ k',scope.names.lookup x=some k'/\(k' = .free->k = .cell)/\(k' ≠ .free->k=k'):=by
 have go:∀ names:List (Str × NameKind),(∀ y∈names,y.2 = .free->sc.names.lookup y.1=some .cell)->(names.map fun (n,k)=>if (k == NameKind.free && sc.kind == .function && sc.names.lookup n == some .cell) then (n,NameKind.cell) else (n,k)).lookup x=some k ->
   ∃ k',names.lookup x=some k'/\(k' = .free->k = .cell)/\(k' ≠ .free->k=k'):=by
  intro names
  induction names with
  | nil=>intro _ h; cases h
  | cons y r ih=>
   intro fr h
   obtain ⟨n,kk⟩:=y
   have hr:=ih fun y hy=>fr y (List.mem_cons_of_mem _ hy)
   by_cases hkk:kk = .free
   ·subst hkk
    have hc:=fr (n,.free) List.mem_cons_self rfl
    have e:(if (NameKind.free == NameKind.free && sc.kind == .function && sc.names.lookup n == some .cell)=true then (n,NameKind.cell) else (n,NameKind.free))=(n,NameKind.cell):=by
     have hc':sc.names.lookup n=some .cell:=hc
     rw [hc',hf]; rfl
    rw [List.map_cons] at h
    simp only [e] at h
    rw [List.lookup_cons] at h ⊢
    cases hx:x == n with
    | true=>rw [hx] at h; cases h; exact ⟨.free,rfl,fun _=>rfl,fun z=>absurd rfl z⟩
    | false=>rw [hx] at h; exact hr h
   ·have e:(if (kk == NameKind.free && sc.kind == .function && sc.names.lookup n == some .cell)=true then (n,NameKind.cell) else (n,kk))=(n,kk):=by
     have hb:(kk == NameKind.free)=false:=beq_eq_false_iff_ne.mpr hkk
     rw [hb]; rfl
    rw [List.map_cons] at h
    simp only [e] at h
    rw [List.lookup_cons] at h ⊢
    cases hx:x == n with
    | true=>rw [hx] at h; cases h; exact ⟨_,rfl,fun z=>absurd z hkk,fun _=>rfl⟩
    | false=>rw [hx] at h; exact hr h
 exact go scope.names fr h
def cxC (X:Cx) (N':List Str) (scope:Scope) (cl:List (Str × Addr)) (C:Addr) (s3:Shared) (H3:Hp) (fp:List Addr):Cx:=
 { X with N:=N',s₀:=s3,H₀:=H3,env:=compEnvC scope cl C X.env,outer:=X.stack,stack:=X.stack,ex:=fp,fn:=eHP scope,pn:=[],xe:=fun _ _=>False }
section
variable {X:Cx} {N N':List Str} {sc scope:Scope} {ρ:Rho} {tg elt iter:Expr} {ifs:List Expr} {pos:Pos} {pins:List (Addr × Obj)} {σ:St} {B:B0} {F2 H2:Hp} {s2:Shared} {it:Addr} {fp:List Addr} {tn:Nat->Heap->Prop} {J:It} {ds rs:List D}
theorem eOA {s3:Shared} {H3:Hp} {cl cl0:List (Str × Addr)} (t:At0 X N sc) (S:aKC N sc N' scope) (I3:Inv X pins σ H3 s3) (hc1:∀ n c,cl0.lookup n=some c->X.env.cells.lookup n=some c) (hc2:∀ n,(n,NameKind.free)∈scope.names->∃ c,cl0.lookup n=some c) {h₁:Heap} (CN:FC scope.names cl0 s3.heap.objs.size cl h₁)
  (fo:∀ b∈fp,aVD X pins H3 b) (fl:∀ b∈fp,b < s3.heap.objs.size):(cxC X N' scope cl s3.heap.objs.size s3 H3 fp).Ok:=by
 refine ⟨I3.ok.mod,?_,I3.ok.glob,I3.ok.blt,Nat.le_refl _,fun x y c h1 h2=>?_,fun x hx=>?_,(fun x c hf h=>?_),I3.ok.hd,I3.ok.frames,.inl rfl,fun b hb=>⟨?_,fun x c h=>?_⟩,I3.bs,Nat.le_trans I3.ok.bsz I3.sz,fun b o h hb=>?_,fun b hb h=>?_,I3.stack,I3.stkFree⟩
 ·exact S.kind
 ·by_cases hc:s3.heap.objs.size<=c
  ·exact CN.inj x y c hc h1 h2
  ·have old:∀ z,cl.lookup z=some c->X.env.cells.lookup z=some c:=fun z ez=>by
    rcases CN.look z c ez with ⟨e,_⟩ | ⟨e,_⟩
    ·exact hc1 z c e
    ·exact absurd e hc
   exact I3.ok.inj x y c (old x h1) (old y h2)
 ·have hx':(relabel scope X.env).names.lookup x=some .cell\/(relabel scope X.env).names.lookup x=some .free:=hx
  rw [aTP t.eS] at hx'
  have hk:∃ k,(k=NameKind.cell\/k = .free)/\(aXX scope sc).names.lookup x=some k:=by
   rcases hx' with h | h
   ·exact ⟨_,.inl rfl,h⟩
   ·exact ⟨_,.inr rfl,h⟩
  obtain ⟨k,hk,h⟩:=hk
  obtain ⟨k',h1,h2,h3⟩:=aLN S.fun' S.free h
  by_cases hf:k' = .free
  ·subst hf; exact CN.has x (.inr (hc2 x (aBU h1)))
  ·have e:=h3 hf
   rcases hk with hk | hk
   ·have e':k' = .cell:=e.symm.trans hk
    subst e'
    exact CN.has x (.inl (aBU h1))
   ·exact absurd (e.symm.trans hk) hf
 ·have hm:(x,NameKind.cell)∈scope.names:=by
   have hf':eHP scope x=true:=hf
   unfold eHP at hf'
   cases e:scope.names.lookup x with
   | none=>rw [e] at hf'; cases hf'
   | some kk=>rw [e] at hf'; cases kk <;> first | exact aBU e | cases hf'
  rcases CN.look x c h with ⟨_,e⟩ | ⟨e,_⟩
  ·exact absurd hm e
  ·exact e
 ·exact Nat.ne_of_lt (fl b hb)
 ·rcases CN.look x c h with ⟨e,_⟩ | ⟨e,_⟩
  ·exact (fo b hb).2.2.2.2.1 x c (hc1 x c e)
  ·exact fun z=>absurd (fl b hb) (by rw [<- z]; exact Nat.not_lt_of_le e)
 ·rcases (fo b hb).2.2.2.1 with z | z
  ·exact I3.ok.noex b o h z
  ·have h1:=Heap.lt_size h
   have h2:=I3.ok.bsz
   exact absurd (Nat.lt_of_lt_of_le h1 (Nat.le_trans h2 z)) (Nat.lt_irrefl _)
 ·have h':b∈frs X.stack:=h
  rcases List.mem_cons.mp (I3.stkSub b h') with z | z
  ·exact (fo b hb).2.1 z
  ·exact (fo b hb).2.2.1 z
theorem eJI {s3:Shared} {H3:Hp} {cl cl0:List (Str × Addr)} {tk:Nat} (t:At0 X N sc) (S:aKC N sc N' scope) (I3:Inv X pins σ H3 s3) (hc1:∀ n c,cl0.lookup n=some c->X.env.cells.lookup n=some c) (hc2:∀ n,(n,NameKind.free)∈scope.names->∃ c,cl0.lookup n=some c) {h₁:Heap} (CN:FC scope.names cl0 s3.heap.objs.size cl h₁)
  (fo:∀ b∈fp,aVD X pins H3 b) (fl:∀ b∈fp,b < s3.heap.objs.size) (hns:∃ m,h₁.Ns s3.heap.objs.size m) (kp:∀ b o,s3.heap.get? b=some o->h₁.get? b=some o) :
  Inv (cxC X N' scope cl s3.heap.objs.size s3 H3 fp) [] (σ++List.replicate (N'.length - N.length) none) H3 { s3 with heap:=h₁,toks:=tk }:=by
 obtain ⟨m,hm⟩:=hns
 have hlen:σ.length=N.length:=by rw [I3.len,t.eN]
 refine ⟨eOA t S I3 hc1 hc2 CN fo fl,rfl,I3.bare,Un.kept kp,⟨m,hm,fun i x v h1 h2 h3=>?_⟩,fun x c h=>?_,I3.hok.fresh (Nat.le_refl _),fun x c h=>(CN.look x c h).elim (fun z=>I3.freeC x c (hc1 x c z.1)) (fun z=>I3.hok.fresh z.1),(fun p hp=>nomatch hp),I3.hok.kept kp,?_⟩
 ·have hi:i < σ.length:=by
   by_cases hi:i < σ.length
   ·exact hi
   ·rw [List.getElem?_append_right (by omega),List.getElem?_replicate] at h2
    split at h2 <;> cases h2
  rw [List.getElem?_append_left hi] at h2
  have h3':Vis (aXX scope sc) x:=by rw [<- aTP t.eS]; exact h3
  have hv:aDQ (aXX scope sc) x=true:=by
   unfold aDQ
   rcases h3' with z | z | z <;> rw [z]
  obtain ⟨e1,e2⟩:=S.old i x (by omega) h1 hv
  have hcell:sc.names.lookup x=some .cell:=S.free _ (aBU e2) rfl
  obtain ⟨m0,hn0,hl0⟩:=I3.loc
  obtain ⟨u,ru,lk⟩:=hl0 i x v (by rw [t.eN]; exact e1) h2 (by rw [t.eS]; exact .inr (.inl hcell))
  refine ⟨u,ru,?_⟩
  have hkx:X.env.kindOf x=some .cell:=by show X.env.scope.names.lookup x=_; rw [t.eS]; exact hcell
  rcases lk with ⟨k,_⟩ | ⟨_,c,hc,hcc⟩
  ·rw [hkx] at k; cases k
  ·obtain ⟨c',hc'⟩:=CN.has x (.inr (hc2 x (aBU e2)))
   have ho:cl0.lookup x=some c':=by
    rcases CN.look x c' hc' with ⟨z,_⟩ | ⟨_,z,_⟩
    ·exact z
    ·have z':=S.cells _ z rfl
     rw [e2] at z'; cases z'
   have e:c' = c:=Option.some.inj ((hc1 x c' ho).symm.trans hc)
   subst e
   refine .inr ⟨?_,c',hc',?_⟩
   ·show (relabel scope X.env).names.lookup x=_\/(relabel scope X.env).names.lookup x=_
    rw [aTP t.eS]
    rcases h3' with z | z | z
    ·obtain ⟨k',g1,g2,g3⟩:=aLN S.fun' S.free z
     by_cases hk':k' = .free
     ·have:=g2 hk'; cases this
     ·have e:=g3 hk'
      subst e
      rw [e2] at g1
      cases g1
    ·exact .inl z
    ·exact .inr z
   ·obtain ⟨oc,ho,hd⟩:=hcc
    exact ⟨oc,kp _ _ ho,hd⟩
 ·rcases CN.look x c h with ⟨z,_⟩ | ⟨_,_,z⟩
  ·obtain ⟨v,oc,ho,hd⟩:=I3.cell x c (hc1 x c z)
   exact ⟨v,oc,kp _ _ ho,hd⟩
  ·exact ⟨_,z⟩
 ·show (σ++List.replicate (N'.length - N.length) none).length=N'.length
  have:=S.len
  rw [List.length_append,List.length_replicate,hlen]
  omega
end
def eRR (X:Cx) (pins:List (Addr × Obj)) (σ:St) (F2 H2:Hp) (rs:List D) (D' C:Addr) (s':Shared):Prop:=
 ∃ (F' H':Hp) (vs:List V) (m:Str->Option Value),Inv X pins σ H' s'/\s'.heap.Ns C m/\H' C=none/\C≠X.env.locals/\X.s₀.heap.objs.size<=C/\(∀ x c,X.env.cells.lookup x=some c->c≠C)/\(∀ p∈X.pn++pins,p.1≠C) /\
  Ext ⟨F2,H2⟩ F' H'/\H2 D' = none/\H' D' = some (.lst vs)/\F' D' = none/\RepL X.K F' vs rs/\D' ≠ C
section
variable {X:Cx} {N N':List Str} {sc scope:Scope} {ρ:Rho} {tg elt iter:Expr} {ifs:List Expr} {pos:Pos} {pins:List (Addr × Obj)} {σ:St} {B:B0} {F2 H2:Hp} {s2:Shared} {it:Addr} {fp:List Addr} {tn:Nat->Heap->Prop} {J:It} {ds rs:List D}
theorem eAR {cl cl0:List (Str × Addr)} {s3:Shared} {DD C:Addr} {h₁:Heap} {tk:Nat} (t:At0 X N sc) (md:X.calm=true\/(J.hot/\eRN X.A H2)) (S:aKC N sc N' scope) (hC:s3.heap.objs.size=C) (hDC:DD≠C) (I3:Inv X pins σ (upd H2 DD (.lst [])) s3) (hD0:H2 DD=none)
  (fo3:∀ b∈fp,aVD X pins (upd H2 DD (.lst [])) b) (fl3:∀ b∈fp,b < s3.heap.objs.size) (T:eDK X.prog X.w X.K tg J fp it tn) (tn3:tn 0 s3.heap)
  (hns₁:∃ m,h₁.Ns s3.heap.objs.size m) (kp4:∀ b o,s3.heap.get? b=some o->h₁.get? b=some o)
  (k2:Ok X.K B F2 H2 σ ρ) (JO:eBJ X.K J F2 ds) (hz:ds.length < sizeLine)
  (hc1:∀ n c,cl0.lookup n=some c->X.env.cells.lookup n=some c) (hc2:∀ n,(n,NameKind.free)∈scope.names->∃ c,cl0.lookup n=some c) (CN:FC scope.names cl0 s3.heap.objs.size cl h₁)
  (run:∀ X',CompX0 X X' N' (aXX scope sc) (eHP scope)->CRun X' tg elt ifs ds (ρ++List.replicate (N'.length - N.length) .un) rs)
  {RR:Value->Addr->Result->Shared->Prop} (hRR:∀ D' C s',eRR X pins σ F2 H2 rs D' C s'->RR (.ref D') C (.ok .next) s') :
  codeAny (model X.prog X.w) X.A (.compStart (.ListComp elt [⟨tg,iter,ifs,0⟩] scope pos) 0 (.ref it) (.ref DD) (compEnvC scope cl C X.env)) (RR (.ref DD) C) { s3 with heap:=h₁,toks:=tk }:=by
 have I4:Inv (cxC X N' scope cl C s3 (upd H2 DD (.lst [])) fp) [] (σ++List.replicate (N'.length - N.length) none) (upd H2 DD (.lst [])) { s3 with heap:=h₁,toks:=tk }:=by
  have q:=eJI (N':=N') (tk:=tk) (fp:=fp) t S I3 hc1 hc2 CN fo3 fl3 hns₁ kp4
  rw [hC] at q
  exact q
 generalize hX':cxC X N' scope cl C s3 (upd H2 DD (.lst [])) fp=X' at I4
 have cx:CompX0 X X' N' (aXX scope sc) (eHP scope):=by
  subst hX'
  exact ⟨⟨rfl,aTP t.eS,S.nd,rfl,t.un,t.dp,t.tree,t.fr⟩,rfl,rfl,rfl,rfl,rfl,rfl,rfl,fun x hx=>hx⟩
 have md':X'.calm=true\/(J.hot/\eQW X'):=by
  rcases md with z | ⟨z,ea,oe,u,vs,k1,k2,k3,k4⟩
  ·exact .inl (cx.cal.trans z)
  ·refine .inr ⟨z,ea,oe,u,vs,by rw [cx.a']; exact k1,?_,k3,k4⟩
   have e:X'.H₀=upd H2 DD (.lst []):=by subst hX'; rfl
   rw [e,yI (zZ k2 hD0)]; exact k2
 have run':=run X' cx
 have eP:X'.prog=X.prog:=cx.prog
 have eW:X'.w=X.w:=cx.w'
 have eA:X'.A=X.A:=cx.a'
 have eK:X'.K=X.K:=cx.k'
 have eEnv:X'.env=compEnvC scope cl C X.env:=by subst hX'; rfl
 have eX:X'.xe=fun _ _=>False:=cx.at0.nox
 have eEx:X'.ex=fp:=by subst hX'; rfl
 have ePn:X'.pn=[]:=by subst hX'; rfl
 have k4:Ok X.K B F2 (upd H2 DD (.lst [])) (σ++List.replicate (N'.length - N.length) none) (ρ++List.replicate (N'.length - N.length) .un):=(k2.growH hD0).more _
 have no4:NoOwn (σ++List.replicate (N'.length - N.length) none) (ρ++List.replicate (N'.length - N.length) .un) DD:=(k2.more _).noOwn hD0
 have bD:B.H DD=none:=k2.sh.free hD0
 have fD:F2 DD=none:=k2.sub.free hD0
 have fp4:∀ {H':Hp},(∀ b∈fp,H' b=none)->∀ b∈fp,aVD X' [] H' b:=fun {H'} hn b hb=>by
  refine ⟨hn b hb,?_,?_,.inl (by rw [eEx]; exact hb),fun x c h=>?_,fun p hp=>?_⟩
  ·exact (I4.ok.exf b (by rw [eEx]; exact hb)).1
  ·exact I4.ok.exfs b (by rw [eEx]; exact hb)
  ·exact (I4.ok.exf b (by rw [eEx]; exact hb)).2 x c h
  ·rw [ePn] at hp; exact nomatch hp
 have fin:∀ (σ':St) (F' H':Hp) (vs:List V) (s':Shared),Inv X' [] σ' H' s'->Ext ⟨F2,H2⟩ F' H'->H' DD=some (.lst vs)->F' DD=none->RepL X.K F' vs rs->RR (.ref DD) C (.ok .next) s':=fun σ' F' H' vs s' I' x' h1 h2 h3=>by
  refine hRR DD C s' ?_
  have base:=I'.base
  have hos:=I'.os
  have hhok:=I'.hok
  have hfree:=I'.free
  obtain ⟨m,hm,_⟩:=I'.loc
  rw [eEnv] at hfree hm
  rw [eEx] at base
  have e1:X'.fs=frs X.stack:=by subst hX'; rfl
  have e2:X'.H₀=upd H2 DD (.lst []):=by subst hX'; rfl
  have e3:X'.s₀=s3:=by subst hX'; rfl
  rw [e1,e2,e3] at base
  rw [e3] at hos
  rw [eP,eW] at hhok
  have IX:Inv X pins σ H' s':=I3.call' (ch:=fp) hos base hhok I'.bare fun b hb=>⟨(fo3 b hb).2.2.2.1,(fo3 b hb).2.1,(fo3 b hb).2.2.2.2.1,(fo3 b hb).2.2.2.2.2⟩
  refine ⟨F',H',vs,m,IX,hm,hfree,?_,?_,fun x c h z=>?_,fun p hp z=>?_,x',hD0,h1,h2,h3,hDC⟩
  ·have:=I3.lt; rw [hC] at this; exact fun z=>absurd (z ▸ this) (Nat.lt_irrefl _)
  ·have:=I3.sz; rw [hC] at this; exact this
  ·obtain ⟨v,q⟩:=I3.cell x c h
   have:=q.lt; rw [hC,z] at this; exact absurd this (Nat.lt_irrefl _)
  ·have:=Heap.lt_size (I3.pin p hp).1
   rw [hC,z] at this; exact absurd this (Nat.lt_irrefl _)
 have tn4:tn 0 h₁:=T.keep 0 _ _ tn3 fun b hb o e=>kp4 b o e
 have loop:∀ s4:Shared,s4 = { s3 with heap:=h₁,toks:=tk } ->
   codeAny (model X.prog X.w) X.A (.compLoop (.ListComp elt [⟨tg,iter,ifs,0⟩] scope pos) 0 (.ref it) (.ref DD) (compEnvC scope cl C X.env)) (RR (.ref DD) C) s4:=by
  rintro s4 rfl
  refine aQJ (fun n s'=>∃ (i:Nat) (σ':St) (F' H':Hp) (ρ':Rho) (vs:List V) (r0 r1:List D),Inv X' [] σ' H' s'/\tn i s'.heap/\(∀ b∈fp,H' b=none)/\Ok X.K B F' H' σ' ρ'/\Ext ⟨F2,H2⟩ F' H'/\H' DD=some (.lst vs)/\F' DD=none/\NoOwn σ' ρ' DD /\
    RepL X.K F' vs r0/\CRun X' tg elt ifs (ds.drop i) ρ' r1/\r0++r1=rs/\r0.length<=i/\i<=ds.length/\n=ds.length+1 - i) ?_ (ds.length+1)
   ⟨0,_,F2,_,_,[],[],rs,I4,tn4,fun b hb=>(fo3 b hb).1,k4,⟨k2.sub.trans (yK hD0),yK hD0,.refl _,fun a h=>.inl h⟩,yH,fD,no4,.nil,by simpa using run',rfl,Nat.zero_le _,Nat.zero_le _,by simp⟩
  rintro n s' ⟨i,σ',F',H',ρ',vs,r0,r1,I',tni,fpi,k',x',hH,hF,no',rv,cr,er,hr0,hi,rfl⟩
  have JO':=JO i F' H' x'.sf k'.sub
  have TI:=T.item X' eP eW eK md' i [] s' σ' H' (fun _ _=>False) I' (fp4 fpi) tni
  have TD:=T.done X' eP eW eK md' i [] s' σ' H' (fun _ _=>False) I' (fp4 fpi) tni
  rw [eA] at TI TD
  generalize e1:ds.drop i=qU at cr
  have stepI:∀ {d:D} {rest':List D} {ρ1:Rho} (hd:ds[i]? = some d) (g:EvGn X' ρ' tg d ρ1)
    (K:∀ (pins':List (Addr × Obj)) (s5:Shared) (σ5:St) (F5 H5:Hp),Inv X' pins' σ5 H5 s5->Ok X.K B F5 H5 σ5 ρ1->Ext ⟨F2,H2⟩ F5 H5->H5 DD=some (.lst vs)->F5 DD=none->NoOwn σ5 ρ1 DD->RepL X.K F5 vs r0 ->
     (∀ (s6:Shared) (σ6:St) (H6:Hp),Inv X' pins' σ6 H6 s6->Inv X' [] σ6 H6 s6/\tn (i+1) s6.heap/\∀ b∈fp,H6 b=none) ->
     wpAny (model X.prog X.w) X.A (forIn ifs true fun c r=>if r=true then do let ok <- isTrue c (compEnvC scope cl C X.env) (eval c (compEnvC scope cl C X.env)); pure (ForInStep.yield ok) else pure (ForInStep.yield r)) (fun ok s₃=>
      if ok=true then wpAny (model X.prog X.w) X.A (eval elt (compEnvC scope cl C X.env)) (fun x s₄=>
       wpAny (model X.prog X.w) X.A (call (.builtin "list.append") [.ref DD,x]) (fun _ s₅=>∃ m,m < ds.length+1 - i/\∃ (i:Nat) (σ':St) (F' H':Hp) (ρ':Rho) (vs:List V) (r0 r1:List D),Inv X' [] σ' H' s₅/\tn i s₅.heap/\(∀ b∈fp,H' b=none)/\Ok X.K B F' H' σ' ρ'/\Ext ⟨F2,H2⟩ F' H'/\H' DD=some (.lst vs)/\F' DD=none/\NoOwn σ' ρ' DD /\
    RepL X.K F' vs r0/\CRun X' tg elt ifs (ds.drop i) ρ' r1/\r0++r1=rs/\r0.length<=i/\i<=ds.length/\m=ds.length+1 - i) (fun _ _=>False) s₄) (fun _ _=>False) s₃
      else ∃ m,m < ds.length+1 - i/\∃ (i:Nat) (σ':St) (F' H':Hp) (ρ':Rho) (vs:List V) (r0 r1:List D),Inv X' [] σ' H' s₃/\tn i s₃.heap/\(∀ b∈fp,H' b=none)/\Ok X.K B F' H' σ' ρ'/\Ext ⟨F2,H2⟩ F' H'/\H' DD=some (.lst vs)/\F' DD=none/\NoOwn σ' ρ' DD /\
    RepL X.K F' vs r0/\CRun X' tg elt ifs (ds.drop i) ρ' r1/\r0++r1=rs/\r0.length<=i/\i<=ds.length/\m=ds.length+1 - i) (fun _ _=>False) s5),
    wpAny (model X.prog X.w) X.A (pyNext (.ref it)) (fun r s₁=>match r with
   | none=>RR (.ref DD) C (.ok .next) s₁
   | some v=>wpAny (model X.prog X.w) X.A (letOwnedTupleGo tg (.ref it) v) (fun _ s₀=>wpAny (model X.prog X.w) X.A (assign tg (compEnvC scope cl C X.env) v) (fun _ s₂=>
     wpAny (model X.prog X.w) X.A (forIn ifs true fun c r=>if r=true then do let ok <- isTrue c (compEnvC scope cl C X.env) (eval c (compEnvC scope cl C X.env)); pure (ForInStep.yield ok) else pure (ForInStep.yield r)) (fun ok s₃=>
      if ok=true then wpAny (model X.prog X.w) X.A (eval elt (compEnvC scope cl C X.env)) (fun x s₄=>
       wpAny (model X.prog X.w) X.A (call (.builtin "list.append") [.ref DD,x]) (fun _ s₅=>∃ m,m < ds.length+1 - i/\∃ (i:Nat) (σ':St) (F' H':Hp) (ρ':Rho) (vs:List V) (r0 r1:List D),Inv X' [] σ' H' s₅/\tn i s₅.heap/\(∀ b∈fp,H' b=none)/\Ok X.K B F' H' σ' ρ'/\Ext ⟨F2,H2⟩ F' H'/\H' DD=some (.lst vs)/\F' DD=none/\NoOwn σ' ρ' DD /\
    RepL X.K F' vs r0/\CRun X' tg elt ifs (ds.drop i) ρ' r1/\r0++r1=rs/\r0.length<=i/\i<=ds.length/\m=ds.length+1 - i) (fun _ _=>False) s₄) (fun _ _=>False) s₃
      else ∃ m,m < ds.length+1 - i/\∃ (i:Nat) (σ':St) (F' H':Hp) (ρ':Rho) (vs:List V) (r0 r1:List D),Inv X' [] σ' H' s₃/\tn i s₃.heap/\(∀ b∈fp,H' b=none)/\Ok X.K B F' H' σ' ρ'/\Ext ⟨F2,H2⟩ F' H'/\H' DD=some (.lst vs)/\F' DD=none/\NoOwn σ' ρ' DD /\
    RepL X.K F' vs r0/\CRun X' tg elt ifs (ds.drop i) ρ' r1/\r0++r1=rs/\r0.length<=i/\i<=ds.length/\m=ds.length+1 - i) (fun _ _=>False) s₂) (fun _ _=>False) s₀) (fun _ _=>False) s₁) (fun _ _=>False) s':=by
   intro d rest' ρ1 hd g K
   obtain ⟨go,yl⟩:=JO'.1 _ hd
   refine thn (TI go) fun r s4 ⟨u,hr,h4⟩=>?_
   subst hr
   refine thn h4 fun _ s5 ⟨x,H5,I5,r5,y5,st5,fr5⟩=>?_
   obtain ⟨F5,x5,rx⟩:=yl x H5 y5
   have I5':=I5.pinned (fp4 fr5) (T.obj _ _ st5)
   have gg:=g B F5 H5 σ' x (fun σ6 H6=>H6=H5/\Ok X.K B F5 H5 σ6 ρ1/\NoOwn σ6 ρ1 DD) (by rw [eK]; exact k'.ext x5) (by rw [eK]; exact rx) (fun σ6 k6 n6=>⟨rfl,by rw [eK] at k6; exact k6,n6 DD no'⟩) _ s5 u I5' r5
   rw [eP,eW,eA,eEnv,eX] at gg
   refine thn gg fun _ s6 ⟨σ6,H6,I6,e6,k6,n6⟩=>?_
   subst e6
   refine K _ s6 σ6 F5 H6 I6 k6 (x'.t x5) (x5.sh _ _ hH) ?_ n6 (rv.mono x5.sf) fun s7 σ7 H7 I7=>⟨I7.unpinned,T.keep _ _ _ st5 fun b hb o e=>(I7.pin (b,o) (List.mem_append_right _ (List.mem_append_right _ (aDU hb e)))).1,fun b hb=>?_⟩
   ·cases q:F5 DD with
    | none=>rfl
    | some w=>
     rcases x5.nw DD (by rw [q]; exact fun z=>nomatch z) with z | z
     ·exact absurd hF z
     ·have z':H' DD=none:=z
      rw [hH] at z'; cases z'
   ·obtain ⟨o,e,d⟩:=T.obj _ _ st5 b hb
    exact (I7.pin (b,o) (List.mem_append_right _ (List.mem_append_right _ (aDU hb e)))).2.1
  have eltI:∀ {d r:D} {rest' rs':List D} {ρ1:Rho} (hlt:i < ds.length) (hdr:ds.drop (i+1)=rest') (ev:EvE X' ρ1 elt r) (cr':CRun X' tg elt ifs rest' ρ1 rs') (er':r0++(r :: rs')=rs) (pins':List (Addr × Obj)) (s5:Shared) (σ5:St) (F5 H5:Hp),Inv X' pins' σ5 H5 s5->Ok X.K B F5 H5 σ5 ρ1->Ext ⟨F2,H2⟩ F5 H5->H5 DD=some (.lst vs)->F5 DD=none->NoOwn σ5 ρ1 DD->RepL X.K F5 vs r0 ->
     (∀ (s6:Shared) (σ6:St) (H6:Hp),Inv X' pins' σ6 H6 s6->Inv X' [] σ6 H6 s6/\tn (i+1) s6.heap/\∀ b∈fp,H6 b=none) ->
     wpAny (model X.prog X.w) X.A (eval elt (compEnvC scope cl C X.env)) (fun x s₄=>
       wpAny (model X.prog X.w) X.A (call (.builtin "list.append") [.ref DD,x]) (fun _ s₅=>∃ m,m < ds.length+1 - i/\∃ (i:Nat) (σ':St) (F' H':Hp) (ρ':Rho) (vs:List V) (r0 r1:List D),Inv X' [] σ' H' s₅/\tn i s₅.heap/\(∀ b∈fp,H' b=none)/\Ok X.K B F' H' σ' ρ'/\Ext ⟨F2,H2⟩ F' H'/\H' DD=some (.lst vs)/\F' DD=none/\NoOwn σ' ρ' DD /\
    RepL X.K F' vs r0/\CRun X' tg elt ifs (ds.drop i) ρ' r1/\r0++r1=rs/\r0.length<=i/\i<=ds.length/\m=ds.length+1 - i) (fun _ _=>False) s₄) (fun _ _=>False) s5:=by
   intro d r rest' rs' ρ1 hlt hdr ev cr' er' pins' s5 σ5 F5 H5 I5 k5 x5 h5 f5 n5 rv5 back
   have ee:=ev B F5 H5 σ5 (fun v H6=>∃ F6,Ext ⟨F5,H5⟩ F6 H6/\Rep X.K F6 v r) (by rw [eK]; exact k5) (fun v F6 H6 x6 r6=>⟨F6,x6,by rw [eK] at r6; exact r6⟩) pins' s5 I5
   rw [eP,eW,eA,eEnv,eX] at ee
   refine thn ee fun u s6 ⟨v,H6,I6,ru,F6,x6,r6⟩=>?_
   have h6:=x6.sh _ _ h5
   have f6:F6 DD=none:=by
    cases q:F6 DD with
    | none=>rfl
    | some w=>
     rcases x6.nw DD (by rw [q]; exact fun z=>nomatch z) with z | z
     ·exact absurd f5 z
     ·have z':H5 DD=none:=z
      rw [h5] at z'; cases z'
   have hlen:vs.length < sizeLine:=by
    have:=rv5.length
    omega
   have app:=aFJ (X:=X') pins' s6 σ5 H6 (.ref DD) [v] (.ref DD) [u] (fun z H7=>H7=upd H6 DD (.lst (vs++[v]))) I6 rfl (.cons ru .nil) ⟨DD,vs,v,rfl,rfl,h6,hlen,rfl⟩
   rw [eP,eW,eA,eX] at app
   refine thn app fun _ s7 ⟨z,H7,I7,_,e7⟩=>?_
   subst e7
   obtain ⟨I8,t8,f8⟩:=back s7 σ5 _ I7
   have x7:=x5.t x6
   refine ⟨ds.length+1 - (i+1),by omega,i+1,σ5,F6,_,ρ1,vs++[v],r0++[r],rs',I8,t8,f8,(k5.ext x6).chgFree f6 bD n5 ⟨_,h6⟩,⟨fun b w q=>?_,fun b w q=>?_,x7.sf,x7.nw⟩,yH,f6,n5,(rv5.mono x6.sf).append (.cons r6 .nil),by rw [hdr]; exact cr',by rw [List.append_assoc]; exact er',by rw [List.length_append,List.length_singleton]; omega,hlt,rfl⟩
   ·have ne:b≠DD:=fun z=>by subst z; rw [f6] at q; cases q
    rw [yI ne]; exact x6.sub b w q
   ·have ne:b≠DD:=fun z=>by subst z; have q':H2 b=some w:=q; rw [hD0] at q'; cases q'
    rw [yI ne]; exact x7.sh b w q
  cases cr with
  | nil=>
   have hl:ds.length<=i:=by
    have:=congrArg List.length e1
    rw [List.length_drop,List.length_nil] at this
    omega
   refine thn (TD (JO'.2 hl)) fun r s4 ⟨hr,I4'⟩=>?_
   subst hr
   rw [List.append_nil] at er
   subst er
   exact fin σ' F' H' vs s4 I4' x' hH hF rv
  | @take d r ds0 rs0 ρ0 ρ1 g ci ev cr'=>
   obtain ⟨hd,hdr,hlt⟩:=aAQ e1
   refine stepI (rest':=ds0) hd g fun pins' s5 σ5 F5 H5 I5 k5 x5 h5 f5 n5 rv5 back=>?_
   rcases ci with rfl | ⟨c,rfl,et⟩
   ·refine wpAny_tests_nil ?_
    rw [if_pos rfl]
    exact eltI (d:=d) hlt hdr ev cr' er pins' s5 σ5 F5 H5 I5 k5 x5 h5 f5 n5 rv5 back
   ·have tt:=et B F5 H5 σ5 (fun b H6=>b=true/\∃ F6,Ext ⟨F5,H5⟩ F6 H6) (by rw [eK]; exact k5) (fun F6 H6 x6=>⟨rfl,F6,x6⟩) pins' s5 I5
    rw [eP,eW,eA,eEnv,eX] at tt
    refine wpAny_tests_one (thn tt fun b s6 ⟨H6,I6,eb,F6,x6⟩=>?_)
    subst eb
    rw [if_pos rfl]
    have f6:F6 DD=none:=by
     cases q:F6 DD with
     | none=>rfl
     | some w=>
      rcases x6.nw DD (by rw [q]; exact fun z=>nomatch z) with z | z
      ·exact absurd f5 z
      ·have z':H5 DD=none:=z
       rw [h5] at z'; cases z'
    exact eltI (d:=d) hlt hdr ev cr' er pins' s6 σ5 F6 H6 I6 (k5.ext x6) (x5.t x6) (x6.sh _ _ h5) f6 n5 (rv5.mono x6.sf) back
  | @skip d ds0 rs0 ρ0 ρ1 c g hc et cr'=>
   obtain ⟨hd,hdr,hlt⟩:=aAQ e1
   subst hc
   refine stepI (rest':=ds0) hd g fun pins' s5 σ5 F5 H5 I5 k5 x5 h5 f5 n5 rv5 back=>?_
   have tt:=et B F5 H5 σ5 (fun b H6=>b=false/\∃ F6,Ext ⟨F5,H5⟩ F6 H6) (by rw [eK]; exact k5) (fun F6 H6 x6=>⟨rfl,F6,x6⟩) pins' s5 I5
   rw [eP,eW,eA,eEnv,eX] at tt
   refine wpAny_tests_one (thn tt fun b s6 ⟨H6,I6,eb,F6,x6⟩=>?_)
   subst eb
   rw [if_neg Bool.false_ne_true]
   have f6:F6 DD=none:=by
    cases q:F6 DD with
    | none=>rfl
    | some w=>
     rcases x6.nw DD (by rw [q]; exact fun z=>nomatch z) with z | z
     ·exact absurd f5 z
     ·have z':H5 DD=none:=z
      rw [h5] at z'; cases z'
   obtain ⟨I8,t8,f8⟩:=back s6 σ5 _ I6
   exact ⟨ds.length+1 - (i+1),by omega,i+1,σ5,F6,H6,ρ1,vs,r0,_,I8,t8,f8,k5.ext x6,x5.t x6,x6.sh _ _ h5,f6,n5,rv5.mono x6.sf,by rw [hdr]; exact cr',er,by omega,hlt,rfl⟩
 exact codeAny_compStart_list (loop _ rfl) (T.self _ 0 _ _ _ tn4 (loop _ rfl))
theorem eDF {E:Value->Shared->Prop} {cl:List (Str × Addr)} (t:At0 X N sc) (md:X.calm=true\/(J.hot/\eRN X.A H2)) (S:aKC N sc N' scope) (I2:Inv X pins σ H2 s2) (T:eDK X.prog X.w X.K tg J fp it tn) (t0:tn 0 s2.heap) (fo2:∀ b∈fp,aVD X pins H2 b)
  (k2:Ok X.K B F2 H2 σ ρ) (JO:eBJ X.K J F2 ds) (hz:ds.length < sizeLine)
  (hc1:∀ n c,cl.lookup n=some c->X.env.cells.lookup n=some c) (hc2:∀ n,(n,NameKind.free)∈scope.names->∃ c,cl.lookup n=some c)
  (run:∀ X',CompX0 X X' N' (aXX scope sc) (eHP scope)->CRun X' tg elt ifs ds (ρ++List.replicate (N'.length - N.length) .un) rs)
  {RR:Value->Addr->Result->Shared->Prop} (hRR:∀ D' C s',eRR X pins σ F2 H2 rs D' C s'->RR (.ref D') C (.ok .next) s') :
  wpAny (model X.prog X.w) X.A (newList []) (fun acc s₃=>wpAny (model X.prog X.w) X.A (newFunctionEnv scope X.env.globals cl [] X.env.qual none .none (some X.env)) (fun cenv s₄=>
   codeAny (model X.prog X.w) X.A (.compStart (.ListComp elt [⟨tg,iter,ifs,0⟩] scope pos) 0 (.ref it) acc { cenv with scope:=relabel scope X.env }) (RR acc cenv.locals) s₄) E s₃) E s2:=by
 have hclb:∀ m c,cl.lookup m=some c->c < (s2.heap.push { cls:=.type "list",data:=.seq ([]:List Value).toArray }).objs.size:=fun m c e=>by
  obtain ⟨v,q⟩:=I2.cell m c (hc1 m c e)
  rw [Heap.size_push]; exact Nat.lt_succ_of_lt q.lt
 refine wpAny_newObj_type (aRY hclb fun cl' h₁ kp₁ hns₁ CN=>?_)
 have I3:Inv X pins σ (upd H2 s2.heap.objs.size (.lst [])) { s2 with heap:=s2.heap.push { cls:=.type "list",data:=.seq ([]:List Value).toArray } }:=I2.lnew (t':=s2.toks) (ys:=[]) .nil (Nat.zero_le _)
 have hD0:H2 s2.heap.objs.size=none:=I2.hok.fresh (Nat.le_refl _)
 have hsz:(s2.heap.push { cls:=.type "list",data:=.seq ([]:List Value).toArray }).objs.size=s2.heap.objs.size+1:=by rw [Heap.size_push]
 have tfp:∀ b∈fp,b < s2.heap.objs.size:=fun b hb=>by
  obtain ⟨o,e,_⟩:=T.obj 0 _ t0 b hb
  exact Heap.lt_size e
 refine eAR (s3:={ s2 with heap:=s2.heap.push { cls:=.type "list",data:=.seq ([]:List Value).toArray } }) t md S rfl (by
  show s2.heap.objs.size≠(s2.heap.push { cls:=.type "list",data:=.seq ([]:List Value).toArray }).objs.size
  rw [hsz]; exact Nat.ne_of_lt (Nat.lt_succ_self _)) I3 hD0 (fun b hb=>?_) (fun b hb=>?_) T (T.keep 0 _ _ t0 fun b hb o e=>Heap.get?_push_of_some _ e) hns₁ kp₁ k2 JO hz hc1 hc2 CN run hRR
 ·obtain ⟨f0,f1⟩:=fo2 b hb
  exact ⟨by rw [yI (Nat.ne_of_lt (tfp b hb))]; exact f0,f1⟩
 ·show b < (s2.heap.push { cls:=.type "list",data:=.seq ([]:List Value).toArray }).objs.size
  rw [hsz]; exact Nat.lt_succ_of_lt (tfp b hb)
end
section
variable {X:Cx} {N:List Str} {sc scope:Scope} {ρ:Rho} {tg elt iter:Expr} {ifs:List Expr} {pos:Pos} {ds rs:List D}
theorem eJK (t:At0 X N sc) {N':List Str} (S:aKC N sc N' scope) {pins:List (Addr × Obj)} {σ:St} {H:Hp} {s:Shared} (I:Inv X pins σ H s) :
  ∃ cl:List (Str × Addr),closureFor scope X.env=pure cl/\(∀ n c,cl.lookup n=some c->X.env.cells.lookup n=some c)/\(∀ n,(n,NameKind.free)∈scope.names->∃ c,cl.lookup n=some c):=
 aWC fun n hn=>I.ok.has n (.inl (by show X.env.scope.names.lookup n=_; rw [t.eS]; exact S.free _ hn rfl))
theorem aDL (t:At X N sc) (N':List Str) (S:aKC N sc N' scope) (hi:EvI X ρ tg iter ds) (hz:ds.length < sizeLine) (run:∀ X',CompX X X' N' (aXX scope sc) (eHP scope)->CRun X' tg elt ifs ds (ρ++List.replicate (N'.length - N.length) .un) rs)
  (hs:∀ x,foldedSetIterable iter X.env x=pure x:=by intro _; rfl):EvN X ρ (.ListComp elt [⟨tg,iter,ifs,0⟩] scope pos) rs:=fun B F H σ Q k q=>.mk fun pins s I=>by
 obtain ⟨cl,e1,e2,e3⟩:=eJK t.z S I
 rw [eval_ListComp]
 have h1:=hi B F H σ (fun J H1=>∃ F1,Ext ⟨F,H⟩ F1 H1/\eBJ X.K J F1 ds) k (fun J F' H' x j=>⟨F',x,j⟩) pins s I
 refine wpAny_comprehension_free (use:=none) rfl hs e1 S.kind S.names (thn h1 fun v s1 h=>thn h fun itv s2 h2=>?_)
 obtain ⟨it,fp,tn,J,H',e,I2,T,t0,fo,F1,x1,JO⟩:=h2
 subst e
 refine eDF (RR:=fun acc C=>compPost (model X.prog X.w) X.A X.xe none (EP X pins σ Q) acc C) t.z (.inl t.calm) S I2 T t0 fo (k.ext x1) JO hz e2 e3 (fun X' c0=>run X' (c0.calm t.calm)) ?_
 rintro D' C s' ⟨F',H'',vs,m,IX,hm,h0,hL,hs0,hcl,hpn,x',hd0,hd,hf,rv,hDC⟩
 refine ⟨m,hm,fun h'' sb=>?_⟩
 have IX':Inv X pins σ H'' { s' with heap:=h'' }:=IX.turned (t':=s'.toks) (it:=C) (fun b o hb e=>sb.extBut b o hb e) h0 hL (.inr hs0) hcl hpn
 exact ⟨.ref D',H'',IX',rfl,q D' vs F' H'' (x1.t x') (x1.sh.free hd0) hd hf rv⟩
theorem CRun.all {X:Cx} {tg elt:Expr} (R:D->Rho) (f:D->D):∀ (ds:List D) (ρ:Rho),(∀ d∈ds,EvGn X ρ tg d (R d))->(∀ d∈ds,∀ e∈ds,EvGn X (R d) tg e (R e))->(∀ d∈ds,EvE X (R d) elt (f d))->CRun X tg elt [] ds ρ (ds.map f)
 | [],_,_,_,_=>.nil
 | d :: ds,ρ,h1,h2,h3=>.take (h1 d List.mem_cons_self) (.inl rfl) (h3 d List.mem_cons_self)
   (CRun.all R f ds (R d) (fun e he=>h2 d List.mem_cons_self e (List.mem_cons_of_mem _ he)) (fun a ha e he=>h2 a (List.mem_cons_of_mem _ ha) e (List.mem_cons_of_mem _ he)) fun e he=>h3 e (List.mem_cons_of_mem _ he))
end
def eRJ (N:List Str) (sc:Scope) (N':List Str) (scope:Scope):Bool:=
 decide (scope.kind = .function) && scope.names.all (fun y=>decide (y.2 = .cell->scope.names.lookup y.1=some .cell)) && scope.names.all (fun y=>decide (y.2 = .local->scope.names.lookup y.1=some .local)) &&
  scope.names.all (fun y=>decide (y.2 = .free->sc.names.lookup y.1=some .cell)) && decide (sc.kind = .function) && decide N'.Nodup &&
  (List.range N.length).all (fun i=>match N'[i]? with
   | some x=>!(aDQ (aXX scope sc) x) || (decide (N[i]? = some x) && decide (scope.names.lookup x=some .free))
   | none=>true) && decide (N.length<=N'.length)
theorem csc {N N':List Str} {sc scope:Scope} (h:eRJ N sc N' scope=true):aKC N sc N' scope:=by
 unfold eRJ at h
 simp only [Bool.and_eq_true,decide_eq_true_eq,List.all_eq_true] at h
 obtain ⟨⟨⟨⟨⟨⟨⟨h1,h2⟩,h3⟩,h4⟩,h5⟩,h6⟩,h7⟩,h8⟩:=h
 refine ⟨h1,h2,h3,h4,h5,h6,fun i x hi hx hv=>?_,h8⟩
 have q:=h7 i (List.mem_range.mpr hi)
 rw [hx] at q
 simp only [hv,Bool.not_true,Bool.false_or,Bool.and_eq_true,decide_eq_true_eq] at q
 exact q
theorem yP {X:Cx} {sc:Scope} {x:Str} {u:Value} (hm:X.mg x=none) (g:sc.names.lookup x=some .globalImplicit:=by rfl) (v:bootBuiltins x=some u:=by rfl) (n:x ≠ "__name__" := by decide) (d:(x == ("__debug__" : Str))=false:=by rfl):Blt X sc x u:=⟨g,hm,v,n,d⟩
abbrev jC (f:List Int):D:=.tup (f.map D.int)
abbrev jA (f:List Int):D:=.lst (f.map D.int)
theorem aJY {xs:List Int} {i:Int} {n:Nat} (h0:0<=i) (hn:i.toNat=n) (h:n < xs.length):atI (xs.map D.int) i=some (.int xs[n]):=by
 have e:i=((n:Nat):Int):=by omega
 subst e
 exact jR (by rw [List.getElem?_map,List.getElem?_eq_getElem h]; rfl)
theorem aUJ {n:Nat} {i:Int} {j:Nat} (h0:0<=i) (hn:i.toNat=j) (h:j < n):ixN n i=some j:=by
 unfold ixN
 rw [if_pos h0,if_pos (by omega),hn]
theorem aUR (xs ys:List Int):PyData.eqvAll (xs.map PyData.int) (ys.map PyData.int)=decide (xs=ys):=by
 induction xs generalizing ys with
 | nil=>cases ys <;> simp [PyData.eqvAll]
 | cons x xs ih=>
  cases ys with
  | nil=>simp [PyData.eqvAll]
  | cons y ys=>
   simp only [List.map_cons,PyData.eqvAll,PyData.eqv,ih]
   by_cases h1:x=y <;> by_cases h2:xs=ys <;> simp [h1,h2]
theorem aEV (xs ys:List Int):(toP (jC xs)).eqv (toP (jC ys))=decide (xs=ys):=by
 show (PyData.tuple (toPs (xs.map D.int))).eqv (.tuple (toPs (ys.map D.int)))=_
 rw [aAK,aAK]
 simp only [PyData.eqv]
 exact aUR xs ys
theorem aSI (xs ys:List Int):(PyData.list (toPs (xs.map D.int))).eqv (.list (toPs (ys.map D.int)))=decide (xs=ys):=by
 rw [aAK,aAK]
 simp only [PyData.eqv]
 exact aUR xs ys
theorem aSN (xs:List Int):PyData.canLayAll0 (xs.map PyData.int)=true:=PySem.W.canLayAll0_ints xs
theorem zG (xs:List Int):SeqAt.shaped (toP (jC xs))=true:=by
 show SeqAt.shaped (.tuple (toPs (xs.map D.int)))=true
 rw [aAK]
 have h1:=PySem.W.depthAll_ints xs
 have h2:PyData.depth (.tuple (xs.map PyData.int))<=64:=by simp only [PyData.depth]; omega
 show (PyData.canLay0 (.tuple (xs.map PyData.int)) && decide (PyData.depth (.tuple (xs.map PyData.int))<=64))=true
 rw [Bool.and_eq_true]
 exact ⟨by simp only [PyData.canLay0]; exact aSN xs,decide_eq_true h2⟩
theorem vV (xs:List Int):SeqAt.shaped (PyData.list (toPs (xs.map D.int)))=true:=by
 rw [aAK]; exact PySem.W.shaped_ints xs
inductive Weak:Rho->Rho->Prop where
 | nil:Weak [] []
 | keep {s:Sl} {a b:Rho}:Weak a b->Weak (s :: a) (s :: b)
 | forget {s:Sl} {a b:Rho}:Weak a b->Weak (s :: a) (.un :: b)
theorem Weak.len:∀ {a b:Rho},Weak a b->a.length=b.length
 | _,_,.nil=>rfl
 | _,_,.keep h=>congrArg Nat.succ h.len
 | _,_,.forget h=>congrArg Nat.succ h.len
theorem Weak.get:∀ {a b:Rho},Weak a b->∀ (i:Nat) (s:Sl),b[i]? = some s->s ≠ .un->a[i]? = some s
 | _,_,.nil,_,_,h,_=>by simp at h
 | _,_,.keep h,0,s,e,_=>by simpa using e
 | _,_,.keep h,i+1,s,e,hn=>by simpa using h.get i s (by simpa using e) hn
 | _,_,.forget h,0,s,e,hn=>by simp at e; exact absurd e.symm hn
 | _,_,.forget h,i+1,s,e,hn=>by simpa using h.get i s (by simpa using e) hn
theorem Ok.weak {K:PySem.W.Frag} {B:B0} {F H:Hp} {σ:St} {a b:Rho} (k:Ok K B F H σ a) (w:Weak a b):Ok K B F H σ b:=
 ⟨k.toExt,k.len.trans w.len,fun i d h=>k.vals i d (w.get i _ h fun z=>nomatch z),fun i xs h=>k.owns i xs (w.get i _ h fun z=>nomatch z),fun i j xs ys p h1 h2=>k.dist i j xs ys p (w.get i _ h1 fun z=>nomatch z) (w.get j _ h2 fun z=>nomatch z),k.dic.to (.refl _) (fun _ _ e1 e2 _=>⟨e1,e2⟩) fun i kvs h=>⟨w.get i _ h (fun z=>nomatch z),rfl⟩⟩
section
variable {X:Cx} {ρ ρ1 ρ2:Rho} {sts:List Stmt} {o:Out}
theorem EvSs.weak (h:EvSs X ρ sts (.nx ρ1)) (w:Weak ρ1 ρ2):EvSs X ρ sts (.nx ρ2):=fun B F H σ E k q=>h B F H σ E k fun F' H' σ' k' s'=>q F' H' σ' (k'.weak w) s'
end
section
variable {X:Cx} {ρ:Rho} {e:Expr}
theorem EvT.eq {b b':Bool} (h:EvT X ρ e b) (q:b=b'):EvT X ρ e b':=q ▸ h
theorem EvE.eq {d d':D} (h:EvE X ρ e d) (q:d=d'):EvE X ρ e d':=q ▸ h
theorem EvN.eq {d d':List D} (h:EvN X ρ e d) (q:d=d'):EvN X ρ e d':=q ▸ h
theorem EvQ.eq {k:Bool} {d d':List D} (h:EvQ X ρ e k d) (q:d=d'):EvQ X ρ e k d':=q ▸ h
theorem EvSs.eq {sts:List Stmt} {o o':Out} (h:EvSs X ρ sts o) (q:o=o'):EvSs X ρ sts o':=q ▸ h
theorem EvS.eq {st:Stmt} {o o':Out} (h:EvS X ρ st o) (q:o=o'):EvS X ρ st o':=q ▸ h
end
theorem FRun.same {X:Cx} {tg:Expr} {body:List Stmt} (ρ:Rho):∀ (ds:List D),(∀ d∈ds,∃ ρ1,EvG X ρ tg d ρ1/\EvSs X ρ1 body (.nx ρ))->FRun X tg body ds ρ (.nx ρ)
 | [],_=>.nil
 | d :: ds,h=>by
  obtain ⟨ρ1,h1,h2⟩:=h d List.mem_cons_self
  exact .cons h1 h2 (FRun.same ρ ds fun e he=>h e (List.mem_cons_of_mem _ he))
theorem FRun.upto {X:Cx} {tg:Expr} {body:List Stmt} {ds:List D} (R:Nat->Rho) (h:∀ (j:Nat) d,ds[j]? = some d->∃ ρ1,EvG X (R j) tg d ρ1/\EvSs X ρ1 body (.nx (R (j+1)))):FRun X tg body ds (R 0) (.nx (R ds.length)):=by
 have q:=FRun.of (X:=X) (tg:=tg) body R ds 0 fun j d e=>by
  obtain ⟨ρ1,h1,h2⟩:=h j d e
  exact ⟨ρ1,by simpa using h1,by simpa using h2⟩
 simpa using q
theorem FRun.uptoE {X:Cx} {tg:Expr} {body:List Stmt} {ds:List D} {ρ ρ':Rho} (R:Nat->Rho) (h:∀ (j:Nat) d,ds[j]? = some d->∃ ρ1,EvG X (R j) tg d ρ1/\EvSs X ρ1 body (.nx (R (j+1)))) (e0:R 0=ρ) (e1:R ds.length=ρ'):FRun X tg body ds ρ (.nx ρ'):=by
 subst e0; subst e1; exact FRun.upto R h
theorem wP {i j:Int} (h1 : -(2 ^ 64) < j) (h2:j < 2 ^ 64):IntMulOk i j:=.of_right (intBits_le_64 h1 h2)
theorem aCI {i j:Int} (h1 : -(2 ^ 64) < i) (h2:i < 2 ^ 64):IntMulOk i j:=.of_left (intBits_le_64 h1 h2)
def aOK (xs:List Int) (lo hi:Option Int):List Int:=(xs.drop (HT.sIx xs.length 0 lo)).take (HT.sIx xs.length xs.length hi - HT.sIx xs.length 0 lo)
theorem aHW (xs:List Int) (lo hi:Option Int):cutD (xs.map D.int) lo hi=(aOK xs lo hi).map D.int:=by
 unfold cutD aOK
 rw [List.length_map,List.map_take,List.map_drop]
theorem eDE (xs:List Int) (lo hi:Option Int):(aOK xs lo hi).length<=xs.length:=by
 unfold aOK
 rw [List.length_take,List.length_drop]
 omega
theorem eCD (k:Nat) (n:Int):(List.replicate k [D.int n]).flatten=(List.replicate k n).map D.int:=by
 induction k with
 | zero=>rfl
 | succ k ih=>rw [List.replicate_succ,List.flatten_cons,ih,List.replicate_succ,List.map_cons]; rfl
theorem CRun.gen {X:Cx} {tg elt:Expr} {α:Type} (g f:α->D) (R:α->Rho):∀ (xs:List α) (ρ:Rho),(∀ x∈xs,EvGn X ρ tg (g x) (R x))->(∀ x∈xs,∀ y∈xs,EvGn X (R x) tg (g y) (R y))->(∀ x∈xs,EvE X (R x) elt (f x))->CRun X tg elt [] (xs.map g) ρ (xs.map f)
 | [],_,_,_,_=>.nil
 | x :: xs,ρ,h1,h2,h3=>.take (h1 x List.mem_cons_self) (.inl rfl) (h3 x List.mem_cons_self)
   (CRun.gen g f R xs (R x) (fun e he=>h2 x List.mem_cons_self e (List.mem_cons_of_mem _ he)) (fun a ha e he=>h2 a (List.mem_cons_of_mem _ ha) e (List.mem_cons_of_mem _ he)) fun e he=>h3 e (List.mem_cons_of_mem _ he))
theorem aJZ {xs:List Int} {i:Int} (h0:0<=i) (h:i.toNat < xs.length):atI (xs.map D.int) i=some (.int (xs.getD i.toNat 0)):=by
 rw [aJY h0 rfl h,List.getD_eq_getElem?_getD,List.getElem?_eq_getElem h]; rfl
theorem aZH:(sizeLine:Nat)=16777216:=sizeLine_eq
open AutoSeq1 (wpAny_loadPart')
section
variable {prog:Program} {w:World} {A:Around} {E:Value->Shared->Prop} {s:Shared}
theorem aIT {it t:Addr} {i:Nat} {items:Array Value} {x:Value} {Q:Value->Shared->Prop} (hit:s.heap.IsTupleIter it t i) (ht:s.heap.IsTuple t items) (hx:items[i]? = some x)
  (hQ:∀ h',h'.IsTupleIter it t (i+1)->Heap.SameBut it s.heap h'->Q x { s with heap:=h' }):wpAny (model prog w) A (Builtin.SmallTypes.nextOf (.ref it)) Q E s:=by
 obtain ⟨o,ho,hc,hd⟩:=id hit
 obtain ⟨ol,hol,_,nl,hdl⟩:=ht
 unfold Builtin.SmallTypes.nextOf
 refine wpAny_bind (wpAny_callSpecial?_slot (name:=Str.ofString "__next__") hit.typeIs F.slot_tuple_iterator_next (wpAny_call_entry F.slot_tuple_iterator_next hit.typeIs F.entry_tuple_iterator_next ?_ (F.args_tuple_iterator_next_1 _)))
 show wpAny _ _ (field (.ref it) 0 >>= _) _ _ s
 refine wpAny_bind (wpAny_field ho hd (x:=.ref t) rfl ?_)
 show wpAny _ _ (if (Value.ref t == Value.none)=true then _ else _) _ _ s
 rw [if_neg (show ¬ ((Value.ref t == Value.none)=true) from Bool.false_ne_true)]
 show wpAny _ _ (field (.ref it) 1 >>= _) _ _ s
 refine wpAny_bind (wpAny_field ho hd (x:=.int i 0) rfl ?_)
 show wpAny _ _ (seqItems? (.ref t) >>= _) _ _ s
 refine wpAny_bind (wpAny_seqItems hol hdl ?_)
 simp only [Int.toNat_natCast,hx]
 refine wpAny_bind (wpAny_setField ho hd (by simp) (wpAny_pure ⟨x,rfl,wpAny_pure (hQ _ ?_ (Heap.SameBut.update ..))⟩))
 exact ⟨_,Heap.get?_update_self _ ho (Obj.isFreed_of_fields (Obj.data_mapFields hd _)),(Obj.cls_mapFields ..).trans hc,by rw [Obj.data_mapFields hd]; simp [rawInt]⟩
theorem aEF {it t:Addr} {i:Nat} {items:Array Value} {Q:Value->Shared->Prop} (hh:A.handled=none) (hit:s.heap.IsTupleIter it t i) (ht:s.heap.IsTuple t items) (hx:items[i]? = none)
  (hE:∀ h' e,Heap.ExtBut it s.heap h'->(∃ o,h'.get? e=some o/\o.cls = .type "StopIteration")->E (.ref e) { s with heap:=h' }):wpAny (model prog w) A (Builtin.SmallTypes.nextOf (.ref it)) Q E s:=by
 obtain ⟨o,ho,hc,hd⟩:=id hit
 obtain ⟨ol,hol,_,nl,hdl⟩:=ht
 unfold Builtin.SmallTypes.nextOf
 refine wpAny_bind (wpAny_callSpecial?_slot (name:=Str.ofString "__next__") hit.typeIs F.slot_tuple_iterator_next (wpAny_call_entry F.slot_tuple_iterator_next hit.typeIs F.entry_tuple_iterator_next ?_ (F.args_tuple_iterator_next_1 _)))
 show wpAny _ _ (field (.ref it) 0 >>= _) _ _ s
 refine wpAny_bind (wpAny_field ho hd (x:=.ref t) rfl ?_)
 show wpAny _ _ (if (Value.ref t == Value.none)=true then _ else _) _ _ s
 rw [if_neg (show ¬ ((Value.ref t == Value.none)=true) from Bool.false_ne_true)]
 show wpAny _ _ (field (.ref it) 1 >>= _) _ _ s
 refine wpAny_bind (wpAny_field ho hd (x:=.int i 0) rfl ?_)
 show wpAny _ _ (seqItems? (.ref t) >>= _) _ _ s
 refine wpAny_bind (wpAny_seqItems hol hdl ?_)
 simp only [Int.toNat_natCast,hx]
 refine wpAny_bind (wpAny_rule (wpAny_bind (wpAny_setField ho hd (by simp) ?_)))
 show wpAny _ _ (newExc (.type "StopIteration") [] >>= _) _ _ _
 refine wpAny_bind ?_
 simp only [newExc,newTuple]
 refine wpAny_bind (wpAny_newObj_type ?_ (by size_fits))
 refine wpAny_bind (m:=firstArgMember _ _) (wpAny_of_eq (a:=Value.none) (by first | rfl | (simp only [firstArgMember]; rfl)) ?_)
 refine wpAny_newObj_type ?_ (by size_fits)
 simp only [raiseNew]
 refine wpAny_bind (wpAny_handled ?_)
 first | rw [show A.in1.handled=none from hh] | rw [hh]
 refine wpAny_bind (wpAny_pure (wpAny_throw ?_))
 exact hE _ _ (((Heap.SameBut.update ..).extBut.push _).push _) ⟨_,Heap.get?_push_size _ rfl,rfl⟩
end
theorem eAL {prog:Program} {w:World} {A:Around} (hh:A.handled=none) (it t:Addr) (hne:t≠it) (items:Array Value) :
  Draws prog w A it [it,t] items.size (fun i v=>items[i]? = some v) (fun i h=>h.IsTupleIter it t i/\h.IsTuple t items) where
 live:=fun _ _ st=>let ⟨o,ho,_⟩:=st.1; ⟨o,ho⟩
 frame:=fun _ _ _ st hk=>⟨st.1.at fun o e=>hk it (by simp) o e,let ⟨o,e,r⟩:=st.2; ⟨o,hk t (by simp) o e,r⟩⟩
 item:=fun i s Q E hi st hQ=>by
  refine aIT st.1 st.2 (x:=items[i]) (by simp [hi]) fun h' hit' hs'=>?_
  exact hQ _ h' s.toks (by simp [hi]) ⟨hit',let ⟨o,e,r⟩:=st.2; ⟨o,hs'.extBut t o hne e,r⟩⟩ hs'
 done:=fun s Q E st hE=>aEF hh st.1 st.2 (by simp) hE
theorem aSA (l:Addr) (items:Array Value) (n:Nat) (dct:Option Addr) (sl:Array (Option Value)) :
  Meets (Builtin.«enumerate.__new__» ⟨[.type "enumerate",.ref l],[]⟩) (fun _ R s=>s.heap.get? l=some { cls:=.type "tuple",dict:=dct,data:=.seq items n,slots:=sl } /\
   R (.ok (.ret (.ref (s.heap.push { cls:=.type "tuple_iterator",data:=.fields #[.ref l,.int 0 0] }).objs.size)))
    { s with heap:=(s.heap.push { cls:=.type "tuple_iterator",data:=.fields #[.ref l,.int 0 0] }).push { cls:=.type "enumerate",data:=.fields #[.none,.bool false,.ref s.heap.objs.size,rawInt 0,.none,.none] } }):=
 .of_wp fun prog w A R s h=>by
  obtain ⟨hp,g,d,tk,os⟩:=s; obtain ⟨hl,h⟩:=h
  have hsub:=sub_enumerate
  have hL:Heap.IsTuple (Shared.heap ⟨hp,g,d,tk,os⟩) l items:=⟨_,hl,rfl,n,rfl⟩
  wp_walk using wpAny_loadPart' hl
  refine wpAny_stack_any fun st=>wpAny_pure ?_
  split
  ·rename_i c _ _ _ _ _
   cases (c == Value.type "enumerate")
   ·wp_walk using wpAny_loadPart' hl,wpAny_pyIter_tuple hL
    exact ⟨_,rfl,h⟩
   ·wp_walk using wpAny_loadPart' hl,wpAny_pyIter_tuple hL
    exact ⟨_,rfl,h⟩
  ·wp_walk using wpAny_loadPart' hl,wpAny_pyIter_tuple hL
   exact ⟨_,rfl,h⟩
section
variable {prog:Program} {w:World} {A:Around} {E:Value->Shared->Prop} {s:Shared}
theorem aWE {l:Addr} {items:Array Value} {Q:Value->Shared->Prop} (hL:s.heap.IsTuple l items)
  (h:∀ h',IsEnum h' (s.heap.objs.size+1) s.heap.objs.size 0 .none->h'.IsTupleIter s.heap.objs.size l 0->h'.objs.size=s.heap.objs.size+2 ->
   (∀ b o,s.heap.get? b=some o->h'.get? b=some o)->Q (.ref (s.heap.objs.size+1)) { s with heap:=h' }):wpAny (model prog w) A (call (.type "enumerate") [.ref l]) Q E s:=by
 obtain ⟨⟨c,dct,dt,sl⟩,hl,hc,n,hd⟩:=hL
 replace hc:c = .type "tuple" := hc
 replace hd:dt = .seq items n:=hd
 subst hc hd
 refine callType_new F.called_enumerate (by decide) (F.typeCall_enumerate_1 _) (F.newCall_enumerate_1 _) (fun obj=>F.args_object_init_2 obj _) F.entry_enumerate_new (aSA l items n dct sl) ⟨hl,?_⟩
 have hz:(s.heap.push { cls:=.type "tuple_iterator",data:=.fields #[.ref l,.int 0 0] }).objs.size=s.heap.objs.size+1:=Heap.size_push ..
 show _/\_
 rw [hz]
 have he:IsEnum ((s.heap.push { cls:=.type "tuple_iterator",data:=.fields #[.ref l,.int 0 0] }).push { cls:=.type "enumerate",data:=.fields #[.none,.bool false,.ref s.heap.objs.size,rawInt 0,.none,.none] }) (s.heap.objs.size+1) s.heap.objs.size 0 .none:=by
  have:=Heap.get?_push_size (s.heap.push { cls:=.type "tuple_iterator",data:=.fields #[.ref l,.int 0 0] }) (o:={ cls:=.type "enumerate",data:=.fields #[.none,.bool false,.ref s.heap.objs.size,rawInt 0,.none,.none] }) rfl
  rw [hz] at this; exact this
 refine ⟨⟨_,he,rfl⟩,h _ he ⟨_,Heap.get?_push_of_some _ (Heap.get?_push_size _ rfl),rfl,rfl⟩ (by rw [Heap.size_push,hz]) fun b o x=>Heap.get?_push_of_some _ (Heap.get?_push_of_some _ x)⟩
end
def Ite (K:PySem.W.Frag) (a:Addr):It:=
 ⟨fun i H=>∃ xs x,SqT K H a xs/\xs[i]? = some x,fun i H x H'=>∃ p,H p=none/\x = .ref p/\∀ xs,SqT K H a xs->∃ v,xs[i]? = some v/\H' = upd H p (.tup [.int i,v]),fun i H=>∃ xs,SqT K H a xs/\xs.length<=i,False⟩
section
variable {X:Cx}
theorem Inv.turn2 {pins:List (Addr × Obj)} {σ:St} {H:Hp} {s:Shared} {h':Heap} {t':Nat} {e it:Addr} (I:Inv X pins σ H s) (k:∀ b o,b≠e->b≠it->s.heap.get? b=some o->h'.get? b=some o) (fe:aVD X pins H e) (fi:aVD X pins H it) :
  Inv X pins σ H { s with heap:=h',toks:=t' }:=by
 obtain ⟨e0,e1,e2,e3,e4,e5⟩:=fe
 obtain ⟨i0,i1,i2,i3,i4,i5⟩:=fi
 refine I.step (g':=s.gens) (d':=s.drawn) (ch:=[e,it]) (fun b hb=>?_) (fun b o _ _ hc q _=>k b o (fun z=>hc (by simp [z])) (fun z=>hc (by simp [z])) q) (fun b o _ _ hc q _=>⟨o.slots,k b o (fun z=>hc (by simp [z])) (fun z=>hc (by simp [z])) q⟩) (fun _ _ _ _ n=>n)
  (fun b o hc q=>⟨o,k b o (fun z=>hc (by simp [z])) (fun z=>hc (by simp [z])) q⟩) (fun _ _ q=>q) (fun _ _ _ q=>q) (fun b ps q=>⟨#[],by rw [q]; simp⟩) (fun m hm=>?_) (fun b u q=>?_) I.bare
 ·rcases List.mem_cons.mp hb with rfl | hb
  ·exact ⟨e3,e1,e4,e5⟩
  ·rw [List.mem_singleton.mp hb]; exact ⟨i3,i1,i4,i5⟩
 ·obtain ⟨o,es,ep,ho,r⟩:=hm
  exact ⟨o,es,ep,k _ o (Ne.symm e1) (Ne.symm i1) ho,r⟩
 ·have ne:∀ c v,H c=some v->c≠e/\c≠it:=fun c v q=>⟨(fun z=>by rw [z,e0] at q; cases q),(fun z=>by rw [z,i0] at q; cases q)⟩
  refine (I.hok b u q).stay (fun c v hc r=>?_) (fun _ r=>r) fun _ _ r=>r
  rcases hc with z | z
  ·subst z; exact k c v (ne c _ q).1 (ne c _ q).2 r
  ·exact k c v (ne c _ z).1 (ne c _ z).2 r
end
section
variable {X:Cx} {pins:List (Addr × Obj)} {σ:St} {H:Hp} {s:Shared}
theorem Inv.track {p:Addr} {o:HO} (I:Inv X pins σ H s) (hp:H p=none) (h1:X.s₀.heap.objs.size<=p) (h2:p≠X.env.locals) (h3:∀ x c,X.env.cells.lookup x=some c->c≠p) (h4:∀ q∈X.pn++pins,q.1≠p) (new:ObjOk X.prog X.w (upd H p o) s.heap p o):Inv X pins σ (upd H p o) s:=by
 have old:∀ b ob,X.s₀.heap.get? b=some ob->b≠p:=fun b ob e=>Nat.ne_of_lt (Nat.lt_of_lt_of_le (Heap.lt_size e) h1)
 refine ⟨I.ok,I.os,I.bare,⟨I.base.keep,I.base.slot,fun b ob e n hx=>by rw [yI (old b ob e)]; exact I.base.free b ob e n hx,I.base.there,fun b xs e=>?_,fun b ob u e=>?_,fun b ps e=>?_⟩,I.loc,I.cell,by rw [yI (Ne.symm h2)]; exact I.free,fun x c e=>by rw [yI (h3 x c e)]; exact I.freeC x c e,fun q hq=>?_,fun b u e=>?_,I.len⟩
 ·have q:=I.base.tups b xs e
  rw [yI (zZ q hp)]; exact q
 ·have q:=I.base.frzs b ob u e
  rw [yI (zZ q hp)]; exact q
 ·obtain ⟨more,q⟩:=I.base.tbls b ps e
  exact ⟨more,by rw [yI (zZ q hp)]; exact q⟩
 ·obtain ⟨a,b,c⟩:=I.pin q hq
  exact ⟨a,by rw [yI (h4 q hq)]; exact b,c⟩
 ·by_cases hb:b=p
  ·subst hb; rw [yH] at e; cases e; exact new
  ·rw [yI hb] at e
   exact (I.hok b u e).stay (fun _ _ _ q=>q) (fun c q=>by rw [yI (zZ q hp)]; exact q) fun c xs q=>by rw [yI (zZ q hp)]; exact q
end
theorem aWX {P:Program} {w:World} {K:PySem.W.Frag} {es:List Expr} {x1:Nat} {pos:Pos} (a e it:Addr) (hne:e≠it):eDK P w K (.Tuple es x1 pos) (Ite K a) [e,it] e (fun i h=>(∃ old,IsEnum h e it i old)/\h.IsTupleIter it a i) where
 mem:=by simp
 obj:=fun i h st b hb=>by
  obtain ⟨⟨old,he⟩,o,ho,c,d⟩:=st
  rcases List.mem_cons.mp hb with rfl | hb
  ·exact ⟨_,he,fun v z=>by cases z⟩
  ·rw [List.mem_singleton.mp hb]
   exact ⟨o,ho,fun v z=>by rw [d] at z; cases z⟩
 keep:=fun i h h' st k=>by
  obtain ⟨⟨old,he⟩,hi⟩:=st
  exact ⟨⟨old,k e (by simp) _ he⟩,hi.at fun o q=>k it (by simp) o q⟩
 item:=by
  intro X hP hw hK hc i pins s σ H E I hf st hg
  subst hP hw hK
  replace hc:=hc.resolve_right fun z=>z.1
  obtain ⟨⟨old,he⟩,hit⟩:=st
  obtain ⟨xs,x,hq,hx⟩:=hg
  obtain ⟨its,rv,p,hz⟩:=I.tuple hq
  obtain ⟨u,hu,ru⟩:=rv.get hx
  have fe:=hf e (by simp)
  have fi:=hf it (by simp)
  have hlt:i < its.length:=(List.getElem?_eq_some_iff.mp hu).1
  obtain ⟨oa,hoa,hca,na,hda⟩:=id p
  have hae:e≠a:=fun z=>by
   subst z
   rw [he] at hoa; cases hoa
   have z':Value.type "enumerate" = Value.type "tuple" := hca
   injection z' with z2
   exact absurd z2 (by decide)
  have hai:a≠it:=fun z=>by
   subst z
   obtain ⟨oi,hoi,hci,_⟩:=hit
   rw [hoa] at hoi; cases hoi
   rw [hca] at hci
   injection hci with z2
   exact absurd z2 (by decide)
  have Dr:=eAL (prog:=X.prog) (w:=X.w) (A:=X.A.in1) (I.ok.hd hc) it a hai its.toArray
  refine wpAny_pyNext_enum_itemD Dr he ⟨hit,p⟩ (by simpa using hlt) hne (by simp [hae,hne]) fun y h' tk hy ho hst hT hsz hk=>?_
  have ey:y=u:=by
   have:its[i]? = some y:=by simpa using hy
   rw [hu] at this; exact (Option.some.inj this).symm
  subst ey
  refine ⟨_,rfl,wpAny_letOwnedTupleGo_enum ho fun h2 he2 sb=>?_⟩
  have hTe:s.heap.objs.size≠e:=Nat.ne_of_gt (Heap.lt_size he)
  have hTi:s.heap.objs.size≠it:=by
   obtain ⟨oi,hoi,_⟩:=id hit
   exact Nat.ne_of_gt (Heap.lt_size hoi)
  have sb':Heap.SameBut e h' h2:=sb
  have kk:∀ b o,b≠e->b≠it->s.heap.get? b=some o->h2.get? b=some o:=fun b o h1 h2' q=>sb'.extBut b o h1 (hk b o h1 h2' q)
  have I1:Inv X pins σ H { s with heap:=h2,toks:=tk+1 }:=Inv.turn2 I kk fe fi
  have hp0:H s.heap.objs.size=none:=I.hok.fresh (Nat.le_refl _)
  have hT2:h2.get? s.heap.objs.size=some { cls:=.type "tuple",data:=.seq #[.int i tk,y] }:=sb'.extBut _ _ hTe hT
  have I2:Inv X pins σ (upd H s.heap.objs.size (.tup [.int i,x])) { s with heap:=h2,toks:=tk+1 }:=by
   refine Inv.track I1 hp0 I.sz (Nat.ne_of_gt I.lt) (fun z c h=>?_) (fun q hq2 z=>?_) ⟨Nat.le_of_ble_eq_true rfl,[.int i tk,y],.cons ⟨tk,rfl⟩ (.cons ru .nil),⟨_,hT2,rfl,0,rfl⟩⟩
   ·obtain ⟨v,hv⟩:=I.cell z c h
    exact Nat.ne_of_lt hv.lt
   ·have:=Heap.lt_size (I.pin q hq2).1
    rw [z] at this; exact absurd this (Nat.lt_irrefl _)
  refine ⟨.ref s.heap.objs.size,_,I2,rfl,⟨s.heap.objs.size,hp0,rfl,fun ys hys=>⟨x,by rw [I.tuple_inj hys hq]; exact hx,rfl⟩⟩,⟨⟨_,by simpa using he2⟩,hst.1.at fun o q=>sb'.extBut it o (Ne.symm hne) q⟩,fun b hb=>?_⟩
  have bT:b≠s.heap.objs.size:=by
   rcases List.mem_cons.mp hb with rfl | hb
   ·exact Ne.symm hTe
   ·rw [List.mem_singleton.mp hb]; exact Ne.symm hTi
  rw [yI bT]; exact (hf b hb).1
 done:=by
  intro X hP hw hK hc i pins s σ H E I hf st hg
  subst hP hw hK
  replace hc:=hc.resolve_right fun z=>z.1
  obtain ⟨⟨old,he⟩,hit⟩:=st
  obtain ⟨xs,hq,hx⟩:=hg
  obtain ⟨its,rv,p,hz⟩:=I.tuple hq
  have fi:=hf it (by simp)
  obtain ⟨f0,f1,f2,f3,f4,f5⟩:=fi
  have hl:=rv.length
  have hT:s.TypeIs (.ref e) "enumerate" := ⟨_,he,rfl⟩
  unfold pyNext
  refine wpAny_bind (wpAny_attempt (wpAny_callSpecial?_slot (name:=Str.ofString "__next__") hT F.slot_enumerate_next (wpAny_call_entry F.slot_enumerate_next hT F.entry_enumerate_next ?_ (F.args_enumerate_next_1 _))))
  show wpAny _ _ (field (.ref e) 2 >>= _) _ _ _
  refine wpAny_bind (wpAny_field he rfl (x:=.ref it) rfl ?_)
  refine wpAny_bind (aEF (I.ok.hd hc) hit p (by simp; omega) fun h' x he' hx'=>?_)
  obtain ⟨o,ho,hc'⟩:=hx'
  refine wpAny_bind (wpAny_isInstance (T := "StopIteration") (b:=true) ⟨o,ho,hc'⟩ isSubtype_stop ?_)
  exact wpAny_pure ⟨rfl,I.turned (t':=s.toks) (fun b o hb e=>he' b o hb e) f0 f1 f3 f4 f5⟩
 self:=fun _ _ s Q E st h=>by
  obtain ⟨⟨old,he⟩,hit⟩:=st
  exact wpAny_pyIter_enum he h
section
variable {X:Cx} {ρ:Rho} {a:Expr} {pos:Pos} {N:List Str} {sc:Scope} {ds:List D}
def eQI (K:PySem.W.Frag) (ta:TA):TI:=fun σ H R=>ta σ H fun vs H1=>∃ a,vs=[.ref a]/\(∃ xs,SqT K H1 a xs)/\R (Ite K a) H1
theorem eHM {es:List Expr} {x1:Nat} {tp p:Pos} {ta:TA} (hg:Gl X "enumerate") (hm:X.mg "enumerate" = none) (hl:PA X [a] ta) (hs:Pl a):PI X (.Tuple es x1 tp) (.Call (.Name "enumerate" p) [a] [] pos) (eQI X.K ta):=by
 intro pins s σ H R I h
 refine Call_ (aPW I hg hm (show bootBuiltins "enumerate" = some (.type "enumerate") by decide +kernel) (PyProof.Rows.callWith_type1 (thn (hl pos pins s σ H _ I h) fun us s1 ⟨vs,H1,I1,r1,q1⟩=>?_) (hs _ _) rfl))
 obtain ⟨l,rfl,⟨xs,hq⟩,q⟩:=q1
 obtain ⟨u,rfl,ru⟩:=aFV r1
 cases (show u=Value.ref l from ru)
 obtain ⟨its,rv,pt,hz⟩:=I1.tuple hq
 refine aWE pt fun h' he hi hsz kp=>?_
 have I2:Inv X pins σ H1 { s1 with heap:=h' }:=I1.kept (t':=s1.toks) kp
 refine wpAny_pyIter_enum he ?_
 have fr:∀ b,s1.heap.objs.size<=b->aVD X pins H1 b:=fun b hb=>I1.fpOk hb (I1.hok.fresh hb)
 refine ⟨s1.heap.objs.size+1,[s1.heap.objs.size+1,s1.heap.objs.size],_,_,H1,rfl,I2,aWX l _ _ (Nat.ne_of_gt (Nat.lt_succ_self _)),⟨⟨_,he⟩,hi⟩,fun b hb=>?_,q⟩
 rcases List.mem_cons.mp hb with rfl | hb
 ·exact fr _ (by omega)
 ·rw [List.mem_singleton.mp hb]; exact fr _ (Nat.le_refl _)
def aVY (ds:List D):List D:=(List.range ds.length).map fun (i:Nat)=>.tup [.int (i:Int),ds.getD i .non]
theorem aDK {i:Nat} {d:D} (h:(aVY ds)[i]? = some d):∃ e,ds[i]? = some e/\d = .tup [.int (i:Int),e]:=by
 unfold aVY at h
 rw [List.getElem?_map] at h
 by_cases hi:i < ds.length
 ·rw [List.getElem?_range hi] at h
  cases h
  exact ⟨ds[i],List.getElem?_eq_getElem hi,by show D.tup [D.int (i:Int),ds.getD i .non]=_; rw [List.getD_eq_getElem?_getD,List.getElem?_eq_getElem hi]; rfl⟩
 ·rw [List.getElem?_eq_none (by simpa using hi)] at h; cases h
theorem aDJ:(aVY ds).length=ds.length:=by simp [aVY]
theorem eMZ {K:PySem.W.Frag} {F:Hp} {l:Addr} {vs:List V} (hf:F l=some (.tup vs)) (r:RepL K F vs ds):eBJ K (Ite K l) F (aVY ds):=fun i F2 H2 s1 s2=>
 ⟨fun d hd=>by
  obtain ⟨e,he,rfl⟩:=aDK hd
  obtain ⟨v,hv,rv⟩:=r.get he
  have sq:SqT K H2 l vs:=SqT.of (s2 _ _ (s1 _ _ hf))
  refine ⟨⟨vs,v,sq,hv⟩,fun x H' y=>?_⟩
  obtain ⟨p,hp,rfl,y⟩:=y
  obtain ⟨v',hv',rfl⟩:=y vs sq
  rw [hv] at hv'; cases hv'
  exact ⟨_,(Ext.refl s2).grow hp,.tup yH (.cons (.int _) (.cons ((rv.mono s1).mono (yK (s2.free hp))) .nil))⟩,fun h=>⟨vs,SqT.of (s2 _ _ (s1 _ _ hf)),by rw [r.length]; rw [aDJ] at h; exact h⟩⟩
theorem aNT (t:At X N sc) {es:List Expr} {x1:Nat} {tp p:Pos} (bl:Blt X sc "enumerate" (.type "enumerate")) (h:EvE X ρ a (.tup ds)) (hs:Pl a:=by intro _ _; rfl):EvI X ρ (.Tuple es x1 tp) (.Call (.Name "enumerate" p) [a] [] pos) (aVY ds):=
 .of (eHM (vZ t bl.g) bl.m (zL yX vD (hs _ _)) hs) fun B F H σ R k q=>h B F H σ _ k fun v F' H' x r=>by
  cases r with
  | tup hf rl=>exact ⟨_,rfl,⟨_,SqT.of (x.sub _ _ hf)⟩,q _ F' H' x (eMZ hf rl)⟩
end
abbrev vB:List Value:=[.type "ValueError",.type "Exception",.type "BaseException",.type "object"]
def TrV (h base:Heap) (e C:Addr) (fl:Value):Prop:=
 ∃ (oe:Obj) (vs:Array Value) (T:Addr) (oT:Obj) (ts:Array Value),h.get? e=some oe/\oe.cls = .ref C/\oe.data = .fields vs/\vs[1]? = some (.ref T)/\vs[2]? = some .none/\base.get? T=none/\T≠e/\h.get? T=some oT/\oT.data = .fields ts/\ts[3]? = some fl
def eTF (base:Heap) (l:List Env) (e C:Addr) (fl:Value) (h:Heap):Prop:=base.StaysIn h/\base.get? e=none/\h.FunFrames base l/\TrV h base e C fl
structure Fly (P:Program) (w:World) (l:List Env) (H:Hp) (s:Shared) (H':Hp) (C:Addr) (e:Value) (s':Shared):Prop where
 ex:∃ (ea:Addr) (B:Heap),e = .ref ea/\eTF B l ea C .none s'.heap/\HOk P w H' B /\
  (∀ b o,s.heap.get? b=some o->H b=none->b ∉ frs l->B.get? b=some o)/\(∀ b o,s.heap.get? b=some o->b ∉ frs l->∃ o',B.get? b=some o')
 os:s'.os=s.os
 bare:AllBare s'.gens
 slot:∀ b o,s.heap.get? b=some o->H b=none->b∈frs l->∃ sl,s'.heap.get? b=some { o with slots:=sl }
 free:∀ b o,s.heap.get? b=some o->H b=none->H' b=none
 tups:∀ b xs,H b=some (.tup xs)->H' b=some (.tup xs)
 frzs:∀ b o u,H b=some (.frz o u)->H' b=some (.frz o u)
 tbls:∀ b ps,H b=some (.tbl ps)->∃ more,H' b=some (.tbl (ps++more))
inductive eBH (X:Cx) (m:Bool) (H:Hp) (s:Shared) (H':Hp) (C:Addr) (e:Value) (s':Shared):Prop where
 | fly:Fly X.prog X.w X.stack H s H' C e s'->eBH X m H s H' C e s'
 | made {ea:Addr} {vs:List Value}:m=true->H' = H->e = .ref ea->Heap.MadeExcOf s.heap s'.heap ea (.ref C) vs->s'.os=s.os->s'.gens=s.gens->eBH X m H s H' C e s'
def XP (X:Cx) (m:Bool) (pins:List (Addr × Obj)) (B:B0) (F:Hp) (ρ':Rho) (C:Addr) (e:Value) (s':Shared):Prop:=
 ∃ (σ1:St) (H1:Hp) (s1:Shared) (F' H':Hp),Inv X pins σ1 H1 s1/\Ok X.K B F' H' σ1 ρ'/\Same F F'/\eBH X m H1 s1 H' C e s'
section
variable {X:Cx} {m:Bool} {ρ ρ1 ρ':Rho} {e a b c:Expr} {es:List Expr} {d:D} {ds:List D} {pos p:Pos} {N:List Str} {sc:Scope} {C:Addr} {st:Stmt} {qU:List Stmt} {x:Str}
def spX (K:PySem.W.Frag) (C:Addr) (R:List D->Prop):Sp:=fun vs H _ E=>∃ F ds,Same F H/\RepL K F vs ds/\R ds/\∀ F' H',Ext ⟨F,H⟩ F' H'->E (.ref C) none H'
end
structure wGs (X:Cx) (es:List Expr) (vs:List V) (σ:St) (H:Hp) (Q:St->Hp->Prop):Prop where
 go:∀ (pins:List (Addr × Obj)) (s:Shared) (us:List Value),Inv X pins σ H s->Vals vs us->wpAny (model X.prog X.w) X.A (assignInOrder ((assignEach es X.env).map (·.2)) us) (fun _ s'=>∃ σ' H',Inv X pins σ' H' s'/\Q σ' H') X.xe s
theorem eLP {X:Cx} {es:List Expr}:PGs X es (wGs X es):=fun pins s _ _ _ us _ I r h=>h.go pins s us I r
def eOY (X:Cx) (ρ:Rho) (es:List Expr) (ds:List D) (ρ':Rho):Prop:=((∀ env,(assignEach es env).length=ds.length)/\∀ env,(assignEach es env).findIdx? (·.1)=none)/\∀ (B:B0) (F H:Hp) (σ:St) (vs:List V) (Q:St->Hp->Prop),Ok X.K B F H σ ρ->RepL X.K F vs ds ->
 (∀ F' H' σ',Ok X.K B F' H' σ' ρ'->Same F F'->Q σ' H')->wGs X es vs σ H Q
def PlG (e:Expr):Prop:=∀ (es:List Expr) (env:Env),assignEach (e :: es) env=(false,assign e env) :: assignEach es env
section
variable {X:Cx} {ρ ρ1 ρ':Rho} {e:Expr} {es:List Expr} {d:D} {ds:List D} {pos:Pos} {N:List Str} {sc:Scope}
theorem aDN:eOY X ρ [] [] ρ:=⟨⟨fun _=>rfl,fun _=>rfl⟩,fun B F H σ vs Q k r q=>.mk fun pins s us I ru=>by
 cases r
 exact aYO pins s σ H [] us Q I ru ⟨rfl,q F H σ k (.refl _)⟩⟩
theorem qM (h1:EvG X ρ e d ρ1) (h2:eOY X ρ1 es ds ρ') (hs:PlG e:=by intro _ _; rfl):eOY X ρ (e :: es) (d :: ds) ρ':=⟨⟨fun env=>by rw [hs es env,List.length_cons,List.length_cons,h2.1.1 env],fun env=>by
  rw [hs es env,List.findIdx?_cons]
  simp [h2.1.2 env]⟩,fun B F H σ vs Q k r q=>.mk fun pins s us I ru=>by
 cases r with
 | cons r1 r2=>
  refine aMU eJT eLP (by rw [hs es X.env]; rfl) pins s σ H _ us Q I ru ⟨_,_,rfl,?_⟩
  exact h1 B F H σ _ _ k r1 fun F1 H1 σ1 k1 s1=>h2.2 B F1 H1 σ1 _ _ k1 (r2.mono s1) fun F2 H2 σ2 k2 s2=>q F2 H2 σ2 k2 (s1.trans s2)⟩
theorem aGT (t:At X N sc) {k:Nat} (h:eOY X ρ es ds ρ'):EvG X ρ (.Tuple es k pos) (.tup ds) ρ':=
 .of (eEO (n:=ds.length) t.calm eLP (h.1.1 _) (h.1.2 _)) fun B F H σ v Q k r q=>by
  cases r with
  | tup hf rl=>exact ⟨_,_,rfl,SqT.of (k.sub _ _ hf),rl.length,h.2 B F H σ _ Q k rl q⟩
end
open AutoSeq1 (wpAny_loadPart')
section
variable {X:Cx} {m:Bool} {ρ ρ1 ρ':Rho} {e a b c:Expr} {es:List Expr} {d:D} {ds:List D} {pos p:Pos} {N:List Str} {sc:Scope} {C:Addr} {st:Stmt} {qU:List Stmt} {x:Str}
theorem eHQ:OpR X (binaryOp .Sub) (fun x y H Q=>∃ k j:Bool,x = .bl k/\y = .bl j/\Q (.int (b2i k - b2i j)) H):=by
 intro pins s σ H x y v u Q I rx ry h
 obtain ⟨k,j,rfl,rfl,q⟩:=h
 cases rx
 cases ry
 exact sub_bool ⟨.int (b2i k - b2i j),H,I.tok _,⟨_,rfl⟩,q⟩
theorem eIR {k j:Bool} (ha:EvE X ρ a (.bl k)) (hb:EvE X ρ b (.bl j)):EvE X ρ (.BinOp a .Sub b pos) (.int (b2i k - b2i j)):=
 .of (aPI eHQ yX yX) fun B F H σ Q k' q=>two ha hb k' fun x y F' H' x' rx ry=>by
  cases rx; cases ry
  exact ⟨k,j,rfl,rfl,q _ F' H' x' (.int _)⟩
end
end L2.EV
namespace HT
open PySem PyProof.Rows PySem.Spec
end HT
namespace L2.EV
open PySem PySem.Spec PyProof.Rows
def del (F:Hp) (p:Addr):Hp:=fun a=>if a=p then none else F a
end L2.EV
namespace L2
open PySem PySem.Spec PyProof.Rows
end L2
namespace L2.EV
open PySem PySem.Spec PyProof.Rows
section
variable {prog:Program} {w:World} {A:Around} {E:Value->Shared->Prop} {s:Shared} {it d:Addr} {i n ep:Nat} {es:Array DictEntry} {e:DictEntry} {o:Obj}
theorem aWA {Q:Option Value->Shared->Prop}
  (hit:s.heap.IsKeyIter it d i n ep) (hd:s.heap.get? d=some o) (ho:o.data = .dict es ep) (hn:es.size=n) (he:es[i]? = some e)
  (hQ:∀ h',h'.IsKeyIter it d (i+1) n ep->Heap.SameBut it s.heap h'->Q (some e.key) { s with heap:=h' }):wpAny (model prog w) A (pyNext (.ref it)) Q E s:=by
 have hT:s.TypeIs (.ref it) "dict_keyiterator" := hit.typeIs
 obtain ⟨⟨cl,di,da,sl⟩,h1,h2,h3⟩:=id hit
 replace h2:cl=_:=h2
 replace h3:da=_:=h3
 subst h2 h3
 unfold pyNext
 refine wpAny_bind (wpAny_attempt (wpAny_callSpecial?_slot (name:=Str.ofString "__next__") hT F.slot_dict_keyiterator_next (wpAny_call_entry F.slot_dict_keyiterator_next hT F.entry_dict_keyiterator_next ?_ (F.args_dict_keyiterator_next_1 _))))
 show wpAny _ _ (Builtin.Dict_items.slot0 "__next__" { pos:=[Value.ref it] } >>= _) _ _ s
 refine wpAny_bind (wpAny_of_eq (a:=Value.ref it) (by rfl) ?_)
 show wpAny _ _ (((typeNameOfWhole (.ref it) >>= _) >>= _) >>= _) _ _ s
 refine wpAny_bind (wpAny_bind (wpAny_bind (wpAny_typeNameOfWhole_keyiter hT ?_)))
 refine wpAny_pure ?_
 refine wpAny_bind (wpAny_fieldsOf h1 rfl ?_)
 show wpAny _ _ (Builtin.Dict_items.addrOf (.ref d) >>= _) _ _ s
 refine wpAny_bind (wpAny_of_eq (a:=d) (by rfl) ?_)
 refine wpAny_bind (wpAny_dictEntries hd ho ?_)
 dsimp only
 rw [if_neg (by rw [hn]; simp)]
 refine wpAny_bind (wpAny_of_eq (a:=d) (by rfl) ?_)
 refine wpAny_bind (wpAny_dictEpoch hd ho ?_)
 rw [if_neg (by simp)]
 refine wpAny_pure ?_
 dsimp only
 rw [if_neg (by omega),Int.toNat_natCast,he]
 dsimp only
 show wpAny _ _ ((typeNameOfWhole (.ref it) >>= _) >>= _) _ _ s
 refine wpAny_bind (wpAny_bind (wpAny_typeNameOfWhole_keyiter hT ?_))
 refine wpAny_pure ?_
 refine wpAny_bind (wpAny_isOneOf_keyiter hT ?_)
 refine wpAny_bind (wpAny_setField h1 rfl (show 1 < 4 by decide) ?_)
 show wpAny _ _ _ _ _ { s with heap:=s.heap.update it (Obj.mapFields fun x_1=>x_1.setIfInBounds 1 (rawInt (i+1))) }
 have e2:=Heap.get?_update_self (Obj.mapFields fun x_1=>x_1.setIfInBounds 1 (rawInt (i+1))) h1 (by rfl)
 have hT':Shared.TypeIs { s with heap:=s.heap.update it (Obj.mapFields fun x_1=>x_1.setIfInBounds 1 (rawInt (i+1))) } (.ref it) "dict_keyiterator" := ⟨_,e2,rfl⟩
 refine wpAny_bind (wpAny_holding ?_)
 show wpAny _ _ (Builtin.Dict_items.isOneOf (.ref it) ["dict_keyiterator", "dict_reversekeyiterator"] >>= _) _ _ _
 refine wpAny_bind (wpAny_isOneOf_keyiter hT' ?_)
 rw [if_pos (by decide)]
 refine wpAny_pure ?_
 refine wpAny_pure ⟨_,rfl,?_⟩
 refine wpAny_pure ?_
 refine hQ _ ⟨_,e2,rfl,rfl⟩ ⟨Heap.size_update _ _ _,fun b hb=>Heap.get?_update_other _ _ (Ne.symm hb)⟩
theorem eAM {Q:Option Value->Shared->Prop} (hh:A.handled=none)
  (hit:s.heap.IsKeyIter it d i n ep) (hd:s.heap.get? d=some o) (ho:o.data = .dict es ep) (hn:es.size=n) (he:es[i]? = none)
  (hQ:∀ h',Heap.ExtBut it s.heap h'->Q none { s with heap:=h' }):wpAny (model prog w) A (pyNext (.ref it)) Q E s:=by
 have hT:s.TypeIs (.ref it) "dict_keyiterator" := hit.typeIs
 obtain ⟨⟨cl,di,da,sl⟩,h1,h2,h3⟩:=id hit
 replace h2:cl=_:=h2
 replace h3:da=_:=h3
 subst h2 h3
 unfold pyNext
 refine wpAny_bind (wpAny_attempt (wpAny_callSpecial?_slot (name:=Str.ofString "__next__") hT F.slot_dict_keyiterator_next (wpAny_call_entry F.slot_dict_keyiterator_next hT F.entry_dict_keyiterator_next ?_ (F.args_dict_keyiterator_next_1 _))))
 show wpAny _ _ (Builtin.Dict_items.slot0 "__next__" { pos:=[Value.ref it] } >>= _) _ _ s
 refine wpAny_bind (wpAny_of_eq (a:=Value.ref it) (by rfl) ?_)
 show wpAny _ _ (((typeNameOfWhole (.ref it) >>= _) >>= _) >>= _) _ _ s
 refine wpAny_bind (wpAny_bind (wpAny_bind (wpAny_typeNameOfWhole_keyiter hT ?_)))
 refine wpAny_pure ?_
 refine wpAny_bind (wpAny_fieldsOf h1 rfl ?_)
 show wpAny _ _ (Builtin.Dict_items.addrOf (.ref d) >>= _) _ _ s
 refine wpAny_bind (wpAny_of_eq (a:=d) (by rfl) ?_)
 refine wpAny_bind (wpAny_dictEntries hd ho ?_)
 dsimp only
 rw [if_neg (by rw [hn]; simp)]
 refine wpAny_bind (wpAny_of_eq (a:=d) (by rfl) ?_)
 refine wpAny_bind (wpAny_dictEpoch hd ho ?_)
 rw [if_neg (by simp)]
 refine wpAny_pure ?_
 dsimp only
 rw [if_neg (by omega),Int.toNat_natCast,he]
 dsimp only
 show wpAny _ _ ((typeNameOfWhole (.ref it) >>= _) >>= _) _ _ s
 refine wpAny_bind (wpAny_bind (wpAny_typeNameOfWhole_keyiter hT ?_))
 refine wpAny_pure ?_
 refine wpAny_bind (wpAny_setField h1 rfl (show 0 < 4 by decide) ?_)
 show wpAny _ _ _ _ _ { s with heap:=s.heap.update it (Obj.mapFields fun x_1=>x_1.setIfInBounds 0 Value.none) }
 refine wpAny_bind ?_
 simp only [newExc,newTuple]
 refine wpAny_bind (wpAny_newObj_type ?_ (by size_fits))
 refine wpAny_bind (m:=firstArgMember _ _) (wpAny_of_eq (a:=Value.none) (by first | rfl | (simp only [firstArgMember]; rfl)) ?_)
 refine wpAny_newObj_type ?_ (by size_fits)
 simp only [raiseNew]
 refine wpAny_bind (wpAny_handled ?_)
 rw [show A.in1.handled=none from hh]
 dsimp only
 refine wpAny_throw ?_
 refine wpAny_bind (wpAny_isInstance (T := "StopIteration") (b:=true) ⟨_,Heap.get?_push_size _ rfl,rfl⟩ isSubtype_stop ?_)
 refine wpAny_pure (hQ _ fun b o hb q=>?_)
 exact Heap.get?_push_of_some _ (Heap.get?_push_of_some _ (by rw [Heap.get?_update_other _ _ (Ne.symm hb)]; exact q))
theorem eQO {Q:Value->Shared->Prop} (hs:(d == sysModules)=false) (hd:s.heap.get? d=some o) (hx:o.ExactDict) (ho:o.data = .dict es ep)
  (hQ:Q (.ref s.heap.objs.size) { s with heap:=s.heap.push { cls:=.type "dict_keyiterator",data:=.fields #[.ref d,rawInt 0,rawInt es.size,rawInt ep] } }):wpAny (model prog w) A (pyIter (.ref d)) Q E s:=by
 have hT:s.TypeIs (.ref d) "dict" := ⟨o,hd,hx.1⟩
 refine wpAny_pyIter_slot hT F.slot_dict_iter (wpAny_call_entry F.slot_dict_iter hT F.entry_dict_iter ?_ (F.args_dict_iter_1 _))
 unfold Builtin.«dict.__iter__»
 show wpAny _ _ ((Builtin.Dict.notOrdered "__iter__" { pos:=[Value.ref d] } >>= _) >>= _) _ _ s
 refine wpAny_bind (wpAny_bind ?_)
 unfold Builtin.Dict.notOrdered
 rw [if_pos (by decide)]
 refine wpAny_bind (wpAny_typeOf hT ?_)
 rw [if_neg (by decide)]
 refine wpAny_pure ?_
 refine wpAny_bind (wpAny_of_eq (a:=(Value.ref d,[])) (by rfl) ?_)
 refine wpAny_pure ?_
 refine wpAny_bind (wpAny_of_eq (a:=d) (by rfl) ?_)
 unfold Builtin.Dict.showsAll
 rw [if_neg (by rw [hs]; decide)]
 refine wpAny_bind (wpAny_pure ?_)
 refine wpAny_bind (wpAny_dictEntries hd ho ?_)
 refine wpAny_bind (wpAny_dictEpoch hd ho ?_)
 refine wpAny_bind ?_
 unfold newFields
 refine wpAny_newObj_type ?_ (by size_fits)
 refine wpAny_pure ⟨_,rfl, "dict_keyiterator",_,⟨_,Heap.get?_push_size _ rfl,rfl⟩,by rfl,hQ⟩
end
abbrev KVs:=List (List Int × Int)
abbrev KXs:=List (List Int × Addr × Int)
def vQ (kvs:KVs) (k:List Int):Option Int:=(kvs.find? fun p=>decide (p.1=k)).map (·.2)
def aEO (kvs:KVs) (k:List Int) (n:Int):KVs:=if (vQ kvs k).isSome=true then kvs.map (fun p=>if p.1=k then (p.1,n) else p) else kvs++[(k,n)]
def stX (xs:KXs) (k:List Int) (b:Addr) (n:Int):KXs:=if (xs.find? fun p=>decide (p.1=k)).isSome=true then xs.map (fun p=>if p.1=k then (p.1,p.2.1,n) else p) else xs++[(k,b,n)]
abbrev kv (x:List Int × Addr × Int):List Int × Int:=(x.1,x.2.2)
theorem aRF (xs:KXs) (k:List Int):vQ (xs.map kv) k=(xs.find? fun p=>decide (p.1=k)).map (·.2.2):=by
 unfold vQ
 induction xs with
 | nil=>rfl
 | cons x xs ih=>
  rw [List.map_cons,List.find?_cons,List.find?_cons]
  by_cases h:x.1=k
  ·simp [kv,h]
  ·have h':decide ((kv x).1=k)=false:=by simp [kv,h]
   have h2:decide (x.1=k)=false:=by simp [h]
   rw [h']; exact ih
theorem eHE (xs:KXs) (k:List Int) (b:Addr) (n:Int):aEO (xs.map kv) k n=(stX xs k b n).map kv:=by
 unfold aEO stX
 rw [aRF,Option.isSome_map]
 by_cases h:(xs.find? fun p=>decide (p.1=k)).isSome=true
 ·rw [if_pos h,if_pos h,List.map_map,List.map_map]
  refine List.map_congr_left fun x _=>?_
  show (if x.1=k then (x.1,n) else kv x)=kv (if x.1=k then (x.1,x.2.1,n) else x)
  by_cases e:x.1=k
  ·rw [if_pos e,if_pos e]
  ·rw [if_neg e,if_neg e]
 ·rw [if_neg h,if_neg h,List.map_append]; rfl
abbrev KPair:KXs->List (List Int × Addr × Value)->Prop:=Paired fun (x:List Int × Addr × Int) (y:List Int × Addr × Value)=>y.1=x.1/\y.2.1=x.2.1/\RelV (.int x.2.2) y.2.2
theorem KPair.at {xs:KXs} {ys:List (List Int × Addr × Value)} (r:KPair xs ys) (k:List Int):((xs.find? fun p=>decide (p.1=k))=none->atKey ys k=none)/\∀ x,(xs.find? fun p=>decide (p.1=k))=some x->∃ v,atKey ys k=some (x.2.1,v)/\RelV (.int x.2.2) v:=by
 induction r with
 | nil=>exact ⟨fun _=>rfl,fun x h=>by cases h⟩
 | @cons p q ps qs h t ih=>
  obtain ⟨h1,h2,h3⟩:=h
  rw [List.find?_cons]
  by_cases e:p.1=k
  ·have e':decide (p.1=k)=true:=by simp [e]
   rw [e']
   refine ⟨fun z=>(by cases z),fun x z=>?_⟩
   cases z
   refine ⟨q.2.2,?_,h3⟩
   have e2:decide (q.1=k)=true:=by simp [h1,e]
   show (List.find? _ (q :: qs)).map _=_
   rw [List.find?_cons,e2]
   show some q.2=some (p.2.1,q.2.2)
   rw [<- h2]
  ·have e':decide (p.1=k)=false:=by simp [e]
   have e2:decide (q.1=k)=false:=by simp [h1,e]
   rw [e']
   have e3:atKey (q :: qs) k=atKey qs k:=by
    show (List.find? _ (q :: qs)).map _=_
    rw [List.find?_cons,e2]; rfl
   rw [e3]; exact ih
theorem KPair.isSome {xs:KXs} {ys:List (List Int × Addr × Value)} (r:KPair xs ys) (k:List Int):(atKey ys k).isSome=(xs.find? fun p=>decide (p.1=k)).isSome:=by
 obtain ⟨h1,h2⟩:=r.at k
 cases q:(xs.find? fun p=>decide (p.1=k)) with
 | none=>rw [h1 q]; rfl
 | some x=>obtain ⟨v,e,_⟩:=h2 x q; rw [e]; rfl
theorem KPair.snoc {p:List Int × Addr × Int} {q:List Int × Addr × Value} (h:q.1=p.1/\q.2.1=p.2.1/\RelV (.int p.2.2) q.2.2):∀ {xs:KXs} {ys:List (List Int × Addr × Value)},KPair xs ys->KPair (xs++[p]) (ys++[q])
 | _,_,.nil=>.cons h .nil
 | _,_,.cons a t=>.cons a (KPair.snoc h t)
theorem KPair.put {xs:KXs} {ys:List (List Int × Addr × Value)} (r:KPair xs ys) (k:List Int) (b:Addr) {n:Int} {u:Value} (ru:RelV (.int n) u):KPair (stX xs k b n) (storedH ys k b u):=by
 unfold stX storedH
 rw [r.isSome k]
 by_cases h:(xs.find? fun p=>decide (p.1=k)).isSome=true
 ·rw [if_pos h,if_pos h]
  clear h
  induction r with
  | nil=>exact .nil
  | @cons p q ps qs h t ih=>
   obtain ⟨h1,h2,h3⟩:=h
   rw [List.map_cons,List.map_cons]
   refine .cons ?_ ih
   unfold putAt
   by_cases e:p.1=k
   ·rw [if_pos e,if_pos (h1.trans e)]; exact ⟨h1,h2,ru⟩
   ·rw [if_neg e,if_neg (fun z=>e (h1.symm.trans z))]; exact ⟨h1,h2,h3⟩
 ·rw [if_neg h,if_neg h]
  exact KPair.snoc ⟨rfl,rfl,ru⟩ r
theorem KPair.len {xs:KXs} {ys:List (List Int × Addr × Value)} (r:KPair xs ys):xs.length=ys.length:=by
 induction r with
 | nil=>rfl
 | cons h t ih=>rw [List.length_cons,List.length_cons,ih]
theorem aXJ (xs:KXs) (k:List Int) (b:Addr) (n:Int):(stX xs k b n).length<=xs.length+1:=by
 unfold stX
 split
 ·rw [List.length_map]; omega
 ·rw [List.length_append,List.length_singleton]; omega
theorem DicR.put {F:Hp} {kvs:KVs} {xs:KXs} {k:List Int} {b:Addr} (r:DicR F kvs xs) (hb:F b=some (.tup (k.map V.int))) (n:Int):DicR F (aEO kvs k n) (stX xs k b n):=by
 refine ⟨?_,fun x hx=>?_⟩
 ·rw [r.1]; exact eHE xs k b n
 ·unfold stX at hx
  split at hx
  ·obtain ⟨y,hy,rfl⟩:=List.mem_map.mp hx
   by_cases e:y.1=k
   ·rw [if_pos e]; exact r.2 y hy
   ·rw [if_neg e]; exact r.2 y hy
  ·rcases List.mem_append.mp hx with h | h
   ·exact r.2 x h
   ·rw [List.mem_singleton] at h; subst h; exact hb
def DcRd (H:Hp) (a:Addr) (xs:KXs):Prop:=H a=some (.ext (aAX a xs))\/∃ ob,H a=some (.frz ob (.ext (aAX a xs)))
theorem DcRd.mono {H H':Hp} {a:Addr} {xs:KXs} (s:Same H H') (h:DcRd H a xs):DcRd H' a xs:=h.elim (fun z=>.inl (s _ _ z)) fun ⟨ob,z⟩=>.inr ⟨ob,s _ _ z⟩
theorem items_int {P:Program} {w:World}:∀ {ks:List Int} {us:List Value},Vals (ks.map V.int) us->ItemsAre (intKind P w) ks us
 | [],_,r=>by rw [List.map_nil] at r; cases r; exact .nil
 | k :: ks,_,r=>by
  rw [List.map_cons] at r
  cases r with
  | cons h t=>
   obtain ⟨tk,rfl⟩:=(show ∃ t,_=Value.int k t from h)
   exact .cons (by show Value.isInt k (.int k tk)=true; simp [Value.isInt]) (items_int t)
section
variable {X:Cx} {pins:List (Addr × Obj)} {σ:St} {H:Hp} {s:Shared} {a b:Addr} {xs:KXs}
theorem eKG (I:Inv X pins σ H s) {k:List Int} (e:H b=some (.tup (k.map V.int))):(tupleKind (intKind X.prog X.w)).is s.heap k b:=by
 obtain ⟨_,its,r,o,h1,h2,n,h3⟩:=(show ObjOk X.prog X.w H s.heap b (.tup (k.map V.int)) from I.hok b _ e)
 exact ⟨o,its.toArray,n,h1,h2,h3,by simpa using items_int r⟩
theorem DcRd.is (I:Inv X pins σ H s) (h:DcRd H a xs):aAX a xs s.heap:=by
 rcases h with e | ⟨ob,e⟩
 ·exact (show ObjOk X.prog X.w H s.heap a (.ext (aAX a xs)) from I.hok a _ e).1
 ·exact (show ObjOk X.prog X.w H s.heap a (.frz ob (.ext (aAX a xs))) from I.hok a _ e).2.1
theorem aJR (I:Inv X pins σ H s) (h:aAX a xs s.heap) (hk:∀ x∈xs,H x.2.1=some (.tup (x.1.map V.int))):xs.length<=sizeLine/\(a == sysModules)=false/\∃ ys,KPair xs ys/\s.heap.DictOfH (tupleKind (intKind X.prog X.w)) a ys:=by
 obtain ⟨z,hd,o,ho,hx,es,ep,ys,h1,h2,r,nd⟩:=h
 refine ⟨z,hd,ys,r,o,es,ep,ho,hx,h1,h2 _ _,fun y hy=>?_,nd⟩
 have all:∀ {l:KXs} {m:List (List Int × Addr × Value)},KPair l m->(∀ x∈l,H x.2.1=some (.tup (x.1.map V.int)))->∀ y∈m,(tupleKind (intKind X.prog X.w)).is s.heap y.1 y.2.1:=by
  intro l m q
  induction q with
  | nil=>intro _ y hy; exact nomatch hy
  | @cons p q ps qs hq t ih=>
   intro hl y hy
   rcases List.mem_cons.mp hy with e | hy
   ·subst e
    rw [hq.1,hq.2.1]
    exact eKG I (hl p (by simp))
   ·exact ih (fun x hx=>hl x (by simp [hx])) y hy
 exact all r hk y hy
theorem aUU {P:Program} {w:World} {h:Heap} {ys:List (List Int × Addr × Value)} (z:xs.length<=sizeLine) (hd:(a == sysModules)=false) (r:KPair xs ys) (dd:h.DictOfH (tupleKind (intKind P w)) a ys):aAX a xs h:=by
 obtain ⟨o,es,ep,h1,h2,h3,h4,h5,h6⟩:=dd
 exact ⟨z,hd,o,h1,h2,es,ep,ys,h3,fun _ _=>h4,r,h6⟩
theorem aQH {P:Program} {w:World} {H':Hp} {h:Heap} (z:aAX a xs h):ObjOk P w H' h a (.ext (aAX a xs)):=by
 refine ⟨z,let ⟨_,_,o,h1,_⟩:=z; ⟨o,h1⟩,fun h1 h2 y k=>?_⟩
 obtain ⟨q1,q2,o,h3,h4⟩:=y
 exact ⟨q1,q2,o,k o h3,h4⟩
theorem Inv.frzD (I:Inv X pins σ H s) (h:H a=some (.ext (aAX a xs))):∃ ob,Inv X pins σ (upd H a (.frz ob (.ext (aAX a xs)))) s:=by
 have z:=DcRd.is I (.inl h)
 obtain ⟨q1,q2,ob,h1,h2⟩:=id z
 refine ⟨ob,?_⟩
 exact I.write (x:=a) (e:=a) (t':=s.toks) (by rw [h]; exact True.intro) (.inl rfl) (fun b u _ q=>q) ⟨ob,h1⟩ ⟨h1,aQH z⟩
end
section
variable {K:PySem.W.Frag} {B:B0} {F H:Hp} {σ:St} {ρ:List Sl} {p:Addr} {kvs kvs':KVs} {es es':KXs}
def eOK (σ:St) (ρ:List Sl) (p:Addr):Prop:=∀ (i:Nat) xs,ρ[i]? = some (.dct xs)->σ[i]? ≠ some (some (.ref p))
theorem Ok.noDct (k:Ok K B F H σ ρ) (hp:H p=none):eOK σ ρ p:=fun i xs e q=>by
 obtain ⟨a,vs,h1,h2,_⟩:=k.dic.dcts i xs e
 rw [h1] at q; cases q
 rw [hp] at h2; cases h2
theorem aCU {i:Nat} {s:Sl} (j:Nat) (t:Sl) (h:(ρ.set i s)[j]? = some t) (hn:t≠s):i≠j/\ρ[j]? = some t:=by
 by_cases e:i=j
 ·subst e
  rw [List.getElem?_set_self'] at h
  cases z:ρ[i]? with
  | none=>rw [z] at h; cases h
  | some w=>rw [z] at h; exact absurd (Option.some.inj h).symm hn
 ·rw [List.getElem?_set_ne e] at h; exact ⟨e,h⟩
theorem Ok.setDct (k:Ok K B F H σ ρ) (i:Nat) (hp:H p=some (.ext (aAX p es))) (hf:F p=none) (hb:B.H p=none) (hn:eOK σ ρ p) (r:DicR F kvs es):Ok K B F H (σ.set i (some (.ref p))) (ρ.set i (.dct kvs)):=by
 refine ⟨k.toExt,by rw [List.length_set,List.length_set,k.len],fun j d q=>?_,fun j xs q=>?_,fun j l xs ys a q1 q2 q3 q4=>?_,fun j ks q=>?_,fun j l xs ys a q1 q2 q3 q4=>?_⟩
 ·obtain ⟨n,q'⟩:=aCU j _ q (fun z=>nomatch z)
  rw [List.getElem?_set_ne n]; exact k.vals j d q'
 ·obtain ⟨n,q'⟩:=aCU j _ q (fun z=>nomatch z)
  rw [List.getElem?_set_ne n]; exact k.owns j xs q'
 ·obtain ⟨n1,q1⟩:=aCU j _ q1 (fun z=>nomatch z)
  obtain ⟨n2,q2⟩:=aCU l _ q2 (fun z=>nomatch z)
  rw [List.getElem?_set_ne n1] at q3
  rw [List.getElem?_set_ne n2] at q4
  exact k.dist j l xs ys a q1 q2 q3 q4
 ·by_cases h:i=j
  ·subst h
   rw [List.getElem?_set_self'] at q
   cases z:ρ[i]? with
   | none=>rw [z] at q; cases q
   | some w=>
    rw [z] at q; cases q
    have hi:i < σ.length:=by rw [k.len]; exact (List.getElem?_eq_some_iff.mp z).1
    exact ⟨p,es,by rw [List.getElem?_set_self hi],hp,hf,hb,r⟩
  ·rw [List.getElem?_set_ne h] at q ⊢
   exact k.dic.dcts j ks q
 ·by_cases n1:i=j
  ·by_cases n2:i=l
   ·exact n1.symm.trans n2
   ·subst n1
    rw [List.getElem?_set_ne n2] at q2 q4
    have hi:i < σ.length:=by
     have:=(List.getElem?_eq_some_iff.mp q3).1
     rw [List.length_set] at this; exact this
    rw [List.getElem?_set_self hi] at q3
    cases q3
    exact absurd q4 (hn l ys q2)
  ·by_cases n2:i=l
   ·subst n2
    rw [List.getElem?_set_ne n1] at q1 q3
    have hi:i < σ.length:=by
     have:=(List.getElem?_eq_some_iff.mp q4).1
     rw [List.length_set] at this; exact this
    rw [List.getElem?_set_self hi] at q4
    cases q4
    exact absurd q3 (hn j xs q1)
   ·rw [List.getElem?_set_ne n1] at q1 q3
    rw [List.getElem?_set_ne n2] at q2 q4
    exact k.dic.distD j l xs ys a q1 q2 q3 q4
theorem Ok.chgDct {i:Nat} (k:Ok K B F H σ ρ) (hi:ρ[i]? = some (.dct kvs)) (hs:σ[i]? = some (some (.ref p))) (r:DicR F kvs' es'):Ok K B F (upd H p (.ext (aAX p es'))) σ (ρ.set i (.dct kvs')):=by
 obtain ⟨a,us,h1,h2,h3,h4,h5⟩:=k.dic.dcts i kvs hi
 rw [h1] at hs
 cases hs
 have hlt:i < ρ.length:=(List.getElem?_eq_some_iff.mp hi).1
 refine ⟨⟨fun b u q=>?_,fun b u q=>?_,k.sf,k.nw⟩,by rw [List.length_set,k.len],fun j d q=>?_,fun j xs q=>?_,fun j l xs ys a q1 q2=>?_,fun j ks q=>?_,fun j l xs ys a q1 q2 q3 q4=>?_⟩
 ·have ne:b≠p:=fun z=>by subst z; rw [h3] at q; cases q
  rw [yI ne]; exact k.sub b u q
 ·have ne:b≠p:=fun z=>by subst z; rw [h4] at q; cases q
  rw [yI ne]; exact k.sh b u q
 ·exact k.vals j d (aCU j _ q (fun z=>nomatch z)).2
 ·obtain ⟨b,vs,g1,g2,g3⟩:=k.owns j xs (aCU j _ q (fun z=>nomatch z)).2
  have ne:b≠p:=fun z=>by subst z; rw [h2] at g2; cases g2
  exact ⟨b,vs,g1,by rw [yI ne]; exact g2,g3⟩
 ·exact k.dist j l xs ys a (aCU j _ q1 (fun z=>nomatch z)).2 (aCU l _ q2 (fun z=>nomatch z)).2
 ·by_cases h:i=j
  ·subst h
   rw [List.getElem?_set_self hlt] at q; cases q
   exact ⟨p,es',h1,yH,h3,h4,r⟩
  ·rw [List.getElem?_set_ne h] at q
   obtain ⟨b,us',g1,g2,g3,g4,g5⟩:=k.dic.dcts j ks q
   have ne:b≠p:=fun z=>by subst z; exact h (k.dic.distD i j kvs ks b hi q h1 g1)
   exact ⟨b,us',g1,by rw [yI ne]; exact g2,g3,g4,g5⟩
 ·have own:∀ (m:Nat) ys,(ρ.set i (.dct kvs'))[m]? = some (.dct ys)->∃ zs,ρ[m]? = some (.dct zs):=fun m ys q=>by
   by_cases h:i=m
   ·subst h; exact ⟨kvs,hi⟩
   ·rw [List.getElem?_set_ne h] at q; exact ⟨ys,q⟩
  obtain ⟨y1,z1⟩:=own j xs q1
  obtain ⟨y2,z2⟩:=own l ys q2
  exact k.dic.distD j l _ _ a z1 z2 q3 q4
end
def eOL (X:Cx) (ρ:Rho) (e:Expr) (kvs:KVs):Prop:=∀ (B:B0) (F H:Hp) (σ:St) (Q:VK),Ok X.K B F H σ ρ->(∀ a xs F' H',Ext ⟨F,H⟩ F' H'->DcRd H' a xs->DicR F' kvs xs->Q (.ref a) H')->wE X e σ H Q
def EvDn (X:Cx) (ρ:Rho) (e:Expr) (kvs:KVs):Prop:=∀ (B:B0) (F H:Hp) (σ:St) (Q:VK),Ok X.K B F H σ ρ->(∀ p xs F' H',Ext ⟨F,H⟩ F' H'->H p=none->H' p=some (.ext (aAX p xs))->F' p=none->DicR F' kvs xs->Q (.ref p) H')->wE X e σ H Q
section
variable {X:Cx} {ρ ρ':Rho} {e a b c:Expr} {d:D} {pos p:Pos} {N:List Str} {sc:Scope} {x y:Str} {kvs kvs':KVs} {sts:List Stmt} {o:Out} {k:List Int} {n:Int}
theorem EvE.dr (h:EvE X ρ e (.dic kvs)):eOL X ρ e kvs:=fun B F H σ Q k q=>h B F H σ Q k fun v F' H' x' r=>by
 cases r with
 | dic hf r=>exact q _ _ F' H' x' (.inr ⟨_,x'.sub _ _ hf⟩) r
theorem eFS (t:At X N sc) (i:Nat) (hr:ρ[i]? = some (.dct kvs)) (hN:N[i]? = some x:=by rfl) (hv:aDQ sc x=true:=by rfl) (hx:qK x=true:=by rfl):eOL X ρ (.Name x pos) kvs:=fun B F H σ Q k q=>.mk fun pins s I=>by
 obtain ⟨a,es,h1,h2,h3,h4,h5⟩:=k.dic.dcts i kvs hr
 exact aVO t hN hv hx pins s σ H Q I ⟨_,h1,q a es F H (.refl k.sub) (.inl h2) h5⟩
theorem Ext.freezeD {F H F' H':Hp} {q:Addr} {xs:KXs} {ob:Obj} (x:Ext ⟨F,H⟩ F' H') (h0:H q=none) (hf:F' q=none):Ext ⟨F,H⟩ (upd F' q (.frz ob (.ext (aAX q xs)))) (upd H' q (.frz ob (.ext (aAX q xs)))):=
 ⟨aMA x.sub,fun b u z=>by
  have ne:b≠q:=fun w=>by subst w; have z':H b=some u:=z; rw [h0] at z'; cases z'
  rw [yI ne]; exact x.sh b u z,x.sf.trans (yK hf),fun b z=>by
  by_cases h:b=q
  ·subst h; exact .inr h0
  ·rw [yI h] at z; exact x.nw b z⟩
theorem EvDn.toE (h:EvDn X ρ e kvs):EvE X ρ e (.dic kvs):=fun B F H σ Q k q=>.mk fun pins s I=>
 thn (h B F H σ (fun v H'=>∃ p xs F',v = .ref p/\Ext ⟨F,H⟩ F' H'/\H p=none/\H' p=some (.ext (aAX p xs))/\F' p=none/\DicR F' kvs xs) k (fun p xs F' H' x' h0 h1 h2 r=>⟨p,xs,F',rfl,x',h0,h1,h2,r⟩) pins s I) fun u s1 ⟨v,H',I1,rv,p,xs,F',ev,x',h0,h1,h2,r⟩=>by
  subst ev
  obtain ⟨ob,I2⟩:=Inv.frzD I1 h1
  exact ⟨_,_,I2,rv,q _ _ _ (x'.freezeD h0 h2) (.dic yH (r.mono (yK h2)))⟩
theorem eAI:EvDn X ρ (.Dict [] [] pos) []:=fun B F H σ Q k q=>.mk fun pins s I=>by
 have hn:=I.hok.fresh (Nat.le_refl s.heap.objs.size)
 have hb:sysModules < s.heap.objs.size:=Nat.lt_trans (by decide) (show mainGlobals < s.heap.objs.size from (I.mod.glob.keeps I.bk).lt)
 have z:aAX s.heap.objs.size [] (s.heap.push { cls:=.type "dict",data:=.dict #[] }):=aUU (P:=X.prog) (w:=X.w) (Nat.zero_le _) (beq_eq_false_iff_ne.mpr (Ne.symm (Nat.ne_of_lt hb))) .nil (Heap.DictOfH.new s.heap)
 refine wpAny_Dict_empty ⟨.ref s.heap.objs.size,_,I.laid (a:=s.heap.objs.size) (o:=.ext (aAX s.heap.objs.size [])) (t':=s.toks) (fun _ _ q=>Heap.get?_push_of_some _ q) (Nat.le_refl _) (aQH z),rfl,?_⟩
 exact q _ [] F _ ⟨k.sub.trans (yK hn),yK hn,.refl _,fun _ z=>.inl z⟩ hn yH (k.sub.free hn) ⟨rfl,fun _ z=>nomatch z⟩
theorem eDY [FnT X] (t:At X N sc) (i:Nat) {pos':Pos} (h:EvDn X ρ e kvs) (hi:N[i]? = some x:=by rfl) (hx:aRB sc x=true:=by rfl) (hs:swapsWith e (some (.Name x pos')) pos.line X.env=pure false:=by rfl) :
  EvS X ρ (.Assign [.Name x pos'] e pos) (.nx (ρ.set i (.dct kvs))):=
 .of (aIM (i:=i) t.nd (t.ix hi) (t.loc hx) yX hs hfT) fun B F H σ E k q=>h B F H σ _ k fun p vs F' H' x' h0 hp hf r=>
  q F' H' _ ((k.ext x').setDct i hp hf (k.sh.free h0) (by
   have hd:=k.noDct h0
   exact hd) r) x'.sf
theorem aZX (t:At X N sc) (ha:eOL X ρ a kvs) (hb:EvE X ρ b (.tup (k.map D.int))) (h:vQ kvs k=some n) (hs:aGH b:=by intro _ _; rfl):EvE X ρ (.Subscript a b pos) (.int n):=fun B F H σ Q kk q=>.mk fun pins s I=>by
 refine Subscript_ (thn (ha B F H σ (fun v H1=>∃ p xs F1,v = .ref p/\Ext ⟨F,H⟩ F1 H1/\DcRd H1 p xs/\DicR F1 kvs xs) kk (fun p xs F1 H1 x1 r1 r2=>⟨p,xs,F1,rfl,x1,r1,r2⟩) pins s I) fun u s1 ⟨v,H1,I1,rv,p,xs,F1,ev,x1,r1,r2⟩=>?_)
 subst ev
 cases (show u=Value.ref p from rv)
 refine thn (hb B F1 H1 σ (fun v H2=>∃ F2,Ext ⟨F1,H1⟩ F2 H2/\Rep X.K F2 v (.tup (k.map D.int))) (kk.ext x1) (fun v F2 H2 x2 r3=>⟨F2,x2,r3⟩) pins s1 I1) fun iv s2 ⟨w,H2,I2,rw',F2,x2,r3⟩=>?_
 cases r3 with
 | @tup bt vs ds hf rl=>
  have ev:=RepL.of_ints rl
  subst ev
  cases (show iv=Value.ref bt from rw')
  have hd:=DcRd.is I2 (r1.mono x2.sh)
  have r2':=r2.mono x2.sf
  obtain ⟨z,hsm,ys,rel,dd⟩:=aJR I2 hd (fun x hx=>x2.sub _ _ (r2'.2 x hx))
  have hv:vQ (xs.map kv) k=some n:=by rw [<- h,r2.1]
  rw [aRF] at hv
  obtain ⟨x0,hx0,e0⟩:=Option.map_eq_some_iff.mp hv
  obtain ⟨w0,hw0,rw0⟩:=(rel.at k).2 x0 hx0
  refine subscriptTail_builtinR (x:=w0) dd.typeIs PySem.F.slot_dict_getitem.lookup ?_ (hs _ _)
  refine wpAny_getItem_heap (Q:=fun r s'=>r=w0/\EP X pins σ Q r s') (tupleKind_room_in1 (by have:=t.un; omega)) (eKG I2 (x2.sub _ _ hf)) dd hw0 ⟨rfl,.int n,H2,I2.tok _,?_,q _ F2 H2 (x1.t x2) (.int n)⟩
  rw [<- e0]; exact rw0
end
section
variable {X:Cx}
theorem eFX {pins:List (Addr × Obj)} {σ:St} {H:Hp} {s:Shared} {a b:Addr} {xs:KXs} {k:List Int} {n:Int} {u:Value} (I:Inv X pins σ H s) (h:H a=some (.ext (aAX a xs))) (hk:∀ x∈xs,H x.2.1=some (.tup (x.1.map V.int)))
  (hb:H b=some (.tup (k.map V.int))) (hz:xs.length < sizeLine) (ru:RelV (.int n) u) {h':Heap} {ys:List (List Int × Addr × Value)} {t':Nat} (rel:KPair xs ys) (hs:(a == sysModules)=false) (dd:h'.DictOfH (tupleKind (intKind X.prog X.w)) a (storedH ys k b u)) (sb:Heap.SameBut a s.heap h') :
  Inv X pins σ (upd H a (.ext (aAX a (stX xs k b n)))) { s with heap:=h',toks:=t' }:=by
 have z:aAX a (stX xs k b n) h':=aUU (by have:=aXJ xs k b n; omega) hs (rel.put k b ru) dd
 exact I.write (x:=a) (e:=a) (by rw [h]; exact True.intro) (.inl rfl) (fun c q hc w=>(sb.2 c hc).trans w) (let ⟨_,_,o,h1,_⟩:=z; ⟨o,h1⟩) (aQH z)
def ePR:eJW:=fun o i v H Q=>∃ a xs k b n,o = .ref a/\i = .ref b/\v = .int n/\H a=some (.ext (aAX a xs))/\(∀ x∈xs,H x.2.1=some (.tup (x.1.map V.int)))/\H b=some (.tup (k.map V.int))/\xs.length < sizeLine/\Q (upd H a (.ext (aAX a (stX xs k b n))))
theorem eKU (hu:X.A.units+1 < cLine):eOW X ePR:=by
 intro pins s σ H o i v ov iv u Q I ro ri rv h
 obtain ⟨a,xs,k,b,n,rfl,rfl,rfl,h1,h2,h3,h4,q⟩:=h
 cases (show ov=Value.ref a from ro)
 cases (show iv=Value.ref b from ri)
 obtain ⟨z,hs,ys,rel,dd⟩:=aJR I (DcRd.is I (.inl h1)) h2
 refine wpAny_setItem_heap (hsz:=by rw [<- rel.len]; exact z) (tupleKind_room_in1 hu) (eKG I h3) dd fun h' dd' sb=>⟨_,eFX I h1 h2 h3 h4 rv rel hs dd' sb,q⟩
def aVK (xs:KXs) (is:KXs):KXs:=is.foldl (fun acc x=>stX acc x.1 x.2.1 x.2.2) xs
theorem eDC (hu:X.A.units < cLine) {pins:List (Addr × Obj)} {σ:St} {a:Addr} {E:Value->Shared->Prop} {Q:PUnit->Shared->Prop}:∀ (is:KXs) (ws:List (Value × Value)) (xs:KXs) (H:Hp) (s:Shared),Inv X pins σ H s->H a=some (.ext (aAX a xs))->(∀ x∈xs,H x.2.1=some (.tup (x.1.map V.int)))->(∀ x∈is,H x.2.1=some (.tup (x.1.map V.int))) ->
  Paired (fun (x:List Int × Addr × Int) (w:Value × Value)=>w.1 = .ref x.2.1/\RelV (.int x.2.2) w.2) is ws->xs.length+is.length < sizeLine->(∀ s',Inv X pins σ (upd H a (.ext (aAX a (aVK xs is)))) s'->Q PUnit.unit s') ->
  wpAny (model X.prog X.w) X.A (forIn ws PUnit.unit fun x _=>do
   dictSet a x.fst x.snd
   pure (ForInStep.yield PUnit.unit)) Q E s:=by
 intro is
 induction is with
 | nil=>
  intro ws xs H s I h1 h2 h3 r hz q
  cases r
  have e:upd H a (.ext (aAX a xs))=H:=funext fun b=>by
   by_cases hb:b=a
   ·subst hb; rw [yH,h1]
   ·rw [yI hb]
  have q':=q s
  rw [show aVK xs []=xs from rfl,e] at q'
  exact wpAny_pure (q' I)
 | cons x is ih=>
  intro ws xs H s I h1 h2 h3 r hz q
  cases r with
  | @cons _ w _ ws hw t=>
  obtain ⟨k,b,n⟩:=x
  obtain ⟨w1,w2⟩:=w
  obtain ⟨e1,rn⟩:=hw
  cases (show w1=Value.ref b from e1)
  rw [List.length_cons] at hz
  rw [List.forIn_cons]
  obtain ⟨z,hs,ys,rel,dd⟩:=aJR I (DcRd.is I (.inl h1)) h2
  have hb:H b=some (.tup (k.map V.int)):=h3 (k,b,n) (by simp)
  refine wpAny_bind (wpAny_bind (wpAny_dictSet_heap (by show X.A.units < cLine; exact hu) (eKG I hb) dd (fun h' dd' sb=>?_) (by rw [<- rel.len]; exact z)))
  refine wpAny_pure ?_
  have I2:=eFX (t':=s.toks+(tupleKind (intKind X.prog X.w)).draws k) I h1 h2 hb (by omega) rn rel hs dd' sb
  have tn:∀ c ks,H c=some (.tup ks)->upd H a (.ext (aAX a (stX xs k b n))) c=some (.tup ks):=fun c ks hc=>by
   rw [yI (fun z=>by subst z; rw [h1] at hc; cases hc)]; exact hc
  refine ih ws (stX xs k b n) _ _ I2 yH (fun y hy=>?_) (fun y hy=>tn _ _ (h3 y (by simp [hy]))) t (by have:=aXJ xs k b n; omega) fun s' I3=>q s' ?_
  ·unfold stX at hy
   split at hy
   ·obtain ⟨y',hy',rfl⟩:=List.mem_map.mp hy
    by_cases e:y'.1=k
    ·rw [if_pos e]; exact tn _ _ (h2 y' hy')
    ·rw [if_neg e]; exact tn _ _ (h2 y' hy')
   ·rcases List.mem_append.mp hy with h | h
    ·exact tn _ _ (h2 y h)
    ·rw [List.mem_singleton] at h; subst h; exact tn _ _ hb
  ·rw [aWT] at I3; exact I3
end
section
variable {X:Cx} {ρ ρ':Rho} {e f a b c:Expr} {d:D} {pos p apos cpos:Pos} {N:List Str} {sc:Scope} {x y:Str} {kvs kvs':KVs} {sts:List Stmt} {o:Out} {k:List Int} {n:Int}
theorem eAH (t:At X N sc) (i:Nat) (hr:ρ[i]? = some (.dct kvs)) (hb:EvE X ρ b (.tup (k.map D.int))) (hz:kvs.length < sizeLine) (hN:N[i]? = some y:=by rfl) (hv:aDQ sc y=true:=by rfl) (hx:qK y=true:=by rfl)
  (ha:∀ v,assign (.Subscript (.Name y p) b pos) X.env v=(do
   let ov <- holding [v] (eval (.Name y p) X.env)
   let iv <- holding [v,ov] (eval b X.env)
   standAt pos
   holding [v,ov,iv] (setItem ov iv v)
   release [v,ov,iv] []):=by intro _; rfl):EvG X ρ (.Subscript (.Name y p) b pos) (.int n) (ρ.set i (.dct (aEO kvs k n))):=
 .of (eEP yX yX (eKU (by have:=t.un; omega)) ha) fun B F H σ v Q kk r q=>by
  cases r
  refine .mk fun pins s I=>?_
  obtain ⟨l,es,h1,h2,h3,h4,h5⟩:=kk.dic.dcts i kvs hr
  refine aVO t hN hv hx pins s σ H _ I ⟨_,h1,?_⟩
  refine hb B F H σ _ kk fun w F' H' x' rw'=>?_
  cases rw' with
  | @tup bt vs ds hf rl=>
   have ev:=RepL.of_ints rl
   subst ev
   have h5':=h5.mono x'.sf
   refine ⟨l,es,k,bt,n,rfl,rfl,rfl,x'.sh _ _ h2,fun x hx=>x'.sub _ _ (h5'.2 x hx),x'.sub _ _ hf,?_,?_⟩
   ·have e:=congrArg List.length h5.1
    rw [List.length_map] at e; omega
   ·exact q F' _ _ ((kk.ext x').chgDct hr h1 (h5'.put hf n)) x'.sf
theorem aSG (t:At X N sc) {n0:Int} (ho:eOL X ρ a kvs) (ha:EvA X ρ [e,f] [.tup (k.map D.int),.int n0]) (hbase:attributeBase a "get" X.env (eval a X.env)=eval a X.env:=by rfl)
  (hfew:((backTo cpos (starEach [e,f] X.env)).all (fun x=>!x.1) && (backToKw cpos (keywordEach [] X.env)).all (fun x=>x.1.isSome)
   && decide (([e,f]:List Expr).length+([]:List Keyword).length+(if ([]:List Keyword).isEmpty then 0 else 1) < 30))=true:=by rfl)
  (hline:(apos.endLine == cpos.line)=true:=by rfl) (hs:starEach [e,f] X.env=(false,eval e X.env) :: starEach [f] X.env:=by rfl) (hplain:(backTo cpos (starEach [f] X.env)).any (·.1)=false:=by rfl) :
  EvE X ρ (.Call (.Attribute a "get" apos) [e,f] [] cpos) (.int ((vQ kvs k).getD n0)):=fun B F H σ Q kk q=>.mk fun pins s I=>by
 refine wpAny_Call_method_late hbase hfew hline rfl (thn (ho B F H σ (fun v H1=>∃ p xs F1,v = .ref p/\Ext ⟨F,H⟩ F1 H1/\DcRd H1 p xs/\DicR F1 kvs xs) kk (fun p xs F1 H1 x1 r1 r2=>⟨p,xs,F1,rfl,x1,r1,r2⟩) pins s I) fun u s1 ⟨v,H1,I1,rv,p,xs,F1,ev,x1,r1,r2⟩=>?_)
 subst ev
 cases (show u=Value.ref p from rv)
 have hd:=DcRd.is I1 r1
 obtain ⟨_,_,ob,g1,g2,_⟩:=id hd
 refine ⟨"dict", "dict.get",PySem.F.plainAttrs_dict,PySem.F.slot_dict_get,PySem.F.type_dict_get,⟨ob,g1,g2.1⟩,fun c ec=>(by cases ec; exact ⟨ob,g1,g2.2.1⟩),?_⟩
 have hA:=ha.2 B F1 H1 σ (fun vs H2=>∃ F2,Ext ⟨F1,H1⟩ F2 H2/\RepL X.K F2 vs [.tup (k.map D.int),.int n0]) (kk.ext x1) (fun vs F2 H2 x2 r3=>⟨F2,x2,r3⟩) cpos pins s1 I1
 rw [hs] at hA ⊢
 refine Calls.callWith_builtin (by show (false || (backTo cpos (starEach [f] X.env)).any (·.1))=false; rw [hplain] <;> rfl) (Calls.evalArgs_plain ?_)
 refine thn hA fun us s2 ⟨vs,H2,I2,rvs,F2,x2,r3⟩=>?_
 cases r3 with
 | cons ra rb=>
 cases rb with
 | cons rn rnil=>
 cases rnil
 cases rn
 cases ra with
 | @tup bt ks ds hf rl=>
 have ev:=RepL.of_ints rl
 subst ev
 obtain ⟨u1,u2,rfl,ru1,ru2⟩:=aWR rvs
 cases (show u1=Value.ref bt from ru1)
 have r2':=r2.mono x2.sf
 obtain ⟨z,hsm,ys,rel,dd⟩:=aJR I2 (DcRd.is I2 (r1.mono x2.sh)) (fun x hx=>x2.sub _ _ (r2'.2 x hx))
 refine call_meetsIn PySem.F.slot_dict_get dd.typeIs PySem.F.entry_dict_get (PySem.F.args_dict_get_3 _ _ _) (meetsH_dict_get_default (tupleKind (intKind X.prog X.w)) p bt hsm u2) ⟨tupleKind_room_in1 (by have:=t.un; omega),k,ys,eKG I2 (x2.sub _ _ hf),dd,?_⟩
 refine ⟨.int ((vQ kvs k).getD n0),H2,I2.tok _,?_,q _ F2 H2 (x1.t x2) (.int _)⟩
 rw [r2.1,aRF]
 obtain ⟨hN,hS⟩:=rel.at k
 cases qq:(xs.find? fun p=>decide (p.1=k)) with
 | none=>rw [hN qq]; exact ru2
 | some x0=>
  obtain ⟨w0,hw0,rw0⟩:=hS x0 qq
  rw [hw0]; exact rw0
def Itd (l:Addr) (ob:Obj) (xs:KXs):It:=
 ⟨fun i H=>H l=some (.frz ob (.ext (aAX l xs)))/\i < xs.length,fun i H v H'=>H' = H/\∃ x,xs[i]? = some x/\v = .ref x.2.1,fun i H=>H l=some (.frz ob (.ext (aAX l xs)))/\xs.length<=i,False⟩
theorem eNU {es:Array DictEntry} {ys:List (List Int × Addr × Value)} {xs:KXs} (h:∀ (P:Program) (w:World),es.toList=ys.map (entryOfKey (tupleKind (intKind P w)))) (P:Program) (w:World) (r:KPair xs ys):es.size=xs.length/\∀ (i:Nat) x,xs[i]? = some x->∃ e,es[i]? = some e/\e.key = .ref x.2.1:=by
 have h':=h P w
 have hl:es.size=ys.length:=by rw [<- Array.length_toList,h',List.length_map]
 refine ⟨by rw [hl,r.len],fun i x hx=>?_⟩
 have g:∀ {xs:KXs} {ys:List (List Int × Addr × Value)},KPair xs ys->∀ (i:Nat) x,xs[i]? = some x->∃ y,ys[i]? = some y/\y.2.1=x.2.1:=by
  intro xs ys r
  induction r with
  | nil=>intro i x hx; simp at hx
  | @cons p q ps qs hq t ih=>
   intro i x hx
   cases i with
   | zero=>simp at hx; subst hx; exact ⟨q,by simp,hq.2.1⟩
   | succ i=>simpa using ih i x (by simpa using hx)
 obtain ⟨y,hy,ey⟩:=g r i x hx
 refine ⟨entryOfKey (tupleKind (intKind P w)) y,?_,?_⟩
 ·rw [<- Array.getElem?_toList,h',List.getElem?_map,hy]; rfl
 ·show Value.ref y.2.1=_
  rw [ey]
theorem eBS {P:Program} {w:World} {K:PySem.W.Frag} {tg:Expr} (l it:Addr) (ob:Obj) (xs:KXs) {es:Array DictEntry} {ep:Nat} {ys:List (List Int × Addr × Value)} (h1:ob.data = .dict es ep) (h2:∀ (P:Program) (w:World),es.toList=ys.map (entryOfKey (tupleKind (intKind P w)))) (r:KPair xs ys) :
  eDK P w K tg (Itd l ob xs) [it] it (fun i h=>h.IsKeyIter it l i es.size ep) where
 mem:=by simp
 obj:=fun i h st b hb=>by
  have e:b=it:=by simpa using hb
  subst e
  obtain ⟨o,e,c,d⟩:=st
  exact ⟨o,e,fun v z=>by rw [d] at z; cases z⟩
 keep:=fun i h h' st k=>st.at fun o e=>k it (by simp) o e
 item:=by
  intro X hP hw hK hc i pins s σ H E I hf st hg
  subst hP hw hK
  replace hc:=hc.resolve_right fun z=>z.1
  obtain ⟨hq,hx⟩:=hg
  obtain ⟨f0,f1,f2,f3,f4,f5⟩:=hf it (by simp)
  have ho:=(show ObjOk X.prog X.w H s.heap l (.frz ob (.ext (aAX l xs))) from I.hok l _ hq).1
  obtain ⟨hl,hg⟩:=eNU h2 X.prog X.w r
  obtain ⟨e,he,ek⟩:=hg i xs[i] (List.getElem?_eq_getElem hx)
  refine aWA st ho h1 rfl he fun h' st' sb=>?_
  have I1:Inv X pins σ H { s with heap:=h' }:=I.turned (t':=s.toks) (fun b o hb e=>(sb.2 b hb).trans e) f0 f1 f3 f4 f5
  exact ⟨e.key,rfl,letGo_keyiter (s':={ s with heap:=h' }) st' ⟨.ref xs[i].2.1,H,I1,ek,⟨rfl,_,List.getElem?_eq_getElem hx,rfl⟩,st',fun b hb=>(hf b hb).1⟩⟩
 done:=by
  intro X hP hw hK hc i pins s σ H E I hf st hg
  subst hP hw hK
  replace hc:=hc.resolve_right fun z=>z.1
  obtain ⟨hq,hx⟩:=hg
  obtain ⟨f0,f1,f2,f3,f4,f5⟩:=hf it (by simp)
  have ho:=(show ObjOk X.prog X.w H s.heap l (.frz ob (.ext (aAX l xs))) from I.hok l _ hq).1
  obtain ⟨hl,hg⟩:=eNU h2 X.prog X.w r
  exact eAM (I.ok.hd hc) st ho h1 rfl (Array.getElem?_eq_none (by omega)) fun h' eb=>⟨rfl,I.turned (t':=s.toks) (fun b o hb e=>eb b o hb e) f0 f1 f3 f4 f5⟩
 self:=fun _ _ _ _ _ st h=>wpAny_pyIter_keyiter st h
def eST (tl:TE):TI:=fun σ H R=>tl σ H fun x H1=>∃ l ob xs,x = .ref l/\H1 l=some (.frz ob (.ext (aAX l xs)))/\R (Itd l ob xs) H1
theorem eLO {tg l:Expr} {tl:TE} (hl:PE X l tl):PI X tg l (eST tl):=by
 intro pins s σ H R I h
 refine thn (hl pins s σ H _ I h) fun v s1 ⟨x,H1,I1,r1,q1⟩=>?_
 obtain ⟨a,ob,xs,e,hq,q⟩:=q1
 subst e
 cases (show v=Value.ref a from r1)
 obtain ⟨ho,hz⟩:=(show ObjOk X.prog X.w H1 s1.heap a (.frz ob (.ext (aAX a xs))) from I1.hok a _ hq)
 obtain ⟨_,hs,o,g1,g2,es,ep,ys,g3,g4,g5,_⟩:=hz.1
 have eo:o=ob:=by rw [ho] at g1; exact (Option.some.inj g1).symm
 subst eo
 refine eQO hs ho g2 g3 ?_
 refine ⟨s1.heap.objs.size,[s1.heap.objs.size],_,_,H1,rfl,I1.kept (t':=s1.toks) fun b o e=>Heap.get?_push_of_some _ e,eBS a _ _ xs g3 g4 g5,⟨_,Heap.get?_push_size _ rfl,rfl,rfl⟩,fun b hb=>?_,q⟩
 have e:b=s1.heap.objs.size:=by simpa using hb
 subst e
 exact I1.fpOk (Nat.le_refl _) (I1.hok.fresh (Nat.le_refl _))
abbrev eRI (q:List Int × Int):D:=.tup (q.1.map D.int)
theorem eAG {tg:Expr} (h:EvE X ρ e (.dic kvs)):EvI X ρ tg e (kvs.map eRI):=.of (eLO yX) fun B F H σ R kk q=>h B F H σ _ kk fun v F' H' x' r=>by
 cases r with
 | @dic l ob ks xs hf r=>
  refine ⟨l,ob,xs,rfl,x'.sub _ _ hf,q _ F' H' x' fun i F2 H2 s1 s2=>⟨fun d hd=>?_,fun hl=>⟨s2 _ _ (s1 _ _ hf),by rw [r.1,List.length_map,List.length_map] at hl; exact hl⟩⟩⟩
  rw [r.1,List.map_map,List.getElem?_map] at hd
  obtain ⟨x,hx,e⟩:=Option.map_eq_some_iff.mp hd
  subst e
  refine ⟨⟨s2 _ _ (s1 _ _ hf),(List.getElem?_eq_some_iff.mp hx).1⟩,fun v H3 hy=>?_⟩
  obtain ⟨rfl,x',hx',rfl⟩:=hy
  rw [hx] at hx'; cases hx'
  exact ⟨F2,.refl s2,.tup (s1 _ _ (r.2 x (List.mem_of_getElem? hx))) (RepL.ints x.1)⟩
end
section
variable {X:Cx} {ρ ρ':Rho} {e f a b c:Expr} {d:D} {pos p apos cpos pos':Pos} {N:List Str} {sc:Scope} {x y:Str} {kvs kvs':KVs} {o:Out} {k:List Int} {n:Int} {st:Stmt} {qU:List Stmt} {ds:List D} {es:List Expr}
inductive EvKs (X:Cx) (ρ:Rho):List (Option Expr)->List Expr->KVs->Prop where
 | nil:EvKs X ρ [] [] []
 | cons {a b:Expr} {as:List (Option Expr)} {bs:List Expr} {k:List Int} {n:Int} {r:KVs}:EvE X ρ a (.tup (k.map D.int))->EvE X ρ b (.int n)->EvKs X ρ as bs r->EvKs X ρ (some a :: as) (b :: bs) ((k,n) :: r)
theorem EvKs.len {as:List (Option Expr)} {bs:List Expr} (h:EvKs X ρ as bs kvs):as.all (·.isSome)=true/\as.length=bs.length/\as.length=kvs.length:=by
 induction h with
 | nil=>exact ⟨rfl,rfl,rfl⟩
 | cons h1 h2 h3 ih=>exact ⟨by rw [List.all_cons,ih.1]; rfl,congrArg Nat.succ ih.2.1,congrArg Nat.succ ih.2.2⟩
def aTR (kvs more:KVs):KVs:=more.foldl (fun acc q=>aEO acc q.1 q.2) kvs
theorem EvKs.walk {as:List (Option Expr)} {bs:List Expr} (h:EvKs X ρ as bs kvs):∀ {B:B0} {F H:Hp} {σ:St},Ok X.K B F H σ ρ->∀ {pins:List (Addr × Obj)} {s:Shared},Inv X pins σ H s ->
  wpAny (model X.prog X.w) X.A (evalPairs (pairTrees as bs X.env pos)) (fun ws s'=>∃ F' H' xs,Inv X pins σ H' s'/\Ext ⟨F,H⟩ F' H'/\DicR F' kvs xs/\Paired (fun (x:List Int × Addr × Int) (w:Value × Value)=>w.1 = .ref x.2.1/\RelV (.int x.2.2) w.2) xs ws) X.xe s:=by
 induction h with
 | nil=>intro B F H σ kk pins s I; exact pairTrees_nil_walk ⟨F,H,[],I,.refl kk.sub,⟨rfl,fun _ z=>nomatch z⟩,.nil⟩
 | @cons a b as bs k n r h1 h2 h3 ih=>
  intro B F H σ kk pins s I
  refine pairTrees_cons_walk (thn (h1 B F H σ (fun v H1=>∃ F1,Ext ⟨F,H⟩ F1 H1/\Rep X.K F1 v (.tup (k.map D.int))) kk (fun v F1 H1 x1 r1=>⟨F1,x1,r1⟩) pins s I) fun u s1 ⟨v,H1,I1,rv,F1,x1,r1⟩=>?_)
  have k1:=kk.ext x1
  refine thn (h2 B F1 H1 σ (fun v H2=>∃ F2,Ext ⟨F1,H1⟩ F2 H2/\Rep X.K F2 v (.int n)) k1 (fun v F2 H2 x2 r2=>⟨F2,x2,r2⟩) pins s1 I1) fun u2 s2 ⟨v2,H2,I2,rv2,F2,x2,r2⟩=>?_
  refine thn (ih (k1.ext x2) I2) fun ws s3 ⟨F3,H3,xs,I3,x3,r3,pr⟩=>?_
  cases r2
  cases r1 with
  | @tup bt vs ds hf rl=>
  have ev:=RepL.of_ints rl
  subst ev
  cases (show u=Value.ref bt from rv)
  refine ⟨F3,H3,(k,bt,n) :: xs,I3,(x1.t x2).t x3,⟨by rw [r3.1]; rfl,fun x hx=>?_⟩,.cons ⟨rfl,rv2⟩ pr⟩
  rcases List.mem_cons.mp hx with e | hx
  ·subst e; exact x3.sf _ _ (x2.sf _ _ hf)
  ·exact r3.2 x hx
theorem aXK {F:Hp}:∀ (is:KXs) (kvs:KVs) (xs:KXs),DicR F kvs xs->(∀ x∈is,F x.2.1=some (.tup (x.1.map V.int)))->DicR F (aTR kvs (is.map kv)) (aVK xs is)
 | [],kvs,xs,r,_=>r
 | (k,b,n) :: is,kvs,xs,r,h=>by
  show DicR F (aTR (aEO kvs k n) (is.map kv)) (aVK (stX xs k b n) is)
  exact aXK is _ _ (r.put (h (k,b,n) (by simp)) n) fun x hx=>h x (by simp [hx])
theorem aAP (t:At X N sc) {as:List (Option Expr)} {bs:List Expr} (h:EvKs X ρ as bs kvs) (h0:as≠[]:=by exact fun z=>nomatch z) (h15:as.length<=15:=by decide):EvDn X ρ (.Dict as bs pos) (aTR [] kvs):=fun B F H σ Q kk q=>.mk fun pins s I=>by
 obtain ⟨l1,l2,l3⟩:=h.len
 rw [arm_eval_Dict,zip_pairTrees as bs X.env pos l1 l2]
 have hpl:(pairTrees as bs X.env pos).length=as.length:=pairTrees_length as bs X.env pos l1 l2
 rw [dictDisplay_pairs _ (fun z=>h0 (List.eq_nil_of_length_eq_zero (by rw [<- hpl,z]; rfl))) (by omega)]
 refine wpAny_bind (wpAny_standAt (wpAny_bind ?_))
 unfold subDict
 refine wpAny_bind (wpAny_alloc ?_)
 have hn:=I.hok.fresh (Nat.le_refl s.heap.objs.size)
 have hb:sysModules < s.heap.objs.size:=Nat.lt_trans (by decide) (show mainGlobals < s.heap.objs.size from (I.mod.glob.keeps I.bk).lt)
 have z:aAX s.heap.objs.size [] (s.heap.push { cls:=.type "dict",data:=.dict #[] }):=aUU (P:=X.prog) (w:=X.w) (Nat.zero_le _) (beq_eq_false_iff_ne.mpr (Ne.symm (Nat.ne_of_lt hb))) .nil (Heap.DictOfH.new s.heap)
 have I1:=I.laid (a:=s.heap.objs.size) (o:=.ext (aAX s.heap.objs.size [])) (h':=s.heap.push { cls:=.type "dict",data:=.dict #[] }) (t':=s.toks) (fun _ _ q=>Heap.get?_push_of_some _ q) (Nat.le_refl _) (aQH z)
 have x1:Ext ⟨F,H⟩ F (upd H s.heap.objs.size (.ext (aAX s.heap.objs.size []))):=⟨kk.sub.trans (yK hn),yK hn,.refl _,fun _ z=>.inl z⟩
 refine wpAny_bind (wpAny_holding ?_)
 rw [if_pos (by omega)]
 refine wpAny_bind (thn (h.walk (kk.ext x1) I1) fun ws s2 ⟨F2,H2,is,I2,x2,r2,pr⟩=>?_)
 refine wpAny_holding (wpAny_bind ?_)
 have hf2:F2 s.heap.objs.size=none:=by
  cases e:F2 s.heap.objs.size with
  | none=>rfl
  | some o=>
   rcases x2.nw s.heap.objs.size (by rw [e]; exact Option.some_ne_none o) with w | w
   ·exact absurd (kk.sub.free hn) w
   ·have w':upd H s.heap.objs.size (.ext (aAX s.heap.objs.size [])) s.heap.objs.size=none:=w
    rw [yH] at w'; cases w'
 have h2:H2 s.heap.objs.size=some (.ext (aAX s.heap.objs.size [])):=x2.sh _ _ yH
 have hlen:is.length=kvs.length:=by rw [r2.1,List.length_map]
 refine eDC (by have:=t.un; omega) is ws [] H2 s2 I2 h2 (fun _ z=>nomatch z) (fun x hx=>x2.sub _ _ (r2.2 x hx)) pr (by rw [List.length_nil,sizeLine_eq]; omega) fun s3 I3=>?_
 refine wpAny_pure (wpAny_pure (wpAny_pure ⟨.ref s.heap.objs.size,_,I3,rfl,?_⟩))
 have x12:=x1.t x2
 have R:DicR F2 (aTR [] kvs) (aVK [] is):=by
  have:=aXK is [] [] ⟨rfl,fun _ z=>nomatch z⟩ r2.2
  rw [<- r2.1] at this
  exact this
 refine q _ (aVK [] is) F2 _ ⟨fun c u w=>?_,fun c u w=>?_,x12.sf,x12.nw⟩ hn yH hf2 R
 ·have ne:c≠s.heap.objs.size:=fun z=>by subst z; rw [hf2] at w; cases w
  rw [yI ne]; exact x12.sub c u w
 ·have ne:c≠s.heap.objs.size:=fun z=>by subst z; have w':H s.heap.objs.size=some u:=w; rw [hn] at w'; cases w'
  rw [yI ne]; exact x12.sh c u w
theorem EvDn.eq (h:EvDn X ρ e kvs) (q:kvs=kvs'):EvDn X ρ e kvs':=q ▸ h
def spD (K:PySem.W.Frag) (C:List D->KVs->Prop):Sp:=fun vs H Q _=>∃ F ds kvs,Same F H/\RepL K F vs ds/\C ds kvs/\∀ p us F' H',Ext ⟨F,H⟩ F' H'->H p=none->H' p=some (.ext (aAX p us))->F' p=none->DicR F' kvs us->Q (.ref p) H'
def CalleeD (X:Cx) (x:Str) (C:List D->KVs->Prop):Prop:=∃ (f:Addr) (fd:FuncData) (ps:List Str) (k:Nat),qL X.prog X.w X.K X.mg X.base CX0 k f fd ps (spD X.K C)/\Room k X.A/\X.mg x=some (.ref f)/\PySem.W.keepIn X.K (.ref f)=true/\Binds X.K fd ps []
def aRC (X:Cx) (ρ:Rho) (sts:List Stmt) (kvs:KVs):Prop:=∀ (B:B0) (F H:Hp) (σ:St) (E:aFS),Ok X.K B F H σ ρ->(∀ p us F' H',Ext B F' H'->B.H p=none->H' p=some (.ext (aAX p us))->F' p=none->DicR F' kvs us->E.rt (.ref p) H')->wSs X sts E σ H
theorem aEW (t:At X N sc) {C:List D->KVs->Prop} (h:CalleeD X x C) (ha:EvA X ρ (e :: es) ds) (hC:C ds kvs) (hg:sc.names.lookup x=some .globalImplicit:=by rfl) (hdb:(x == ("__debug__" : Str))=false:=by rfl):EvDn X ρ (.Call (.Name x p) (e :: es) [] pos) kvs:=by
 obtain ⟨f,fd,ps,k,F,hr,hm,hk,hb⟩:=h
 have pz:aBZ CX0 X E0:=aPJ
 intro B F' H σ Q k' q
 refine .mk fun pins s I=>?_
 refine aEQ F hr (vZ t hg) hm hk hb .nil pz aVP hdb (ha.1.1 _ _) (PlA.any ha.1.2) pins s σ H Q I (ha.2 B F' H σ _ k' fun vs F1 H1 x1 r1=>?_)
 exact ⟨F1,ds,kvs,x1.sub,by rw [List.append_nil]; exact r1,hC,fun p us F2 H2 x2 h0 hp hf r2=>q p us F2 H2 (x1.t x2) (x1.sh.free h0) hp hf r2⟩
theorem aHV (h1:EvS X ρ st (.nx ρ')) (h2:aRC X ρ' qU kvs):aRC X ρ (st :: qU) kvs:=fun B F H σ E k q=>
 (.mk fun pins s I=>vH aWO jF pins s σ H E I (h1 B F H σ _ k fun F1 H1 σ1 k1 s1=>h2 B F1 H1 σ1 E k1 q))
theorem eAD (t:At X N sc) (i:Nat) (hr:ρ[i]? = some (.dct kvs)) (hN:N[i]? = some x:=by rfl) (hv:aDQ sc x=true:=by rfl) (hx:qK x=true:=by rfl):aRC X ρ [.Return (some (.Name x pos')) pos] kvs:=fun B F H σ E k q=>by
 obtain ⟨a,us,h1,h2,h3,h4,h5⟩:=k.dic.dcts i kvs hr
 exact .mk fun pins s I=>aGA (aPC (aVO t hN hv hx)) pins s σ H E I ⟨_,h1,q a us F H k.toExt h4 h2 h3 h5⟩
theorem eFK {P:Program} (htree:P.given.tree=none) {w:World} {K:PySem.W.Frag} {mg:Str->Option Value} {base:Heap} {x qual:Str} {st:Stmt} {f:Addr} {fd:FuncData} {N ps:List Str} {k:Nat} {C:List D->KVs->Prop} (F:Fun K x qual st f fd) (S:yL N ps (yC st))
  (len:∀ ds xs,C ds xs->ds.length=ps.length)
  (body:∀ X,DefX P w K mg base k N (yC st) X->∀ ds xs,C ds xs->aRC X (ds.map Sl.val++List.replicate (N.length - ds.length) Sl.un) (yF st) xs):qL P w K mg base CX0 (k+1) f fd ps (spD K C):=by
 refine F.ok S (fun vs H Q E h=>?_) (fun cdv A outer s H vs Q E hr h=>?_)
 ·obtain ⟨F',ds,d,sub,r,hC,q⟩:=h
  rw [r.length]; exact len ds d hC
 ·obtain ⟨F',ds,d,sub,r,hC,q⟩:=h
  refine ⟨_,jF,?_⟩
  have hx:DefX P w K mg base k N (yC st) (aUV CX0 P w K mg base N qual (yC st) f cdv A outer s H E).nox:=
   ⟨⟨rfl,rfl,rfl,S.nd,rfl,hr.units,hr.dp100,htree,⟨_,_,rfl,S.gen,S.co,rfl,rfl⟩⟩,rfl,rfl,rfl,rfl,rfl,hr,⟨fun _=>rfl⟩,rfl,rfl⟩
  have hb:=body _ hx ds d hC
  have hk:Ok K ⟨F',H⟩ F' H (start N vs) (ds.map Sl.val++List.replicate (N.length - ds.length) Sl.un):=by
   unfold start
   rw [r.length]
   exact aCH sub r _
  exact hb ⟨F',H⟩ F' H _ _ hk fun p us F2 H2 x2 h0 hp hf r2=>q p us F2 H2 x2 h0 hp hf r2
theorem DefX.calleeD {P:Program} {w:World} {K:PySem.W.Frag} {mg:Str->Option Value} {base:Heap} {k j:Nat} {f:Addr} {fd:FuncData} {ps:List Str} {x:Str} {C:List D->KVs->Prop} (h:DefX P w K mg base k N sc X)
  (F:qL P w K mg base CX0 j f fd ps (spD K C)) (hj:j<=k) (hm:mg x=some (.ref f)) (hk:PySem.W.keepIn K (.ref f)=true) (hb:Binds K fd ps []):CalleeD X x C:=by
 obtain ⟨h0,rfl,rfl,rfl,rfl,rfl,hr,_⟩:=h
 exact ⟨f,fd,ps,j,F,hr.mono hj,hm,hk,hb⟩
end
section
variable {X:Cx} {ρ:Rho} {a b:Expr} {pos:Pos} {N:List Str} {sc:Scope} {x:Str}
theorem aXP (t:At X N sc) (i j:Nat) {y:Str} {us:List D} {v:D} {px py pt:Pos} {kt k2:Nat} {pt2:Pos} (h1:EvN X ρ a us) (h2:EvE X ρ b v) (hij:i≠j) (hi:N[i]? = some x:=by rfl) (hj:N[j]? = some y:=by rfl)
  (hx:sc.names.lookup x=some .local:=by rfl) (hy:sc.names.lookup y=some .local:=by rfl)
  (hw:swappedStores [.Tuple [.Name x px,.Name y py] kt pt] (.Tuple [a,b] k2 pt2) (dE sc)=pure (some [x,y]):=by rfl)
  (hs:swapsWithSole [.Tuple [.Name x px,.Name y py] kt pt] (.Tuple [a,b] k2 pt2) pos.line X.env=pure false:=by rfl)
  (hs1:starEach [a,b] X.env=(false,eval a X.env) :: starEach [b] X.env:=by rfl) (hs2:starEach [b] X.env=(false,eval b X.env) :: starEach [] X.env:=by rfl) :
  EvS X ρ (.Assign [.Tuple [.Name x px,.Name y py] kt pt] (.Tuple [a,b] k2 pt2) pos) (.nx ((ρ.set i (.own us)).set j (.val v))):=
 .of (eLJ (i:=i) (j:=j) t.calm t.nd (t.ix hi) (t.ix hj) hij (by rw [t.eS]; exact hx) (by rw [t.eS]; exact hy) (zL yX (zL yX vD hs2) hs1) ((aRI (show X.env.scope=(dE sc).scope from t.eS)).trans hw) hs) fun B F H σ E k q=>
  h1 B F H σ _ k fun p vs F1 H1 x1 h0 hp hf r=>h2 B F1 H1 σ _ (k.ext x1) fun v2 F2 H2 x2 r2=>by
   have hf2:F2 p=none:=by
    cases z:F2 p with
    | none=>rfl
    | some o=>
     exfalso
     rcases x2.nw p (by rw [z]; exact fun q=>nomatch q) with q1 | q1
     ·exact q1 hf
     ·have q1':H1 p=none:=q1
      rw [hp] at q1'; cases q1'
   exact ⟨.ref p,v2,rfl,q F2 H2 _ (((k.ext (x1.t x2)).setOwn i (x2.sh _ _ hp) hf2 (k.sh.free h0) (k.noOwn h0) (r.mono x2.sf)).setVal j r2) (x1.t x2).sf⟩
end
section
variable {X:Cx} {ρ:Rho} {a b:Expr} {pos p:Pos} {N:List Str} {sc:Scope} {x:Str}
theorem eLC (t:At X N sc) {p:PyData} {qs:List PyData} (sp:p.canLay0=true) (sd:p.depth<=62) (sq:PyData.canLayAll0 qs=true):OpR X (compareOp .NotIn) (fun x y H Q=>RdP X H x p/\RdP X H y (.list qs)/\Q (.bl (!qs.any fun y=>PyData.eqv y p)) H):=by
 intro pins s σ H x y v u Q I rx ry h
 obtain ⟨h1,h2,h3⟩:=h
 obtain ⟨as,r1⟩:=h1 sp H (.refl _) pins σ s v I rx
 obtain ⟨bs,r2⟩:=h2 (by simpa [PyData.canLay0] using sq) H (.refl _) pins σ s u I ry
 refine SeqAt.notIn_list_reads r2 r1 sq sp ?_ ⟨.bl _,H,I,rfl,h3⟩
 have hu:=t.un
 have:min (PyData.depthAll qs) p.depth<=p.depth:=Nat.min_le_right _ _
 omega
end
end L2.EV
namespace HT
open PySem PySem.Spec PyProof.Rows
end HT
namespace L2
open PySem PySem.Spec PyProof.Rows
end L2
namespace L2.EV
open PySem PySem.Spec PyProof.Rows
def UpB (B:B0) (p:Addr) (us:List V):B0:=⟨B.F,upd B.H p (.lst us)⟩
theorem UpB.same {B:B0} {p:Addr} {us:List V} (h:B.H p=some (.lst us)):UpB B p us=B:=by
 have:upd B.H p (.lst us)=B.H:=funext fun b=>by
  by_cases z:b=p
  ·subst z; rw [yH,h]
  ·rw [yI z]
 show (⟨B.F,upd B.H p (.lst us)⟩:B0)=B
 rw [this]
theorem UpB.up {B:B0} {p:Addr} {us ws:List V}:UpB (UpB B p us) p ws=UpB B p ws:=by
 show (⟨B.F,upd (upd B.H p (.lst us)) p (.lst ws)⟩:B0)=⟨B.F,upd B.H p (.lst ws)⟩
 rw [aWT]
structure Lent (K:PySem.W.Frag) (B:B0) (p:Addr) (F:Hp) (us:List V) (xs:List D):Prop where
 st:B.H p=some (.lst us)
 fr:B.F p=none
 rep:RepL K F us xs
theorem Lent.free {K:PySem.W.Frag} {B:B0} {p:Addr} {F H:Hp} {us:List V} {xs:List D} (l:Lent K B p F us xs) (x:Ext B F H):F p=none:=by
 cases e:F p with
 | none=>rfl
 | some o=>
  rcases x.nw p (by rw [e]; exact Option.some_ne_none o) with z | z
  ·exact absurd l.fr z
  ·rw [l.st] at z; cases z
def PostM (K:PySem.W.Frag) (B:B0) (p:Addr) (F₀:Hp) (E:aFS) (xs':List D):Out->Prop
 | .nx ρ=>∀ F H σ us,Ok K (UpB B p us) F H σ ρ->RepL K F us xs'->Same F₀ F->E.nx σ H
 | .rt d=>∀ v F H us,Ext (UpB B p us) F H->RepL K F us xs'->Rep K F v d->E.rt v H
def EvM (X:Cx) (p:Addr) (ρ:Rho) (sts:List Stmt) (o:Out) (xs xs':List D):Prop:=∀ (B:B0) (F H:Hp) (σ:St) (E:aFS) (us:List V),Lent X.K B p F us xs->Ok X.K B F H σ ρ->PostM X.K B p F E xs' o->wSs X sts E σ H
def aTC (X:Cx) (p:Addr) (ρ:Rho) (st:Stmt) (o:Out) (xs xs':List D):Prop:=∀ (B:B0) (F H:Hp) (σ:St) (E:aFS) (us:List V),Lent X.K B p F us xs->Ok X.K B F H σ ρ->PostM X.K B p F E xs' o->wS X st E σ H
theorem Ok.now {K:PySem.W.Frag} {B:B0} {F H:Hp} {σ:St} {ρ:Rho} (k:Ok K B F H σ ρ):Ok K ⟨F,B.H⟩ F H σ ρ:=
 ⟨⟨k.sub,k.sh,.refl _,fun a q=>.inl q⟩,k.len,k.vals,k.owns,k.dist,⟨k.dic.dcts,k.dic.distD⟩⟩
theorem Ext.then_ {B:B0} {F H F' H':Hp} (x:Ext B F H) (y:Ext ⟨F,B.H⟩ F' H'):Ext B F' H':=
 ⟨y.sub,y.sh,x.sf.trans y.sf,fun a q=>by
  rcases y.nw a q with z | z
  ·exact x.nw a z
  ·exact .inr z⟩
section
variable {X:Cx} {p:Addr} {ρ ρ' ρ1:Rho} {st:Stmt} {sts qU:List Stmt} {o:Out} {xs xs1 xs':List D} {e b:Expr} {d:D} {pos py ps:Pos} {N:List Str} {sc:Scope} {x:Str}
theorem aPF {B:B0} {F H:Hp} {σ:St} {E:aFS} {us:List V} (l:Lent X.K B p F us xs) (k:Ok X.K B F H σ ρ) (q:PostM X.K B p F E xs o):(∃ ρ',o = .nx ρ'/\Post X.K B F E o)\/(∃ d,o = .rt d/\Post X.K ⟨F,B.H⟩ F E o):=by
 cases o with
 | nx ρ'=>exact .inl ⟨ρ',rfl,fun F' H' σ' k' s'=>q F' H' σ' us (by rw [UpB.same l.st]; exact k') (l.rep.mono s') s'⟩
 | rt d=>exact .inr ⟨d,rfl,fun v F' H' x r=>q v F' H' us (by rw [UpB.same l.st]; exact k.toExt.then_ x) (l.rep.mono x.sf) r⟩
theorem EvSs.m (h:EvSs X ρ sts o):EvM X p ρ sts o xs xs:=fun B F H σ E us l k q=>by
 rcases aPF l k q with ⟨_,_,z⟩ | ⟨_,_,z⟩
 ·exact h B F H σ E k z
 ·exact h ⟨F,B.H⟩ F H σ E k.now z
theorem EvS.m (h:EvS X ρ st o):aTC X p ρ st o xs xs:=fun B F H σ E us l k q=>by
 rcases aPF l k q with ⟨_,_,z⟩ | ⟨_,_,z⟩
 ·exact h B F H σ E k z
 ·exact h ⟨F,B.H⟩ F H σ E k.now z
theorem eHJ {B:B0} {F F1:Hp} {E:aFS} {us:List V} (q:PostM X.K B p F E xs' o) (s:Same F F1):PostM X.K (UpB B p us) p F1 E xs' o:=by
 cases o with
 | nx ρ'=>exact fun F' H' σ' ws k r s'=>q F' H' σ' ws (by rw [UpB.up] at k; exact k) r (s.trans s')
 | rt d=>exact fun v F' H' ws x r rv=>q v F' H' ws (by rw [UpB.up] at x; exact x) r rv
theorem qV (h1:aTC X p ρ st (.nx ρ1) xs xs1) (h2:EvM X p ρ1 qU o xs1 xs'):EvM X p ρ (st :: qU) o xs xs':=fun B F H σ E us l k q=>
 (.mk fun pins s I=>vH aWO jF pins s σ H E I (h1 B F H σ _ us l k fun F1 H1 σ1 ws k1 r1 s1=>h2 (UpB B p ws) F1 H1 σ1 E ws ⟨yH,l.fr,r1⟩ k1 (eHJ q s1)))
theorem aAZ (h1:aTC X p ρ st o xs xs'):EvM X p ρ [st] o xs xs':=fun B F H σ E us l k q=>(.mk fun pins s I=>aGA aWO pins s σ H E I (h1 B F H σ E us l k q))
theorem aZC:EvM X p ρ [] (.nx ρ) xs xs:=EvSs.m qQ
theorem Ok.chgAt {K:PySem.W.Frag} {B:B0} {F H:Hp} {σ:St} {us ws:List V} (k:Ok K B F H σ ρ) (l:Lent K B p F us xs):Ok K (UpB B p ws) F (upd H p (.lst ws)) σ ρ:=by
 have hf:=l.free k.toExt
 have ho:∀ a,B.H a=none->a≠p:=fun a h z=>by subst z; rw [l.st] at h; cases h
 refine ⟨⟨fun c u q=>?_,fun c u q=>?_,k.sf,fun a q=>?_⟩,k.len,k.vals,fun i ys h=>?_,k.dist,⟨fun i kvs h=>?_,k.dic.distD⟩⟩
 ·have ne:c≠p:=fun z=>by subst z; rw [hf] at q; cases q
  rw [yI ne]; exact k.sub c u q
 ·by_cases z:c=p
  ·subst z
   have q':upd B.H c (.lst ws) c=some u:=q
   rw [yH] at q' ⊢; exact q'
  ·have q':upd B.H p (.lst ws) c=some u:=q
   rw [yI z] at q' ⊢; exact k.sh c u q'
 ·have ne:a≠p:=fun z=>by subst z; exact q hf
  rcases k.nw a q with z | z
  ·exact .inl z
  ·refine .inr ?_
   show upd B.H p (.lst ws) a=none
   rw [yI ne]; exact z
 ·obtain ⟨a,vs,h1,h2,h3,h4,h5⟩:=k.owns i ys h
  have ne:=ho a h4
  exact ⟨a,vs,h1,by rw [yI ne]; exact h2,h3,by show upd B.H p (.lst ws) a=none; rw [yI ne]; exact h4,h5⟩
 ·obtain ⟨a,es,h1,h2,h3,h4,h5⟩:=k.dic.dcts i kvs h
  have ne:=ho a h4
  exact ⟨a,es,h1,by rw [yI ne]; exact h2,h3,by show upd B.H p (.lst ws) a=none; rw [yI ne]; exact h4,h5⟩
theorem eGC (t:At X N sc) {i:Nat} (hr:ρ[i]? = some (.val (.adr p))) (hN:N[i]? = some x) (hv:aDQ sc x=true) (hx:qK x=true) {B:B0} {F H:Hp} {σ:St} {Q:VK} (k:Ok X.K B F H σ ρ) (h:Q (.ref p) H):wE X (.Name x py) σ H Q:=.mk fun pins s I=>by
 obtain ⟨v,h1,h2⟩:=k.vals i _ hr
 cases h2
 exact aVO t hN hv hx pins s σ H Q I ⟨_,h1,h⟩
end
theorem Lent.ext {K:PySem.W.Frag} {B:B0} {p:Addr} {F H F' H':Hp} {us:List V} {xs:List D} (l:Lent K B p F us xs) (x:Ext ⟨F,H⟩ F' H'):Lent K B p F' us xs:=⟨l.st,l.fr,l.rep.mono x.sf⟩
section
variable {X:Cx} {p:Addr} {ρ ρ' ρ1:Rho} {sts qU body:List Stmt} {o:Out} {xs xs1 xs' ds:List D} {tg e a b:Expr} {es:List Expr} {d:D} {pos py ps:Pos} {N:List Str} {sc:Scope} {x y:Str}
inductive FRunM (X:Cx) (p:Addr) (tg:Expr) (body:List Stmt):List D->Rho->List D->Rho->List D->Prop where
 | nil {ρ:Rho} {xs:List D}:FRunM X p tg body [] ρ xs ρ xs
 | cons {d:D} {ds:List D} {ρ ρ1 ρ2 ρ3:Rho} {xs xs1 xs2:List D}:EvG X ρ tg d ρ1->EvM X p ρ1 body (.nx ρ2) xs xs1->FRunM X p tg body ds ρ2 xs1 ρ3 xs2->FRunM X p tg body (d :: ds) ρ xs ρ3 xs2
theorem FRunM.upto (R:Nat->Rho) (L:Nat->List D):∀ (ds:List D) (i:Nat),(∀ (j:Nat) d,ds[j]? = some d->∃ ρ1,EvG X (R (i+j)) tg d ρ1/\EvM X p ρ1 body (.nx (R (i+j+1))) (L (i+j)) (L (i+j+1)))->FRunM X p tg body ds (R i) (L i) (R (i+ds.length)) (L (i+ds.length))
 | [],i,_=>.nil
 | d :: ds,i,h=>by
  obtain ⟨ρ1,h1,h2⟩:=h 0 d rfl
  have:=FRunM.upto R L ds (i+1) fun j d' e=>by
   have:=h (j+1) d' (by simpa using e)
   rw [show i+1+j=i+(j+1) by omega]; exact this
  rw [show i+1+ds.length=i+(d :: ds).length by rw [List.length_cons]; omega] at this
  exact .cons h1 h2 this
end
theorem Ok.back {K:PySem.W.Frag} {B:B0} {F H F' H':Hp} {σ:St} {ρ:Rho} {i:Nat} {xs xs':List D} {a:Addr} {us':List V} (k:Ok K B F H σ ρ) (hi:ρ[i]? = some (.own xs)) (hs:σ[i]? = some (some (.ref a))) (x:Ext (UpB ⟨F,H⟩ a us') F' H') (r:RepL K F' us' xs') :
  Ok K B F' H' σ (ρ.set i (.own xs')):=by
 obtain ⟨a',us,h1,h2,h3,h4,h5⟩:=k.owns i xs hi
 rw [h1] at hs
 cases hs
 have hlt:i < ρ.length:=(List.getElem?_eq_some_iff.mp hi).1
 have hu:∀ b u,b≠a->H b=some u->H' b=some u:=fun b u ne q=>x.sh b u (by show upd H a (.lst us') b=some u; rw [yI ne]; exact q)
 have hfree:∀ b,F b=none->(b=a\/H b≠none)->F' b=none:=fun b hf hh=>by
  cases e:F' b with
  | none=>rfl
  | some o=>
   exfalso
   rcases x.nw b (by rw [e]; exact Option.some_ne_none o) with z | z
   ·exact z hf
   ·have z':upd H a (.lst us') b=none:=z
    by_cases y:b=a
    ·subst y; rw [yH] at z'; cases z'
    ·rw [yI y] at z'
     rcases hh with w | w
     ·exact y w
     ·exact w z'
 have hn:∀ b,B.H b=none\/B.H b≠none:=fun b=>by cases B.H b <;> simp
 refine ⟨⟨x.sub,fun b u q=>?_,k.sf.trans x.sf,fun c q=>?_⟩,by rw [List.length_set,k.len],fun j d q=>?_,fun j ys q=>?_,fun j l ys zs b q1 q2 q3 q4=>?_,?_⟩
 ·exact hu b u (fun z=>by subst z; rw [h4] at q; cases q) (k.sh b u q)
 ·rcases x.nw c q with z | z
  ·exact k.nw c z
  ·refine .inr ?_
   have z':upd H a (.lst us') c=none:=z
   by_cases y:c=a
   ·subst y; rw [yH] at z'; cases z'
   ·rw [yI y] at z'; exact k.sh.free z'
 ·by_cases h:i=j
  ·subst h; rw [List.getElem?_set_self hlt] at q; cases q
  ·rw [List.getElem?_set_ne h] at q
   obtain ⟨v,g1,g2⟩:=k.vals j d q
   exact ⟨v,g1,g2.mono x.sf⟩
 ·by_cases h:i=j
  ·subst h
   rw [List.getElem?_set_self hlt] at q; cases q
   exact ⟨a,us',h1,x.sh a _ (by show upd H a (.lst us') a=_; rw [yH]),hfree a h3 (.inl rfl),h4,r⟩
  ·rw [List.getElem?_set_ne h] at q
   obtain ⟨b,vs,g1,g2,g3,g4,g5⟩:=k.owns j ys q
   have ne:b≠a:=fun z=>by subst z; exact h (k.dist i j xs ys b hi q h1 g1)
   exact ⟨b,vs,g1,hu b _ ne g2,hfree b g3 (.inr (by rw [g2]; exact Option.some_ne_none _)),g4,g5.mono x.sf⟩
 ·have back:∀ (m:Nat) ys,(ρ.set i (.own xs'))[m]? = some (.own ys)->∃ ws,ρ[m]? = some (.own ws):=fun m ys e=>by
   by_cases h:i=m
   ·subst h; exact ⟨xs,hi⟩
   ·rw [List.getElem?_set_ne h] at e; exact ⟨ys,e⟩
  obtain ⟨w1,e1⟩:=back j ys q1
  obtain ⟨w2,e2⟩:=back l zs q2
  exact k.dist j l w1 w2 b e1 e2 q3 q4
 ·exact k.dic.to x.sf (fun b φ e1 e2 e3=>by
   have ne:b≠a:=fun z=>by subst z; rw [h2] at e1; cases e1
   exact ⟨hu b _ ne e1,hfree b e2 (.inr (by rw [e1]; exact Option.some_ne_none _))⟩) (aME fun _ z=>nomatch z)
section
variable {X:Cx} {ρ:Rho} {xs xs' ds:List D} {es:List Expr} {d:D} {pos p py cpos:Pos} {N:List Str} {sc:Scope} {x y:Str}
theorem FRunM.uptoE {q:Addr} {tg:Expr} {body:List Stmt} {ρ':Rho} (R:Nat->Rho) (L:Nat->List D) (h:∀ (j:Nat) d,ds[j]? = some d->∃ ρ1,EvG X (R j) tg d ρ1/\EvM X q ρ1 body (.nx (R (j+1))) (L j) (L (j+1))) (e0:R 0=ρ) (l0:L 0=xs) (e1:R ds.length=ρ') (l1:L ds.length=xs'):FRunM X q tg body ds ρ xs ρ' xs':=by
 have:=FRunM.upto (X:=X) (p:=q) (tg:=tg) (body:=body) R L ds 0 fun j d e=>by rw [Nat.zero_add]; exact h j d e
 rw [Nat.zero_add,e0,l0,e1,l1] at this
 exact this
theorem EvM.weak {q:Addr} {sts:List Stmt} {ρ1 ρ2:Rho} (h:EvM X q ρ sts (.nx ρ1) xs xs') (w:Weak ρ1 ρ2):EvM X q ρ sts (.nx ρ2) xs xs':=fun B F H σ E us l k pq=>h B F H σ E us l k fun F' H' σ' ws k' r s=>pq F' H' σ' ws (k'.weak w) r s
end
abbrev Tb:=List (Addr × List D)
theorem aWH (x:Int) (k:Nat):Builtin.bitAnd x (2 ^ k - 1)=x % 2 ^ k:=by
 have e:((2:Int) ^ k - 1)=((2 ^ k - 1:Nat):Int):=by
  have:1<=2 ^ k:=Nat.one_le_two_pow
  rw [Int.natCast_sub this,Int.natCast_pow]; rfl
 have hp:(0:Int)<=2 ^ k - 1:=by rw [e]; exact Int.natCast_nonneg _
 have et:((2:Int) ^ k - 1).toNat=2 ^ k - 1:=by rw [e]; exact Int.toNat_natCast _
 have ek:((2 ^ k:Nat):Int)=(2:Int) ^ k:=by rw [Int.natCast_pow]; rfl
 by_cases hx:0<=x
 ·rw [bitAnd_pp hx hp,et,Nat.and_two_pow_sub_one_eq_mod,Int.natCast_emod,ek,Int.toNat_of_nonneg hx]
 ·rw [bitAnd_np hx hp,et,Nat.and_comm,Nat.and_two_pow_sub_one_eq_mod,Int.natCast_emod,ek]
  unfold Builtin.bitNot
  rw [Int.toNat_of_nonneg (by omega)]
  have hpos:(0:Int) < 2 ^ k:=by rw [<- ek]; exact Int.natCast_pos.mpr (Nat.two_pow_pos k)
  generalize (2:Int) ^ k=m at *
  have h1:=Int.emod_nonneg (-x - 1) (Int.ne_of_gt hpos)
  have h2:=Int.emod_lt_of_pos (-x - 1) hpos
  have h3:=Int.mul_ediv_add_emod (-x - 1) m
  have h4:x=m - 1 - (-x - 1) % m+m * (-((-x - 1) / m) - 1):=by
   have:m * (-((-x - 1) / m) - 1) = - (m * ((-x - 1) / m)) - m:=by rw [Int.mul_sub,Int.mul_neg,Int.mul_one]
   omega
  have h5:x % m=(m - 1 - (-x - 1) % m) % m:=by
   conv=>lhs; rw [h4]
   rw [Int.add_mul_emod_self_left]
  have h6:(m - 1 - (-x - 1) % m) % m=m - 1 - (-x - 1) % m:=Int.emod_eq_of_lt (by omega) (by omega)
  rw [h5,h6]
section
variable {X:Cx} {ρ:Rho} {e a b:Expr} {d:D} {pos p apos cpos:Pos} {N:List Str} {sc:Scope} {x:Str}
theorem aZU {i:Int} {k:Nat} (ha:EvE X ρ a (.int i)) (hb:EvE X ρ b (.int (2 ^ k - 1))):EvE X ρ (.BinOp a .BitAnd b pos) (.int (i % 2 ^ k)):=aNQ eMB ha hb (aWH i k)
end
section
variable {X:Cx} {ρ:Rho} {a b:Expr} {pos p:Pos} {N:List Str} {sc:Scope} {x:Str}
theorem aXY (t:At X N sc) {p:PyData} {qs:List PyData} (sp:p.canLay0=true) (sd:p.depth<=62) (sq:PyData.canLayAll0 qs=true):OpR X (compareOp .In) (fun x y H Q=>RdP X H x p/\RdP X H y (.tuple qs)/\Q (.bl (qs.any fun y=>PyData.eqv y p)) H):=by
 intro pins s σ H x y v u Q I rx ry h
 obtain ⟨h1,h2,h3⟩:=h
 obtain ⟨as,r1⟩:=h1 sp H (.refl _) pins σ s v I rx
 obtain ⟨bs,r2⟩:=h2 (by simpa [PyData.canLay0] using sq) H (.refl _) pins σ s u I ry
 refine SeqAt.in_tuple_reads r2 r1 sq sp ?_ ⟨.bl _,H,I,rfl,h3⟩
 have hu:=t.un
 have:min (PyData.depthAll qs) p.depth<=p.depth:=Nat.min_le_right _ _
 omega
theorem aJP (t:At X N sc) {d:D} {xs:List D} {r:Bool} (ha:EvE X ρ a d) (hb:EvE X ρ b (.tup xs)) (sp:(toP d).canLay0=true) (sd:(toP d).depth<=62) (sq:PyData.canLayAll0 (toPs xs)=true) (he:((toPs xs).any fun y=>PyData.eqv y (toP d))=r)
  (hm:behindInMarks .In b=false:=by rfl):EvT X ρ (.Compare a [.In] [b] pos) r:=
 .of (vY (aXY t sp sd sq) yX yX hm) fun B F H σ Q k q=>eDQ (EvE.p ha) (EvE.p hb) k fun x y F' H' x' rx ry=>⟨rx,ry,r,by rw [he],q F' H' x'⟩
end
section
variable {X:Cx} {ρ:Rho} {a b:Expr} {pos p:Pos} {N:List Str} {sc:Scope} {x:Str}
theorem vR {z:Str} {i:Int} {c:Nat} (ha:EvE X ρ a (.str z)) (hb:EvE X ρ b (.int i)) (hz:z.length<=sizeLine) (h:atI z.cps.toList i=some c) (hs:aGH b:=by intro _ _; rfl):EvE X ρ (.Subscript a b pos) (.str ⟨#[c]⟩):=
 .of (eCJ eMW yX yX hs) fun B F H σ Q k q=>two ha hb k fun x y F' H' x' rx ry=>by
  cases rx; cases ry
  exact ⟨z,i,c,rfl,rfl,hz,h,q _ F' H' x' (.str _)⟩
theorem eGZ (t:At X N sc) {p:PyData} {qs:List PyData} (sp:p.canLay0=true) (sd:p.depth<=62) (sq:PyData.canLayAll0 qs=true):OpR X (compareOp .NotIn) (fun x y H Q=>RdP X H x p/\RdP X H y (.tuple qs)/\Q (.bl (!qs.any fun y=>PyData.eqv y p)) H):=by
 intro pins s σ H x y v u Q I rx ry h
 obtain ⟨h1,h2,h3⟩:=h
 obtain ⟨as,r1⟩:=h1 sp H (.refl _) pins σ s v I rx
 obtain ⟨bs,r2⟩:=h2 (by simpa [PyData.canLay0] using sq) H (.refl _) pins σ s u I ry
 refine SeqAt.notIn_tuple_reads r2 r1 sq sp ?_ ⟨.bl _,H,I,rfl,h3⟩
 have hu:=t.un
 have:min (PyData.depthAll qs) p.depth<=p.depth:=Nat.min_le_right _ _
 omega
theorem eIZ (t:At X N sc) {d:D} {xs:List D} {r:Bool} (ha:EvE X ρ a d) (hb:EvE X ρ b (.tup xs)) (sp:(toP d).canLay0=true) (sd:(toP d).depth<=62) (sq:PyData.canLayAll0 (toPs xs)=true) (he:(!(toPs xs).any fun y=>PyData.eqv y (toP d))=r)
  (hm:behindInMarks .NotIn b=false:=by rfl):EvT X ρ (.Compare a [.NotIn] [b] pos) r:=
 .of (vY (eGZ t sp sd sq) yX yX hm) fun B F H σ Q k q=>eDQ (EvE.p ha) (EvE.p hb) k fun x y F' H' x' rx ry=>⟨rx,ry,r,by rw [he],q F' H' x'⟩
end
def EvEM (X:Cx) (q:Addr) (ρ:Rho) (e:Expr) (d:D) (xs xs':List D):Prop:=∀ (B:B0) (F H:Hp) (σ:St) (Q:VK) (us:List V),Lent X.K B q F us xs->Ok X.K B F H σ ρ ->
 (∀ v F' H' us',Ext (UpB ⟨F,H⟩ q us') F' H'->RepL X.K F' us' xs'->Rep X.K F' v d->Q v H')->wE X e σ H Q
def eOM (X:Cx) (q:Addr) (ρ:Rho) (es:List Expr) (ds:List D) (xs xs':List D):Prop:=PlA es/\∀ (B:B0) (F H:Hp) (σ:St) (Q:List V->Hp->Prop) (us:List V),Lent X.K B q F us xs->Ok X.K B F H σ ρ ->
 (∀ vs F' H' us',Ext (UpB ⟨F,H⟩ q us') F' H'->RepL X.K F' us' xs'->RepL X.K F' vs ds->Q vs H')->wA X es σ H Q
def eOX (X:Cx) (q:Addr) (ρ:Rho) (e:Expr) (b:Bool) (xs:List D):Prop:=∀ (B:B0) (F H:Hp) (σ:St) (Q:Bool->Hp->Prop) (us:List V),Lent X.K B q F us xs->Ok X.K B F H σ ρ ->
 (∀ F' H',Ext ⟨F,H⟩ F' H'->Q b H')->wT X e σ H Q
theorem aWU {F H F1 H1:Hp} {q:Addr} {us:List V} (x:Ext (UpB ⟨F,H⟩ q us) F1 H1) (hf:F q=none):F1 q=none:=by
 cases e:F1 q with
 | none=>rfl
 | some o=>
  rcases x.nw q (by rw [e]; exact Option.some_ne_none o) with z | z
  ·exact absurd hf z
  ·have z':upd H q (.lst us) q=none:=z
   rw [yH] at z'; cases z'
theorem Ext.reUp {F H F1 H1:Hp} {q:Addr} {us ws:List V} (x:Ext (UpB ⟨F,H⟩ q us) F1 H1) (hf:F q=none):Ext (UpB ⟨F,H⟩ q ws) F1 (upd H1 q (.lst ws)):=by
 have h1:=aWU x hf
 refine ⟨fun b u z=>?_,fun b u z=>?_,x.sf,fun a z=>?_⟩
 ·have ne:b≠q:=fun w=>by subst w; rw [h1] at z; cases z
  rw [yI ne]; exact x.sub b u z
 ·have z':upd H q (.lst ws) b=some u:=z
  by_cases ne:b=q
  ·subst ne; rw [yH] at z' ⊢; exact z'
  ·rw [yI ne] at z' ⊢; exact x.sh b u (by show upd H q (.lst us) b=some u; rw [yI ne]; exact z')
 ·have ne:a≠q:=fun w=>by subst w; exact z h1
  rcases x.nw a z with y | y
  ·exact .inl y
  ·refine .inr ?_
   have y':upd H q (.lst us) a=none:=y
   show upd H q (.lst ws) a=none
   rw [yI ne] at y' ⊢; exact y'
theorem Ext.tM {F H F1 H1 F2 H2:Hp} {q:Addr} {us ws:List V} (x:Ext (UpB ⟨F,H⟩ q us) F1 H1) (hf:F q=none) (y:Ext (UpB ⟨F1,H1⟩ q ws) F2 H2):Ext (UpB ⟨F,H⟩ q ws) F2 H2:=(x.reUp hf).trans y
theorem Ext.toM {F H F' H':Hp} {q:Addr} {us:List V} (x:Ext ⟨F,H⟩ F' H') (h:H q=some (.lst us)):Ext (UpB ⟨F,H⟩ q us) F' H':=by rw [UpB.same (B:=⟨F,H⟩) h]; exact x
section
variable {X:Cx} {q:Addr} {ρ ρ' ρ1:Rho} {st:Stmt} {sts qU ss us':List Stmt} {o:Out} {xs xs1 xs2 xs' ds:List D} {tg e a b c:Expr} {es:List Expr} {d:D} {pos p py ps:Pos} {N:List Str} {sc:Scope} {x y:Str}
theorem Ok.extM {K:PySem.W.Frag} {B:B0} {F H F' H':Hp} {σ:St} {us ws:List V} (k:Ok K B F H σ ρ) (l:Lent K B q F us xs) (x:Ext (UpB ⟨F,H⟩ q ws) F' H'):Ok K (UpB B q ws) F' H' σ ρ:=(k.chgAt l).ext x
theorem Lent.ff {K:PySem.W.Frag} {B:B0} {F H:Hp} {σ:St} {us:List V} (l:Lent K B q F us xs) (k:Ok K B F H σ ρ):F q=none:=l.free k.toExt
theorem EvE.em (h:EvE X ρ e d):EvEM X q ρ e d xs xs:=fun B F H σ Q us l k w=>h B F H σ Q k fun v F' H' x r=>w v F' H' us (x.toM (k.sh _ _ l.st)) (l.rep.mono x.sf) r
theorem EvA.am (h:EvA X ρ es ds):eOM X q ρ es ds xs xs:=⟨h.1,fun B F H σ Q us l k w=>h.2 B F H σ Q k fun v F' H' x r=>w v F' H' us (x.toM (k.sh _ _ l.st)) (l.rep.mono x.sf) r⟩
theorem aSZ (h1:EvEM X q ρ e d xs xs1) (h2:eOM X q ρ es ds xs1 xs') (hs:Pl e:=by intro _ _; rfl):eOM X q ρ (e :: es) (d :: ds) xs xs':=
 ⟨⟨hs,h2.1⟩,fun B F H σ Q us l k w=>.mk fun pos pins s I=>zL yX aVP (hs _ _) pos pins s σ H Q I (h1 B F H σ _ us l k fun v F1 H1 u1 x1 r1 rv=>h2.2 (UpB B q u1) F1 H1 σ _ u1 ⟨yH,l.fr,r1⟩ (k.extM l x1) fun vs F2 H2 u2 x2 r2 rvs=>w _ F2 H2 u2 (x1.tM (l.ff k) x2) r2 (.cons (rv.mono x2.sf) rvs))⟩
theorem aEG [FnT X] (t:At X N sc) (i:Nat) {pos':Pos} (h:EvEM X q ρ e d xs xs') (hi:N[i]? = some x:=by rfl) (hx:aRB sc x=true:=by rfl) (hs:swapsWith e (some (.Name x pos')) pos.line X.env=pure false:=by rfl) :
  aTC X q ρ (.Assign [.Name x pos'] e pos) (.nx (ρ.set i (.val d))) xs xs':=fun B F H σ E us l k w=>
 (.mk fun pins s I=>aIM (i:=i) t.nd (t.ix hi) (t.loc hx) yX hs hfT pins s σ H E I (h B F H σ _ us l k fun v F' H' u1 x' r rv=>w F' H' _ u1 ((k.extM l x').setVal i rv) r x'.sf))
theorem eFF (h:EvEM X q ρ e d xs xs'):aTC X q ρ (.Return (some e) pos) (.rt d) xs xs':=fun B F H σ E us l k w=>
 (.mk fun pins s I=>aPC yX pins s σ H E I (h B F H σ _ us l k fun v F' H' u1 x' r rv=>w v F' H' u1 (k.extM l x').toExt r rv))
theorem eCQ (h1:aTC X q ρ st (.rt d) xs xs'):EvM X q ρ (st :: qU) (.rt d) xs xs':=fun B F H σ E us l k w=>
 (.mk fun pins s I=>vH aWO jF pins s σ H E I (h1 B F H σ _ us l k w))
theorem EvT.l {r:Bool} (h:EvT X ρ e r):eOX X q ρ e r xs:=fun B F H σ Q us l k w=>h B F H σ Q k w
theorem aZD {B:B0} {F F1:Hp} {E:aFS} (w:PostM X.K B q F E xs' o) (s:Same F F1):PostM X.K B q F1 E xs' o:=by
 cases o with
 | nx ρ'=>exact fun F' H' σ' ws k r s'=>w F' H' σ' ws k r (s.trans s')
 | rt d=>exact w
theorem aKS (hc:eOX X q ρ c true xs) (h:EvM X q ρ ss o xs xs'):aTC X q ρ (.If c ss us' pos) o xs xs':=fun B F H σ E us l k w=>
 (.mk fun pins s I=>aPD aKR jF jF pins s σ H E I (hc B F H σ _ us l k fun F1 H1 x1=>by rw [if_pos rfl]; exact h B F1 H1 σ E us (l.ext x1) (k.ext x1) (aZD w x1.sf)))
theorem aHA (hc:eOX X q ρ c false xs) (h:EvM X q ρ us' o xs xs'):aTC X q ρ (.If c ss us' pos) o xs xs':=fun B F H σ E us l k w=>
 (.mk fun pins s I=>aPD aKR jF jF pins s σ H E I (hc B F H σ _ us l k fun F1 H1 x1=>by rw [if_neg Bool.false_ne_true]; exact h B F1 H1 σ E us (l.ext x1) (k.ext x1) (aZD w x1.sf)))
theorem eFG {tk:Tok}:eIF (Sum.inr "xs") (.str "xs" tk)=true:=by show Value.isStrOf "xs" (.str "xs" tk)=true; simp [Value.isStrOf]
theorem eKM (t:At X N sc) {i:Nat} {j:Nat} {p2:Pos} (hr:ρ[i]? = some (.val (.stt q))) (hN:N[i]? = some x) (hv:aDQ sc x=true) (hx:qK x=true) {B:B0} {F H:Hp} {σ:St} {Q:VK} (k:Ok X.K B F H σ ρ) (h:Q (.ref q) H) :
  wE X (.Subscript (.Name x py) (.Constant (.str "xs") j p2) pos) σ H Q:=.mk fun pins s I=>by
 obtain ⟨v,h1,h2⟩:=k.vals i _ hr
 cases h2 with
 | @stt a _ e=>
 refine Subscript_ (thn (aVO t hN hv hx pins s σ H (fun v H1=>v = .ref a/\H1=H) I ⟨_,h1,rfl,rfl⟩) fun u s1 ⟨v,H1,I1,rv,ev,eh⟩=>?_)
 subst ev; subst eh
 cases (show u=Value.ref a from rv)
 refine thn (aYP pins s1 σ H1 (fun v H2=>v = .str "xs" /\ H2=H1) I1 ⟨rfl,rfl⟩) fun iv s2 ⟨w,H2,I2,rw',ew,eh⟩=>?_
 subst ew; subst eh
 obtain ⟨tk,rfl⟩:=(show ∃ t,iv=Value.str "xs" t from rw')
 obtain ⟨z,hsm,vs,rel,dd⟩:=(show ObjOk X.prog X.w H2 s2.heap a (.dK [(Sum.inr "xs",.ref q)]) from I2.hok a _ (k.sub _ _ e))
 cases rel with
 | @cons _ kv _ vs' hkv tl=>
 cases tl
 obtain ⟨kk,w'⟩:=kv
 obtain ⟨e1,e2⟩:=hkv
 have e1':(Sum.inr (Str.ofString "xs"):Key)=kk:=e1
 subst e1'
 cases (show w' = Value.ref q from e2)
 refine subscriptTail_builtinR (x:=.ref q) dd.typeIs PySem.F.slot_dict_getitem.lookup ?_ (by rfl)
 exact wpAny_getItem_of (knd:=aIU X.prog X.w) (Q:=fun r s'=>r = .ref q/\EP X pins σ Q r s') (k:=Sum.inr "xs") (eFG (tk:=tk)) dd.mapOf (by simp [valueAt]) ⟨rfl,.ref q,H2,I2.tok _,rfl,h⟩
theorem aTH (t:At X N sc) (i:Nat) {j:Nat} {p1 p2 p3:Pos} {r:Bool} (hr:ρ[i]? = some (.val (.stt q))) {ns:List Int} (hx0:xs=ns.map D.int) (he:r=ns.isEmpty) (hN:N[i]? = some x:=by rfl) (hv:aDQ sc x=true:=by rfl) (hx:qK x=true:=by rfl) :
  eOX X q ρ (.Compare (.Subscript (.Name x py) (.Constant (.str "xs") j p2) p1) [.Eq] [.List [] p3] pos) r xs:=fun B F H σ Q us l k w=>.mk fun pins s I=>by
 subst hx0
 have sh:SeqAt.shaped (PyData.list (toPs (ns.map D.int)))=true:=by rw [aAK]; exact PySem.W.shaped_ints ns
 refine vY (eCF t (p:=.list (toPs (ns.map D.int))) (q:=.list []) sh rfl) yX yX (qY _ (by decide) (by decide)) pins s σ H Q I ?_
 refine eKM t hr hN hv hx k ?_
 refine (yQ (X:=X) (ρ:=ρ) yE).toQ.p B F H σ _ k fun v F' H' x' rd=>?_
 refine ⟨fun hc H2 s2 pins σ s u I ru=>?_,rd,r,?_,w F' H' x'⟩
 ·cases (show u=Value.ref q from ru)
  exact SqB.reads (k:=true) I (x'.sub.trans s2) (show SqL _ _ _ _ from SqL.of (s2 _ _ (x'.sh _ _ (k.sh _ _ l.st)))) (l.rep.mono x'.sf) hc
 ·subst he
  cases ns with
  | nil=>rfl
  | cons n ns=>rfl
theorem eNV (t:At X N sc) (i:Nat) {j:Nat} {p1 p2 apos cpos:Pos} (hr:ρ[i]? = some (.val (.stt q))) (hxs:xs=xs' ++ [d]) (hN:N[i]? = some x:=by rfl) (hv:aDQ sc x=true:=by rfl) (hx:qK x=true:=by rfl) (hline:(apos.endLine == cpos.line)=true:=by rfl) :
  EvEM X q ρ (.Call (.Attribute (.Subscript (.Name x py) (.Constant (.str "xs") j p2) p1) "pop" apos) [] [] cpos) d xs xs':=fun B F H σ Q us l k w=>.mk fun pins s I=>by
 subst hxs
 refine aTZ PySem.F.plainAttrs_list PySem.F.slot_list_pop PySem.F.type_list_pop aYX yX rfl hline pins s σ H Q I ?_
 refine eKM t hr hN hv hx k ?_
 have h2:H q=some (.lst us):=k.sh _ _ l.st
 refine ⟨.inl ⟨rfl,_,SqL.of h2⟩,?_⟩
 have hl:=l.rep.length
 obtain ⟨v,hw,rw'⟩:=l.rep.get (i:=xs'.length) (d:=d) (by simp)
 have hll:us.length - 1=xs'.length:=by rw [hl]; simp
 refine ⟨q,us,v,rfl,rfl,h2,by rw [hll]; exact hw,?_⟩
 have hf:=l.ff k
 have rd:=l.rep.dropLast
 rw [List.dropLast_concat] at rd
 exact w v F _ us.dropLast ⟨fun b u z=>by rw [yI (fun e=>by subst e; rw [hf] at z; cases z)]; exact k.sub b u z,fun b u z=>z,.refl _,fun a z=>.inl z⟩ rd rw'
def spS (K:PySem.W.Frag) (C:List D->List D->D->List D->Prop):Sp:=fun vs H Q _=>∃ q F ds d us xs xs',Same F H/\H q=some (.lst us)/\F q=none/\RepL K F us xs/\RepL K F vs (.stt q :: ds)/\C ds xs d xs'/\∀ v F' H' us',Ext (UpB ⟨F,H⟩ q us') F' H'->RepL K F' us' xs'->Rep K F' v d->Q v H'
def aAT (X:Cx) (x:Str) (C:List D->List D->D->List D->Prop):Prop:=∃ (f:Addr) (fd:FuncData) (ps:List Str) (k:Nat),qL X.prog X.w X.K X.mg X.base CX0 k f fd ps (spS X.K C)/\Room k X.A/\X.mg x=some (.ref f)/\PySem.W.keepIn X.K (.ref f)=true/\Binds X.K fd ps []
theorem aFN {P:Program} (htree:P.given.tree=none) {w:World} {K:PySem.W.Frag} {mg:Str->Option Value} {base:Heap} {x qual:Str} {st:Stmt} {f:Addr} {fd:FuncData} {N ps:List Str} {k:Nat} {C:List D->List D->D->List D->Prop} (F:Fun K x qual st f fd) (S:yL N ps (yC st))
  (len:∀ ds xs d xs',C ds xs d xs'->ds.length+1=ps.length)
  (body:∀ X,DefX P w K mg base k N (yC st) X->∀ q ds xs d xs',C ds xs d xs'->EvM X q (.val (.stt q) :: ds.map Sl.val++List.replicate (N.length - (ds.length+1)) Sl.un) (yF st) (.rt d) xs xs'):qL P w K mg base CX0 (k+1) f fd ps (spS K C):=by
 refine F.ok S (fun vs H Q E h=>?_) (fun cdv A outer s H vs Q E hr h=>?_)
 ·obtain ⟨p,F',ds,d,us,xs,xs',sub,hp,hf,ru,r,hC,q⟩:=h
  rw [r.length]; exact len ds xs d xs' hC
 ·obtain ⟨p,F',ds,d,us,xs,xs',sub,hp,hf,ru,r,hC,q⟩:=h
  refine ⟨_,jF,?_⟩
  have hx:DefX P w K mg base k N (yC st) (aUV CX0 P w K mg base N qual (yC st) f cdv A outer s H E).nox:=
   ⟨⟨rfl,rfl,rfl,S.nd,rfl,hr.units,hr.dp100,htree,⟨_,_,rfl,S.gen,S.co,rfl,rfl⟩⟩,rfl,rfl,rfl,rfl,rfl,hr,⟨fun _=>rfl⟩,rfl,rfl⟩
  have hk:Ok K ⟨F',H⟩ F' H (start N vs) (.val (.stt p) :: ds.map Sl.val++List.replicate (N.length - (ds.length+1)) Sl.un):=by
   unfold start
   rw [r.length]
   exact aCH sub r _
  exact body _ hx p ds xs d xs' hC ⟨F',H⟩ F' H _ _ us ⟨hp,hf,ru⟩ hk fun v F2 H2 us2 x2 r2 rv=>q v F2 H2 us2 x2 r2 rv
theorem DefX.calleeS {P:Program} {w:World} {K:PySem.W.Frag} {mg:Str->Option Value} {base:Heap} {k j:Nat} {f:Addr} {fd:FuncData} {ps:List Str} {C:List D->List D->D->List D->Prop} (h:DefX P w K mg base k N sc X)
  (F:qL P w K mg base CX0 j f fd ps (spS K C)) (hj:j<=k) (hm:mg x=some (.ref f)) (hk:PySem.W.keepIn K (.ref f)=true) (hb:Binds K fd ps []):aAT X x C:=by
 obtain ⟨h0,rfl,rfl,rfl,rfl,rfl,hr,_⟩:=h
 exact ⟨f,fd,ps,j,F,hr.mono hj,hm,hk,hb⟩
theorem vJ (t:At X N sc) {C:List D->List D->D->List D->Prop} (h:aAT X x C) (ha:eOM X q ρ (e :: es) (.stt q :: ds) xs xs1) (hC:C ds xs1 d xs') (hg:sc.names.lookup x=some .globalImplicit:=by rfl) (hdb:(x == ("__debug__" : Str))=false:=by rfl) :
  EvEM X q ρ (.Call (.Name x p) (e :: es) [] pos) d xs xs':=fun B F0 H σ Q us l k w=>.mk fun pins s I=>by
 obtain ⟨f,fd,ps,kk,F,hr',hm,hk,hb⟩:=h
 have pz:aBZ CX0 X E0:=aPJ
 refine aEQ F hr' (vZ t hg) hm hk hb .nil pz aVP hdb (ha.1.1 _ _) (PlA.any ha.1.2) pins s σ H Q I (ha.2 B F0 H σ _ us l k fun vs F1 H1 u1 x1 r1 rv=>?_)
 have k1:=k.extM l x1
 refine ⟨q,F1,ds,d,u1,xs1,xs',k1.sub,k1.sh _ _ yH,aWU x1 (l.ff k),r1,by rw [List.append_nil]; exact rv,hC,fun v F2 H2 u2 x2 r2 rv2=>w v F2 H2 u2 (x1.tM (l.ff k) x2) r2 rv2⟩
theorem eKN (t:At X N sc) {j:Nat} {p1 p2:Pos} (h1:EvN X ρ e xs) {B:B0} {F H:Hp} {σ:St} {Q:VK} (k:Ok X.K B F H σ ρ)
  (w:∀ a l vs F' H',Ext ⟨F,H⟩ F' H'->H l=none->H' l=some (.lst vs)->F' l=none->RepL X.K F' vs xs->Rep X.K F' (.ref a) (.stt l)->Q (.ref a) H'):wE X (.Dict [some (.Constant (.str "xs") j p1)] [e] p2) σ H Q:=.mk fun pins s I=>by
 rw [arm_eval_Dict,zip_pairTrees [some (.Constant (.str "xs") j p1)] [e] X.env p2 rfl rfl]
 have hpl:(pairTrees [some (.Constant (.str "xs") j p1)] [e] X.env p2).length=1:=pairTrees_length _ _ X.env p2 rfl rfl
 rw [dictDisplay_pairs _ (fun z=>by rw [z] at hpl; cases hpl) (by omega)]
 refine wpAny_bind (wpAny_standAt (wpAny_bind ?_))
 unfold subDict
 refine wpAny_bind (wpAny_alloc ?_)
 have hn:=I.hok.fresh (Nat.le_refl s.heap.objs.size)
 have hbg:sysModules < s.heap.objs.size:=Nat.lt_trans (by decide) (show mainGlobals < s.heap.objs.size from (I.mod.glob.keeps I.bk).lt)
 have hsm:(s.heap.objs.size == sysModules)=false:=beq_eq_false_iff_ne.mpr (Ne.symm (Nat.ne_of_lt hbg))
 have I1:=I.laid (a:=s.heap.objs.size) (o:=.dK []) (h':=s.heap.push { cls:=.type "dict",data:=.dict #[] }) (t':=s.toks) (fun _ _ q=>Heap.get?_push_of_some _ q) (Nat.le_refl _) (show ObjOk X.prog X.w _ _ s.heap.objs.size (.dK []) from ⟨Nat.zero_le _,hsm,[],.nil,Heap.DictOf.new s.heap⟩)
 have x1:Ext ⟨F,H⟩ F (upd H s.heap.objs.size (.dK [])):=⟨k.sub.trans (yK hn),yK hn,.refl _,fun _ z=>.inl z⟩
 have hfa:F s.heap.objs.size=none:=k.sub.free hn
 refine wpAny_bind (wpAny_holding ?_)
 rw [if_pos (by omega)]
 generalize s.heap.objs.size=a at hn hsm I1 x1 hfa ⊢
 refine wpAny_bind ?_
 refine pairTrees_cons_walk (thn (aYP pins _ σ _ (fun v H2=>v = .str "xs" /\ H2=upd H a (.dK [])) I1 ⟨rfl,rfl⟩) fun u s1 ⟨v,H1,I2,rv,ev,eh⟩=>?_)
 subst ev; subst eh
 obtain ⟨tk,rfl⟩:=(show ∃ t,u=Value.str "xs" t from rv)
 refine thn (h1 B F _ σ (fun v H2=>∃ l vs F2,v = .ref l/\Ext ⟨F,upd H a (.dK [])⟩ F2 H2/\upd H a (.dK []) l=none/\H2 l=some (.lst vs)/\F2 l=none/\RepL X.K F2 vs xs) (k.ext x1) (fun l vs F2 H2 x2 g1 g2 g3 g4=>⟨l,vs,F2,rfl,x2,g1,g2,g3,g4⟩) pins s1 I2) fun u2 s2 ⟨v2,H2,I3,rv2,l,vs,F2,ev,x2,g1,g2,g3,g4⟩=>?_
 subst ev
 cases (show u2=Value.ref l from rv2)
 refine pairTrees_nil_walk ?_
 refine wpAny_holding (wpAny_bind ?_)
 have ha2:H2 a=some (.dK []):=x2.sh _ _ yH
 obtain ⟨z,_,vs0,rel,dd⟩:=(show ObjOk X.prog X.w H2 s2.heap a (.dK []) from I3.hok a _ ha2)
 cases rel
 rw [List.forIn_cons]
 refine wpAny_bind (wpAny_bind (wpAny_dictSet_pairs (knd:=aIU X.prog X.w) (k:=Sum.inr "xs") (eFG (tk:=tk)) dd (fun h' dd' sb=>?_) (Nat.zero_le _)))
 refine wpAny_pure ?_
 show wpAny _ _ (forIn [] PUnit.unit _) _ _ _
 rw [List.forIn_nil]
 refine wpAny_pure (wpAny_pure ?_)
 have hst:stored (K:=Key) [] (Sum.inr (Str.ofString "xs")) (Value.ref l)=[((Sum.inr (Str.ofString "xs"):Key),Value.ref l)]:=rfl
 rw [hst] at dd'
 have I4:Inv X pins σ (upd H2 a (.dK [(Sum.inr "xs",.ref l)])) { s2 with heap:=h',toks:=s2.toks+1 }:=I3.write (x:=a) (e:=a) (by rw [ha2]; exact True.intro) (.inl rfl) (fun c q hc w=>(sb.2 c hc).trans w) (let ⟨o,_,_,h1,_⟩:=dd'; ⟨o,h1⟩)
  (show ObjOk X.prog X.w _ _ a (.dK [(Sum.inr "xs",.ref l)]) from ⟨by show 1<=sizeLine; rw [sizeLine_eq]; decide,hsm,[((Sum.inr (Str.ofString "xs"):Key),Value.ref l)],.cons ⟨rfl,rfl⟩ .nil,dd'⟩)
 refine wpAny_pure (wpAny_pure ⟨.ref a,_,I4,rfl,?_⟩)
 have hf2:F2 a=none:=by
  cases e:F2 a with
  | none=>rfl
  | some o=>
   rcases x2.nw a (by rw [e]; exact Option.some_ne_none o) with w | w
   ·exact absurd hfa w
   ·have w':upd H a (.dK []) a=none:=w
    rw [yH] at w'; cases w'
 have x12:=x1.t x2
 have hla:l≠a:=fun z=>by subst z; rw [yH] at g1; cases g1
 have hl0:H l=none:=by rw [yI hla] at g1; exact g1
 refine w a l vs (upd F2 a (.dK [(Sum.inr "xs",.ref l)])) _ ⟨aMA x12.sub,fun c u z=>?_,x12.sf.trans (yK hf2),fun c z=>?_⟩ hl0 (by rw [yI hla]; exact g2) (by rw [yI hla]; exact g3) (g4.mono (yK hf2)) (.stt yH)
 ·have ne:c≠a:=fun e=>by subst e; have z':H c=some u:=z; rw [hn] at z'; cases z'
  rw [yI ne]; exact x12.sh c u z
 ·by_cases e:c=a
  ·subst e; exact .inr hn
  ·rw [yI e] at z; exact x12.nw c z
end
mutual
inductive GP (K:PySem.W.Frag):Value->PyData->Prop where
 | int (i:Int) (t:Tok):GP K (.int i t) (.int i)
 | str (x:Str) (t:Tok):GP K (.str x t) (.str x)
 | tup {a:Addr} {o:Obj} {its:Array Value} {n:Nat} {ps:List PyData}:K.lookup a=some o->o.cls = .type "tuple" -> o.data = .seq its n->GPs K its.toList ps->GP K (.ref a) (.tuple ps)
inductive GPs (K:PySem.W.Frag):List Value->List PyData->Prop where
 | nil:GPs K [] []
 | cons {v:Value} {vs:List Value} {p:PyData} {ps:List PyData}:GP K v p->GPs K vs ps->GPs K (v :: vs) (p :: ps)
end
mutual
theorem GP.reads {K:PySem.W.Frag} {h:Heap} (i:K.In h):∀ {v:Value} {p:PyData},GP K v p->∃ as,Reads h v p as
 | _,_,.int i t=>⟨_,.int i t⟩
 | _,_,.str x t=>⟨_,.str x t⟩
 | _,_,.tup e c d r=>by obtain ⟨as,ra⟩:=GPs.reads i r; exact ⟨_,.tuple (i _ _ e) c d ra⟩
theorem GPs.reads {K:PySem.W.Frag} {h:Heap} (i:K.In h):∀ {vs:List Value} {ps:List PyData},GPs K vs ps->∃ as,ReadsAll h vs ps as
 | _,_,.nil=>⟨_,.nil⟩
 | _,_,.cons a b=>by obtain ⟨as,ra⟩:=GP.reads i a; obtain ⟨bs,rb⟩:=GPs.reads i b; exact ⟨_,.cons ra rb⟩
end
section
variable {X:Cx} {ρ:Rho} {e a b c:Expr} {d:D} {pos p:Pos} {N:List Str} {sc:Scope} {x y:Str} {xs ys ds:List D}
theorem aNO (t:At X N sc) {l:Addr} {q:PyData} (hm:X.mg x=some (.ref l)) (hk:GP X.K (.ref l) q) (hg:sc.names.lookup x=some .globalImplicit:=by rfl) (hdb:(x == ("__debug__" : Str))=false:=by rfl):EvP X ρ (.Name x pos) q:=fun B F H σ Q k w=>.mk fun pins s I=>
 aRU (v:=.ref l) (vZ t hg) hm rfl hdb pins s σ H Q I (w _ F H (.refl k.sub) fun hc H' s' pins σ s u I ru=>by
  cases (show u=Value.ref l from ru)
  exact hk.reads I.kIn)
theorem eAB (t:At X N sc) {q:PyData} {qs:List PyData} {r:Bool} (ha:EvP X ρ a q) (hb:EvP X ρ b (.tuple qs)) (sp:q.canLay0=true) (sd:q.depth<=62) (sq:PyData.canLayAll0 qs=true) (he:(qs.any fun y=>PyData.eqv y q)=r)
  (hm:behindInMarks .In b=false:=by rfl):EvT X ρ (.Compare a [.In] [b] pos) r:=
 .of (vY (aXY t sp sd sq) yX yX hm) fun B F H σ Q k q=>eDQ ha hb k fun x y F' H' x' rx ry=>⟨rx,ry,r,by rw [he],q F' H' x'⟩
def Pk:D->Bool
 | .non=>true | .bl _=>true | .int _=>true | .str _=>true | .tup _=>true | .lst _=>true | .dic _=>true | _=>false
theorem eII {T:String} {k:Bool} (hk:PySem.W.kitOne X.K (.type "dict") (.type T)=some k) :
  aCM X (.builtin "isinstance") (fun xs H Q=>∃ x F kvs,xs=[x,.ty T]/\Same F H/\Rep X.K F x (.dic kvs)/\Q (.bl k) H):=by
 intro pins s σ H xs us Q I r h
 obtain ⟨v,F,kvs,rfl,sub,rv,q⟩:=h
 obtain ⟨u,w,rfl,ru,rw'⟩:=aWR r
 cases (show w=Value.type T from rw')
 cases rv with
 | @dic a ob _ zs hf _=>
 cases (show u=Value.ref a from ru)
 obtain ⟨_,_,o,h1,h2,_⟩:=DcRd.is I (.inr ⟨ob,sub _ _ hf⟩:DcRd H a zs)
 exact PySem.W.kia_one PySem.W.kitx_dict I.kIn ⟨o,h1,h2.1⟩ hk (fun z=>nomatch z) fun tk=>⟨.bl k,H,I.tok tk,rfl,q⟩
theorem eIU (t:At X N sc) {T:String} {k:Bool} {py:Pos} (bl:Blt X sc x (.builtin "isinstance")) (bt:Blt X sc y (.type T)) (ha:EvE X ρ a d) (hp:Pk d=true) (hk:PySem.W.kitOne X.K (tyD d) (.type T)=some k) (hpa:Pl a:=by intro _ _; rfl) :
  EvE X ρ (.Call (.Name x p) [a,.Name y py] [] pos) (.bl k):=by
 cases d with
 | dic kvs=>
  exact .of (aDS (eII hk) (vZ t bl.g) bl.m bl.v (zL yX (zL (aYQ (v:=.ty T) (vZ t bt.g) bt.m bt.v rfl bt.n bt.d) vD) (hpa _ _)) bl.n bl.d (hpa _ _) rfl) fun B F H σ Q k' q=>
   ha B F H σ _ k' fun v F' H' x' r=>⟨v,F',kvs,rfl,x'.sub,r,q _ F' H' x' (.bl k)⟩
 | non=>exact aEI t bl bt ha hk (hpa:=hpa)
 | bl _=>exact aEI t bl bt ha hk (hpa:=hpa)
 | int _=>exact aEI t bl bt ha hk (hpa:=hpa)
 | str _=>exact aEI t bl bt ha hk (hpa:=hpa)
 | tup _=>exact aEI t bl bt ha hk (hpa:=hpa)
 | lst _=>exact aEI t bl bt ha hk (hpa:=hpa)
 | scr _=>cases hp
 | exc _=>cases hp
 | exh _ _=>cases hp
 | adr _=>cases hp
 | stt _=>cases hp
def eQF:D->Bool
 | .str _=>true | _=>false
theorem eCY (t:At X N sc) {py:Pos} (bl:Blt X sc x (.builtin "isinstance")) (bt:Blt X sc y (.type "str")) (ha:EvE X ρ a d) (hp:Pk d=true) (hpa:Pl a:=by intro _ _; rfl):EvE X ρ (.Call (.Name x p) [a,.Name y py] [] pos) (.bl (eQF d)):=
 eIU t bl bt ha hp (by cases d <;> first | rfl | cases hp) hpa
end
section
variable {X:Cx} {ρ:Rho} {a b c e:Expr} {d:D} {pos p:Pos} {N:List Str} {sc:Scope} {x y:Str} {xs:List D}
theorem aDP {α:Type} [DecidableEq α] (u v:α):(u == v)=decide (u=v):=by
 by_cases h:u=v
 ·simp [h]
 ·simp [h]
theorem vK (w:Str):(toP (.str w)).depth<=62:=by simp [toP,PyData.depth]
theorem aAR {w:Str} (h:PyData.strOk w=true):(toP (.str w)).canLay0=true:=by simp [toP,PyData.canLay0,h]
theorem aED {w:Str} (h:PyData.strOk w=true):SeqAt.shaped (toP (.str w))=true:=by
 show ((toP (.str w)).canLay0 && decide ((toP (.str w)).depth<=64))=true
 rw [decide_eq_true (by have:=vK w; omega),aAR h]; rfl
theorem cl2 {u v:Str} (hu:PyData.strOk u=true) (hv:PyData.strOk v=true):PyData.canLayAll0 [.str u,.str v]=true:=by simp [PyData.canLayAll0,PyData.canLay0,hu,hv]
theorem jP (t:At X N sc) {u v:Str} (ha:EvE X ρ a (.str u)) (hb:EvE X ρ b (.str v)) (hu:PyData.strOk u=true) (hv:PyData.strOk v=true:=by decide +kernel):EvT X ρ (.Compare a [.Eq] [b] pos) (decide (u=v)):=
 aBW t ha.p hb.p (aED hu) (aED hv) (by show (u == v)=_; exact aDP u v)
theorem eFR (t:At X N sc) {u v:Str} (ha:EvE X ρ a (.str u)) (hb:EvE X ρ b (.str v)) (hu:PyData.strOk u=true) (hv:PyData.strOk v=true:=by decide +kernel):EvE X ρ (.Compare a [.Eq] [b] pos) (.bl (decide (u=v))):=
 eNO t ha.p hb.p (aED hu) (aED hv) (by show (u == v)=_; exact aDP u v)
theorem eRK (u v w:Str):([PyData.str u,.str v].any fun y=>PyData.eqv y (.str w))=(decide (w=u) || decide (w=v)):=by
 show ((u == w) || ((v == w) || false))=_
 rw [aDP,aDP,Bool.or_false,decide_eq_decide.mpr (eq_comm (a:=u)),decide_eq_decide.mpr (eq_comm (a:=v))]
theorem eNR (t:At X N sc) {u v w:Str} {k:Nat} {p1 p2 p3:Pos} {i j:Nat} (ha:EvE X ρ a (.str w)) (hw:PyData.strOk w=true) (hu:PyData.strOk u=true:=by decide +kernel) (hv:PyData.strOk v=true:=by decide +kernel):EvT X ρ (.Compare a [.In] [.Tuple [.Constant (.str u) i p1,.Constant (.str v) j p2] k p3] pos) (decide (w=u) || decide (w=v)):=
 aJP t (xs:=[.str u,.str v]) ha (yM (yB ev_str (yB ev_str yE))) (aAR hw) (vK w) (cl2 hu hv) (eRK u v w)
theorem eOF {xs:List D} (n:Nat) (h:xs[n]? = some d):atI xs (n:Int)=some d:=by
 unfold atI
 have hn:n < xs.length:=(List.getElem?_eq_some_iff.mp h).1
 rw [aUJ (j:=n) (by omega) (by omega) hn]; exact h
theorem eFP {i:Int} (n:Nat) (ha:EvE X ρ a (.tup xs)) (hb:EvE X ρ b (.int i)) (hi:i=(n:Int)) (h:xs[n]? = some d) (hs:aGH b:=by intro _ _; rfl):EvE X ρ (.Subscript a b pos) d:=
 zB ha.qt hb (by subst hi; exact eOF n h) hs
theorem eBF {i:Int} {ys:List D} (hi:i = -1\/i=((ys++[d]).length:Int) - 1):atI (ys++[d]) i=some d:=by
 unfold atI
 have hl:(ys++[d]).length=ys.length+1:=by simp
 rcases hi with rfl | rfl
 ·have:ixN (ys++[d]).length (-1)=some ys.length:=by
   unfold ixN; simp [hl]; omega
  rw [this]; simp
 ·rw [aUJ (j:=ys.length) (by omega) (by omega) (by omega)]; simp
end
section
variable {X:Cx} {ρ:Rho} {a b c e:Expr} {d:D} {pos p:Pos} {N:List Str} {sc:Scope} {u v w:Bool} {body qU els:List Stmt} {o:Out}
theorem eIX (ha:EvE X ρ a (.bl u)) (hb:u=true->EvE X ρ b (.bl v)):EvE X ρ (.BoolOp .And [a,b] pos) (.bl (u && v)):=by
 cases u with
 | true=>exact aZZ ha (eFO (hb rfl))
 | false=>exact eIW ha
theorem aLV (ha:EvT X ρ a u) (hb:u=false->EvT X ρ b v):EvT X ρ (.BoolOp .Or [a,b] pos) (u || v):=by
 cases u with
 | true=>exact EvW.toT (aLU ha)
 | false=>exact EvW.toT (aDG ha (aFO (hb rfl)))
theorem eNQ (ha:EvT X ρ a u) (hb:u=false->EvT X ρ b v) (hc:u=false->v=false->EvT X ρ c w):EvT X ρ (.BoolOp .Or [a,b,c] pos) (u || (v || w)):=by
 cases u with
 | true=>exact EvW.toT (aLU ha)
 | false=>cases v with
  | true=>exact EvW.toT (aDG ha (aLU (hb rfl)))
  | false=>exact EvW.toT (aDG ha (aDG (hb rfl) (aFO (hc rfl rfl))))
theorem aBL (ha:EvT X ρ a u) (hb:u=true->EvT X ρ b v):EvT X ρ (.BoolOp .And [a,b] pos) (u && v):=by
 cases u with
 | true=>exact EvW.toT (aDH ha (aGE (hb rfl)))
 | false=>exact EvW.toT (aET ha)
theorem eAC (ha:EvT X ρ a u) (hb:u=true->EvT X ρ b v) (hc:u=true->v=true->EvT X ρ c w):EvT X ρ (.BoolOp .And [a,b,c] pos) (u && (v && w)):=by
 cases u with
 | true=>cases v with
  | true=>exact EvW.toT (aDH ha (aDH (hb rfl) (aGE (hc rfl rfl))))
  | false=>exact EvW.toT (aDH ha (aET (hb rfl)))
 | false=>exact EvW.toT (aET ha)
theorem eNT (hc:EvT X ρ c u) (h1:u=true->EvSs X ρ body (.rt d)) (h2:u=false->EvSs X ρ qU (.rt d)):EvSs X ρ (.If c body [] pos :: qU) (.rt d):=by
 cases u with
 | true=>exact aBX (aBJ hc (h1 rfl))
 | false=>exact yG (wM hc qQ) (h2 rfl)
end
theorem WRun.scan {X:Cx} {c:Expr} {body:List Stmt} {d0:D} {σ:Type} (R:σ->Rho) (I F:σ->Prop) (μ:σ->Nat) (st:∀ s,I s->(EvT X (R s) c false/\F s)\/(EvT X (R s) c true/\(EvSs X (R s) body (.rt d0)\/∃ s',EvSs X (R s) body (.nx (R s'))/\I s'/\μ s' < μ s))):∀ (n:Nat) (s:σ),μ s<=n->I s->∃ m o,WRun X c body m (R s) o/\(o = .rt d0\/∃ s',o = .nx (R s')/\F s')
 | n,s,hn,hI=>by
  rcases st s hI with ⟨h1,h2⟩ | ⟨h1,h2 | ⟨s',h2,h3,h4⟩⟩
  ·exact ⟨0,_,.stop h1,.inr ⟨s,rfl,h2⟩⟩
  ·exact ⟨0,_,.ret h1 h2,.inl rfl⟩
  ·cases n with
   | zero=>omega
   | succ n=>
    obtain ⟨m,o,hr,ho⟩:=WRun.scan R I F μ st n s' (by omega) h3
    exact ⟨m+1,o,.step h1 h2 hr,ho⟩
theorem aQB {X:Cx} {N:List Str} {sc:Scope} {c:Expr} {body qU:List Stmt} {pos:Pos} {d0:D} {σ:Type} (t:At X N sc) (R:σ->Rho) (I F:σ->Prop) (μ:σ->Nat) (s0:σ) (h0:I s0) (st:∀ s,I s->(EvT X (R s) c false/\F s)\/(EvT X (R s) c true/\(EvSs X (R s) body (.rt d0)\/∃ s',EvSs X (R s) body (.nx (R s'))/\I s'/\μ s' < μ s)))
  (fin:∀ s,F s->EvSs X (R s) qU (.rt d0)):EvSs X (R s0) (.While c body [] pos :: qU) (.rt d0):=by
 obtain ⟨m,o,hr,ho⟩:=WRun.scan (X:=X) (c:=c) (body:=body) (d0:=d0) R I F μ st (μ s0) s0 (Nat.le_refl _) h0
 have run:=aIJ (pos:=pos) t ⟨m,hr⟩
 rcases ho with rfl | ⟨s',rfl,hf⟩
 ·exact aBX run
 ·exact yG run (fin s' hf)
def Glb (mg:Str->Option Value) (K:PySem.W.Frag) (x:Str) (q:PyData):Prop:=∃ l,mg x=some (.ref l)/\GP K (.ref l) q
theorem eNB (ns:List Int):ns=[]\/∃ m i,ns=m++[i]:=by
 cases h:ns.getLast? with
 | none=>exact .inl (List.getLast?_eq_none_iff.mp h)
 | some y=>obtain ⟨ys,e⟩:=List.getLast?_eq_some_iff.mp h; exact .inr ⟨ys,y,e⟩
theorem mod_lt {x:Int} {xs:List D} (h:xs≠[]):(x % (xs.length:Int)).toNat < xs.length:=by
 have:0 < xs.length:=List.length_pos_iff.mpr h
 have:=Int.emod_lt_of_pos x (show (0:Int) < (xs.length:Int) by omega)
 have:=Int.emod_nonneg x (show (xs.length:Int)≠0 by omega)
 omega
theorem eJJ {xs:List D} {n:Nat}:L2.EV.cutD xs (some (n:Int)) none=xs.drop n:=by
 unfold L2.EV.cutD
 rw [HT.sIx_none,HT.sIx_nat]
 by_cases h:n<=xs.length
 ·rw [Nat.min_eq_left h]; rw [<- List.length_drop,List.take_length]
 ·rw [Nat.min_eq_right (by omega),List.drop_eq_nil_of_le (Nat.le_refl _),List.drop_eq_nil_of_le (by omega)]; simp
structure LS where
 cs:Type
 ds:Type
 ov:cs->Addr->Option HO
 dom:∀ c c' a,ov c a=none->ov c' a=none
 rep:PySem.W.Frag->Hp->cs->ds->Prop
 mono:∀ {K:PySem.W.Frag} {F F':Hp} {c:cs} {s:ds},Same F F'->rep K F c s->rep K F' c s
def ovH (o:Addr->Option HO) (H:Hp):Hp:=fun a=>match o a with
 | some u=>some u
 | none=>H a
theorem aER {o:Addr->Option HO} {H:Hp} {a:Addr} {u:HO} (h:o a=some u):ovH o H a=some u:=by unfold ovH; rw [h]
theorem jH {o:Addr->Option HO} {H:Hp} {a:Addr} (h:o a=none):ovH o H a=H a:=by unfold ovH; rw [h]
def UpZ (S:LS) (B:B0) (c:S.cs):B0:=⟨B.F,ovH (S.ov c) B.H⟩
structure Ln (S:LS) (K:PySem.W.Frag) (B:B0) (F:Hp) (c:S.cs) (s:S.ds):Prop where
 st:∀ a u,S.ov c a=some u->B.H a=some u
 fr:∀ a u,S.ov c a=some u->B.F a=none
 rep:S.rep K F c s
section
variable {S:LS} {K:PySem.W.Frag} {B:B0} {F H F1 H1 F2 H2:Hp} {σ:St} {ρ:Rho} {c c1 c2:S.cs} {s s1 s2:S.ds} {a:Addr} {u:HO}
theorem UpZ.same (h:∀ a u,S.ov c a=some u->B.H a=some u):UpZ S B c=B:=by
 have:ovH (S.ov c) B.H=B.H:=funext fun a=>by
  cases e:S.ov c a with
  | none=>exact jH e
  | some u=>rw [aER e,h a u e]
 show (⟨B.F,ovH (S.ov c) B.H⟩:B0)=B
 rw [this]
theorem UpZ.up:UpZ S (UpZ S B c) c1=UpZ S B c1:=by
 have:ovH (S.ov c1) (ovH (S.ov c) B.H)=ovH (S.ov c1) B.H:=funext fun a=>by
  cases e:S.ov c1 a with
  | some u=>rw [aER e,aER e]
  | none=>rw [jH e,jH e,jH (S.dom c1 c a e)]
 show (⟨B.F,ovH (S.ov c1) (ovH (S.ov c) B.H)⟩:B0)=⟨B.F,ovH (S.ov c1) B.H⟩
 rw [this]
theorem LS.has (h:S.ov c1 a=some u) (c:S.cs):∃ v,S.ov c a=some v:=by
 cases e:S.ov c a with
 | some v=>exact ⟨v,rfl⟩
 | none=>rw [S.dom c c1 a e] at h; cases h
theorem Ln.free (l:Ln S K B F c s) (x:Ext B F H) (h:S.ov c1 a=some u):F a=none:=by
 obtain ⟨v,hv⟩:=LS.has h c
 cases e:F a with
 | none=>rfl
 | some o=>
  rcases x.nw a (by rw [e]; exact Option.some_ne_none o) with z | z
  ·exact absurd (l.fr a v hv) z
  ·rw [l.st a v hv] at z; cases z
theorem Ln.up (l:Ln S K B F c s) (r:S.rep K F1 c1 s1):Ln S K (UpZ S B c1) F1 c1 s1:=⟨fun a u h=>aER h,fun a u h=>by obtain ⟨v,hv⟩:=LS.has h c; exact l.fr a v hv,r⟩
theorem Ln.ext {F' H':Hp} (l:Ln S K B F c s) (x:Ext ⟨F,H⟩ F' H'):Ln S K B F' c s:=⟨l.st,l.fr,S.mono x.sf l.rep⟩
theorem Ok.chgZ (k:Ok K B F H σ ρ) (l:Ln S K B F c s):Ok K (UpZ S B c1) F (ovH (S.ov c1) H) σ ρ:=by
 have hf:∀ a u,S.ov c1 a=some u->F a=none:=fun a u h=>l.free k.toExt h
 have ho:∀ a,B.H a=none->S.ov c1 a=none:=fun a h=>by
  cases e:S.ov c1 a with
  | none=>rfl
  | some u=>obtain ⟨v,hv⟩:=LS.has e c; rw [l.st a v hv] at h; cases h
 refine ⟨⟨fun b u q=>?_,fun b u q=>?_,k.sf,fun a q=>?_⟩,k.len,k.vals,fun i ys h=>?_,k.dist,⟨fun i kvs h=>?_,k.dic.distD⟩⟩
 ·cases e:S.ov c1 b with
  | some v=>rw [hf b v e] at q; cases q
  | none=>rw [jH e]; exact k.sub b u q
 ·have q':ovH (S.ov c1) B.H b=some u:=q
  cases e:S.ov c1 b with
  | some v=>rw [aER e] at q' ⊢; exact q'
  | none=>rw [jH e] at q' ⊢; exact k.sh b u q'
 ·rcases k.nw a q with z | z
  ·exact .inl z
  ·refine .inr ?_
   show ovH (S.ov c1) B.H a=none
   rw [jH (ho a z)]; exact z
 ·obtain ⟨a,vs,h1,h2,h3,h4,h5⟩:=k.owns i ys h
  have e:=ho a h4
  exact ⟨a,vs,h1,by rw [jH e]; exact h2,h3,by show ovH (S.ov c1) B.H a=none; rw [jH e]; exact h4,h5⟩
 ·obtain ⟨a,es,h1,h2,h3,h4,h5⟩:=k.dic.dcts i kvs h
  have e:=ho a h4
  exact ⟨a,es,h1,by rw [jH e]; exact h2,h3,by show ovH (S.ov c1) B.H a=none; rw [jH e]; exact h4,h5⟩
theorem Ok.extZ (k:Ok K B F H σ ρ) (l:Ln S K B F c s) (x:Ext (UpZ S ⟨F,H⟩ c1) F1 H1):Ok K (UpZ S B c1) F1 H1 σ ρ:=(k.chgZ l).ext x
theorem eGF (x:Ext (UpZ S ⟨F,H⟩ c1) F1 H1) (hf:∀ a u,S.ov c1 a=some u->F a=none) (h:S.ov c2 a=some u):F1 a=none:=by
 obtain ⟨v,hv⟩:=LS.has h c1
 cases e:F1 a with
 | none=>rfl
 | some o=>
  rcases x.nw a (by rw [e]; exact Option.some_ne_none o) with z | z
  ·exact absurd (hf a v hv) z
  ·have z':ovH (S.ov c1) H a=none:=z
   rw [aER hv] at z'; cases z'
theorem Ext.reZ (x:Ext (UpZ S ⟨F,H⟩ c1) F1 H1) (hf:∀ a u,S.ov c1 a=some u->F a=none):Ext (UpZ S ⟨F,H⟩ c2) F1 (ovH (S.ov c2) H1):=by
 refine ⟨fun b u z=>?_,fun b u z=>?_,x.sf,fun a z=>?_⟩
 ·cases e:S.ov c2 b with
  | some v=>rw [eGF x hf e] at z; cases z
  | none=>rw [jH e]; exact x.sub b u z
 ·have z':ovH (S.ov c2) H b=some u:=z
  cases e:S.ov c2 b with
  | some v=>rw [aER e] at z' ⊢; exact z'
  | none=>
   rw [jH e] at z' ⊢
   exact x.sh b u (by show ovH (S.ov c1) H b=some u; rw [jH (S.dom c2 c1 b e)]; exact z')
 ·rcases x.nw a z with y | y
  ·exact .inl y
  ·refine .inr ?_
   have y':ovH (S.ov c1) H a=none:=y
   show ovH (S.ov c2) H a=none
   cases e:S.ov c1 a with
   | some v=>rw [aER e] at y'; cases y'
   | none=>rw [jH e] at y'; rw [jH (S.dom c1 c2 a e)]; exact y'
theorem Ext.tZ (x:Ext (UpZ S ⟨F,H⟩ c1) F1 H1) (hf:∀ a u,S.ov c1 a=some u->F a=none) (y:Ext (UpZ S ⟨F1,H1⟩ c2) F2 H2):Ext (UpZ S ⟨F,H⟩ c2) F2 H2:=(x.reZ hf).trans y
theorem Ext.toZ (x:Ext ⟨F,H⟩ F1 H1) (h:∀ a u,S.ov c a=some u->H a=some u):Ext (UpZ S ⟨F,H⟩ c) F1 H1:=by rw [UpZ.same (B:=⟨F,H⟩) h]; exact x
theorem Ln.now (l:Ln S K B F c s) (k:Ok K B F H σ ρ):∀ a u,S.ov c a=some u->H a=some u:=fun a u h=>k.sh _ _ (l.st a u h)
theorem Ln.ff (l:Ln S K B F c s) (k:Ok K B F H σ ρ):∀ a u,S.ov c1 a=some u->F a=none:=fun a u h=>l.free k.toExt h
end
def EvEZ (S:LS) (X:Cx) (ρ:Rho) (e:Expr) (d:D) (s s':S.ds):Prop:=∀ (B:B0) (F H:Hp) (σ:St) (Q:VK) (c:S.cs),Ln S X.K B F c s->Ok X.K B F H σ ρ ->
 (∀ v F' H' c',Ext (UpZ S ⟨F,H⟩ c') F' H'->S.rep X.K F' c' s'->Rep X.K F' v d->Q v H')->wE X e σ H Q
def eOZ (S:LS) (X:Cx) (ρ:Rho) (es:List Expr) (ds:List D) (s s':S.ds):Prop:=PlA es/\∀ (B:B0) (F H:Hp) (σ:St) (Q:List V->Hp->Prop) (c:S.cs),Ln S X.K B F c s->Ok X.K B F H σ ρ ->
 (∀ vs F' H' c',Ext (UpZ S ⟨F,H⟩ c') F' H'->S.rep X.K F' c' s'->RepL X.K F' vs ds->Q vs H')->wA X es σ H Q
def EvTZ (S:LS) (X:Cx) (ρ:Rho) (e:Expr) (b:Bool) (s s':S.ds):Prop:=∀ (B:B0) (F H:Hp) (σ:St) (Q:Bool->Hp->Prop) (c:S.cs),Ln S X.K B F c s->Ok X.K B F H σ ρ ->
 (∀ F' H' c',Ext (UpZ S ⟨F,H⟩ c') F' H'->S.rep X.K F' c' s'->Q b H')->wT X e σ H Q
def eBI (S:LS) (K:PySem.W.Frag) (B:B0) (F₀:Hp) (E:aFS) (s':S.ds):Out->Prop
 | .nx ρ=>∀ F H σ c,Ok K (UpZ S B c) F H σ ρ->S.rep K F c s'->Same F₀ F->E.nx σ H
 | .rt d=>∀ v F H c,Ext (UpZ S B c) F H->S.rep K F c s'->Rep K F v d->E.rt v H
def EvZ (S:LS) (X:Cx) (ρ:Rho) (sts:List Stmt) (o:Out) (s s':S.ds):Prop:=∀ (B:B0) (F H:Hp) (σ:St) (E:aFS) (c:S.cs),Ln S X.K B F c s->Ok X.K B F H σ ρ->eBI S X.K B F E s' o->wSs X sts E σ H
def aTB (S:LS) (X:Cx) (ρ:Rho) (st:Stmt) (o:Out) (s s':S.ds):Prop:=∀ (B:B0) (F H:Hp) (σ:St) (E:aFS) (c:S.cs),Ln S X.K B F c s->Ok X.K B F H σ ρ->eBI S X.K B F E s' o->wS X st E σ H
section
variable {S:LS} {X:Cx} {ρ ρ1 ρ2 ρ':Rho} {st:Stmt} {sts qU ss us body:List Stmt} {o:Out} {s s1 s2 s':S.ds} {tg e a b cd:Expr} {es:List Expr} {d:D} {ds:List D} {pos p py ps:Pos} {N:List Str} {sc:Scope} {x y:Str}
theorem EvE.z (h:EvE X ρ e d):EvEZ S X ρ e d s s:=fun B F H σ Q c l k w=>h B F H σ Q k fun v F' H' x r=>w v F' H' c (x.toZ (l.now k)) (S.mono x.sf l.rep) r
theorem EvA.z (h:EvA X ρ es ds):eOZ S X ρ es ds s s:=⟨h.1,fun B F H σ Q c l k w=>h.2 B F H σ Q k fun v F' H' x r=>w v F' H' c (x.toZ (l.now k)) (S.mono x.sf l.rep) r⟩
theorem EvT.z {r:Bool} (h:EvT X ρ e r):EvTZ S X ρ e r s s:=fun B F H σ Q c l k w=>h B F H σ Q k fun F' H' x=>w F' H' c (x.toZ (l.now k)) (S.mono x.sf l.rep)
theorem EvEZ.eq {d':D} (h:EvEZ S X ρ e d s s') (q:d=d'):EvEZ S X ρ e d' s s':=q ▸ h
theorem EvTZ.eq {r r':Bool} (h:EvTZ S X ρ e r s s') (q:r=r'):EvTZ S X ρ e r' s s':=q ▸ h
theorem qJ (h1:EvEZ S X ρ e d s s1) (h2:eOZ S X ρ es ds s1 s') (hs:Pl e:=by intro _ _; rfl):eOZ S X ρ (e :: es) (d :: ds) s s':=
 ⟨⟨hs,h2.1⟩,fun B F H σ Q c l k w=>.mk fun pos pins st I=>zL yX aVP (hs _ _) pos pins st σ H Q I (h1 B F H σ _ c l k fun v F1 H1 c1 x1 r1 rv=>h2.2 (UpZ S B c1) F1 H1 σ _ c1 (l.up r1) (k.extZ l x1) fun vs F2 H2 c2 x2 r2 rvs=>w _ F2 H2 c2 (x1.tZ (l.ff k) x2) r2 (.cons (rv.mono x2.sf) rvs))⟩
theorem eJZ {da db:D} (ha:EvEZ S X ρ a da s s1) (hb:EvEZ S X ρ b db s1 s') {B:B0} {F H:Hp} {σ:St} {R:V->V->Hp->Prop} {c:S.cs} (l:Ln S X.K B F c s) (k:Ok X.K B F H σ ρ)
  (h:∀ x y F' H' c',Ext (UpZ S ⟨F,H⟩ c') F' H'->S.rep X.K F' c' s'->Rep X.K F' x da->Rep X.K F' y db->R x y H'):wE X a σ H fun x H1=>wE X b σ H1 fun y H2=>R x y H2:=
 ha B F H σ _ c l k fun x F1 H1 c1 x1 r1 rv=>hb (UpZ S B c1) F1 H1 σ _ c1 (l.up r1) (k.extZ l x1) fun y F2 H2 c2 x2 r2 ry=>h x y F2 H2 c2 (x1.tZ (l.ff k) x2) r2 (rv.mono x2.sf) ry
theorem Rep.rd {F H:Hp} {v:V} (sub:Same F H) (r:Rep X.K F v d):RdP X H v (toP d):=fun hs H2 s2 pins σ s u I ru=>r.reads I (sub.trans s2) ru hs
theorem ePB (t:At X N sc) {da db:D} {r:Bool} (ha:EvEZ S X ρ a da s s1) (hb:EvEZ S X ρ b db s1 s') (sp:SeqAt.shaped (toP da)=true) (sq:SeqAt.shaped (toP db)=true) (hr:(toP da).eqv (toP db)=r):EvTZ S X ρ (.Compare a [.Eq] [b] pos) r s s':=fun B F H σ Q c l k w=>.mk fun pins st I=>
 vY (eCF t sp sq) yX yX (qY _ (by decide) (by decide)) pins st σ H Q I (eJZ ha hb l k fun x y F' H' c' x' r' rx ry=>⟨rx.rd x'.sub,ry.rd x'.sub,r,by rw [hr],w F' H' c' x' r'⟩)
theorem ePA (t:At X N sc) {da:D} {xs:List D} {r:Bool} (ha:EvEZ S X ρ a da s s1) (hb:EvEZ S X ρ b (.tup xs) s1 s') (sp:(toP da).canLay0=true) (sd:(toP da).depth<=62) (sq:PyData.canLayAll0 (toPs xs)=true) (he:((toPs xs).any fun y=>PyData.eqv y (toP da))=r)
  (hm:behindInMarks .In b=false:=by rfl):EvTZ S X ρ (.Compare a [.In] [b] pos) r s s':=fun B F H σ Q c l k w=>.mk fun pins st I=>
 vY (aXY t sp sd sq) yX yX hm pins st σ H Q I (eJZ ha hb l k fun x y F' H' c' x' r' rx ry=>⟨rx.rd x'.sub,(ry.rd x'.sub:RdP X H' y (.tuple (toPs xs))),r,by rw [he],w F' H' c' x' r'⟩)
theorem eGI {i j:Int} (ha:EvEZ S X ρ a (.int i) s s1) (hb:EvEZ S X ρ b (.int j) s1 s'):EvTZ S X ρ (.Compare a [.Lt] [b] pos) (decide (i < j)) s s':=fun B F H σ Q c l k w=>.mk fun pins st I=>
 vY eLZ yX yX (qY _ (by decide) (by decide)) pins st σ H Q I (eJZ ha hb l k fun x y F' H' c' x' r' rx ry=>by cases rx; cases ry; exact ⟨i,j,rfl,rfl,_,rfl,w F' H' c' x' r'⟩)
theorem eNJ (hc:EvTZ S X ρ cd true s s1) (ha:EvEZ S X ρ a d s1 s'):EvEZ S X ρ (.IfExp cd a b pos) d s s':=fun B F H σ Q c l k w=>.mk fun pins st I=>
 aHN aKR yX yX pins st σ H Q I (hc B F H σ _ c l k fun F1 H1 c1 x1 r1=>by rw [if_pos rfl]; exact ha (UpZ S B c1) F1 H1 σ _ c1 (l.up r1) (k.extZ l x1) fun v F2 H2 c2 x2 r2 rv=>w v F2 H2 c2 (x1.tZ (l.ff k) x2) r2 rv)
theorem eNK (hc:EvTZ S X ρ cd false s s1) (hb:EvEZ S X ρ b d s1 s'):EvEZ S X ρ (.IfExp cd a b pos) d s s':=fun B F H σ Q c l k w=>.mk fun pins st I=>
 aHN aKR yX yX pins st σ H Q I (hc B F H σ _ c l k fun F1 H1 c1 x1 r1=>by rw [if_neg Bool.false_ne_true]; exact hb (UpZ S B c1) F1 H1 σ _ c1 (l.up r1) (k.extZ l x1) fun v F2 H2 c2 x2 r2 rv=>w v F2 H2 c2 (x1.tZ (l.ff k) x2) r2 rv)
theorem aLQ {B:B0} {F H:Hp} {σ:St} {E:aFS} {c:S.cs} (l:Ln S X.K B F c s) (k:Ok X.K B F H σ ρ) (q:eBI S X.K B F E s o):(∃ ρ',o = .nx ρ'/\Post X.K B F E o)\/(∃ d,o = .rt d/\Post X.K ⟨F,B.H⟩ F E o):=by
 cases o with
 | nx ρ'=>exact .inl ⟨ρ',rfl,fun F' H' σ' k' s'=>q F' H' σ' c (by rw [UpZ.same l.st]; exact k') (S.mono s' l.rep) s'⟩
 | rt d=>exact .inr ⟨d,rfl,fun v F' H' x r=>q v F' H' c (by rw [UpZ.same l.st]; exact k.toExt.then_ x) (S.mono x.sf l.rep) r⟩
theorem EvSs.z (h:EvSs X ρ sts o):EvZ S X ρ sts o s s:=fun B F H σ E c l k q=>by
 rcases aLQ l k q with ⟨_,_,z⟩ | ⟨_,_,z⟩
 ·exact h B F H σ E k z
 ·exact h ⟨F,B.H⟩ F H σ E k.now z
theorem EvS.z (h:EvS X ρ st o):aTB S X ρ st o s s:=fun B F H σ E c l k q=>by
 rcases aLQ l k q with ⟨_,_,z⟩ | ⟨_,_,z⟩
 ·exact h B F H σ E k z
 ·exact h ⟨F,B.H⟩ F H σ E k.now z
theorem aMT {B:B0} {F F1:Hp} {E:aFS} {c:S.cs} (q:eBI S X.K B F E s' o) (sf:Same F F1):eBI S X.K (UpZ S B c) F1 E s' o:=by
 cases o with
 | nx ρ'=>exact fun F' H' σ' c' k r s'=>q F' H' σ' c' (by rw [UpZ.up] at k; exact k) r (sf.trans s')
 | rt d=>exact fun v F' H' c' x r rv=>q v F' H' c' (by rw [UpZ.up] at x; exact x) r rv
theorem zJ (h1:aTB S X ρ st (.nx ρ1) s s1) (h2:EvZ S X ρ1 qU o s1 s'):EvZ S X ρ (st :: qU) o s s':=fun B F H σ E c l k q=>.mk fun pins w I=>
 vH aWO jF pins w σ H E I (h1 B F H σ _ c l k fun F1 H1 σ1 c1 k1 r1 sf=>h2 (UpZ S B c1) F1 H1 σ1 E c1 (l.up r1) k1 (aMT q sf))
theorem jS (h1:aTB S X ρ st o s s'):EvZ S X ρ [st] o s s':=fun B F H σ E c l k q=>.mk fun pins w I=>aGA aWO pins w σ H E I (h1 B F H σ E c l k q)
theorem aOM:EvZ S X ρ [] (.nx ρ) s s:=EvSs.z qQ
theorem aLF [FnT X] (t:At X N sc) (i:Nat) {pos':Pos} (h:EvEZ S X ρ e d s s') (hi:N[i]? = some x:=by rfl) (hx:aRB sc x=true:=by rfl) (hs:swapsWith e (some (.Name x pos')) pos.line X.env=pure false:=by rfl) :
  aTB S X ρ (.Assign [.Name x pos'] e pos) (.nx (ρ.set i (.val d))) s s':=fun B F H σ E c l k w=>.mk fun pins q I=>
 aIM (i:=i) t.nd (t.ix hi) (t.loc hx) yX hs hfT pins q σ H E I (h B F H σ _ c l k fun v F' H' c1 x' r rv=>w F' H' _ c1 ((k.extZ l x').setVal i rv) r x'.sf)
theorem aOL (h:EvEZ S X ρ e d s s'):aTB S X ρ (.Return (some e) pos) (.rt d) s s':=fun B F H σ E c l k w=>.mk fun pins q I=>
 aPC yX pins q σ H E I (h B F H σ _ c l k fun v F' H' c1 x' r rv=>w v F' H' c1 (k.extZ l x').toExt r rv)
theorem vU (h:EvEZ S X ρ e d s s') (hsw:swapsWith e none pos.line X.env=pure false:=by rfl):aTB S X ρ (.Expr e pos) (.nx ρ) s s':=fun B F H σ E c l k w=>.mk fun pins q I=>
 aEP yX hsw pins q σ H E I (h B F H σ _ c l k fun v F' H' c1 x' r rv=>w F' H' σ c1 (k.extZ l x') r x'.sf)
theorem aTE (hc:EvTZ S X ρ cd true s s1) (h:EvZ S X ρ ss o s1 s'):aTB S X ρ (.If cd ss us pos) o s s':=fun B F H σ E c l k w=>.mk fun pins q I=>
 aPD aKR jF jF pins q σ H E I (hc B F H σ _ c l k fun F1 H1 c1 x1 r1=>by rw [if_pos rfl]; exact h (UpZ S B c1) F1 H1 σ E c1 (l.up r1) (k.extZ l x1) (aMT w x1.sf))
theorem aLG (hc:EvTZ S X ρ cd false s s1) (h:EvZ S X ρ us o s1 s'):aTB S X ρ (.If cd ss us pos) o s s':=fun B F H σ E c l k w=>.mk fun pins q I=>
 aPD aKR jF jF pins q σ H E I (hc B F H σ _ c l k fun F1 H1 c1 x1 r1=>by rw [if_neg Bool.false_ne_true]; exact h (UpZ S B c1) F1 H1 σ E c1 (l.up r1) (k.extZ l x1) (aMT w x1.sf))
inductive WRunZ (S:LS) (X:Cx) (cd:Expr) (body:List Stmt):Nat->Rho->S.ds->Rho->S.ds->Prop where
 | stop {ρ:Rho} {s s1:S.ds}:EvTZ S X ρ cd false s s1->WRunZ S X cd body 0 ρ s ρ s1
 | step {n:Nat} {ρ ρ1 ρ2:Rho} {s s1 s2 s3:S.ds}:EvTZ S X ρ cd true s s1->EvZ S X ρ body (.nx ρ1) s1 s2->WRunZ S X cd body n ρ1 s2 ρ2 s3->WRunZ S X cd body (n+1) ρ s ρ2 s3
theorem eBP (t:At X N sc) (h:∃ n,WRunZ S X cd body n ρ s ρ' s'):aTB S X ρ (.While cd body [] pos) (.nx ρ') s s':=fun B F H σ E c l k q=>.mk fun pins w I=>
 aTS t.pass aKR jF pins w σ H E I (by
  obtain ⟨n,h⟩:=h
  refine ⟨fun m σ H=>∃ ρ1 F1 c1 s1,Ok X.K (UpZ S B c1) F1 H σ ρ1/\S.rep X.K F1 c1 s1/\Same F F1/\WRunZ S X cd body m ρ1 s1 ρ' s',⟨n,ρ,F,c,s,by rw [UpZ.same l.st]; exact k,l.rep,.refl _,h⟩,?_⟩
  rintro m σ H ⟨ρ1,F1,c1,s1,k1,r1,sf,run⟩
  have l1:Ln S X.K (UpZ S B c1) F1 c1 s1:=l.up r1
  cases run with
  | stop hc=>
   refine hc (UpZ S B c1) F1 H σ _ c1 l1 k1 fun F2 H2 c2 x2 r2=>?_
   rw [if_neg Bool.false_ne_true]
   have k2:=k1.extZ l1 x2
   rw [UpZ.up] at k2
   exact q F2 H2 σ c2 k2 r2 (sf.trans x2.sf)
  | @step n0 _ ρa _ _ sa sb _ hc hb r=>
   refine hc (UpZ S B c1) F1 H σ _ c1 l1 k1 fun F2 H2 c2 x2 r2=>?_
   rw [if_pos rfl]
   have k2:=k1.extZ l1 x2
   rw [UpZ.up] at k2
   refine ⟨fun σ' H'=>∃ F'' c'',Ok X.K (UpZ S B c'') F'' H' σ' ρa/\S.rep X.K F'' c'' sb/\Same F F'',fun σ' H' ⟨F'',c'',k'',r'',s''⟩=>⟨_,Nat.lt_succ_self _,_,F'',c'',_,k'',r'',s'',r⟩,hb (UpZ S B c2) F2 H2 σ _ c2 (l.up r2) k2 fun F3 H3 σ3 c3 k3 r3 s3=>⟨F3,c3,?_,r3,sf.trans (x2.sf.trans s3)⟩⟩
   rw [UpZ.up] at k3; exact k3)
theorem EvZ.weak (h:EvZ S X ρ sts (.nx ρ1) s s') (w:Weak ρ1 ρ2):EvZ S X ρ sts (.nx ρ2) s s':=fun B F H σ E c l k pq=>h B F H σ E c l k fun F' H' σ' ws k' r sf=>pq F' H' σ' ws (k'.weak w) r sf
end
structure aKD where
 C:Addr
 p:Addr
 dx:Addr
 q:Addr
 l:Addr
 toks:List Str
def eNC (r:aKD) (n:Int):HO:=.ins r.C r.dx [("tokens",.ref r.l),("done",.int n),("steps",.ref r.q)]
def RdS (r:aKD):LS where
 cs:=Int × List V
 ds:=Int × List D
 ov c a:=if a=r.p then some (eNC r c.1) else if a=r.q then some (.lst c.2) else none
 dom c c' a h:=by
  by_cases h1:a=r.p
  ·rw [if_pos h1] at h; cases h
  ·rw [if_neg h1] at h ⊢
   by_cases h2:a=r.q
   ·rw [if_pos h2] at h; cases h
   ·rw [if_neg h2]
 rep K F c s:=c.1=s.1/\RepL K F c.2 s.2/\F r.l=some (.lst (r.toks.map V.str))
 mono:=fun sf h=>⟨h.1,h.2.1.mono sf,sf _ _ h.2.2⟩
structure aKB (K:PySem.W.Frag) (r:aKD):Prop where
 cls:Cls K r.C
 n1:NoAttr K r.C "tokens"
 n2:NoAttr K r.C "done"
 n3:NoAttr K r.C "steps"
 ne:r.q≠r.p
theorem aPA {K:PySem.W.Frag} {F:Hp}:∀ ts:List Str,RepL K F (ts.map V.str) (ts.map D.str)
 | []=>.nil
 | t :: ts=>.cons (.str t) (aPA ts)
section
variable {r:aKD} {X:Cx} {ρ ρ1 ρ':Rho} {e a b:Expr} {es:List Expr} {d:D} {ds:List D} {pos p py ps apos cpos:Pos} {N:List Str} {sc:Scope} {x:Str} {n:Int} {xs:List D}
theorem RdS.atP {c:Int × List V}:(RdS r).ov c r.p=some (eNC r c.1):=if_pos rfl
theorem RdS.atQ (ok:r.q≠r.p) {c:Int × List V}:(RdS r).ov c r.q=some (.lst c.2):=by
 show (if r.q=r.p then _ else if r.q=r.q then _ else _)=_
 rw [if_neg ok,if_pos rfl]
theorem eOI (t:At X N sc) {i:Nat} {q:Addr} (hr:ρ[i]? = some (.val (.adr q))) (hN:N[i]? = some x) (hv:aDQ sc x=true) (hx:qK x=true) {B:B0} {F H:Hp} {σ:St} {Q:VK} (k:Ok X.K B F H σ ρ) (h:Q (.ref q) H):wE X (.Name x py) σ H Q:=.mk fun pins s I=>by
 obtain ⟨v,h1,h2⟩:=k.vals i _ hr
 cases h2
 exact aVO t hN hv hx pins s σ H Q I ⟨_,h1,h⟩
theorem aMM (t:At X N sc) (ok:aKB X.K r) (i:Nat) {s:Int × List D} (hr:ρ[i]? = some (.val (.adr r.p))) (hN:N[i]? = some x:=by rfl) (hv:aDQ sc x=true:=by rfl) (hx:qK x=true:=by rfl) (hb:attributeBase (.Name x py) "tokens" X.env (eval (.Name x py) X.env)=eval (.Name x py) X.env:=by rfl) :
  EvEZ (RdS r) X ρ (.Attribute (.Name x py) "tokens" pos) (.lst (r.toks.map D.str)) s s:=fun B F H σ Q c l k w=>.mk fun pins st I=>
 aTY yX hb pins st σ H Q I (eOI t hr hN hv hx k ⟨r.p,r.C,r.dx,_,.ref r.l,rfl,l.now k _ _ RdS.atP,ok.cls,ok.n1,rfl,w _ F H c ((Ext.refl k.sub).toZ (l.now k)) l.rep (.lst l.rep.2.2 (aPA _))⟩)
theorem aMN (t:At X N sc) (ok:aKB X.K r) (i:Nat) {s:Int × List D} (hr:ρ[i]? = some (.val (.adr r.p))) (hN:N[i]? = some x:=by rfl) (hv:aDQ sc x=true:=by rfl) (hx:qK x=true:=by rfl) (hb:attributeBase (.Name x py) "done" X.env (eval (.Name x py) X.env)=eval (.Name x py) X.env:=by rfl) :
  EvEZ (RdS r) X ρ (.Attribute (.Name x py) "done" pos) (.int s.1) s s:=fun B F H σ Q c l k w=>.mk fun pins st I=>
 aTY yX hb pins st σ H Q I (eOI t hr hN hv hx k ⟨r.p,r.C,r.dx,_,.int c.1,rfl,l.now k _ _ RdS.atP,ok.cls,ok.n2,rfl,w _ F H c ((Ext.refl k.sub).toZ (l.now k)) l.rep (by rw [l.rep.1]; exact .int _)⟩)
theorem eLV {c c':Int × List V} {H:Hp} (ok:r.q≠r.p) (h:∀ a u,(RdS r).ov c a=some u->H a=some u) (hc:c'.2=c.2):ovH ((RdS r).ov c') H=upd H r.p (eNC r c'.1):=funext fun a=>by
 by_cases h1:a=r.p
 ·subst h1; rw [aER RdS.atP,yH]
 ·rw [yI h1]
  by_cases h2:a=r.q
  ·subst h2; rw [aER (RdS.atQ ok),h _ _ (RdS.atQ ok),hc]
  ·exact jH (show (if a=r.p then _ else if a=r.q then _ else _)=_ by rw [if_neg h1,if_neg h2])
theorem eLU {c c':Int × List V} {H:Hp} (ok:r.q≠r.p) (h:∀ a u,(RdS r).ov c a=some u->H a=some u) (hc:c'.1=c.1):ovH ((RdS r).ov c') H=upd H r.q (.lst c'.2):=funext fun a=>by
 by_cases h1:a=r.p
 ·subst h1; rw [aER RdS.atP,yI (Ne.symm ok),h _ _ RdS.atP,hc]
 ·by_cases h2:a=r.q
  ·subst h2; rw [aER (RdS.atQ ok),yH]
  ·rw [yI h2]
   exact jH (show (if a=r.p then _ else if a=r.q then _ else _)=_ by rw [if_neg h1,if_neg h2])
theorem eHA (t:At X N sc) (ok:aKB X.K r) (i:Nat) {m:Int} (hr:ρ[i]? = some (.val (.adr r.p))) (he:EvE X ρ e (.int m)) (hN:N[i]? = some x:=by rfl) (hv:aDQ sc x=true:=by rfl) (hx:qK x=true:=by rfl) :
  aTB (RdS r) X ρ (.AugAssign (.Attribute (.Name x py) "done" ps) .Add e pos) (.nx ρ) (n,xs) (n+m,xs):=fun B F H σ E c l k w=>.mk fun pins st I=>
 aYB (op:=.Add) (rd:=eSP) yX yX (fun pins s σ H x y u v Q I rx ry h=>by
  obtain ⟨i,j,rfl,rfl,q⟩:=h
  obtain ⟨t1,rfl⟩:=rx
  obtain ⟨t2,rfl⟩:=ry
  exact iadd_int ⟨.int (i+j),H,I.tok _,⟨_,rfl⟩,q⟩) pins st σ H E I (eOI t hr hN hv hx k ⟨r.p,r.C,r.dx,_,.int c.1,rfl,l.now k _ _ RdS.atP,ok.cls,ok.n2,rfl,he B F H σ _ k fun v F1 H1 x1 r1=>by
   cases r1
   have k1:=k.ext x1
   have l1:Ln (RdS r) X.K B F1 c (n,xs):=l.ext x1
   refine ⟨c.1,m,rfl,rfl,r.dx,_,l1.now k1 _ _ RdS.atP,Nat.le_of_ble_eq_true rfl,?_⟩
   have e1:c.1=n:=l.rep.1
   have hq:=w F1 (ovH ((RdS r).ov (c.1+m,c.2)) H1) σ (c.1+m,c.2) (k1.chgZ l1) ⟨by rw [e1],l1.rep.2⟩ x1.sf
   rw [eLV (c:=c) (c':=(c.1+m,c.2)) ok.ne (l1.now k1) rfl] at hq
   exact hq⟩)
theorem aIL (t:At X N sc) (ok:aKB X.K r) (i:Nat) {s s1:Int × List D} (hr:ρ[i]? = some (.val (.adr r.p))) (he:EvEZ (RdS r) X ρ e d s s1) (hz:s1.2.length < sizeLine) (hN:N[i]? = some x:=by rfl) (hv:aDQ sc x=true:=by rfl) (hx:qK x=true:=by rfl) (hb:attributeBase (.Name x py) "steps" X.env (eval (.Name x py) X.env)=eval (.Name x py) X.env:=by rfl)
  (hb2:attributeBase (.Attribute (.Name x py) "steps" ps) "append" X.env (eval (.Attribute (.Name x py) "steps" ps) X.env)=eval (.Attribute (.Name x py) "steps" ps) X.env:=by rfl)
  (hs:starEach [e] X.env=(false,eval e X.env) :: starEach [] X.env:=by rfl) (hline:(apos.endLine == cpos.line)=true:=by rfl) (hpl:(backTo cpos (starEach [] X.env)).any (·.1)=false:=by rfl)
  (hfew:((backTo cpos (starEach [e] X.env)).all (fun x=>!x.1) && (backToKw cpos (keywordEach [] X.env)).all (fun x=>x.1.isSome) && decide (([e]:List Expr).length+([]:List Keyword).length+(if ([]:List Keyword).isEmpty then 0 else 1) < 30))=true:=by rfl)
  (hsw:swapsWith (.Call (.Attribute (.Attribute (.Name x py) "steps" ps) "append" apos) [e] [] cpos) none pos.line X.env=pure false:=by rfl) :
  aTB (RdS r) X ρ (.Expr (.Call (.Attribute (.Attribute (.Name x py) "steps" ps) "append" apos) [e] [] cpos) pos) (.nx ρ) s (s1.1,s1.2++[d]):=fun B F H σ E c l k w=>.mk fun pins st I=>
 aEP (eHO PySem.F.plainAttrs_list PySem.F.slot_list_append PySem.F.type_list_append aFJ (aTY yX hb) (zL yX vD hs) hb2 hfew hline hs hpl) hsw pins st σ H E I
  (eOI t hr hN hv hx k ⟨r.p,r.C,r.dx,_,.ref r.q,rfl,l.now k _ _ RdS.atP,ok.cls,ok.n3,rfl,.inl ⟨rfl,_,SqL.of (l.now k _ _ (RdS.atQ ok.ne))⟩,he B F H σ _ c l k fun v F1 H1 c1 x1 r1 rv=>by
   have k1:=k.extZ l x1
   have l1:Ln (RdS r) X.K (UpZ (RdS r) B c1) F1 c1 s1:=l.up r1
   refine ⟨r.q,c1.2,v,rfl,rfl,l1.now k1 _ _ (RdS.atQ ok.ne),by rw [r1.2.1.length]; exact hz,?_⟩
   have k2:Ok X.K (UpZ (RdS r) (UpZ (RdS r) B c1) (c1.1,c1.2++[v])) F1 (ovH ((RdS r).ov (c1.1,c1.2++[v])) H1) σ ρ:=k1.chgZ l1
   have e1:UpZ (RdS r) (UpZ (RdS r) B c1) (c1.1,c1.2++[v])=UpZ (RdS r) B (c1.1,c1.2++[v]):=UpZ.up (S:=RdS r)
   rw [e1,eLU (c:=c1) (c':=(c1.1,c1.2++[v])) ok.ne (l1.now k1) rfl] at k2
   exact w F1 _ σ (c1.1,c1.2++[v]) k2 ⟨r1.1,r1.2.1.append (.cons rv .nil),r1.2.2⟩ x1.sf⟩)
end
section
variable {S:LS} {X:Cx} {ρ:Rho} {e a b:Expr} {d:D} {s s1 s':S.ds} {pos p py:Pos} {N:List Str} {sc:Scope} {x:Str} {xs:List D}
theorem aZT (t:At X N sc) (bl:Blt X sc x (.builtin "len")) (ha:EvEZ S X ρ e (.lst xs) s s') (hpe:Pl e:=by intro _ _; rfl):EvEZ S X ρ (.Call (.Name x p) [e] [] pos) (.int xs.length) s s':=fun B F H σ Q c l k w=>.mk fun pins st I=>
 aDS aGV (vZ t bl.g) bl.m bl.v (zL yX vD (hpe _ _)) bl.n bl.d (hpe _ _) rfl pins st σ H Q I (ha B F H σ _ c l k fun v F1 H1 c1 x1 r1 rv=>by
  cases rv with
  | lst hf rl=>exact ⟨_,_,rfl,.inl (SqL.of (x1.sub _ _ hf)),by rw [rl.length]; exact w _ F1 H1 c1 x1 r1 (.int _)⟩)
theorem eNI {i:Int} (ha:EvEZ S X ρ a (.lst xs) s s1) (hb:EvEZ S X ρ b (.int i) s1 s') (h:atI xs i=some d) (hs:aGH b:=by intro _ _; rfl):EvEZ S X ρ (.Subscript a b pos) d s s':=fun B F H σ Q c l k w=>.mk fun pins st I=>
 eCJ aZK yX yX hs pins st σ H Q I (eJZ ha hb l k fun x y F' H' c' x' r' rx ry=>by
  cases ry
  cases rx with
  | lst hf rl=>
   obtain ⟨z,h1,h2⟩:=rl.at h
   exact ⟨_,_,i,z,rfl,rfl,SqL.of (x'.sub _ _ hf),h1,w z F' H' c' x' r' h2⟩)
end
def spR (K:PySem.W.Frag) (C:List Str->List D->Int × List D->D->Int × List D->Prop):Sp:=fun vs H Q _=>∃ (r:aKD) (F:Hp) (ds:List D) (d:D) (c:Int × List V) (s s':Int × List D),Same F H/\aKB K r/\(∀ a u,(RdS r).ov c a=some u->H a=some u)/\(∀ a u,(RdS r).ov c a=some u->F a=none)/\(RdS r).rep K F c s/\RepL K F vs (.adr r.p :: ds)/\C r.toks ds s d s' /\
 ∀ v F' H' c',Ext (UpZ (RdS r) ⟨F,H⟩ c') F' H'->(RdS r).rep K F' c' s'->Rep K F' v d->Q v H'
def zM (X:Cx) (x:Str) (C:List Str->List D->Int × List D->D->Int × List D->Prop):Prop:=∃ (f:Addr) (fd:FuncData) (ps:List Str) (k:Nat),qL X.prog X.w X.K X.mg X.base CX0 k f fd ps (spR X.K C)/\Room k X.A/\X.mg x=some (.ref f)/\PySem.W.keepIn X.K (.ref f)=true/\Binds X.K fd ps []
section
variable {X:Cx} {ρ:Rho} {e:Expr} {es:List Expr} {d:D} {ds:List D} {pos p:Pos} {N:List Str} {sc:Scope} {x:Str} {r:aKD} {s s1 s':Int × List D}
theorem aEH {P:Program} (htree:P.given.tree=none) {w:World} {K:PySem.W.Frag} {mg:Str->Option Value} {base:Heap} {x qual:Str} {st:Stmt} {f:Addr} {fd:FuncData} {N ps:List Str} {k:Nat} {C:List Str->List D->Int × List D->D->Int × List D->Prop} (F:Fun K x qual st f fd) (S:yL N ps (yC st))
  (len:∀ ts ds s d s',C ts ds s d s'->ds.length+1=ps.length)
  (body:∀ X,DefX P w K mg base k N (yC st) X->∀ (r:aKD),aKB X.K r->∀ ds s d s',C r.toks ds s d s'->EvZ (RdS r) X (.val (.adr r.p) :: ds.map Sl.val++List.replicate (N.length - (ds.length+1)) Sl.un) (yF st) (.rt d) s s'\/(d = .non/\∃ ρ',EvZ (RdS r) X (.val (.adr r.p) :: ds.map Sl.val++List.replicate (N.length - (ds.length+1)) Sl.un) (yF st) (.nx ρ') s s')):qL P w K mg base CX0 (k+1) f fd ps (spR K C):=by
 refine F.ok S (fun vs H Q E h=>?_) (fun cdv A outer s H vs Q E hr h=>?_)
 ·obtain ⟨r,F',ds,d,c,s,s',sub,ok,h1,h2,h3,rv,hC,q⟩:=h
  rw [rv.length]; exact len r.toks ds s d s' hC
 ·obtain ⟨r,F',ds,d,c,s1,s',sub,ok,h1,h2,h3,rv,hC,q⟩:=h
  refine ⟨_,jF,?_⟩
  have hx:DefX P w K mg base k N (yC st) (aUV CX0 P w K mg base N qual (yC st) f cdv A outer s H E).nox:=
   ⟨⟨rfl,rfl,rfl,S.nd,rfl,hr.units,hr.dp100,htree,⟨_,_,rfl,S.gen,S.co,rfl,rfl⟩⟩,rfl,rfl,rfl,rfl,rfl,hr,⟨fun _=>rfl⟩,rfl,rfl⟩
  have hk:Ok K ⟨F',H⟩ F' H (start N vs) (.val (.adr r.p) :: ds.map Sl.val++List.replicate (N.length - (ds.length+1)) Sl.un):=by
   unfold start
   rw [rv.length]
   exact aCH sub rv _
  rcases body _ hx r ok ds s1 d s' hC with hb | ⟨rfl,ρ',hb⟩
  ·exact hb ⟨F',H⟩ F' H _ _ c ⟨h1,h2,h3⟩ hk fun v F2 H2 c2 x2 r2 rv=>q v F2 H2 c2 x2 r2 rv
  ·exact hb ⟨F',H⟩ F' H _ _ c ⟨h1,h2,h3⟩ hk fun F2 H2 σ2 c2 k2 r2 s2=>q .non F2 H2 c2 k2.toExt r2 .non
theorem DefX.calleeR {P:Program} {w:World} {K:PySem.W.Frag} {mg:Str->Option Value} {base:Heap} {k j:Nat} {f:Addr} {fd:FuncData} {ps:List Str} {C:List Str->List D->Int × List D->D->Int × List D->Prop} (h:DefX P w K mg base k N sc X)
  (F:qL P w K mg base CX0 j f fd ps (spR K C)) (hj:j<=k) (hm:mg x=some (.ref f)) (hk:PySem.W.keepIn K (.ref f)=true) (hb:Binds K fd ps []):zM X x C:=by
 obtain ⟨h0,rfl,rfl,rfl,rfl,rfl,hr,_⟩:=h
 exact ⟨f,fd,ps,j,F,hr.mono hj,hm,hk,hb⟩
theorem jB (t:At X N sc) (ok:aKB X.K r) {C:List Str->List D->Int × List D->D->Int × List D->Prop} (h:zM X x C) (ha:eOZ (RdS r) X ρ (e :: es) (.adr r.p :: ds) s s1) (hC:C r.toks ds s1 d s') (hg:sc.names.lookup x=some .globalImplicit:=by rfl) (hdb:(x == ("__debug__" : Str))=false:=by rfl) :
  EvEZ (RdS r) X ρ (.Call (.Name x p) (e :: es) [] pos) d s s':=fun B F0 H σ Q c l k w=>.mk fun pins st I=>by
 obtain ⟨f,fd,ps,kk,F,hr',hm,hk,hb⟩:=h
 have pz:aBZ CX0 X E0:=aPJ
 refine aEQ F hr' (vZ t hg) hm hk hb .nil pz aVP hdb (ha.1.1 _ _) (PlA.any ha.1.2) pins st σ H Q I (ha.2 B F0 H σ _ c l k fun vs F1 H1 c1 x1 r1 rv=>?_)
 have k1:=k.extZ l x1
 have l1:Ln (RdS r) X.K (UpZ (RdS r) B c1) F1 c1 s1:=l.up r1
 refine ⟨r,F1,ds,d,c1,s1,s',k1.sub,ok,l1.now k1,l1.ff k1,r1,by rw [List.append_nil]; exact rv,hC,fun v F2 H2 c2 x2 r2 rv2=>w v F2 H2 c2 (x1.tZ (l.ff k) x2) r2 rv2⟩
end
section
variable {S:LS} {K:PySem.W.Frag} {B:B0} {F H:Hp} {σ:St} {ρ:Rho} {c c1:S.cs}
theorem Ok.pin (k:Ok K B F H σ ρ) (hb:∀ a u,S.ov c a=some u->B.H a=none) (hh:∀ a u,S.ov c a=some u->H a=some u) (hf:∀ a u,S.ov c a=some u->F a=none)
  (ho:∀ (i:Nat) xs a,ρ[i]? = some (.own xs)->σ[i]? = some (some (.ref a))->S.ov c a=none) (hd:∀ (i:Nat) xs a,ρ[i]? = some (.dct xs)->σ[i]? = some (some (.ref a))->S.ov c a=none):Ok K (UpZ S B c) F H σ ρ:=by
 refine ⟨⟨k.sub,fun b u q=>?_,k.sf,fun a q=>?_⟩,k.len,k.vals,fun i ys h=>?_,k.dist,⟨fun i kvs h=>?_,k.dic.distD⟩⟩
 ·have q':ovH (S.ov c) B.H b=some u:=q
  cases e:S.ov c b with
  | some v=>rw [aER e] at q'; cases q'; exact hh b _ e
  | none=>rw [jH e] at q'; exact k.sh b u q'
 ·rcases k.nw a q with z | z
  ·exact .inl z
  ·refine .inr ?_
   show ovH (S.ov c) B.H a=none
   cases e:S.ov c a with
   | some v=>exact absurd (hf a v e) q
   | none=>rw [jH e]; exact z
 ·obtain ⟨a,vs,h1,h2,h3,h4,h5⟩:=k.owns i ys h
  exact ⟨a,vs,h1,h2,h3,by show ovH (S.ov c) B.H a=none; rw [jH (ho i ys a h h1)]; exact h4,h5⟩
 ·obtain ⟨a,es,h1,h2,h3,h4,h5⟩:=k.dic.dcts i kvs h
  exact ⟨a,es,h1,h2,h3,by show ovH (S.ov c) B.H a=none; rw [jH (hd i kvs a h h1)]; exact h4,h5⟩
theorem Ext.unpin (x:Ext (UpZ S B c1) F H) (hb:∀ a u,S.ov c1 a=some u->B.H a=none):Ext B F H:=by
 refine ⟨x.sub,fun b u q=>?_,x.sf,fun a q=>?_⟩
 ·refine x.sh b u ?_
  show ovH (S.ov c1) B.H b=some u
  cases e:S.ov c1 b with
  | some v=>rw [hb b v e] at q; cases q
  | none=>rw [jH e]; exact q
 ·rcases x.nw a q with z | z
  ·exact .inl z
  ·refine .inr ?_
   have z':ovH (S.ov c1) B.H a=none:=z
   cases e:S.ov c1 a with
   | some v=>rw [aER e] at z'; cases z'
   | none=>rw [jH e] at z'; exact z'
end
def eTC (K:PySem.W.Frag) (F H F' H':Hp) (r:aKD):Prop:=aKB K r/\Ext ⟨F,H⟩ F' H'/\H r.p=none/\H r.q=none/\H' r.p=some (eNC r 0)/\H' r.q=some (.lst [])/\F' r.p=none/\F' r.q=none/\F' r.l=some (.lst (r.toks.map V.str))
def eOO (K:PySem.W.Frag) (C:List D->List Str->Prop):Sp:=fun vs H Q _=>∃ F ds toks,Same F H/\RepL K F vs ds/\C ds toks/\∀ r F' H',r.toks=toks->eTC K F H F' H' r->Q (.ref r.p) H'
def aOH (X:Cx) (x:Str) (C:List D->List Str->Prop):Prop:=∃ (f:Addr) (fd:FuncData) (ps:List Str) (k:Nat),qL X.prog X.w X.K X.mg X.base CX0 k f fd ps (eOO X.K C)/\Room k X.A/\X.mg x=some (.ref f)/\PySem.W.keepIn X.K (.ref f)=true/\Binds X.K fd ps []
def aWN (X:Cx) (ρ:Rho) (sts:List Stmt) (toks:List Str):Prop:=∀ (B:B0) (F H:Hp) (σ:St) (E:aFS),Ok X.K B F H σ ρ->(∀ r F' H',r.toks=toks->aKB X.K r->Ext B F' H'->B.H r.p=none->B.H r.q=none->H' r.p=some (eNC r 0)->H' r.q=some (.lst [])->F' r.p=none->F' r.q=none->F' r.l=some (.lst (toks.map V.str))->E.rt (.ref r.p) H')->wSs X sts E σ H
section
variable {X:Cx} {ρ ρ':Rho} {e b:Expr} {es:List Expr} {d:D} {ds:List D} {pos p py pos' cpos:Pos} {N:List Str} {sc:Scope} {x y:Str} {toks:List Str} {st:Stmt} {qU body:List Stmt} {r:aKD}
theorem aHU (h1:EvS X ρ st (.nx ρ')) (h2:aWN X ρ' qU toks):aWN X ρ (st :: qU) toks:=fun B F H σ E k q=>.mk fun pins s I=>
 vH aWO jF pins s σ H E I (h1 B F H σ _ k fun F1 H1 σ1 k1 s1=>h2 B F1 H1 σ1 E k1 q)
theorem eIM {P:Program} (htree:P.given.tree=none) {w:World} {K:PySem.W.Frag} {mg:Str->Option Value} {base:Heap} {x qual:Str} {st:Stmt} {f:Addr} {fd:FuncData} {N ps:List Str} {k:Nat} {C:List D->List Str->Prop} (F:Fun K x qual st f fd) (S:yL N ps (yC st))
  (len:∀ ds ts,C ds ts->ds.length=ps.length)
  (body:∀ X,DefX P w K mg base k N (yC st) X->∀ ds ts,C ds ts->aWN X (ds.map Sl.val++List.replicate (N.length - ds.length) Sl.un) (yF st) ts):qL P w K mg base CX0 (k+1) f fd ps (eOO K C):=by
 refine F.ok S (fun vs H Q E h=>?_) (fun cdv A outer s H vs Q E hr h=>?_)
 ·obtain ⟨F',ds,ts,sub,rv,hC,q⟩:=h
  rw [rv.length]; exact len ds ts hC
 ·obtain ⟨F',ds,ts,sub,rv,hC,q⟩:=h
  refine ⟨_,jF,?_⟩
  have hx:DefX P w K mg base k N (yC st) (aUV CX0 P w K mg base N qual (yC st) f cdv A outer s H E).nox:=
   ⟨⟨rfl,rfl,rfl,S.nd,rfl,hr.units,hr.dp100,htree,⟨_,_,rfl,S.gen,S.co,rfl,rfl⟩⟩,rfl,rfl,rfl,rfl,rfl,hr,⟨fun _=>rfl⟩,rfl,rfl⟩
  have hb:=body _ hx ds ts hC
  have hk:Ok K ⟨F',H⟩ F' H (start N vs) (ds.map Sl.val++List.replicate (N.length - ds.length) Sl.un):=by
   unfold start
   rw [rv.length]
   exact aCH sub rv _
  exact hb ⟨F',H⟩ F' H _ _ hk fun r F2 H2 e ok x2 h1 h2 h3 h4 h5 h6 h7=>q r F2 H2 e ⟨ok,x2,h1,h2,h3,h4,h5,h6,by rw [e]; exact h7⟩
theorem DefX.calleeRN {P:Program} {w:World} {K:PySem.W.Frag} {mg:Str->Option Value} {base:Heap} {k j:Nat} {f:Addr} {fd:FuncData} {ps:List Str} {C:List D->List Str->Prop} (h:DefX P w K mg base k N sc X)
  (F:qL P w K mg base CX0 j f fd ps (eOO K C)) (hj:j<=k) (hm:mg x=some (.ref f)) (hk:PySem.W.keepIn K (.ref f)=true) (hb:Binds K fd ps []):aOH X x C:=by
 obtain ⟨h0,rfl,rfl,rfl,rfl,rfl,hr,_⟩:=h
 exact ⟨f,fd,ps,j,F,hr.mono hj,hm,hk,hb⟩
theorem eJB [FnT X] (t:At X N sc) (i:Nat) {C:List D->List Str->Prop} (h:aOH X x C) (ha:EvA X ρ (e :: es) ds) (hC:C ds toks) (hrest:∀ r:aKD,aKB X.K r->r.toks=toks->∃ s',EvZ (RdS r) X (ρ.set i (.val (.adr r.p))) qU (.rt d) (0,[]) s')
  (hg:sc.names.lookup x=some .globalImplicit:=by rfl) (hdb:(x == ("__debug__" : Str))=false:=by rfl) (hi:N[i]? = some y:=by rfl) (hx:aRB sc y=true:=by rfl) (hs:swapsWith (.Call (.Name x p) (e :: es) [] cpos) (some (.Name y pos')) pos.line X.env=pure false:=by rfl) :
  EvSs X ρ (.Assign [.Name y pos'] (.Call (.Name x p) (e :: es) [] cpos) pos :: qU) (.rt d):=fun B F0 H σ E k w=>.mk fun pins s I=>by
 obtain ⟨f,fd,ps,kk,F,hr',hm,hk,hb⟩:=h
 have pz:aBZ CX0 X E0:=aPJ
 refine vH aWO jF pins s σ H E I (.mk fun pins s I=>aIM (i:=i) t.nd (t.ix hi) (t.loc hx) (aEQ F hr' (vZ t hg) hm hk hb .nil pz aVP hdb (ha.1.1 _ _) (PlA.any ha.1.2)) hs hfT pins s σ H _ I (ha.2 B F0 H σ _ k fun vs F1 H1 x1 r1=>?_))
 refine ⟨F1,ds,toks,x1.sub,by rw [List.append_nil]; exact r1,hC,fun r F2 H2 et nr=>?_⟩
 obtain ⟨ok,x2,n1,n2,h1,h2,f1,f2,hl⟩:=nr
 have k1:=k.ext x1
 have k2:=(k1.ext x2).setVal i (.adr r.p:Rep X.K F2 (.ref r.p) (.adr r.p))
 have dm:∀ a u,(RdS r).ov ((0:Int),([]:List V)) a=some u->H1 a=none/\H2 a=some u/\F2 a=none:=fun a u z=>by
  by_cases e1:a=r.p
  ·subst e1; rw [RdS.atP] at z; cases z; exact ⟨n1,h1,f1⟩
  ·by_cases e2:a=r.q
   ·subst e2; rw [RdS.atQ ok.ne] at z; cases z; exact ⟨n2,h2,f2⟩
   ·rw [show (RdS r).ov ((0:Int),([]:List V)) a=none from (show (if a=r.p then _ else if a=r.q then _ else _)=_ by rw [if_neg e1,if_neg e2])] at z; cases z
 have hb0:∀ (c:(RdS r).cs) a u,(RdS r).ov c a=some u->B.H a=none:=fun c a u z=>by
  obtain ⟨v,hv⟩:=LS.has z ((0:Int),([]:List V))
  exact k1.sh.free (dm a v hv).1
 have no:∀ (j:Nat) xs a,(ρ.set i (.val (.adr r.p)))[j]? = some (.own xs)->(σ.set i (some (.ref r.p)))[j]? = some (some (.ref a))->(RdS r).ov ((0:Int),([]:List V)) a=none:=fun j xs a q1 q2=>by
  obtain ⟨hne,q1'⟩:=aCU j _ q1 (fun z=>nomatch z)
  rw [List.getElem?_set_ne hne] at q2
  obtain ⟨a',vs',g1,g2,_⟩:=k1.owns j xs q1'
  rw [g1] at q2; cases q2
  cases e:(RdS r).ov ((0:Int),([]:List V)) a with
  | none=>rfl
  | some u=>rw [(dm a u e).1] at g2; cases g2
 have nd:∀ (j:Nat) xs a,(ρ.set i (.val (.adr r.p)))[j]? = some (.dct xs)->(σ.set i (some (.ref r.p)))[j]? = some (some (.ref a))->(RdS r).ov ((0:Int),([]:List V)) a=none:=fun j xs a q1 q2=>by
  obtain ⟨hne,q1'⟩:=aCU j _ q1 (fun z=>nomatch z)
  rw [List.getElem?_set_ne hne] at q2
  obtain ⟨a',vs',g1,g2,_⟩:=k1.dic.dcts j xs q1'
  rw [g1] at q2; cases q2
  cases e:(RdS r).ov ((0:Int),([]:List V)) a with
  | none=>rfl
  | some u=>rw [(dm a u e).1] at g2; cases g2
 have k3:Ok X.K (UpZ (RdS r) B ((0:Int),([]:List V))) F2 H2 (σ.set i (some (.ref r.p))) (ρ.set i (.val (.adr r.p))):=k2.pin (S:=RdS r) (c:=((0:Int),([]:List V))) (fun a u z=>hb0 _ a u z) (fun a u z=>(dm a u z).2.1) (fun a u z=>(dm a u z).2.2) no nd
 obtain ⟨s',hz⟩:=hrest r ok et
 refine hz (UpZ (RdS r) B ((0:Int),([]:List V))) F2 H2 _ E ((0:Int),([]:List V)) ⟨fun a u z=>aER z,fun a u z=>?_,⟨rfl,.nil,hl⟩⟩ k3 fun v F3 H3 c3 x3 r3 rv=>?_
 ·cases eb:B.F a with
  | none=>exact eb
  | some o=>
   have:=k3.sf a o eb
   rw [(dm a u z).2.2] at this; cases this
 ·have e3:UpZ (RdS r) (UpZ (RdS r) B ((0:Int),([]:List V))) c3=UpZ (RdS r) B c3:=UpZ.up (S:=RdS r)
  rw [e3] at x3
  exact w v F3 H3 (x3.unpin fun a u z=>hb0 c3 a u z) rv
end
def aTL (C:Addr):Sp:=fun vs H Q _=>∃ x dx l,vs=[.ref x,.ref l]/\H x=some (.ins C dx [])/\∀ q H',H q=none->q≠x->H' = upd (upd H q (.lst [])) x (.ins C dx [("tokens",.ref l),("done",.int 0),("steps",.ref q)])->Q .non H'
structure MkR (X:Cx) (x:Str) (C:Addr):Prop where
 fn:∃ (f:Addr) (fd:FuncData) (ps:List Str) (k:Nat),Mk X.K C f/\qL X.prog X.w X.K X.mg X.base CX0 k f fd ps (aTL C)/\Room (k+1) X.A/\Binds X.K fd ps []
 m:X.mg x=some (.ref C)
 cls:Cls X.K C
 n1:NoAttr X.K C "tokens"
 n2:NoAttr X.K C "done"
 n3:NoAttr X.K C "steps"
theorem aXH {K:PySem.W.Frag} {F:Hp}:∀ {ts:List Str} {vs:List V},RepL K F vs (ts.map D.str)->vs=ts.map V.str
 | [],_,h=>by cases h; rfl
 | t :: ts,_,h=>by
  cases h with
  | cons r q=>cases r; rw [List.map_cons,aXH q]
section
variable {X:Cx} {ρ ρ':Rho} {e a b:Expr} {es:List Expr} {d:D} {ds xs xs':List D} {pos p py ps cpos:Pos} {N:List Str} {sc:Scope} {x y:Str} {toks:List Str} {r:aKD} {body:List Stmt} {tg:Expr}
theorem eCZ (t:At X N sc) {C:Addr} (M:MkR X x C) (h:EvE X ρ e (.lst (toks.map D.str))) (hg:sc.names.lookup x=some .globalImplicit:=by rfl) (hdb:(x == ("__debug__" : Str))=false:=by rfl) (hpe:Pl e:=by intro _ _; rfl) :
  aWN X ρ [.Return (some (.Call (.Name x p) [e] [] cpos)) pos] toks:=fun B F H σ E k w=>.mk fun pins s I=>by
 obtain ⟨f,fd,ps,kk,mk,fo,hr,hb⟩:=M.fn
 have pz:aBZ CX0 X E0:=aPJ
 refine aGA (aPC (eHN mk fo hr (vZ t hg) M.m hb .nil pz (zL yX vD (hpe _ _)) hdb (hpe _ _) rfl)) pins s σ H E I (h B F H σ _ k fun v F1 H1 x1 r1=>?_)
 intro x0 dx hx hdx hne
 cases r1 with
 | @lst l vs _ hf rl=>
 have ev:=aXH rl
 subst ev
 refine ⟨x0,dx,l,rfl,by rw [yH],fun q H' hq hqx eH=>⟨rfl,?_⟩⟩
 rw [yI hqx] at hq
 have hqd:q≠dx:=fun z=>by subst z; rw [yH] at hq; cases hq
 rw [yI hqd] at hq
 have k1:=k.ext x1
 have x2:Ext ⟨F1,H1⟩ F1 H':=by
  refine ⟨fun b u z=>?_,fun b u z=>?_,.refl _,fun a z=>.inl z⟩
  ·have z':=x1.sub b u z
   rw [eH,yI (fun e=>by subst e; rw [hx] at z'; cases z'),yI (fun e=>by subst e; rw [hq] at z'; cases z'),yI (fun e=>by subst e; rw [hx] at z'; cases z'),yI (fun e=>by subst e; rw [hdx] at z'; cases z')]
   exact z'
  ·have z':H1 b=some u:=z
   rw [eH,yI (fun e=>by subst e; rw [hx] at z'; cases z'),yI (fun e=>by subst e; rw [hq] at z'; cases z'),yI (fun e=>by subst e; rw [hx] at z'; cases z'),yI (fun e=>by subst e; rw [hdx] at z'; cases z')]
   exact z'
 refine w ⟨C,x0,dx,q,l,toks⟩ F1 H' rfl ⟨M.cls,M.n1,M.n2,M.n3,hqx⟩ (k1.toExt.trans x2) (k1.sh.free hx) (k1.sh.free hq) (by rw [eH,yH]; rfl) (by rw [eH]; show upd _ x0 _ q=_; rw [yI hqx,yH]) (x1.sub.free hx) (x1.sub.free hq) hf
theorem eBQ (t:At X N sc) (ok:aKB X.K r) (i:Nat) {s:Int × List D} (hr:ρ[i]? = some (.val (.adr r.p))) (h:FRun X tg body s.2 ρ (.nx ρ')) (hN:N[i]? = some x:=by rfl) (hv:aDQ sc x=true:=by rfl) (hx:qK x=true:=by rfl) (hb:attributeBase (.Name x py) "steps" X.env (eval (.Name x py) X.env)=eval (.Name x py) X.env:=by rfl)
  (hs:∀ z,foldedSetIterable (.Attribute (.Name x py) "steps" ps) X.env z=pure z:=by intro _; rfl):aTB (RdS r) X ρ (.For tg (.Attribute (.Name x py) "steps" ps) body [] pos) (.nx ρ') s s:=fun B F H σ E c l k q=>.mk fun pins w I=>
 aYA t.pass t.calm (aYN (aTY yX hb)) eJT jF hs pins w σ H E I (eOI t hr hN hv hx k ⟨r.p,r.C,r.dx,_,.ref r.q,rfl,l.now k _ _ RdS.atP,ok.cls,ok.n3,rfl,r.q,rfl,⟨_,SqL.of (l.now k _ _ (RdS.atQ ok.ne))⟩,by
  refine ⟨fun i m σ H=>∃ ρ1 F1,Ok X.K B F1 H σ ρ1/\Same F F1/\FRun X tg body (s.2.drop i) ρ1 (.nx ρ')/\m=s.2.length - i,⟨s.2.length,ρ,F,k,.refl _,by simpa using h,by simp⟩,?_⟩
  rintro i m σ H ⟨ρ1,F1,k1,sf,run,rfl⟩
  have hq:H r.q=some (.lst c.2):=k1.sh _ _ (l.st _ _ (RdS.atQ ok.ne))
  have rl:RepL X.K F1 c.2 s.2:=l.rep.2.1.mono sf
  generalize e1:s.2.drop i=qU at run
  cases run with
  | nil=>
   have hl:s.2.length<=i:=by
    have:=congrArg List.length e1
    rw [List.length_drop,List.length_nil] at this
    omega
   refine .inl ⟨⟨c.2,SqL.of hq,by rw [rl.length]; exact hl⟩,q F1 H σ c (by rw [UpZ.same l.st]; exact k1) (S_mono l sf) sf⟩
  | @cons d0 ds0 _ ρa ρb _ g bd rr=>
   obtain ⟨hd,hrest,hlt⟩:=aAQ e1
   obtain ⟨v,hv1,rv⟩:=rl.get hd
   refine .inr ⟨⟨c.2,v,SqL.of hq,hv1⟩,fun σ' H'=>∃ F'',Ok X.K B F'' H' σ' ρb/\Same F F'',fun σ' H' ⟨F'',k'',s''⟩=>⟨s.2.length - (i+1),by omega,_,F'',k'',s'',by rw [hrest]; exact rr,rfl⟩,fun xv H' y=>?_⟩
   obtain ⟨rfl,y⟩:=y
   have ex:=y c.2 (SqL.of hq)
   rw [hv1] at ex; cases ex
   exact g B F1 H' σ v _ k1 rv fun F3 H3 σ3 k3 s3=>bd B F3 H3 σ3 _ k3 fun F4 H4 σ4 k4 s4=>⟨F4,k4,sf.trans (s3.trans s4)⟩⟩)
where
 S_mono {B:B0} {F F1:Hp} {c:(RdS r).cs} {s:Int × List D} (l:Ln (RdS r) X.K B F c s) (sf:Same F F1):(RdS r).rep X.K F1 c s:=(RdS r).mono sf l.rep
end
section
variable {X:Cx} {ρ ρ' ρ1:Rho} {q:Addr} {xs xs1 xs' ds:List D} {e a b:Expr} {es:List Expr} {d d0:D} {pos p py ps cpos apos:Pos} {N:List Str} {sc:Scope} {x y:Str}
theorem aDM (t:At X N sc) (i:Nat) (hr:ρ[i]? = some (.val (.adr q))) (hxs:xs=xs' ++ [d]) (hN:N[i]? = some x:=by rfl) (hv:aDQ sc x=true:=by rfl) (hx:qK x=true:=by rfl) (hline:(apos.endLine == cpos.line)=true:=by rfl) :
  EvEM X q ρ (.Call (.Attribute (.Name x py) "pop" apos) [] [] cpos) d xs xs':=fun B F H σ Q us l k w=>.mk fun pins s I=>by
 subst hxs
 refine aTZ PySem.F.plainAttrs_list PySem.F.slot_list_pop PySem.F.type_list_pop aYX yX rfl hline pins s σ H Q I ?_
 refine eGC t hr hN hv hx k ?_
 have h2:H q=some (.lst us):=k.sh _ _ l.st
 refine ⟨.inl ⟨rfl,_,SqL.of h2⟩,?_⟩
 have hl:=l.rep.length
 obtain ⟨v,hw,rw'⟩:=l.rep.get (i:=xs'.length) (d:=d) (by simp)
 have hll:us.length - 1=xs'.length:=by rw [hl]; simp
 refine ⟨q,us,v,rfl,rfl,h2,by rw [hll]; exact hw,?_⟩
 have hf:=l.ff k
 have rd:=l.rep.dropLast
 rw [List.dropLast_concat] at rd
 exact w v F _ us.dropLast ⟨fun b u z=>by rw [yI (fun e=>by subst e; rw [hf] at z; cases z)]; exact k.sub b u z,fun b u z=>z,.refl _,fun a z=>.inl z⟩ rd rw'
theorem aBT (t:At X N sc) (i:Nat) (hr:ρ[i]? = some (.val (.adr q))) (he:EvEM X q ρ e d xs xs1) (hz:xs1.length < sizeLine) (hN:N[i]? = some x:=by rfl) (hv:aDQ sc x=true:=by rfl) (hx:qK x=true:=by rfl)
  (hb2:attributeBase (.Name x py) "append" X.env (eval (.Name x py) X.env)=eval (.Name x py) X.env:=by rfl)
  (hs:starEach [e] X.env=(false,eval e X.env) :: starEach [] X.env:=by rfl) (hline:(apos.endLine == cpos.line)=true:=by rfl) (hpl:(backTo cpos (starEach [] X.env)).any (·.1)=false:=by rfl)
  (hfew:((backTo cpos (starEach [e] X.env)).all (fun x=>!x.1) && (backToKw cpos (keywordEach [] X.env)).all (fun x=>x.1.isSome) && decide (([e]:List Expr).length+([]:List Keyword).length+(if ([]:List Keyword).isEmpty then 0 else 1) < 30))=true:=by rfl)
  (hsw:swapsWith (.Call (.Attribute (.Name x py) "append" apos) [e] [] cpos) none pos.line X.env=pure false:=by rfl) :
  aTC X q ρ (.Expr (.Call (.Attribute (.Name x py) "append" apos) [e] [] cpos) pos) (.nx ρ) xs (xs1++[d]):=fun B F H σ E us l k w=>.mk fun pins st I=>
 aEP (eHO PySem.F.plainAttrs_list PySem.F.slot_list_append PySem.F.type_list_append aFJ yX (zL yX vD hs) hb2 hfew hline hs hpl) hsw pins st σ H E I
  (eGC t hr hN hv hx k ⟨.inl ⟨rfl,_,SqL.of (k.sh _ _ l.st)⟩,he B F H σ _ us l k fun v F1 H1 u1 x1 r1 rv=>by
   have k1:=k.extM l x1
   have l1:Lent X.K (UpB B q u1) q F1 u1 xs1:=⟨yH,l.fr,r1⟩
   refine ⟨q,u1,v,rfl,rfl,k1.sh _ _ yH,by rw [r1.length]; exact hz,?_⟩
   have k2:Ok X.K (UpB (UpB B q u1) q (u1++[v])) F1 (upd H1 q (.lst (u1++[v]))) σ ρ:=k1.chgAt l1
   rw [UpB.up] at k2
   exact w F1 _ σ (u1++[v]) k2 (r1.append (.cons rv .nil)) x1.sf⟩)
def eOP (K:PySem.W.Frag) (C:D->List D->List D->Prop):Sp:=fun vs H Q _=>∃ q F d0 us xs xs',Same F H/\H q=some (.lst us)/\F q=none/\RepL K F us xs/\RepL K F vs [d0,.adr q]/\C d0 xs xs'/\∀ v F' H' us',Ext (UpB ⟨F,H⟩ q us') F' H'->RepL K F' us' xs'->Rep K F' v .non->Q v H'
def aOI (X:Cx) (x:Str) (C:D->List D->List D->Prop):Prop:=∃ (f:Addr) (fd:FuncData) (ps:List Str) (k:Nat),qL X.prog X.w X.K X.mg X.base CX0 k f fd ps (eOP X.K C)/\Room k X.A/\X.mg x=some (.ref f)/\PySem.W.keepIn X.K (.ref f)=true/\Binds X.K fd ps []
theorem eIN {P:Program} (htree:P.given.tree=none) {w:World} {K:PySem.W.Frag} {mg:Str->Option Value} {base:Heap} {x qual:Str} {st:Stmt} {f:Addr} {fd:FuncData} {N ps:List Str} {k:Nat} {C:D->List D->List D->Prop} (F:Fun K x qual st f fd) (S:yL N ps (yC st))
  (len:2=ps.length)
  (body:∀ X,DefX P w K mg base k N (yC st) X->∀ q d0 xs xs',C d0 xs xs'->∃ ρ',EvM X q (.val d0 :: .val (.adr q) :: List.replicate (N.length - 2) Sl.un) (yF st) (.nx ρ') xs xs'):qL P w K mg base CX0 (k+1) f fd ps (eOP K C):=by
 refine F.ok S (fun vs H Q E h=>?_) (fun cdv A outer s H vs Q E hr h=>?_)
 ·obtain ⟨p,F',d0,us,xs,xs',sub,hp,hf,ru,r,hC,q⟩:=h
  rw [r.length]; exact len
 ·obtain ⟨p,F',d0,us,xs,xs',sub,hp,hf,ru,r,hC,q⟩:=h
  refine ⟨_,jF,?_⟩
  have hx:DefX P w K mg base k N (yC st) (aUV CX0 P w K mg base N qual (yC st) f cdv A outer s H E).nox:=
   ⟨⟨rfl,rfl,rfl,S.nd,rfl,hr.units,hr.dp100,htree,⟨_,_,rfl,S.gen,S.co,rfl,rfl⟩⟩,rfl,rfl,rfl,rfl,rfl,hr,⟨fun _=>rfl⟩,rfl,rfl⟩
  have hk:Ok K ⟨F',H⟩ F' H (start N vs) ([d0,.adr p].map Sl.val++List.replicate (N.length - 2) Sl.un):=by
   unfold start
   rw [r.length]
   exact aCH sub r _
  obtain ⟨ρ',hb⟩:=body _ hx p d0 xs xs' hC
  exact hb ⟨F',H⟩ F' H _ _ us ⟨hp,hf,ru⟩ hk fun F2 H2 σ2 us2 k2 r2 s2=>q .non F2 H2 us2 k2.toExt r2 .non
theorem DefX.calleeM2 {P:Program} {w:World} {K:PySem.W.Frag} {mg:Str->Option Value} {base:Heap} {k j:Nat} {f:Addr} {fd:FuncData} {ps:List Str} {C:D->List D->List D->Prop} (h:DefX P w K mg base k N sc X)
  (F:qL P w K mg base CX0 j f fd ps (eOP K C)) (hj:j<=k) (hm:mg x=some (.ref f)) (hk:PySem.W.keepIn K (.ref f)=true) (hb:Binds K fd ps []):aOI X x C:=by
 obtain ⟨h0,rfl,rfl,rfl,rfl,rfl,hr,_⟩:=h
 exact ⟨f,fd,ps,j,F,hr.mono hj,hm,hk,hb⟩
theorem eBW (t:At X N sc) {C:D->List D->List D->Prop} (h:aOI X x C) (i:Nat) (hr:ρ[i]? = some (.own xs)) (ha:EvE X ρ e d0) (hC:C d0 xs xs') (hN:N[i]? = some y:=by rfl) (hv:aDQ sc y=true:=by rfl) (hx:qK y=true:=by rfl)
  (hg:sc.names.lookup x=some .globalImplicit:=by rfl) (hdb:(x == ("__debug__" : Str))=false:=by rfl) (hs:Pl (.Name y py):=by intro _ _; rfl) (he:Pl e:=by intro _ _; rfl) (hsw:swapsWith (.Call (.Name x p) [e,.Name y py] [] cpos) none pos.line X.env=pure false:=by rfl) :
  EvS X ρ (.Expr (.Call (.Name x p) [e,.Name y py] [] cpos) pos) (.nx (ρ.set i (.own xs'))):=by
 obtain ⟨f,fd,ps,k,F,hr',hm,hk,hb⟩:=h
 have pz:aBZ CX0 X E0:=aPJ
 refine .of (aEP (aEQ F hr' (vZ t hg) hm hk hb .nil pz (zL yX (zL yX vD (hs _ _)) (he _ _)) hdb (he _ _) (by rw [hs]; rfl)) hsw) fun B F' H σ E k' q=>?_
 refine ha B F' H σ _ k' fun v0 F1 H1 x1 r1=>?_
 have k1:=k'.ext x1
 refine aPK t hr hN hv hx k1 fun l us h1 h2 h3=>?_
 have hf1:F1 l=none:=by
  obtain ⟨a,vs,o1,o2,o3,o4,o5⟩:=k1.owns i xs hr
  rw [h1] at o1
  cases o1
  exact o3
 refine ⟨l,F1,d0,us,xs,xs',x1.sub,h2,hf1,h3,?_,hC,fun v F2 H2 us2 x2 r2 rv=>q F2 H2 σ (k1.back hr h1 x2 r2) (x1.sf.trans x2.sf)⟩
 exact .cons r1 (.cons (.adr l) .nil)
end
section
variable {X:Cx} {ρ:Rho} {a b e:Expr} {pos p pos':Pos} {N:List Str} {sc:Scope} {x:Str}
theorem aSH {z w:Str} (ha:EvE X ρ a (.str z)) (hb:EvE X ρ b (.str w)) (hz:z.length+w.length<=sizeLine):EvE X ρ (.BinOp a .Add b pos) (.str (z++w)):=
 .of (aPI aLR yX yX) fun B F H σ Q k q=>two ha hb k fun x y F' H' x' rx ry=>by
  cases rx; cases ry
  exact ⟨z,w,rfl,rfl,hz,q _ F' H' x' (.str _)⟩
theorem eFQ {z w:Str} {r:Bool} (ha:EvE X ρ a (.str z)) (hb:EvE X ρ b (.str w)) (hr:(!(Builtin.Str.occurrences w z 0 w.length 1).isEmpty)=r) (hm:behindInMarks .In b=false:=by rfl):EvE X ρ (.Compare a [.In] [b] pos) (.bl r):=
 .of (aMW aPN yX yX hm) fun B F H σ Q k q=>two ha hb k fun x y F' H' x' rx ry=>by
  cases rx; cases ry; subst hr
  exact ⟨z,w,rfl,rfl,q _ F' H' x' (.bl _)⟩
theorem aUQ {z w:Str} {r:Bool} (ha:EvE X ρ a (.str z)) (hb:EvE X ρ b (.str w)) (hr:(!(Builtin.Str.occurrences w z 0 w.length 1).isEmpty)=r) (hm:behindInMarks .In b=false:=by rfl):EvT X ρ (.Compare a [.In] [b] pos) r:=
 .of (vY aPN yX yX hm) fun B F H σ Q k q=>two ha hb k fun x y F' H' x' rx ry=>by
  cases rx; cases ry; subst hr
  exact ⟨z,w,rfl,rfl,_,rfl,q F' H' x'⟩
theorem aAN (t:At X N sc) {z:Str} (bl:Blt X sc x (.builtin "len")) (ha:EvE X ρ e (.str z)) (hz:z.length<=sizeLine) (hpe:Pl e:=by intro _ _; rfl):EvE X ρ (.Call (.Name x p) [e] [] pos) (.int z.length):=
 aHT t bl aQN (yB ha yE hpe) fun F H vs Q sub r q=>by
  obtain ⟨v,rfl,rv⟩:=r.one
  cases rv
  exact ⟨z,rfl,hz,q _ F H (.refl sub) (.int _)⟩
theorem aDI (t:At X N sc) {i:Int} (bl:Blt X sc x (.type "str")) (ha:EvE X ρ e (.int i)) (hz:i.natAbs.log2 < 1920) (hpe:Pl e:=by intro _ _; rfl):EvE X ρ (.Call (.Name x p) [e] [] pos) (.str (toString i)):=
 aJO t bl aQL (yB ha yE hpe) fun F H vs Q sub r q=>by
  obtain ⟨v,rfl,rv⟩:=r.one
  cases rv
  exact ⟨i,rfl,hz,q _ F H (.refl sub) (.str _)⟩
theorem aQO:aCM X (.type "int") (fun xs H Q=>∃ z n,xs=[.str z]/\PySem.intText? z=some n/\z.length<=640/\Q (.int n) H):=by
 intro pins s σ H xs us Q I r h
 obtain ⟨z,n,rfl,h1,h2,q⟩:=h
 obtain ⟨u,rfl,t,rfl⟩:=aFV r
 exact PySem.W.KIN.call_text h1 h2 ⟨.int n,H,I.tok _,⟨_,rfl⟩,q⟩
theorem aZV (t:At X N sc) {z:Str} {n:Int} (bl:Blt X sc x (.type "int")) (ha:EvE X ρ e (.str z)) (hn:PySem.intText? z=some n) (hz:z.length<=640) (hpe:Pl e:=by intro _ _; rfl):EvE X ρ (.Call (.Name x p) [e] [] pos) (.int n):=
 aJO t bl aQO (yB ha yE hpe) fun F H vs Q sub r q=>by
  obtain ⟨v,rfl,rv⟩:=r.one
  cases rv
  exact ⟨z,n,rfl,hn,hz,q _ F H (.refl sub) (.int _)⟩
theorem aVR:MtR X "str.isalnum" (fun x xs H Q=>∃ z,x = .str z/\xs=[]/\Q (.bl (Txt.isalnum z)) H):=by
 intro pins s σ H x xs v us Q I rx rs h
 obtain ⟨z,rfl,rfl,q⟩:=h
 obtain ⟨t,rfl⟩:=rx
 cases rs
 exact SC.isalnum ⟨.bl _,H,I,rfl,q⟩
theorem aDW {z:Str} {apos cpos:Pos} (ho:EvE X ρ a (.str z)) (hbase:attributeBase a "isalnum" X.env (eval a X.env)=eval a X.env:=by rfl) (hline:(apos.endLine == cpos.line)=true:=by rfl) :
  EvE X ρ (.Call (.Attribute a "isalnum" apos) [] [] cpos) (.bl (Txt.isalnum z)):=
 .of (aTZ PySem.F.plainAttrs_str PySem.F.slot_str_isalnum PySem.F.type_str_isalnum aVR yX hbase hline) fun B F H σ Q k q=>
  ho B F H σ _ k fun v F1 H1 x1 r1=>by
   cases r1
   exact ⟨rfl,z,rfl,rfl,q _ F1 H1 x1 (.bl _)⟩
end
end L2.EV
namespace L2
open PySem PySem.Spec PyProof.Rows
def Its (z:Str):It:=⟨fun i _=>i < z.cps.size,fun i H x H'=>H' = H/\∃ c,z.cps[i]? = some c/\x = .str ⟨#[c]⟩,fun i _=>z.cps.size<=i,False⟩
theorem aWV {P:Program} {w:World} {K:PySem.W.Frag} {tg:Expr} (it:Addr) (z:Str) (t:Tok):eDK P w K tg (Its z) [it] it (fun i h=>h.IsStrIter it "str_ascii_iterator" z t i) where
 mem:=by simp
 obj:=fun i h st b hb=>by
  have e:b=it:=by simpa using hb
  subst e
  obtain ⟨o,e,c,d⟩:=st
  exact ⟨o,e,fun v z=>by rw [d] at z; cases z⟩
 keep:=fun i h h' st k=>let ⟨o,e,r⟩:=st; ⟨o,k it (by simp) o e,r⟩
 item:=by
  intro X hP hw hK hc i pins s σ H E I hf st hg
  subst hP hw hK
  replace hc:=hc.resolve_right fun z=>z.1
  obtain ⟨f0,f1,f2,f3,f4,f5⟩:=hf it (by simp)
  have hi:i < z.cps.size:=hg
  refine wpAny_pyNext_ascii_item st (c:=z.cps[i]) (by simp [hi]) fun h' st' sb=>?_
  have I1:Inv X pins σ H { s with heap:=h',toks:=s.toks+1 }:=I.turned (fun b o hb e=>(sb.2 b hb).trans e) f0 f1 f3 f4 f5
  obtain ⟨o,e,c,d⟩:=id st'
  exact ⟨_,rfl,eCX (s:={ s with heap:=h',toks:=s.toks+1 }) e c d (by decide) ⟨.str ⟨#[z.cps[i]]⟩,H,I1,⟨_,rfl⟩,⟨rfl,_,by simp [hi],rfl⟩,st',fun b hb=>(hf b hb).1⟩⟩
 done:=by
  intro X hP hw hK hc i pins s σ H E I hf st hg
  subst hP hw hK
  replace hc:=hc.resolve_right fun z=>z.1
  obtain ⟨f0,f1,f2,f3,f4,f5⟩:=hf it (by simp)
  have hi:z.cps.size<=i:=hg
  exact wpAny_pyNext_ascii_end (I.ok.hd hc) st (by simp [hi]) fun h' eb=>⟨rfl,I.turned (t':=s.toks) (fun b o hb e=>eb b o hb e) f0 f1 f3 f4 f5⟩
 self:=fun _ _ _ _ _ st h=>wpAny_pyIter_striter_ascii st h
section
variable {X:Cx} {tg:Expr}
def eSS (tl:TE):TI:=fun σ H R=>tl σ H fun x H1=>∃ z,x = .str z/\z.cps.all (· < 128)=true/\R (Its z) H1
theorem eLN {l:Expr} {tl:TE} (hl:PE X l tl):PI X tg l (eSS tl):=by
 intro pins s σ H R I h
 refine thn (hl pins s σ H _ I h) fun v s1 ⟨x,H1,I1,r1,q1⟩=>?_
 obtain ⟨z,e,ha,q⟩:=q1
 subst e
 obtain ⟨t,rfl⟩:=r1
 refine wpAny_pyIter_ascii ha ?_
 refine ⟨s1.heap.objs.size,[s1.heap.objs.size],_,_,H1,rfl,I1.kept (t':=s1.toks) fun b o e=>Heap.get?_push_of_some _ e,aWV _ z t,⟨_,Heap.get?_push_size _ rfl,rfl,rfl⟩,fun b hb=>?_,q⟩
 have e:b=s1.heap.objs.size:=by simpa using hb
 subst e
 exact I1.fpOk (Nat.le_refl _) (I1.hok.fresh (Nat.le_refl _))
end
end L2
namespace L2.EV
open PySem PySem.Spec PyProof.Rows
section
variable {X:Cx} {ρ:Rho} {a b c tg e:Expr} {d:D} {pos p:Pos} {N:List Str} {sc:Scope} {x:Str}
def sgn (z:Str):List D:=z.cps.toList.map fun c=>D.str ⟨#[c]⟩
theorem eMY {K:PySem.W.Frag} {F:Hp} {z:Str}:eBJ K (Its z) F (sgn z):=fun i F2 H2 s1 s2=>
 ⟨fun d hd=>by
  unfold sgn at hd
  rw [List.getElem?_map] at hd
  cases e:z.cps.toList[i]? with
  | none=>rw [e] at hd; cases hd
  | some c=>
   rw [e] at hd
   cases hd
   have hi:=(List.getElem?_eq_some_iff.mp e).1
   refine ⟨(show i < z.cps.size by simpa using hi),fun x H' y=>?_⟩
   obtain ⟨rfl,c',h1,rfl⟩:=y
   have h2:z.cps[i]? = some c:=by simpa using e
   rw [h2] at h1; cases h1
   exact ⟨F2,.refl s2,.str _⟩,fun h=>by
   have h':z.cps.size<=i:=by simpa [sgn] using h
   exact h'⟩
theorem eNW {z:Str} (h:EvE X ρ e (.str z)) (ha:z.cps.all (· < 128)=true):EvI X ρ tg e (sgn z):=.of (eLN yX) fun B F H σ R k q=>h B F H σ _ k fun v F' H' x r=>by
 cases r
 exact ⟨z,rfl,ha,q _ F' H' x eMY⟩
end
section
variable {X:Cx} {ρ:Rho} {a b e lo hi:Expr} {pos p p2:Pos} {N:List Str} {sc:Scope} {x:Str}
theorem eKS:SlR X (fun x lo hi H Q=>∃ z,x = .str z/\z.length<=sizeLine/\Q (.str (Txt.slice z lo hi)) H):=by
 intro pins s σ H x v vl vu lo hi sl Q I rx hs pl pu h
 obtain ⟨z,rfl,hz,q⟩:=h
 obtain ⟨t,rfl⟩:=rx
 have part:∀ {v:Value} {o:Option Int},IsPart v o->∃ l:Option (Int × Tok),v=partValue l/\l.map (·.1)=o:=fun h=>by
  cases h with
  | none=>exact ⟨none,rfl,rfl⟩
  | int i t=>exact ⟨some (i,t),rfl,rfl⟩
 obtain ⟨l,rfl,rfl⟩:=part pl
 obtain ⟨u,rfl,rfl⟩:=part pu
 exact ⟨"str",_,PySem.F.slot_str_getitem.lookup,typeIs_str _ _ _,wpAny_getItem_str_slice (l:=l) (u:=u) (st:=none) hs rfl
  (post_val_or_str ⟨Nat.le_trans (Txt.slice_le z _ _) hz,fun t' k=>⟨.str (Txt.slice z (l.map (·.1)) (u.map (·.1))),H,I.tok _,⟨_,rfl⟩,q⟩⟩)⟩
theorem aZY {z:Str} {i j:Int} (h:EvE X ρ e (.str z)) (h1:EvE X ρ lo (.int i)) (h2:EvE X ρ hi (.int j)) (hz:z.length<=sizeLine):EvE X ρ (.Subscript e (.Slice (some lo) (some hi) none p2) pos) (.str (Txt.slice z (some i) (some j))):=
 .of (aTX eKS yX (aRT yX) (aRT yX)) fun B F H σ Q k q=>h B F H σ _ k fun v F1 H1 x1 r1=>h1 B F1 H1 σ _ (k.ext x1) fun v2 F2 H2 x2 r2=>by
  cases r1; cases r2
  exact ⟨i,rfl,h2 B F2 H2 σ _ (k.ext (x1.t x2)) fun v3 F3 H3 x3 r3=>by
   cases r3
   exact ⟨j,rfl,z,rfl,hz,q _ F3 H3 (x1.t (x2.t x3)) (.str _)⟩⟩
theorem aTW (cs:Array Nat) (i:Nat):∀ n,i+n<=cs.size->((List.range n).map fun k=>i+k).filterMap (cs[·]?)=(cs.toList.drop i).take n
 | 0,_=>by simp
 | n+1,h=>by
  rw [List.range_succ,List.map_append,List.filterMap_append,aTW cs i n (by omega),List.take_succ,List.getElem?_drop]
  congr 1
  have:i+n < cs.size:=by omega
  simp [this]
theorem aTF:∀ (xs:List V) (us:List Value),us.length=xs.length->(∀ (j:Nat) x u,xs[j]? = some x->us[j]? = some u->RelV x u)->Vals xs us
 | [],[],_,_=>.nil
 | x :: xs,u :: us,hl,h=>.cons (h 0 x u rfl rfl) (aTF xs us (by simpa using hl) fun j y v h1 h2=>h (j+1) y v h1 h2)
theorem eAQ {z:Str} {i j:Nat} (h:i<=j) (hi:i<=z.length):Txt.slice z (some (i:Int)) (some (j:Int))=⟨((z.cps.toList.drop i).take (j - i)).toArray⟩:=by
 have hz:z.length=z.cps.size:=rfl
 have e1:Builtin.Str.strSliceIndices (some (i:Int)) (some (j:Int)) 1 z.length=(List.range (min j z.length - i)).map fun k=>i+k:=by
  unfold Builtin.Str.strSliceIndices sliceRange
  have a1:¬ ((i:Int) < 0):=by omega
  have a2:¬ ((j:Int) < 0):=by omega
  simp only [a1,a2,if_false,show (1:Int) > 0 by decide,if_true]
  have b1:max 0 (min (i:Int) (z.length:Int))=i:=by omega
  have b2:max 0 (min (j:Int) (z.length:Int))=(min j z.length:Nat):=by omega
  rw [b1,b2]
  have b3:(if (i:Int) < (min j z.length:Nat) then (((min j z.length:Nat):Int) - i+1 - 1) / 1 else 0).toNat=min j z.length - i:=by split <;> omega
  rw [b3]
  exact List.map_congr_left fun k _=>by omega
 have e2:((List.range (min j z.length - i)).map fun k=>i+k).filterMap (z.cps[·]?)=(z.cps.toList.drop i).take (j - i):=by
  rw [aTW z.cps i (min j z.length - i) (by omega)]
  by_cases hj:j<=z.length
  ·rw [Nat.min_eq_left hj]
  ·rw [List.take_of_length_le (by rw [List.length_drop,Array.length_toList]; omega),List.take_of_length_le (by rw [List.length_drop,Array.length_toList]; omega)]
 unfold Txt.slice
 rw [e1,e2]
 split
 ·rename_i h0
  rw [Bool.and_eq_true,beq_iff_eq,beq_iff_eq,List.length_map,List.length_range] at h0
  have h1:=h0.2
  have hi0:i=0\/z.length=0:=by omega
  rcases hi0 with rfl | e
  ·rw [List.drop_zero,Nat.sub_zero,List.take_of_length_le (by rw [Array.length_toList]; omega)]
  ·have:z.cps.toList=[]:=List.eq_nil_of_length_eq_zero (by rw [Array.length_toList]; omega)
   rw [this]
   obtain ⟨c⟩:=z
   have hc:c = #[]:=Array.eq_empty_of_size_eq_zero e
   subst hc
   simp
 ·rfl
theorem aWD (hc:X.calm=true):aCM X (.type "list") (fun xs H Q=>∃ z,xs=[.str z]/\z.length<=sizeLine/\∀ l,H l=none->Q (.ref l) (upd H l (.lst (z.cps.toList.map fun c=>V.str ⟨#[c]⟩)))):=by
 intro pins s σ H xs us Q I r h
 obtain ⟨z,rfl,hz,q⟩:=h
 obtain ⟨u,rfl,t,rfl⟩:=aFV r
 refine call_list_str (I.ok.hd hc) z t (hn:=hz) fun h' tk acc' c' kp e hacc=>?_
 have rv:Vals (z.cps.toList.map fun c=>V.str ⟨#[c]⟩) acc'.toList:=by
  obtain ⟨h1,h2⟩:=hacc
  refine aTF _ _ (by simp [h1]) fun j x u e1 e2=>?_
  obtain ⟨c,t',hc,rfl⟩:=h2 j u (by simpa using e2)
  rw [List.getElem?_map,show z.cps.toList[j]? = some c by simpa using hc] at e1
  cases e1
  exact ⟨t',rfl⟩
 exact ⟨.ref s.heap.objs.size,_,I.laid (t':=tk) kp (Nat.le_refl _) (show ObjOk X.prog X.w _ h' _ (.lst _) from ⟨by rw [List.length_map,Array.length_toList]; exact hz,acc'.toList,c',rv,by simpa using e⟩),rfl,q _ (I.hok.fresh (Nat.le_refl _))⟩
theorem aOZ {K:PySem.W.Frag} {F:Hp}:∀ cs:List Nat,RepL K F (cs.map fun c=>V.str ⟨#[c]⟩) (cs.map fun c=>D.str ⟨#[c]⟩)
 | []=>.nil
 | c :: cs=>.cons (.str _) (aOZ cs)
theorem eDB (t:At X N sc) {z:Str} (bl:Blt X sc x (.type "list")) (ha:EvE X ρ e (.str z)) (hz:z.length<=sizeLine) (hpe:Pl e:=by intro _ _; rfl):EvN X ρ (.Call (.Name x p) [e] [] pos) (sgn z):=
 .of (aDE (aWD t.calm) (vZ t bl.g) bl.m bl.v (zL yX vD (hpe _ _)) bl.n bl.d (hpe _ _) rfl) fun B F H σ Q k' q=>ha B F H σ _ k' fun v F' H' x' r=>by
  cases r
  exact ⟨z,rfl,hz,fun l hl=>q l _ F' _ ⟨x'.sub.trans (yK hl),x'.sh.trans (yK hl),x'.sf,x'.nw⟩ (x'.sh.free hl) yH (x'.sub.free hl) (aOZ _)⟩
end
section
variable {X:Cx} {ρ:Rho} {a b e:Expr} {pos p:Pos} {N:List Str} {sc:Scope} {x:Str}
theorem aNN (t:At X N sc) {z:Str} (hm:∃ tk,X.mg x=some (.str z tk)) (hg:sc.names.lookup x=some .globalImplicit:=by rfl) (hdb:(x == ("__debug__" : Str))=false:=by rfl):EvE X ρ (.Name x p) (.str z):=by
 obtain ⟨tk,hm⟩:=hm
 exact .of (aRU (vZ t hg) hm (show RelV (.str z) (.str z tk) from ⟨_,rfl⟩) hdb) fun B F H σ Q k q=>q _ F H (.refl k.sub) (.str _)
theorem aNP (t:At X N sc) {z:Int} (hm:∃ tk,X.mg x=some (.int z tk)) (hg:sc.names.lookup x=some .globalImplicit:=by rfl) (hdb:(x == ("__debug__" : Str))=false:=by rfl):EvE X ρ (.Name x p) (.int z):=by
 obtain ⟨tk,hm⟩:=hm
 exact .of (aRU (vZ t hg) hm (show RelV (.int z) (.int z tk) from ⟨_,rfl⟩) hdb) fun B F H σ Q k q=>q _ F H (.refl k.sub) (.int _)
theorem aXQ {d:D} (h:EvE X ρ e d) (hsw:swapsWith e none pos.line X.env=pure false:=by rfl):EvS X ρ (.Expr e pos) (.nx ρ):=fun B F H σ E k q=>.mk fun pins s I=>
 aEP yX hsw pins s σ H E I (h B F H σ _ k fun v F' H' x' r=>q F' H' σ (k.ext x') x'.sf)
theorem eKW:EvS X ρ (.Return none pos) (.rt .non):=fun B F H σ E k q=>.mk fun pins s I=>eHG pins s σ H E I (q .non F H k.toExt .non)
end
theorem eFJ {P:Program} (htree:P.given.tree=none) {w:World} {K:PySem.W.Frag} {mg:Str->Option Value} {base:Heap} {x qual:Str} {st:Stmt} {f:Addr} {fd:FuncData} {N ps:List Str} {k:Nat} {C:List D->D->Prop} (F:Fun K x qual st f fd) (S:yL N ps (yC st))
  (len:∀ ds d,C ds d->ds.length=ps.length)
  (body:∀ X,DefX P w K mg base k N (yC st) X->∀ ds d,C ds d->EvSs X (ds.map Sl.val++List.replicate (N.length - ds.length) Sl.un) (yF st) (.rt d)\/(d = .non/\∃ ρ',EvSs X (ds.map Sl.val++List.replicate (N.length - ds.length) Sl.un) (yF st) (.nx ρ'))):qL P w K mg base CX0 (k+1) f fd ps (spC K C):=by
 refine F.ok S (fun vs H Q E h=>?_) (fun cdv A outer s H vs Q E hr h=>?_)
 ·obtain ⟨F',ds,d,sub,r,hC,q⟩:=h
  rw [r.length]; exact len ds d hC
 ·obtain ⟨F',ds,d,sub,r,hC,q⟩:=h
  refine ⟨_,jF,?_⟩
  have hx:DefX P w K mg base k N (yC st) (aUV CX0 P w K mg base N qual (yC st) f cdv A outer s H E).nox:=
   ⟨⟨rfl,rfl,rfl,S.nd,rfl,hr.units,hr.dp100,htree,⟨_,_,rfl,S.gen,S.co,rfl,rfl⟩⟩,rfl,rfl,rfl,rfl,rfl,hr,⟨fun _=>rfl⟩,rfl,rfl⟩
  have hk:Ok K ⟨F',H⟩ F' H (start N vs) (ds.map Sl.val++List.replicate (N.length - ds.length) Sl.un):=by
   unfold start
   rw [r.length]
   exact aCH sub r _
  rcases body _ hx ds d hC with hb | ⟨rfl,ρ',hb⟩
  ·exact hb ⟨F',H⟩ F' H _ _ hk fun v F2 H2 x2 r2=>q v F2 H2 x2 r2
  ·exact hb ⟨F',H⟩ F' H _ _ hk fun F2 H2 σ2 k2 s2=>q .non F2 H2 k2.toExt .non
def S (cs:List Nat):Str:=⟨cs.toArray⟩
theorem wV (cs:List Nat):(S cs).length=cs.length:=by show cs.toArray.size=_; simp
theorem aCL (cs:List Nat):(S cs).cps.toList=cs:=by show cs.toArray.toList=_; simp
theorem eDL (a b:List Nat):S a++S b=S (a++b):=by show (⟨a.toArray++b.toArray⟩:Str)=⟨_⟩; simp
theorem aBM {a b:List Nat} (h:S a=S b):a=b:=by rw [<- aCL a,h,aCL]
theorem eTB (z:Str):z=S z.cps.toList:=by obtain ⟨c⟩:=z; show (⟨c⟩:Str)=⟨_⟩; simp
theorem aKA {cs:List Nat} (h:∀ c∈cs,c < 128):PyData.strOk (S cs)=true:=by
 show cs.toArray.all (· < 0x110000)=true
 simp only [List.all_toArray,List.all_eq_true,decide_eq_true_eq]
 intro c hc
 have:=h c hc
 omega
theorem eQU {cs:List Nat} (h:∀ c∈cs,c < 128):(S cs).cps.all (· < 128)=true:=by
 show cs.toArray.all (· < 128)=true
 simp only [List.all_toArray,List.all_eq_true,decide_eq_true_eq]
 exact h
def al (c:Nat):Bool:=PySem.Unicode.isAlnum c
theorem eOV (c:Nat):Txt.isalnum (S [c])=al c:=by
 show (decide ((#[c]:Array Nat).size > 0) && (#[c]:Array Nat).all PySem.Unicode.isAlnum)=_
 simp [al]
theorem eGE {pre post:List Nat} {c:Nat}:atI (S (pre++c :: post)).cps.toList (pre.length:Int)=some c:=by
 rw [aCL]
 exact jR (by simp)
theorem eQT (pre w post:List Nat):Txt.slice (S (pre++w++post)) (some (pre.length:Int)) (some ((pre.length:Int)+(w.length:Int)))=S w:=by
 have e:(pre.length:Int)+(w.length:Int)=((pre.length+w.length:Nat):Int):=by omega
 rw [e,eAQ (by omega) (by rw [wV]; simp),aCL]
 show (⟨_⟩:Str)=⟨_⟩
 simp [List.drop_append,List.take_append]
theorem eOJ (pre post:List Nat) (c:Nat):Txt.slice (S (pre++c :: post)) (some (pre.length:Int)) (some ((pre.length:Int)+2))=S (c :: post.take 1):=by
 have e:(pre.length:Int)+2=((pre.length+2:Nat):Int):=by omega
 rw [e,eAQ (by omega) (by rw [wV]; simp),aCL]
 show (⟨_⟩:Str)=⟨_⟩
 simp [List.drop_append,List.take_append]
def eQQ:Stmt->Stmt
 | .ClassDef _ _ _ (b :: _) _ _ _ _ _ _ _=>b
 | s=>s
theorem eIL {P:Program} (htree:P.given.tree=none) {w:World} {K:PySem.W.Frag} {mg:Str->Option Value} {base:Heap} {x qual:Str} {st:Stmt} {f:Addr} {fd:FuncData} {k:Nat} {C:Addr} {p1 p2 p3 p4 p5 p6 p7 p8 p9 a1 a2 a3:Pos} {j:Nat} (F:Fun K x qual st f fd) (S:yL ["self", "tokens"] ["self", "tokens"] (yC st))
  (c:Cls K C) (n1:NoAttr K C "tokens") (n2:NoAttr K C "done") (n3:NoAttr K C "steps")
  (hb:yF st=[.Assign [.Attribute (.Name "self" p1) "tokens" p2] (.Name "tokens" p3) a1,.Assign [.Attribute (.Name "self" p4) "done" p5] (.Constant (.int 0) j p6) a2,.Assign [.Attribute (.Name "self" p7) "steps" p8] (.List [] p9) a3])
  (v1:aDQ (yC st) "self" = true) (v2:aDQ (yC st) "tokens" = true):qL P w K mg base CX0 (k+1) f fd ["self", "tokens"] (aTL C):=by
 refine F.ok S (fun vs H Q E h=>?_) (fun cdv A outer s H vs Q E hr h=>?_)
 ·obtain ⟨x,dx,l,rfl,_⟩:=h; rfl
 ·obtain ⟨x0,dx,l,rfl,hx,q⟩:=h
  have hX:DefX P w K mg base k ["self", "tokens"] (yC st) (aUV CX0 P w K mg base ["self", "tokens"] qual (yC st) f cdv A outer s H E).nox:=
   ⟨⟨rfl,rfl,rfl,S.nd,rfl,hr.units,hr.dp100,htree,⟨_,_,rfl,S.gen,S.co,rfl,rfl⟩⟩,rfl,rfl,rfl,rfl,rfl,hr,⟨fun _=>rfl⟩,rfl,rfl⟩
  have t:=hX.at'
  rw [hb]
  refine ⟨_,vH (aYC (aVO t (i:=0) rfl v1 rfl) (aVO t (i:=1) rfl v2 rfl) rfl) (vH (aYC (aVO t (i:=0) rfl v1 rfl) eER rfl) (aGA (aYC (aVO t (i:=0) rfl v1 rfl) (eEQ vD) rfl))),?_⟩
  refine ⟨.ref l,rfl,.ref x0,rfl,x0,C,dx,[],rfl,hx,c,n1,by decide,?_⟩
  refine ⟨.ref x0,rfl,x0,C,dx,_,rfl,yH,c,n2,(by show 1 < 1000; decide),?_⟩
  refine ⟨Nat.zero_le _,fun p hp=>⟨.ref x0,rfl,x0,C,dx,aMP "done" (.int 0) (aMP "tokens" (.ref l) []),rfl,?_,c,n3,(show (2:Nat) < 1000 by decide),?_⟩⟩
  ·have hpx:x0≠p:=fun e=>by subst e; rw [yH] at hp; cases hp
   rw [yI hpx,yH]
  ·have hpx:p≠x0:=fun e=>by subst e; rw [yH] at hp; cases hp
   refine q p _ (by rwa [yI hpx,yI hpx] at hp) hpx ?_
   funext b
   unfold upd
   by_cases h1:b=x0
   ·rw [if_pos h1,if_pos h1]; rfl
   ·rw [if_neg h1,if_neg h1]
    by_cases h2:b=p
    ·simp [h1,h2,hpx]
    ·simp [h1,h2]
theorem DefX.mkR {X:Cx} {N:List Str} {sc:Scope} {x:Str} {P:Program} {w:World} {K:PySem.W.Frag} {mg:Str->Option Value} {base:Heap} {k j:Nat} {f C:Addr} {fd:FuncData} {ps:List Str} (h:DefX P w K mg base k N sc X)
  (F:qL P w K mg base CX0 j f fd ps (aTL C)) (hj:j+1<=k) (M:Mk K C f) (hm:mg x=some (.ref C)) (hb:Binds K fd ps []) (c:Cls K C) (n1:NoAttr K C "tokens") (n2:NoAttr K C "done") (n3:NoAttr K C "steps"):MkR X x C:=by
 obtain ⟨h0,rfl,rfl,rfl,rfl,rfl,hr,_⟩:=h
 exact ⟨⟨f,fd,ps,j,M,F,hr.mono hj,hb⟩,hm,c,n1,n2,n3⟩
section
variable {X:Cx} {q:Addr} {ρ ρ' ρ1:Rho} {st:Stmt} {sts qU:List Stmt} {o:Out} {xs ds:List D} {e:Expr} {d:D} {pos pos':Pos} {N:List Str} {sc:Scope} {x y:Str}
theorem Ok.pinL {K:PySem.W.Frag} {B:B0} {F H:Hp} {σ:St} {l:Addr} {vs:List V} (k:Ok K B F H σ ρ) (h1:H l=some (.lst vs)) (h2:F l=none) (ho:∀ (n:Nat) xs a,ρ[n]? = some (.own xs)->σ[n]? = some (some (.ref a))->a≠l) (hd:∀ (n:Nat) xs a,ρ[n]? = some (.dct xs)->σ[n]? = some (some (.ref a))->a≠l):Ok K (UpB B l vs) F H σ ρ:=by
 refine ⟨⟨k.sub,fun b u z=>?_,k.sf,fun a z=>?_⟩,k.len,k.vals,fun n xs e=>?_,k.dist,⟨fun n kvs e=>?_,k.dic.distD⟩⟩
 ·have z':upd B.H l (.lst vs) b=some u:=z
  by_cases e:b=l
  ·subst e; rw [yH] at z'; cases z'; exact h1
  ·rw [yI e] at z'; exact k.sh b u z'
 ·rcases k.nw a z with y | y
  ·exact .inl y
  ·refine .inr ?_
   have e:a≠l:=fun w=>by subst w; exact z h2
   show upd B.H l (.lst vs) a=none
   rw [yI e]; exact y
 ·obtain ⟨a,ws,g1,g2,g3,g4,g5⟩:=k.owns n xs e
  exact ⟨a,ws,g1,g2,g3,(by show upd B.H l (.lst vs) a=none; rw [yI (ho n xs a e g1)]; exact g4),g5⟩
 ·obtain ⟨a,ws,g1,g2,g3,g4,g5⟩:=k.dic.dcts n kvs e
  exact ⟨a,ws,g1,g2,g3,(by show upd B.H l (.lst vs) a=none; rw [yI (hd n kvs a e g1)]; exact g4),g5⟩
theorem Ok.unpinL {K:PySem.W.Frag} {B:B0} {F H:Hp} {σ:St} {l:Addr} {vs:List V} (k:Ok K (UpB B l vs) F H σ ρ) (h0:B.H l=none):Ok K B F H σ ρ:=by
 have un:∀ a,upd B.H l (.lst vs) a=none->B.H a=none:=fun a z=>by
  by_cases e:a=l
  ·subst e; exact h0
  ·rw [yI e] at z; exact z
 refine ⟨⟨k.sub,fun b u z=>?_,k.sf,fun a z=>?_⟩,k.len,k.vals,fun n xs e=>?_,k.dist,⟨fun n kvs e=>?_,k.dic.distD⟩⟩
 ·refine k.sh b u ?_
  show upd B.H l (.lst vs) b=some u
  rw [yI (fun e=>by subst e; rw [h0] at z; cases z)]; exact z
 ·rcases k.nw a z with y | y
  ·exact .inl y
  ·exact .inr (un a y)
 ·obtain ⟨a,ws,g1,g2,g3,g4,g5⟩:=k.owns n xs e
  exact ⟨a,ws,g1,g2,g3,un a g4,g5⟩
 ·obtain ⟨a,ws,g1,g2,g3,g4,g5⟩:=k.dic.dcts n kvs e
  exact ⟨a,ws,g1,g2,g3,un a g4,g5⟩
theorem eDA [FnT X] (t:At X N sc) (i:Nat) {j:Nat} {p1 p2:Pos} (h1:EvN X ρ e xs) (hrest:∀ q,∃ xs',EvM X q (ρ.set i (.val (.stt q))) qU (.nx ρ') xs xs')
  (hi:N[i]? = some y:=by rfl) (hx:aRB sc y=true:=by rfl) (hs:swapsWith (.Dict [some (.Constant (.str "xs") j p1)] [e] p2) (some (.Name y pos')) pos.line X.env=pure false:=by rfl) :
  EvSs X ρ (.Assign [.Name y pos'] (.Dict [some (.Constant (.str "xs") j p1)] [e] p2) pos :: qU) (.nx ρ'):=fun B F H σ E k w=>.mk fun pins s I=>by
 refine vH aWO jF pins s σ H E I (.mk fun pins s I=>aIM (i:=i) t.nd (t.ix hi) (t.loc hx) yX hs hfT pins s σ H _ I (eKN t h1 k fun a l vs F1 H1 x1 g0 g1 g2 g3 g4=>?_))
 obtain ⟨xs',hr⟩:=hrest l
 have k1:=k.ext x1
 have h0:B.H l=none:=k.sh.free g0
 have k2:Ok X.K (UpB B l vs) F1 H1 (σ.set i (some (.ref a))) (ρ.set i (.val (.stt l))):=(k1.setVal i g4).pinL g1 g2 (fun n ys b q1 q2=>by
   obtain ⟨hne,q1'⟩:=aCU n _ q1 (fun z=>nomatch z)
   rw [List.getElem?_set_ne hne] at q2
   obtain ⟨a',vs',e1,e2,_⟩:=k.owns n ys q1'
   rw [e1] at q2; cases q2
   exact fun z=>by subst z; rw [g0] at e2; cases e2) (fun n ys b q1 q2=>by
   obtain ⟨hne,q1'⟩:=aCU n _ q1 (fun z=>nomatch z)
   rw [List.getElem?_set_ne hne] at q2
   obtain ⟨a',vs',e1,e2,_⟩:=k.dic.dcts n ys q1'
   rw [e1] at q2; cases q2
   exact fun z=>by subst z; rw [g0] at e2; cases e2)
 have hfr:B.F l=none:=by
  cases eb:B.F l with
  | none=>rfl
  | some o=>have:=k1.sf l o eb; rw [g2] at this; cases this
 refine hr (UpB B l vs) F1 H1 _ _ vs ⟨yH,hfr,g3⟩ k2 fun F2 H2 σ2 us2 k3 r3 s3=>?_
 rw [UpB.up] at k3
 exact w F2 H2 σ2 (k3.unpinL h0) (x1.sf.trans s3)
end
section
variable {prog:Program} {w:World} {A:Around} {E:Value->Shared->Prop} {s:Shared}
theorem aPR {α:Type} {f:α->Int} {c:Int}:∀ (l:List α),(l.map f).Nodup->(l.filter fun x=>f x == c).length<=1
 | [],_=>Nat.zero_le _
 | x :: l,nd=>by
  rw [List.map_cons,List.nodup_cons] at nd
  have ih:=aPR (c:=c) l nd.2
  rw [List.filter_cons]
  split
  ·rename_i hx
   have e:l.filter (fun x=>f x == c)=[]:=List.filter_eq_nil_iff.mpr fun y hy hyc=>nd.1 (List.mem_map.mpr ⟨y,hy,(eq_of_beq hyc).trans (eq_of_beq hx).symm⟩)
   rw [e]; exact Nat.le_refl _
  ·exact ih
theorem aRR {k:List Int} {a:Addr} {Q:Bool->Shared->Prop} (hk:(tupleKind (intKind prog w)).is s.heap k a) (h:Q false s):wpAny (model prog w) A (Builtin.Dict.quietEq (.ref a)) Q E s:=by
 have hT:=IsTupleKey.typeIs (knd:=intKind prog w) hk
 unfold Builtin.Dict.quietEq
 refine wpAny_bind (wpAny_specialOf hT F.slot_tuple_eq.lookup ?_)
 exact wpAny_pure h
theorem eAE {nm:String} {o:Addr} {oo:Obj} {eso:Array DictEntry} {epo:Nat} {ys:List (List Int × Addr × Value)} {Q:Array DictEntry->Shared->Prop} (ho:s.heap.get? o=some oo) (hd:oo.data = .dict eso epo) (he:eso.toList=ys.map (entryOfKey (tupleKind (intKind prog w)))) (his:∀ x∈ys,(tupleKind (intKind prog w)).is s.heap x.1 x.2.1)
  (hh:(ys.map fun y=>(tupleKind (intKind prog w)).hash y.1).Nodup) (h:Q eso s):wpAny (model prog w) A (Builtin.Dict.entriesForEmpty nm o) Q E s:=by
 unfold Builtin.Dict.entriesForEmpty
 refine wpAny_bind (wpAny_dictEntries ho hd ?_)
 refine wpAny_bind ?_
 rw [<- Array.forIn_toList]
 refine wpAny_forIn_list _ (fun qU _ s'=>s' = s/\∀ e∈qU,e∈eso.toList) _ ?_ ?_ _ _ ⟨rfl,fun e he=>he⟩
 ·rintro e qU r s' ⟨rfl,hall⟩
  have hm:=hall e List.mem_cons_self
  rw [he] at hm
  obtain ⟨y,hy,rfl⟩:=List.mem_map.mp hm
  refine wpAny_bind (aRR (his y hy) ?_)
  have hc:(eso.filter fun x=>x.hash == (entryOfKey (tupleKind (intKind prog w)) y).hash).size<=1:=by
   rw [<- Array.length_toList,Array.toList_filter,he,List.filter_map,List.length_map]
   exact aPR (f:=fun y:List Int × Addr × Value=>(tupleKind (intKind prog w)).hash y.1) ys hh
  simp only [Bool.not_false,if_true]
  rw [if_neg (by omega)]
  exact wpAny_pure ⟨rfl,fun e' he'=>hall e' (List.mem_cons_of_mem _ he')⟩
 ·rintro r s' ⟨rfl,_⟩
  exact wpAny_pure h
theorem aWF {o:Addr} {ys:List (List Int × Addr × Value)} {Q:Value->Shared->Prop} (hoS:(o == sysModules)=false) (ho:s.heap.DictOfH (tupleKind (intKind prog w)) o ys) (hsz:ys.length<=sizeLine) (hh:(ys.map fun y=>(tupleKind (intKind prog w)).hash y.1).Nodup)
  (h:∀ h',h'.DictOfH (tupleKind (intKind prog w)) s.heap.objs.size ys->Heap.SameBut s.heap.objs.size (s.heap.push { cls:=.type "dict",data:=.dict #[] }) h'->Q (.ref s.heap.objs.size) { s with heap:=h' }) :
  wpAny (model prog w) A (call (.type "dict") [.ref o]) Q E s:=by
 refine callType_codes (Q₁:=fun obj s₁=>obj = .ref s.heap.objs.size/\s₁ = { s with heap:=s.heap.push { cls:=.type "dict",data:=.dict #[] } }) F.kt_called_dict (F.kt_typeCall_dict_1 _) F.entry_dict_init (kt_code_dict_new _ ⟨rfl,rfl⟩) ?_
 rintro obj s₁ ⟨rfl,rfl⟩
 obtain ⟨oo,eso,epo,hoo,hco,hdo',he,his,hn⟩:=ho
 have hlt:=Heap.lt_size hoo
 have hdo:s.heap.objs.size≠o:=fun e=>absurd hlt (by rw [e]; exact Nat.lt_irrefl _)
 have hnT:({ s with heap:=s.heap.push { cls:=.type "dict",data:=.dict #[] } }:Shared).TypeIs (.ref s.heap.objs.size) "dict" := (Heap.DictOfH.new (knd:=tupleKind (intKind prog w)) s.heap).typeIs (s:={ s with heap:=s.heap.push { cls:=.type "dict",data:=.dict #[] } })
 have hoo':(s.heap.push { cls:=.type "dict",data:=.dict #[] }).get? o=some oo:=Heap.get?_push_of_some _ hoo
 have his':∀ x∈ys,(tupleKind (intKind prog w)).is (s.heap.push { cls:=.type "dict",data:=.dict #[] }) x.1 x.2.1:=fun x hx=>by
  obtain ⟨q,its,n,h1,h2,h3,h4⟩:=his x hx
  exact ⟨q,its,n,Heap.get?_push_of_some _ h1,h2,h3,h4⟩
 have hoT:({ s with heap:=s.heap.push { cls:=.type "dict",data:=.dict #[] } }:Shared).TypeIs (.ref o) "dict" := ⟨oo,hoo',hco.1⟩
 refine ⟨hnT,F.args_dict_init_2 _ _,?_⟩
 unfold Builtin.«dict.__init__»
 refine wpAny_bind ?_
 unfold Builtin.Dict.selfAndRest
 refine wpAny_bind (wpAny_notOrdered_dict hnT ?_)
 show wpAny _ _ (pure (s.heap.objs.size,[Value.ref o])) _ _ _
 refine wpAny_pure ?_
 show wpAny _ _ (Builtin.Dict.updateFrom "dict.__init__" s.heap.objs.size (.ref o) [] .none) _ _ _
 unfold Builtin.Dict.updateFrom
 refine wpAny_bind (wpAny_typeOf hoT ?_)
 rw [if_neg (by decide)]
 refine wpAny_bind ?_
 unfold Builtin.Dict.merge
 refine wpAny_bind ?_
 unfold Builtin.Dict.readDirectly
 refine wpAny_bind (wpAny_isInstance hoT isSubtype_dict_dict ?_)
 simp only [Bool.not_true,Bool.false_eq_true,if_false]
 refine wpAny_bind (wpAny_specialOf hoT F.slot_dict_iter.lookup (wpAny_pure ?_))
 simp only [beq_self_eq_true,if_true]
 refine wpAny_bind (wpAny_pure ?_)
 unfold Builtin.Dict.mergeDict
 rw [if_neg (by simpa using hdo)]
 unfold Builtin.Dict.showsAll
 rw [if_neg (by rw [hoS]; exact Bool.false_ne_true)]
 refine wpAny_bind (wpAny_pure ?_)
 refine wpAny_bind (wpAny_dictEntries hoo' hdo' ?_)
 have hes:eso.size=ys.length:=size_of_entries he
 have hnew:(s.heap.push { cls:=.type "dict",data:=.dict #[] }).get? s.heap.objs.size=some { cls:=.type "dict",data:=.dict #[] }:=Heap.get?_push_size _ rfl
 dsimp only
 cases ys with
 | nil=>
  have h0:eso = #[]:=by rw [List.map_nil] at he; exact Array.toList_eq_nil_iff.mp he
  subst h0
  rw [if_neg (by simp)]
  refine wpAny_bind (wpAny_dictEpoch hoo' hdo' ?_)
  refine wpAny_bind (wpAny_dictEntries hoo' hdo' ?_)
  refine wpAny_bind ?_
  rw [Std.Legacy.Range.forIn_eq_forIn_range']
  show wpAny _ _ (pure PUnit.unit) _ _ _
  refine wpAny_pure (wpAny_pure ?_)
  show wpAny _ _ (Builtin.Dict.addKeywords s.heap.objs.size [] >>= _) _ _ _
  exact wpAny_bind (wpAny_pure (wpAny_pure ⟨rfl,h _ (Heap.DictOfH.new s.heap) (Heap.SameBut.refl _ _)⟩))
 | cons y ys=>
  have hf:(!(decide (eso.size<=8) && eso.all fun e=>(keyPart e.key).isSome))=true:=by
   have:eso.all (fun e=>(keyPart e.key).isSome)=false:=by
    rw [<- Array.all_toList,he]; rfl
   rw [this,Bool.and_false]; rfl
  rw [if_pos hf]
  refine wpAny_bind (wpAny_dictEntries hnew rfl ?_)
  rw [if_pos (by rfl)]
  refine wpAny_bind (eAE hoo' hdo' he his' hh ?_)
  have hne:eso ≠ #[]:=fun z=>by rw [z] at he; cases he
  rw [if_pos (by simpa using hne)]
  refine wpAny_bind (wpAny_updateDictKeysTo hnew rfl (wpAny_pure ?_) (by omega))
  show wpAny _ _ (Builtin.Dict.addKeywords s.heap.objs.size [] >>= _) _ _ _
  refine wpAny_bind (wpAny_pure (wpAny_pure ⟨rfl,h _ ⟨_,eso,_,Heap.get?_update_self _ hnew (Obj.isFreed_of_dict (Obj.data_mapDictKeys rfl _)),?_,Obj.data_mapDictKeys rfl _,he,fun x hx=>?_,hn⟩ (Heap.SameBut.update ..)⟩))
  ·exact Obj.ExactDict.mapDictKeys (o:={ cls:=.type "dict",data:=.dict #[] }) ⟨rfl,rfl,rfl⟩ _
  ·exact (tupleKind (intKind prog w)).keeps (his' x hx) hnew rfl (Heap.SameBut.update ..)
end
def aKZ (k:List Int):Int:=reduceHash (Builtin.Tuple.tupleHashOf (k.map hashInt))
section
variable {X:Cx} {ρ:Rho} {e:Expr} {kvs:KVs} {pos p:Pos} {N:List Str} {sc:Scope} {x:Str}
theorem KPair.hash {P:Program} {w:World} {xs:KXs} {ys:List (List Int × Addr × Value)} (r:KPair xs ys):(ys.map fun y=>(tupleKind (intKind P w)).hash y.1)=xs.map fun y=>aKZ y.1:=by
 induction r with
 | nil=>rfl
 | cons h t ih=>rw [List.map_cons,List.map_cons,ih,h.1]; rfl
theorem aWG:aCM X (.type "dict") (fun vs H Q=>∃ a xs,vs=[.ref a]/\DcRd H a xs/\(∀ y∈xs,H y.2.1=some (.tup (y.1.map V.int)))/\(xs.map fun y=>aKZ y.1).Nodup/\∀ l,H l=none->Q (.ref l) (upd H l (.ext (aAX l xs)))):=by
 intro pins s σ H vs us Q I r h
 obtain ⟨a,xs,rfl,hd,hk,hn,q⟩:=h
 obtain ⟨u,rfl,hu⟩:=aFV r
 obtain rfl:u=Value.ref a:=hu
 obtain ⟨z,hS,ys,kp,dd⟩:=aJR I (DcRd.is I hd) hk
 have hb:sysModules < s.heap.objs.size:=Nat.lt_trans (by decide) (show mainGlobals < s.heap.objs.size from (I.mod.glob.keeps I.bk).lt)
 refine aWF hS dd (by rw [<- kp.len]; exact z) (by rw [KPair.hash kp]; exact hn) fun h' dn sb=>?_
 have zz:aAX s.heap.objs.size xs h':=aUU (P:=X.prog) (w:=X.w) z (beq_eq_false_iff_ne.mpr (Ne.symm (Nat.ne_of_lt hb))) kp dn
 exact ⟨.ref s.heap.objs.size,_,I.laid (a:=s.heap.objs.size) (o:=.ext (aAX s.heap.objs.size xs)) (t':=s.toks) (fun b o e=>(sb.2 b (Nat.ne_of_lt (Heap.lt_size e))).trans (Heap.get?_push_of_some _ e)) (Nat.le_refl _) (aQH zz),rfl,q _ (I.hok.fresh (Nat.le_refl _))⟩
theorem eJF (t:At X N sc) (bl:Blt X sc x (.type "dict")) (ha:eOL X ρ e kvs) (hn:(kvs.map fun y=>aKZ y.1).Nodup) (hpe:Pl e:=by intro _ _; rfl):EvDn X ρ (.Call (.Name x p) [e] [] pos) kvs:=fun B F H σ Q k' q=>.mk fun pins s I=>
 aDE aWG (vZ t bl.g) bl.m bl.v (zL yX vD (hpe _ _)) bl.n bl.d (hpe _ _) rfl pins s σ H Q I (ha B F H σ _ k' fun a xs F' H' x' r1 r2=>by
  refine ⟨a,xs,rfl,r1,fun y hy=>x'.sub _ _ (r2.2 y hy),?_,fun l hl=>q l xs F' _ ⟨x'.sub.trans (yK hl),x'.sh.trans (yK hl),x'.sf,x'.nw⟩ (x'.sh.free hl) yH (x'.sub.free hl) r2⟩
  have:=r2.1
  rw [this,List.map_map] at hn
  exact hn)
end
def EvTM (X:Cx) (q:Addr) (ρ:Rho) (e:Expr) (b:Bool) (xs xs':List D):Prop:=∀ (B:B0) (F H:Hp) (σ:St) (Q:Bool->Hp->Prop) (us:List V),Lent X.K B q F us xs->Ok X.K B F H σ ρ ->
 (∀ F' H' us',Ext (UpB ⟨F,H⟩ q us') F' H'->RepL X.K F' us' xs'->Q b H')->wT X e σ H Q
def eRO (X:Cx) (q:Addr) (ρ:Rho) (tg e:Expr) (ds:List D) (xs xs':List D):Prop:=∀ (B:B0) (F H:Hp) (σ:St) (R:It->Hp->Prop) (us:List V),Lent X.K B q F us xs->Ok X.K B F H σ ρ ->
 (∀ J F' H' us',Ext (UpB ⟨F,H⟩ q us') F' H'->RepL X.K F' us' xs'->eBJ X.K J F' ds->R J H')->wI X tg e σ H R
section
variable {X:Cx} {q:Addr} {ρ ρ' ρ1:Rho} {st:Stmt} {sts qU ss us':List Stmt} {o:Out} {xs xs1 xs2 xs' ds:List D} {tg e a b c:Expr} {es:List Expr} {d:D} {pos p py ps:Pos} {N:List Str} {sc:Scope} {x y:Str}
theorem EvEM.eq {d d':D} (h:EvEM X q ρ e d xs xs') (z:d=d'):EvEM X q ρ e d' xs xs':=z ▸ h
theorem EvTM.eq {b b':Bool} (h:EvTM X q ρ e b xs xs') (z:b=b'):EvTM X q ρ e b' xs xs':=z ▸ h
theorem PostM.up {K:PySem.W.Frag} {B:B0} {F F1:Hp} {E:aFS} {u:List V} (w:PostM K B q F E xs' o) (s:Same F F1):PostM K (UpB B q u) q F1 E xs' o:=by
 cases o with
 | nx ρ=>exact fun F2 H2 σ2 us2 k2 r2 s2=>w F2 H2 σ2 us2 (by rw [UpB.up] at k2; exact k2) r2 (s.trans s2)
 | rt d=>exact fun v F2 H2 us2 x2 r2 rv=>w v F2 H2 us2 (by rw [UpB.up] at x2; exact x2) r2 rv
theorem eJD {op:Operator} {i j m:Int} {C:Int->Int->Prop} {g:Int->Int->Int} (ho:OpR X (binaryOp op) (rI C fun i j=>.int (g i j))) (ha:EvEM X q ρ a (.int i) xs xs1) (hb:EvE X ρ b (.int j)) (hc:C i j) (hm:g i j=m) :
  EvEM X q ρ (.BinOp a op b pos) (.int m) xs xs1:=fun B F H σ Q us l k w=>.mk fun pins s I=>
 aPI ho yX yX pins s σ H Q I (ha B F H σ _ us l k fun x F1 H1 u1 x1 r1 rx=>hb (UpB B q u1) F1 H1 σ _ (k.extM l x1) fun y F2 H2 x2 ry=>by
  cases rx; cases ry; subst hm
  exact ⟨i,j,rfl,rfl,hc,w _ F2 H2 u1 (x1.trans x2) (r1.mono x2.sf) (.int _)⟩)
theorem aJQ {i j:Int} (ha:EvEM X q ρ a (.int i) xs xs1) (hb:EvE X ρ b (.int j)) (h0:0 < j):EvEM X q ρ (.BinOp a .Mod b pos) (.int (i % j)) xs xs1:=eJD eEW ha hb h0 rfl
theorem eKB {i j:Int} (ha:EvEM X q ρ a (.int i) xs xs1) (hb:EvE X ρ b (.int j)):EvTM X q ρ (.Compare a [.Gt] [b] pos) (decide (j < i)) xs xs1:=fun B F H σ Q us l k w=>.mk fun pins s I=>
 vY eHS yX yX (qY _ (by decide) (by decide)) pins s σ H Q I (ha B F H σ _ us l k fun x F1 H1 u1 x1 r1 rx=>hb (UpB B q u1) F1 H1 σ _ (k.extM l x1) fun y F2 H2 x2 ry=>by
  cases rx; cases ry
  exact ⟨i,j,rfl,rfl,_,rfl,w F2 H2 u1 (x1.trans x2) (r1.mono x2.sf)⟩)
theorem eMI (hc:EvTM X q ρ c true xs xs1) (h:EvM X q ρ ss o xs1 xs'):aTC X q ρ (.If c ss us' pos) o xs xs':=fun B F H σ E us l k w=>
 (.mk fun pins s I=>aPD aKR jF jF pins s σ H E I (hc B F H σ _ us l k fun F1 H1 u1 x1 r1=>by rw [if_pos rfl]; exact h (UpB B q u1) F1 H1 σ E u1 ⟨yH,l.fr,r1⟩ (k.extM l x1) (PostM.up w x1.sf)))
theorem eMJ (hc:EvTM X q ρ c false xs xs1) (h:EvM X q ρ us' o xs1 xs'):aTC X q ρ (.If c ss us' pos) o xs xs':=fun B F H σ E us l k w=>
 (.mk fun pins s I=>aPD aKR jF jF pins s σ H E I (hc B F H σ _ us l k fun F1 H1 u1 x1 r1=>by rw [if_neg Bool.false_ne_true]; exact h (UpB B q u1) F1 H1 σ E u1 ⟨yH,l.fr,r1⟩ (k.extM l x1) (PostM.up w x1.sf)))
theorem aIV (t:At X N sc) {tg:Expr} (h:EvEM X q ρ e d xs xs') (hg:EvG X ρ tg d ρ') (hs:swapsWithSole [tg] e pos.line X.env=pure false:=by rfl) (hw:swappedStores [tg] e (dE sc)=pure none:=by rfl)
  (h1:(assignEach [tg] X.env).map (·.2)=[assign tg X.env]:=by rfl):aTC X q ρ (.Assign [tg] e pos) (.nx ρ') xs xs':=fun B F H σ E us l k w=>
 (.mk fun pins s I=>eEK yX eJT hs ((aRI (show X.env.scope=(dE sc).scope from t.eS)).trans hw) h1 pins s σ H E I (h B F H σ _ us l k fun v F1 H1 u1 x1 r1 rv=>hg (UpB B q u1) F1 H1 σ v _ (k.extM l x1) rv fun F2 H2 σ2 k2 s2=>w F2 H2 σ2 u1 k2 (r1.mono s2) (x1.sf.trans s2)))
theorem aVZ (t:At X N sc) {j:Int} {p:Pos} (bl:Blt X sc "range" (.type "range")) (h:EvEM X q ρ a (.int j) xs xs1) (h1 : -(2 ^ 62)<=j) (h2:j < 2 ^ 62) (hs:Pl a:=by intro _ _; rfl):eRO X q ρ tg (.Call (.Name "range" p) [a] [] pos) (jO 0 j.toNat) xs xs1:=fun B F H σ R us l k w=>
 (.mk fun pins s I=>aPH (vZ t bl.g) bl.m (zL yX vD (hs _ _)) (hs _ _) pins s σ H R I (h B F H σ _ us l k fun v F1 H1 u1 x1 r1 rv=>by
  cases rv
  exact ⟨j,rfl,h1,h2,w _ F1 H1 u1 x1 r1 eFH⟩))
end
section
variable {X:Cx} {p:Addr} {ρ ρ':Rho} {tg e:Expr} {ds xs xs':List D} {body:List Stmt} {N:List Str} {sc:Scope} {pos:Pos}
theorem eMK (t:At X N sc) {xs0:List D} (hi:eRO X p ρ tg e ds xs0 xs) (h:FRunM X p tg body ds ρ xs ρ' xs') (hs:∀ x,foldedSetIterable e X.env x=pure x:=by intro _; rfl):aTC X p ρ (.For tg e body [] pos) (.nx ρ') xs0 xs':=fun B F H σ E us l k q=>
 (.mk fun pins s I=>aYA t.pass t.calm eRE eJT jF hs pins s σ H E I (hi B F H σ _ us l k fun J F1 H1 u1 x1 rr1 J1=>by
  refine ⟨fun i m σ H=>∃ ρ1 F' us1 xs1,Ok X.K (UpB B p us1) F' H σ ρ1/\RepL X.K F' us1 xs1/\Same F1 F'/\FRunM X p tg body (ds.drop i) ρ1 xs1 ρ' xs'/\m=ds.length - i,⟨ds.length,ρ,F1,u1,xs,k.extM l x1,rr1,.refl _,by simpa using h,by simp⟩,?_⟩
  rintro i m σ H ⟨ρ1,F',us1,xs1,k',r',sf,run,rfl⟩
  have J2:=J1 i F' H sf k'.sub
  generalize e1:ds.drop i=qU at run
  cases run with
  | nil=>
   have hl:ds.length<=i:=by
    have:=congrArg List.length e1
    rw [List.length_drop,List.length_nil] at this
    omega
   exact .inl ⟨J2.2 hl,q F' H σ us1 k' r' (x1.sf.trans sf)⟩
  | @cons d0 ds0 _ ρa ρb _ _ xsa _ g bd r=>
   obtain ⟨hd,hr,hlt⟩:=aAQ e1
   obtain ⟨go,yl⟩:=J2.1 _ hd
   refine .inr ⟨go,fun σ' H'=>∃ F'' us2,Ok X.K (UpB B p us2) F'' H' σ' ρb/\RepL X.K F'' us2 xsa/\Same F1 F'',fun σ' H' ⟨F'',us2,k'',r'',s''⟩=>⟨ds.length - (i+1),by omega,_,F'',us2,_,k'',r'',s'',by rw [hr]; exact r,rfl⟩,fun x H' y=>?_⟩
   obtain ⟨F2,x2,rx⟩:=yl x H' y
   refine g (UpB B p us1) F2 H' σ x _ (k'.ext x2) rx fun F3 H3 σ3 k3 s3=>bd (UpB B p us1) F3 H3 σ3 _ us1 ⟨yH,l.fr,(r'.mono x2.sf).mono s3⟩ k3 fun F4 H4 σ4 us4 k4 r4 s4=>⟨F4,us4,?_,r4,sf.trans (x2.sf.trans (s3.trans s4))⟩
   rw [UpB.up] at k4; exact k4))
end
end L2.EV
set_option maxHeartbeats 4000000
namespace My
open PySem L2 L2.EV
def top (i:Nat):Stmt:=PySem.Challenge.pw_planestacks_k29_terms_read.main.body.getD i (.Pass ⟨0,0,0,0⟩)
abbrev zN:Stmt:=top 4
abbrev N_without_end:List Str:=["parts", "nought", "many"]
theorem aKF:yL N_without_end ["parts", "nought"] (yC zN):=⟨rfl,rfl,rfl,by decide +kernel,rfl,by decide +kernel,by decide +kernel⟩
abbrev wL:Stmt:=top 5
abbrev N_part_at:List Str:=["parts", "power", "nought"]
theorem aVL:yL N_part_at ["parts", "power", "nought"] (yC wL):=⟨rfl,rfl,rfl,by decide +kernel,rfl,by decide +kernel,by decide +kernel⟩
abbrev aCG:Stmt:=top 6
abbrev N_row_of:List Str:=["numbers"]
theorem aXO:yL N_row_of ["numbers"] (yC aCG):=⟨rfl,rfl,rfl,by decide +kernel,rfl,by decide +kernel,by decide +kernel⟩
abbrev jD:Stmt:=top 7
abbrev N_row_plus:List Str:=["f", "g", "many"]
theorem aRL:yL N_row_plus ["f", "g"] (yC jD):=⟨rfl,rfl,rfl,by decide +kernel,rfl,by decide +kernel,by decide +kernel⟩
abbrev qS:Stmt:=top 8
abbrev N_other_sign:List Str:=["f"]
theorem aMI:yL N_other_sign ["f"] (yC qS):=⟨rfl,rfl,rfl,by decide +kernel,rfl,by decide +kernel,by decide +kernel⟩
abbrev qW:Stmt:=top 9
abbrev N_row_times:List Str:=["f", "g", "numbers", "j", "one", "k", "other"]
theorem aOR:yL N_row_times ["f", "g"] (yC qW):=⟨rfl,rfl,rfl,by decide +kernel,rfl,by decide +kernel,by decide +kernel⟩
abbrev vX:Stmt:=top 11
abbrev N_board_of:List Str:=["rows"]
theorem aRM:yL N_board_of ["rows"] (yC vX):=⟨rfl,rfl,rfl,by decide +kernel,rfl,by decide +kernel,by decide +kernel⟩
abbrev zU:Stmt:=top 12
abbrev N_board_plus:List Str:=["f", "g", "many"]
theorem aML:yL N_board_plus ["f", "g"] (yC zU):=⟨rfl,rfl,rfl,by decide +kernel,rfl,by decide +kernel,by decide +kernel⟩
abbrev qF:Stmt:=top 13
abbrev N_board_minus:List Str:=["f", "g"]
theorem aKL:yL N_board_minus ["f", "g"] (yC qF):=⟨rfl,rfl,rfl,by decide +kernel,rfl,by decide +kernel,by decide +kernel⟩
abbrev zQ:Stmt:=top 14
abbrev N_board_times:List Str:=["f", "g", "rows", "j", "one", "k", "other"]
theorem aKK:yL N_board_times ["f", "g"] (yC zQ):=⟨rfl,rfl,rfl,by decide +kernel,rfl,by decide +kernel,by decide +kernel⟩
abbrev jM:Stmt:=top 20
abbrev N_is_number:List Str:=["token"]
theorem aOV:yL N_is_number ["token"] (yC jM):=⟨rfl,rfl,rfl,by decide +kernel,rfl,by decide +kernel,by decide +kernel⟩
abbrev qT:Stmt:=top 21
abbrev N_end_of_run:List Str:=["text", "start", "end"]
theorem aMK:yL N_end_of_run ["text", "start"] (yC qT):=⟨rfl,rfl,rfl,by decide +kernel,rfl,by decide +kernel,by decide +kernel⟩
abbrev yS:Stmt:=top 22
abbrev N_refuse_wrong_run:List Str:=["run"]
theorem aEM:yL N_refuse_wrong_run ["run"] (yC yS):=⟨rfl,rfl,rfl,by decide +kernel,rfl,by decide +kernel,by decide +kernel⟩
abbrev vW:Stmt:=top 23
abbrev N_token_at:List Str:=["text", "start", "run"]
theorem aRK:yL N_token_at ["text", "start"] (yC vW):=⟨rfl,rfl,rfl,by decide +kernel,rfl,by decide +kernel,by decide +kernel⟩
abbrev jK:Stmt:=top 24
abbrev N_tokens_of:List Str:=["text", "tokens", "at"]
theorem aOQ:yL N_tokens_of ["text"] (yC jK):=⟨rfl,rfl,rfl,by decide +kernel,rfl,by decide +kernel,by decide +kernel⟩
abbrev qB:Stmt:=top 25
abbrev N_refuse_deep:List Str:=["tokens", "opening", "closing", "many", "token"]
theorem aKI:yL N_refuse_deep ["tokens", "opening", "closing"] (yC qB):=⟨rfl,rfl,rfl,by decide +kernel,rfl,by decide +kernel,by decide +kernel⟩
abbrev qG:Stmt:=top 27
abbrev N_reader_of:List Str:=["text", "most", "tokens"]
theorem aOS:yL N_reader_of ["text", "most"] (yC qG):=⟨rfl,rfl,rfl,by decide +kernel,rfl,by decide +kernel,by decide +kernel⟩
abbrev qE:Stmt:=top 28
abbrev N_next_token:List Str:=["reader"]
theorem aMJ:yL N_next_token ["reader"] (yC qE):=⟨rfl,rfl,rfl,by decide +kernel,rfl,by decide +kernel,by decide +kernel⟩
abbrev qR:Stmt:=top 29
abbrev N_take_token:List Str:=["reader", "token"]
theorem aMG:yL N_take_token ["reader"] (yC qR):=⟨rfl,rfl,rfl,by decide +kernel,rfl,by decide +kernel,by decide +kernel⟩
abbrev qA:Stmt:=top 30
abbrev N_take_one_of:List Str:=["reader", "tokens", "token"]
theorem aKG:yL N_take_one_of ["reader", "tokens"] (yC qA):=⟨rfl,rfl,rfl,by decide +kernel,rfl,by decide +kernel,by decide +kernel⟩
abbrev zP:Stmt:=top 31
abbrev N_refuse_more:List Str:=["reader"]
theorem aKH:yL N_refuse_more ["reader"] (yC zP):=⟨rfl,rfl,rfl,by decide +kernel,rfl,by decide +kernel,by decide +kernel⟩
abbrev qP:Stmt:=top 35
abbrev N_read_sum:List Str:=["reader", "sign"]
theorem aID:yL N_read_sum ["reader"] (yC qP):=⟨rfl,rfl,rfl,by decide +kernel,rfl,by decide +kernel,by decide +kernel⟩
abbrev zT:Stmt:=top 36
abbrev N_read_product:List Str:=["reader"]
theorem aIE:yL N_read_product ["reader"] (yC zT):=⟨rfl,rfl,rfl,by decide +kernel,rfl,by decide +kernel,by decide +kernel⟩
abbrev qD:Stmt:=top 37
abbrev N_read_factor:List Str:=["reader", "minuses"]
theorem aKJ:yL N_read_factor ["reader"] (yC qD):=⟨rfl,rfl,rfl,by decide +kernel,rfl,by decide +kernel,by decide +kernel⟩
abbrev qC:Stmt:=top 38
abbrev N_read_power:List Str:=["reader"]
theorem aMH:yL N_read_power ["reader"] (yC qC):=⟨rfl,rfl,rfl,by decide +kernel,rfl,by decide +kernel,by decide +kernel⟩
abbrev jL:Stmt:=top 39
abbrev N_read_atom:List Str:=["reader", "token"]
theorem aOU:yL N_read_atom ["reader"] (yC jL):=⟨rfl,rfl,rfl,by decide +kernel,rfl,by decide +kernel,by decide +kernel⟩
abbrev wN:Stmt:=top 40
abbrev N_atom_of:List Str:=["token", "number"]
theorem aVM:yL N_atom_of ["token"] (yC wN):=⟨rfl,rfl,rfl,by decide +kernel,rfl,by decide +kernel,by decide +kernel⟩
abbrev zF:Stmt:=top 41
abbrev N_power_of_board:List Str:=["f", "many", "power", "k"]
theorem aFZ:yL N_power_of_board ["f", "many"] (yC zF):=⟨rfl,rfl,rfl,by decide +kernel,rfl,by decide +kernel,by decide +kernel⟩
abbrev zE:Stmt:=top 42
abbrev N_take_term_step:List Str:=["step", "boards", "last", "first"]
theorem aFY:yL N_take_term_step ["step", "boards"] (yC zE):=⟨rfl,rfl,rfl,by decide +kernel,rfl,by decide +kernel,by decide +kernel⟩
abbrev jV:Stmt:=top 43
abbrev N_read_term:List Str:=["text", "reader", "boards", "step"]
theorem aOT:yL N_read_term ["text"] (yC jV):=⟨rfl,rfl,rfl,by decide +kernel,rfl,by decide +kernel,by decide +kernel⟩
abbrev jN:Stmt:=top 45
abbrev N__law_cell:List Str:=["_law_script", "_law_k", "_law_state", "_law_cell_here"]
theorem aOY:yL N__law_cell ["_law_script", "_law_k"] (yC jN):=⟨rfl,rfl,rfl,by decide +kernel,rfl,by decide +kernel,by decide +kernel⟩
abbrev zC:Stmt:=top 46
abbrev N__law_numbers:List Str:=["_law_cell_here", "_law_many", "_law_found", "_law_state", "_law_digits", "_law_k"]
theorem aII:yL N__law_numbers ["_law_cell_here", "_law_many"] (yC zC):=⟨rfl,rfl,rfl,by decide +kernel,rfl,by decide +kernel,by decide +kernel⟩
abbrev qH:Stmt:=top 47
abbrev N__law_trim:List Str:=["_law_parts", "_law_found"]
theorem aOW:yL N__law_trim ["_law_parts"] (yC qH):=⟨rfl,rfl,rfl,by decide +kernel,rfl,by decide +kernel,by decide +kernel⟩
abbrev yZ:Stmt:=top 48
abbrev N__law_board_of:List Str:=["_law_parts", "_law_rows", "_law_k"]
theorem aGZ:yL N__law_board_of ["_law_parts"] (yC yZ):=⟨rfl,rfl,rfl,by decide +kernel,rfl,by decide +kernel,by decide +kernel⟩
abbrev qI:Stmt:=top 49
abbrev N__law_product:List Str:=["_law_one", "_law_other", "_law_found", "_law_i", "_law_k", "_law_j", "_law_m"]
theorem aIH:yL N__law_product ["_law_one", "_law_other"] (yC qI):=⟨rfl,rfl,rfl,by decide +kernel,rfl,by decide +kernel,by decide +kernel⟩
abbrev jX:Stmt:=top 50
abbrev N__law_pick:List Str:=["_law_state"]
theorem aOX:yL N__law_pick ["_law_state"] (yC jX):=⟨rfl,rfl,rfl,by decide +kernel,rfl,by decide +kernel,by decide +kernel⟩
abbrev vC:Stmt:=top 51
abbrev N__law_add:List Str:=["_law_one", "_law_other", "_law_sign", "_law_found", "_law_spot"]
theorem aRN:yL N__law_add ["_law_one", "_law_other", "_law_sign"] (yC vC):=⟨rfl,rfl,rfl,by decide +kernel,rfl,by decide +kernel,by decide +kernel⟩
abbrev qX:Stmt:=top 52
abbrev N__law_atom:List Str:=["_law_state", "_law_room", "_law_deep", "_law_x", "_law_tokens", "_law_parts", "_law_size"]
theorem aGK:yL N__law_atom ["_law_state", "_law_room", "_law_deep"] (yC qX):=⟨rfl,rfl,rfl,by decide +kernel,rfl,by decide +kernel,by decide +kernel⟩
abbrev zD:Stmt:=top 53
abbrev N__law_factor:List Str:=["_law_state", "_law_room", "_law_deep", "_law_x", "_law_power", "_law_tokens", "_law_parts", "_law_found", "_law_turn", "_law_many"]
theorem aEE:yL N__law_factor ["_law_state", "_law_room", "_law_deep"] (yC zD):=⟨rfl,rfl,rfl,by decide +kernel,rfl,by decide +kernel,by decide +kernel⟩
abbrev jW:Stmt:=top 54
abbrev N__law_prod:List Str:=["_law_state", "_law_room", "_law_deep", "_law_first", "_law_tokens", "_law_parts", "_law_more", "_law_others"]
theorem aGJ:yL N__law_prod ["_law_state", "_law_room", "_law_deep"] (yC jW):=⟨rfl,rfl,rfl,by decide +kernel,rfl,by decide +kernel,by decide +kernel⟩
abbrev vA:Stmt:=top 55
abbrev N__law_sum:List Str:=["_law_state", "_law_room", "_law_deep", "_law_tokens", "_law_parts", "_law_turn", "_law_sign", "_law_more", "_law_others"]
theorem aIF:yL N__law_sum ["_law_state", "_law_room", "_law_deep"] (yC vA):=⟨rfl,rfl,rfl,by decide +kernel,rfl,by decide +kernel,by decide +kernel⟩
abbrev zS:Stmt:=top 56
abbrev N__law_joined:List Str:=["_law_tokens", "_law_xs", "_law_signs", "_law_text", "_law_k", "_law_blanks"]
theorem aKN:yL N__law_joined ["_law_tokens", "_law_xs"] (yC zS):=⟨rfl,rfl,rfl,by decide +kernel,rfl,by decide +kernel,by decide +kernel⟩
abbrev zR:Stmt:=top 57
abbrev N__law_raised:List Str:=["_law_xs", "_law_spots", "_law_tokens", "_law_one", "_law_k", "_law_size", "_law_sign", "_law_found", "_law_turn"]
theorem aKM:yL N__law_raised ["_law_xs"] (yC zR):=⟨rfl,rfl,rfl,by decide +kernel,rfl,by decide +kernel,by decide +kernel⟩
abbrev zH:Stmt:=top 58
abbrev N__law_special:List Str:=["_law_xs", "_law_many", "_law_size", "_law_tokens", "_law_number", "_law_letter", "_law_spot"]
theorem aIG:yL N__law_special ["_law_xs"] (yC zH):=⟨rfl,rfl,rfl,by decide +kernel,rfl,by decide +kernel,by decide +kernel⟩
abbrev zI:Stmt:=top 59
abbrev N__law_formed:List Str:=["_law_found", "_law_row"]
theorem aKO:yL N__law_formed ["_law_found"] (yC zI):=⟨rfl,rfl,rfl,by decide +kernel,rfl,by decide +kernel,by decide +kernel⟩
abbrev aKQ:Stmt:=top 60
abbrev N_law:List Str:=["_law_script", "_law_cell_here", "_law_xs", "_law_state", "_law_tokens", "_law_parts", "_law_found"]
theorem eKV:yL N_law ["_law_script"] (yC aKQ):=⟨rfl,rfl,rfl,by decide +kernel,rfl,by decide +kernel,by decide +kernel⟩
abbrev vG:Stmt:=eQQ (top 26)
theorem aKP:yL ["self", "tokens"] ["self", "tokens"] (yC vG):=⟨rfl,rfl,rfl,by decide +kernel,rfl,by decide +kernel,by decide +kernel⟩
def aBG (ds:List D) (d:D):Prop:=∃ f:List Int,ds=[jC f]/\f.length < 1000/\d=jC (f.map fun x=>-x)
theorem aKV:∀ ds d,aBG ds d->ds.length=1:=by rintro _ _ ⟨a,rfl,_⟩; rfl
theorem aMC {n:Nat} (h:n < 1000):n < sizeLine:=Nat.lt_trans h (by decide)
section
variable {P:Program} {w:World} {K:PySem.W.Frag} {mg:Str->Option Value} {base:Heap} {k:Nat} {X:Cx}
theorem aQX (h:DefX P w K mg base k N_other_sign (yC qS) X) (m_tuple:mg "tuple" = none) :
  ∀ ds d,aBG ds d->EvSs X (ds.map Sl.val++List.replicate (N_other_sign.length - ds.length) Sl.un) (yF qS) (.rt d):=by
 rintro ds d ⟨f,rfl,hf,rfl⟩
 have t:=h.at'
 haveI:=h.fnT
 have bl:Blt X (yC qS) "tuple" (.type "tuple"):=yP (by rw [h.mg']; exact m_tuple)
 show EvSs X [.val (jC f)] _ _
 refine yJ (zO (aDV t bl (EvQ.eq (EvN.toQ (aDL (rs:=(f.map D.int).map fun d=>match d with | .int i=>.int (-i) | d=>d) t ["f", "number"] (csc (by decide +kernel)) (aQC (yA t 0 rfl)) (by rw [List.length_map]; exact aMC hf) fun X' cx=>?_)) ?_)))
 ·have t':=cx.at'
  refine CRun.all (fun d=>[.val (jC f),.val d]) _ _ _ (fun d hd=>qN t' 1) (fun d hd e he=>qN t' 1) fun d hd=>?_
  obtain ⟨i,_,rfl⟩:=List.mem_map.mp hd
  exact aJN (yA t' 1 rfl)
 ·rw [List.map_map,List.map_map]; rfl
theorem aDA {α:Type} {xs:List α} {i:Nat} {x:α} (h:xs[i]? = some x):xs.take (i+1)=xs.take i++[x]:=by
 rw [List.take_add_one,h]; rfl
def aQK (s:Int) (xs:List Int):Int:=xs.foldl (fun s x=>(s * 69621+x) % 2147483647) s
def eAS (ns:List Int) (j:Int):Int:=if j < ns.length then ns.getD j.toNat 0 else aQK (48271 * (j * j+7 * j+11) % 2147483647) (aOK ns none (some 3))
def aCT (ds:List D) (d:D):Prop:=∃ (ns:List Int) (j:Int),ds=[.scr ns,.int j]/\0<=j/\j < 1000/\d = .int (eAS ns j)
theorem aNI:∀ ds d,aCT ds d->ds.length=2:=by rintro _ _ ⟨a,b,rfl,_⟩; rfl
def stF (s0:Int):Nat->Int
 | 0=>s0
 | i+1=>(stF s0 i * (stF s0 i % 65521+40487)+7 * (i:Int)+5) % 1999999973
def dgF (d0:Int):Nat->Int
 | 0=>d0
 | i+1=>dgF d0 i / 1000000
def itF (s0 d0:Int) (i:Nat):Int:=if dgF d0 i > 0 then dgF d0 i % 1000000 else stF s0 (i+1)
def aMF (c:Int):Int:=(c % 1999999973+31) * 765432101 % 1999999973
def aRD (c:Int):Int:=if c < 0\/c ≥ 10 ^ 18 then c.natAbs else 0
def aIR (c:Int) (n:Nat):List Int:=(List.range n).map (itF (aMF c) (aRD c))
theorem aPO (c:Int) (n:Nat):(aIR c n).length=n:=by simp [aIR]
def wH (ds:List D) (d:D):Prop:=∃ (c:Int) (n:Nat),ds=[.int c,.int n]/\n < 1000/\d=jA (aIR c n)
theorem aHE:∀ ds d,wH ds d->ds.length=2:=by rintro _ _ ⟨a,b,rfl,_⟩; rfl
theorem aAL {n i:Nat} {d:D} (h:(jO 0 n)[i]? = some d):i < n/\d = .int (i:Int):=by
 unfold jO at h
 rw [List.getElem?_map] at h
 by_cases hi:i < n
 ·rw [List.getElem?_range hi] at h
  cases h
  exact ⟨hi,by show D.int (0+(i:Int))=_; rw [Int.zero_add]⟩
 ·rw [List.getElem?_eq_none (by simpa using hi)] at h; cases h
theorem aSY (h:DefX P w K mg base k N__law_cell (yC jN) X) (m_len:mg "len" = none) :
  ∀ ds d,aCT ds d->EvSs X (ds.map Sl.val++List.replicate (N__law_cell.length - ds.length) Sl.un) (yF jN) (.rt d):=by
 rintro ds d ⟨ns,j,rfl,h0,h1,rfl⟩
 have t:=h.at'
 haveI:=h.fnT
 have bl:Blt X (yC jN) "len" (.builtin "len"):=yP (by rw [h.mg']; exact m_len)
 show EvSs X [.val (.scr ns),.val (.int j),.un,.un] _ _
 by_cases hj:j < ns.length
 ·refine aBX (aBJ (EvT.eq (aBV (yA t 1 rfl) (vF t bl (EvE.qs (yA t 0 rfl)))) ?_) (yJ (zO (zB (EvE.qs (yA t 0 rfl)) (yA t 1 rfl) ?_))))
  ·rw [List.length_map]; exact decide_eq_true hj
  ·have hn:j.toNat < ns.length:=by omega
   rw [aJY h0 rfl hn]
   unfold eAS
   rw [if_pos hj,List.getD_eq_getElem?_getD,List.getElem?_eq_getElem hn]; rfl
 ·refine yG (wM (EvT.eq (aBV (yA t 1 rfl) (vF t bl (EvE.qs (yA t 0 rfl)))) ?_) qQ) ?_
  ·rw [List.length_map]; exact decide_eq_false hj
  refine yG (zK t 2 (yR (aBE yD (jI (jI (aBE (yA t 1 rfl) (yA t 1 rfl) (aCI (by omega) (by omega))) (aBE yD (yA t 1 rfl) (aCI (by decide) (by decide)))) yD) (aCI (by decide) (by decide))) yD (by decide))) ?_
  refine yG (ρ':=[.val (.scr ns),.val (.int j),.val (.int (eAS ns j)),.un]) (aCW t (eAF (EvE.eq (EvN.toE (aEU (EvE.qs (yA t 0 rfl)) aFP (aBK yD))) (by rw [aHW]))) ?_) (yJ (zO (yA t 2 rfl)))
  refine FRun.uptoE (fun i=>[.val (.scr ns),.val (.int j),.val (.int (aQK (48271 * (j * j+7 * j+11) % 2147483647) ((aOK ns none (some 3)).take i))),.un]) (fun i d hi=>?_) rfl ?_
  ·rw [List.getElem?_map] at hi
   cases e:(aOK ns none (some 3))[i]? with
   | none=>rw [e] at hi; cases hi
   | some x=>
    rw [e] at hi; cases hi
    refine ⟨_,zA t 3,EvSs.weak (yJ (zK t 2 (yR (jI (aBE (yA t 2 rfl) yD (wP (by decide) (by decide))) (yA t 3 rfl)) yD (by decide)))) ?_⟩
    have e2:aQK (48271 * (j * j+7 * j+11) % 2147483647) ((aOK ns none (some 3)).take (i+1))=(aQK (48271 * (j * j+7 * j+11) % 2147483647) ((aOK ns none (some 3)).take i) * 69621+x) % 2147483647:=by
     rw [aDA e]; unfold aQK; rw [List.foldl_append]; rfl
    rw [e2]
    exact .keep (.keep (.keep (.forget .nil)))
  ·rw [List.length_map,List.take_length]
   unfold eAS; rw [if_neg hj]
theorem aLE (h:DefX P w K mg base k N__law_numbers (yC zC) X) (m_range:mg "range" = none) (m_abs:mg "abs" = none) (m_int:mg "int" = none) :
  ∀ ds d,wH ds d->EvSs X (ds.map Sl.val++List.replicate (N__law_numbers.length - ds.length) Sl.un) (yF zC) (.rt d):=by
 rintro ds d ⟨c,n,rfl,hn,rfl⟩
 have t:=h.at'
 haveI:=h.fnT
 have b1:Blt X (yC zC) "range" (.type "range"):=yP (by rw [h.mg']; exact m_range)
 have b2:Blt X (yC zC) "abs" (.builtin "abs"):=yP (by rw [h.mg']; exact m_abs)
 have b3:Blt X (yC zC) "int" (.type "int"):=yP (by rw [h.mg']; exact m_int)
 show EvSs X [.val (.int c),.val (.int n),.un,.un,.un,.un] _ _
 refine yG (aFE t 2 (yQ yE)) ?_
 refine yG (zK t 3 (yR (aBE (jI (yR (yA t 0 rfl) yD (by decide)) yD) yD (wP (by decide) (by decide))) yD (by decide))) ?_
 refine yG (zK t 4 yD) ?_
 refine yG (ρ':=[.val (.int c),.val (.int n),.own [],.val (.int (aMF c)),.val (.int (aRD c)),.un]) ?_ ?_
 ·by_cases h1:c < 0
  ·refine aBJ (EvW.toT (aLU (EvT.eq (aBV (yA t 0 rfl) yD) (decide_eq_true h1)))) (EvSs.eq (yJ (zK t 4 (eFT t b2 (yA t 0 rfl)))) ?_)
   have e:aRD c=(c.natAbs:Int):=by unfold aRD; rw [if_pos (.inl h1)]
   rw [e]; rfl
  ·by_cases h2:c ≥ 10 ^ 18
   ·refine aBJ (EvW.toT (aDG (EvT.eq (aBV (yA t 0 rfl) yD) (decide_eq_false h1)) (aFO (EvT.eq (eNS (yA t 0 rfl) (aJM yD yD ⟨by decide,by decide,by decide⟩)) (decide_eq_true h2))))) (EvSs.eq (yJ (zK t 4 (eFT t b2 (yA t 0 rfl)))) ?_)
    have e:aRD c=(c.natAbs:Int):=by unfold aRD; rw [if_pos (.inr h2)]
    rw [e]; rfl
   ·refine wM (EvW.toT (aDG (EvT.eq (aBV (yA t 0 rfl) yD) (decide_eq_false h1)) (aFO (EvT.eq (eNS (yA t 0 rfl) (aJM yD yD ⟨by decide,by decide,by decide⟩)) (decide_eq_false h2))))) (EvSs.eq qQ ?_)
    have e:aRD c=0:=by unfold aRD; rw [if_neg (by rintro (z | z); exact h1 z; exact h2 z)]
    rw [e]; rfl
 refine yG (aCW t (jT t b1 (yA t 1 rfl) (by omega) (by omega)) (FRun.uptoE (ρ':=[.val (.int c),.val (.int n),.own ((aIR c n).map D.int),.val (.int (stF (aMF c) n)),.val (.int (dgF (aRD c) n)),.un])
  (fun i=>[.val (.int c),.val (.int n),.own ((aIR c i).map D.int),.val (.int (stF (aMF c) i)),.val (.int (dgF (aRD c) i)),.un]) (fun i d hi=>?_) rfl ?_)) (wR 2 rfl (yJ (zO (yA t 2 rfl))))
 ·obtain ⟨hin,rfl⟩:=aAL hi
  have hi':i < n:=by simpa using hin
  refine ⟨_,zA t 5,EvSs.weak (yG (zK t 3 (yR (jI (jI (aBE (yA t 3 rfl) (jI (yR (yA t 3 rfl) yD (by decide)) yD) (wP (by omega) (by omega))) (aBE yD (yA t 5 rfl) (aCI (by decide) (by decide)))) yD) yD (by decide)))
   (yG (aHM t 2 rfl (d:=.int (itF (aMF c) (aRD c) i)) (zB (EvN.toQ (yQ (yB (yA t 3 rfl) (yB (yR (yA t 4 rfl) yD (by decide)) yE)))) (aZW t b3 (eNN (yA t 4 rfl) yD)) ?_) ?_)
   (yJ (zK t 4 (aAO t (yA t 4 rfl) yD (by decide)))))) ?_⟩
  ·by_cases hd:0 < dgF (aRD c) i
   ·have e:itF (aMF c) (aRD c) i=dgF (aRD c) i % 1000000:=by unfold itF; rw [if_pos hd]
    rw [e,decide_eq_true hd]; rfl
   ·have e:itF (aMF c) (aRD c) i=stF (aMF c) (i+1):=by unfold itF; rw [if_neg hd]
    rw [e,decide_eq_false hd]; rfl
  ·rw [List.length_map,aPO]; exact aMC (by omega)
  ·have e:aIR c (i+1)=aIR c i++[itF (aMF c) (aRD c) i]:=by
    unfold aIR; rw [List.range_succ,List.map_append]; rfl
   rw [e,List.map_append]
   exact .keep (.keep (.keep (.keep (.keep (.forget .nil)))))
 ·have e:(jO 0 (n:Int).toNat).length=n:=by simp [jO]
  rw [e]
def aAA (xs:List Int):List Int:=(xs.reverse.dropWhile (· == 0)).reverse
theorem aBN (xs:List Int):aAA (xs++[0])=aAA xs:=by simp [aAA]
theorem aEZ {a:Int} (xs:List Int) (h:a≠0):aAA (xs++[a])=xs++[a]:=by simp [aAA,h]
theorem aHI (xs:List Int):(aAA xs).length<=xs.length:=by
 unfold aAA
 rw [List.length_reverse]
 have:=(List.dropWhile_sublist (l:=xs.reverse) (p:=fun x=>x == 0)).length_le
 rw [List.length_reverse] at this
 exact this
theorem eGJ (xs:List Int):aAA xs=[]\/∃ ys a,aAA xs=ys++[a]/\a≠0:=by
 induction h:xs.length generalizing xs with
 | zero=>left; rw [List.eq_nil_of_length_eq_zero h]; rfl
 | succ n ih=>
  rcases List.eq_nil_or_concat xs with e | ⟨ys,y,e⟩
  ·subst e; left; rfl
  ·rw [List.concat_eq_append] at e
   subst e
   by_cases hy:y=0
   ·subst hy; rw [aBN]; exact ih ys (by simpa using h)
   ·right; exact ⟨ys,y,aEZ ys hy,hy⟩
theorem aWY {X:Cx} {c:Expr} {body:List Stmt} (R:List Int->Rho) (h1:EvT X (R []) c false) (h2:∀ ys a,(ys++[a]).length < 1000->EvT X (R (ys++[a])) c (decide (a=0))) (h3:∀ ys a,EvSs X (R (ys++[a])) body (.nx (R ys))) :
  ∀ (n:Nat) (ys:List Int),ys.length=n->ys.length < 1000->∃ m,WRun X c body m (R ys) (.nx (R (aAA ys))):=by
 intro n
 induction n with
 | zero=>intro ys h _; rw [List.eq_nil_of_length_eq_zero h]; exact ⟨0,.stop h1⟩
 | succ n ih=>
  intro ys h hl
  rcases List.eq_nil_or_concat ys with e | ⟨zs,a,e⟩
  ·subst e; exact ⟨0,.stop h1⟩
  ·rw [List.concat_eq_append] at e
   subst e
   by_cases ha:a=0
   ·subst ha
    rw [aBN]
    have hz:zs.length=n:=by simpa using h
    obtain ⟨m,q⟩:=ih zs hz (by omega)
    exact ⟨m+1,.step (EvT.eq (h2 zs 0 hl) rfl) (h3 zs 0) q⟩
   ·rw [aEZ zs ha]
    exact ⟨0,.stop (EvT.eq (h2 zs a hl) (decide_eq_false ha))⟩
def aCS (ds:List D) (d:D):Prop:=∃ xs:List Int,ds=[jA xs]/\xs.length < 1000/\d=jC (aAA xs)
theorem aNG:∀ ds d,aCS ds d->ds.length=1:=by rintro _ _ ⟨a,rfl,_⟩; rfl
def inn (f g:List Int) (i:Nat) (acc:List Int):Nat->List Int
 | 0=>acc
 | j+1=>(inn f g i acc j).set (i+j) ((inn f g i acc j).getD (i+j) 0+f.getD i 0 * g.getD j 0)
def aRV (f g:List Int):Nat->List Int
 | 0=>List.replicate (f.length+g.length) 0
 | i+1=>inn f g i (aRV f g i) g.length
theorem aGD (f g:List Int) (i:Nat) (acc:List Int):∀ j,(inn f g i acc j).length=acc.length
 | 0=>rfl
 | j+1=>by rw [inn,List.length_set,aGD]
theorem aMY (f g:List Int):∀ i,(aRV f g i).length=f.length+g.length
 | 0=>by rw [aRV,List.length_replicate]
 | i+1=>by rw [aRV,aGD,aMY]
def aBC (f g:List Int):List Int:=aAA (aRV f g f.length)
theorem aLJ (f g:List Int):(aBC f g).length<=f.length+g.length:=by
 have:=aHI (aRV f g f.length)
 rw [aMY] at this
 exact this
theorem aNM {xs:List Int} {j:Nat} (h:j < xs.length):xs.getD j 0=xs[j]:=by rw [List.getD_eq_getElem?_getD,List.getElem?_eq_getElem h]; rfl
theorem aRA {xs:List Int} {n:Nat} (h:n < xs.length):atI (xs.map D.int) (n:Int)=some (.int (xs.getD n 0)):=by
 rw [aJY (by omega) (Int.toNat_natCast n) h,aNM h]
theorem aSX (h:DefX P w K mg base k N__law_trim (yC qH) X) (m_list:mg "list" = none) (m_tuple:mg "tuple" = none) (m_len:mg "len" = none) :
  ∀ ds d,aCS ds d->EvSs X (ds.map Sl.val++List.replicate (N__law_trim.length - ds.length) Sl.un) (yF qH) (.rt d):=by
 rintro ds d ⟨xs,rfl,hl,rfl⟩
 have t:=h.at'
 haveI:=h.fnT
 have b1:Blt X (yC qH) "list" (.type "list"):=yP (by rw [h.mg']; exact m_list)
 have b2:Blt X (yC qH) "tuple" (.type "tuple"):=yP (by rw [h.mg']; exact m_tuple)
 have b3:Blt X (yC qH) "len" (.builtin "len"):=yP (by rw [h.mg']; exact m_len)
 show EvSs X [.val (jA xs),.un] _ _
 refine yG (aFE t 1 (eJC t b1 (EvE.ql (yA t 0 rfl)))) ?_
 refine yG (aIJ t (aWY (fun ys=>[.val (jA xs),.own (ys.map D.int)]) ?_ (fun ys a hy=>?_) (fun ys a=>?_) _ xs rfl hl)) (yJ (zO (aDV t b2 (aBD t 1 rfl))))
 ·exact EvW.toT (aET (aLX t (EvQ.p (aBD t 1 rfl)) (EvE.p (EvN.toE (yQ yE))) (vV []) (vV []) (by have:=aSI [] []; exact congrArg not this)))
 ·refine EvW.toT (aDH (aLX t (EvQ.p (aBD t 1 rfl)) (EvE.p (EvN.toE (yQ yE))) (vV (ys++[a])) (vV []) (by have:=aSI (ys++[a]) []; rw [decide_eq_false (by simp)] at this; exact congrArg not this)) (aGE (vS (zB (d:=.int a) (aBD t 1 rfl) (aCV (vF t b3 (aBD t 1 rfl)) yD) ?_) yD)))
  rw [List.length_map,aJY (n:=ys.length) (by simp) (by simp) (by simp)]
  simp
 ·refine EvSs.eq (yJ (eKX t 1 rfl (by simp))) ?_
  rw [List.map_append]
  have e:(ys.map D.int++[a].map D.int).dropLast=ys.map D.int:=by simp
  rw [e]; rfl
def RowOk (f:List Int):Prop:=f=[]\/∃ ys a,f=ys++[a]/\a≠0
theorem eBT (xs:List Int):xs.take (aAA xs).length=aAA xs:=by
 induction h:xs.length generalizing xs with
 | zero=>rw [List.eq_nil_of_length_eq_zero h]; rfl
 | succ n ih=>
  rcases List.eq_nil_or_concat xs with e | ⟨ys,y,e⟩
  ·subst e; rfl
  ·rw [List.concat_eq_append] at e
   subst e
   by_cases hy:y=0
   ·subst hy
    rw [aBN]
    have q:=ih ys (by simpa using h)
    have l:=aHI ys
    rw [List.take_append_of_le_length l]; exact q
   ·rw [aEZ ys hy,List.take_length]
theorem aUX {X:Cx} {c:Expr} {body:List Stmt} (R:Nat->Rho) (xs:List Int) (h1:EvT X (R 0) c false) (h2:∀ m (h:m < xs.length),EvT X (R (m+1)) c (decide (xs[m]=0))) (h3:∀ m,EvSs X (R (m+1)) body (.nx (R m))) :
  ∀ m,m<=xs.length->∃ n,WRun X c body n (R m) (.nx (R (aAA (xs.take m)).length))
 | 0,_=>⟨0,.stop h1⟩
 | m+1,hm=>by
  have hlt:m < xs.length:=hm
  have e:xs.take (m+1)=xs.take m++[xs[m]]:=aDA (List.getElem?_eq_getElem hlt)
  by_cases hz:xs[m]=0
  ·obtain ⟨n,q⟩:=aUX R xs h1 h2 h3 m (by omega)
   refine ⟨n+1,.step (EvT.eq (h2 m hlt) (decide_eq_true hz)) (h3 m) ?_⟩
   rw [e,hz,aBN]; exact q
  ·refine ⟨0,?_⟩
   rw [e,aEZ _ hz]
   have el:(xs.take m++[xs[m]]).length=m+1:=by rw [<- e,List.length_take]; omega
   rw [el]
   exact .stop (EvT.eq (h2 m hlt) (decide_eq_false hz))
def aFT (ds:List D) (d:D):Prop:=∃ xs:List Int,ds=[jA xs]/\xs.length < 1000/\d=jC (aAA xs)
theorem aVV:∀ ds d,aFT ds d->ds.length=1:=by rintro _ _ ⟨a,rfl,_⟩; rfl
def aIQ (f g:List Int):List Int:=aAA ((List.range (max f.length g.length)).map fun i=>f.getD i 0+g.getD i 0)
def aCA (ds:List D) (d:D):Prop:=∃ f g:List Int,ds=[jC f,jC g]/\f.length < 1000/\g.length < 1000/\d=jC (aIQ f g)
theorem aPT:∀ ds d,aCA ds d->ds.length=2:=by rintro _ _ ⟨a,b,rfl,_⟩; rfl
def aPL (f g:List Int):Nat->List Int
 | 0=>List.replicate (f.length+g.length - 1) 0
 | i+1=>inn f g i (aPL f g i) g.length
theorem aHO (f g:List Int):∀ i,(aPL f g i).length=f.length+g.length - 1
 | 0=>by rw [aPL,List.length_replicate]
 | i+1=>by rw [aPL,aGD,aHO]
theorem aUL (f g:List Int) (i:Nat) (acc:List Int) (z:Int):∀ j,i+j<=acc.length->inn f g i (acc++[z]) j=inn f g i acc j++[z]
 | 0,_=>rfl
 | j+1,h=>by
  have ih:=aUL f g i acc z j (by omega)
  have hl:i+j < (inn f g i acc j).length:=by rw [aGD]; omega
  rw [inn,inn,ih,List.set_append_left _ _ hl]
  have e:(inn f g i acc j++[z]).getD (i+j) 0=(inn f g i acc j).getD (i+j) 0:=by
   rw [List.getD_eq_getElem?_getD,List.getD_eq_getElem?_getD,List.getElem?_append_left hl]
  rw [e]
theorem aPM (f g:List Int) (hf:f≠[]) (hg:g≠[]):∀ i,i<=f.length->aRV f g i=aPL f g i++[0]
 | 0,_=>by
  have h1:=List.length_pos_iff.mpr hf
  rw [aRV,aPL,show f.length+g.length=(f.length+g.length - 1)+1 by omega,List.replicate_succ']
  rfl
 | i+1,h=>by
  have h1:=List.length_pos_iff.mpr hf
  rw [aRV,aPL,aPM f g hf hg i (by omega),aUL]
  rw [aHO]; omega
theorem aVI {f g:List Int} (hf:f≠[]) (hg:g≠[]):aAA (aPL f g f.length)=aBC f g:=by
 unfold aBC; rw [aPM f g hf hg _ (Nat.le_refl _),aBN]
theorem aHY:∀ n,aAA (List.replicate n (0:Int))=[]
 | 0=>rfl
 | n+1=>by rw [List.replicate_succ',aBN,aHY]
theorem aXE (g:List Int):aBC [] g=[]:=by
 unfold aBC; rw [List.length_nil,aRV]; exact aHY _
theorem aUA (f:List Int):∀ i,aRV f [] i=List.replicate f.length 0
 | 0=>rfl
 | i+1=>by rw [aRV,List.length_nil,inn,aUA]
theorem aVJ (f:List Int):aBC f []=[]:=by unfold aBC; rw [aUA]; exact aHY _
def aCO (ds:List D) (d:D):Prop:=∃ f g:List Int,ds=[jC f,jC g]/\f.length < 100/\g.length < 100/\(∀ y∈g,-(2 ^ 63) < y/\y < 2 ^ 63)/\d=jC (aBC f g)
theorem aNB:∀ ds d,aCO ds d->ds.length=2:=by rintro _ _ ⟨a,b,rfl,_⟩; rfl
theorem aSU (h:DefX P w K mg base k N_row_times (yC qW) X) (m_enumerate:mg "enumerate" = none) (m_len:mg "len" = none) (c1:Callee X "row_of" aFT) :
  ∀ ds d,aCO ds d->EvSs X (ds.map Sl.val++List.replicate (N_row_times.length - ds.length) Sl.un) (yF qW) (.rt d):=by
 rintro ds d ⟨f,g,rfl,hf,hg,hb,rfl⟩
 have t:=h.at'
 haveI:=h.fnT
 have b1:Blt X (yC qW) "enumerate" (.type "enumerate"):=yP (by rw [h.mg']; exact m_enumerate) rfl (by decide +kernel)
 have b2:Blt X (yC qW) "len" (.builtin "len"):=yP (by rw [h.mg']; exact m_len)
 show EvSs X [.val (jC f),.val (jC g),.un,.un,.un,.un,.un] _ _
 by_cases h1:f=[]
 ·refine aBX (aBJ (EvW.toT (aLU (aBW t (EvE.p (yA t 0 rfl)) (EvE.p (d:=jC []) (yM yE)) (zG _) (zG _) (by rw [aEV,h1]; rfl)))) (yJ (zO (EvE.eq (d:=.tup []) (yM yE) ?_))))
  rw [h1,aXE]; rfl
 by_cases h2:g=[]
 ·refine aBX (aBJ (EvW.toT (aDG (aBW t (EvE.p (yA t 0 rfl)) (EvE.p (d:=jC []) (yM yE)) (zG _) (zG _) (by rw [aEV,decide_eq_false h1])) (aFO (aBW t (EvE.p (yA t 1 rfl)) (EvE.p (d:=jC []) (yM yE)) (zG _) (zG _) (by rw [aEV,h2]; rfl))))) (yJ (zO (EvE.eq (d:=.tup []) (yM yE) ?_))))
  rw [h2,aVJ]; rfl
 have lf:=List.length_pos_iff.mpr h1
 have lg:=List.length_pos_iff.mpr h2
 refine yG (wM (EvW.toT (aDG (aBW t (EvE.p (yA t 0 rfl)) (EvE.p (d:=jC []) (yM yE)) (zG _) (zG _) (by rw [aEV,decide_eq_false h1])) (aFO (aBW t (EvE.p (yA t 1 rfl)) (EvE.p (d:=jC []) (yM yE)) (zG _) (zG _) (by rw [aEV,decide_eq_false h2]))))) qQ) ?_
 have en:((f.length:Int)+g.length - 1).toNat=f.length+g.length - 1:=by omega
 refine yG (aFE (xs:=(aPL f g 0).map D.int) t 2 (EvN.eq (aLY (n:=(f.length:Int)+g.length - 1) (EvN.toE (yQ (yB yD yE))) (EvE.eq (aCV (jI (vF t b2 (EvE.qt (yA t 0 rfl))) (vF t b2 (EvE.qt (yA t 1 rfl)))) yD) (by rw [List.length_map,List.length_map])) (by omega) (by omega) (by rw [en]; have:=aZH; simp; omega)) (by rw [en,eCD]; rfl))) ?_
 refine yG (ρ':=[.val (jC f),.val (jC g),.own ((aPL f g f.length).map D.int),.un,.un,.un,.un]) (aCW t (aNT t b1 (yA t 0 rfl)) (FRun.uptoE (fun i=>[.val (jC f),.val (jC g),.own ((aPL f g i).map D.int),.un,.un,.un,.un]) (fun i d hi=>?_) rfl ?_)) ?_
 ·obtain ⟨e,he,rfl⟩:=aDK hi
  rw [List.getElem?_map] at he
  cases hx:f[i]? with
  | none=>rw [hx] at he; cases he
  | some x=>
  rw [hx] at he; cases he
  have hi':i < f.length:=(List.getElem?_eq_some_iff.mp hx).1
  have ex:f.getD i 0=x:=by rw [List.getD_eq_getElem?_getD,hx]; rfl
  refine ⟨_,aGF t 3 4,EvSs.weak (ρ1:=[.val (jC f),.val (jC g),.own ((aPL f g (i+1)).map D.int),.val (.int i),.val (.int x),.un,.un]) (yJ (aCW t (aNT t b1 (yA t 1 rfl))
   (FRun.uptoE (fun j=>[.val (jC f),.val (jC g),.own ((inn f g i (aPL f g i) j).map D.int),.val (.int i),.val (.int x),.un,.un]) (fun j d hj=>?_) rfl ?_))) (.keep (.keep (.keep (.forget (.forget (.keep (.keep .nil)))))))⟩
  ·obtain ⟨e,he,rfl⟩:=aDK hj
   rw [List.getElem?_map] at he
   cases hy:g[j]? with
   | none=>rw [hy] at he; cases he
   | some y=>
   rw [hy] at he; cases he
   have hj':j < g.length:=(List.getElem?_eq_some_iff.mp hy).1
   have ey:g.getD j 0=y:=by rw [List.getD_eq_getElem?_getD,hy]; rfl
   have hyb:=hb y (List.mem_of_getElem? hy)
   have hl:(inn f g i (aPL f g i) j).length=f.length+g.length - 1:=by rw [aGD,aHO]
   have hlt:i+j < (inn f g i (aPL f g i) j).length:=by omega
   refine ⟨_,aGF t 5 6,EvSs.weak (yJ (aXR (j:=i+j) (u:=(inn f g i (aPL f g i) j).getD (i+j) 0) t 2 aUK rfl (jI (yA t 3 rfl) (yA t 5 rfl)) ?_ ?_ (aBE (yA t 4 rfl) (yA t 6 rfl) (wP (by omega) (by omega))) trivial)) ?_⟩
   ·rw [List.length_map]; exact aUJ (by omega) (by omega) (by omega)
   ·rw [List.getElem?_map,List.getD_eq_getElem?_getD,List.getElem?_eq_getElem hlt]; rfl
   ·rw [inn,List.map_set,ex,ey]
    exact .keep (.keep (.keep (.keep (.keep (.forget (.forget .nil))))))
  ·rw [aDJ,List.length_map]; rfl
 ·rw [aDJ,List.length_map]
 ·refine wR 2 rfl (yJ (zO (EvE.eq (yU t c1 (yB (yA t 2 rfl) yE) ⟨aPL f g f.length,rfl,by rw [aHO]; omega,rfl⟩) ?_)))
  rw [aVI h1 h2]
theorem aPG (f g:List Int):(aIQ f g).length<=max f.length g.length:=by
 have:=aHI ((List.range (max f.length g.length)).map fun i=>f.getD i 0+g.getD i 0)
 rw [List.length_map,List.length_range] at this
 exact this
theorem aJL {g:List Int} {i:Nat} (h:g.length<=i):g.getD i 0=0:=by rw [List.getD_eq_getElem?_getD,List.getElem?_eq_none h]; rfl
theorem aHZ (xs:List Int) (i:Nat):(aAA xs).getD i 0=xs.getD i 0:=by
 have key:∀ ys:List Int,∀ i,(ys.dropWhile (· == 0)).reverse.getD i 0=ys.reverse.getD i 0:=by
  intro ys
  induction ys with
  | nil=>intro i; rfl
  | cons y ys ih=>
   intro i
   by_cases hy:y=0
   ·subst hy
    have:((0:Int) :: ys).dropWhile (· == 0)=ys.dropWhile (· == 0):=by simp [List.dropWhile]
    rw [this,ih i,List.reverse_cons]
    rw [List.getD_eq_getElem?_getD,List.getD_eq_getElem?_getD]
    by_cases hi:i < ys.reverse.length
    ·rw [List.getElem?_append_left hi]
    ·rw [List.getElem?_append_right (by omega),List.getElem?_eq_none (by omega)]
     cases z:i - ys.reverse.length with
     | zero=>rfl
     | succ n=>rfl
   ·have:(y :: ys).dropWhile (· == 0)=y :: ys:=by rw [List.dropWhile_cons_of_neg (by simpa using hy)]
    rw [this]
 have:=key xs.reverse i
 rw [List.reverse_reverse] at this
 exact this
theorem eEG {f g:List Int} (hf:RowOk f) (h:∀ i,f.getD i 0=g.getD i 0):f.length<=g.length:=by
 rcases hf with e | ⟨ys,a,e,ha⟩
 ·subst e; exact Nat.zero_le _
 ·rcases Nat.lt_or_ge g.length f.length with z | z
  ·have h1:=h ys.length
   subst e
   rw [aJL (g:=g) (i:=ys.length) (by simp at z; omega)] at h1
   rw [List.getD_eq_getElem?_getD,List.getElem?_append_right (Nat.le_refl _),Nat.sub_self] at h1
   exact absurd h1 ha
  ·exact z
theorem eGX {f g:List Int} (hf:RowOk f) (hg:RowOk g) (h:∀ i,f.getD i 0=g.getD i 0):f=g:=by
 have h1:=eEG hf h
 have h2:=eEG hg fun i=>(h i).symm
 refine List.ext_getElem (by omega) fun i h3 h4=>?_
 have:=h i
 rw [aNM h3,aNM h4] at this
 exact this
theorem eDR (xs:List Int):RowOk (aAA xs):=eGJ xs
def aBR:Nat->(Nat->Int)->Int
 | 0,_=>0
 | n+1,h=>aBR n h+h n
theorem aFW (h:Nat->Int):∀ n,aBR (n+1) h=h 0+aBR n (fun i=>h (i+1))
 | 0=>by simp [aBR]
 | n+1=>by
  rw [aBR,aFW h n,aBR]; omega
theorem aHK (h g:Nat->Int):∀ n,aBR n (fun i=>h i+g i)=aBR n h+aBR n g
 | 0=>rfl
 | n+1=>by rw [aBR,aHK h g n,aBR,aBR]; omega
theorem zY {h g:Nat->Int}:∀ n,(∀ i,i < n->h i=g i)->aBR n h=aBR n g
 | 0,_=>rfl
 | n+1,e=>by rw [aBR,aBR,zY n (fun i hi=>e i (by omega)),e n (by omega)]
theorem aDB:∀ n,aBR n (fun _=>0)=0
 | 0=>rfl
 | n+1=>by rw [aBR,aDB n]; rfl
def rs:List Int->(Nat->Int)->Int
 | [],_=>0
 | a :: f,ψ=>a * ψ 0+rs f (fun i=>ψ (i+1))
theorem aBS:∀ (f:List Int) (n:Nat) (ψ:Nat->Int),f.length<=n->rs f ψ=aBR n (fun i=>f.getD i 0 * ψ i)
 | [],n,ψ,_=>by
  exact ((zY (g:=fun _=>0) n fun i _=>by simp).trans (aDB n)).symm
 | a :: f,0,ψ,h=>by simp at h
 | a :: f,n+1,ψ,h=>by
  rw [rs,aFW,aBS f n _ (by simpa using h)]
  rfl
theorem eEE:∀ (f:List Int) (i:Nat),rs f (fun j=>if j=i then 1 else 0)=f.getD i 0
 | [],i=>by simp [rs]
 | a :: f,0=>by
  have e:rs f (fun j=>if j+1=0 then 1 else 0)=0:=by
   have:(fun j:Nat=>if j+1=0 then (1:Int) else 0)=fun _=>0:=funext fun j=>if_neg (by omega)
   rw [this,aBS f f.length _ (Nat.le_refl _)]
   exact (zY (g:=fun _=>0) _ fun i _=>by simp).trans (aDB _)
  rw [rs,e]; simp
 | a :: f,i+1=>by
  have e:(fun j:Nat=>if j+1=i+1 then (1:Int) else 0)=fun j=>if j=i then 1 else 0:=funext fun j=>by
   by_cases h:j=i
   ·rw [if_pos h,if_pos (by omega)]
   ·rw [if_neg h,if_neg (by omega)]
  rw [rs,e,eEE f i]; simp
theorem eEF {f g:List Int} (h:∀ i,f.getD i 0=g.getD i 0) (ψ:Nat->Int):rs f ψ=rs g ψ:=by
 rw [aBS f (max f.length g.length) ψ (by omega),aBS g (max f.length g.length) ψ (by omega)]
 exact zY _ fun i _=>by rw [h i]
theorem aRP (ψ:Nat->Int) (h:∀ i,ψ i=0) (f:List Int):rs f ψ=0:=by
 rw [aBS f f.length ψ (Nat.le_refl _)]
 exact (zY (g:=fun _=>0) _ fun i _=>by rw [h i]; simp).trans (aDB _)
theorem eEB:∀ (f:List Int) (m:Nat) (v:Int) (ψ:Nat->Int),m < f.length->rs (f.set m v) ψ=rs f ψ+(v - f.getD m 0) * ψ m
 | [],m,v,ψ,h=>by simp at h
 | a :: f,0,v,ψ,_=>by
  show v * ψ 0+_=a * ψ 0+_+(v - a) * ψ 0
  rw [Int.sub_mul]; omega
 | a :: f,m+1,v,ψ,h=>by
  show a * ψ 0+rs (f.set m v) _=a * ψ 0+rs f _+(v - f.getD m 0) * ψ (m+1)
  rw [eEB f m v _ (by simpa using h)]; omega
theorem eGW (ψ χ:Nat->Int):∀ (f:List Int),rs f (fun i=>ψ i+χ i)=rs f ψ+rs f χ:=fun f=>by
 rw [aBS f f.length _ (Nat.le_refl _),aBS f f.length _ (Nat.le_refl _),aBS f f.length _ (Nat.le_refl _),<- aHK]
 exact zY _ fun i _=>by rw [Int.mul_add]
abbrev Bd:=List (List Int)
def aWB (b:Bd) (i k:Nat):Int:=(b.getD k []).getD i 0
def bs:Bd->(Nat->Nat->Int)->Int
 | [],_=>0
 | r :: b,φ=>rs r (fun i=>φ i 0)+bs b (fun i k=>φ i (k+1))
def aRE (i k:Nat):Nat->Nat->Int:=fun a c=>if a=i/\c=k then 1 else 0
theorem aSP:∀ (b:Bd) (φ:Nat->Nat->Int),(∀ i k,φ i k=0)->bs b φ=0
 | [],_,_=>rfl
 | r :: b,φ,h=>by rw [bs,aRP _ (fun i=>h i 0),aSP b _ fun i k=>h i (k+1)]; rfl
theorem aUZ:∀ (b:Bd) (i k:Nat),bs b (aRE i k)=aWB b i k
 | [],i,k=>by simp [bs,aWB]
 | r :: b,i,0=>by
  rw [bs,aSP b (fun a c=>aRE i 0 a (c+1)) fun a c=>if_neg (by omega)]
  have e:(fun a:Nat=>aRE i 0 a 0)=fun a=>if a=i then 1 else 0:=funext fun a=>by
   unfold aRE
   by_cases h:a=i
   ·rw [if_pos ⟨h,rfl⟩,if_pos h]
   ·rw [if_neg (fun z=>h z.1),if_neg h]
  rw [e,eEE]; simp [aWB]
 | r :: b,i,k+1=>by
  have e:rs r (fun a=>aRE i (k+1) a 0)=0:=aRP _ (fun a=>if_neg (by omega)) r
  have e2:(fun a c:Nat=>aRE i (k+1) a (c+1))=aRE i k:=funext fun a=>funext fun c=>by
   unfold aRE
   by_cases h:a=i/\c=k
   ·rw [if_pos h,if_pos ⟨h.1,by omega⟩]
   ·rw [if_neg h,if_neg (fun z=>h ⟨z.1,by omega⟩)]
  rw [bs,e,e2,aUZ b i k]; simp [aWB]
theorem eFY:∀ (b:Bd) (m:Nat) (r:List Int) (φ:Nat->Nat->Int),m < b.length->bs (b.set m r) φ=bs b φ+(rs r (fun i=>φ i m) - rs (b.getD m []) (fun i=>φ i m))
 | [],m,r,φ,h=>by simp at h
 | a :: b,0,r,φ,_=>by
  show rs r _+_=rs a _+_+(rs r _ - rs a _)
  omega
 | a :: b,m+1,r,φ,h=>by
  show rs a _+bs (b.set m r) _=rs a _+bs b _+(rs r _ - rs (b.getD m []) _)
  rw [eFY b m r _ (by simpa using h)]; omega
theorem aGW:∀ (b:Bd) (n:Nat) (φ:Nat->Nat->Int),b.length<=n->bs b φ=aBR n (fun k=>rs (b.getD k []) (fun i=>φ i k))
 | [],n,φ,_=>by
  exact ((zY (g:=fun _=>0) n fun i _=>by simp [rs]).trans (aDB n)).symm
 | r :: b,0,φ,h=>by simp at h
 | r :: b,n+1,φ,h=>by
  rw [bs,aFW,aGW b n _ (by simpa using h)]
  rfl
abbrev yO (b:Bd):D:=.tup (b.map jC)
abbrev aRQ (b:Bd):D:=.lst (b.map jC)
def wY (xs:Bd):Bd:=(xs.reverse.dropWhile (· == [])).reverse
theorem aBO (xs:Bd):wY (xs++[[]])=wY xs:=by simp [wY]
theorem aBP {a:List Int} (xs:Bd) (h:a≠[]):wY (xs++[a])=xs++[a]:=by simp [wY,h]
theorem aIA (xs:Bd):(wY xs).length<=xs.length:=by
 unfold wY
 rw [List.length_reverse]
 have:=(List.dropWhile_sublist (l:=xs.reverse) (p:=fun x=>x == [])).length_le
 rw [List.length_reverse] at this
 exact this
theorem aWZ (xs:Bd):xs.take (wY xs).length=wY xs:=by
 induction h:xs.length generalizing xs with
 | zero=>rw [List.eq_nil_of_length_eq_zero h]; rfl
 | succ n ih=>
  rcases List.eq_nil_or_concat xs with e | ⟨ys,y,e⟩
  ·subst e; rfl
  ·rw [List.concat_eq_append] at e
   subst e
   by_cases hy:y=[]
   ·subst hy
    rw [aBO]
    have q:=ih ys (by simpa using h)
    have l:=aIA ys
    rw [List.take_append_of_le_length l]; exact q
   ·rw [aBP ys hy,List.take_length]
theorem eBU (xs:Bd):wY xs=[]\/∃ ys a,wY xs=ys++[a]/\a≠[]:=by
 induction h:xs.length generalizing xs with
 | zero=>left; rw [List.eq_nil_of_length_eq_zero h]; rfl
 | succ n ih=>
  rcases List.eq_nil_or_concat xs with e | ⟨ys,y,e⟩
  ·subst e; left; rfl
  ·rw [List.concat_eq_append] at e
   subst e
   by_cases hy:y=[]
   ·subst hy; rw [aBO]; exact ih ys (by simpa using h)
   ·right; exact ⟨ys,y,aBP ys hy,hy⟩
theorem aNL (ys:Bd) (i:Nat):(ys++[[]]).getD i []=ys.getD i []:=by
 rw [List.getD_eq_getElem?_getD,List.getD_eq_getElem?_getD]
 by_cases h:i < ys.length
 ·rw [List.getElem?_append_left h]
 ·rw [List.getElem?_append_right (by omega),List.getElem?_eq_none (show ys.length<=i by omega)]
  cases (i - ys.length) with
  | zero=>rfl
  | succ n=>rfl
theorem aLI (xs:Bd) (i:Nat):(wY xs).getD i []=xs.getD i []:=by
 induction h:xs.length generalizing xs with
 | zero=>rw [List.eq_nil_of_length_eq_zero h]; rfl
 | succ n ih=>
  rcases List.eq_nil_or_concat xs with e | ⟨ys,y,e⟩
  ·subst e; rfl
  ·rw [List.concat_eq_append] at e
   subst e
   by_cases hy:y=[]
   ·subst hy; rw [aBO,ih ys (by simpa using h),aNL]
   ·rw [aBP ys hy]
theorem aZB {xs:Bd} {x:List Int} (h:x∈wY xs):x∈xs:=by
 unfold wY at h
 rw [List.mem_reverse] at h
 have:=(List.dropWhile_sublist (l:=xs.reverse) (p:=fun x=>x == [])).subset h
 exact List.mem_reverse.mp this
theorem aQI {X:Cx} {c:Expr} {body:List Stmt} (R:Nat->Rho) (xs:Bd) (h1:EvT X (R 0) c false) (h2:∀ m (h:m < xs.length),EvT X (R (m+1)) c (decide (xs[m]=[]))) (h3:∀ m,EvSs X (R (m+1)) body (.nx (R m))) :
  ∀ m,m<=xs.length->∃ n,WRun X c body n (R m) (.nx (R (wY (xs.take m)).length))
 | 0,_=>⟨0,.stop h1⟩
 | m+1,hm=>by
  have hlt:m < xs.length:=hm
  have e:xs.take (m+1)=xs.take m++[xs[m]]:=aDA (List.getElem?_eq_getElem hlt)
  by_cases hz:xs[m]=[]
  ·obtain ⟨n,q⟩:=aQI R xs h1 h2 h3 m (by omega)
   refine ⟨n+1,.step (EvT.eq (h2 m hlt) (decide_eq_true hz)) (h3 m) ?_⟩
   rw [e,hz,aBO]; exact q
  ·refine ⟨0,?_⟩
   rw [e,aBP _ hz]
   have el:(xs.take m++[xs[m]]).length=m+1:=by rw [<- e,List.length_take]; omega
   rw [el]
   exact .stop (EvT.eq (h2 m hlt) (decide_eq_false hz))
theorem aVC {α:Type} {g:α->D} {xs:List α} {i:Int} {n:Nat} (h0:0<=i) (hn:i.toNat=n) (h:n < xs.length):atI (xs.map g) i=some (g xs[n]):=by
 rw [show i=((n:Nat):Int) by omega]
 have e:(xs.map g)[n]? = some (g xs[n]):=by rw [List.getElem?_map,List.getElem?_eq_getElem h]; rfl
 exact jR e
theorem aUW {α:Type} (xs:List α) (g:α->D) {m:Nat} (h:m<=xs.length):cutD (xs.map g) none (some (m:Int))=(xs.take m).map g:=by
 unfold cutD
 rw [List.length_map]
 have e1:HT.sIx xs.length 0 none=0:=by simp [HT.sIx]
 have e2:HT.sIx xs.length xs.length (some (m:Int))=m:=by
  simp only [HT.sIx]
  split <;> omega
 rw [e1,e2,List.drop_zero,Nat.sub_zero,List.map_take]
def vL (ds:List D) (d:D):Prop:=(∃ xs:List Int,ds=[jA xs,.int 0]/\xs.length < 1000/\d=jC (aAA xs))\/∃ xs:Bd,ds=[aRQ xs,.tup []]/\xs.length < 1000/\d=yO (wY xs)
theorem aIY:∀ ds d,vL ds d->ds.length=2:=by rintro _ _ (⟨a,rfl,_⟩ | ⟨a,rfl,_⟩) <;> rfl
def aDR (ds:List D) (d:D):Prop:=(∃ (f:List Int) (i:Nat),ds=[jC f,.int i,.int 0]/\d = .int (f.getD i 0))\/∃ (f:Bd) (i:Nat),ds=[yO f,.int i,.tup []]/\d=jC (f.getD i [])
theorem aSB:∀ ds d,aDR ds d->ds.length=3:=by rintro _ _ (⟨a,b,rfl,_⟩ | ⟨a,b,rfl,_⟩) <;> rfl
def aCB (ds:List D) (d:D):Prop:=∃ xs:Bd,ds=[aRQ xs]/\xs.length < 1000/\d=yO (wY xs)
theorem aPU:∀ ds d,aCB ds d->ds.length=1:=by rintro _ _ ⟨a,rfl,_⟩; rfl
def aDD (f g:Bd):Bd:=wY ((List.range (max f.length g.length)).map fun k=>aIQ (f.getD k []) (g.getD k []))
def SmB (n:Nat) (f:Bd):Prop:=f.length < n/\∀ r∈f,r.length < n
def wX (ds:List D) (d:D):Prop:=∃ f g:Bd,ds=[yO f,yO g]/\SmB 1000 f/\SmB 1000 g/\d=yO (aDD f g)
theorem aKY:∀ ds d,wX ds d->ds.length=2:=by rintro _ _ ⟨a,b,rfl,_⟩; rfl
def aRZ (g:Bd):Bd:=g.map fun r=>r.map fun x=>-x
def aAF (ds:List D) (d:D):Prop:=∃ f g:Bd,ds=[yO f,yO g]/\SmB 1000 f/\SmB 1000 g/\d=yO (aDD f (aRZ g))
theorem aJE:∀ ds d,aAF ds d->ds.length=2:=by rintro _ _ ⟨a,b,rfl,_⟩; rfl
def aJK (f g:Bd) (j:Nat) (acc:Bd):Nat->Bd
 | 0=>acc
 | k+1=>(aJK f g j acc k).set (j+k) (aIQ ((aJK f g j acc k).getD (j+k) []) (aBC (f.getD j []) (g.getD k [])))
def aHQ (f g:Bd):Nat->Bd
 | 0=>List.replicate (f.length+g.length - 1) []
 | j+1=>aJK f g j (aHQ f g j) g.length
theorem aHR (f g:Bd) (j:Nat) (acc:Bd):∀ k,(aJK f g j acc k).length=acc.length
 | 0=>rfl
 | k+1=>by rw [aJK,List.length_set,aHR f g j acc k]
theorem aHP (f g:Bd):∀ j,(aHQ f g j).length=f.length+g.length - 1
 | 0=>List.length_replicate
 | j+1=>by rw [aHQ,aHR,aHP f g j]
def wJ (f g:Bd):Bd:=if f=[]\/g=[] then [] else wY (aHQ f g f.length)
theorem aHS {xs:Bd} (i:Nat):xs.getD i []=[]\/xs.getD i []∈xs:=by
 rw [List.getD_eq_getElem?_getD]
 by_cases h:i < xs.length
 ·right; rw [List.getElem?_eq_getElem h]; exact List.getElem_mem _
 ·left; rw [List.getElem?_eq_none (by omega)]; rfl
theorem SmB.get {n:Nat} {f:Bd} (h:SmB n f) (h0:0 < n) (i:Nat):(f.getD i []).length < n:=by
 rcases aHS (xs:=f) i with e | e
 ·rw [e]; exact h0
 ·exact h.2 _ e
theorem aNK {f g:Bd} (hf:SmB 100 f) (hg:SmB 100 g) (j:Nat) {acc:Bd} (ha:∀ r∈acc,r.length < 200):∀ k,∀ r∈aJK f g j acc k,r.length < 200
 | 0,r,hr=>ha r hr
 | k+1,r,hr=>by
  rw [aJK] at hr
  rcases List.mem_or_eq_of_mem_set hr with h | h
  ·exact aNK hf hg j ha k r h
  ·subst h
   have h1:=aPG ((aJK f g j acc k).getD (j+k) []) (aBC (f.getD j []) (g.getD k []))
   have h2:=aLJ (f.getD j []) (g.getD k [])
   have h3:=hf.get (by omega) j
   have h4:=hg.get (by omega) k
   have h5:((aJK f g j acc k).getD (j+k) []).length < 200:=by
    rcases aHS (xs:=aJK f g j acc k) (j+k) with e | e
    ·rw [e]; decide
    ·exact aNK hf hg j ha k _ e
   omega
theorem aYR {f g:Bd} (hf:SmB 100 f) (hg:SmB 100 g):∀ j,∀ r∈aHQ f g j,r.length < 200
 | 0,r,hr=>by rw [aHQ] at hr; rw [(List.mem_replicate.mp hr).2]; decide
 | j+1,r,hr=>aNK hf hg j (aYR hf hg j) g.length r hr
def vN (ds:List D) (d:D):Prop:=∃ f g:Bd,ds=[yO f,yO g]/\SmB 100 f/\SmB 100 g/\(∀ r∈g,∀ y∈r,-(2 ^ 63) < y/\y < 2 ^ 63)/\d=yO (wJ f g)
theorem aJD:∀ ds d,vN ds d->ds.length=2:=by rintro _ _ ⟨a,b,rfl,_⟩; rfl
theorem aNZ (h:DefX P w K mg base k N_without_end (yC zN) X) (m_len:mg "len" = none) (m_tuple:mg "tuple" = none) :
  ∀ ds d,vL ds d->EvSs X (ds.map Sl.val++List.replicate (N_without_end.length - ds.length) Sl.un) (yF zN) (.rt d):=by
 have t:=h.at'
 haveI:=h.fnT
 have b1:Blt X (yC zN) "len" (.builtin "len"):=yP (by rw [h.mg']; exact m_len)
 have b2:Blt X (yC zN) "tuple" (.type "tuple"):=yP (by rw [h.mg']; exact m_tuple)
 rintro ds d (⟨xs,rfl,hl,rfl⟩ | ⟨xs,rfl,hl,rfl⟩)
 ·show EvSs X [.val (jA xs),.val (.int 0),.un] _ _
  refine yG (zK t 2 (EvE.eq (vF t b1 (EvE.ql (yA t 0 rfl))) (by rw [List.length_map]))) ?_
  refine yG (aIJ t (aUX (fun m=>[.val (jA xs),.val (.int 0),.val (.int (m:Int))]) xs ?_ (fun m hm=>?_) (fun m=>?_) xs.length (Nat.le_refl _))) (yJ (zO (EvE.eq (aDV t b2 (EvN.toQ (aEU (EvE.ql (yA t 0 rfl)) aFP (aBK (yA t 2 rfl))))) ?_)))
  ·exact EvW.toT (aET (EvT.eq (aEB (yA t 2 rfl) yD) rfl))
  ·refine EvW.toT (aDH (EvT.eq (aEB (yA t 2 rfl) yD) (decide_eq_true (by omega))) (aGE (vS (zB (EvE.ql (yA t 0 rfl)) (aCV (yA t 2 rfl) yD) ?_) (yA t 1 rfl))))
   exact aJY (by omega) (by omega) hm
  ·refine EvSs.eq (yJ (aTN t 2 rfl yD)) ?_
   have e:((m+1:Nat):Int) - 1=(m:Int):=by omega
   show Out.nx [_,_,.val (.int (((m+1:Nat):Int) - 1))]=_
   rw [e]
  ·rw [List.take_length,aUW xs D.int (aHI xs),eBT]
 ·show EvSs X [.val (aRQ xs),.val (.tup []),.un] _ _
  refine yG (zK t 2 (EvE.eq (vF t b1 (EvE.ql (yA t 0 rfl))) (by rw [List.length_map]))) ?_
  refine yG (aIJ t (aQI (fun m=>[.val (aRQ xs),.val (.tup []),.val (.int (m:Int))]) xs ?_ (fun m hm=>?_) (fun m=>?_) xs.length (Nat.le_refl _))) (yJ (zO (EvE.eq (aDV t b2 (EvN.toQ (aEU (EvE.ql (yA t 0 rfl)) aFP (aBK (yA t 2 rfl))))) ?_)))
  ·exact EvW.toT (aET (EvT.eq (aEB (yA t 2 rfl) yD) rfl))
  ·refine EvW.toT (aDH (EvT.eq (aEB (yA t 2 rfl) yD) (decide_eq_true (by omega))) (aGE (aBW t (EvE.p (d:=jC xs[m]) (zB (EvE.ql (yA t 0 rfl)) (aCV (yA t 2 rfl) yD) ?_)) (EvE.p (d:=jC []) (yA t 1 rfl)) (zG _) (zG _) (aEV _ _))))
   exact aVC (by omega) (by omega) hm
  ·refine EvSs.eq (yJ (aTN t 2 rfl yD)) ?_
   have e:((m+1:Nat):Int) - 1=(m:Int):=by omega
   show Out.nx [_,_,.val (.int (((m+1:Nat):Int) - 1))]=_
   rw [e]
  ·rw [List.take_length,aUW xs jC (aIA xs),aWZ]
theorem eBC (h:DefX P w K mg base k N_part_at (yC wL) X) (m_len:mg "len" = none) :
  ∀ ds d,aDR ds d->EvSs X (ds.map Sl.val++List.replicate (N_part_at.length - ds.length) Sl.un) (yF wL) (.rt d):=by
 have t:=h.at'
 have b1:Blt X (yC wL) "len" (.builtin "len"):=yP (by rw [h.mg']; exact m_len)
 rintro ds d (⟨f,i,rfl,rfl⟩ | ⟨f,i,rfl,rfl⟩)
 ·show EvSs X [.val (jC f),.val (.int i),.val (.int 0)] _ _
  by_cases hi:i < f.length
  ·exact yJ (zO (aUO (EvT.eq (aBV (yA t 1 rfl) (vF t b1 (EvE.qt (yA t 0 rfl)))) (decide_eq_true (by rw [List.length_map]; omega))) (zB (EvE.qt (yA t 0 rfl)) (yA t 1 rfl) (aRA hi))))
  ·refine yJ (zO (aPZ (EvT.eq (aBV (yA t 1 rfl) (vF t b1 (EvE.qt (yA t 0 rfl)))) (decide_eq_false (by rw [List.length_map]; omega))) (EvE.eq (yA t 2 rfl) ?_)))
   rw [List.getD_eq_getElem?_getD,List.getElem?_eq_none (by omega)]; rfl
 ·show EvSs X [.val (yO f),.val (.int i),.val (.tup [])] _ _
  by_cases hi:i < f.length
  ·refine yJ (zO (aUO (EvT.eq (aBV (yA t 1 rfl) (vF t b1 (EvE.qt (yA t 0 rfl)))) (decide_eq_true (by rw [List.length_map]; omega))) (zB (EvE.qt (yA t 0 rfl)) (yA t 1 rfl) ?_)))
   rw [aVC (g:=jC) (n:=i) (by omega) (by omega) hi,List.getD_eq_getElem?_getD,List.getElem?_eq_getElem hi]; rfl
  ·refine yJ (zO (aPZ (EvT.eq (aBV (yA t 1 rfl) (vF t b1 (EvE.qt (yA t 0 rfl)))) (decide_eq_false (by rw [List.length_map]; omega))) (EvE.eq (yA t 2 rfl) ?_)))
   rw [List.getD_eq_getElem?_getD,List.getElem?_eq_none (by omega)]; rfl
theorem eDI (h:DefX P w K mg base k N_row_of (yC aCG) X) (c1:Callee X "without_end" vL) :
  ∀ ds d,aFT ds d->EvSs X (ds.map Sl.val++List.replicate (N_row_of.length - ds.length) Sl.un) (yF aCG) (.rt d):=by
 rintro ds d ⟨xs,rfl,hl,rfl⟩
 have t:=h.at'
 show EvSs X [.val (jA xs)] _ _
 exact yJ (zO (yU t c1 (yB (yA t 0 rfl) (yB yD yE)) (.inl ⟨xs,rfl,hl,rfl⟩)))
theorem aWK (h:DefX P w K mg base k N_board_of (yC vX) X) (c1:Callee X "without_end" vL) :
  ∀ ds d,aCB ds d->EvSs X (ds.map Sl.val++List.replicate (N_board_of.length - ds.length) Sl.un) (yF vX) (.rt d):=by
 rintro ds d ⟨xs,rfl,hl,rfl⟩
 have t:=h.at'
 show EvSs X [.val (aRQ xs)] _ _
 exact yJ (zO (yU t c1 (yB (yA t 0 rfl) (yB (yM yE) yE)) (.inr ⟨xs,rfl,hl,rfl⟩)))
theorem aWJ (h:DefX P w K mg base k N_row_plus (yC jD) X) (m_max:mg "max" = none) (m_len:mg "len" = none) (m_range:mg "range" = none) (c1:Callee X "row_of" aFT) (c2:Callee X "part_at" aDR) :
  ∀ ds d,aCA ds d->EvSs X (ds.map Sl.val++List.replicate (N_row_plus.length - ds.length) Sl.un) (yF jD) (.rt d):=by
 rintro ds d ⟨f,g,rfl,hf,hg,rfl⟩
 have t:=h.at'
 haveI:=h.fnT
 have b1:Blt X (yC jD) "max" (.builtin "max"):=yP (by rw [h.mg']; exact m_max)
 have b2:Blt X (yC jD) "len" (.builtin "len"):=yP (by rw [h.mg']; exact m_len)
 have b3:Blt X (yC jD) "range" (.type "range"):=yP (by rw [h.mg']; exact m_range)
 show EvSs X [.val (jC f),.val (jC g),.un] _ _
 refine yG (zK (d:=.int ((max f.length g.length:Nat):Int)) t 2 (EvE.eq (aSF t b1 (vF t b2 (EvE.qt (yA t 0 rfl))) (vF t b2 (EvE.qt (yA t 1 rfl)))) (by rw [List.length_map,List.length_map]; congr 1; omega))) ?_
 refine yJ (zO (yU t c1 (yB (d:=jA ((List.range (max f.length g.length)).map fun i=>f.getD i 0+g.getD i 0)) (EvE.eq (EvN.toE (aDL (rs:=(List.range (max f.length g.length)).map fun i=>D.int (f.getD i 0+g.getD i 0)) t ["f", "g", "many", "power"] (csc (by decide +kernel)) (jT t b3 (yA t 2 rfl) (by omega) (by omega)) (by simp [jO]; exact aMC (by omega)) fun X' cx=>?_)) (by show D.lst _=D.lst _; rw [List.map_map]; rfl)) yE) ⟨_,rfl,by rw [List.length_map,List.length_range]; omega,rfl⟩))
 rw [Int.toNat_natCast]
 exact CRun.gen (fun (i:Nat)=>D.int (0+(i:Int))) _ (fun (i:Nat)=>[.val (jC f),.val (jC g),.val (.int ((max f.length g.length:Nat):Int)),.val (.int (i:Int))]) _ _ (fun x hx=>by rw [Int.zero_add]; exact qN cx.at' 3) (fun x hx y hy=>by rw [Int.zero_add]; exact qN cx.at' 3) fun x hx=>
  jI (yU cx.at' (cx.callee c2) (yB (yA cx.at' 0 rfl) (yB (yA cx.at' 3 rfl) (yB yD yE))) (.inl ⟨f,x,rfl,rfl⟩)) (yU cx.at' (cx.callee c2) (yB (yA cx.at' 1 rfl) (yB (yA cx.at' 3 rfl) (yB yD yE))) (.inl ⟨g,x,rfl,rfl⟩))
theorem aQZ (h:DefX P w K mg base k N_board_plus (yC zU) X) (m_max:mg "max" = none) (m_len:mg "len" = none) (m_range:mg "range" = none) (c1:Callee X "board_of" aCB) (c2:Callee X "row_plus" aCA) (c3:Callee X "part_at" aDR) :
  ∀ ds d,wX ds d->EvSs X (ds.map Sl.val++List.replicate (N_board_plus.length - ds.length) Sl.un) (yF zU) (.rt d):=by
 rintro ds d ⟨f,g,rfl,hf,hg,rfl⟩
 have t:=h.at'
 haveI:=h.fnT
 have b1:Blt X (yC zU) "max" (.builtin "max"):=yP (by rw [h.mg']; exact m_max)
 have b2:Blt X (yC zU) "len" (.builtin "len"):=yP (by rw [h.mg']; exact m_len)
 have b3:Blt X (yC zU) "range" (.type "range"):=yP (by rw [h.mg']; exact m_range)
 have lf:=hf.1
 have lg:=hg.1
 show EvSs X [.val (yO f),.val (yO g),.un] _ _
 refine yG (zK (d:=.int ((max f.length g.length:Nat):Int)) t 2 (EvE.eq (aSF t b1 (vF t b2 (EvE.qt (yA t 0 rfl))) (vF t b2 (EvE.qt (yA t 1 rfl)))) (by rw [List.length_map,List.length_map]; congr 1; omega))) ?_
 refine yJ (zO (yU t c1 (yB (d:=aRQ ((List.range (max f.length g.length)).map fun k=>aIQ (f.getD k []) (g.getD k []))) (EvE.eq (EvN.toE (aDL (rs:=(List.range (max f.length g.length)).map fun k=>jC (aIQ (f.getD k []) (g.getD k []))) t ["f", "g", "many", "power"] (csc (by decide +kernel)) (jT t b3 (yA t 2 rfl) (by omega) (by omega)) (by simp [jO]; exact aMC (by omega)) fun X' cx=>?_)) (by show D.lst _=D.lst _; rw [List.map_map]; rfl)) yE) ⟨_,rfl,by rw [List.length_map,List.length_range]; omega,rfl⟩))
 rw [Int.toNat_natCast]
 exact CRun.gen (fun (i:Nat)=>D.int (0+(i:Int))) _ (fun (i:Nat)=>[.val (yO f),.val (yO g),.val (.int ((max f.length g.length:Nat):Int)),.val (.int (i:Int))]) _ _ (fun x hx=>by rw [Int.zero_add]; exact qN cx.at' 3) (fun x hx y hy=>by rw [Int.zero_add]; exact qN cx.at' 3) fun x hx=>
  yU cx.at' (cx.callee c2) (yB (yU cx.at' (cx.callee c3) (yB (yA cx.at' 0 rfl) (yB (yA cx.at' 3 rfl) (yB (yM yE) yE))) (.inr ⟨f,x,rfl,rfl⟩)) (yB (yU cx.at' (cx.callee c3) (yB (yA cx.at' 1 rfl) (yB (yA cx.at' 3 rfl) (yB (yM yE) yE))) (.inr ⟨g,x,rfl,rfl⟩)) yE)) ⟨_,_,rfl,hf.get (by omega) x,hg.get (by omega) x,rfl⟩
theorem aOC (h:DefX P w K mg base k N_board_minus (yC qF) X) (m_tuple:mg "tuple" = none) (c1:Callee X "board_plus" wX) (c2:Callee X "other_sign" aBG) :
  ∀ ds d,aAF ds d->EvSs X (ds.map Sl.val++List.replicate (N_board_minus.length - ds.length) Sl.un) (yF qF) (.rt d):=by
 rintro ds d ⟨f,g,rfl,hf,hg,rfl⟩
 have t:=h.at'
 haveI:=h.fnT
 have b1:Blt X (yC qF) "tuple" (.type "tuple"):=yP (by rw [h.mg']; exact m_tuple)
 show EvSs X [.val (yO f),.val (yO g)] _ _
 refine yJ (zO (yU t c1 (yB (yA t 0 rfl) (yB (d:=yO (aRZ g)) (EvE.eq (aDV t b1 (EvN.toQ (aDL (rs:=g.map fun r=>jC (r.map fun x=>-x)) t ["f", "g", "row"] (csc (by decide +kernel)) (aQC (yA t 1 rfl)) (by rw [List.length_map]; exact aMC hg.1) fun X' cx=>?_))) (by show D.tup _=D.tup _; unfold aRZ; rw [List.map_map]; rfl)) yE)) ⟨f,aRZ g,rfl,hf,?_,rfl⟩))
 ·exact CRun.gen jC _ (fun r=>[.val (yO f),.val (yO g),.val (jC r)]) _ _ (fun x hx=>qN cx.at' 2) (fun x hx y hy=>qN cx.at' 2) fun x hx=>
   yU cx.at' (cx.callee c2) (yB (yA cx.at' 2 rfl) yE) ⟨x,rfl,hg.2 x hx,rfl⟩
 ·unfold aRZ
  refine ⟨by rw [List.length_map]; exact hg.1,fun r hr=>?_⟩
  obtain ⟨q,hq,rfl⟩:=List.mem_map.mp hr
  rw [List.length_map]; exact hg.2 q hq
theorem eCC (n:Nat):(List.replicate n [D.tup []]).flatten=(List.replicate n ([]:List Int)).map jC:=by
 induction n with
 | zero=>rfl
 | succ n ih=>rw [List.replicate_succ,List.flatten_cons,ih,List.replicate_succ,List.map_cons]; rfl
theorem aBY (f:Bd):(toP (yO f)).eqv (toP (.tup []))=decide (f=[]):=by
 show (PyData.tuple (toPs (f.map jC))).eqv (.tuple (toPs []))=_
 cases f with
 | nil=>simp [toPs,PyData.eqv,PyData.eqvAll]
 | cons r f=>simp [toPs,PyData.eqv,PyData.eqvAll]
def Fn (n:Nat) (d:D):Prop:=(toP d).canLay0=true/\(toP d).depth<=n/\(toP d).eqv (toP d)=true
theorem Fn.int (i:Int):Fn 1 (.int i):=⟨rfl,by simp [toP,PyData.depth],by simp [toP,PyData.eqv]⟩
theorem Fn.all {n:Nat}:∀ {xs:List D},(∀ x∈xs,Fn n x)->PyData.canLayAll0 (toPs xs)=true/\PyData.depthAll (toPs xs)<=n/\PyData.eqvAll (toPs xs) (toPs xs)=true
 | [],_=>⟨rfl,by simp [toPs,PyData.depthAll],by simp [toPs,PyData.eqvAll]⟩
 | x :: xs,h=>by
  obtain ⟨a1,a2,a3⟩:=h x (by simp)
  obtain ⟨b1,b2,b3⟩:=Fn.all (xs:=xs) fun y hy=>h y (by simp [hy])
  refine ⟨?_,?_,?_⟩
  ·simp only [toPs,PyData.canLayAll0,a1,b1]; rfl
  ·simp only [toPs,PyData.depthAll]; omega
  ·simp only [toPs,PyData.eqvAll,a3,b3]; rfl
theorem Fn.tup {n:Nat} {xs:List D} (h:∀ x∈xs,Fn n x):Fn (n+1) (.tup xs):=by
 obtain ⟨b1,b2,b3⟩:=Fn.all h
 exact ⟨by simp only [toP,PyData.canLay0]; exact b1,by simp only [toP,PyData.depth]; omega,by simp only [toP,PyData.eqv]; exact b3⟩
theorem Fn.lst {n:Nat} {xs:List D} (h:∀ x∈xs,Fn n x):Fn (n+1) (.lst xs):=by
 obtain ⟨b1,b2,b3⟩:=Fn.all h
 exact ⟨by simp only [toP,PyData.canLay0]; exact b1,by simp only [toP,PyData.depth]; omega,by simp only [toP,PyData.eqv]; exact b3⟩
theorem Fn.sh {n:Nat} {d:D} (h:Fn n d) (hn:n<=64):SeqAt.shaped (toP d)=true:=by
 show ((toP d).canLay0 && decide ((toP d).depth<=64))=true
 rw [h.1,decide_eq_true (Nat.le_trans h.2.1 hn)]; rfl
theorem eFI (r:List Int):Fn 2 (jC r):=Fn.tup fun x hx=>by
 obtain ⟨i,_,rfl⟩:=List.mem_map.mp hx; exact Fn.int i
theorem aUM (b:Bd):Fn 3 (yO b):=Fn.tup fun x hx=>by
 obtain ⟨r,_,rfl⟩:=List.mem_map.mp hx; exact eFI r
theorem eIK (b:Bd):Fn 3 (aRQ b):=Fn.lst fun x hx=>by
 obtain ⟨r,_,rfl⟩:=List.mem_map.mp hx; exact eFI r
theorem wK (f:Bd):SeqAt.shaped (toP (yO f))=true:=(aUM f).sh (by decide)
end
section
variable {X:Cx} {ρ:Rho} {a b:Expr} {d:D} {pos:Pos} {N:List Str} {sc:Scope}
theorem eIY {n:Nat} (t:At X N sc) (f:Fn n d) (ha:EvE X ρ a d) (hb:EvE X ρ b d) (hn:n<=64:=by decide):EvT X ρ (.Compare a [.NotEq] [b] pos) false:=
 aLX t ha.p hb.p (f.sh hn) (f.sh hn) (by rw [f.2.2]; rfl)
end
section
variable {P:Program} {w:World} {K:PySem.W.Frag} {mg:Str->Option Value} {base:Heap} {k:Nat} {X:Cx}
theorem aOB (h:DefX P w K mg base k N_board_times (yC zQ) X) (m_enumerate:mg "enumerate" = none) (m_len:mg "len" = none) (c1:Callee X "board_of" aCB) (c2:Callee X "row_plus" aCA) (c3:Callee X "row_times" aCO) :
  ∀ ds d,vN ds d->EvSs X (ds.map Sl.val++List.replicate (N_board_times.length - ds.length) Sl.un) (yF zQ) (.rt d):=by
 rintro ds d ⟨f,g,rfl,hf,hg,hb,rfl⟩
 have t:=h.at'
 haveI:=h.fnT
 have b1:Blt X (yC zQ) "enumerate" (.type "enumerate"):=yP (by rw [h.mg']; exact m_enumerate) rfl (by decide +kernel)
 have b2:Blt X (yC zQ) "len" (.builtin "len"):=yP (by rw [h.mg']; exact m_len)
 have s0:SeqAt.shaped (toP (.tup []))=true:=zG []
 show EvSs X [.val (yO f),.val (yO g),.un,.un,.un,.un,.un] _ _
 by_cases h1:f=[]
 ·refine aBX (aBJ (EvW.toT (aLU (aBW t (EvE.p (yA t 0 rfl)) (EvE.p (d:=.tup []) (yM yE)) (wK _) s0 (by rw [aBY,h1]; rfl)))) (yJ (zO (EvE.eq (d:=.tup []) (yM yE) ?_))))
  unfold wJ; rw [if_pos (.inl h1)]; rfl
 by_cases h2:g=[]
 ·refine aBX (aBJ (EvW.toT (aDG (aBW t (EvE.p (yA t 0 rfl)) (EvE.p (d:=.tup []) (yM yE)) (wK _) s0 (by rw [aBY,decide_eq_false h1])) (aFO (aBW t (EvE.p (yA t 1 rfl)) (EvE.p (d:=.tup []) (yM yE)) (wK _) s0 (by rw [aBY,h2]; rfl))))) (yJ (zO (EvE.eq (d:=.tup []) (yM yE) ?_))))
  unfold wJ; rw [if_pos (.inr h2)]; rfl
 have et:wJ f g=wY (aHQ f g f.length):=by unfold wJ; rw [if_neg (fun z=>z.elim h1 h2)]
 have lf:=List.length_pos_iff.mpr h1
 have lg:=List.length_pos_iff.mpr h2
 have lf':=hf.1
 have lg':=hg.1
 refine yG (wM (EvW.toT (aDG (aBW t (EvE.p (yA t 0 rfl)) (EvE.p (d:=.tup []) (yM yE)) (wK _) s0 (by rw [aBY,decide_eq_false h1])) (aFO (aBW t (EvE.p (yA t 1 rfl)) (EvE.p (d:=.tup []) (yM yE)) (wK _) s0 (by rw [aBY,decide_eq_false h2]))))) qQ) ?_
 have en:((f.length:Int)+g.length - 1).toNat=f.length+g.length - 1:=by omega
 refine yG (aFE (xs:=(aHQ f g 0).map jC) t 2 (EvN.eq (aLY (n:=(f.length:Int)+g.length - 1) (EvN.toE (yQ (yB (yM yE) yE))) (EvE.eq (aCV (jI (vF t b2 (EvE.qt (yA t 0 rfl))) (vF t b2 (EvE.qt (yA t 1 rfl)))) yD) (by rw [List.length_map,List.length_map])) (by omega) (by omega) (by rw [en]; have:=aZH; simp; omega)) (by rw [en,eCC]; rfl))) ?_
 refine yG (ρ':=[.val (yO f),.val (yO g),.own ((aHQ f g f.length).map jC),.un,.un,.un,.un]) (aCW t (aNT t b1 (yA t 0 rfl)) (FRun.uptoE (fun i=>[.val (yO f),.val (yO g),.own ((aHQ f g i).map jC),.un,.un,.un,.un]) (fun i d hi=>?_) rfl ?_)) ?_
 ·obtain ⟨e,he,rfl⟩:=aDK hi
  rw [List.getElem?_map] at he
  cases hx:f[i]? with
  | none=>rw [hx] at he; cases he
  | some x=>
  rw [hx] at he; cases he
  have hi':i < f.length:=(List.getElem?_eq_some_iff.mp hx).1
  have ex:f.getD i []=x:=by rw [List.getD_eq_getElem?_getD,hx]; rfl
  refine ⟨_,aGF t 3 4,EvSs.weak (ρ1:=[.val (yO f),.val (yO g),.own ((aHQ f g (i+1)).map jC),.val (.int i),.val (jC x),.un,.un]) (yJ (aCW t (aNT t b1 (yA t 1 rfl))
   (FRun.uptoE (fun j=>[.val (yO f),.val (yO g),.own ((aJK f g i (aHQ f g i) j).map jC),.val (.int i),.val (jC x),.un,.un]) (fun j d hj=>?_) rfl ?_))) (.keep (.keep (.keep (.forget (.forget (.keep (.keep .nil)))))))⟩
  ·obtain ⟨e,he,rfl⟩:=aDK hj
   rw [List.getElem?_map] at he
   cases hy:g[j]? with
   | none=>rw [hy] at he; cases he
   | some y=>
   rw [hy] at he; cases he
   have hj':j < g.length:=(List.getElem?_eq_some_iff.mp hy).1
   have ey:g.getD j []=y:=by rw [List.getD_eq_getElem?_getD,hy]; rfl
   have hl:(aJK f g i (aHQ f g i) j).length=f.length+g.length - 1:=by rw [aHR,aHP]
   have hlt:i+j < (aJK f g i (aHQ f g i) j).length:=by omega
   have e1:((i:Int)+(j:Int))=((i+j:Nat):Int):=by omega
   have hix:atI ((aJK f g i (aHQ f g i) j).map jC) ((i:Int)+(j:Int))=some (jC ((aJK f g i (aHQ f g i) j).getD (i+j) [])):=by
    rw [aVC (g:=jC) (n:=i+j) (by omega) (by omega) hlt,List.getD_eq_getElem?_getD,List.getElem?_eq_getElem hlt]; rfl
   have h3:=hf.get (by omega) i
   have h4:=hg.get (by omega) j
   have h5:((aJK f g i (aHQ f g i) j).getD (i+j) []).length < 200:=by
    rcases aHS (xs:=aJK f g i (aHQ f g i) j) (i+j) with e | e
    ·rw [e]; decide
    ·exact aNK hf hg i (aYR hf hg i) j _ e
   have h6:=aLJ (f.getD i []) (g.getD j [])
   rw [ex] at h3 h6
   rw [ey] at h4 h6
   refine ⟨_,aGF t 5 6,EvSs.weak (yJ (eBY t (yU t c2 (yB (zB (aBD t 2 rfl) (jI (yA t 3 rfl) (yA t 5 rfl)) hix) (yB (yU t c3 (yB (yA t 4 rfl) (yB (yA t 6 rfl) yE)) ⟨x,y,rfl,h3,h4,hb y (List.mem_of_getElem? hy),rfl⟩) yE)) ⟨_,_,rfl,by omega,by omega,rfl⟩) (eJE (j:=i+j) t 2 rfl (jI (yA t 3 rfl) (yA t 5 rfl)) ?_))) ?_⟩
   ·rw [List.length_map]; exact aUJ (by omega) (by omega) (by omega)
   ·rw [aJK,List.map_set,ex,ey]
    exact .keep (.keep (.keep (.keep (.keep (.forget (.forget .nil))))))
  ·rw [aDJ,List.length_map]; rfl
 ·rw [aDJ,List.length_map]
 ·refine wR 2 rfl (yJ (zO (EvE.eq (yU t c1 (yB (yA t 2 rfl) yE) ⟨aHQ f g f.length,rfl,by rw [aHP]; omega,rfl⟩) ?_)))
  rw [et]
abbrev nk (i k:Nat):List Int:=[(i:Int),(k:Int)]
theorem eEX {i k a c:Nat} (h:nk i k=nk a c):i=a/\k=c:=by
 have h1:=(List.cons.inj h).1
 have h2:=(List.cons.inj (List.cons.inj h).2).1
 omega
def ds:KVs->(Nat->Nat->Int)->Int
 | [],_=>0
 | p :: r,φ=>p.2 * φ (p.1.getD 0 0).toNat (p.1.getD 1 0).toNat+ds r φ
structure KOk (kvs:KVs):Prop where
 keys:∀ p∈kvs,∃ i k:Nat,p.1=nk i k
 nd:(kvs.map (·.1)).Nodup
theorem KOk.nil:KOk []:=⟨fun _ h=>(nomatch h),List.nodup_nil⟩
theorem aCY (p:List Int × Int) (r:KVs) (k:List Int):vQ (p :: r) k=if p.1=k then some p.2 else vQ r k:=by
 unfold vQ
 rw [List.find?_cons]
 by_cases h:p.1=k
 ·rw [if_pos h,decide_eq_true h]; rfl
 ·rw [if_neg h,decide_eq_false h]
theorem aEX {k:List Int}:∀ {kvs:KVs},(∀ p∈kvs,p.1≠k)->vQ kvs k=none
 | [],_=>rfl
 | p :: r,h=>by rw [aCY,if_neg (h p (by simp)),aEX fun q hq=>h q (by simp [hq])]
theorem aEY {k:List Int} {v:Int}:∀ {kvs:KVs},(kvs.map (·.1)).Nodup->(k,v)∈kvs->vQ kvs k=some v
 | [],_,h=>nomatch h
 | p :: r,nd,h=>by
  rw [List.map_cons,List.nodup_cons] at nd
  rw [aCY]
  rcases List.mem_cons.mp h with e | h
  ·rw [<- e,if_pos rfl]
  ·have hm:k∈r.map (·.1):=List.mem_map.mpr ⟨_,h,rfl⟩
   rw [if_neg (fun z:p.1=k=>nd.1 (by rw [z]; exact hm)),aEY nd.2 h]
theorem aTQ {kvs:KVs} {k:List Int} {v:Int} {q:List Int × Int} (h:q∈aEO kvs k v):q=(k,v)\/q∈kvs:=by
 unfold aEO at h
 split at h
 ·obtain ⟨p,hp,e⟩:=List.mem_map.mp h
  by_cases z:p.1=k
  ·rw [if_pos z] at e; left; rw [<- e,z]
  ·rw [if_neg z] at e; right; rw [<- e]; exact hp
 ·rcases List.mem_append.mp h with h | h
  ·exact .inr h
  ·exact .inl (List.mem_singleton.mp h)
theorem aXZ {kvs:KVs} {k:List Int} {v:Int}:(aEO kvs k v).map (·.1)=if (vQ kvs k).isSome=true then kvs.map (·.1) else kvs.map (·.1)++[k]:=by
 unfold aEO
 split
 ·rw [List.map_map]
  refine List.map_congr_left fun p _=>?_
  show (if p.1=k then (p.1,v) else p).1=p.1
  split <;> rfl
 ·rw [List.map_append]; rfl
theorem KOk.put {kvs:KVs} (h:KOk kvs) (i k:Nat) (v:Int):KOk (aEO kvs (nk i k) v):=by
 refine ⟨fun p hp=>?_,?_⟩
 ·rcases aTQ hp with e | e
  ·exact ⟨i,k,by rw [e]⟩
  ·exact h.keys p e
 ·rw [aXZ]
  split
  ·exact h.nd
  ·rename_i hn
   refine List.nodup_append.mpr ⟨h.nd,by simp,fun a ha b hb e=>hn ?_⟩
   rw [List.mem_singleton] at hb
   subst hb e
   obtain ⟨p,hp,e⟩:=List.mem_map.mp ha
   have:vQ kvs p.1=some p.2:=aEY h.nd hp
   rw [<- e,this]; rfl
theorem aQD (φ:Nat->Nat->Int):∀ (a b:KVs),ds (a++b) φ=ds a φ+ds b φ
 | [],b=>by simp [ds]
 | p :: a,b=>by rw [List.cons_append,ds,ds,aQD φ a b]; omega
theorem eAJ (φ:Nat->Nat->Int) (i k:Nat) (v:Int):∀ (kvs:KVs),(kvs.map (·.1)).Nodup->ds (kvs.map fun p=>if p.1=nk i k then (p.1,v) else p) φ=ds kvs φ+(match vQ kvs (nk i k) with | some o=>(v - o) * φ i k | none=>0)
 | [],_=>rfl
 | p :: r,nd=>by
  rw [List.map_cons,List.nodup_cons] at nd
  rw [List.map_cons,ds,ds,eAJ φ i k v r nd.2,aCY]
  by_cases e:p.1=nk i k
  ·rw [if_pos e,if_pos e,aEX fun q hq z=>nd.1 (by rw [e,<- z]; exact List.mem_map.mpr ⟨_,hq,rfl⟩)]
   have e1:(p.1.getD 0 0).toNat=i:=by rw [e]; simp
   have e2:(p.1.getD 1 0).toNat=k:=by rw [e]; simp
   simp only [e1,e2]
   rw [Int.sub_mul]; omega
  ·rw [if_neg e,if_neg e]; omega
theorem eFV {kvs:KVs} (h:KOk kvs) (i k:Nat) (v:Int) (φ:Nat->Nat->Int):ds (aEO kvs (nk i k) v) φ=ds kvs φ+(v - (vQ kvs (nk i k)).getD 0) * φ i k:=by
 unfold aEO
 cases e:vQ kvs (nk i k) with
 | none=>
  rw [if_neg (by simp),aQD]
  show ds kvs φ+(v * φ i k+0)=_
  simp
 | some o=>
  rw [if_pos (by rfl),eAJ φ i k v kvs h.nd,e]; rfl
theorem eNY {kvs:KVs} (h:KOk kvs) (i k:Nat):ds kvs (aRE i k)=(vQ kvs (nk i k)).getD 0:=by
 obtain ⟨hk,nd⟩:=h
 induction kvs with
 | nil=>rfl
 | cons p r ih=>
  rw [List.map_cons,List.nodup_cons] at nd
  obtain ⟨a,c,e⟩:=hk p (by simp)
  have e1:(p.1.getD 0 0).toNat=a:=by rw [e]; simp
  have e2:(p.1.getD 1 0).toNat=c:=by rw [e]; simp
  have ih':=ih (fun q hq=>hk q (by simp [hq])) nd.2
  rw [ds,ih',aCY,e1,e2]
  by_cases z:a=i/\c=k
  ·have q:p.1=nk i k:=by rw [e,z.1,z.2]
   rw [if_pos q,aEX fun x hx w=>nd.1 (by rw [q,<- w]; exact List.mem_map.mpr ⟨_,hx,rfl⟩)]
   unfold aRE
   rw [if_pos z]; simp
  ·rw [if_neg (fun q=>z (eEX (e.symm.trans q)))]
   unfold aRE
   rw [if_neg z]; simp
def aAS (kvs:KVs):Bd:=wY ((List.range 10).map fun k=>aAA ((List.range 10).map fun i=>(vQ kvs (nk i k)).getD 0))
def BoardOk (b:Bd):Prop:=(b=[]\/∃ ys a,b=ys++[a]/\a≠[])/\∀ r∈b,RowOk r
theorem aLO (n i:Nat) (h:Nat->Int):((List.range n).map h).getD i 0=if i < n then h i else 0:=by
 rw [List.getD_eq_getElem?_getD,List.getElem?_map]
 by_cases e:i < n
 ·rw [if_pos e,List.getElem?_range e]; rfl
 ·rw [if_neg e,List.getElem?_eq_none (by simpa using e)]; rfl
theorem aLP (n i:Nat) (h:Nat->List Int):((List.range n).map h).getD i []=if i < n then h i else []:=by
 rw [List.getD_eq_getElem?_getD,List.getElem?_map]
 by_cases e:i < n
 ·rw [if_pos e,List.getElem?_range e]; rfl
 ·rw [if_neg e,List.getElem?_eq_none (by simpa using e)]; rfl
theorem aGU (kvs:KVs) (i k:Nat):aWB (aAS kvs) i k=if i < 10/\k < 10 then (vQ kvs (nk i k)).getD 0 else 0:=by
 unfold aWB aAS
 rw [aLI,aLP]
 by_cases hk:k < 10
 ·rw [if_pos hk,aHZ,aLO]
  by_cases hi:i < 10
  ·rw [if_pos hi,if_pos ⟨hi,hk⟩]
  ·rw [if_neg hi,if_neg (fun z=>hi z.1)]
 ·rw [if_neg hk,if_neg (fun z=>hk z.2)]; rfl
theorem aCD {xs:Bd} (h:∀ r∈xs,RowOk r):BoardOk (wY xs):=⟨eBU xs,fun r hr=>h r (aZB hr)⟩
theorem aLZ (kvs:KVs):BoardOk (aAS kvs):=aCD fun r hr=>by
 obtain ⟨k,_,rfl⟩:=List.mem_map.mp hr; exact eDR _
theorem RowOk.nil:RowOk []:=.inl rfl
theorem BoardOk.row {b:Bd} (h:BoardOk b) (k:Nat):RowOk (b.getD k []):=by
 rcases aHS (xs:=b) k with e | e
 ·rw [e]; exact .nil
 ·exact h.2 _ e
theorem aVB {a b:Bd} (ha:BoardOk a) (h:∀ k,a.getD k []=b.getD k []):a.length<=b.length:=by
 rcases ha.1 with e | ⟨ys,r,e,hr⟩
 ·subst e; exact Nat.zero_le _
 ·rcases Nat.lt_or_ge b.length a.length with z | z
  ·have h1:=h ys.length
   have e2:b.getD ys.length []=[]:=by
    rw [List.getD_eq_getElem?_getD,List.getElem?_eq_none (by rw [e] at z; simp at z; omega)]; rfl
   rw [e2,e,List.getD_eq_getElem?_getD,List.getElem?_append_right (Nat.le_refl _),Nat.sub_self] at h1
   exact absurd h1 hr
  ·exact z
theorem eBB {a b:Bd} (ha:BoardOk a) (hb:BoardOk b) (h:∀ i k,aWB a i k=aWB b i k):a=b:=by
 have hr:∀ k,a.getD k []=b.getD k []:=fun k=>eGX (ha.row k) (hb.row k) fun i=>h i k
 have h1:=aVB ha hr
 have h2:=aVB hb fun k=>(hr k).symm
 refine List.ext_getElem (by omega) fun k h3 h4=>?_
 have:=hr k
 rw [List.getD_eq_getElem?_getD,List.getD_eq_getElem?_getD,List.getElem?_eq_getElem h3,List.getElem?_eq_getElem h4] at this
 exact this
theorem aYM (f g:List Int) (i:Nat):(aIQ f g).getD i 0=f.getD i 0+g.getD i 0:=by
 unfold aIQ
 rw [aHZ,aLO]
 by_cases h:i < max f.length g.length
 ·rw [if_pos h]
 ·rw [if_neg h,aJL (show f.length<=i by omega),aJL (show g.length<=i by omega)]; rfl
theorem aTU (f g:List Int):RowOk (aIQ f g):=eDR _
theorem aAB (f g:Bd):BoardOk (aDD f g):=aCD fun r hr=>by
 obtain ⟨k,_,rfl⟩:=List.mem_map.mp hr; exact aTU _ _
theorem aXV (f g:List Int) (ψ:Nat->Int):rs (aIQ f g) ψ=rs f ψ+rs g ψ:=by
 have hl:=aPG f g
 rw [aBS (aIQ f g) (max f.length g.length) ψ hl,aBS f (max f.length g.length) ψ (by omega),aBS g (max f.length g.length) ψ (by omega),<- aHK]
 exact zY _ fun i _=>by rw [aYM,Int.add_mul]
theorem aTJ (c:Int) (h:Nat->Int):∀ n,aBR n (fun i=>c * h i)=c * aBR n h
 | 0=>by simp [aBR]
 | n+1=>by rw [aBR,aTJ c h n,aBR,Int.mul_add]
theorem eED (f g:List Int) (i:Nat) (acc:List Int) (ψ:Nat->Int):∀ j,i+j<=acc.length->rs (inn f g i acc j) ψ=rs acc ψ+aBR j (fun a=>f.getD i 0 * (g.getD a 0 * ψ (i+a)))
 | 0,_=>by simp [inn,aBR]
 | j+1,h=>by
  rw [inn,eEB _ _ _ _ (by rw [aGD]; omega),eED f g i acc ψ j (by omega),aBR]
  have e:(inn f g i acc j).getD (i+j) 0+f.getD i 0 * g.getD j 0 - (inn f g i acc j).getD (i+j) 0=f.getD i 0 * g.getD j 0:=by omega
  rw [e,Int.mul_assoc]; omega
theorem eGV (n:Nat) (ψ:Nat->Int):rs (List.replicate n 0) ψ=0:=by
 have h:∀ i,(List.replicate n (0:Int)).getD i 0=([]:List Int).getD i 0:=fun i=>by
  rw [List.getD_eq_getElem?_getD,List.getElem?_replicate]
  split <;> simp
 rw [eEF h]; rfl
theorem aXW (f g:List Int) (ψ:Nat->Int):∀ i,i<=f.length->rs (aRV f g i) ψ=aBR i (fun j=>f.getD j 0 * rs g (fun a=>ψ (j+a)))
 | 0,_=>by rw [aRV]; exact eGV _ _
 | i+1,h=>by
  rw [aRV,eED _ _ _ _ _ _ (by rw [aMY]; omega),aXW f g ψ i (by omega),aBR,aTJ,aBS g g.length _ (Nat.le_refl _)]
theorem eCB (f g:List Int) (ψ:Nat->Int):rs (aBC f g) ψ=rs f (fun i=>rs g (fun a=>ψ (i+a))):=by
 unfold aBC
 rw [eEF (aHZ _),aXW f g ψ f.length (Nat.le_refl _),aBS f f.length _ (Nat.le_refl _)]
theorem eAX (b:Bd) (φ:Nat->Nat->Int):bs (wY b) φ=bs b φ:=by
 rw [aGW (wY b) b.length φ (aIA b),aGW b b.length φ (Nat.le_refl _)]
 exact zY _ fun k _=>by rw [aLI]
theorem eBA (f g:Bd) (j:Nat) (acc:Bd) (φ:Nat->Nat->Int):∀ k,j+k<=acc.length->bs (aJK f g j acc k) φ=bs acc φ+aBR k (fun c=>rs (aBC (f.getD j []) (g.getD c [])) (fun i=>φ i (j+c)))
 | 0,_=>by simp [aJK,aBR]
 | k+1,h=>by
  rw [aJK,eFY _ _ _ _ (by rw [aHR]; omega),eBA f g j acc φ k (by omega),aBR,aXV]; omega
theorem eJM (φ:Nat->Nat->Int) (n:Nat):bs (List.replicate n []) φ=0:=by
 induction n generalizing φ with
 | zero=>rfl
 | succ n ih=>rw [List.replicate_succ,bs,ih]; rfl
theorem eAZ (f g:Bd) (φ:Nat->Nat->Int):∀ j,j<=f.length->bs (aHQ f g j) φ=aBR j (fun a=>aBR g.length (fun c=>rs (aBC (f.getD a []) (g.getD c [])) (fun i=>φ i (a+c))))
 | 0,_=>by rw [aHQ]; exact eJM _ _
 | j+1,h=>by
  rw [aHQ,eBA _ _ _ _ _ _ (by rw [aHP]; omega),eAZ f g φ j (by omega),aBR]
theorem aXU (f:List Int) (h:Nat->Nat->Int):∀ n,rs f (fun i=>aBR n (fun c=>h i c))=aBR n (fun c=>rs f (fun i=>h i c))
 | 0=>aRP _ (fun _=>rfl) f
 | n+1=>by
  show rs f (fun i=>aBR n (fun c=>h i c)+h i n)=_
  rw [eGW,aXU f h n,aBR]
theorem aDX (f g:Bd) (φ:Nat->Nat->Int):bs (wJ f g) φ=bs f (fun i j=>bs g (fun a c=>φ (i+a) (j+c))):=by
 unfold wJ
 split
 ·rename_i h
  rcases h with h | h
  ·subst h; rfl
  ·subst h
   exact (aSP f (fun i j=>bs [] (fun a c=>φ (i+a) (j+c))) fun _ _=>rfl).symm
 ·rw [eAX,eAZ f g φ f.length (Nat.le_refl _),aGW f f.length _ (Nat.le_refl _)]
  refine zY _ fun j _=>?_
  have e:(fun i:Nat=>bs g (fun a c=>φ (i+a) (j+c)))=fun i=>aBR g.length (fun c=>rs (g.getD c []) (fun a=>φ (i+a) (j+c))):=funext fun i=>aGW g g.length _ (Nat.le_refl _)
  rw [e,aXU]
  exact zY _ fun c _=>eCB _ _ _
def Fit (n:Nat) (b:Bd):Prop:=b.length<=n/\∀ k,(b.getD k []).length<=n
theorem aCZ (f g:Bd):BoardOk (wJ f g):=by
 unfold wJ
 split
 ·exact ⟨.inl rfl,fun _ h=>(nomatch h)⟩
 ·refine aCD ?_
  have h1:∀ j (acc:Bd),(∀ r∈acc,RowOk r)->∀ k,∀ r∈aJK f g j acc k,RowOk r:=by
   intro j acc ha k
   induction k with
   | zero=>exact ha
   | succ k ih=>
    intro r hr
    rw [aJK] at hr
    rcases List.mem_or_eq_of_mem_set hr with h | h
    ·exact ih r h
    ·rw [h]; exact aTU _ _
  have h2:∀ j,∀ r∈aHQ f g j,RowOk r:=by
   intro j
   induction j with
   | zero=>intro r hr; rw [aHQ] at hr; rw [(List.mem_replicate.mp hr).2]; exact .nil
   | succ j ih=>exact h1 j _ ih _
  exact h2 _
theorem eFL {n:Nat} {b:Bd} (hb:BoardOk b) (h:∀ i k,n<=i\/n<=k->aWB b i k=0):Fit n b:=by
 have hr:∀ k,(b.getD k []).length<=n:=fun k=>by
  rcases hb.row k with e | ⟨ys,a,e,ha⟩
  ·rw [e]; exact Nat.zero_le _
  ·rcases Nat.lt_or_ge n (b.getD k []).length with z | z
   ·rw [e,List.length_append,List.length_singleton] at z
    have:=h ys.length k (.inl (by omega))
    unfold aWB at this
    rw [e,List.getD_eq_getElem?_getD,List.getElem?_append_right (Nat.le_refl _),Nat.sub_self] at this
    exact absurd this ha
   ·exact z
 refine ⟨?_,hr⟩
 rcases hb.1 with e | ⟨ys,r,e,hn⟩
 ·rw [e]; exact Nat.zero_le _
 ·rcases Nat.lt_or_ge n b.length with z | z
  ·have hk:b.getD ys.length []=r:=by rw [e,List.getD_eq_getElem?_getD,List.getElem?_append_right (Nat.le_refl _),Nat.sub_self]; rfl
   have hrow:=hb.row ys.length
   rw [hk] at hrow
   rcases hrow with w | ⟨zs,a,w,ha⟩
   ·exact absurd w hn
   ·rw [e,List.length_append,List.length_singleton] at z
    have:=h zs.length ys.length (.inr (by omega))
    unfold aWB at this
    rw [hk,w,List.getD_eq_getElem?_getD,List.getElem?_append_right (Nat.le_refl _),Nat.sub_self] at this
    exact absurd this ha
  ·exact z
def VB (M:Nat) (kvs:KVs):Prop:=∀ p∈kvs,p.2.natAbs<=M
def KIn (n:Nat) (kvs:KVs):Prop:=∀ p∈kvs,∃ i k:Nat,p.1=nk i k/\i < n/\k < n
theorem eCH (kvs:KVs) (k:List Int) (v:Int):(aEO kvs k v).length<=kvs.length+1:=by
 unfold aEO
 split
 ·rw [List.length_map]; omega
 ·rw [List.length_append,List.length_singleton]; omega
theorem KIn.put {n:Nat} {kvs:KVs} (h:KIn n kvs) {i k:Nat} (hi:i < n) (hk:k < n) (v:Int):KIn n (aEO kvs (nk i k) v):=fun p hp=>by
 rcases aTQ hp with e | e
 ·exact ⟨i,k,by rw [e],hi,hk⟩
 ·exact h p e
def BB (M:Nat) (b:Bd):Prop:=∀ i k,(aWB b i k).natAbs<=M
theorem BB.lim {M:Nat} {b:Bd} (h:BB M b) (hM:M < 2 ^ 63):∀ r∈b,∀ y∈r,-(2 ^ 63) < y/\y < 2 ^ 63:=fun r hr y hy=>by
 obtain ⟨k,hk,rfl⟩:=List.getElem_of_mem hr
 obtain ⟨i,hi,rfl⟩:=List.getElem_of_mem hy
 have:=h i k
 unfold aWB at this
 rw [List.getD_eq_getElem?_getD (l:=b),List.getElem?_eq_getElem hk] at this
 have e:(b[k]).getD i 0=b[k][i]:=aNM hi
 have e':((some b[k]).getD []).getD i 0=b[k][i]:=e
 rw [e'] at this
 omega
theorem aSQ {n:Nat} {kvs:KVs} (h:KIn n kvs):Fit n (aAS kvs):=eFL (aLZ kvs) fun i k q=>by
 rw [aGU]
 split
 ·rw [aEX fun p hp e=>?_]
  ·rfl
  ·obtain ⟨a,c,e',h1,h2⟩:=h p hp
   have:=eEX (e'.symm.trans e)
   omega
 ·rfl
theorem Fit.sm {n m:Nat} {b:Bd} (h:Fit n b) (hm:n < m):SmB m b:=⟨Nat.lt_of_le_of_lt h.1 hm,fun r hr=>by
 obtain ⟨k,hk,rfl⟩:=List.getElem_of_mem hr
 have:=h.2 k
 rw [List.getD_eq_getElem?_getD,List.getElem?_eq_getElem hk] at this
 exact Nat.lt_of_le_of_lt this hm⟩
def qO (A B:KVs) (s:Int):KVs:=B.foldl (fun acc q=>aEO acc q.1 ((vQ acc q.1).getD 0+s * q.2)) A
theorem aBI (s:Int) (φ:Nat->Nat->Int):∀ (B A:KVs),KOk A->(∀ p∈B,∃ i k:Nat,p.1=nk i k)->KOk (qO A B s)/\ds (qO A B s) φ=ds A φ+s * ds B φ
 | [],A,h,_=>⟨h,by simp [qO,ds]⟩
 | (k,v) :: B,A,h,hB=>by
  obtain ⟨a,c,e⟩:=hB (k,v) (by simp)
  have e':k=nk a c:=e
  subst e'
  obtain ⟨g1,g2⟩:=aBI s φ B (aEO A (nk a c) ((vQ A (nk a c)).getD 0+s * v)) (h.put _ _ _) fun p hp=>hB p (by simp [hp])
  refine ⟨g1,?_⟩
  show ds (qO (aEO A (nk a c) ((vQ A (nk a c)).getD 0+s * v)) B s) φ=_
  rw [g2,eFV h,ds]
  show ds A φ+((vQ A (nk a c)).getD 0+s * v - (vQ A (nk a c)).getD 0) * φ a c+s * ds B φ=ds A φ+s * (v * φ a c+ds B φ)
  have e1:(vQ A (nk a c)).getD 0+s * v - (vQ A (nk a c)).getD 0=s * v:=by omega
  rw [e1,Int.mul_add,<- Int.mul_assoc]; omega
abbrev aWL (p q:List Int):List Int:=[p.getD 0 0+q.getD 0 0,p.getD 1 0+q.getD 1 0]
def aGB (p:List Int × Int) (acc B:KVs):KVs:=B.foldl (fun acc q=>aEO acc (aWL p.1 q.1) ((vQ acc (aWL p.1 q.1)).getD 0+p.2 * q.2)) acc
def aFG (A B:KVs):KVs:=A.foldl (fun acc p=>aGB p acc B) []
theorem aTA (a c i k:Nat):aWL (nk a c) (nk i k)=nk (a+i) (c+k):=by simp [aWL,nk]
theorem aMR (a c:Nat) (v:Int) (φ:Nat->Nat->Int):∀ (B acc:KVs),KOk acc->(∀ p∈B,∃ i k:Nat,p.1=nk i k)->KOk (aGB (nk a c,v) acc B)/\ds (aGB (nk a c,v) acc B) φ=ds acc φ+v * ds B (fun i k=>φ (a+i) (c+k))/\(aGB (nk a c,v) acc B).length<=acc.length+B.length
 | [],acc,h,_=>⟨h,by simp [aGB,ds],Nat.le_refl _⟩
 | (k,x) :: B,acc,h,hB=>by
  obtain ⟨i,j,e⟩:=hB (k,x) (by simp)
  have e':k=nk i j:=e
  subst e'
  have ea:aWL (nk a c) (nk i j)=nk (a+i) (c+j):=aTA a c i j
  obtain ⟨g1,g2,g3⟩:=aMR a c v φ B (aEO acc (nk (a+i) (c+j)) ((vQ acc (nk (a+i) (c+j))).getD 0+v * x)) (h.put _ _ _) fun p hp=>hB p (by simp [hp])
  have e0:aGB (nk a c,v) acc ((nk i j,x) :: B)=aGB (nk a c,v) (aEO acc (nk (a+i) (c+j)) ((vQ acc (nk (a+i) (c+j))).getD 0+v * x)) B:=by
   show aGB (nk a c,v) (aEO acc (aWL (nk a c) (nk i j)) ((vQ acc (aWL (nk a c) (nk i j))).getD 0+v * x)) B=_
   rw [ea]
  rw [e0]
  refine ⟨g1,?_,?_⟩
  ·rw [g2,eFV h,ds]
   have e1:(vQ acc (nk (a+i) (c+j))).getD 0+v * x - (vQ acc (nk (a+i) (c+j))).getD 0=v * x:=by omega
   have e2:((nk i j).getD 0 0).toNat=i:=by simp
   have e3:((nk i j).getD 1 0).toNat=j:=by simp
   simp only [e2,e3]
   rw [e1,Int.mul_add,<- Int.mul_assoc]; omega
  ·have:=eCH acc (nk (a+i) (c+j)) ((vQ acc (nk (a+i) (c+j))).getD 0+v * x)
   rw [List.length_cons]; omega
theorem aMQ (B:KVs) (hB:∀ p∈B,∃ i k:Nat,p.1=nk i k) (φ:Nat->Nat->Int):∀ (A acc:KVs),KOk acc->(∀ p∈A,∃ i k:Nat,p.1=nk i k)->KOk (A.foldl (fun acc p=>aGB p acc B) acc)/\ds (A.foldl (fun acc p=>aGB p acc B) acc) φ=ds acc φ+ds A (fun i k=>ds B (fun a c=>φ (i+a) (k+c)))/\(A.foldl (fun acc p=>aGB p acc B) acc).length<=acc.length+A.length * B.length
 | [],acc,h,_=>⟨h,by simp [ds],by simp⟩
 | (k,v) :: A,acc,h,hA=>by
  obtain ⟨a,c,e⟩:=hA (k,v) (by simp)
  have e':k=nk a c:=e
  subst e'
  obtain ⟨f1,f2,f3⟩:=aMR a c v φ B acc h hB
  obtain ⟨g1,g2,g3⟩:=aMQ B hB φ A (aGB (nk a c,v) acc B) f1 fun p hp=>hA p (by simp [hp])
  rw [List.foldl_cons]
  refine ⟨g1,?_,?_⟩
  ·rw [g2,f2,ds]
   have e2:((nk a c).getD 0 0).toNat=a:=by simp
   have e3:((nk a c).getD 1 0).toNat=c:=by simp
   simp only [e2,e3]; omega
  ·rw [List.length_cons,Nat.succ_mul]; omega
theorem aYD {A B:KVs} (hA:KOk A) (hB:KOk B):KOk (aFG A B):=(aMQ B hB.keys (fun _ _=>0) A [] .nil hA.keys).1
theorem aSJ {A B:KVs} (hA:KOk A) (hB:KOk B) (φ:Nat->Nat->Int):ds (aFG A B) φ=ds A (fun i k=>ds B (fun a c=>φ (i+a) (k+c))):=by
 have:=(aMQ B hB.keys φ A [] .nil hA.keys).2.1
 rw [show ds [] φ=0 from rfl,Int.zero_add] at this
 exact this
theorem aNU {φ χ:Nat->Nat->Int} (kvs:KVs) (h:∀ i k,φ i k=χ i k):ds kvs φ=ds kvs χ:=by
 rw [show φ=χ from funext fun i=>funext fun k=>h i k]
theorem aVG {X:Cx} {c:Expr} {body:List Stmt} (R:Bd->Rho) (h1:EvT X (R []) c false) (h2:∀ ys a,EvT X (R (ys++[a])) c (decide (a=[]))) (h3:∀ ys a,EvSs X (R (ys++[a])) body (.nx (R ys))) :
  ∀ (n:Nat) (ys:Bd),ys.length=n->∃ m,WRun X c body m (R ys) (.nx (R (wY ys))):=by
 intro n
 induction n with
 | zero=>intro ys e; rw [List.eq_nil_of_length_eq_zero e]; exact ⟨0,.stop h1⟩
 | succ n ih=>
  intro ys e
  rcases List.eq_nil_or_concat ys with z | ⟨zs,a,z⟩
  ·rw [z] at e; cases e
  ·rw [List.concat_eq_append] at z
   subst z
   by_cases ha:a=[]
   ·obtain ⟨m,q⟩:=ih zs (by simpa using e)
    refine ⟨m+1,.step (EvT.eq (h2 zs a) (decide_eq_true ha)) (h3 zs a) ?_⟩
    rw [ha,aBO]; exact q
   ·refine ⟨0,?_⟩
    rw [aBP zs ha]
    exact .stop (EvT.eq (h2 zs a) (decide_eq_false ha))
def eLB (kvs:KVs) (k:Nat):List Int:=aAA ((List.range 10).map fun i=>(vQ kvs (nk i k)).getD 0)
def vP (ds:List D) (d:D):Prop:=∃ kvs:KVs,ds=[.dic kvs]/\d=yO (aAS kvs)
theorem aGC:∀ ds d,vP ds d->ds.length=1:=by rintro _ _ ⟨a,rfl,_⟩; rfl
def jE (ds:List D) (kvs:KVs):Prop:=∃ A B:KVs,ds=[.dic A,.dic B]/\KOk A/\KOk B/\A.length<=1000/\B.length<=1000/\VB (2 ^ 63) B/\kvs=aFG A B
theorem aHD:∀ ds d,jE ds d->ds.length=2:=by rintro _ _ ⟨a,b,rfl,_⟩; rfl
def aAI (ds:List D) (d:D):Prop:=∃ b:Bd,ds=[yO b]/\SmB 1000 b/\d = .bl true
theorem aJH:∀ ds d,aAI ds d->ds.length=1:=by rintro _ _ ⟨a,rfl,_⟩; rfl
theorem aJX (h:DefX P w K mg base k N__law_board_of (yC yZ) X) (m_range:mg "range" = none) (m_tuple:mg "tuple" = none) (m_len:mg "len" = none) (c1:Callee X "_law_trim" aCS) :
  ∀ ds d,vP ds d->EvSs X (ds.map Sl.val++List.replicate (N__law_board_of.length - ds.length) Sl.un) (yF yZ) (.rt d):=by
 rintro ds d ⟨kvs,rfl,rfl⟩
 have t:=h.at'
 haveI:=h.fnT
 have b1:Blt X (yC yZ) "range" (.type "range"):=yP (by rw [h.mg']; exact m_range)
 have b2:Blt X (yC yZ) "tuple" (.type "tuple"):=yP (by rw [h.mg']; exact m_tuple)
 have b3:Blt X (yC yZ) "len" (.builtin "len"):=yP (by rw [h.mg']; exact m_len)
 show EvSs X [.val (.dic kvs),.un,.un] _ _
 refine yG (aFE t 1 (yQ yE)) ?_
 refine yG (ρ':=[.val (.dic kvs),.own (((List.range 10).map (eLB kvs)).map jC),.un]) (aCW t (jT t b1 yD (by decide) (by decide)) (FRun.uptoE (fun i=>[.val (.dic kvs),.own (((List.range i).map (eLB kvs)).map jC),.un]) (fun i d hi=>?_) rfl ?_)) ?_
 ·obtain ⟨hin,rfl⟩:=aAL hi
  refine ⟨_,zA t 2,EvSs.weak (yJ (aHM t 1 rfl (d:=jC (eLB kvs i)) (yU t c1 (yB (d:=jA ((List.range 10).map fun j=>(vQ kvs (nk j i)).getD 0)) (EvE.eq (EvN.toE (aDL (rs:=(List.range 10).map fun j=>D.int ((vQ kvs (nk j i)).getD 0)) t (N__law_board_of++[("_law_i" : Str)]) (csc (by decide +kernel)) (jT t b1 yD (by decide) (by decide)) (by decide) fun X' cx=>?_)) (by show D.lst _=D.lst _; rw [List.map_map]; rfl)) yE) ⟨_,rfl,by simp,rfl⟩) ?_)) ?_⟩
  ·exact CRun.gen (fun (j:Nat)=>D.int (0+(j:Int))) _ (fun (j:Nat)=>[.val (.dic kvs),.own (((List.range i).map (eLB kvs)).map jC),.val (.int (i:Int)),.val (.int (j:Int))]) _ _ (fun x hx=>by rw [Int.zero_add]; exact qN cx.at' 3) (fun x hx y hy=>by rw [Int.zero_add]; exact qN cx.at' 3) fun x hx=>
    aSG (k:=nk x i) (n0:=0) cx.at' (EvE.dr (yA cx.at' 0 rfl)) (yB (yM (yB (yA cx.at' 3 rfl) (yB (yA cx.at' 2 rfl) yE))) (yB yD yE))
  ·rw [List.length_map,List.length_map,List.length_range]; exact aMC (by simp at hin; omega)
  ·rw [List.range_succ,List.map_append,List.map_append]
   exact .keep (.keep (.forget .nil))
 ·rfl
 refine yG (aIJ t (aVG (fun ys=>[.val (.dic kvs),.own (ys.map jC),.un]) ?_ (fun ys a=>?_) (fun ys a=>?_) _ ((List.range 10).map (eLB kvs)) rfl)) (yJ (zO (aDV t b2 (aBD t 1 rfl))))
 ·exact EvW.toT (aET (aLX t (EvQ.p (aBD t 1 rfl)) (EvE.p (EvN.toE (yQ yE))) (vV []) (vV []) (by have:=aSI [] []; exact congrArg not this)))
 ·refine EvW.toT (aDH (aLX t (EvQ.p (aBD t 1 rfl)) (EvE.p (EvN.toE (yQ yE))) ((eIK (ys++[a])).sh (by decide)) (vV []) ?_) (aGE (aBW t (EvE.p (d:=jC a) (zB (aBD t 1 rfl) (aCV (vF t b3 (aBD t 1 rfl)) yD) ?_)) (EvE.p (d:=jC []) (yM yE)) (zG _) (zG _) (aEV _ _))))
  ·show (!(PyData.list (toPs ((ys++[a]).map jC))).eqv (.list (toPs [])))=true
   rw [aTG]
   cases ys with
   | nil=>simp [toPs,PyData.eqv,PyData.eqvAll]
   | cons r ys=>simp [toPs,PyData.eqv,PyData.eqvAll]
  ·rw [List.length_map,aVC (g:=jC) (n:=ys.length) (by simp) (by simp) (by simp)]
   simp
 ·refine EvSs.eq (yJ (eKX t 1 rfl (by simp))) ?_
  rw [List.map_append]
  have e:(ys.map jC++[a].map jC).dropLast=ys.map jC:=by simp
  rw [e]; rfl
theorem aJW (h:DefX P w K mg base k N__law_product (yC qI) X) :
  ∀ ds d,jE ds d->aRC X (ds.map Sl.val++List.replicate (N__law_product.length - ds.length) Sl.un) (yF qI) d:=by
 rintro ds d ⟨A,B,rfl,hA,hB,lA,lB,vB,rfl⟩
 have t:=h.at'
 haveI:=h.fnT
 show aRC X [.val (.dic A),.val (.dic B),.un,.un,.un,.un,.un] _ _
 refine aHV (eDY t 2 eAI) ?_
 refine aHV (ρ':=[.val (.dic A),.val (.dic B),.dct (aFG A B),.un,.un,.un,.un]) (aCW t (eAG (yA t 0 rfl)) (FRun.uptoE (fun i=>[.val (.dic A),.val (.dic B),.dct ((A.take i).foldl (fun acc p=>aGB p acc B) []),.un,.un,.un,.un]) (fun i d hi=>?_) rfl ?_)) (eAD t 2 rfl)
 ·rw [List.getElem?_map] at hi
  cases hp:A[i]? with
  | none=>rw [hp] at hi; cases hi
  | some p=>
  rw [hp] at hi; cases hi
  obtain ⟨key,v⟩:=p
  have hm:(key,v)∈A:=List.mem_of_getElem? hp
  obtain ⟨a,c,e⟩:=hA.keys _ hm
  have e':key=nk a c:=e
  subst e'
  have hv:=aEY hA.nd hm
  have hilt:i < A.length:=(List.getElem?_eq_some_iff.mp hp).1
  obtain ⟨f1,_,f3⟩:=aMQ B hB.keys (fun _ _=>0) (A.take i) [] .nil (fun p hp=>hA.keys p (List.mem_of_mem_take hp))
  have f3':((A.take i).foldl (fun acc p=>aGB p acc B) []).length<=1000 * 1000:=by
   have h1:(A.take i).length<=1000:=by rw [List.length_take]; omega
   have h2:=Nat.mul_le_mul h1 lB
   have h3:([]:KVs).length=0:=rfl
   omega
  have et:A.take (i+1)=A.take i++[(nk a c,v)]:=aDA hp
  refine ⟨_,aGF t 3 4,EvSs.weak (ρ1:=[.val (.dic A),.val (.dic B),.dct ((A.take (i+1)).foldl (fun acc p=>aGB p acc B) []),.val (.int a),.val (.int c),.un,.un]) (yJ (aCW t (eAG (yA t 1 rfl))
   (FRun.uptoE (fun j=>[.val (.dic A),.val (.dic B),.dct (aGB (nk a c,v) ((A.take i).foldl (fun acc p=>aGB p acc B) []) (B.take j)),.val (.int a),.val (.int c),.un,.un]) (fun j d hj=>?_) rfl ?_))) (.keep (.keep (.keep (.forget (.forget (.keep (.keep .nil)))))))⟩
  ·rw [List.getElem?_map] at hj
   cases hq:B[j]? with
   | none=>rw [hq] at hj; cases hj
   | some q=>
   rw [hq] at hj; cases hj
   obtain ⟨key2,v2⟩:=q
   have hm2:(key2,v2)∈B:=List.mem_of_getElem? hq
   obtain ⟨a2,c2,e⟩:=hB.keys _ hm2
   have e':key2=nk a2 c2:=e
   subst e'
   have hv2:=aEY hB.nd hm2
   have hb2:=vB _ hm2
   have hb3:v2.natAbs<=2 ^ 63:=hb2
   have et2:B.take (j+1)=B.take j++[(nk a2 c2,v2)]:=aDA hq
   obtain ⟨_,_,g3⟩:=aMR a c v (fun _ _=>0) (B.take j) _ f1 (fun p hp=>hB.keys p (List.mem_of_mem_take hp))
   have g4:(B.take j).length<=1000:=by rw [List.length_take]; omega
   refine ⟨_,aGF t 5 6,EvSs.weak (yJ (eBY t (jI (aSG (k:=aWL (nk a c) (nk a2 c2)) (n0:=0) t (eFS t 2 rfl) (yB (yM (yB (jI (yA t 3 rfl) (yA t 5 rfl)) (yB (jI (yA t 4 rfl) (yA t 6 rfl)) yE))) (yB yD yE)))
    (aBE (aZX (k:=nk a c) t (EvE.dr (yA t 0 rfl)) (yM (yB (yA t 3 rfl) (yB (yA t 4 rfl) yE))) hv) (aZX (k:=nk a2 c2) t (EvE.dr (yA t 1 rfl)) (yM (yB (yA t 5 rfl) (yB (yA t 6 rfl) yE))) hv2) (wP (by omega) (by omega))))
    (eAH (k:=aWL (nk a c) (nk a2 c2)) t 2 rfl (yM (yB (jI (yA t 3 rfl) (yA t 5 rfl)) (yB (jI (yA t 4 rfl) (yA t 6 rfl)) yE))) (by rw [aZH]; omega)))) ?_⟩
   rw [et2,show aGB (nk a c,v) ((A.take i).foldl (fun acc p=>aGB p acc B) []) (B.take j++[(nk a2 c2,v2)])=_ from List.foldl_append]
   exact .keep (.keep (.keep (.keep (.keep (.forget (.forget .nil))))))
  ·rw [List.length_map,List.take_length,et,List.foldl_append]; rfl
 ·rw [List.length_map,List.take_length]; rfl
theorem aOF (h:DefX P w K mg base k N__law_formed (yC zI) X) (m_isinstance:mg "isinstance" = none) (m_tuple:mg "tuple" = none) (m_all:mg "all" = none) (m_int:mg "int" = none) (m_bool:mg "bool" = none) :
  ∀ ds d,aAI ds d->EvSs X (ds.map Sl.val++List.replicate (N__law_formed.length - ds.length) Sl.un) (yF zI) (.rt d):=by
 rintro ds d ⟨b,rfl,hb,rfl⟩
 have t:=h.at'
 haveI:=h.fnT
 have b1:Blt X (yC zI) "isinstance" (.builtin "isinstance"):=yP (by rw [h.mg']; exact m_isinstance)
 have b2:Blt X (yC zI) "tuple" (.type "tuple"):=yP (by rw [h.mg']; exact m_tuple)
 have b3:Blt X (yC zI) "all" (.builtin "all"):=yP (by rw [h.mg']; exact m_all)
 show EvSs X [.val (yO b),.un] _ _
 refine yG (wM (EvW.toT (aDG (EvT.eq (aLW (aHF (aEI (d:=yO b) t b1 b2 (yA t 0 rfl) rfl))) rfl) (aFO (EvT.eq (aLW (aHF (eAA (bs:=b.map fun _=>true) t b3 (EvN.toQ (EvN.eq (aDL (rs:=b.map fun _=>D.bl true) t ["_law_found", "", "_law_row"] (csc (by decide +kernel)) (aQC (yA t 0 rfl)) (by rw [List.length_map]; exact aMC hb.1) fun X' cx=>?_) ?_))))) ?_)))) qQ) ?_
 ·have t':=cx.at'
  exact CRun.gen jC (fun _=>.bl true) (fun x=>[.val (yO b),.un,.val (jC x)]) b _ (fun d hd=>qN t' 2) (fun d hd e he=>qN t' 2) fun d hd=>aEI (d:=jC d) t' (yP (by rw [cx.mg',h.mg']; exact m_isinstance)) (yP (by rw [cx.mg',h.mg']; exact m_tuple)) (yA t' 2 rfl) rfl
 ·rw [List.map_map]; rfl
 ·have e:(b.map fun _=>true).all id=true:=by simp
  rw [e]; rfl
 refine yG (ρ':=[.val (yO b),.un]) (aCW t (aQC (yA t 0 rfl)) (FRun.same _ _ fun d hd=>?_)) (yJ (zO eNP))
 obtain ⟨r,hr,rfl⟩:=List.mem_map.mp hd
 refine ⟨_,zA t 1,EvSs.weak (yJ (wM (EvT.eq (aLW (aHF (eAA (bs:=r.map fun _=>true) t b3 (EvN.toQ (EvN.eq (aDL (rs:=r.map fun _=>D.bl true) t ["_law_found", "_law_row", "_law_part"] (csc (by decide +kernel)) (aQC (yA t 1 rfl)) (by rw [List.length_map]; exact aMC (hb.2 r hr)) fun X' cx=>?_) ?_))))) ?_) qQ)) (.keep (.forget .nil))⟩
 ·have t':=cx.at'
  exact CRun.gen D.int (fun _=>.bl true) (fun x=>[.val (yO b),.val (jC r),.val (.int x)]) r _ (fun d hd=>qN t' 2) (fun d hd e he=>qN t' 2) fun d hd=>aZZ (aEI (d:=.int d) t' (yP (by rw [cx.mg',h.mg']; exact m_isinstance)) (yP (by rw [cx.mg',h.mg']; exact m_int)) (yA t' 2 rfl) rfl) (eFO (eIS (aEI (d:=.int d) t' (yP (by rw [cx.mg',h.mg']; exact m_isinstance)) (yP (by rw [cx.mg',h.mg']; exact m_bool)) (yA t' 2 rfl) rfl)))
 ·rw [List.map_map]; rfl
 ·have e:(r.map fun _=>true).all id=true:=by simp
  rw [e]; rfl
end
end My
namespace My
open PySem L2 L2.EV PyProof.Rows
def FIG:Str := "0123456789"
def eJQ (w:List Nat):Prop:=w≠[]/\(∀ c∈w,48<=c/\c<=57)/\w.length<=12/\(w.head? = some 48->w=[48])
def RunW (w:List Nat):Prop:=eJQ w\/w=[120]\/w=[121]
theorem eFM:∀ c:Nat,48<=c->c<=57->(!(Builtin.Str.occurrences FIG (S [c]) 0 FIG.length 1).isEmpty)=true:=fun c h1 h2=>by
 have:∀ c:Nat,c < 58->48<=c->(!(Builtin.Str.occurrences FIG (S [c]) 0 FIG.length 1).isEmpty)=true:=by decide +kernel
 exact this c (by omega) h1
theorem eQN:(!(Builtin.Str.occurrences FIG (S [120]) 0 FIG.length 1).isEmpty)=false:=by decide +kernel
theorem eQM:(!(Builtin.Str.occurrences FIG (S [121]) 0 FIG.length 1).isEmpty)=false:=by decide +kernel
theorem eOH:∀ c:Nat,48<=c->c<=57->al c=true:=fun c h1 h2=>by
 have:∀ c:Nat,c < 58->48<=c->al c=true:=by decide +kernel
 exact this c (by omega) h1
theorem eSY:al 120=true:=by decide +kernel
theorem eSX:al 121=true:=by decide +kernel
theorem RunW.lt {w:List Nat} (h:RunW w):∀ c∈w,c < 128:=by
 rcases h with h | rfl | rfl
 ·intro c hc; have:=h.2.1 c hc; omega
 ·intro c hc; simp at hc; omega
 ·intro c hc; simp at hc; omega
theorem RunW.al {w:List Nat} (h:RunW w):∀ c∈w,al c=true:=by
 rcases h with h | rfl | rfl
 ·intro c hc; have:=h.2.1 c hc; exact eOH c this.1 this.2
 ·intro c hc; simp at hc; subst hc; exact eSY
 ·intro c hc; simp at hc; subst hc; exact eSX
theorem RunW.ne {w:List Nat} (h:RunW w):w≠[]:=by
 rcases h with h | rfl | rfl
 ·exact h.1
 ·simp
 ·simp
theorem RunW.len {w:List Nat} (h:RunW w):w.length<=12:=by
 rcases h with h | rfl | rfl
 ·exact h.2.2.1
 ·simp
 ·simp
theorem sl1 {n:Nat} (h:n<=2000):n<=sizeLine:=Nat.le_trans h (Nat.le_of_ble_eq_true rfl)
theorem sl2 {cs:List Nat} (h:cs.length<=2000):(S cs).length<=sizeLine:=by rw [wV]; exact sl1 h
def aCR (ds:List D) (d:D):Prop:=∃ w:List Nat,ds=[.str (S w)]/\RunW w/\((eJQ w/\d = .bl true)\/((w=[120]\/w=[121])/\d = .bl false))
theorem aNF:∀ ds d,aCR ds d->ds.length=1:=by rintro _ _ ⟨a,rfl,_⟩; rfl
def aBH (ds:List D) (d:D):Prop:=∃ pre w post:List Nat,ds=[.str (S (pre++w++post)),.int pre.length]/\(∀ c∈w,al c=true)/\(∀ c,post.head? = some c->al c=false)/\(pre++w++post).length<=2000/\d = .int ((pre.length:Int)+(w.length:Int))
theorem aKX:∀ ds d,aBH ds d->ds.length=2:=by rintro _ _ ⟨a,b,c,rfl,_⟩; rfl
def jJ (ds:List D) (d:D):Prop:=∃ w:List Nat,ds=[.str (S w)]/\RunW w/\d = .non
theorem aEA:∀ ds d,jJ ds d->ds.length=1:=by rintro _ _ ⟨a,rfl,_⟩; rfl
def eGD:PyData:=.tuple [.str "x",.str "y",.str "not",.str "and",.str "or",.str "some",.str "all"]
section
variable {P:Program} {w:World} {K:PySem.W.Frag} {mg:Str->Option Value} {base:Heap} {k:Nat} {X:Cx}
theorem aLM [FnT X] {ρ:Rho} {e:Expr} {x:Str} {pos pos':Pos} {N:List Str} {sc:Scope} (t:At X N sc) (i:Nat) {n m v:Int} (hr:ρ[i]? = some (.val (.int n))) (h:EvE X ρ e (.int m)) (hv:v=n+m) (hi:N[i]? = some x:=by rfl) (hx:aRB sc x=true:=by rfl) :
  EvS X ρ (.AugAssign (.Name x pos') .Add e pos) (.nx (ρ.set i (.val (.int v)))):=by subst hv; exact eBX t i hr h hi hx
theorem aSW (h:DefX P w K mg base k N_is_number (yC jM) X) (gF:∃ tk,mg "FIGURES" = some (.str FIG tk)) :
  ∀ ds d,aCR ds d->EvSs X (ds.map Sl.val++List.replicate (N_is_number.length - ds.length) Sl.un) (yF jM) (.rt d):=by
 rintro ds r ⟨w',rfl,hw,hd⟩
 have t:=h.at'
 have gF':∃ tk,X.mg "FIGURES" = some (.str FIG tk):=by rw [h.mg']; exact gF
 obtain ⟨c,cs,rfl⟩:∃ c cs,w' = c :: cs:=by
  cases w' with
  | nil=>exact absurd rfl hw.ne
  | cons c cs=>exact ⟨c,cs,rfl⟩
 have hl:=hw.len
 show EvSs X [.val (.str (S (c :: cs)))] _ _
 have hq:(!(S (c :: cs) == ("" : Str)))=true:=by
  have hn:S (c :: cs)≠S []:=fun e=>by have:=aBM e; cases this
  have e0:("" : Str)=S []:=by decide +kernel
  rw [e0]
  simpa using hn
 have hin:∀ (u:Bool),(!(Builtin.Str.occurrences FIG (S [c]) 0 FIG.length 1).isEmpty)=u->EvSs X [.val (.str (S (c :: cs)))] (yF jM) (.rt (.bl u)):=fun u hu=>
  yJ (zO (EvE.eq (eIX (v:=u) (eNM (r:=true) t (yA t 0 rfl).p ev_str.p (aED (aKA hw.lt)) (aED (by decide +kernel)) hq) fun _=>eFQ (vR (c:=c) (yA t 0 rfl) yD (sl2 (by omega)) (by rw [aCL]; exact jR (j:=0) rfl)) (aNN t gF') hu) (by rw [Bool.true_and])))
 rcases hd with ⟨hn,rfl⟩ | ⟨e,rfl⟩
 ·have:=hn.2.1 c (by simp)
  exact hin true (eFM c this.1 this.2)
 ·refine hin false ?_
  rcases e with e | e
  ·cases e; exact eQN
  ·cases e; exact eQM
theorem aQY (h:DefX P w K mg base k N_end_of_run (yC qT) X) (m_len:mg "len" = none) :
  ∀ ds d,aBH ds d->EvSs X (ds.map Sl.val++List.replicate (N_end_of_run.length - ds.length) Sl.un) (yF qT) (.rt d):=by
 rintro ds r ⟨pre,u,post,rfl,hu,hp,hz,rfl⟩
 have t:=h.at'
 haveI:=h.fnT
 have b1:Blt X (yC qT) "len" (.builtin "len"):=yP (by rw [h.mg']; exact m_len)
 show EvSs X [.val (.str (S (pre++u++post))),.val (.int pre.length),.un] _ _
 refine yG (zK t 2 (yA t 1 rfl)) ?_
 refine aQB t (fun i:Nat=>[.val (.str (S (pre++u++post))),.val (.int pre.length),.val (.int ((pre.length:Int)+(i:Int)))]) (fun i=>i<=u.length) (fun i=>i=u.length) (fun i=>u.length - i) 0 (Nat.zero_le _) (fun i hi=>?_) (fun i hi=>?_)
 ·by_cases e:i < u.length
  ·obtain ⟨u1,c,u2,rfl,rfl⟩:∃ u1 c u2,u=u1++c :: u2/\i=u1.length:=⟨u.take i,u[i],u.drop (i+1),by simp,by simp; omega⟩
   refine .inr ⟨?_,.inr ⟨u1.length+1,?_,by simp,by simp; omega⟩⟩
   ·refine EvT.eq (aBL (aBV (yA t 2 rfl) (aAN t b1 (yA t 0 rfl) (sl2 hz))) fun _=>aHF (aDW (vR (c:=c) (yA t 0 rfl) (yA t 2 rfl) (sl2 hz) ?_))) ?_
    ·have:=eGE (pre:=pre++u1) (post:=u2++post) (c:=c)
     simpa using this
    ·rw [wV,show (⟨#[c]⟩:Str)=S [c] from rfl,eOV,hu c (by simp),Bool.and_true,decide_eq_true_eq]
     simp; omega
   ·exact yJ (aLM t 2 rfl yD (by simp; omega))
  ·have hi':i=u.length:=by omega
   subst hi'
   refine .inl ⟨?_,rfl⟩
   cases post with
   | nil=>exact EvT.eq (aBL (v:=true) (aBV (yA t 2 rfl) (aAN t b1 (yA t 0 rfl) (sl2 hz))) fun z=>by rw [wV,decide_eq_true_eq] at z; simp at z) (by rw [wV,Bool.and_true,decide_eq_false_iff_not]; simp)
   | cons c post=>
    refine EvT.eq (aBL (aBV (yA t 2 rfl) (aAN t b1 (yA t 0 rfl) (sl2 hz))) fun _=>aHF (aDW (vR (c:=c) (yA t 0 rfl) (yA t 2 rfl) (sl2 hz) ?_))) ?_
    ·have:=eGE (pre:=pre++u) (post:=post) (c:=c)
     simpa using this
    ·rw [show (⟨#[c]⟩:Str)=S [c] from rfl,eOV,hp c rfl,Bool.and_false]
 ·subst hi
  exact yJ (zO (yA t 2 rfl))
theorem eGG {w:List Nat} (h:eJQ w):([PyData.str "x",.str "y",.str "not",.str "and",.str "or",.str "some",.str "all"].any fun y=>PyData.eqv y (.str (S w)))=false:=by
 obtain ⟨c,cs,rfl⟩:∃ c cs,w=c :: cs:=by
  cases w with
  | nil=>exact absurd rfl h.1
  | cons c cs=>exact ⟨c,cs,rfl⟩
 have hc:=h.2.1 c (by simp)
 have ne:∀ (d:Nat) (ds:List Nat),57 < d->(S (d :: ds) == S (c :: cs))=false:=fun d ds hd=>by
  rw [beq_eq_false_iff_ne]
  intro e
  have:=aBM e
  cases this
  omega
 show ((("x" : Str) == S (c :: cs)) || ((("y" : Str) == S (c :: cs)) || ((("not" : Str) == S (c :: cs)) || ((("and" : Str) == S (c :: cs)) || ((("or" : Str) == S (c :: cs)) || ((("some" : Str) == S (c :: cs)) || ((("all" : Str) == S (c :: cs)) || false)))))))=false
 rw [show ("x" : Str)=S [120] by decide +kernel,show ("y" : Str)=S [121] by decide +kernel,show ("not" : Str)=S [110,111,116] by decide +kernel,show ("and" : Str)=S [97,110,100] by decide +kernel,show ("or" : Str)=S [111,114] by decide +kernel,show ("some" : Str)=S [115,111,109,101] by decide +kernel,show ("all" : Str)=S [97,108,108] by decide +kernel]
 rw [ne _ _ (by omega),ne _ _ (by omega),ne _ _ (by omega),ne _ _ (by omega),ne _ _ (by omega),ne _ _ (by omega),ne _ _ (by omega)]
 rfl
theorem aFQ (h:DefX P w K mg base k N_refuse_wrong_run (yC yS) X) (m_all:mg "all" = none) (m_len:mg "len" = none) (gW:Glb mg K "WORDS" eGD) (gF:∃ tk,mg "FIGURES" = some (.str FIG tk)) :
  ∀ ds d,jJ ds d->EvSs X (ds.map Sl.val++List.replicate (N_refuse_wrong_run.length - ds.length) Sl.un) (yF yS) (.rt d)\/(d = .non/\∃ ρ',EvSs X (ds.map Sl.val++List.replicate (N_refuse_wrong_run.length - ds.length) Sl.un) (yF yS) (.nx ρ')):=by
 rintro ds r ⟨u,rfl,hu,rfl⟩
 have t:=h.at'
 obtain ⟨l,gm,gk⟩:=gW
 have gm':X.mg "WORDS" = some (.ref l):=by rw [h.mg']; exact gm
 have gk':GP X.K (.ref l) eGD:=by rw [h.k']; exact gk
 have gF':∃ tk,X.mg "FIGURES" = some (.str FIG tk):=by rw [h.mg']; exact gF
 have b1:Blt X (yC yS) "all" (.builtin "all"):=yP (by rw [h.mg']; exact m_all)
 have b2:Blt X (yC yS) "len" (.builtin "len"):=yP (by rw [h.mg']; exact m_len)
 have hz:(S u).length<=sizeLine:=sl2 (Nat.le_trans hu.len (by decide))
 have cw:PyData.canLayAll0 [PyData.str "x",.str "y",.str "not",.str "and",.str "or",.str "some",.str "all"]=true:=by decide +kernel
 have ok:=aKA hu.lt
 have lt:=hu.lt
 rcases hu with hn | hx
 ·refine .inr ⟨rfl,[.val (.str (S u))],?_⟩
  show EvSs X [.val (.str (S u))] _ _
  refine yG (wM (eAB t (yA t 0 rfl).p (aNO t gm' gk') (aAR ok) (vK _) cw (eGG hn)) qQ) (yJ (wM ?_ qQ))
  obtain ⟨c,cs,rfl⟩:∃ c cs,u=c :: cs:=by
   cases u with
   | nil=>exact absurd rfl hn.1
   | cons c cs=>exact ⟨c,cs,rfl⟩
  refine EvT.eq (eNQ (u:=false) (v:=false) (w:=false) (EvT.eq (aLW (aHF (eAA (bs:=(S (c :: cs)).cps.toList.map fun _=>true) t b1 (EvN.toQ (EvN.eq (aDL (rs:=(S (c :: cs)).cps.toList.map fun _=>D.bl true) t ["run", "sign"] (csc (by decide +kernel)) (eNW (yA t 0 rfl) (eQU lt)) (by unfold sgn; rw [List.length_map,aCL]; exact aMC (by have:=hn.2.2.1; omega)) fun X' cx=>?_) ?_))))) ?_) (fun _=>EvT.eq (aEB (aAN t b2 (yA t 0 rfl) hz) yD) ?_) fun _ _=>?_) rfl
  ·exact CRun.gen (fun c=>D.str ⟨#[c]⟩) _ (fun x=>[.val (.str (S (c :: cs))),.val (.str ⟨#[x]⟩)]) _ _ (fun x hx=>qN cx.at' 1) (fun x hx y hy=>qN cx.at' 1) fun x hx=>eFQ (yA cx.at' 1 rfl) (aNN cx.at' (by rw [cx.mg']; exact gF')) (by
    rw [aCL] at hx
    exact eFM x (hn.2.1 x hx).1 (hn.2.1 x hx).2)
  ·rw [List.map_map]; rfl
  ·simp
  ·rw [wV,decide_eq_false_iff_not]; have:=hn.2.2.1; omega
  ·refine EvT.eq (aBL (jP t (vR (c:=c) (yA t 0 rfl) yD hz (by rw [aCL]; exact jR (j:=0) rfl)) ev_str (aKA (cs:=[c]) fun x hx=>lt x (by simp at hx; simp [hx]))) fun z=>aLX t (yA t 0 rfl).p ev_str.p (aED ok) (aED (by decide +kernel)) (r:=false) ?_) (by simp)
   have z0:c=48:=by
    rw [decide_eq_true_eq,show ("0" : Str)=S [48] by decide +kernel] at z
    have:=aBM (a:=[c]) z
    cases this; rfl
   subst z0
   have:=hn.2.2.2 rfl
   rw [this]
   decide +kernel
 ·refine .inl ?_
  show EvSs X [.val (.str (S u))] _ _
  exact aBX (aBJ (eAB t (yA t 0 rfl).p (aNO t gm' gk') (aAR ok) (vK _) cw (by rcases hx with rfl | rfl <;> decide +kernel)) (yJ eKW))
def aDY (ds:List D) (d:D):Prop:=∃ pre post:List Nat,(∃ u,ds=[.str (S (pre++u++post)),.int pre.length]/\RunW u/\(∀ c,post.head? = some c->al c=false)/\(pre++u++post).length<=2000/\d = .str (S u)) \/
 ∃ c,ds=[.str (S (pre++c :: post)),.int pre.length]/\al c=false/\(∀ x∈c :: post,x < 128)/\c≠60/\c≠62/\c≠33/\(pre++c :: post).length<=2000/\d = .str (S [c])
theorem aPS:∀ ds d,aDY ds d->ds.length=2:=by rintro _ _ ⟨a,b,⟨c,rfl,_⟩ | ⟨c,rfl,_⟩⟩ <;> rfl
def eRP:PyData:=.tuple [.str "<=",.str ">=",.str "!="]
theorem eNZ {c:Nat} {cs:List Nat} (h1:c≠60) (h2:c≠62) (h3:c≠33):([PyData.str "<=",.str ">=",.str "!="].any fun y=>PyData.eqv y (.str (S (c :: cs))))=false:=by
 have ne:∀ (d:Nat) (ds:List Nat),d≠c->(S (d :: ds) == S (c :: cs))=false:=fun d ds hd=>by
  rw [beq_eq_false_iff_ne]
  intro e
  have:=aBM e
  cases this
  exact hd rfl
 show ((("<=" : Str) == S (c :: cs)) || (((">=" : Str) == S (c :: cs)) || ((("!=" : Str) == S (c :: cs)) || false)))=false
 rw [show ("<=" : Str)=S [60,61] by decide +kernel,show (">=" : Str)=S [62,61] by decide +kernel,show ("!=" : Str)=S [33,61] by decide +kernel]
 rw [ne _ _ (Ne.symm h1),ne _ _ (Ne.symm h2),ne _ _ (Ne.symm h3)]
 rfl
theorem aWI (h:DefX P w K mg base k N_token_at (yC vW) X) (c1:Callee X "refuse_wrong_run" jJ) (c2:Callee X "end_of_run" aBH) (gD:Glb mg K "DOUBLE_SIGNS" eRP) :
  ∀ ds d,aDY ds d->EvSs X (ds.map Sl.val++List.replicate (N_token_at.length - ds.length) Sl.un) (yF vW) (.rt d):=by
 rintro ds r ⟨pre,post,⟨u,rfl,hu,hp,hz,rfl⟩ | ⟨c,rfl,hc,ha,h1,h2,h3,hz,rfl⟩⟩
 ·have t:=h.at'
  haveI:=h.fnT
  show EvSs X [.val (.str (S (pre++u++post))),.val (.int pre.length),.un] _ _
  obtain ⟨c,cs,rfl⟩:∃ c cs,u=c :: cs:=by
   cases u with
   | nil=>exact absurd rfl hu.ne
   | cons c cs=>exact ⟨c,cs,rfl⟩
  refine aBX (aBJ (EvT.eq (aHF (aDW (vR (c:=c) (yA t 0 rfl) (yA t 1 rfl) (sl2 hz) ?_))) (by rw [show (⟨#[c]⟩:Str)=S [c] from rfl,eOV]; exact hu.al c (by simp))) ?_)
  ·have:=eGE (pre:=pre) (post:=cs++post) (c:=c)
   simpa using this
  ·refine yG (zK t 2 (EvE.eq (aZY (yA t 0 rfl) (yA t 1 rfl) (yU t c2 (yB (yA t 0 rfl) (yB (yA t 1 rfl) yE)) ⟨pre,c :: cs,post,rfl,hu.al,hp,hz,rfl⟩) (sl2 hz)) (by rw [eQT]))) ?_
   refine yG (aXQ (yU t c1 (yB (yA t 2 rfl) yE) ⟨_,rfl,hu,rfl⟩)) (yJ (zO (yA t 2 rfl)))
 ·have t:=h.at'
  haveI:=h.fnT
  obtain ⟨l,gm,gk⟩:=gD
  have gm':X.mg "DOUBLE_SIGNS" = some (.ref l):=by rw [h.mg']; exact gm
  have gk':GP X.K (.ref l) eRP:=by rw [h.k']; exact gk
  show EvSs X [.val (.str (S (pre++c :: post))),.val (.int pre.length),.un] _ _
  refine yG (wM (EvT.eq (aHF (aDW (vR (c:=c) (yA t 0 rfl) (yA t 1 rfl) (sl2 hz) eGE))) (by rw [show (⟨#[c]⟩:Str)=S [c] from rfl,eOV]; exact hc)) qQ) (yJ (zO (aPZ (eAB t (EvE.eq (aZY (yA t 0 rfl) (yA t 1 rfl) (jI (yA t 1 rfl) yD) (sl2 hz)) (by rw [eOJ])).p (aNO t gm' gk') (aAR (aKA ?_)) (vK _) (by decide +kernel) (eNZ h1 h2 h3)) (vR (yA t 0 rfl) (yA t 1 rfl) (sl2 hz) eGE))))
  intro x hx
  refine ha x ?_
  rcases List.mem_cons.mp hx with rfl | hx
  ·simp
  ·exact List.mem_cons_of_mem _ (List.mem_of_mem_take hx)
inductive Lex:List Nat->List (List Nat)->Prop where
 | nil:Lex [] []
 | sp {cs:List Nat} {ts:List (List Nat)}:Lex cs ts->Lex (32 :: cs) ts
 | run {u cs:List Nat} {ts:List (List Nat)}:RunW u->(∀ c,cs.head? = some c->al c=false)->Lex cs ts->Lex (u++cs) (u :: ts)
 | sign {c:Nat} {cs:List Nat} {ts:List (List Nat)}:al c=false->c≠32->c≠60->c≠62->c≠33->Lex cs ts->Lex (c :: cs) ([c] :: ts)
theorem Lex.len {cs:List Nat} {ts:List (List Nat)} (h:Lex cs ts):ts.length<=cs.length:=by
 induction h with
 | nil=>simp
 | sp _ ih=>simp; omega
 | run hu _ _ ih=>
  have:=List.length_pos_iff.mpr hu.ne
  simp; omega
 | sign _ _ _ _ _ _ ih=>simp; omega
def yY (ts:List (List Nat)):List D:=ts.map fun u=>D.str (S u)
def aCN (ds:List D) (d:D):Prop:=∃ (cs:List Nat) (ts:List (List Nat)),ds=[.str (S cs)]/\Lex cs ts/\(∀ c∈cs,c < 128)/\cs.length<=2000/\d = .lst (yY ts)
theorem aNA:∀ ds d,aCN ds d->ds.length=1:=by rintro _ _ ⟨a,b,rfl,_⟩; rfl
theorem eOG:al 32=false:=by decide +kernel
theorem aST (h:DefX P w K mg base k N_tokens_of (yC jK) X) (m_len:mg "len" = none) (c1:Callee X "token_at" aDY) :
  ∀ ds d,aCN ds d->EvSs X (ds.map Sl.val++List.replicate (N_tokens_of.length - ds.length) Sl.un) (yF jK) (.rt d):=by
 rintro ds r ⟨cs,ts,rfl,hl,ha,hz,rfl⟩
 have t:=h.at'
 haveI:=h.fnT
 have b1:Blt X (yC jK) "len" (.builtin "len"):=yP (by rw [h.mg']; exact m_len)
 show EvSs X [.val (.str (S cs)),.un,.un] _ _
 refine yG (aXP t 1 2 (yQ yE) yD (by decide)) ?_
 refine aQB t (fun s:List Nat × List Nat × List (List Nat)=>[.val (.str (S cs)),.own (yY s.2.2),.val (.int s.1.length)]) (fun s=>s.1++s.2.1=cs/\∃ us,Lex s.2.1 us/\s.2.2++us=ts) (fun s=>s.2.2=ts) (fun s=>s.2.1.length) ([],cs,[]) ⟨rfl,ts,hl,rfl⟩ ?_ ?_
 ·rintro ⟨pre,qU,done⟩ ⟨e1,us,lx,e2⟩
  dsimp only at e1 e2 lx ⊢
  have hlen:done.length<=2000:=by
   have h1:=hl.len
   have h2:=congrArg List.length e2
   rw [List.length_append] at h2; omega
  cases lx with
  | nil=>
   refine .inl ⟨EvT.eq (aBV (yA t 2 rfl) (aAN t b1 (yA t 0 rfl) (sl2 hz))) ?_,by rw [<- e2]; simp⟩
   rw [wV,<- e1,decide_eq_false_iff_not]; simp
  | @sp cs' us lx=>
   subst e1
   refine .inr ⟨EvT.eq (aBV (yA t 2 rfl) (aAN t b1 (yA t 0 rfl) (sl2 hz))) (by rw [wV,decide_eq_true_eq]; simp; omega),.inr ⟨(pre++[32],cs',done),?_,⟨by simp,us,lx,e2⟩,by simp⟩⟩
   refine yJ (aBJ (EvT.eq (jP t (vR (c:=32) (yA t 0 rfl) (yA t 2 rfl) (sl2 hz) eGE) ev_str (by decide +kernel)) (by decide +kernel)) (yJ (aLM t 2 rfl yD (by simp))))
  | @run u cs' us hu hp lx=>
   subst e1
   obtain ⟨c,u',rfl⟩:∃ c u',u=c :: u':=by
    cases u with
    | nil=>exact absurd rfl hu.ne
    | cons c cs=>exact ⟨c,cs,rfl⟩
   have hc:=hu.al c (by simp)
   have hc2:S [c]≠S [32]:=fun e=>by have:=aBM e; cases this; rw [eOG] at hc; cases hc
   have hat:atI (S (pre++((c :: u')++cs'))).cps.toList (pre.length:Int)=some c:=eGE (pre:=pre) (post:=u' ++ cs') (c:=c)
   refine .inr ⟨EvT.eq (aBV (yA t 2 rfl) (aAN t b1 (yA t 0 rfl) (sl2 hz))) (by rw [wV,decide_eq_true_eq]; simp; omega),.inr ⟨(pre++(c :: u'),cs',done++[c :: u']),?_,⟨by simp,us,lx,by rw [<- e2]; simp⟩,by simp; omega⟩⟩
   refine yJ (wM (EvT.eq (jP t (vR (c:=c) (yA t 0 rfl) (yA t 2 rfl) (sl2 hz) hat) ev_str (aKA (cs:=[c]) fun x hx=>hu.lt x (by simp at hx; simp [hx]))) (by rw [decide_eq_false_iff_not,show (" " : Str)=S [32] by decide +kernel]; exact hc2)) ?_)
   refine yG (aHM t 1 rfl (yU t c1 (yB (yA t 0 rfl) (yB (yA t 2 rfl) yE)) ⟨pre,cs',.inl ⟨c :: u',by rw [List.append_assoc],hu,hp,by rw [List.append_assoc]; exact hz,rfl⟩⟩) (by unfold yY; rw [List.length_map]; exact Nat.lt_of_le_of_lt hlen (by decide))) (yJ (EvS.eq (aLM t 2 (v:=((pre++c :: u').length:Nat)) rfl (aAN t b1 (zB (aBD t 1 rfl) (aJN yD) (eBF (.inl rfl))) (sl2 (by have:=hu.len; omega))) (by rw [wV]; simp)) ?_))
   unfold yY
   simp
  | @sign c cs' us hc h0 h1 h2 h3 lx=>
   subst e1
   have hc2:S [c]≠S [32]:=fun e=>by have:=aBM e; cases this; exact h0 rfl
   have hlt:∀ x∈c :: cs',x < 128:=fun x hx=>ha x (List.mem_append_right _ hx)
   refine .inr ⟨EvT.eq (aBV (yA t 2 rfl) (aAN t b1 (yA t 0 rfl) (sl2 hz))) (by rw [wV,decide_eq_true_eq]; simp; omega),.inr ⟨(pre++[c],cs',done++[[c]]),?_,⟨by simp,us,lx,by rw [<- e2]; simp⟩,by simp⟩⟩
   refine yJ (wM (EvT.eq (jP t (vR (c:=c) (yA t 0 rfl) (yA t 2 rfl) (sl2 hz) eGE) ev_str (aKA (cs:=[c]) fun x hx=>hlt x (by simp at hx; simp [hx]))) (by rw [decide_eq_false_iff_not,show (" " : Str)=S [32] by decide +kernel]; exact hc2)) ?_)
   refine yG (aHM t 1 rfl (yU t c1 (yB (yA t 0 rfl) (yB (yA t 2 rfl) yE)) ⟨pre,cs',.inr ⟨c,rfl,hc,hlt,h1,h2,h3,hz,rfl⟩⟩) (by unfold yY; rw [List.length_map]; exact Nat.lt_of_le_of_lt hlen (by decide))) (yJ (EvS.eq (aLM t 2 (v:=((pre++[c]).length:Nat)) rfl (aAN t b1 (zB (aBD t 1 rfl) (aJN yD) (eBF (.inl rfl))) (sl2 (by simp))) (by rw [wV]; simp)) ?_))
   unfold yY
   simp
 ·rintro ⟨pre,qU,done⟩ e
  dsimp only at e ⊢
  subst e
  exact wR 1 rfl (yJ (zO (yA t 1 rfl)))
def aQG (o c:List Nat):List (List Nat)->Int
 | []=>0
 | u :: ts=>aQG o c ts+(b2i (decide (S u=S o)) - b2i (decide (S u=S c)))
theorem aQF (o c u:List Nat):∀ ts,aQG o c (ts++[u])=aQG o c ts+(b2i (decide (S u=S o)) - b2i (decide (S u=S c)))
 | []=>by simp [aQG]
 | v :: ts=>by show aQG o c (ts++[u])+_=aQG o c ts+_+_; rw [aQF o c u ts]; omega
def aAD (ds:List D) (d:D):Prop:=∃ (ts:List (List Nat)) (o c:List Nat),ds=[.lst (yY ts),.str (S o),.str (S c)]/\(∀ u∈ts,∀ x∈u,x < 128)/\(∀ x∈o,x < 128)/\(∀ x∈c,x < 128)/\(∀ i,i<=ts.length->aQG o c (ts.take i)<=20)/\d = .non
theorem aJB:∀ ds d,aAD ds d->ds.length=3:=by rintro _ _ ⟨a,b,c,rfl,_⟩; rfl
theorem aOA (h:DefX P w K mg base k N_refuse_deep (yC qB) X) (gM:∃ tk,mg "MOST_OPEN" = some (.int 20 tk)) :
  ∀ ds d,aAD ds d->EvSs X (ds.map Sl.val++List.replicate (N_refuse_deep.length - ds.length) Sl.un) (yF qB) (.rt d)\/(d = .non/\∃ ρ',EvSs X (ds.map Sl.val++List.replicate (N_refuse_deep.length - ds.length) Sl.un) (yF qB) (.nx ρ')):=by
 rintro ds r ⟨ts,o,c,rfl,ha,ho,hc,hd,rfl⟩
 have t:=h.at'
 haveI:=h.fnT
 have gM':∃ tk,X.mg "MOST_OPEN" = some (.int 20 tk):=by rw [h.mg']; exact gM
 refine .inr ⟨rfl,[.val (.lst (yY ts)),.val (.str (S o)),.val (.str (S c)),.val (.int (aQG o c ts)),.un],?_⟩
 show EvSs X [.val (.lst (yY ts)),.val (.str (S o)),.val (.str (S c)),.un,.un] _ _
 refine yG (zK t 3 yD) (yJ (aCW t (eAF (yA t 0 rfl)) (FRun.uptoE (fun i=>[.val (.lst (yY ts)),.val (.str (S o)),.val (.str (S c)),.val (.int (aQG o c (ts.take i))),.un]) (fun j d e=>?_) rfl ?_)))
 ·unfold yY at e
  rw [List.getElem?_map] at e
  cases e2:ts[j]? with
  | none=>rw [e2] at e; cases e
  | some u=>
   rw [e2] at e
   cases e
   have hj:=(List.getElem?_eq_some_iff.mp e2).1
   have hu:∀ x∈u,x < 128:=ha u (List.mem_of_getElem? e2)
   have et:aQG o c (ts.take (j+1))=aQG o c (ts.take j)+(b2i (decide (S u=S o)) - b2i (decide (S u=S c))):=by
    rw [List.take_succ,e2]; exact aQF o c u _
   refine ⟨_,zA t 4,EvSs.weak (yG (aLM t 3 (v:=aQG o c (ts.take (j+1))) rfl (eIR (eFR t (yA t 4 rfl) (yA t 1 rfl) (aKA hu) (aKA ho)) (eFR t (yA t 4 rfl) (yA t 2 rfl) (aKA hu) (aKA hc))) et) (yJ (wM (EvT.eq (aEB (yA t 3 rfl) (aNP t gM')) ?_) qQ))) (.keep (.keep (.keep (.keep (.forget .nil)))))⟩
   have:=hd (j+1) (by omega)
   rw [decide_eq_false_iff_not]; omega
 ·show _=_
  unfold yY
  rw [List.length_map,List.take_length]
def HD (ts:List Str):Str:=ts.headD ""
def zW (toks:List Str) (ds:List D) (s:Int × List D) (d:D) (s':Int × List D):Prop:=∃ n:Nat,ds=[]/\s.1=n/\d = .str (HD (toks.drop n))/\s' = s
theorem aKW:∀ ts ds s d s',zW ts ds s d s'->ds.length+1=1:=by rintro _ _ _ _ _ ⟨a,rfl,_⟩; rfl
def zV (toks:List Str) (ds:List D) (s:Int × List D) (d:D) (s':Int × List D):Prop:=∃ n:Nat,ds=[]/\s.1=n/\d = .str (HD (toks.drop n))/\s' = ((n:Int)+1,s.2)
theorem aKT:∀ ts ds s d s',zV ts ds s d s'->ds.length+1=1:=by rintro _ _ _ _ _ ⟨a,rfl,_⟩; rfl
def aAC (toks:List Str) (ds:List D) (s:Int × List D) (d:D) (s':Int × List D):Prop:=∃ n:Nat,ds=[]/\s.1=n/\toks.length<=n/\d = .non/\s' = s
theorem aJA:∀ ts ds s d s',aAC ts ds s d s'->ds.length+1=1:=by rintro _ _ _ _ _ ⟨a,rfl,_⟩; rfl
theorem dh {ts:List Str} {n:Nat} {u:Str} {qU:List Str} (h:ts.drop n=u :: qU):HD (ts.drop n)=u/\ts.drop (n+1)=qU:=⟨by rw [h]; rfl,(aAQ h).2.1⟩
theorem sz {n:Nat} (h:n < 10000):n < sizeLine:=Nat.lt_trans h (by decide)
theorem aNY (h:DefX P w K mg base k N_next_token (yC qE) X) (m_len:mg "len" = none) :
  ∀ (r:aKD),aKB X.K r->∀ ds s d s',zW r.toks ds s d s'->EvZ (RdS r) X (.val (.adr r.p) :: ds.map Sl.val++List.replicate (N_next_token.length - (ds.length+1)) Sl.un) (yF qE) (.rt d) s s'\/(d = .non/\∃ ρ',EvZ (RdS r) X (.val (.adr r.p) :: ds.map Sl.val++List.replicate (N_next_token.length - (ds.length+1)) Sl.un) (yF qE) (.nx ρ') s s'):=by
 rintro r ok ds ⟨i,xs⟩ d s' ⟨n,rfl,hn,rfl,rfl⟩
 have t:=h.at'
 have b1:Blt X (yC qE) "len" (.builtin "len"):=yP (by rw [h.mg']; exact m_len)
 have hn':i=(n:Int):=hn
 subst hn'
 refine .inl ?_
 show EvZ (RdS r) X [.val (.adr r.p)] _ _ _ _
 refine jS (aOL ?_)
 have hl:((r.toks.map D.str).length:Int)=(r.toks.length:Nat):=by rw [List.length_map]
 by_cases e:n < r.toks.length
 ·refine eNJ (EvTZ.eq (eGI (aMN t ok 0 rfl) (aZT t b1 (aMM t ok 0 rfl))) ?_) (EvEZ.eq (eNI (d:=.str r.toks[n]) (aMM t ok 0 rfl) (aMN t ok 0 rfl) (jR (by rw [List.getElem?_map,List.getElem?_eq_getElem e]; rfl))) ?_)
  ·rw [hl,decide_eq_true_eq]; show (n:Int) < _; omega
  ·rw [List.drop_eq_getElem_cons e]; rfl
 ·refine eNK (EvTZ.eq (eGI (aMN t ok 0 rfl) (aZT t b1 (aMM t ok 0 rfl))) ?_) (EvEZ.eq (EvE.z ev_str) ?_)
  ·rw [hl,decide_eq_false_iff_not]; show ¬ ((n:Int) < _); omega
  ·rw [List.drop_eq_nil_of_le (by omega)]; rfl
theorem aNW (h:DefX P w K mg base k N_take_token (yC qR) X) (c1:zM X "next_token" zW) :
  ∀ (r:aKD),aKB X.K r->∀ ds s d s',zV r.toks ds s d s'->EvZ (RdS r) X (.val (.adr r.p) :: ds.map Sl.val++List.replicate (N_take_token.length - (ds.length+1)) Sl.un) (yF qR) (.rt d) s s'\/(d = .non/\∃ ρ',EvZ (RdS r) X (.val (.adr r.p) :: ds.map Sl.val++List.replicate (N_take_token.length - (ds.length+1)) Sl.un) (yF qR) (.nx ρ') s s'):=by
 rintro r ok ds ⟨i,xs⟩ d s' ⟨n,rfl,hn,rfl,rfl⟩
 have t:=h.at'
 haveI:=h.fnT
 have hn':i=(n:Int):=hn
 subst hn'
 refine .inl ?_
 show EvZ (RdS r) X [.val (.adr r.p),.un] _ _ _ _
 exact zJ (aLF t 1 (jB t ok c1 (qJ (EvE.z (yA t 0 rfl)) (EvA.z yE)) ⟨n,rfl,rfl,rfl,rfl⟩)) (zJ (eHA t ok 0 rfl yD) (jS (aOL (EvE.z (yA t 1 rfl)))))
theorem aLB (h:DefX P w K mg base k N_refuse_more (yC zP) X) (m_len:mg "len" = none) :
  ∀ (r:aKD),aKB X.K r->∀ ds s d s',aAC r.toks ds s d s'->EvZ (RdS r) X (.val (.adr r.p) :: ds.map Sl.val++List.replicate (N_refuse_more.length - (ds.length+1)) Sl.un) (yF zP) (.rt d) s s'\/(d = .non/\∃ ρ',EvZ (RdS r) X (.val (.adr r.p) :: ds.map Sl.val++List.replicate (N_refuse_more.length - (ds.length+1)) Sl.un) (yF zP) (.nx ρ') s s'):=by
 rintro r ok ds ⟨i,xs⟩ d s' ⟨n,rfl,hn,hl,rfl,rfl⟩
 have t:=h.at'
 have b1:Blt X (yC zP) "len" (.builtin "len"):=yP (by rw [h.mg']; exact m_len)
 have hn':i=(n:Int):=hn
 subst hn'
 refine .inr ⟨rfl,[.val (.adr r.p)],?_⟩
 show EvZ (RdS r) X [.val (.adr r.p)] _ _ _ _
 refine jS (aLG (EvTZ.eq (eGI (aMN t ok 0 rfl) (aZT t b1 (aMM t ok 0 rfl))) ?_) aOM)
 rw [List.length_map,decide_eq_false_iff_not]; show ¬ ((n:Int) < _); omega
end
section
variable {SS:LS} {X:Cx} {ρ:Rho} {a b e:Expr} {s s1 s':SS.ds} {pos:Pos} {N:List Str} {sc:Scope} {x:Str}
theorem eIQ {z w:Str} (ha:EvEZ SS X ρ a (.str z) s s1) (hb:EvEZ SS X ρ b (.str w) s1 s') (hz:z.length+w.length<=sizeLine):EvEZ SS X ρ (.BinOp a .Add b pos) (.str (z++w)) s s':=fun B F H σ Q c l k q=>.mk fun pins st I=>
 aPI aLR yX yX pins st σ H Q I (eJZ ha hb l k fun x y F' H' c' x' r' rx ry=>by
  cases rx; cases ry
  exact ⟨z,w,rfl,rfl,hz,q _ F' H' c' x' r' (.str _)⟩)
theorem eJA (t:At X N sc) {d:D} {xs:List D} {r:Bool} (ha:EvE X ρ a d) (hb:EvE X ρ b (.lst xs)) (sp:(toP d).canLay0=true) (sd:(toP d).depth<=62) (sq:PyData.canLayAll0 (toPs xs)=true) (he:(!(toPs xs).any fun y=>PyData.eqv y (toP d))=r)
  (hm:behindInMarks .NotIn b=false:=by rfl):EvT X ρ (.Compare a [.NotIn] [b] pos) r:=
 .of (vY (eLC t sp sd sq) yX yX hm) fun B F H σ Q k q=>eDQ (EvE.p ha) (EvE.p hb) k fun x y F' H' x' rx ry=>⟨rx,ry,r,by rw [he],q F' H' x'⟩
end
def vM (toks:List Str) (ds:List D) (s:Int × List D) (d:D) (s':Int × List D):Prop:=∃ (n:Nat) (u:List Nat) (ts:List (List Nat)) (qU:List Str),(ds=[.lst (yY ts)]\/ds=[.tup (yY ts)])/\s.1=n/\toks.drop n=S u :: qU/\u∈ts/\(∀ u∈ts,∀ x∈u,x < 128)/\d = .str (S u)/\s' = ((n:Int)+1,s.2)
theorem aIZ:∀ ts ds s d s',vM ts ds s d s'->ds.length+1=2:=by rintro _ _ _ _ _ ⟨a,b,c,e,rfl | rfl,_⟩ <;> rfl
theorem aXB {ts:List (List Nat)} (h:∀ u∈ts,∀ x∈u,x < 128):PyData.canLayAll0 (toPs (yY ts))=true:=(Fn.all (n:=1) fun x hx=>by
 obtain ⟨u,hu,rfl⟩:=List.mem_map.mp hx
 exact ⟨aAR (aKA (h u hu)),by simp [toP,PyData.depth],by simp [toP,PyData.eqv]⟩).1
theorem aXA {ts:List (List Nat)} {u:List Nat} (h:u∈ts):(!(toPs (yY ts)).any fun y=>PyData.eqv y (toP (.str (S u))))=false:=by
 have:((toPs (yY ts)).any fun y=>PyData.eqv y (toP (.str (S u))))=true:=by
  induction ts with
  | nil=>cases h
  | cons v ts ih=>
   show ((S v == S u) || _)=true
   rcases List.mem_cons.mp h with rfl | h
   ·simp
   ·rw [Bool.or_eq_true]; exact .inr (ih h)
 rw [this]; rfl
def eOU:List (List Nat):=[[48],[49],[50],[51],[52],[53],[54],[55],[56],[57]]
theorem eIO (d:Nat) (h:d<=9):[48+d]∈eOU:=by
 have:∀ d:Nat,d < 10->[48+d]∈eOU:=by decide
 exact this d (by omega)
abbrev TK:=List (List Nat)
structure Fac where
 mins:Nat
 atok:TK
 ast:TK
 pow:Option Nat
abbrev AtR:=TK->TK->Prop
def aEC (R:AtR) (f:Fac):Prop:=f.mins<=20/\R f.atok f.ast/\∀ d,f.pow=some d->d<=9
def eQX (R:AtR):Prop:=∀ tk st,R tk st->∃ u us,tk=u :: us/\u≠[45]
def eBM:Option Nat->List (List Nat)
 | none=>[]
 | some d=>[[94],[48+d]]
def eBN:Option Nat->List (List Nat)
 | none=>[]
 | some d=>[[94,48+d]]
def tkW (f:Fac):List (List Nat):=f.atok++eBM f.pow
def stW (f:Fac):List (List Nat):=f.ast++eBN f.pow
def tkF (f:Fac):List (List Nat):=List.replicate f.mins [45]++tkW f
def mnS (n:Nat):List (List Nat):=if n % 2=1 then [[109,105,110,117,115]] else []
def sfF (f:Fac):List (List Nat):=stW f++mnS f.mins
def aFA:List Fac->List (List Nat)
 | []=>[]
 | f :: fs=>[42] :: (tkF f++aFA fs)
def aKE:List Fac->List (List Nat)
 | []=>[]
 | f :: fs=>sfF f++([42] :: aKE fs)
abbrev Prd:=Fac × List Fac
def aFR (R:AtR) (p:Prd):Prop:=aEC R p.1/\∀ f∈p.2,aEC R f
def tkP (p:Prd):List (List Nat):=tkF p.1++aFA p.2
def stP (p:Prd):List (List Nat):=sfF p.1++aKE p.2
def sgW (b:Bool):List Nat:=if b then [43] else [45]
def aEK:List (Bool × Prd)->List (List Nat)
 | []=>[]
 | q :: qs=>sgW q.1 :: (tkP q.2++aEK qs)
def aIC:List (Bool × Prd)->List (List Nat)
 | []=>[]
 | q :: qs=>stP q.2++(sgW q.1 :: aIC qs)
abbrev Trm:=Prd × List (Bool × Prd)
def TrmOk (R:AtR) (t:Trm):Prop:=aFR R t.1/\∀ q∈t.2,aFR R q.2
def tkT (t:Trm):List (List Nat):=tkP t.1++aEK t.2
def stT (t:Trm):List (List Nat):=stP t.1++aIC t.2
def sm (ts:List (List Nat)):List Str:=ts.map S
theorem aFD (a b:List (List Nat)):sm (a++b)=sm a++sm b:=List.map_append
theorem jQ (a b:List (List Nat)):yY (a++b)=yY a++yY b:=List.map_append
def No (us:List (List Nat)) (post:List Str):Prop:=∀ u∈us,HD post≠S u
def CR {α:Type} (Ok:α->Prop) (tk st:α->List (List Nat)) (no:List (List Nat)) (toks:List Str) (ds:List D) (s:Int × List D) (d:D) (s':Int × List D):Prop:=
 (∀ x∈toks,PyData.strOk x=true)/\∃ (n:Nat) (x:α) (post:List Str),ds=[]/\s.1=n/\Ok x/\toks.drop n=sm (tk x)++post/\No no post/\s.2.length+(st x).length < 10000/\d = .non/\s' = (((n+(tk x).length:Nat):Int),s.2++yY (st x))
theorem CR.len {α:Type} {Ok:α->Prop} {tk st:α->List (List Nat)} {no:List (List Nat)}:∀ ts ds s d s',CR Ok tk st no ts ds s d s'->ds.length+1=1:=by rintro _ _ _ _ _ ⟨_,a,b,c,rfl,_⟩; rfl
def aCQ (R:AtR):=CR (fun p:TK × TK=>R p.1 p.2) Prod.fst Prod.snd []
theorem aNE (R:AtR):∀ ts ds s d s',aCQ R ts ds s d s'->ds.length+1=1:=CR.len
def aBF (R:AtR):=CR (aEC R) tkW stW [[94]]
def aAE (R:AtR):=CR (aEC R) tkF sfF [[94]]
def wD (R:AtR):=CR (aFR R) tkP stP [[94],[42]]
def wB (R:AtR):=CR (TrmOk R) tkT stT [[94],[42],[43],[45]]
theorem aKU (R:AtR):∀ ts ds s d s',aBF R ts ds s d s'->ds.length+1=1:=CR.len
theorem aJC (R:AtR):∀ ts ds s d s',aAE R ts ds s d s'->ds.length+1=1:=CR.len
theorem aHB (R:AtR):∀ ts ds s d s',wD R ts ds s d s'->ds.length+1=1:=CR.len
theorem aGQ (R:AtR):∀ ts ds s d s',wB R ts ds s d s'->ds.length+1=1:=CR.len
theorem aCJ {ts:List Str} {n:Nat} {a b:List Str} (h:ts.drop n=a++b):ts.drop (n+a.length)=b:=by
 rw [<- List.drop_drop,h]; simp
theorem aGI (a:List (List Nat)):(sm a).length=a.length:=List.length_map _
theorem yV (a:List (List Nat)):(yY a).length=a.length:=List.length_map _
theorem aZP {ts:List Str} {n:Nat} {u:List Nat} {us:List (List Nat)} {post:List Str} (h:ts.drop n=sm (u :: us)++post):HD (ts.drop n)=S u/\ts.drop (n+1)=sm us++post:=dh h
theorem zto {SS:LS} {X:Cx} {ρ:Rho} {st:Stmt} {o:Out} {s a b:SS.ds} (h:aTB SS X ρ st o s a) (e:a=b):aTB SS X ρ st o s b:=e ▸ h
theorem eRS {SS:LS} {X:Cx} {ρ:Rho} {st:List Stmt} {o:Out} {s a b:SS.ds} (h:EvZ SS X ρ st o s a) (e:a=b):EvZ SS X ρ st o s b:=e ▸ h
theorem WRunZ.ix {SS:LS} {X:Cx} {cd:Expr} {body:List Stmt} (R:Nat->Rho) (T:Nat->SS.ds) (n:Nat) (h:∀ i,i < n->EvTZ SS X (R i) cd true (T i) (T i)/\EvZ SS X (R i) body (.nx (R (i+1))) (T i) (T (i+1))) (hn:EvTZ SS X (R n) cd false (T n) (T n)):∀ (k i:Nat),i+k=n->WRunZ SS X cd body k (R i) (T i) (R n) (T n)
 | 0,i,e=>by
  have e':i=n:=by omega
  subst e'
  exact .stop hn
 | k+1,i,e=>.step (h i (by omega)).1 (h i (by omega)).2 (WRunZ.ix R T n h hn k (i+1) (by omega))
theorem aHX {SS:LS} {X:Cx} {N:List Str} {sc:Scope} {cd:Expr} {body:List Stmt} {pos:Pos} {ρ ρ':Rho} {s s':SS.ds} (t:At X N sc) (R:Nat->Rho) (T:Nat->SS.ds) (n:Nat) (h:∀ i,i < n->EvTZ SS X (R i) cd true (T i) (T i)/\EvZ SS X (R i) body (.nx (R (i+1))) (T i) (T (i+1))) (hn:EvTZ SS X (R n) cd false (T n) (T n)) (e1:R 0=ρ) (e2:T 0=s) (e3:R n=ρ') (e4:T n=s') :
  aTB SS X ρ (.While cd body [] pos) (.nx ρ') s s':=by
 subst e1; subst e2; subst e3; subst e4
 exact eBP t ⟨n,WRunZ.ix R T n h hn n 0 (by omega)⟩
theorem eND {ts:List Str} (h:∀ x∈ts,PyData.strOk x=true) (n:Nat):PyData.strOk (HD (ts.drop n))=true:=by
 cases e:ts.drop n with
 | nil=>decide +kernel
 | cons a b=>exact h a (List.mem_of_mem_drop (i:=n) (by rw [e]; simp))
section
variable {X:Cx} {ρ:Rho} {r:aKD} {p py pos p2 pos':Pos} {j:Nat} {N:List Str} {sc:Scope} {n:Nat} {xs:List D}
theorem aVQ (t:At X N sc) (ok:aKB X.K r) (c2:zM X "next_token" zW) (ho:∀ x∈r.toks,PyData.strOk x=true) {z:Str} {b:Bool} (hr:ρ[0]? = some (.val (.adr r.p))) (hz:PyData.strOk z=true) (hb:decide (HD (r.toks.drop n)=z)=b) (hN:N[0]? = some ("reader" : Str):=by rfl) (hv:aDQ sc ("reader" : Str)=true:=by rfl) (hx:qK ("reader" : Str)=true:=by rfl) (hg:sc.names.lookup ("next_token" : Str)=some .globalImplicit:=by rfl) :
  EvTZ (RdS r) X ρ (.Compare (.Call (.Name "next_token" p) [.Name "reader" py] [] pos) [.Eq] [.Constant (.str z) j p2] pos') b ((n:Int),xs) ((n:Int),xs):=
 EvTZ.eq (ePB (S:=RdS r) t (jB (s:=((n:Int),xs)) (s1:=((n:Int),xs)) (s':=((n:Int),xs)) t ok c2 (qJ (EvE.z (yA t 0 hr hN hv hx)) (EvA.z yE)) ⟨n,rfl,rfl,rfl,rfl⟩ hg) (EvE.z ev_str) (aED (eND ho n)) (aED hz) rfl) (by rw [<- hb]; exact aDP _ _)
theorem aTI (t:At X N sc) (ok:aKB X.K r) (c3:zM X "take_token" zV) (hr:ρ[0]? = some (.val (.adr r.p))) (hN:N[0]? = some ("reader" : Str):=by rfl) (hv:aDQ sc ("reader" : Str)=true:=by rfl) (hx:qK ("reader" : Str)=true:=by rfl) (hg:sc.names.lookup ("take_token" : Str)=some .globalImplicit:=by rfl) :
  EvEZ (RdS r) X ρ (.Call (.Name "take_token" p) [.Name "reader" py] [] pos) (.str (HD (r.toks.drop n))) ((n:Int),xs) (((n+1:Nat):Int),xs):=
 jB t ok c3 (qJ (EvE.z (yA t 0 hr hN hv hx)) (EvA.z yE)) ⟨n,rfl,rfl,rfl,by rw [Int.natCast_add]; rfl⟩ hg
end
section
variable {P:Program} {w:World} {K:PySem.W.Frag} {mg:Str->Option Value} {base:Heap} {k:Nat} {X:Cx}
theorem aLA (h:DefX P w K mg base k N_take_one_of (yC qA) X) (c1:zM X "take_token" zV) :
  ∀ (r:aKD),aKB X.K r->∀ ds s d s',vM r.toks ds s d s'->EvZ (RdS r) X (.val (.adr r.p) :: ds.map Sl.val++List.replicate (N_take_one_of.length - (ds.length+1)) Sl.un) (yF qA) (.rt d) s s'\/(d = .non/\∃ ρ',EvZ (RdS r) X (.val (.adr r.p) :: ds.map Sl.val++List.replicate (N_take_one_of.length - (ds.length+1)) Sl.un) (yF qA) (.nx ρ') s s'):=by
 rintro r ok ds ⟨i,xs⟩ d s' ⟨n,u,ts,qU,hds,hn,hd,hu,hlt,rfl,rfl⟩
 have t:=h.at'
 haveI:=h.fnT
 have hn':i=(n:Int):=hn
 subst hn'
 have hc:∀ x∈u,x < 128:=hlt u hu
 refine .inl ?_
 rcases hds with rfl | rfl
 ·show EvZ (RdS r) X [.val (.adr r.p),.val (.lst (yY ts)),.un] _ _ _ _
  exact zJ (aLF t 2 (jB (d:=.str (S u)) t ok c1 (qJ (EvE.z (yA t 0 rfl)) (EvA.z yE)) ⟨n,rfl,rfl,by rw [(dh hd).1],rfl⟩)) (zJ (aLG (EvT.z (eJA t (yA t 2 rfl) (yA t 1 rfl) (aAR (aKA hc)) (vK _) (aXB hlt) (aXA hu))) aOM) (jS (aOL (EvE.z (yA t 2 rfl)))))
 ·show EvZ (RdS r) X [.val (.adr r.p),.val (.tup (yY ts)),.un] _ _ _ _
  exact zJ (aLF t 2 (jB (d:=.str (S u)) t ok c1 (qJ (EvE.z (yA t 0 rfl)) (EvA.z yE)) ⟨n,rfl,rfl,by rw [(dh hd).1],rfl⟩)) (zJ (aLG (EvT.z (eIZ t (yA t 2 rfl) (yA t 1 rfl) (aAR (aKA hc)) (vK _) (aXB hlt) (aXA hu))) aOM) (jS (aOL (EvE.z (yA t 2 rfl)))))
theorem aNX {R:AtR} (h:DefX P w K mg base k N_read_power (yC qC) X) (m_list:mg "list" = none) (c1:zM X "read_atom" (aCQ R)) (c2:zM X "next_token" zW) (c3:zM X "take_token" zV) (c4:zM X "take_one_of" vM) (gF:∃ tk,mg "FIGURES" = some (.str FIG tk)) :
  ∀ (r:aKD),aKB X.K r->∀ ds s d s',aBF R r.toks ds s d s'->EvZ (RdS r) X (.val (.adr r.p) :: ds.map Sl.val++List.replicate (N_read_power.length - (ds.length+1)) Sl.un) (yF qC) (.rt d) s s'\/(d = .non/\∃ ρ',EvZ (RdS r) X (.val (.adr r.p) :: ds.map Sl.val++List.replicate (N_read_power.length - (ds.length+1)) Sl.un) (yF qC) (.nx ρ') s s'):=by
 rintro r ok ds ⟨i,xs⟩ d s' ⟨ho,n,f,post,rfl,hn,hf,hd,hno,hz,rfl,rfl⟩
 have t:=h.at'
 haveI:=h.fnT
 have b1:Blt X (yC qC) "list" (.type "list"):=yP (by rw [h.mg']; exact m_list)
 have gF':∃ tk,X.mg "FIGURES" = some (.str FIG tk):=by rw [h.mg']; exact gF
 have hn':i=(n:Int):=hn
 subst hn'
 obtain ⟨m,at0,as0,pw⟩:=f
 refine .inr ⟨rfl,[.val (.adr r.p)],?_⟩
 show EvZ (RdS r) X [.val (.adr r.p)] _ _ ((n:Int),xs) (((n+(at0++eBM pw).length:Nat):Int),xs++yY (as0++eBN pw))
 have hz':xs.length+(as0++eBN pw).length < 10000:=hz
 rw [List.length_append] at hz'
 have hd':r.toks.drop n=sm at0++(sm (eBM pw)++post):=by rw [<- List.append_assoc,<- aFD]; exact hd
 have hdp:=aCJ hd'
 rw [aGI] at hdp
 have hxs:(xs++yY as0).length+(eBN pw).length < 10000:=by rw [List.length_append,yV]; omega
 refine zJ (s1:=(((n+at0.length:Nat):Int),xs++yY as0)) (vU (jB t ok c1 (qJ (EvE.z (yA t 0 rfl)) (EvA.z yE)) ⟨ho,n,(at0,as0),sm (eBM pw)++post,rfl,rfl,hf.2.1,hd',(fun u hu=>nomatch hu),(by show xs.length+as0.length < 10000; omega),rfl,rfl⟩)) ?_
 cases pw with
 | none=>
  have e:HD (r.toks.drop (n+at0.length))≠("^" : Str):=by rw [hdp,show ("^" : Str)=S [94] by decide +kernel]; exact hno [94] (by simp)
  refine eRS (jS (aLG (aVQ t ok c2 ho rfl (by decide +kernel) (decide_eq_false e)) aOM)) ?_
  show (((n+at0.length:Nat):Int),xs++yY as0)=(((n+(at0++[]).length:Nat):Int),xs++yY (as0++[]))
  rw [List.append_nil,List.append_nil]
 | some dd=>
  have h2:=aZP (u:=[94]) (us:=[[48+dd]]) hdp
  have h3:=aZP (u:=[48+dd]) (us:=[]) h2.2
  have hdd:=hf.2.2 dd rfl
  have e:HD (r.toks.drop (n+at0.length))=("^" : Str):=by rw [h2.1]; decide +kernel
  have hfg:sgn FIG=yY eOU:=by unfold sgn yY; rw [show FIG.cps.toList=[48,49,50,51,52,53,54,55,56,57] by decide +kernel]; rfl
  refine jS (aTE (aVQ t ok c2 ho rfl (by decide +kernel) (decide_eq_true e)) (zJ (vU (aTI t ok c3 rfl)) (jS ?_)))
  refine zto (aIL t ok 0 rfl (EvEZ.eq (eIQ (s:=(((n+at0.length+1:Nat):Int),xs++yY as0)) (EvE.z ev_str) (jB t ok c4 (qJ (EvE.z (yA t 0 rfl)) (qJ (EvE.z (EvE.eq (EvN.toE (eDB t b1 (aNN t gF') (by decide))) (by rw [hfg]))) (EvA.z yE))) ⟨n+at0.length+1,[48+dd],eOU,post,.inl rfl,rfl,h2.2,eIO dd hdd,(by decide),rfl,rfl⟩) (by rw [wV,show ("^" : Str).length=1 by decide +kernel]; exact Nat.le_trans (show 1+1<=10 by decide) (by decide))) (show D.str (("^" : Str)++S [48+dd]) = .str (S [94,48+dd]) by rw [show ("^" : Str)=S [94] by decide +kernel,eDL]; rfl)) (sz (by have:(eBN (some dd)).length=1:=rfl; show (xs++yY as0).length < 10000; omega))) ?_
  refine Prod.ext ?_ ?_
  ·show ((n+at0.length+1:Nat):Int)+1=_
   simp [eBM]; omega
  ·show xs++yY as0++[D.str (S [94,48+dd])]=_
   simp [yY,eBN]
theorem eKZ {R:AtR} (hR:eQX R) {f:Fac} {post:List Str} (hf:aEC R f):HD (sm (tkW f)++post)≠("-" : Str):=fun e=>by
 rw [show ("-" : Str)=S [45] by decide +kernel] at e
 obtain ⟨u,us,eu,ne⟩:=hR _ _ hf.2.1
 unfold tkW at e
 rw [eu] at e
 exact ne (aBM (a:=u) e)
theorem aZA {ts:List Str} {n m:Nat} {w:List (List Nat)} {post:List Str} (h:ts.drop n=sm (List.replicate m [45]++w)++post) (i:Nat) (hi:i<=m):ts.drop (n+i)=sm (List.replicate (m - i) [45]++w)++post:=by
 rw [show List.replicate m [45]=List.replicate i [45]++List.replicate (m - i) [45] by rw [List.replicate_append_replicate]; congr 1; omega,List.append_assoc,aFD,List.append_assoc] at h
 have:=aCJ h
 rw [aGI,List.length_replicate] at this
 exact this
theorem aLC {R:AtR} (hR:eQX R) (h:DefX P w K mg base k N_read_factor (yC qD) X) (c1:zM X "read_power" (aBF R)) (c2:zM X "next_token" zW) (c3:zM X "take_token" zV) (gM:∃ tk,mg "MOST_MINUSES" = some (.int 20 tk)) :
  ∀ (r:aKD),aKB X.K r->∀ ds s d s',aAE R r.toks ds s d s'->EvZ (RdS r) X (.val (.adr r.p) :: ds.map Sl.val++List.replicate (N_read_factor.length - (ds.length+1)) Sl.un) (yF qD) (.rt d) s s'\/(d = .non/\∃ ρ',EvZ (RdS r) X (.val (.adr r.p) :: ds.map Sl.val++List.replicate (N_read_factor.length - (ds.length+1)) Sl.un) (yF qD) (.nx ρ') s s'):=by
 rintro r ok ds ⟨i,xs⟩ d s' ⟨ho,n,f,post,rfl,hn,hf,hd,hno,hz,rfl,rfl⟩
 have t:=h.at'
 haveI:=h.fnT
 have gM':∃ tk,X.mg "MOST_MINUSES" = some (.int 20 tk):=by rw [h.mg']; exact gM
 have hn':i=(n:Int):=hn
 subst hn'
 have hm:=hf.1
 have hz':xs.length+(stW f++mnS f.mins).length < 10000:=hz
 rw [List.length_append] at hz'
 have hdm:∀ i,i<=f.mins->r.toks.drop (n+i)=sm (List.replicate (f.mins - i) [45]++tkW f)++post:=aZA hd
 refine .inr ⟨rfl,[.val (.adr r.p),.val (.int f.mins)],?_⟩
 show EvZ (RdS r) X [.val (.adr r.p),.un] _ _ ((n:Int),xs) (((n+(tkF f).length:Nat):Int),xs++yY (sfF f))
 refine zJ (EvS.z (zK t 1 yD)) (zJ (ρ1:=[.val (.adr r.p),.val (.int f.mins)]) (s1:=(((n+f.mins:Nat):Int),xs)) (aHX t (fun i=>[.val (.adr r.p),.val (.int i)]) (fun i=>(((n+i:Nat):Int),xs)) f.mins (fun i hi=>?_) ?_ rfl rfl rfl rfl) ?_)
 ·have e:HD (r.toks.drop (n+i))=("-" : Str):=by
   rw [hdm i (by omega),show f.mins - i=(f.mins - i - 1)+1 by omega,List.replicate_succ]
   exact (show ("-" : Str)=S [45] by decide +kernel).symm
  exact ⟨aVQ t ok c2 ho rfl (by decide +kernel) (decide_eq_true e),zJ (vU (aTI t ok c3 rfl)) (jS (EvS.z (aLM t 1 rfl yD (by rw [Int.natCast_add]; rfl))))⟩
 ·have e:HD (r.toks.drop (n+f.mins))≠("-" : Str):=by
   rw [hdm f.mins (Nat.le_refl _),Nat.sub_self]
   exact eKZ hR hf
  exact aVQ t ok c2 ho rfl (by decide +kernel) (decide_eq_false e)
 ·have hdw:r.toks.drop (n+f.mins)=sm (tkW f)++post:=by
   have:=hdm f.mins (Nat.le_refl _)
   rw [Nat.sub_self] at this
   exact this
  have el:(tkF f).length=f.mins+(tkW f).length:=by simp [tkF]
  refine zJ (EvS.z (wM (EvT.eq (aEB (yA t 1 rfl) (aNP t gM')) (by rw [decide_eq_false_iff_not]; omega)) qQ)) (zJ (s1:=(((n+(tkF f).length:Nat):Int),xs++yY (stW f))) (vU (jB t ok c1 (qJ (EvE.z (yA t 0 rfl)) (EvA.z yE)) ⟨ho,n+f.mins,f,post,rfl,rfl,hf,hdw,hno,by show xs.length+_ < _; omega,rfl,by rw [el,Nat.add_assoc]⟩)) (jS ?_))
  by_cases e:f.mins % 2=1
  ·refine aTE (EvT.z (EvT.eq (eFU (aZU (k:=1) (yA t 1 rfl) yD)) (by rw [show (f.mins:Int) % 2 ^ 1=1 by omega]; rfl))) (jS (zto (aIL t ok 0 rfl (EvE.z ev_str) (sz (by show (xs++yY (stW f)).length < _; rw [List.length_append,yV]; omega))) ?_))
   refine Prod.ext rfl ?_
   show xs++yY (stW f)++[D.str "minus"]=xs++yY (stW f++mnS f.mins)
   rw [jQ,List.append_assoc,show mnS f.mins=[[109,105,110,117,115]] by unfold mnS; rw [if_pos e]]
   rw [show ("minus" : Str)=S [109,105,110,117,115] by decide +kernel]
   rfl
  ·refine zto (aLG (EvT.z (EvT.eq (eFU (aZU (k:=1) (yA t 1 rfl) yD)) (by rw [show (f.mins:Int) % 2 ^ 1=0 by omega]; rfl))) aOM) ?_
   show _=(_,xs++yY (stW f++mnS f.mins))
   rw [show mnS f.mins=[] by unfold mnS; rw [if_neg e],List.append_nil]
theorem aMB:∀ a b:List Fac,aFA (a++b)=aFA a++aFA b
 | [],b=>rfl
 | f :: a,b=>by show [42] :: (tkF f++aFA (a++b))=_; rw [aMB a b]; simp [aFA]
theorem aHL:∀ a b:List Fac,aKE (a++b)=aKE a++aKE b
 | [],b=>rfl
 | f :: a,b=>by show sfF f++([42] :: aKE (a++b))=_; rw [aHL a b]; simp [aKE]
theorem aHJ:∀ a b:List (Bool × Prd),aEK (a++b)=aEK a++aEK b
 | [],b=>rfl
 | f :: a,b=>by show sgW f.1 :: (tkP f.2++aEK (a++b))=_; rw [aHJ a b]; simp [aEK]
theorem aFC:∀ a b:List (Bool × Prd),aIC (a++b)=aIC a++aIC b
 | [],b=>rfl
 | f :: a,b=>by show stP f.2++(sgW f.1 :: aIC (a++b))=_; rw [aFC a b]; simp [aIC]
theorem tk1 {α:Type} (xs:List α) {i:Nat} (h:i < xs.length):xs.take (i+1)=xs.take i++[xs[i]]:=by rw [List.take_succ,List.getElem?_eq_getElem h]; rfl
theorem eGN:S [42]≠S [94]:=fun e=>by have:=aBM e; cases this
theorem aYL:∀ b,S (sgW b)≠S [94]/\S (sgW b)≠S [42]:=fun b=>by cases b <;> exact ⟨fun e=>(by have:=aBM e; cases this),fun e=>(by have:=aBM e; cases this)⟩
theorem eMG {fs:List Fac} {post:List Str} (h:No [[94],[42]] post):No [[94]] (sm (aFA fs)++post):=fun u hu=>by
 simp at hu
 subst hu
 cases fs with
 | nil=>exact h [94] (by simp)
 | cons f fs=>exact eGN
theorem eMF {qs:List (Bool × Prd)} {post:List Str} (h:No [[94],[42],[43],[45]] post):No [[94],[42]] (sm (aEK qs)++post):=fun u hu=>by
 cases qs with
 | nil=>
  have hu':u=[94]\/u=[42]:=by simpa using hu
  rcases hu' with rfl | rfl
  ·exact h [94] (by simp)
  ·exact h [42] (by simp)
 | cons q qs=>
  have hu':u=[94]\/u=[42]:=by simpa using hu
  rcases hu' with rfl | rfl
  ·exact (aYL q.1).1
  ·exact (aYL q.1).2
theorem aJT {R:AtR} (h:DefX P w K mg base k N_read_product (yC zT) X) (c1:zM X "read_factor" (aAE R)) (c2:zM X "next_token" zW) (c3:zM X "take_token" zV) :
  ∀ (r:aKD),aKB X.K r->∀ ds s d s',wD R r.toks ds s d s'->EvZ (RdS r) X (.val (.adr r.p) :: ds.map Sl.val++List.replicate (N_read_product.length - (ds.length+1)) Sl.un) (yF zT) (.rt d) s s'\/(d = .non/\∃ ρ',EvZ (RdS r) X (.val (.adr r.p) :: ds.map Sl.val++List.replicate (N_read_product.length - (ds.length+1)) Sl.un) (yF zT) (.nx ρ') s s'):=by
 rintro r ok ds ⟨i,xs⟩ d s' ⟨ho,n,⟨f,fs⟩,post,rfl,hn,hf,hd,hno,hz,rfl,rfl⟩
 have t:=h.at'
 haveI:=h.fnT
 have hn':i=(n:Int):=hn
 subst hn'
 have hz':xs.length+(sfF f++aKE fs).length < 10000:=hz
 rw [List.length_append] at hz'
 have hd':r.toks.drop n=sm (tkF f)++(sm (aFA fs)++post):=by rw [<- List.append_assoc,<- aFD]; exact hd
 have hd2:r.toks.drop (n+(tkF f).length)=sm (aFA fs)++post:=by have:=aCJ hd'; rw [aGI] at this; exact this
 refine .inr ⟨rfl,[.val (.adr r.p)],?_⟩
 show EvZ (RdS r) X [.val (.adr r.p)] _ _ ((n:Int),xs) (((n+(tkF f++aFA fs).length:Nat):Int),xs++yY (sfF f++aKE fs))
 have dr:∀ i,i<=fs.length->r.toks.drop (n+(tkF f).length+(aFA (fs.take i)).length)=sm (aFA (fs.drop i))++post:=fun i hi=>by
  have e:aFA fs=aFA (fs.take i)++aFA (fs.drop i):=by rw [<- aMB,List.take_append_drop]
  rw [e,aFD,List.append_assoc] at hd2
  have:=aCJ hd2
  rw [aGI] at this
  exact this
 have zl:∀ i,i<=fs.length->(aKE (fs.take i)).length<=(aKE fs).length:=fun i hi=>by
  have e:aKE fs=aKE (fs.take i)++aKE (fs.drop i):=by rw [<- aHL,List.take_append_drop]
  rw [e,List.length_append]; omega
 refine zJ (s1:=(((n+(tkF f).length:Nat):Int),xs++yY (sfF f))) (vU (jB t ok c1 (qJ (EvE.z (yA t 0 rfl)) (EvA.z yE)) ⟨ho,n,f,sm (aFA fs)++post,rfl,rfl,hf.1,hd',eMG hno,by show xs.length+_ < _; omega,rfl,rfl⟩)) (jS (aHX t (fun _=>[.val (.adr r.p)]) (fun i=>(((n+(tkF f).length+(aFA (fs.take i)).length:Nat):Int),xs++yY (sfF f++aKE (fs.take i)))) fs.length (fun i hi=>?_) ?_ rfl ?_ rfl ?_))
 ·have d0:=dr i (by omega)
  rw [show fs.drop i=fs[i] :: fs.drop (i+1) by rw [List.drop_eq_getElem_cons hi]] at d0
  have h1:=aZP (u:=[42]) (us:=tkF fs[i]++aFA (fs.drop (i+1))) d0
  have e:HD (r.toks.drop (n+(tkF f).length+(aFA (fs.take i)).length))=("*" : Str):=by rw [h1.1]; decide +kernel
  have h2:=h1.2
  rw [aFD,List.append_assoc] at h2
  have zi:=zl (i+1) (by omega)
  rw [tk1 fs hi,aHL,List.length_append] at zi
  have zi':(aKE [fs[i]]).length=(sfF fs[i]).length+1:=by simp [aKE]
  refine ⟨aVQ t ok c2 ho rfl (by decide +kernel) (decide_eq_true e),zJ (vU (aTI t ok c3 rfl)) (zJ (vU (jB t ok c1 (qJ (EvE.z (yA t 0 rfl)) (EvA.z yE)) ⟨ho,n+(tkF f).length+(aFA (fs.take i)).length+1,fs[i],sm (aFA (fs.drop (i+1)))++post,rfl,rfl,hf.2 _ (List.getElem_mem hi),h2,eMG hno,?_,rfl,rfl⟩)) (jS (zto (aIL t ok 0 rfl (EvE.z ev_str) (sz ?_)) ?_)))⟩
  ·show (xs++yY _).length+_ < _
   rw [List.length_append,yV,List.length_append]; omega
  ·show (xs++yY _++yY _).length < _
   rw [List.length_append,List.length_append,yV,yV,List.length_append]; omega
  ·refine Prod.ext ?_ ?_
   ·show (((_:Nat)):Int)=_
    rw [tk1 fs hi,aMB]
    simp [aFA]; omega
   ·show xs++yY _++yY _++[D.str "*"]=xs++yY _
    rw [tk1 fs hi,aHL,show ("*" : Str)=S [42] by decide +kernel]
    simp [yY,aKE]
 ·have d0:=dr fs.length (Nat.le_refl _)
  rw [List.drop_length] at d0
  have e:HD (r.toks.drop (n+(tkF f).length+(aFA (fs.take fs.length)).length))≠("*" : Str):=by
   rw [d0,show ("*" : Str)=S [42] by decide +kernel]
   exact hno [42] (by simp)
  exact aVQ t ok c2 ho rfl (by decide +kernel) (decide_eq_false e)
 ·show _=_
  simp [aFA,aKE]
  rfl
 ·show _=_
  rw [List.take_length,List.length_append,Nat.add_assoc]
theorem ePT (w:Str):((toPs [D.str "+",.str "-"]).any fun y=>PyData.eqv y (toP (.str w)))=(decide (w = "+") || decide (w = "-")):=eRK "+" "-" w
end
section
variable {X:Cx} {ρ:Rho} {r:aKD} {p py pos p2 p3 p4 pos':Pos} {j j2 kk:Nat} {N:List Str} {sc:Scope} {n:Nat} {xs:List D}
theorem eMD (t:At X N sc) (ok:aKB X.K r) (c2:zM X "next_token" zW) (ho:∀ x∈r.toks,PyData.strOk x=true) {b:Bool} (hr:ρ[0]? = some (.val (.adr r.p))) (hb:(decide (HD (r.toks.drop n) = "+") || decide (HD (r.toks.drop n) = "-"))=b) (hN:N[0]? = some ("reader" : Str):=by rfl) (hv:aDQ sc ("reader" : Str)=true:=by rfl) (hx:qK ("reader" : Str)=true:=by rfl) (hg:sc.names.lookup ("next_token" : Str)=some .globalImplicit:=by rfl) :
  EvTZ (RdS r) X ρ (.Compare (.Call (.Name "next_token" p) [.Name "reader" py] [] pos) [.In] [.Tuple [.Constant (.str "+") j p2,.Constant (.str "-") j2 p3] kk p4] pos') b ((n:Int),xs) ((n:Int),xs):=
 ePA (S:=RdS r) (xs:=[.str "+",.str "-"]) t (jB (s:=((n:Int),xs)) (s1:=((n:Int),xs)) (s':=((n:Int),xs)) t ok c2 (qJ (EvE.z (yA t 0 hr hN hv hx)) (EvA.z yE)) ⟨n,rfl,rfl,rfl,rfl⟩ hg) (EvE.z (yM (yB ev_str (yB ev_str yE)))) (aAR (eND ho n)) (vK _) (by decide +kernel) (by rw [ePT]; exact hb)
end
section
variable {P:Program} {w:World} {K:PySem.W.Frag} {mg:Str->Option Value} {base:Heap} {k:Nat} {X:Cx}
theorem aSO {R:AtR} (h:DefX P w K mg base k N_read_sum (yC qP) X) (c1:zM X "read_product" (wD R)) (c2:zM X "next_token" zW) (c3:zM X "take_token" zV) :
  ∀ (r:aKD),aKB X.K r->∀ ds s d s',wB R r.toks ds s d s'->EvZ (RdS r) X (.val (.adr r.p) :: ds.map Sl.val++List.replicate (N_read_sum.length - (ds.length+1)) Sl.un) (yF qP) (.rt d) s s'\/(d = .non/\∃ ρ',EvZ (RdS r) X (.val (.adr r.p) :: ds.map Sl.val++List.replicate (N_read_sum.length - (ds.length+1)) Sl.un) (yF qP) (.nx ρ') s s'):=by
 rintro r ok ds ⟨i,xs⟩ d s' ⟨ho,n,⟨f,fs⟩,post,rfl,hn,hf,hd,hno,hz,rfl,rfl⟩
 have t:=h.at'
 haveI:=h.fnT
 have hn':i=(n:Int):=hn
 subst hn'
 have hz':xs.length+(stP f++aIC fs).length < 10000:=hz
 rw [List.length_append] at hz'
 have hd':r.toks.drop n=sm (tkP f)++(sm (aEK fs)++post):=by rw [<- List.append_assoc,<- aFD]; exact hd
 have hd2:r.toks.drop (n+(tkP f).length)=sm (aEK fs)++post:=by have:=aCJ hd'; rw [aGI] at this; exact this
 refine .inr ⟨rfl,[.val (.adr r.p),.un],?_⟩
 show EvZ (RdS r) X [.val (.adr r.p),.un] _ _ ((n:Int),xs) (((n+(tkP f++aEK fs).length:Nat):Int),xs++yY (stP f++aIC fs))
 have dr:∀ i,i<=fs.length->r.toks.drop (n+(tkP f).length+(aEK (fs.take i)).length)=sm (aEK (fs.drop i))++post:=fun i hi=>by
  have e:aEK fs=aEK (fs.take i)++aEK (fs.drop i):=by rw [<- aHJ,List.take_append_drop]
  rw [e,aFD,List.append_assoc] at hd2
  have:=aCJ hd2
  rw [aGI] at this
  exact this
 have zl:∀ i,i<=fs.length->(aIC (fs.take i)).length<=(aIC fs).length:=fun i hi=>by
  have e:aIC fs=aIC (fs.take i)++aIC (fs.drop i):=by rw [<- aFC,List.take_append_drop]
  rw [e,List.length_append]; omega
 refine zJ (s1:=(((n+(tkP f).length:Nat):Int),xs++yY (stP f))) (vU (jB t ok c1 (qJ (EvE.z (yA t 0 rfl)) (EvA.z yE)) ⟨ho,n,f,sm (aEK fs)++post,rfl,rfl,hf.1,hd',eMF hno,by show xs.length+_ < _; omega,rfl,rfl⟩)) (jS (aHX t (fun _=>[.val (.adr r.p),.un]) (fun i=>(((n+(tkP f).length+(aEK (fs.take i)).length:Nat):Int),xs++yY (stP f++aIC (fs.take i)))) fs.length (fun i hi=>?_) ?_ rfl ?_ rfl ?_))
 ·have d0:=dr i (by omega)
  rw [show fs.drop i=fs[i] :: fs.drop (i+1) by rw [List.drop_eq_getElem_cons hi]] at d0
  have h1:=aZP (u:=sgW fs[i].1) (us:=tkP fs[i].2++aEK (fs.drop (i+1))) d0
  have e:(decide (HD (r.toks.drop (n+(tkP f).length+(aEK (fs.take i)).length)) = "+") || decide (HD (r.toks.drop (n+(tkP f).length+(aEK (fs.take i)).length)) = "-"))=true:=by
   rw [h1.1]
   cases fs[i].1 <;> decide +kernel
  have h2:=h1.2
  rw [aFD,List.append_assoc] at h2
  have zi:=zl (i+1) (by omega)
  rw [tk1 fs hi,aFC,List.length_append] at zi
  have zi':(aIC [fs[i]]).length=(stP fs[i].2).length+1:=by simp [aIC]
  refine ⟨eMD t ok c2 ho rfl e,EvZ.weak (zJ (aLF t 1 (EvEZ.eq (aTI t ok c3 rfl) (by rw [h1.1]))) (zJ (vU (jB t ok c1 (qJ (EvE.z (yA t 0 rfl)) (EvA.z yE)) ⟨ho,n+(tkP f).length+(aEK (fs.take i)).length+1,fs[i].2,sm (aEK (fs.drop (i+1)))++post,rfl,rfl,hf.2 _ (List.getElem_mem hi),h2,eMF hno,?_,rfl,rfl⟩)) (jS (zto (aIL t ok 0 rfl (EvE.z (yA t 1 rfl)) (sz ?_)) ?_)))) (.keep (.forget .nil))⟩
  ·show (xs++yY _).length+_ < _
   rw [List.length_append,yV,List.length_append]; omega
  ·show (xs++yY _++yY _).length < _
   rw [List.length_append,List.length_append,yV,yV,List.length_append]; omega
  ·refine Prod.ext ?_ ?_
   ·show (((_:Nat)):Int)=_
    rw [tk1 fs hi,aHJ]
    simp [aEK]; omega
   ·show xs++yY _++yY _++[D.str _]=xs++yY _
    rw [tk1 fs hi,aFC]
    simp [yY,aIC]
 ·have d0:=dr fs.length (Nat.le_refl _)
  rw [List.drop_length] at d0
  refine eMD t ok c2 ho rfl ?_
  rw [d0,Bool.or_eq_false_iff,decide_eq_false_iff_not,decide_eq_false_iff_not,show ("+" : Str)=S [43] by decide +kernel,show ("-" : Str)=S [45] by decide +kernel]
  exact ⟨hno [43] (by simp),hno [45] (by simp)⟩
 ·show _=_
  simp [aEK,aIC]
  rfl
 ·show _=_
  rw [List.take_length,List.length_append,Nat.add_assoc]
def AR:Nat->AtR
 | 0=>fun _ _=>False
 | n+1=>fun tk st=>(∃ u,RunW u/\tk=[u]/\st=[u])\/∃ T:Trm,TrmOk (AR n) T/\tk=[40] :: (tkT T++[[41]])/\st=stT T
theorem aTO {u:List Nat} (h:RunW u) {c:Nat} (hc:c < 48):u≠[c]:=fun e=>by
 subst e
 rcases h with h | h | h
 ·have:=h.2.1 c (List.mem_singleton.mpr rfl); omega
 ·cases h; omega
 ·cases h; omega
theorem eQJ:∀ n,eQX (AR n)
 | 0,_,_,h=>h.elim
 | n+1,tk,st,h=>by
  rcases h with ⟨u,hu,rfl,rfl⟩ | ⟨T,hT,rfl,rfl⟩
  ·exact ⟨u,[],rfl,aTO hu (by decide)⟩
  ·exact ⟨[40],_,rfl,by decide⟩
theorem aQP {n:Nat} (h:DefX P w K mg base k N_read_atom (yC jL) X) (c1:zM X "take_token" zV) (c2:zM X "read_sum" (wB (AR n))) (c3:zM X "take_one_of" vM) (c4:Callee X "is_number" aCR) :
  ∀ (r:aKD),aKB X.K r->∀ ds s d s',aCQ (AR (n+1)) r.toks ds s d s'->EvZ (RdS r) X (.val (.adr r.p) :: ds.map Sl.val++List.replicate (N_read_atom.length - (ds.length+1)) Sl.un) (yF jL) (.rt d) s s'\/(d = .non/\∃ ρ',EvZ (RdS r) X (.val (.adr r.p) :: ds.map Sl.val++List.replicate (N_read_atom.length - (ds.length+1)) Sl.un) (yF jL) (.nx ρ') s s'):=by
 rintro r ok ds ⟨i,xs⟩ d s' ⟨ho,n,⟨at0,as0⟩,post,rfl,hn,hf,hd,hno,hz,rfl,rfl⟩
 have t:=h.at'
 haveI:=h.fnT
 have hn':i=(n:Int):=hn
 subst hn'
 rcases hf with ⟨u,hu,e1,e2⟩ | ⟨T,hT,e1,e2⟩
 ·have e1':at0=[u]:=e1
  have e2':as0=[u]:=e2
  subst e1' e2'
  have hd1:r.toks.drop n=S u :: post:=hd
  have hne:S u≠("(" : Str):=fun e=>by
   rw [show ("(" : Str)=S [40] by decide +kernel] at e
   exact aTO hu (by decide) (aBM e)
  have hz':xs.length+1 < 10000:=hz
  refine .inr ⟨rfl,[.val (.adr r.p),.val (.str (S u))],?_⟩
  show EvZ (RdS r) X [.val (.adr r.p),.un] _ _ _ (((n+1:Nat):Int),xs++[.str (S u)])
  refine zJ (aLF t 1 (jB (d:=.str (S u)) (s':=(((n+1:Nat):Int),xs)) t ok c1 (qJ (EvE.z (yA t 0 rfl)) (EvA.z yE)) ⟨n,rfl,rfl,by rw [(dh hd1).1],by rw [Int.natCast_add]; rfl⟩)) (jS (aLG (EvT.z (EvT.eq (jP t (yA t 1 rfl) ev_str (aKA hu.lt)) (decide_eq_false hne))) (jS (aTE (EvT.z ?_) (jS (aIL t ok 0 rfl (EvE.z (yA t 1 rfl)) (sz (by show xs.length < 10000; omega))))))))
  rcases id hu with hh | hh
  ·exact EvT.eq (aLV (u:=true) (v:=true) (aHF (yU t c4 (yB (yA t 1 rfl) yE) ⟨u,rfl,hu,.inl ⟨hh,rfl⟩⟩)) (fun z=>nomatch z)) rfl
  ·exact EvT.eq (aLV (u:=false) (aHF (yU t c4 (yB (yA t 1 rfl) yE) ⟨u,rfl,hu,.inr ⟨hh,rfl⟩⟩)) (fun _=>eNR t (yA t 1 rfl) (aKA hu.lt))) (by rcases hh with rfl | rfl <;> decide +kernel)
 ·have e1':at0=[40] :: (tkT T++[[41]]):=e1
  have e2':as0=stT T:=e2
  subst e1' e2'
  have h1:=aZP (u:=[40]) (us:=tkT T++[[41]]) hd
  have h2:r.toks.drop (n+1)=sm (tkT T)++(S [41] :: post):=by rw [h1.2,aFD,List.append_assoc]; rfl
  have h3:=aCJ h2
  rw [aGI] at h3
  refine .inr ⟨rfl,[.val (.adr r.p),.val (.str "(")],?_⟩
  show EvZ (RdS r) X [.val (.adr r.p),.un] _ _ _ _
  refine zJ (aLF t 1 (jB (d:=.str "(") (s':=(((n+1:Nat):Int),xs)) t ok c1 (qJ (EvE.z (yA t 0 rfl)) (EvA.z yE)) ⟨n,rfl,rfl,by rw [h1.1,show ("(" : Str)=S [40] by decide +kernel],by rw [Int.natCast_add]; rfl⟩)) (jS (aTE (EvT.z (EvT.eq (jP t (yA t 1 rfl) ev_str (by decide +kernel)) (by decide +kernel))) (zJ (s1:=(((n+1+(tkT T).length:Nat):Int),xs++yY (stT T))) (vU (jB t ok c2 (qJ (EvE.z (yA t 0 rfl)) (EvA.z yE)) ⟨ho,n+1,T,S [41] :: post,rfl,rfl,hT,h2,fun u hu=>?_,hz,rfl,rfl⟩)) (jS (zto (vU (jB t ok c3 (qJ (EvE.z (yA t 0 rfl)) (qJ (EvE.z (yM (yB ev_str yE))) (EvA.z yE))) ⟨n+1+(tkT T).length,[41],[[41]],post,.inr (by rw [show (")" : Str)=S [41] by decide +kernel]; rfl),rfl,h3,by simp,(by decide),rfl,rfl⟩)) ?_)))))
  ·have hu':u=[94]\/u=[42]\/u=[43]\/u=[45]:=by simpa using hu
   show S [41]≠S u
   rcases hu' with rfl | rfl | rfl | rfl <;> exact fun e=>(by have:=aBM e; cases this)
  ·refine Prod.ext ?_ rfl
   show ((n+1+(tkT T).length:Nat):Int)+1=_
   simp; omega
end
section
variable {X:Cx} {ρ:Rho} {q:Addr} {xs xs1:List D} {e:Expr} {es:List Expr} {d:D} {ds:List D} {p pos:Pos} {N:List Str} {sc:Scope} {x:Str}
theorem aUS (t:At X N sc) {C:List D->D->Prop} (h:EV.Callee X x C) (ha:eOM X q ρ (e :: es) ds xs xs1) (hC:C ds d) (hg:sc.names.lookup x=some .globalImplicit:=by rfl) (hdb:(x == ("__debug__" : Str))=false:=by rfl) :
  EvEM X q ρ (.Call (.Name x p) (e :: es) [] pos) d xs xs1:=fun B F0 H σ Q us l k w=>.mk fun pins s I=>by
 obtain ⟨f,fd,ps,kk,F,hr',hm,hk,hb⟩:=h
 have pz:aBZ CX0 X E0:=aPJ
 refine aEQ F hr' (vZ t hg) hm hk hb .nil pz aVP hdb (ha.1.1 _ _) (PlA.any ha.1.2) pins s σ H Q I (ha.2 B F0 H σ _ us l k fun vs F1 H1 u1 x1 r1 rv=>?_)
 have k1:=k.extM l x1
 refine ⟨F1,ds,d,k1.sub,by rw [List.append_nil]; exact rv,hC,fun v F2 H2 x2 rv2=>w v F2 H2 u1 (x1.tM (l.ff k) (x2.toM (k1.sh _ _ yH))) (r1.mono x2.sf) rv2⟩
end
def eBK (ts:List (List Nat)):Prop:=∀ i,i<=ts.length->aQG [40] [41] (ts.take i)<=20/\aQG [91] [93] (ts.take i)<=20
def aCP (ds:List D) (toks:List Str):Prop:=∃ (cs:List Nat) (ts:List (List Nat)) (m:Nat),ds=[.str (S cs),.int m]/\Lex cs ts/\(∀ c∈cs,c < 128)/\cs.length<=m/\m<=2000/\(∀ u∈ts,∀ x∈u,x < 128)/\eBK ts/\toks=sm ts
theorem aNC:∀ ds ts,aCP ds ts->ds.length=2:=by rintro _ _ ⟨a,b,c,rfl,_⟩; rfl
section
variable {P:Program} {w:World} {K:PySem.W.Frag} {mg:Str->Option Value} {base:Heap} {k:Nat} {X:Cx}
theorem aQR (h:DefX P w K mg base k N_reader_of (yC qG) X) (m_isinstance:mg "isinstance" = none) (m_str:mg "str" = none) (m_len:mg "len" = none) (c1:EV.Callee X "tokens_of" aCN) (c2:EV.Callee X "refuse_deep" aAD) {C:Addr} (M:MkR X "Reader" C) :
  ∀ ds ts,aCP ds ts->aWN X (ds.map Sl.val++List.replicate (N_reader_of.length - ds.length) Sl.un) (yF qG) ts:=by
 rintro ds r ⟨cs,ts,m,rfl,hl,ha,hm,hz,ht,hd,rfl⟩
 have t:=h.at'
 haveI:=h.fnT
 have b1:Blt X (yC qG) "isinstance" (.builtin "isinstance"):=yP (by rw [h.mg']; exact m_isinstance)
 have b2:Blt X (yC qG) "str" (.type "str"):=yP (by rw [h.mg']; exact m_str)
 have b3:Blt X (yC qG) "len" (.builtin "len"):=yP (by rw [h.mg']; exact m_len)
 show aWN X [.val (.str (S cs)),.val (.int m),.un] _ _
 refine aHU (wM (EvT.eq (aLV (u:=false) (EvT.eq (aLW (aHF (eCY t b1 b2 (yA t 0 rfl) rfl))) rfl) (fun _=>aEB (aAN t b3 (yA t 0 rfl) (sl2 (by omega))) (yA t 1 rfl))) ?_) qQ) ?_
 ·rw [wV,Bool.false_or,decide_eq_false_iff_not]; omega
 refine aHU (zK t 2 (yU t c1 (yB (yA t 0 rfl) yE) ⟨cs,ts,rfl,hl,ha,by omega,rfl⟩)) ?_
 refine aHU (aXQ (yU t c2 (yB (yA t 2 rfl) (yB ev_str (yB ev_str yE))) ⟨ts,[40],[41],rfl,ht,by simp,by simp,fun i hi=>(hd i hi).1,rfl⟩)) ?_
 refine aHU (aXQ (yU t c2 (yB (yA t 2 rfl) (yB ev_str (yB ev_str yE))) ⟨ts,[91],[93],rfl,ht,by simp,by simp,fun i hi=>(hd i hi).2,rfl⟩)) ?_
 refine eCZ t M (EvE.eq (yA t 2 rfl) ?_)
 unfold yY sm
 rw [List.map_map]; rfl
def eHW (u:List Nat):Int:=((PySem.NumText.digitsVal u:Nat):Int)
def atB (u:List Nat):Bd:=if u=[120] then [[0,1]] else if u=[121] then [[],[1]] else if eHW u=0 then [] else [[eHW u]]
def aFU (ds:List D) (d:D):Prop:=∃ u,ds=[.str (S u)]/\RunW u/\d=yO (atB u)
theorem aSC:∀ ds d,aFU ds d->ds.length=1:=by rintro _ _ ⟨a,rfl,_⟩; rfl
theorem eME {u:List Nat} (h:eJQ u):u≠[120]/\u≠[121]:=⟨fun e=>by have:=h.2.1 120 (by rw [e]; simp); omega,fun e=>by have:=h.2.1 121 (by rw [e]; simp); omega⟩
theorem eCM {u:List Nat} (h:eJQ u):PySem.intText? (S u)=some (eHW u):=by
 have:=PySem.intText_digits (x:=S u) (by rw [aCL]; exact h.2.1) (by rw [aCL]; exact h.1) (by rw [wV]; have:=h.2.2.1; omega)
 rw [aCL] at this
 exact this
theorem eBD (h:DefX P w K mg base k N_atom_of (yC wN) X) (m_int:mg "int" = none) :
  ∀ ds d,aFU ds d->EvSs X (ds.map Sl.val++List.replicate (N_atom_of.length - ds.length) Sl.un) (yF wN) (.rt d):=by
 rintro ds r ⟨u,rfl,hu,rfl⟩
 have t:=h.at'
 haveI:=h.fnT
 have b1:Blt X (yC wN) "int" (.type "int"):=yP (by rw [h.mg']; exact m_int)
 have ok:=aKA hu.lt
 have e1:decide (S u=("x" : Str))=decide (u=[120]):=decide_eq_decide.mpr ⟨fun e=>aBM (by rw [e]; decide +kernel),fun e=>by rw [e]; decide +kernel⟩
 have e2:decide (S u=("y" : Str))=decide (u=[121]):=decide_eq_decide.mpr ⟨fun e=>aBM (by rw [e]; decide +kernel),fun e=>by rw [e]; decide +kernel⟩
 show EvSs X [.val (.str (S u)),.un] _ _
 refine eNT (EvT.eq (jP t (yA t 0 rfl) ev_str ok) e1) (fun v=>yJ (zO (EvE.eq (yM (yB (yM (yB yD (yB yD yE))) yE)) ?_))) fun v=>?_
 ·rw [decide_eq_true_eq] at v; subst v; rfl
 rw [decide_eq_false_iff_not] at v
 refine eNT (EvT.eq (jP t (yA t 0 rfl) ev_str ok) e2) (fun v'=>yJ (zO (EvE.eq (yM (yB (yM yE) (yB (yM (yB yD yE)) yE))) ?_))) fun v'=>?_
 ·rw [decide_eq_true_eq] at v'; subst v'; rfl
 rw [decide_eq_false_iff_not] at v'
 have hn:eJQ u:=by
  rcases hu with hh | hh | hh
  ·exact hh
  ·exact absurd hh v
  ·exact absurd hh v'
 refine yG (zK t 1 (aZV t b1 (yA t 0 rfl) (eCM hn) (by rw [wV]; have:=hn.2.2.1; omega))) (yJ (zO ?_))
 unfold atB
 rw [if_neg v,if_neg v']
 by_cases e:eHW u=0
 ·rw [if_pos e]
  exact aPZ (EvT.eq (aUP (yA t 1 rfl) yD) (by rw [e]; rfl)) (yM yE)
 ·rw [if_neg e]
  exact aUO (EvT.eq (aUP (yA t 1 rfl) yD) (by rw [decide_eq_false e]; rfl)) (yM (yB (yM (yB (yA t 1 rfl) yE)) yE))
def aOJ (b:Bd):Nat->Bd
 | 0=>[[1]]
 | i+1=>wJ (aOJ b i) b
def eJP (b:Bd) (m:Nat):Prop:=(∀ i,i < m->SmB 100 (aOJ b i))/\SmB 100 b/\(∀ r∈b,∀ y∈r,-(2 ^ 63) < y/\y < 2 ^ 63)
def jU (ds:List D) (d:D):Prop:=∃ (b:Bd) (m:Nat),ds=[yO b,.int m]/\m<=9/\eJP b m/\d=yO (aOJ b m)
theorem aFK:∀ ds d,jU ds d->ds.length=2:=by rintro _ _ ⟨a,b,rfl,_⟩; rfl
theorem aHG (h:DefX P w K mg base k N_power_of_board (yC zF) X) (m_range:mg "range" = none) (c1:EV.Callee X "board_times" vN) :
  ∀ ds d,jU ds d->EvSs X (ds.map Sl.val++List.replicate (N_power_of_board.length - ds.length) Sl.un) (yF zF) (.rt d):=by
 rintro ds r ⟨b,m,rfl,hm,hb,rfl⟩
 have t:=h.at'
 haveI:=h.fnT
 have b1:Blt X (yC zF) "range" (.type "range"):=yP (by rw [h.mg']; exact m_range)
 show EvSs X [.val (yO b),.val (.int m),.un,.un] _ _
 refine yG (zK t 2 (yM (yB (yM (yB yD yE)) yE))) (yG (aCW t (jT t b1 (yA t 1 rfl) (by omega) (by omega)) (FRun.uptoE (ρ':=[.val (yO b),.val (.int m),.val (yO (aOJ b m)),.un]) (fun i=>[.val (yO b),.val (.int m),.val (yO (aOJ b i)),.un]) (fun j d e=>?_) rfl ?_)) (yJ (zO (yA t 2 rfl))))
 ·have hj:j < m:=by
   have:=(List.getElem?_eq_some_iff.mp e).1
   simpa [jO] using this
  exact ⟨_,zA t 3,EvSs.weak (yJ (zK t 2 (yU t c1 (yB (yA t 2 rfl) (yB (yA t 0 rfl) yE)) ⟨aOJ b j,b,rfl,hb.1 j hj,hb.2.1,hb.2.2,rfl⟩))) (.keep (.keep (.keep (.forget .nil))))⟩
 ·simp [jO]
inductive StepR:List Nat->List Bd->List Bd->Prop where
 | atom {u:List Nat} {st:List Bd}:RunW u->StepR u st (st++[atB u])
 | add {st:List Bd} {a b:Bd}:SmB 1000 a->SmB 1000 b->StepR [43] (st++[a]++[b]) (st++[aDD a b])
 | sub {st:List Bd} {a b:Bd}:SmB 1000 a->SmB 1000 b->StepR [45] (st++[a]++[b]) (st++[aDD a (aRZ b)])
 | mul {st:List Bd} {a b:Bd}:SmB 100 a->SmB 100 b->(∀ r∈b,∀ y∈r,-(2 ^ 63) < y/\y < 2 ^ 63)->StepR [42] (st++[a]++[b]) (st++[wJ a b])
 | neg {st:List Bd} {b:Bd}:SmB 1000 b->StepR [109,105,110,117,115] (st++[b]) (st++[aDD [] (aRZ b)])
 | pow {st:List Bd} {b:Bd} {d:Nat}:eJP b d->d<=9->StepR [94,48+d] (st++[b]) (st++[aOJ b d])
def wZ (d0:D) (xs xs':List D):Prop:=∃ (u:List Nat) (st st':List Bd),d0 = .str (S u)/\StepR u st st'/\st.length < 10000/\xs=st.map yO/\xs' = st'.map yO
theorem sm0:SmB 1000 []:=⟨by decide,fun r h=>nomatch h⟩
theorem pmt (w:Str):((toPs [D.str "+",.str "-",.str "*"]).any fun y=>PyData.eqv y (toP (.str w)))=(decide (w = "+") || (decide (w = "-") || decide (w = "*"))):=by
 show ((("+" : Str) == w) || ((("-" : Str) == w) || ((("*" : Str) == w) || false)))=_
 rw [aDP,aDP,aDP,Bool.or_false,decide_eq_decide.mpr (show ("+" : Str)=w ↔ w = "+" from eq_comm),decide_eq_decide.mpr (show ("-" : Str)=w ↔ w = "-" from eq_comm),decide_eq_decide.mpr (show ("*" : Str)=w ↔ w = "*" from eq_comm)]
theorem aXT {u:List Nat} (h:RunW u):∃ c cs,u=c :: cs/\((48<=c/\c<=57)\/(c=120/\cs=[])\/(c=121/\cs=[])):=by
 rcases h with h | rfl | rfl
 ·cases u with
  | nil=>exact absurd rfl h.1
  | cons c cs=>exact ⟨c,cs,rfl,.inl (h.2.1 c (by simp))⟩
 ·exact ⟨_,_,rfl,.inr (.inl ⟨rfl,rfl⟩)⟩
 ·exact ⟨_,_,rfl,.inr (.inr ⟨rfl,rfl⟩)⟩
theorem eBV {u v:List Nat} {z:Str} (hz:z=S v) (h:u≠v):decide (S u=z)=false:=decide_eq_false fun e=>h (aBM (e.trans hz))
theorem zp:("+" : Str)=S [43]:=by decide +kernel
theorem zm:("-" : Str)=S [45]:=by decide +kernel
theorem zt:("*" : Str)=S [42]:=by decide +kernel
theorem zn:("minus" : Str)=S [109,105,110,117,115]:=by decide +kernel
theorem zc:("^" : Str)=S [94]:=by decide +kernel
theorem mto {X:Cx} {q:Addr} {ρ:Rho} {st:Stmt} {o:Out} {s a b:List D} (h:aTC X q ρ st o s a) (e:a=b):aTC X q ρ st o s b:=e ▸ h
theorem aGG (h:DefX P w K mg base k N_take_term_step (yC zE) X) (m_int:mg "int" = none) (c1:EV.Callee X "board_times" vN) (c2:EV.Callee X "board_minus" aAF) (c3:EV.Callee X "board_plus" wX) (c4:EV.Callee X "power_of_board" jU) (c5:EV.Callee X "atom_of" aFU) :
  ∀ q d0 xs xs',wZ d0 xs xs'->∃ ρ',EvM X q (.val d0 :: .val (.adr q) :: List.replicate (N_take_term_step.length - 2) Sl.un) (yF zE) (.nx ρ') xs xs':=by
 rintro q d0 xs xs' ⟨u,st,st',rfl,hs,hl,rfl,rfl⟩
 have t:=h.at'
 haveI:=h.fnT
 have b1:Blt X (yC zE) "int" (.type "int"):=yP (by rw [h.mg']; exact m_int)
 have cw:PyData.canLayAll0 (toPs [D.str "+",.str "-",.str "*"])=true:=by decide +kernel
 show ∃ ρ',EvM X q [.val (.str (S u)),.val (.adr q),.un,.un] _ (.nx ρ') _ _
 cases hs with
 | atom hu=>
  obtain ⟨c,cs,rfl,hc⟩:=aXT hu
  have f1:c≠43/\c≠45/\c≠42/\c≠109/\c≠94:=by omega
  have ok:=aKA hu.lt
  have i1:(decide (S (c :: cs)=("+" : Str)) || (decide (S (c :: cs)=("-" : Str)) || decide (S (c :: cs)=("*" : Str))))=false:=by
   rw [eBV zp (by intro e; cases e; exact f1.1 rfl),eBV zm (by intro e; cases e; exact f1.2.1 rfl),eBV zt (by intro e; cases e; exact f1.2.2.1 rfl)]; rfl
  refine ⟨[.val (.str (S (c :: cs))),.val (.adr q),.un,.un],aAZ (aHA (EvT.l (aJP (r:=false) t (yA t 0 rfl) (yM (yB ev_str (yB ev_str (yB ev_str yE)))) (aAR ok) (vK _) cw (by rw [pmt]; exact i1))) (aAZ (aHA (EvT.l (EvT.eq (jP t (yA t 0 rfl) ev_str ok) (eBV zn (by intro e; cases e; exact f1.2.2.2.1 rfl)))) (aAZ (aHA (EvT.l (EvT.eq (jP t (vR (c:=c) (yA t 0 rfl) yD (sl2 (by have:=hu.len; omega)) (by rw [aCL]; exact jR (j:=0) rfl)) ev_str (aKA (cs:=[c]) fun x hx=>hu.lt x (by simp at hx; simp [hx]))) (eBV (u:=[c]) zc (by intro e; cases e; exact f1.2.2.2.2 rfl)))) (aAZ (mto (aBT t 1 rfl (EvE.em (yU t c5 (yB (yA t 0 rfl) yE) ⟨_,rfl,hu,rfl⟩)) (by rw [List.length_map]; exact sz hl)) (by rw [List.map_append]; rfl))))))))⟩
 | @add s0 a b ha hb=>
  refine ⟨[.val (.str (S [43])),.val (.adr q),.val (yO b),.val (yO a)],aAZ (aKS (EvT.l (aJP (r:=true) t (yA t 0 rfl) (yM (yB ev_str (yB ev_str (yB ev_str yE)))) (aAR (by decide +kernel)) (vK _) cw (by decide +kernel))) (qV (aEG t 2 (aDM t 1 rfl (xs':=(s0++[a]).map yO) (by simp))) (qV (aEG t 3 (aDM t 1 rfl (xs':=s0.map yO) (by simp))) (aAZ (aHA (EvT.l (EvT.eq (jP t (yA t 0 rfl) ev_str (by decide +kernel)) (by decide +kernel))) (aAZ (mto (aBT t 1 rfl (EvE.em (aUO (EvT.eq (jP t (yA t 0 rfl) ev_str (by decide +kernel)) (by decide +kernel)) (yU t c3 (yB (yA t 3 rfl) (yB (yA t 2 rfl) yE)) ⟨a,b,rfl,ha,hb,rfl⟩))) (by rw [List.length_map]; exact sz (by simp at hl; omega))) (by rw [List.map_append]; rfl))))))))⟩
 | @sub s0 a b ha hb=>
  refine ⟨[.val (.str (S [45])),.val (.adr q),.val (yO b),.val (yO a)],aAZ (aKS (EvT.l (aJP (r:=true) t (yA t 0 rfl) (yM (yB ev_str (yB ev_str (yB ev_str yE)))) (aAR (by decide +kernel)) (vK _) cw (by decide +kernel))) (qV (aEG t 2 (aDM t 1 rfl (xs':=(s0++[a]).map yO) (by simp))) (qV (aEG t 3 (aDM t 1 rfl (xs':=s0.map yO) (by simp))) (aAZ (aHA (EvT.l (EvT.eq (jP t (yA t 0 rfl) ev_str (by decide +kernel)) (by decide +kernel))) (aAZ (mto (aBT t 1 rfl (EvE.em (aPZ (EvT.eq (jP t (yA t 0 rfl) ev_str (by decide +kernel)) (by decide +kernel)) (yU t c2 (yB (yA t 3 rfl) (yB (yA t 2 rfl) yE)) ⟨a,b,rfl,ha,hb,rfl⟩))) (by rw [List.length_map]; exact sz (by simp at hl; omega))) (by rw [List.map_append]; rfl))))))))⟩
 | @mul s0 a b ha hb hv=>
  refine ⟨[.val (.str (S [42])),.val (.adr q),.val (yO b),.val (yO a)],aAZ (aKS (EvT.l (aJP (r:=true) t (yA t 0 rfl) (yM (yB ev_str (yB ev_str (yB ev_str yE)))) (aAR (by decide +kernel)) (vK _) cw (by decide +kernel))) (qV (aEG t 2 (aDM t 1 rfl (xs':=(s0++[a]).map yO) (by simp))) (qV (aEG t 3 (aDM t 1 rfl (xs':=s0.map yO) (by simp))) (aAZ (aKS (EvT.l (EvT.eq (jP t (yA t 0 rfl) ev_str (by decide +kernel)) (by decide +kernel))) (aAZ (mto (aBT t 1 rfl (EvE.em (yU t c1 (yB (yA t 3 rfl) (yB (yA t 2 rfl) yE)) ⟨a,b,rfl,ha,hb,hv,rfl⟩)) (by rw [List.length_map]; exact sz (by simp at hl; omega))) (by rw [List.map_append]; rfl))))))))⟩
 | @neg s0 b hb=>
  refine ⟨[.val (.str (S [109,105,110,117,115])),.val (.adr q),.un,.un],aAZ (aHA (EvT.l (aJP (r:=false) t (yA t 0 rfl) (yM (yB ev_str (yB ev_str (yB ev_str yE)))) (aAR (by decide +kernel)) (vK _) cw (by decide +kernel))) (aAZ (aKS (EvT.l (EvT.eq (jP t (yA t 0 rfl) ev_str (by decide +kernel)) (by decide +kernel))) (aAZ (mto (aBT t 1 rfl (aUS t c2 (aSZ (EvE.em (yM yE)) (aSZ (aDM t 1 rfl (xs':=s0.map yO) (by simp)) (EvA.am yE))) ⟨[],b,rfl,sm0,hb,rfl⟩) (by rw [List.length_map]; exact sz (by simp at hl; omega))) (by rw [List.map_append]; rfl))))))⟩
 | @pow s0 b d hb hd=>
  have ok:PyData.strOk (S [94,48+d])=true:=aKA fun x hx=>by simp at hx; omega
  have i1:(decide (S [94,48+d]=("+" : Str)) || (decide (S [94,48+d]=("-" : Str)) || decide (S [94,48+d]=("*" : Str))))=false:=by
   rw [eBV zp (by intro e; cases e),eBV zm (by intro e; cases e),eBV zt (by intro e; cases e)]; rfl
  have hnum:PySem.intText? (S [48+d])=some ((d:Nat):Int):=by
   have:∀ d:Nat,d < 10->PySem.intText? (S [48+d])=some ((d:Nat):Int):=by decide +kernel
   exact this d (by omega)
  refine ⟨[.val (.str (S [94,48+d])),.val (.adr q),.un,.un],aAZ (aHA (EvT.l (aJP (r:=false) t (yA t 0 rfl) (yM (yB ev_str (yB ev_str (yB ev_str yE)))) (aAR ok) (vK _) cw (by rw [pmt]; exact i1))) (aAZ (aHA (EvT.l (EvT.eq (jP t (yA t 0 rfl) ev_str ok) (eBV zn (by intro e; cases e)))) (aAZ (aKS (EvT.l (EvT.eq (jP t (vR (c:=94) (yA t 0 rfl) yD (sl2 (by simp)) (by rw [aCL]; exact jR (j:=0) rfl)) ev_str (by decide +kernel)) (by decide +kernel))) (aAZ (mto (aBT t 1 rfl (aUS t c4 (aSZ (aDM t 1 rfl (xs':=s0.map yO) (by simp)) (EvA.am (yB (aZV t b1 (vR (c:=48+d) (yA t 0 rfl) yD (sl2 (by simp)) (by rw [aCL]; exact jR (j:=1) rfl)) hnum (by show (S [48+d]).length<=640; rw [wV]; simp)) yE))) ⟨b,d,rfl,hd,hb,rfl⟩) (by rw [List.length_map]; exact sz (by simp at hl; omega))) (by rw [List.map_append]; rfl))))))))⟩
inductive Runs:List (List Nat)->List Bd->List Bd->Prop where
 | nil {a:List Bd}:Runs [] a a
 | cons {u:List Nat} {us:List (List Nat)} {a b c:List Bd}:StepR u a b->Runs us b c->Runs (u :: us) a c
theorem Runs.app {us vs:List (List Nat)} {a b c:List Bd} (h:Runs us a b) (g:Runs vs b c):Runs (us++vs) a c:=by
 induction h with
 | nil=>exact g
 | cons s _ ih=>exact .cons s (ih g)
theorem StepR.len {u:List Nat} {a b:List Bd} (h:StepR u a b):b.length<=a.length+1:=by
 cases h <;> simp <;> omega
theorem Runs.ix {us:List (List Nat)} {a c:List Bd} (h:Runs us a c):∃ f:Nat->List Bd,f 0=a/\f us.length=c/\∀ i (hi:i < us.length),StepR us[i] (f i) (f (i+1))/\(f i).length<=a.length+i:=by
 induction h with
 | @nil a=>exact ⟨fun _=>a,rfl,rfl,fun i hi=>nomatch hi⟩
 | @cons u us a b c s r ih=>
  obtain ⟨f,f0,f1,f2⟩:=ih
  refine ⟨fun i=>match i with | 0=>a | j+1=>f j,rfl,f1,fun i hi=>?_⟩
  cases i with
  | zero=>exact ⟨by show StepR u a (f 0); rw [f0]; exact s,by simp⟩
  | succ j=>
   have:=f2 j (by simpa using hi)
   exact ⟨this.1,by have l:=s.len; have:=this.2; show (f j).length<=_; omega⟩
def aAU (R:AtR) (ds:List D) (d:D):Prop:=∃ (cs:List Nat) (T:Trm) (b:Bd),ds=[.str (S cs)]/\Lex cs (tkT T)/\(∀ c∈cs,c < 128)/\cs.length<=1000/\(∀ u∈tkT T,∀ x∈u,x < 128)/\eBK (tkT T)/\TrmOk R T/\(stT T).length < 10000/\Runs (stT T) [] [b]/\d=yO b
theorem aND (R:AtR):∀ ds d,aAU R ds d->ds.length=1:=by rintro _ _ ⟨a,b,c,rfl,_⟩; rfl
theorem aSV {R:AtR} (h:DefX P w K mg base k N_read_term (yC jV) X) (c1:aOH X "reader_of" aCP) (c2:zM X "read_sum" (wB R)) (c3:zM X "refuse_more" aAC) (c4:aOI X "take_term_step" wZ) (gM:∃ tk,mg "MOST_SIGNS" = some (.int 1000 tk)) :
  ∀ ds d,aAU R ds d->EvSs X (ds.map Sl.val++List.replicate (N_read_term.length - ds.length) Sl.un) (yF jV) (.rt d):=by
 rintro ds r ⟨cs,T,b,rfl,hl,ha,hz,ht,hd,hT,hs,hr,rfl⟩
 have t:=h.at'
 haveI:=h.fnT
 have gM':∃ tk,X.mg "MOST_SIGNS" = some (.int 1000 tk):=by rw [h.mg']; exact gM
 obtain ⟨f,f0,f1,f2⟩:=hr.ix
 show EvSs X [.val (.str (S cs)),.un,.un,.un] _ _
 refine eJB (toks:=sm (tkT T)) t 1 c1 (yB (yA t 0 rfl) (yB (aNP t gM') yE)) ⟨cs,tkT T,1000,rfl,hl,ha,hz,by decide,ht,hd,rfl⟩ fun r ok et=>⟨(((tkT T).length:Nat),yY (stT T)),?_⟩
 have ho:∀ x∈r.toks,PyData.strOk x=true:=by
  rw [et]
  intro x hx
  obtain ⟨u,hu,rfl⟩:=List.mem_map.mp hx
  exact aKA (ht u hu)
 show EvZ (RdS r) X [.val (.str (S cs)),.val (.adr r.p),.un,.un] _ _ ((0:Int),([]:List D)) (((tkT T).length:Nat),yY (stT T))
 refine zJ (s1:=((((tkT T).length:Nat):Int),yY (stT T))) (vU (jB (s1:=((0:Int),([]:List D))) t ok c2 (qJ (EvE.z (yA t 1 rfl)) (EvA.z yE)) ⟨ho,0,T,[],rfl,rfl,hT,by rw [et]; simp,fun u hu=>?_,by show 0+_ < _; omega,rfl,?_⟩)) ?_
 ·have hu':u=[94]\/u=[42]\/u=[43]\/u=[45]:=by simpa using hu
  show (("" : Str))≠S u
  rcases hu' with rfl | rfl | rfl | rfl <;> decide +kernel
 ·simp
 refine zJ (s1:=((((tkT T).length:Nat):Int),yY (stT T))) (vU (jB (s1:=((((tkT T).length:Nat):Int),yY (stT T))) t ok c3 (qJ (EvE.z (yA t 1 rfl)) (EvA.z yE)) ⟨(tkT T).length,rfl,rfl,by rw [et,aGI]; exact Nat.le_refl _,rfl,rfl⟩)) ?_
 refine zJ (EvS.z (aFE t 2 (yQ yE))) (zJ (ρ1:=[.val (.str (S cs)),.val (.adr r.p),.own ([b].map yO),.un]) (eBQ t ok 1 rfl (FRun.uptoE (fun i=>[.val (.str (S cs)),.val (.adr r.p),.own ((f i).map yO),.un]) (fun j d e=>?_) (by rw [f0]; rfl) ?_)) (jS (aOL (EvE.z (zB (aBD t 2 rfl) yD rfl)))))
 ·have e':(yY (stT T))[j]? = some d:=e
  unfold yY at e'
  rw [List.getElem?_map] at e'
  cases e2:(stT T)[j]? with
  | none=>rw [e2] at e'; cases e'
  | some u=>
   rw [e2] at e'
   cases e'
   obtain ⟨hj,eu⟩:=List.getElem?_eq_some_iff.mp e2
   have f3:=f2 j hj
   rw [eu] at f3
   refine ⟨_,zA t 3,EvSs.weak (yJ (eBW t c4 2 rfl (yA t 3 rfl) ⟨u,f j,f (j+1),rfl,f3.1,by have:=f3.2; simp at this; omega,rfl,rfl⟩)) (.keep (.keep (.keep (.forget .nil))))⟩
 ·show _=_
  have:(((((tkT T).length:Nat):Int),yY (stT T)):Int × List D).2.length=(stT T).length:=yV _
  rw [this,f1]
def jG (n:Nat):List Nat:=(Nat.toDigits 10 n).map Char.toNat
theorem aPQ (n:Nat):(toString ((n:Nat):Int):Str)=S (jG n):=by
 rw [eTB (toString ((n:Nat):Int):Str)]
 congr 1
 exact PySem.W.KIN.signs_num n
theorem eCN {n:Nat} (h:n < 10 ^ 12):(jG n).length<=12:=by
 unfold jG
 rw [List.length_map]
 exact (Nat.length_toDigits_le_iff (by decide) (by decide)).mpr h
theorem eNH {n:Nat}:∀ c∈jG n,48<=c/\c<=57:=fun c hc=>by
 unfold jG at hc
 obtain ⟨d,hd,rfl⟩:=List.mem_map.mp hc
 have:=Nat.isDigit_of_mem_toDigits (by decide) (by decide) hd
 simp only [Char.isDigit,Bool.and_eq_true,decide_eq_true_eq] at this
 exact ⟨this.1,this.2⟩
theorem aZG {n:Nat} (h:n < 10 ^ 12):((n:Nat):Int).natAbs.log2 < 1920:=by
 rw [Int.natAbs_natCast]
 by_cases h0:n=0
 ·subst h0; decide
 ·exact (Nat.log2_lt h0).mpr (Nat.lt_trans h (by decide))
theorem aRX (n:Nat):jG n≠[]:=fun e=>by
 unfold jG at e
 exact Nat.toDigits_ne_nil (List.map_eq_nil_iff.mp e)
theorem aPP (n:Nat):eHW (jG n)=n:=by
 unfold eHW jG
 rw [PySem.W.KIN.val_back]
theorem eHX:∀ n,(jG n).head? = some 48->jG n=[48]:=fun n=>by
 induction n using Nat.strongRecOn with
 | _ m ih=>
  intro h0
  by_cases h:m < 10
  ·have e:jG m=[(Nat.digitChar m).toNat]:=by unfold jG; rw [Nat.toDigits_of_lt_base h]; rfl
   rw [e] at h0 ⊢
   rw [Option.some.inj h0]
  ·have hm:m % 10 < 10:=Nat.mod_lt m (by decide)
   have t:Nat.toDigits 10 (m / 10)++Nat.toDigits 10 (m % 10)=Nat.toDigits 10 (10 * (m / 10)+m % 10):=Nat.toDigits_append_toDigits (by decide) (by omega) hm
   rw [Nat.div_add_mod] at t
   have e:jG m=jG (m / 10)++jG (m % 10):=by unfold jG; rw [<- t,List.map_append]
   rw [e] at h0
   have h1:(jG (m / 10)).head? = some 48:=by
    cases q:jG (m / 10) with
    | nil=>exact absurd q (aRX _)
    | cons a b=>rw [q] at h0; exact h0
   have h2:=ih (m / 10) (by omega) h1
   have h3:=aPP (m / 10)
   rw [h2] at h3
   have:eHW [48]=0:=rfl
   omega
theorem aGO {n:Nat} (h:n < 10 ^ 12):eJQ (jG n):=⟨aRX n,eNH,eCN h,eHX n⟩
def nrm (kv:KVs):Nat:=(kv.map fun p=>p.2.natAbs).sum
theorem aDT (p:List Int × Int) (r:KVs):nrm (p :: r)=p.2.natAbs+nrm r:=rfl
theorem eHZ (a b:KVs):nrm (a++b)=nrm a+nrm b:=by unfold nrm; rw [List.map_append,List.sum_append]
theorem aUG (k:List Int) (v:Int):∀ (r:KVs),(∀ p∈r,p.1≠k)->r.map (fun p=>if p.1=k then (p.1,v) else p)=r
 | [],_=>rfl
 | p :: r,h=>by rw [List.map_cons,if_neg (h p (by simp)),aUG k v r fun q hq=>h q (by simp [hq])]
theorem aUB (k:List Int) (v:Int):∀ (kvs:KVs),(kvs.map (·.1)).Nodup->nrm (kvs.map fun p=>if p.1=k then (p.1,v) else p)<=nrm kvs+(v - (vQ kvs k).getD 0).natAbs
 | [],_=>by simp [nrm]
 | p :: r,nd=>by
  rw [List.map_cons,List.nodup_cons] at nd
  rw [List.map_cons,aCY]
  by_cases h:p.1=k
  ·have hr:∀ q∈r,q.1≠k:=fun q hq e=>nd.1 (List.mem_map.mpr ⟨q,hq,e.trans h.symm⟩)
   rw [if_pos h,if_pos h,aUG k v r hr,aDT,aDT]
   show v.natAbs+nrm r<=p.2.natAbs+nrm r+(v - p.2).natAbs
   omega
  ·rw [if_neg h,if_neg h,aDT,aDT]
   have:=aUB k v r nd.2
   omega
theorem aYV {kvs:KVs} (h:KOk kvs) (k:List Int) (v:Int):nrm (aEO kvs k v)<=nrm kvs+(v - (vQ kvs k).getD 0).natAbs:=by
 unfold aEO
 split
 ·exact aUB k v kvs h.nd
 ·rename_i e
  have:vQ kvs k=none:=by cases q:vQ kvs k with | none=>rfl | some z=>rw [q] at e; exact absurd rfl e
  rw [this,eHZ]
  show nrm kvs+(v.natAbs+0)<=nrm kvs+(v - 0).natAbs
  omega
theorem aUD (a c:Nat) (v:Int):∀ (B acc:KVs),KOk acc->(∀ p∈B,∃ i k:Nat,p.1=nk i k)->nrm (aGB (nk a c,v) acc B)<=nrm acc+v.natAbs * nrm B
 | [],acc,_,_=>by show nrm acc<=nrm acc+v.natAbs * 0; omega
 | (k,x) :: B,acc,h,hB=>by
  obtain ⟨i,j,e⟩:=hB (k,x) (by simp)
  have e':k=nk i j:=e
  subst e'
  have h1:=h.put (a+i) (c+j) ((vQ acc (nk (a+i) (c+j))).getD 0+v * x)
  have h2:=aYV h (nk (a+i) (c+j)) ((vQ acc (nk (a+i) (c+j))).getD 0+v * x)
  have h3:=aUD a c v B _ h1 fun p hp=>hB p (by simp [hp])
  show nrm (aGB (nk a c,v) (aEO acc (aWL (nk a c) (nk i j)) ((vQ acc (aWL (nk a c) (nk i j))).getD 0+v * x)) B)<=nrm acc+v.natAbs * (x.natAbs+nrm B)
  rw [aTA,Nat.mul_add]
  have h4:((vQ acc (nk (a+i) (c+j))).getD 0+v * x - (vQ acc (nk (a+i) (c+j))).getD 0).natAbs=v.natAbs * x.natAbs:=by
   rw [(fun a b=>by omega:∀ a b:Int,a+b - a=b),Int.natAbs_mul]
  rw [h4] at h2
  omega
theorem aIS (B:KVs) (hB:∀ p∈B,∃ i k:Nat,p.1=nk i k):∀ (A acc:KVs),KOk acc->(∀ p∈A,∃ i k:Nat,p.1=nk i k)->nrm (A.foldl (fun acc p=>aGB p acc B) acc)<=nrm acc+nrm A * nrm B
 | [],acc,_,_=>by show nrm acc<=nrm acc+0 * nrm B; omega
 | (k,v) :: A,acc,h,hA=>by
  obtain ⟨a,c,e⟩:=hA (k,v) (by simp)
  have e':k=nk a c:=e
  subst e'
  have h1:=(aMR a c v (fun _ _=>0) B acc h hB).1
  have h2:=aUD a c v B acc h hB
  have h3:=aIS B hB A _ h1 fun p hp=>hA p (by simp [hp])
  show nrm (A.foldl (fun acc p=>aGB p acc B) (aGB (nk a c,v) acc B))<=nrm acc+(v.natAbs+nrm A) * nrm B
  rw [Nat.add_mul]
  omega
theorem aUC {A B:KVs} (hA:KOk A) (hB:KOk B):nrm (aFG A B)<=nrm A * nrm B:=by
 have:=aIS B hB.keys A [] .nil hA.keys
 have e:nrm ([]:KVs)=0:=rfl
 rw [e] at this
 unfold aFG
 omega
theorem aFI (s:Int) (hs:s.natAbs=1):∀ (B A:KVs),KOk A->(∀ p∈B,∃ i k:Nat,p.1=nk i k)->nrm (qO A B s)<=nrm A+nrm B
 | [],A,_,_=>by show nrm A<=nrm A+0; omega
 | (k,x) :: B,A,h,hB=>by
  obtain ⟨i,j,e⟩:=hB (k,x) (by simp)
  have e':k=nk i j:=e
  subst e'
  have h1:=h.put i j ((vQ A (nk i j)).getD 0+s * x)
  have h2:=aYV h (nk i j) ((vQ A (nk i j)).getD 0+s * x)
  have h3:=aFI s hs B _ h1 fun p hp=>hB p (by simp [hp])
  have h4:((vQ A (nk i j)).getD 0+s * x - (vQ A (nk i j)).getD 0).natAbs=x.natAbs:=by
   rw [(fun a b=>by omega:∀ a b:Int,a+b - a=b),Int.natAbs_mul,hs,Nat.one_mul]
  rw [h4] at h2
  show nrm (qO (aEO A (nk i j) ((vQ A (nk i j)).getD 0+s * x)) B s)<=nrm A+(x.natAbs+nrm B)
  omega
theorem eHY {kv:KVs} {p:List Int × Int} (h:p∈kv):p.2.natAbs<=nrm kv:=by
 induction kv with
 | nil=>cases h
 | cons q r ih=>
  rw [aDT]
  rcases List.mem_cons.mp h with rfl | h
  ·omega
  ·have:=ih h; omega
theorem aYU {kv:KVs} {M:Nat} (h:nrm kv<=M):VB M kv:=fun p hp=>Nat.le_trans (eHY hp) h
theorem eNX (φ:Nat->Nat->Int) (hφ:∀ i k,(φ i k).natAbs<=1):∀ kv:KVs,(ds kv φ).natAbs<=nrm kv
 | []=>Nat.le_refl _
 | p :: r=>by
  have ih:=eNX φ hφ r
  rw [aDT,ds]
  have h1:=hφ (p.1.getD 0 0).toNat (p.1.getD 1 0).toNat
  generalize φ (p.1.getD 0 0).toNat (p.1.getD 1 0).toNat=z at h1
  have h2:(p.2 * z).natAbs<=p.2.natAbs:=by rw [Int.natAbs_mul]; exact Nat.le_trans (Nat.mul_le_mul_left _ h1) (by omega)
  omega
theorem eJG (i k a c:Nat):(aRE i k a c).natAbs<=1:=by unfold aRE; split <;> decide
theorem eAK {n:Nat} {i k:Nat} (q:n<=i\/n<=k):∀ {kv:KVs},KIn n kv->ds kv (aRE i k)=0
 | [],_=>rfl
 | p :: r,h=>by
  obtain ⟨a,c,e,ha,hc⟩:=h p (by simp)
  rw [ds,eAK q fun z hz=>h z (by simp [hz]),e]
  show p.2 * aRE i k a c+0=0
  unfold aRE
  rw [if_neg (by omega)]
  omega
theorem aCK (f g:Bd) (φ:Nat->Nat->Int):bs (aDD f g) φ=bs f φ+bs g φ:=by
 unfold aDD
 rw [eAX,aGW _ (max f.length g.length) φ (by simp),aGW f (max f.length g.length) φ (by omega),aGW g (max f.length g.length) φ (by omega),<- aHK]
 refine zY _ fun k hk=>?_
 rw [aLP,if_pos hk,aXV]
theorem eEC:∀ (f:List Int) (ψ:Nat->Int),rs (f.map fun x=>-x) ψ = - rs f ψ
 | [],ψ=>rfl
 | a :: f,ψ=>by
  show -a * ψ 0+rs (f.map fun x=>-x) _ = -(a * ψ 0+rs f _)
  rw [eEC f,Int.neg_mul]; omega
theorem aJU:∀ (g:Bd) (φ:Nat->Nat->Int),bs (aRZ g) φ = - bs g φ
 | [],φ=>rfl
 | r :: g,φ=>by
  show rs (r.map fun x=>-x) _+bs (aRZ g) _ = -(rs r _+bs g _)
  rw [eEC,aJU g]; omega
structure Ot where
 tk:TK
 st:TK
 kv:KVs
 xs:List Int
def yT (ns:List Int):Int:=ns.getLast?.getD 0
def aAY (deep:Nat) (x:Int):Int:=([x / 6 % 10,x / 6 % 10,x / 6 % (if 0 < deep then 1000 else 10),0]:List Int).getD (x / 60 % 4).toNat 0
def aHH (deep:Nat) (sm:List Int->Nat->Ot) (xs:List Int) (room:Nat):Ot:=
 if 0 < room/\yT xs % 6 < 2 then ⟨[[120]],[[120]],[(nk 1 0,1)],xs.dropLast⟩
 else if 0 < room/\yT xs % 6 < 4 then ⟨[[121]],[[121]],[(nk 0 1,1)],xs.dropLast⟩
 else if 0 < deep/\yT xs % 6=5 then ⟨[40] :: ((sm xs.dropLast room).tk++[[41]]),(sm xs.dropLast room).st,(sm xs.dropLast room).kv,(sm xs.dropLast room).xs⟩
 else ⟨[jG (aAY deep (yT xs)).toNat],[jG (aAY deep (yT xs)).toNat],[(nk 0 0,aAY deep (yT xs))],xs.dropLast⟩
def aDZ (kv:KVs):Nat->KVs
 | 0=>[(nk 0 0,1)]
 | n+1=>aFG (aDZ kv n) kv
def pwX (x:Int):Nat:=([1,1,1,2,0,3]:List Nat).getD (x % 6).toNat 0
def mnX (x:Int):Nat:=([0,0,0,0,1,1,2,3]:List Nat).getD (x / 48 % 8).toNat 0
def pwO (o:Ot) (x:Int):Nat:=if o.tk.head? = some [40] then min 2 (pwX x) else pwX x
def eIP (atm:List Int->Nat->Ot) (xs:List Int) (room:Nat):Ot:=
  let x:=yT xs
  let o:=atm xs.dropLast (room / max 1 (pwX x))
  let p:=pwO o x
  ⟨List.replicate (mnX x) [45]++(if p≠1\/x / 6 % 8=1 then o.tk++[[94],[48+p]] else o.tk),
   (if p≠1\/x / 6 % 8=1 then o.st++[[94,48+p]] else o.st)++mnS (mnX x),
   if mnX x % 2=1 then qO [] (aDZ o.kv p) (-1) else aDZ o.kv p,o.xs⟩
def frX (xs:List Int) (room:Nat):Nat:=(yT xs % ((room:Int)+1)).toNat
def eHI (fac:List Int->Nat->Ot) (xs:List Int) (room:Nat):Ot:=
 let o:=fac xs.dropLast (frX xs room)
 if 0 < yT o.xs % 3 then
  let q:=fac o.xs.dropLast (room - frX xs room)
  ⟨o.tk++[[42]]++q.tk,o.st++(q.st++[[42]]),aFG o.kv q.kv,q.xs⟩
 else ⟨o.tk,o.st,o.kv,o.xs.dropLast⟩
def sgX (xs:List Int):Bool:=decide (yT xs % 2=0)
def aEL (prd:List Int->Nat->Ot) (room:Nat) (o:Ot):Ot:=
 let q:=prd o.xs.dropLast room
 ⟨o.tk++[sgW (sgX o.xs)]++q.tk,o.st++(q.st++[sgW (sgX o.xs)]),qO o.kv q.kv (if sgX o.xs then 1 else -1),q.xs⟩
def aCF (prd:List Int->Nat->Ot) (room:Nat) (o:Ot):Nat->Ot
 | 0=>o
 | n+1=>aEL prd room (aCF prd room o n)
def eGM (prd:List Int->Nat->Ot) (xs:List Int) (room:Nat):Ot:=
 let o:=prd xs room
 aCF prd room { o with xs:=o.xs.dropLast } (yT o.xs % 3).toNat
def aBB:Nat->List Int->Nat->Ot
 | 0=>aHH 0 fun xs _=>⟨[],[],[],xs⟩
 | n+1=>aHH (n+1) (eGM (eHI (eIP (aBB n))))
abbrev aGS (n:Nat):=eIP (aBB n)
abbrev aCC (n:Nat):=eHI (aGS n)
abbrev aBQ (n:Nat):=eGM (aCC n)
structure Val (m M:Nat) (o:Ot):Prop where
 ko:KOk o.kv
 kd:KIn (m+1) o.kv
 nb:nrm o.kv<=M
 bd:∃ B,BoardOk B/\(∀ φ,bs B φ=ds o.kv φ)/\∀ stk,Runs o.st stk (stk++[B])
theorem vT {n:Nat} {kv:KVs} {B:Bd} (hB:BoardOk B) (h:∀ φ,bs B φ=ds kv φ) (hk:KIn n kv):Fit n B:=eFL hB fun i k q=>by rw [<- aUZ,h,eAK q hk]
theorem aQW {M:Nat} {kv:KVs} {B:Bd} (h:∀ φ,bs B φ=ds kv φ) (hn:nrm kv<=M) (hM:M < 2 ^ 63):∀ r∈B,∀ y∈r,-(2 ^ 63) < y/\y < 2 ^ 63:=BB.lim (M:=M) (fun i k=>by rw [<- aUZ,h]; exact Nat.le_trans (eNX _ (eJG i k) _) hn) hM
theorem aAM (i k:Nat) (v:Int):KOk [(nk i k,v)]:=⟨fun p hp=>by rw [List.mem_singleton.mp hp]; exact ⟨i,k,rfl⟩,by simp⟩
theorem vE {i k n:Nat} (v:Int) (hi:i < n) (hk:k < n):KIn n [(nk i k,v)]:=fun p hp=>by rw [List.mem_singleton.mp hp]; exact ⟨i,k,rfl,hi,hk⟩
theorem aGM (i k:Nat) (v:Int) (φ:Nat->Nat->Int):ds [(nk i k,v)] φ=v * φ i k:=by show v * φ ((i:Int)).toNat ((k:Int)).toNat+0=_; rw [Int.toNat_natCast,Int.toNat_natCast]; omega
theorem vI {c:Int} {i k:Nat} {B:Bd} (h:∀ φ,bs B φ=c * φ i k):∀ φ,bs B φ=ds [(nk i k,c)] φ:=fun φ=>by rw [h,aGM]
theorem eJL (φ:Nat->Nat->Int):bs [[0,1]] φ=1 * φ 1 0:=by simp [bs,rs]
theorem eJV (φ:Nat->Nat->Int):bs [[],[1]] φ=1 * φ 0 1:=by simp [bs,rs]
theorem eQC:BoardOk [[0,1]]:=⟨.inr ⟨[],[0,1],rfl,by decide⟩,fun r hr=>by rw [List.mem_singleton.mp hr]; exact .inr ⟨[0],1,rfl,by decide⟩⟩
theorem eQB:BoardOk [[],[1]]:=⟨.inr ⟨[[]],[1],rfl,by decide⟩,fun r hr=>by
 rcases List.mem_cons.mp hr with rfl | hr
 ·exact .inl rfl
 ·rw [List.mem_singleton.mp hr]; exact .inr ⟨[],1,rfl,by decide⟩⟩
theorem eOR (n:Int):BoardOk (if n=0 then [] else [[n]]):=by
 split
 ·exact ⟨.inl rfl,fun r hr=>nomatch hr⟩
 ·rename_i h
  exact ⟨.inr ⟨[],[n],rfl,by simp⟩,fun r hr=>by rw [List.mem_singleton.mp hr]; exact .inr ⟨[],n,rfl,h⟩⟩
theorem eDH (n:Int) (φ:Nat->Nat->Int):bs (if n=0 then [] else [[n]]) φ=n * φ 0 0:=by
 split
 ·rename_i h; rw [h]; simp [bs]
 ·simp [bs,rs]
theorem eBG {n:Nat} (h:n < 10 ^ 12):atB (jG n)=if (n:Int)=0 then [] else [[(n:Int)]]:=by
 have v:=eME (aGO h)
 unfold atB
 rw [if_neg v.1,if_neg v.2,aPP]
theorem aWS {c:Nat} {i k m:Nat} {B:Bd} (xs:List Int) (hc:RunW [c]) (e:atB [c]=B) (hB:BoardOk B) (h:∀ φ,bs B φ=1 * φ i k) (hi:i<=m) (hk:k<=m):Val m 1 ⟨[[c]],[[c]],[(nk i k,1)],xs⟩:=⟨aAM i k 1,vE 1 (by omega) (by omega),Nat.le_refl _,B,hB,vI h,fun st=>by
 have:=StepR.atom (st:=st) hc
 rw [e] at this
 exact .cons this .nil⟩
theorem eGH {n m:Nat} (xs:List Int) (h:n < 10 ^ 12):Val m n ⟨[jG n],[jG n],[(nk 0 0,(n:Int))],xs⟩:=⟨aAM 0 0 _,vE _ (by omega) (by omega),by show (n:Int).natAbs+0<=n; omega,_,eOR n,vI (eDH n),fun st=>by
 have:=StepR.atom (st:=st) (.inl (aGO h))
 rw [eBG h] at this
 exact .cons this .nil⟩
theorem Val.mono {m m' M M':Nat} {o:Ot} (h:Val m M o) (e1:m<=m') (e2:M<=M'):Val m' M' o:=⟨h.ko,fun p hp=>let ⟨i,k,e,a,b⟩:=h.kd p hp; ⟨i,k,e,by omega,by omega⟩,Nat.le_trans h.nb e2,h.bd⟩
theorem aFX (deep:Nat) (x:Int):0<=aAY deep x/\aAY deep x < (if 0 < deep then 1000 else 10):=by
 have h6:0<=x / 6 % 10/\x / 6 % 10 < 10:=⟨by omega,by omega⟩
 have h7:0<=x / 6 % (if 0 < deep then 1000 else 10)/\x / 6 % (if 0 < deep then 1000 else 10) < (if 0 < deep then 1000 else 10):=by split <;> omega
 have h8:(10:Int)<=(if 0 < deep then 1000 else 10):=by split <;> decide
 unfold aAY
 have h:(x / 60 % 4).toNat < 4:=by omega
 generalize (x / 60 % 4).toNat=n at h
 match n,h with
 | 0,_=>exact ⟨h6.1,by show x / 6 % 10 < _; omega⟩
 | 1,_=>exact ⟨h6.1,by show x / 6 % 10 < _; omega⟩
 | 2,_=>exact h7
 | 3,_=>exact ⟨Int.le_refl _,by show (0:Int) < _; omega⟩
 | n+4,h=>omega
theorem aYF {n m l a c:Nat} (v:Int) (ha:a < n) (hc:c < n) (hl:n+m<=l+1):∀ (B acc:KVs),KIn m B->KIn l acc->KIn l (aGB (nk a c,v) acc B)
 | [],acc,_,h=>h
 | (k,x) :: B,acc,hB,h=>by
  obtain ⟨i,j,e,hi,hj⟩:=hB (k,x) (by simp)
  have e':k=nk i j:=e
  subst e'
  show KIn l (aGB (nk a c,v) (aEO acc (aWL (nk a c) (nk i j)) ((vQ acc (aWL (nk a c) (nk i j))).getD 0+v * x)) B)
  rw [aTA]
  exact aYF v ha hc hl B _ (fun p hp=>hB p (by simp [hp])) (h.put (by omega) (by omega) _)
theorem aYE {n m l:Nat} (hl:n+m<=l+1) {B:KVs} (hB:KIn m B):∀ (A acc:KVs),KIn n A->KIn l acc->KIn l (A.foldl (fun acc p=>aGB p acc B) acc)
 | [],acc,_,h=>h
 | (k,v) :: A,acc,hA,h=>by
  obtain ⟨i,j,e,hi,hj⟩:=hA (k,v) (by simp)
  have e':k=nk i j:=e
  subst e'
  rw [List.foldl_cons]
  exact aYE hl hB A _ (fun p hp=>hA p (by simp [hp])) (aYF v hi hj hl B acc hB h)
theorem aCE {n:Nat} (s:Int):∀ (B A:KVs),KIn n A->KIn n B->KIn n (qO A B s)
 | [],A,h,_=>h
 | (k,x) :: B,A,h,hB=>by
  obtain ⟨i,j,e,hi,hj⟩:=hB (k,x) (by simp)
  have e':k=nk i j:=e
  subst e'
  exact aCE s B _ (h.put hi hj _) fun p hp=>hB p (by simp [hp])
theorem aTT {n m:Nat} {A B:KVs} (hA:KIn (n+1) A) (hB:KIn (m+1) B):KIn (n+m+1) (aFG A B):=aYE (n:=n+1) (m:=m+1) (l:=n+m+1) (by omega) hB A [] hA fun p hp=>nomatch hp
theorem aGL {kv:KVs} (h:KOk kv):∀ p,KOk (aDZ kv p)
 | 0=>aAM 0 0 1
 | p+1=>aYD (aGL h p) h
theorem aIN {kv:KVs} {m:Nat} (h:KIn (m+1) kv):∀ p,KIn (p * m+1) (aDZ kv p)
 | 0=>vE 1 (by omega) (by omega)
 | p+1=>by
  have:=aTT (aIN h p) h
  rw [Nat.succ_mul]; exact this
theorem aRS {kv:KVs} {N:Nat} (h:KOk kv) (hn:nrm kv<=N):∀ p,nrm (aDZ kv p)<=N ^ p
 | 0=>Nat.le_refl _
 | p+1=>Nat.le_trans (aUC (aGL h p) h) (by rw [Nat.pow_succ]; exact Nat.mul_le_mul (aRS h hn p) hn)
theorem aPE {kv:KVs} {B:Bd} (h:KOk kv) (hb:∀ φ,bs B φ=ds kv φ):∀ p φ,bs (aOJ B p) φ=ds (aDZ kv p) φ
 | 0,φ=>by show bs [[1]] φ=ds [(nk 0 0,1)] φ; rw [aGM]; simp [bs,rs]
 | p+1,φ=>by
  show bs (wJ (aOJ B p) B) φ=ds (aFG (aDZ kv p) kv) φ
  rw [aDX,aPE h hb p,aSJ (aGL h p) h]
  exact aNU _ fun i k=>hb _
theorem aIO (B:Bd):∀ p,BoardOk (aOJ B p)
 | 0=>⟨.inr ⟨[],[1],rfl,by decide⟩,fun r hr=>by rw [List.mem_singleton.mp hr]; exact .inr ⟨[],1,rfl,by decide⟩⟩
 | p+1=>aCZ _ _
def AtV (n m M m0:Nat) (o:Ot):Prop:=Val m M o/\AR n o.tk o.st/\(o.tk.head? ≠ some [40]->nrm o.kv<=m0)
def FcV (n m M:Nat) (o:Ot):Prop:=Val m M o/\∃ f:Fac,aEC (AR n) f/\tkF f=o.tk/\sfF f=o.st
def PdV (n m M:Nat) (o:Ot):Prop:=Val m M o/\∃ p:Prd,aFR (AR n) p/\tkP p=o.tk/\stP p=o.st
def SmV (n m M:Nat) (o:Ot):Prop:=Val m M o/\∃ T:Trm,TrmOk (AR n) T/\tkT T=o.tk/\stT T=o.st
theorem aRO:RunW [120]:=.inr (.inl rfl)
theorem aVN:RunW [121]:=.inr (.inr rfl)
theorem eBE {n deep M m0 S:Nat} {sm:List Int->Nat->Ot} (hs:0 < deep->∀ xs room,room<=10->SmV n room S (sm xs room)) (h1:S<=M) (h2:1<=m0) (h3:m0<=M) (h4:∀ x,(aAY deep x).toNat<=m0) (xs:List Int) (room:Nat) (hr:room<=10):AtV (n+1) room M m0 (aHH deep sm xs room):=by
 unfold aHH
 split
 ·rename_i h
  exact ⟨(aWS _ aRO rfl eQC eJL (by omega) (by omega)).mono (Nat.le_refl _) (by omega),.inl ⟨_,aRO,rfl,rfl⟩,fun _=>by show 1+0<=m0; omega⟩
 ·split
  ·rename_i h _
   exact ⟨(aWS _ aVN rfl eQB eJV (by omega) (by omega)).mono (Nat.le_refl _) (by omega),.inl ⟨_,aVN,rfl,rfl⟩,fun _=>by show 1+0<=m0; omega⟩
  ·split
   ·rename_i h
    obtain ⟨hv,T,hT,e1,e2⟩:=hs h.1 xs.dropLast room hr
    exact ⟨⟨hv.ko,hv.kd,Nat.le_trans hv.nb h1,hv.bd⟩,.inr ⟨T,hT,by rw [e1],by rw [e2]⟩,fun z=>absurd rfl z⟩
   ·obtain ⟨g1,g2⟩:=aFX deep (yT xs)
    have g3:(aAY deep (yT xs)).toNat < 10 ^ 12:=by split at g2 <;> omega
    have e:((aAY deep (yT xs)).toNat:Int)=aAY deep (yT xs):=Int.toNat_of_nonneg g1
    have v:=eGH (m:=room) xs.dropLast g3
    rw [e] at v
    have g4:=h4 (yT xs)
    exact ⟨v.mono (Nat.le_refl _) (by omega),.inl ⟨_,.inl (aGO g3),rfl,rfl⟩,fun _=>by show (aAY deep (yT xs)).natAbs+0<=m0; omega⟩
theorem eLG (x:Int):pwX x<=3:=by
 unfold pwX
 have h:(x % 6).toNat < 6:=by omega
 generalize (x % 6).toNat=n at h
 match n,h with
 | 0,_=>decide
 | 1,_=>decide
 | 2,_=>decide
 | 3,_=>decide
 | 4,_=>decide
 | 5,_=>decide
 | n+6,h=>omega
theorem eIA (x:Int):mnX x<=3:=by
 unfold mnX
 have h:(x / 48 % 8).toNat < 8:=by omega
 generalize (x / 48 % 8).toNat=n at h
 match n,h with
 | 0,_=>decide
 | 1,_=>decide
 | 2,_=>decide
 | 3,_=>decide
 | 4,_=>decide
 | 5,_=>decide
 | 6,_=>decide
 | 7,_=>decide
 | n+8,h=>omega
theorem eEJ (o:Ot) (x:Int):pwO o x<=pwX x:=by unfold pwO; split <;> omega
theorem eFN {n M m0 F:Nat} {atm:List Int->Nat->Ot} (hA:∀ xs room,room<=10->AtV n room M m0 (atm xs room)) (f0:1<=F) (f1:M<=F) (f2:M ^ 2<=F) (g1:m0<=F) (g2:m0 ^ 2<=F) (g3:m0 ^ 3<=F) (hM:M < 2 ^ 63) (xs:List Int) (room:Nat) (hr:room<=10):FcV n room F (eIP atm xs room):=by
 have hd:room / max 1 (pwX (yT xs))<=room:=Nat.div_le_self _ _
 obtain ⟨hv,ha,hn⟩:=hA xs.dropLast (room / max 1 (pwX (yT xs))) (by omega)
 unfold eIP
 dsimp only
 generalize hq:room / max 1 (pwX (yT xs))=q at hv ha hn hd
 generalize atm xs.dropLast q=o at hv ha hn
 generalize hx:yT xs=x at hq
 have hp3:=eLG x
 have hpo:=eEJ o x
 have hm3:=eIA x
 have hpq:pwO o x * q<=room:=by
  by_cases h0:pwX x=0
  ·rw [show pwO o x=0 by omega]; omega
  ·rw [<- hq,show max 1 (pwX x)=pwX x by omega]
   exact Nat.le_trans (Nat.mul_le_mul_right _ hpo) (Nat.mul_div_le _ _)
 have hnp:nrm (aDZ o.kv (pwO o x))<=F:=by
  by_cases hh:o.tk.head? = some [40]
  ·have hle:pwO o x<=2:=by unfold pwO; rw [if_pos hh]; omega
   have hb:=aRS hv.ko hv.nb (pwO o x)
   generalize pwO o x=p at hle hb
   match p,hle with
   | 0,_=>exact Nat.le_trans hb f0
   | 1,_=>exact Nat.le_trans hb (by rw [Nat.pow_one]; exact f1)
   | 2,_=>exact Nat.le_trans hb f2
   | p+3,h=>omega
  ·have hb:=aRS hv.ko (hn hh) (pwO o x)
   have hle:pwO o x<=3:=by omega
   generalize pwO o x=p at hle hb
   match p,hle with
   | 0,_=>exact Nat.le_trans hb f0
   | 1,_=>exact Nat.le_trans hb (by rw [Nat.pow_one]; exact g1)
   | 2,_=>exact Nat.le_trans hb g2
   | 3,_=>exact Nat.le_trans hb g3
   | p+4,h=>omega
 have hp9:pwO o x<=3:=by omega
 generalize pwO o x=p at hpq hnp hp9
 obtain ⟨B,okB,bB,rB⟩:=hv.bd
 have kp:=aGL hv.ko p
 have kin:KIn (room+1) (aDZ o.kv p):=fun z hz=>let ⟨i,k,e,a,b⟩:=aIN hv.kd p z hz; ⟨i,k,e,by omega,by omega⟩
 have fitB:=vT okB bB hv.kd
 have hpw:eJP B p:=⟨fun i hi=>(vT (aIO B i) (aPE hv.ko bB i) (aIN hv.kd i)).sm (by have:i * q<=2 * 10:=Nat.mul_le_mul (by omega) (by omega); omega),fitB.sm (by omega),aQW bB hv.nb hM⟩
 have hB2:∃ B2,BoardOk B2/\(∀ φ,bs B2 φ=ds (aDZ o.kv p) φ)/\∀ stk,Runs (if p≠1\/x / 6 % 8=1 then o.st++[[94,48+p]] else o.st) stk (stk++[B2]):=by
  by_cases hc:p≠1\/x / 6 % 8=1
  ·rw [if_pos hc]
   exact ⟨aOJ B p,aIO B p,aPE hv.ko bB p,fun stk=>(rB stk).app (.cons (.pow hpw (by omega)) .nil)⟩
  ·rw [if_neg hc]
   have h1:p=1:=Classical.byContradiction fun z=>hc (.inl z)
   subst h1
   refine ⟨B,okB,fun φ=>?_,rB⟩
   rw [bB]
   show _=ds (aFG [(nk 0 0,1)] o.kv) φ
   rw [aSJ (aAM 0 0 1) hv.ko,aGM,Int.one_mul]
   exact aNU _ fun i k=>by rw [Nat.zero_add,Nat.zero_add]
 obtain ⟨B2,ok2,b2,r2⟩:=hB2
 refine ⟨?_,⟨mnX x,o.tk,o.st,if p≠1\/x / 6 % 8=1 then some p else none⟩,⟨by show mnX x<=20; omega,ha,fun d e=>by show d<=9; split at e <;> cases e; omega⟩,?_,?_⟩
 ·by_cases hm:mnX x % 2=1
  ·rw [if_pos hm]
   have so:=aBI (-1) (fun _ _=>0) (aDZ o.kv p) [] .nil kp.keys
   refine ⟨so.1,aCE (-1) _ [] (fun z hz=>nomatch hz) kin,Nat.le_trans (aFI (-1) rfl _ [] .nil kp.keys) (by show 0+_<=_; omega),aDD [] (aRZ B2),aAB _ _,fun φ=>?_,fun stk=>?_⟩
   ·show _=ds (qO [] (aDZ o.kv p) (-1)) φ
    rw [aCK,aJU,b2,(aBI (-1) φ (aDZ o.kv p) [] .nil kp.keys).2]
    show (0:Int) + - _=0 + -1 * _
    omega
   ·show Runs (_++mnS (mnX x)) _ _
    rw [show mnS (mnX x)=[[109,105,110,117,115]] by unfold mnS; rw [if_pos hm]]
    exact (r2 stk).app (.cons (.neg ((vT ok2 b2 kin).sm (by omega))) .nil)
  ·rw [if_neg hm]
   refine ⟨kp,kin,hnp,B2,ok2,b2,fun stk=>?_⟩
   show Runs (_++mnS (mnX x)) _ _
   rw [show mnS (mnX x)=[] by unfold mnS; rw [if_neg hm],List.append_nil]
   exact r2 stk
 ·show List.replicate (mnX x) [45]++(o.tk++eBM _)=_
  by_cases hc:p≠1\/x / 6 % 8=1
  ·rw [if_pos hc,if_pos hc]; rfl
  ·rw [if_neg hc,if_neg hc]; show _++(o.tk++[])=_; rw [List.append_nil]
 ·show (o.st++eBN (if p≠1\/x / 6 % 8=1 then some p else none))++mnS (mnX x)=(if p≠1\/x / 6 % 8=1 then o.st++[[94,48+p]] else o.st)++mnS (mnX x)
  by_cases hc:p≠1\/x / 6 % 8=1
  ·rw [if_pos hc,if_pos hc]; rfl
  ·rw [if_neg hc,if_neg hc]; show (o.st++[])++_=_; rw [List.append_nil]
theorem eNG (xs:List Int) (room:Nat):frX xs room<=room:=by
 have:=Int.emod_lt_of_pos (yT xs) (show (0:Int) < (room:Int)+1 by omega)
 have:=Int.emod_nonneg (yT xs) (show (room:Int)+1≠0 by omega)
 unfold frX; omega
theorem eEM {n F:Nat} {fac:List Int->Nat->Ot} (hF:∀ xs room,room<=10->FcV n room F (fac xs room)) (f0:1<=F) (hM:F < 2 ^ 63) (xs:List Int) (room:Nat) (hr:room<=10):PdV n room (F * F) (eHI fac xs room):=by
 have hle:=eNG xs room
 unfold eHI
 dsimp only
 generalize frX xs room=a at hle
 obtain ⟨hv,f,hf,e1,e2⟩:=hF xs.dropLast a (by omega)
 generalize fac xs.dropLast a=o at hv e1 e2
 split
 ·obtain ⟨gv,g,hg,e3,e4⟩:=hF o.xs.dropLast (room - a) (by omega)
  generalize fac o.xs.dropLast (room - a)=q at gv e3 e4
  obtain ⟨B,okB,bB,rB⟩:=hv.bd
  obtain ⟨C,okC,bC,rC⟩:=gv.bd
  have fB:=vT okB bB hv.kd
  have fC:=vT okC bC gv.kd
  refine ⟨⟨aYD hv.ko gv.ko,?_,Nat.le_trans (aUC hv.ko gv.ko) (Nat.mul_le_mul hv.nb gv.nb),wJ B C,aCZ _ _,fun φ=>?_,fun stk=>?_⟩,(f,[g]),⟨hf,fun z hz=>by rw [List.mem_singleton.mp hz]; exact hg⟩,?_,?_⟩
  ·have:=aTT hv.kd gv.kd
   rw [show a+(room - a)=room by omega] at this
   exact this
  ·show _=ds (aFG o.kv q.kv) φ
   rw [aDX,bB,aSJ hv.ko gv.ko]
   exact aNU _ fun i k=>bC _
  ·have:=(rC (stk++[B])).app (.cons (.mul (st:=stk) (fB.sm (by omega)) (fC.sm (by omega)) (aQW bC gv.nb hM)) .nil)
   exact (rB stk).app this
  ·show tkF f++([42] :: (tkF g++[]))=_
   rw [e1,e3,List.append_nil,List.append_assoc]; rfl
  ·show sfF f++(sfF g++([42] :: []))=_
   rw [e2,e4]
 ·refine ⟨(⟨hv.ko,hv.kd,hv.nb,hv.bd⟩:Val a F ⟨o.tk,o.st,o.kv,o.xs.dropLast⟩).mono hle (Nat.le_mul_of_pos_left F (by omega)),(f,[]),⟨hf,fun z hz=>nomatch hz⟩,?_,?_⟩
  ·show tkF f++[]=_; rw [List.append_nil,e1]
  ·show sfF f++[]=_; rw [List.append_nil,e2]
theorem aTK {n P room:Nat} {prd:List Int->Nat->Ot} (hP:∀ xs,PdV n room P (prd xs room)) (hr:room<=10) {o:Ot} (h0:PdV n room P o):∀ t,SmV n room ((t+1) * P) (aCF prd room o t)
 | 0=>by
  obtain ⟨hv,p,hp,e1,e2⟩:=h0
  exact ⟨hv.mono (Nat.le_refl _) (by omega),(p,[]),⟨hp,fun z hz=>nomatch hz⟩,by show tkP p++[]=_; rw [List.append_nil,e1]; rfl,by show stP p++[]=_; rw [List.append_nil,e2]; rfl⟩
 | t+1=>by
  obtain ⟨hv,T,hT,e1,e2⟩:=aTK hP hr h0 t
  unfold aCF aEL
  dsimp only
  generalize aCF prd room o t=u at hv e1 e2
  obtain ⟨gv,p,hp,e3,e4⟩:=hP u.xs.dropLast
  generalize prd u.xs.dropLast room=q at gv e3 e4
  obtain ⟨B,okB,bB,rB⟩:=hv.bd
  obtain ⟨C,okC,bC,rC⟩:=gv.bd
  have fB:=vT okB bB hv.kd
  have fC:=vT okC bC gv.kd
  have so:=fun s φ=>aBI s φ q.kv u.kv hv.ko gv.ko.keys
  refine ⟨⟨(so _ (fun _ _=>0)).1,aCE _ _ _ hv.kd gv.kd,Nat.le_trans (aFI _ (by split <;> rfl) _ _ hv.ko gv.ko.keys) (by have h1:=hv.nb; have h2:=gv.nb; have e:(t+1+1) * P=(t+1) * P+P:=Nat.succ_mul (t+1) P; omega),?_⟩,(T.1,T.2++[(sgX u.xs,p)]),⟨hT.1,fun z hz=>?_⟩,?_,?_⟩
  ·cases hs:sgX u.xs
   ·refine ⟨aDD B (aRZ C),aAB _ _,fun φ=>?_,fun stk=>?_⟩
    ·show _=ds (qO u.kv q.kv (-1)) φ
     rw [aCK,aJU,bB,bC,(so (-1) φ).2]; omega
    ·exact (rB stk).app ((rC (stk++[B])).app (.cons (.sub (st:=stk) (fB.sm (by omega)) (fC.sm (by omega))) .nil))
   ·refine ⟨aDD B C,aAB _ _,fun φ=>?_,fun stk=>?_⟩
    ·show _=ds (qO u.kv q.kv 1) φ
     rw [aCK,bB,bC,(so 1 φ).2]; omega
    ·exact (rB stk).app ((rC (stk++[B])).app (.cons (.add (st:=stk) (fB.sm (by omega)) (fC.sm (by omega))) .nil))
  ·rcases List.mem_append.mp hz with hz | hz
   ·exact hT.2 z hz
   ·rw [List.mem_singleton.mp hz]; exact hp
  ·show tkP T.1++aEK (T.2++[(sgX u.xs,p)])=_
   rw [aHJ,<- List.append_assoc,show tkP T.1++aEK T.2=u.tk from e1]
   show _++(sgW (sgX u.xs) :: (tkP p++[]))=_
   rw [List.append_nil,e3,List.append_assoc]; rfl
  ·show stP T.1++aIC (T.2++[(sgX u.xs,p)])=_
   rw [aFC,<- List.append_assoc,show stP T.1++aIC T.2=u.st from e2]
   show _++(stP p++(sgW (sgX u.xs) :: []))=_
   rw [e4]
theorem eDU {n P:Nat} {prd:List Int->Nat->Ot} (hP:∀ xs room,room<=10->PdV n room P (prd xs room)) (xs:List Int) (room:Nat) (hr:room<=10):SmV n room (3 * P) (eGM prd xs room):=by
 unfold eGM
 dsimp only
 obtain ⟨hv,p,hp,e1,e2⟩:=hP xs room hr
 have h0:PdV n room P { prd xs room with xs:=(prd xs room).xs.dropLast }:=⟨⟨hv.ko,hv.kd,hv.nb,hv.bd⟩,p,hp,e1,e2⟩
 obtain ⟨gv,g⟩:=aTK (fun xs=>hP xs room hr) hr h0 (yT (prd xs room).xs % 3).toNat
 refine ⟨gv.mono (Nat.le_refl _) (Nat.mul_le_mul_right _ (by omega)),g⟩
theorem at0 (xs:List Int) (room:Nat) (hr:room<=10):AtV 1 room 9 9 (aBB 0 xs room):=eBE (n:=0) (S:=0) (fun z=>absurd z (by omega)) (by decide) (by decide) (by decide) (fun x=>by have:=aFX 0 x; rw [if_neg (by decide)] at this; omega) xs room hr
theorem fc0 (xs:List Int) (room:Nat) (hr:room<=10):FcV 1 room 729 (aGS 0 xs room):=eFN at0 (by decide) (by decide) (by decide) (by decide) (by decide) (by decide) (by decide) xs room hr
theorem pd0 (xs:List Int) (room:Nat) (hr:room<=10):PdV 1 room 531441 (aCC 0 xs room):=eEM fc0 (by decide) (by decide) xs room hr
theorem eSH (xs:List Int) (room:Nat) (hr:room<=10):SmV 1 room 1594323 (aBQ 0 xs room):=eDU pd0 xs room hr
theorem at1 (xs:List Int) (room:Nat) (hr:room<=10):AtV 2 room 1594323 999 (aBB 1 xs room):=eBE (n:=1) (S:=1594323) (fun _ xs room hr=>eSH xs room hr) (by decide) (by decide) (by decide) (fun x=>by show (aAY 1 x).toNat<=999; have:=aFX 1 x; rw [if_pos (by decide)] at this; omega) xs room hr
theorem fc1 (xs:List Int) (room:Nat) (hr:room<=10):FcV 2 room 2541865828329 (aGS 1 xs room):=eFN at1 (by decide) (by decide) (by decide) (by decide) (by decide) (by decide) (by decide) xs room hr
theorem pd1 (xs:List Int) (room:Nat) (hr:room<=10):PdV 2 room (2541865828329 * 2541865828329) (aCC 1 xs room):=eEM fc1 (by decide) (by decide) xs room hr
theorem sm1 (xs:List Int) (room:Nat) (hr:room<=10):SmV 2 room (3 * (2541865828329 * 2541865828329)) (aBQ 1 xs room):=eDU pd1 xs room hr
theorem eEY {α:Type} [DecidableEq α]:∀ {l m:List α},l.Nodup->(∀ x∈l,x∈m)->l.length<=m.length
 | [],m,_,_=>Nat.zero_le _
 | x :: l,m,nd,h=>by
  have hx:=h x (by simp)
  have nd':=List.nodup_cons.mp nd
  have:=eEY (m:=m.erase x) nd'.2 fun y hy=>(List.mem_erase_of_ne (fun (e:y=x)=>nd'.1 (e ▸ hy))).mpr (h y (by simp [hy]))
  rw [List.length_erase_of_mem hx] at this
  have:0 < m.length:=List.length_pos_of_mem hx
  simp
  omega
theorem eIE:((List.range 100).map fun n=>aKZ (nk (n / 10) (n % 10)))=[-8458139203682520985,-1950498447580522560,7204814214171964562,-4734289103435588629,1773351652666409796,-3119722376306286570,-1010439003188656273,-5903513032161352639,604127723940645786,-4288946305032050580,-5164621852614943976,8389048192121911274,-3550055125485641917,-1440771752368011620,-6333845781340707986,173794974761290439,-4719279054211405927,-2609995681093775630,3897645075008222795,-995428953964473571,4685526799349444076,6794810172467074373,1901736143494378007,8409376899596376432,3516302870623680066,-8422800446983873125,-6313517073866242828,7240152970870612422,-4698950346736940769,8854719697999914481,2248468952609198383,8756109708711196808,3863035679738500442,5972319052856130739,1079245023883434373,7586885779985432798,-4352217537622120393,4803095124130366729,-7136008193477186462,6417661851259668788,-6348126469135965181,159514286966033244,-9131917124991031250,-2624276368889032825,3883364387212965600,-1009709641759730766,1099573731357899531,-3793500297614796835,2714140458487201590,-2178933570485494776,-3054609118068388172,3453031638033610253,-5838399773923454241,669240982178544184,-4223833046794152182,2283807709307846243,-7007623702649218251,-499982946547219826,6007657809554778599,1114583780582082233,-5491666964808633865,8062003079928221385,-3877100237679331806,2630540518422666619,-6660890893534397875,-153250137432399450,-5046324166405095816,1461316589696902609,3570599962814532906,-1322474066158163460,4358481687155754187,-7580621630451799004,5973048414285056246,8082331787402686543,3189257758429990177,-8749845559177563014,-2242204803075564589,6913107858676922533,-5025995458930630658,8527674585806224592,1921423840415508494,8429064596517506919,3535990567544810553,-8403112750062742638,752199911689744484,7259840667791742909,-4679262649815810282,8874407394921044968,-7463053305670876351,6090616739065978899,-6675171581329655070,-167530825227656645,-5060604854200353011,-2951321481082722714,3556319275019275711,-1336754753953420655,5170886002148577770,-4120545409808486724,2387095346293511701,-2505978682679184665]:=by decide +kernel
theorem eMP:(([-8458139203682520985,-1950498447580522560,7204814214171964562,-4734289103435588629,1773351652666409796,-3119722376306286570,-1010439003188656273,-5903513032161352639,604127723940645786,-4288946305032050580,-5164621852614943976,8389048192121911274,-3550055125485641917,-1440771752368011620,-6333845781340707986,173794974761290439,-4719279054211405927,-2609995681093775630,3897645075008222795,-995428953964473571,4685526799349444076,6794810172467074373,1901736143494378007,8409376899596376432,3516302870623680066,-8422800446983873125,-6313517073866242828,7240152970870612422,-4698950346736940769,8854719697999914481,2248468952609198383,8756109708711196808,3863035679738500442,5972319052856130739,1079245023883434373,7586885779985432798,-4352217537622120393,4803095124130366729,-7136008193477186462,6417661851259668788,-6348126469135965181,159514286966033244,-9131917124991031250,-2624276368889032825,3883364387212965600,-1009709641759730766,1099573731357899531,-3793500297614796835,2714140458487201590,-2178933570485494776,-3054609118068388172,3453031638033610253,-5838399773923454241,669240982178544184,-4223833046794152182,2283807709307846243,-7007623702649218251,-499982946547219826,6007657809554778599,1114583780582082233,-5491666964808633865,8062003079928221385,-3877100237679331806,2630540518422666619,-6660890893534397875,-153250137432399450,-5046324166405095816,1461316589696902609,3570599962814532906,-1322474066158163460,4358481687155754187,-7580621630451799004,5973048414285056246,8082331787402686543,3189257758429990177,-8749845559177563014,-2242204803075564589,6913107858676922533,-5025995458930630658,8527674585806224592,1921423840415508494,8429064596517506919,3535990567544810553,-8403112750062742638,752199911689744484,7259840667791742909,-4679262649815810282,8874407394921044968,-7463053305670876351,6090616739065978899,-6675171581329655070,-167530825227656645,-5060604854200353011,-2951321481082722714,3556319275019275711,-1336754753953420655,5170886002148577770,-4120545409808486724,2387095346293511701,-2505978682679184665]:List Int)).Nodup:=by decide +kernel
theorem eMO {i k a c:Nat} (hi:i < 10) (hk:k < 10) (ha:a < 10) (hc:c < 10) (e:aKZ (nk i k)=aKZ (nk a c)):nk i k=nk a c:=by
 have nd:=eMP
 rw [<- eIE] at nd
 have key:∀ n m:Nat,n < 100->m < 100->aKZ (nk (n / 10) (n % 10))=aKZ (nk (m / 10) (m % 10))->n=m:=fun n m hn hm e=>by
  have l:((List.range 100).map fun n=>aKZ (nk (n / 10) (n % 10))).length=100:=by simp
  have:=(List.getElem_inj (h₀:=by rw [l]; exact hn) (h₁:=by rw [l]; exact hm) nd).mp (by simpa using e)
  exact this
 have:=key (10 * i+k) (10 * a+c) (by omega) (by omega) (by rw [show (10 * i+k) / 10=i by omega,show (10 * i+k) % 10=k by omega,show (10 * a+c) / 10=a by omega,show (10 * a+c) % 10=c by omega]; exact e)
 rw [show i=a by omega,show k=c by omega]
theorem eMN:∀ {kv:KVs},(kv.map (·.1)).Nodup->KIn 10 kv->(kv.map fun y=>aKZ y.1).Nodup
 | [],_,_=>List.nodup_nil
 | p :: r,nd,hk=>by
  rw [List.map_cons,List.nodup_cons] at nd ⊢
  refine ⟨fun hm=>?_,eMN nd.2 fun z hz=>hk z (by simp [hz])⟩
  obtain ⟨y,hy,e⟩:=List.mem_map.mp hm
  obtain ⟨i,j,e1,hi,hj⟩:=hk p (by simp)
  obtain ⟨a,c,e2,ha,hc⟩:=hk y (by simp [hy])
  rw [e1,e2] at e
  have:=eMO ha hc hi hj e
  exact nd.1 (List.mem_map.mpr ⟨y,hy,by rw [e1,e2,this]⟩)
theorem aUH {n:Nat} {kv:KVs} (h:KOk kv) (hk:KIn n kv):kv.length<=n * n:=by
 have:=eEY (m:=(List.range n).flatMap fun i=>(List.range n).map fun k=>nk i k) h.nd fun x hx=>by
  obtain ⟨p,hp,rfl⟩:=List.mem_map.mp hx
  obtain ⟨i,j,e,hi,hj⟩:=hk p hp
  exact List.mem_flatMap.mpr ⟨i,List.mem_range.mpr hi,List.mem_map.mpr ⟨j,List.mem_range.mpr hj,e.symm⟩⟩
 rw [List.length_map] at this
 refine Nat.le_trans this ?_
 rw [List.length_flatMap]
 have:∀ l:List Nat,(l.map fun i=>((List.range n).map fun k=>nk i k).length).sum=l.length * n:=by
  intro l
  induction l with
  | nil=>simp
  | cons a l ih=>rw [List.map_cons,List.sum_cons,ih,List.length_cons,Nat.succ_mul]; simp; omega
 rw [this]; simp
abbrev iL (ns:List Int):List D:=ns.map D.int
def oD (o:Ot):D:=.tup [.lst (yY o.tk),.dic o.kv]
def jY (ds xs:List D) (d:D) (xs':List D):Prop:=∃ ns:List Int,ds=[]/\xs=iL ns/\d = .int (yT ns)/\xs' = iL ns.dropLast
theorem aNH:∀ ds xs d xs',jY ds xs d xs'->ds.length+1=1:=by rintro _ _ _ _ ⟨_,rfl,_⟩; rfl
def wC (ds:List D) (kvs:KVs):Prop:=∃ (A B:KVs) (s:Int),ds=[.dic A,.dic B,.int s]/\KOk A/\KIn 10 A/\KOk B/\KIn 10 B/\(s=1\/s = -1)/\kvs=qO A B s
theorem aPV:∀ ds d,wC ds d->ds.length=3:=by rintro _ _ ⟨_,_,_,rfl,_⟩; rfl
def CO (f:List Int->Nat->Ot) (n:Nat) (ds xs:List D) (d:D) (xs':List D):Prop:=∃ (ns:List Int) (room:Nat),ds=[.int room,.int n]/\room<=6/\ns.length<=200/\xs=iL ns/\d=oD (f ns room)/\xs' = iL (f ns room).xs
theorem CO.len {f:List Int->Nat->Ot} {n:Nat}:∀ ds xs d xs',CO f n ds xs d xs'->ds.length+1=3:=by rintro _ _ _ _ ⟨_,_,rfl,_⟩; rfl
abbrev aAW (n:Nat):=CO (aBB n) n
abbrev vO (n:Nat):=CO (aGS n) n
abbrev aAV (n:Nat):=CO (aCC n) n
abbrev aAJ (n:Nat):=CO (aBQ n) n
theorem aFM (n:Nat):∀ ds xs d xs',aAW n ds xs d xs'->ds.length+1=3:=CO.len
theorem aDF (n:Nat):∀ ds xs d xs',vO n ds xs d xs'->ds.length+1=3:=CO.len
theorem aFL (n:Nat):∀ ds xs d xs',aAV n ds xs d xs'->ds.length+1=3:=CO.len
theorem aGR (n:Nat):∀ ds xs d xs',aAJ n ds xs d xs'->ds.length+1=3:=CO.len
theorem eNB (ns:List Int):ns=[]\/∃ m i,ns=m++[i]:=by
 cases h:ns.getLast? with
 | none=>exact .inl (List.getLast?_eq_none_iff.mp h)
 | some y=>obtain ⟨ys,e⟩:=List.getLast?_eq_some_iff.mp h; exact .inr ⟨ys,y,e⟩
theorem aQQ (h:DefX P w K mg base k N__law_pick (yC jX) X)  :
  ∀ q ds xs d xs',jY ds xs d xs'->EvM X q (.val (.stt q) :: ds.map Sl.val++List.replicate (N__law_pick.length - (ds.length+1)) Sl.un) (yF jX) (.rt d) xs xs':=by
 rintro q ds xs d xs' ⟨ns,rfl,rfl,rfl,rfl⟩
 have t:=h.at'
 haveI:=h.fnT
 show EvM X q [.val (.stt q)] _ _ _ _
 rcases eNB ns with rfl | ⟨m,i,rfl⟩
 ·exact eCQ (aKS (aTH t 0 rfl (ns:=[]) rfl rfl) (aAZ (eFF (EvE.em yD))))
 ·refine qV (aHA (aTH t 0 rfl (ns:=m++[i]) rfl (by cases m <;> rfl)) aZC) (aAZ (eFF (eNV t 0 rfl ?_)))
  rw [List.dropLast_concat]
  show iL (m++[i])=iL m++[.int (yT (m++[i]))]
  unfold yT iL
  rw [List.getLast?_concat,List.map_append]; rfl
theorem aXG (A B:KVs) (p:List Int × Int) (s:Int):qO A (B++[p]) s=aEO (qO A B s) p.1 ((vQ (qO A B s) p.1).getD 0+s * p.2):=by unfold qO; rw [List.foldl_append]; rfl
theorem aSS (h:DefX P w K mg base k N__law_add (yC vC) X) (m_dict:mg "dict" = none) :
  ∀ ds d,wC ds d->aRC X (ds.map Sl.val++List.replicate (N__law_add.length - ds.length) Sl.un) (yF vC) d:=by
 rintro ds d ⟨A,B,s,rfl,kA,iA,kB,iB,hs,rfl⟩
 have t:=h.at'
 haveI:=h.fnT
 have b1:Blt X (yC vC) "dict" (.type "dict"):=yP (by rw [h.mg']; exact m_dict)
 show aRC X [.val (.dic A),.val (.dic B),.val (.int s),.un,.un] _ _
 refine aHV (eDY t 3 (eJF t b1 (EvE.dr (yA t 0 rfl)) (eMN kA.nd iA))) (aHV (ρ':=[.val (.dic A),.val (.dic B),.val (.int s),.dct (qO A B s),.un]) (aCW t (eAG (yA t 1 rfl)) (FRun.uptoE (fun j=>[.val (.dic A),.val (.dic B),.val (.int s),.dct (qO A (B.take j) s),.un]) (fun j d e=>?_) rfl (by rw [List.length_map,List.take_length]))) (eAD t 3 rfl))
 rw [List.getElem?_map] at e
 cases e2:B[j]? with
 | none=>rw [e2] at e; cases e
 | some p=>
  rw [e2] at e
  cases e
  have hm:=List.mem_of_getElem? e2
  have et:qO A (B.take (j+1)) s=aEO (qO A (B.take j) s) p.1 ((vQ (qO A (B.take j) s) p.1).getD 0+s * p.2):=by rw [List.take_succ,e2]; exact aXG _ _ _ _
  have hv:vQ B p.1=some p.2:=aEY kB.nd hm
  have hlen:(qO A (B.take j) s).length < 1000:=by
   have k1:=(aBI s (fun _ _=>0) (B.take j) A kA fun z hz=>kB.keys z (List.mem_of_mem_take hz)).1
   have:=aUH k1 (aCE s (B.take j) A iA fun z hz=>iB z (List.mem_of_mem_take hz))
   omega
  rw [et]
  generalize qO A (B.take j) s=S0 at hlen
  refine ⟨_,zA t 4,EvSs.weak (ρ1:=[.val (.dic A),.val (.dic B),.val (.int s),.dct (aEO S0 p.1 ((vQ S0 p.1).getD 0+s * p.2)),.val (eRI p)]) (yJ (eBY t (jI (aSG t (k:=p.1) (eFS t 3 rfl) (yB (yA t 4 rfl) (yB yD yE))) (aBE (yA t 2 rfl) (aZX t (EvE.dr (yA t 1 rfl)) (yA t 4 rfl) hv) (by rcases hs with rfl | rfl <;> exact aCI (by decide) (by decide)))) (eAH (k:=p.1) t 3 rfl (yA t 4 rfl) (by rw [aZH]; omega)))) (.keep (.keep (.keep (.keep (.forget .nil)))))⟩
def wT (tk:TK):Nat:=(tk.map fun u=>u.length+3).sum
theorem jZ (a b:TK):wT (a++b)=wT a+wT b:=by unfold wT; rw [List.map_append,List.sum_append]
theorem aCX (u:List Nat) (b:TK):wT (u :: b)=u.length+3+wT b:=rfl
theorem aLH (u:List Nat):∀ n,wT (List.replicate n u)=n * (u.length+3)
 | 0=>by simp [wT]
 | n+1=>by rw [List.replicate_succ,aCX,aLH u n,Nat.succ_mul]; omega
theorem aWQ (tk:TK):3 * tk.length<=wT tk:=by
 induction tk with
 | nil=>simp [wT]
 | cons u tk ih=>rw [aCX,List.length_cons]; omega
structure Pot (β γ:Int) (n:Nat) (o:Ot):Prop where
 le:o.xs.length<=n
 non:n=0->wT o.tk=4
 more:0 < o.xs.length->(wT o.tk:Int)<=8 * ((n:Int) - (o.xs.length:Int))+β
 last:0 < n->o.xs.length=0->(wT o.tk:Int)<=8 * (n:Int)+γ
theorem aFH:yT []=0:=rfl
theorem aGN {n k:Nat} (hk:0 < k) (h:n < 10 ^ k):(jG n).length<=k/\1<=(jG n).length:=by
 refine ⟨?_,?_⟩
 ·unfold jG; rw [List.length_map]; exact (Nat.length_toDigits_le_iff (by decide) hk).mpr h
 ·cases e:jG n with
  | nil=>exact absurd e (aRX n)
  | cons a b=>simp
theorem dl {α:Type} (xs:List α):xs.dropLast.length=xs.length - 1:=List.length_dropLast
theorem aIP (xs:List Int) (room:Nat):Pot (-4) (-4) xs.length (aBB 0 xs room):=by
 have hx:=dl xs
 show Pot _ _ _ (aHH 0 _ xs room)
 have key:∀ (u:List Nat) st kv,u.length=1->Pot (-4) (-4) xs.length ⟨[u],st,kv,xs.dropLast⟩:=fun u st kv hu=>by
  have hw:wT [u]=4:=by rw [aCX,hu]; rfl
  refine ⟨by show xs.dropLast.length<=_; omega,fun _=>hw,fun h=>?_,fun h1 h2=>?_⟩
  ·have h':0 < xs.dropLast.length:=h
   show (wT [u]:Int)<=8 * ((xs.length:Int) - (xs.dropLast.length:Int)) + -4
   rw [hw]; omega
  ·show (wT [u]:Int)<=_
   rw [hw]; omega
 unfold aHH
 split
 ·exact key _ _ _ rfl
 ·split
  ·exact key _ _ _ rfl
  ·rw [if_neg (by omega)]
   refine key _ _ _ ?_
   have:=aFX 0 (yT xs)
   rw [if_neg (by decide)] at this
   have:=aGN (n:=(aAY 0 (yT xs)).toNat) (k:=1) (by decide) (by omega)
   omega
theorem aYJ {n:Nat} {β γ:Int} (hs:∀ xs room,Pot β γ xs.length (aBQ n xs room)) (h1:β <= -2) (h2:4<=γ) (xs:List Int) (room:Nat):Pot (-2) γ xs.length (aBB (n+1) xs room):=by
 have hx:=dl xs
 show Pot _ _ _ (aHH (n+1) (aBQ n) xs room)
 have key:∀ (u:List Nat) st kv,u.length<=3->(xs.length=0->u.length=1)->Pot (-2) γ xs.length ⟨[u],st,kv,xs.dropLast⟩:=fun u st kv hu hu1=>by
  have hw:wT [u]=u.length+3:=by rw [aCX]; rfl
  refine ⟨by show xs.dropLast.length<=_; omega,fun z=>by rw [hw,hu1 z],fun h=>?_,fun h1 h2=>?_⟩
  ·have h':0 < xs.dropLast.length:=h
   show (wT [u]:Int)<=8 * ((xs.length:Int) - (xs.dropLast.length:Int)) + -2
   rw [hw]; omega
  ·show (wT [u]:Int)<=_
   rw [hw]; omega
 unfold aHH
 split
 ·exact key _ _ _ (by decide) fun _=>rfl
 ·split
  ·exact key _ _ _ (by decide) fun _=>rfl
  ·split
   ·rename_i h
    have hne:0 < xs.length:=by
     cases xs with
     | nil=>rw [aFH] at h; omega
     | cons a b=>simp
    have hp:=hs xs.dropLast room
    generalize aBQ n xs.dropLast room=o at hp
    have hw:wT ([40] :: (o.tk++[[41]]))=wT o.tk+8:=by rw [aCX,jZ,aCX]; show 1+3+(wT o.tk+(1+3+0))=_; omega
    obtain ⟨p1,p2,p3,p4⟩:=hp
    rw [hx] at p1 p2 p3 p4
    refine ⟨by show o.xs.length<=_; omega,fun z=>by omega,fun h=>?_,fun h1 h2=>?_⟩
    ·have h':0 < o.xs.length:=h
     have:=p3 h'
     show (wT ([40] :: (o.tk++[[41]])):Int)<=8 * ((xs.length:Int) - (o.xs.length:Int)) + -2
     rw [hw]; omega
    ·have h':o.xs.length=0:=h2
     show (wT ([40] :: (o.tk++[[41]])):Int)<=_
     rw [hw]
     by_cases z:xs.length - 1=0
     ·have:=p2 z; omega
     ·have:=p4 (by omega) h'; omega
   ·have g:=aFX (n+1) (yT xs)
    rw [if_pos (by omega)] at g
    have g3:=aGN (n:=(aAY (n+1) (yT xs)).toNat) (k:=3) (by decide) (by omega)
    refine key _ _ _ g3.1 fun z=>?_
    have:xs=[]:=List.eq_nil_of_length_eq_zero z
    subst this
    show (jG (aAY (n+1) 0).toNat).length=1
    rw [show (aAY (n+1) 0).toNat=0 by unfold aAY; rfl]
    decide
theorem aYI {atm:List Int->Nat->Ot} {βa γa β γ:Int} (ha:∀ xs room,Pot βa γa xs.length (atm xs room)) (hh:∀ room,(atm [] room).tk.head? ≠ some [40]) (h1:12+βa<=β) (h2:16<=γ) (h3:12+γa<=γ) (xs:List Int) (room:Nat):Pot β γ xs.length (eIP atm xs room):=by
 have hx:=dl xs
 have hmn:=eIA (yT xs)
 unfold eIP
 dsimp only
 generalize hq:room / max 1 (pwX (yT xs))=q
 have hp:=ha xs.dropLast q
 have hh':xs.length=0->(atm xs.dropLast q).tk.head? ≠ some [40]:=fun z=>by rw [List.eq_nil_of_length_eq_zero z]; exact hh q
 generalize atm xs.dropLast q=o at hp hh'
 obtain ⟨p1,p2,p3,p4⟩:=hp
 rw [hx] at p1 p2 p3 p4
 have hw:∀ p,wT (List.replicate (mnX (yT xs)) [45]++(if p≠1\/yT xs / 6 % 8=1 then o.tk++[[94],[48+p]] else o.tk))<=20+wT o.tk:=fun p=>by
  rw [jZ,aLH]
  show _ * 4+_<=_
  split
  ·rw [jZ]
   have:wT [[94],[48+p]]=8:=rfl
   omega
  ·omega
 have hw0:xs.length=0->wT (List.replicate (mnX (yT xs)) [45]++(if pwO o (yT xs)≠1\/yT xs / 6 % 8=1 then o.tk++[[94],[48+pwO o (yT xs)]] else o.tk))=wT o.tk:=fun z=>by
  have e0:xs=[]:=List.eq_nil_of_length_eq_zero z
  have hd:=hh' z
  rw [e0,aFH]
  have e1:pwO o 0=1:=by unfold pwO; rw [if_neg hd]; rfl
  rw [e1,if_neg (by decide)]
  rfl
 have fin:∀ T st kv,wT T<=20+wT o.tk->(xs.length=0->wT T=wT o.tk)->Pot β γ xs.length ⟨T,st,kv,o.xs⟩:=fun T st kv w1 w2=>by
  refine ⟨by show o.xs.length<=_; omega,fun z=>?_,fun h=>?_,fun h1' h2'=>?_⟩
  ·show wT T=4
   rw [w2 z]
   exact p2 (by omega)
  ·have h':0 < o.xs.length:=h
   have:=p3 h'
   show (wT T:Int)<=8 * ((xs.length:Int) - (o.xs.length:Int))+β
   omega
  ·have h':o.xs.length=0:=h2'
   show (wT T:Int)<=_
   by_cases z:xs.length - 1=0
   ·have:=p2 z; omega
   ·have:=p4 (by omega) h'; omega
 exact fin _ _ _ (hw _) hw0
theorem aYH {fac:List Int->Nat->Ot} {βf γf β γ:Int} (hf:∀ xs room,Pot βf γf xs.length (fac xs room)) (h1:2 * βf - 12<=β) (h2:βf - 16<=β) (g1:γf - 8<=γ) (g2:βf - 8<=γ) (g3:βf - 12+γf<=γ) (g4 : -4<=γ) (xs:List Int) (room:Nat):Pot β γ xs.length (eHI fac xs room):=by
 have hx:=dl xs
 unfold eHI
 dsimp only
 generalize frX xs room=a
 have hp:=hf xs.dropLast a
 generalize fac xs.dropLast a=o at hp
 obtain ⟨p1,p2,p3,p4⟩:=hp
 rw [hx] at p1 p2 p3 p4
 have ho:=dl o.xs
 split
 ·rename_i hy
  have hne:0 < o.xs.length:=by
   cases e:o.xs with
   | nil=>rw [e,aFH] at hy; omega
   | cons a b=>simp
  have hq:=hf o.xs.dropLast (room - a)
  generalize fac o.xs.dropLast (room - a)=q at hq
  obtain ⟨q1,q2,q3,q4⟩:=hq
  rw [ho] at q1 q2 q3 q4
  have hw:wT (o.tk++[[42]]++q.tk)=wT o.tk+4+wT q.tk:=by rw [jZ,jZ]; rfl
  have pp:=p3 hne
  refine ⟨by show q.xs.length<=_; omega,fun z=>by omega,fun h=>?_,fun _ h2'=>?_⟩
  ·have h':0 < q.xs.length:=h
   have:=q3 h'
   show (wT (o.tk++[[42]]++q.tk):Int)<=8 * ((xs.length:Int) - (q.xs.length:Int))+β
   rw [hw]; omega
  ·have h':q.xs.length=0:=h2'
   show (wT (o.tk++[[42]]++q.tk):Int)<=_
   rw [hw]
   by_cases z:o.xs.length - 1=0
   ·have:=q2 z; omega
   ·have:=q4 (by omega) h'; omega
 ·refine ⟨by show o.xs.dropLast.length<=_; omega,fun z=>p2 (by omega),fun h=>?_,fun h1' h2'=>?_⟩
  ·have h':0 < o.xs.dropLast.length:=h
   have:=p3 (by omega)
   show (wT o.tk:Int)<=8 * ((xs.length:Int) - (o.xs.dropLast.length:Int))+β
   omega
  ·have h':o.xs.dropLast.length=0:=h2'
   show (wT o.tk:Int)<=_
   by_cases y:o.xs.length=0
   ·by_cases z:xs.length - 1=0
    ·have:=p2 z; omega
    ·have:=p4 (by omega) y; omega
   ·have:=p3 (by omega); omega
theorem aMS {prd:List Int->Nat->Ot} {βp γp β γ β' γ':Int} {n room:Nat} {o:Ot} (hp:∀ xs room,Pot βp γp xs.length (prd xs room)) (ho:Pot β γ n o) (hn:0 < n) (h1:β+βp - 4<=β') (g1:γ+8<=γ') (g2:β<=γ') (g3:β+γp - 4<=γ'):Pot β' γ' n (aEL prd room o):=by
 obtain ⟨p1,p2,p3,p4⟩:=ho
 have hq:=hp o.xs.dropLast room
 have hd:=dl o.xs
 unfold aEL
 dsimp only
 generalize prd o.xs.dropLast room=q at hq
 obtain ⟨q1,q2,q3,q4⟩:=hq
 rw [hd] at q1 q2 q3 q4
 have hs:(sgW (sgX o.xs)).length=1:=by unfold sgW; split <;> rfl
 have hw:wT (o.tk++[sgW (sgX o.xs)]++q.tk)=wT o.tk+4+wT q.tk:=by rw [jZ,jZ,aCX,hs]; rfl
 refine ⟨by show q.xs.length<=_; omega,fun z=>by omega,fun h=>?_,fun _ h2'=>?_⟩
 ·have h':0 < q.xs.length:=h
  have a:=q3 h'
  have b:=p3 (by omega)
  show (wT (o.tk++[sgW (sgX o.xs)]++q.tk):Int)<=8 * ((n:Int) - (q.xs.length:Int))+β'
  rw [hw]; omega
 ·have h':q.xs.length=0:=h2'
  show (wT (o.tk++[sgW (sgX o.xs)]++q.tk):Int)<=_
  rw [hw]
  by_cases y:o.xs.length=0
  ·have:=p4 hn y; have:=q2 (by omega); omega
  ·have:=p3 (by omega)
   by_cases z:o.xs.length - 1=0
   ·have:=q2 z; omega
   ·have:=q4 (by omega) h'; omega
theorem aYG {prd:List Int->Nat->Ot} {βp γp β1 γ1 β2 γ2 β γ:Int} (hp:∀ xs room,Pot βp γp xs.length (prd xs room)) (h1:2 * βp - 12<=β1) (g1:βp<=γ1) (g2:βp - 8+γp - 4<=γ1) (h2:β1+βp - 4<=β2) (g3:γ1+8<=γ2) (g4:β1<=γ2) (g5:β1+γp - 4<=γ2) (k0:βp - 8<=β) (k1:β1<=β) (k2:β2<=β) (l0:γp<=γ) (l1:γ1<=γ) (l2:γ2<=γ) (l3:βp - 8<=γ) (xs:List Int) (room:Nat):Pot β γ xs.length (eGM prd xs room):=by
 have hq:=hp xs room
 unfold eGM
 dsimp only
 generalize prd xs room=o at hq
 have hd:=dl o.xs
 have low:∀ {β' γ':Int} {u:Ot},Pot β' γ' xs.length u->β' <= β->γ' <= γ->Pot β γ xs.length u:=fun h e1 e2=>⟨h.le,h.non,fun z=>by have:=h.more z; omega,fun z1 z2=>by have:=h.last z1 z2; omega⟩
 by_cases hne:o.xs.length=0
 ·have e:o.xs=[]:=List.eq_nil_of_length_eq_zero hne
  rw [e,aFH]
  refine ⟨Nat.zero_le _,fun z=>hq.non z,fun z=>absurd z (by show ¬ 0 < ([]:List Int).length; simp),fun z1 z2=>?_⟩
  have:=hq.last z1 hne
  show (wT o.tk:Int)<=_
  omega
 ·have h0:Pot (βp - 8) (βp - 8) xs.length { o with xs:=o.xs.dropLast }:=by
   have hm:=hq.more (by omega)
   refine ⟨by show o.xs.dropLast.length<=_; have:=hq.le; omega,fun z=>hq.non z,fun z=>?_,fun z1 z2=>?_⟩
   ·have z':0 < o.xs.dropLast.length:=z
    show (wT o.tk:Int)<=8 * ((xs.length:Int) - (o.xs.dropLast.length:Int))+(βp - 8)
    omega
   ·have z':o.xs.dropLast.length=0:=z2
    show (wT o.tk:Int)<=_
    omega
  have hn:0 < xs.length:=by have:=hq.le; omega
  have ht:(yT o.xs % 3).toNat < 3:=by omega
  generalize (yT o.xs % 3).toNat=t at ht
  match t,ht with
  | 0,_=>exact low h0 k0 l3
  | 1,_=>exact low (aMS (β':=β1) (γ':=γ1) hp h0 hn (by omega) (by omega) (by omega) (by omega)) k1 l1
  | 2,_=>exact low (aMS (β':=β2) (γ':=γ2) hp (aMS (β':=β1) (γ':=γ1) hp h0 hn (by omega) (by omega) (by omega) (by omega)) hn h2 g3 g4 g5) k2 l2
  | t+3,h=>omega
theorem hd0 (n room:Nat):(aBB n [] room).tk.head? ≠ some [40]:=by
 have key:∀ deep sm,(aHH deep sm [] room).tk.head? ≠ some [40]:=fun deep sm=>by
  unfold aHH
  rw [aFH]
  split
  ·simp
  ·split
   ·simp
   ·rw [if_neg (by omega)]
    have e:(aAY deep 0).toNat=0:=by unfold aAY; rfl
    rw [e]
    show some (jG 0)≠some [40]
    decide
 cases n with
 | zero=>exact key 0 _
 | succ n=>exact key (n+1) _
theorem pf0:∀ xs room,Pot 8 16 xs.length (aGS 0 xs room):=aYI (atm:=aBB 0) (β:=8) (γ:=16) aIP (hd0 0) (by decide) (by decide) (by decide)
theorem pp0:∀ xs room,Pot 4 12 xs.length (aCC 0 xs room):=aYH (fac:=aGS 0) (β:=4) (γ:=12) pf0 (by decide) (by decide) (by decide) (by decide) (by decide) (by decide)
theorem ps0:∀ xs room,Pot (-4) 12 xs.length (aBQ 0 xs room):=aYG (prd:=aCC 0) (β1:=-4) (γ1:=4) (β2:=-4) (γ2:=12) (β:=-4) (γ:=12) pp0 (by decide) (by decide) (by decide) (by decide) (by decide) (by decide) (by decide) (by decide) (by decide) (by decide) (by decide) (by decide) (by decide) (by decide)
theorem pa1:∀ xs room,Pot (-2) 12 xs.length (aBB 1 xs room):=aYJ (n:=0) ps0 (by decide) (by decide)
theorem pf1:∀ xs room,Pot 10 24 xs.length (aGS 1 xs room):=aYI (atm:=aBB 1) (β:=10) (γ:=24) pa1 (hd0 1) (by decide) (by decide) (by decide)
theorem pp1:∀ xs room,Pot 8 22 xs.length (aCC 1 xs room):=aYH (fac:=aGS 1) (β:=8) (γ:=22) pf1 (by decide) (by decide) (by decide) (by decide) (by decide) (by decide)
theorem ps1:∀ xs room,Pot 8 26 xs.length (aBQ 1 xs room):=aYG (prd:=aCC 1) (β1:=4) (γ1:=18) (β2:=8) (γ2:=26) (β:=8) (γ:=26) pp1 (by decide) (by decide) (by decide) (by decide) (by decide) (by decide) (by decide) (by decide) (by decide) (by decide) (by decide) (by decide) (by decide) (by decide)
theorem Pot.wid {β γ:Int} {n:Nat} {o:Ot} (h:Pot β γ n o) (h1:β<=40) (h2:γ<=40):wT o.tk<=8 * n+44/\o.tk.length<=3 * n+20:=by
 have hw:wT o.tk<=8 * n+44:=by
  by_cases z:n=0
  ·have:=h.non z; omega
  ·by_cases y:o.xs.length=0
   ·have:=h.last (by omega) y; omega
   ·have:=h.more (by omega); have:=h.le; omega
 exact ⟨hw,by have:=aWQ o.tk; omega⟩
theorem tsz {a:Nat} (h:a<=5000):a<=sizeLine:=Nat.le_trans h (Nat.le_of_ble_eq_true rfl)
theorem AtV.len {n:Nat} (hn:n=0\/n=1) {ns:List Int} (h:ns.length<=200) (room:Nat):(aBB n ns room).tk.length<=620/\(aGS n ns room).tk.length<=620/\(aCC n ns room).tk.length<=620/\(aBQ n ns room).tk.length<=620:=by
 rcases hn with rfl | rfl
 ·have a:=((aIP ns room).wid (by decide) (by decide)).2
  have b:=((pf0 ns room).wid (by decide) (by decide)).2
  have c:=((pp0 ns room).wid (by decide) (by decide)).2
  have d:=((ps0 ns room).wid (by decide) (by decide)).2
  exact ⟨by omega,by omega,by omega,by omega⟩
 ·have a:=((pa1 ns room).wid (by decide) (by decide)).2
  have b:=((pf1 ns room).wid (by decide) (by decide)).2
  have c:=((pp1 ns room).wid (by decide) (by decide)).2
  have d:=((ps1 ns room).wid (by decide) (by decide)).2
  exact ⟨by omega,by omega,by omega,by omega⟩
theorem AtV.xs {n:Nat} (hn:n=0\/n=1) (ns:List Int) (room:Nat):(aBB n ns room).xs.length<=ns.length/\(aGS n ns room).xs.length<=ns.length/\(aCC n ns room).xs.length<=ns.length/\(aBQ n ns room).xs.length<=ns.length:=by
 rcases hn with rfl | rfl
 ·exact ⟨(aIP ns room).le,(pf0 ns room).le,(pp0 ns room).le,(ps0 ns room).le⟩
 ·exact ⟨(pa1 ns room).le,(pf1 ns room).le,(pp1 ns room).le,(ps1 ns room).le⟩
theorem eJR:("(" : Str)=S [40]:=by decide +kernel
theorem eBR:(")" : Str)=S [41]:=by decide +kernel
theorem aGY {n:Nat} (h:DefX P w K mg base k N__law_atom (yC qX) X) (hn:n=0\/n=1) (m_str:mg "str" = none) (m_int:mg "int" = none) (c1:aAT X "_law_pick" jY) (c2:∀ m,n=m+1->aAT X "_law_sum" (aAJ m)) :
  ∀ q ds xs d xs',aAW n ds xs d xs'->EvM X q (.val (.stt q) :: ds.map Sl.val++List.replicate (N__law_atom.length - (ds.length+1)) Sl.un) (yF qX) (.rt d) xs xs':=by
 rintro q ds xs d xs' ⟨ns,room,rfl,hr,hl,rfl,rfl,rfl⟩
 have t:=h.at'
 haveI:=h.fnT
 have b1:Blt X (yC qX) "str" (.type "str"):=yP (by rw [h.mg']; exact m_str)
 have b2:Blt X (yC qX) "int" (.type "int"):=yP (by rw [h.mg']; exact m_int)
 have hdl:ns.dropLast.length<=200:=by rw [List.length_dropLast]; omega
 show EvM X q [.val (.stt q),.val (.int room),.val (.int n),.un,.un,.un,.un] _ _ _ _
 refine qV (aEG t 3 (vJ t c1 (EvA.am (yB (yA t 0 rfl) yE)) ⟨ns,rfl,rfl,rfl,rfl⟩)) ?_
 show EvM X q [.val (.stt q),.val (.int room),.val (.int n),.val (.int (yT ns)),.un,.un,.un] _ _ _ _
 have x6:∀ {p1 p2 p3:Pos} {j:Nat},EvE X [.val (.stt q),.val (.int room),.val (.int n),.val (.int (yT ns)),.un,.un,.un] (.BinOp (.Name "_law_x" p1) .Mod (.Constant (.int 6) j p2) p3) (.int (yT ns % 6)):=yR (yA t 3 rfl) yD (by decide)
 have z3:∃ m,aBB n=aHH n m/\∀ r,n=r+1->m=aBQ r:=by
  cases n with
  | zero=>exact ⟨_,rfl,fun r e=>nomatch e⟩
  | succ r=>exact ⟨_,rfl,fun r' e=>by cases e; rfl⟩
 obtain ⟨sm,ea,es⟩:=z3
 rw [ea]
 unfold aHH
 by_cases h1:0 < room/\yT ns % 6 < 2
 ·rw [if_pos h1]
  exact eCQ (aKS (EvT.l (EvT.eq (aBL (aEB (yA t 1 rfl) yD) fun _=>aBV x6 yD) (by rw [decide_eq_true h1.2,decide_eq_true (show (0:Int) < room by omega)]; rfl))) (EvSs.m (yJ (zO (EvE.eq (yM (yB (EvN.toE (yQ (yB ev_str yE))) (yB (EvDn.toE (EvDn.eq (aAP t (EvKs.cons (k:=nk 1 0) (yM (yB yD (yB yD yE))) yD .nil)) rfl)) yE))) (by rw [show ("x" : Str)=S [120] by decide +kernel]; rfl))))))
 rw [if_neg h1]
 refine qV (aHA (EvT.l (EvT.eq (aBL (aEB (yA t 1 rfl) yD) fun _=>aBV x6 yD) (by rw [<- Bool.decide_and,decide_eq_false_iff_not]; omega))) aZC) ?_
 by_cases h2:0 < room/\yT ns % 6 < 4
 ·rw [if_pos h2]
  exact eCQ (aKS (EvT.l (EvT.eq (aBL (aEB (yA t 1 rfl) yD) fun _=>aBV x6 yD) (by rw [decide_eq_true h2.2,decide_eq_true (show (0:Int) < room by omega)]; rfl))) (EvSs.m (yJ (zO (EvE.eq (yM (yB (EvN.toE (yQ (yB ev_str yE))) (yB (EvDn.toE (EvDn.eq (aAP t (EvKs.cons (k:=nk 0 1) (yM (yB yD (yB yD yE))) yD .nil)) rfl)) yE))) (by rw [show ("y" : Str)=S [121] by decide +kernel]; rfl))))))
 rw [if_neg h2]
 refine qV (aHA (EvT.l (EvT.eq (aBL (aEB (yA t 1 rfl) yD) fun _=>aBV x6 yD) (by rw [<- Bool.decide_and,decide_eq_false_iff_not]; omega))) aZC) ?_
 by_cases h3:0 < n/\yT ns % 6=5
 ·rw [if_pos h3]
  obtain ⟨m,rfl⟩:∃ m,n=m+1:=⟨n - 1,by omega⟩
  rw [es m rfl]
  have ht:=(AtV.len (n:=m) (by omega) hdl room).2.2.2
  generalize eo:aBQ m ns.dropLast room=o at ht
  refine eCQ (aKS (EvT.l (EvT.eq (aBL (aEB (yA t 2 rfl) yD) fun _=>vS x6 yD) (by rw [decide_eq_true h3.2,decide_eq_true (show (0:Int) < ((m+1:Nat):Int) by omega)]; rfl))) (qV (ρ1:=[.val (.stt q),.val (.int room),.val (.int ((m+1:Nat):Int)),.val (.int (yT ns)),.val (.lst (yY o.tk)),.val (.dic o.kv),.un]) (aIV t (vJ (d:=oD o) (xs':=iL o.xs) t (c2 m rfl) (EvA.am (yB (yA t 0 rfl) (yB (yA t 1 rfl) (yB (EvE.eq (aCV (yA t 2 rfl) yD) (show D.int (((m+1:Nat):Int) - 1) = .int m by congr 1; omega)) yE)))) ⟨ns.dropLast,room,rfl,hr,hdl,rfl,by rw [eo],by rw [eo]⟩) (aGT t (qM (zA t 4) (qM (zA t 5) aDN)))) ?_))
  refine EvSs.m (yJ (zO (EvE.eq (yM (yB (EvN.toE (wU (EvN.toE (wU (EvN.toE (yQ (yB ev_str yE))) (yA t 4 rfl) ?_)) (EvN.toE (yQ (yB ev_str yE))) ?_)) (yB (yA t 5 rfl) yE))) ?_)))
  ·rw [yV]; exact tsz (by simp; omega)
  ·rw [List.length_append,yV]; exact tsz (by simp; omega)
  ·unfold oD
   rw [eJR,eBR]
   show D.tup [.lst ([D.str (S [40])]++yY o.tk++[D.str (S [41])]),_]=D.tup [.lst (yY ([40] :: (o.tk++[[41]]))),_]
   congr 2
   show _=D.lst (D.str (S [40]) :: yY (o.tk++[[41]]))
   rw [jQ]; rfl
 rw [if_neg h3]
 refine qV (aHA (EvT.l (EvT.eq (aBL (aEB (yA t 2 rfl) yD) fun _=>vS x6 yD) (by rw [<- Bool.decide_and,decide_eq_false_iff_not]; omega))) aZC) ?_
 obtain ⟨g1,g2⟩:=aFX n (yT ns)
 have gi:aAY n (yT ns) < 1000:=by split at g2 <;> omega
 have hx6:∀ {p1 p2 p3:Pos} {j:Nat},EvE X [.val (.stt q),.val (.int room),.val (.int n),.val (.int (yT ns)),.un,.un,.un] (.BinOp (.Name "_law_x" p1) .FloorDiv (.Constant (.int 6) j p2) p3) (.int (yT ns / 6)):=aAO t (yA t 3 rfl) yD (by decide)
 refine qV (EvS.m (zK (d:=.int (aAY n (yT ns))) t 6 (zB (EvN.toQ (yQ (yB (yR hx6 yD (by decide)) (yB (yR hx6 yD (by decide)) (yB (yR (j:=if 0 < n then 1000 else 10) hx6 (zB (EvN.toQ (yQ (yB yD (yB yD yE)))) (aZW t b2 (eNN (yA t 2 rfl) yD)) ?_) (by split <;> decide)) (yB yD yE)))))) (yR (aAO t (yA t 3 rfl) yD (by decide)) yD (by decide)) ?_))) ?_
 ·by_cases z:0 < n
  ·rw [if_pos z,decide_eq_true (show (0:Int) < n by omega)]; rfl
  ·rw [if_neg z,decide_eq_false (show ¬ (0:Int) < n by omega)]; rfl
 ·exact aJZ (xs:=[yT ns / 6 % 10,yT ns / 6 % 10,yT ns / 6 % (if 0 < n then 1000 else 10),0]) (by omega) (by show _ < 4; omega)
 generalize aAY n (yT ns)=sz0 at g1 gi
 obtain ⟨z,rfl⟩:=Int.eq_ofNat_of_zero_le g1
 refine EvSs.m (yJ (zO (EvE.eq (yM (yB (EvN.toE (yQ (yB (aDI t b1 (yA t 6 rfl) (aZG (by omega))) yE))) (yB (EvDn.toE (EvDn.eq (aAP t (EvKs.cons (k:=nk 0 0) (yM (yB yD (yB yD yE))) (yA t 6 rfl) .nil)) rfl)) yE))) ?_)))
 show D.tup [.lst [D.str (toString ((z:Nat):Int))],_]=_
 rw [aPQ]; rfl
theorem aQE {o c:List Nat}:∀ {ts:List (List Nat)},(∀ u∈ts,u≠o/\u≠c)->aQG o c ts=0
 | [],_=>rfl
 | u :: ts,h=>by
  have:=h u (by simp)
  rw [aQG,aQE fun v hv=>h v (by simp [hv]),decide_eq_false (fun z=>this.1 (aBM z)),decide_eq_false (fun z=>this.2 (aBM z))]
  rfl
def TkL (u:List Nat):Prop:=RunW u\/∃ c,u=[c]/\(c=40\/c=41\/c=42\/c=43\/c=45\/c=94)
def TkQ (u:List Nat):Prop:=(∀ x∈u,x < 128)/\(u≠[91]/\u≠[93])/\TkL u
def AtQ (R:AtR):Prop:=∀ tk st,R tk st->∀ u∈tk,TkQ u
theorem aVH {c:Nat} (h:c=40\/c=41\/c=42\/c=43\/c=45\/c=94):TkQ [c]:=⟨fun x hx=>by rw [List.mem_singleton.mp hx]; omega,⟨fun e=>by cases e; omega,fun e=>by cases e; omega⟩,.inr ⟨c,rfl,h⟩⟩
theorem eKF:TkQ [94]:=aVH (by decide)
theorem aXD {u:List Nat} (h:RunW u):TkQ u:=by
 have key:∀ c,c=91\/c=93->u≠[c]:=fun c hc e=>by
  subst e
  rcases h with h | h | h
  ·have:=h.2.1 _ (List.mem_singleton.mpr rfl); omega
  ·cases h; omega
  ·cases h; omega
 exact ⟨h.lt,⟨key 91 (by decide),key 93 (by decide)⟩,.inl h⟩
theorem eGU {d:Nat} (h:d<=9):RunW [48+d]:=.inl ⟨by simp,fun c hc=>by simp at hc; omega,by simp,fun e=>by simp at e; simp [e]⟩
theorem ePC {R:AtR} (hA:AtQ R) {f:Fac} (h:aEC R f):∀ u∈tkW f,TkQ u:=fun u hu=>by
 rcases List.mem_append.mp hu with hu | hu
 ·exact hA _ _ h.2.1 u hu
 ·obtain ⟨m,a,b,po⟩:=f
  cases po with
  | none=>cases hu
  | some d=>
   have:=h.2.2 d rfl
   simp [eBM] at hu
   rcases hu with rfl | rfl
   ·exact eKF
   ·exact aXD (eGU this)
theorem eKE {R:AtR} (hA:AtQ R) {f:Fac} (h:aEC R f):∀ u∈tkF f,TkQ u:=fun u hu=>by
 rcases List.mem_append.mp hu with hu | hu
 ·rw [(List.mem_replicate.mp hu).2]; exact aVH (by decide)
 ·exact ePC hA h u hu
theorem eDT {R:AtR} (hA:AtQ R):∀ {fs:List Fac},(∀ f∈fs,aEC R f)->∀ u∈aFA fs,TkQ u
 | [],_,u,hu=>nomatch hu
 | f :: fs,h,u,hu=>by
  rcases List.mem_cons.mp hu with rfl | hu
  ·exact aVH (by decide)
  ·rcases List.mem_append.mp hu with hu | hu
   ·exact eKE hA (h f (by simp)) u hu
   ·exact eDT hA (fun g hg=>h g (by simp [hg])) u hu
theorem eKD {R:AtR} (hA:AtQ R) {p:Prd} (h:aFR R p):∀ u∈tkP p,TkQ u:=fun u hu=>by
 rcases List.mem_append.mp hu with hu | hu
 ·exact eKE hA h.1 u hu
 ·exact eDT hA h.2 u hu
theorem eDS {R:AtR} (hA:AtQ R):∀ {qs:List (Bool × Prd)},(∀ q∈qs,aFR R q.2)->∀ u∈aEK qs,TkQ u
 | [],_,u,hu=>nomatch hu
 | q :: qs,h,u,hu=>by
  rcases List.mem_cons.mp hu with rfl | hu
  ·unfold sgW; split <;> exact aVH (by decide)
  ·rcases List.mem_append.mp hu with hu | hu
   ·exact eKD hA (h q (by simp)) u hu
   ·exact eDS hA (fun g hg=>h g (by simp [hg])) u hu
theorem eGK {R:AtR} (hA:AtQ R) {T:Trm} (h:TrmOk R T):∀ u∈tkT T,TkQ u:=fun u hu=>by
 rcases List.mem_append.mp hu with hu | hu
 ·exact eKD hA h.1 u hu
 ·exact eDS hA h.2 u hu
theorem aOO:∀ n,AtQ (AR n)
 | 0,_,_,h,_,_=>h.elim
 | n+1,tk,st,h,u,hu=>by
  rcases h with ⟨v,hv,rfl,rfl⟩ | ⟨T,hT,rfl,rfl⟩
  ·rw [List.mem_singleton.mp hu]; exact aXD hv
  ·rcases List.mem_cons.mp hu with rfl | hu
   ·exact aVH (by decide)
   ·rcases List.mem_append.mp hu with hu | hu
    ·exact eGK (aOO n) hT u hu
    ·rw [List.mem_singleton.mp hu]; exact aVH (by decide)
abbrev dc (tk:TK):Int:=aQG [40] [41] tk
theorem aJS:∀ a b:TK,dc (a++b)=dc a+dc b
 | [],b=>by show dc b=0+dc b; omega
 | u :: a,b=>by
  show dc (a++b)+_=dc a+_+dc b
  rw [aJS a b]; omega
def Bal (h:Nat) (tk:TK):Prop:=dc tk=0/\∀ i,dc (tk.take i)<=h
theorem Bal.nil (h:Nat):Bal h []:=⟨rfl,fun i=>by rw [List.take_nil]; show (0:Int)<=_; omega⟩
theorem Bal.app {h:Nat} {a b:TK} (ha:Bal h a) (hb:Bal h b):Bal h (a++b):=⟨by rw [aJS,ha.1,hb.1]; rfl,fun i=>by
 rw [List.take_append,aJS]
 by_cases z:i<=a.length
 ·rw [show i - a.length=0 by omega,List.take_zero]
  have:=ha.2 i
  show _+(0:Int)<=_
  omega
 ·rw [List.take_of_length_le (by omega),ha.1]
  have:=hb.2 (i - a.length)
  omega⟩
theorem Bal.one {u:List Nat} (h:Nat) (h1:u≠[40]) (h2:u≠[41]):Bal h [u]:=by
 have e:dc [u]=0:=by
  show (0:Int)+(b2i (decide (S u=S [40])) - b2i (decide (S u=S [41])))=0
  rw [decide_eq_false (fun z=>h1 (aBM z)),decide_eq_false (fun z=>h2 (aBM z))]; rfl
 refine ⟨e,fun i=>?_⟩
 cases i with
 | zero=>rw [List.take_zero]; show (0:Int)<=_; omega
 | succ i=>rw [List.take_of_length_le (by simp),e]; omega
theorem Bal.par {h:Nat} {a:TK} (ha:Bal h a):Bal (h+1) ([40] :: (a++[[41]])):=by
 have e40:dc [[40]]=1:=by decide +kernel
 have e41:dc [[41]] = -1:=by decide +kernel
 refine ⟨?_,fun i=>?_⟩
 ·show dc ([[40]]++(a++[[41]]))=0
  rw [aJS,aJS,ha.1,e40,e41]; rfl
 ·cases i with
  | zero=>rw [List.take_zero]; show (0:Int)<=_; omega
  | succ i=>
   show dc ([[40]]++(a++[[41]]).take i)<=_
   rw [aJS,e40,List.take_append,aJS]
   have h1:=ha.2 i
   by_cases z:i - a.length=0
   ·rw [z,List.take_zero]
    show 1+(_+(0:Int))<=_
    omega
   ·rw [List.take_of_length_le (show a.length<=i by omega),ha.1,List.take_of_length_le (by simp; omega),e41]
    omega
def AtB (h:Nat) (R:AtR):Prop:=∀ tk st,R tk st->Bal h tk
theorem eOE {h:Nat} {R:AtR} (hA:AtB h R) {f:Fac} (hf:aEC R f):Bal h (tkF f):=by
 obtain ⟨m,a,b,po⟩:=f
 have hm:∀ m,Bal h (List.replicate m [45]):=fun m=>by
  induction m with
  | zero=>exact .nil h
  | succ m ih=>exact Bal.app (a:=[[45]]) (.one h (by decide) (by decide)) ih
 refine (hm m).app ((hA _ _ hf.2.1).app ?_)
 cases po with
 | none=>exact .nil h
 | some d=>exact Bal.app (a:=[[94]]) (.one h (by decide) (by decide)) (.one h (fun e=>by injection e with e1 _; omega) (fun e=>by injection e with e1 _; omega))
theorem eGA {h:Nat} {R:AtR} (hA:AtB h R):∀ {fs:List Fac},(∀ f∈fs,aEC R f)->Bal h (aFA fs)
 | [],_=>.nil h
 | f :: fs,hf=>Bal.app (a:=[[42]]) (.one h (by decide) (by decide)) ((eOE hA (hf f (by simp))).app (eGA hA fun g hg=>hf g (by simp [hg])))
theorem eOD {h:Nat} {R:AtR} (hA:AtB h R) {p:Prd} (hp:aFR R p):Bal h (tkP p):=(eOE hA hp.1).app (eGA hA hp.2)
theorem eFZ {h:Nat} {R:AtR} (hA:AtB h R):∀ {qs:List (Bool × Prd)},(∀ q∈qs,aFR R q.2)->Bal h (aEK qs)
 | [],_=>.nil h
 | q :: qs,hq=>Bal.app (a:=[sgW q.1]) (.one h (by unfold sgW; split <;> decide) (by unfold sgW; split <;> decide)) ((eOD hA (hq q (by simp))).app (eFZ hA fun g hg=>hq g (by simp [hg])))
theorem eOC {h:Nat} {R:AtR} (hA:AtB h R) {T:Trm} (hT:TrmOk R T):Bal h (tkT T):=(eOD hA hT.1).app (eFZ hA hT.2)
theorem eGB:∀ n,AtB (n - 1) (AR n)
 | 0,_,_,h=>h.elim
 | n+1,tk,st,h=>by
  rcases h with ⟨v,hv,rfl,rfl⟩ | ⟨T,hT,rfl,rfl⟩
  ·exact .one _ (aTO hv (by decide)) (aTO hv (by decide))
  ·cases n with
   | zero=>exact absurd hT.1.1.2.1 (fun z=>z)
   | succ m=>exact (eOC (eGB (m+1)) hT).par
theorem eJH {n:Nat} (hn:n<=21) {T:Trm} (hT:TrmOk (AR n) T):eBK (tkT T):=fun i _=>by
 refine ⟨?_,?_⟩
 ·have:=(eOC (eGB n) hT).2 i
  show dc _<=20
  omega
 ·rw [aQE fun u hu=>(eGK (aOO n) hT u (List.mem_of_mem_take hu)).2.1]
  decide
theorem TrmOk.mono {R R':AtR} (h:∀ tk st,R tk st->R' tk st) {T:Trm} (hT:TrmOk R T):TrmOk R' T:=by
 have hf:∀ {f:Fac},aEC R f->aEC R' f:=fun z=>⟨z.1,h _ _ z.2.1,z.2.2⟩
 have hp:∀ {p:Prd},aFR R p->aFR R' p:=fun z=>⟨hf z.1,fun f hf'=>hf (z.2 f hf')⟩
 exact ⟨hp hT.1,fun q hq=>hp (hT.2 q hq)⟩
theorem eBL:∀ n tk st,AR n tk st->AR (n+1) tk st
 | 0,_,_,h=>h.elim
 | n+1,tk,st,h=>by
  rcases h with h | ⟨T,hT,e1,e2⟩
  ·exact .inl h
  ·exact .inr ⟨T,hT.mono (eBL n),e1,e2⟩
theorem eON {n m:Nat} (h:n<=m):∀ tk st,AR n tk st->AR m tk st:=by
 induction m with
 | zero=>intro tk st z; rw [show n=0 by omega] at z; exact z
 | succ m ih=>
  by_cases e:n=m+1
  ·subst e; exact fun _ _ z=>z
  ·exact fun tk st z=>eBL m tk st (ih (by omega) tk st z)
def StL (R:AtR):Prop:=∀ tk st,R tk st->st.length<=tk.length
theorem eKL {R:AtR} (hA:StL R) {f:Fac} (h:aEC R f):(sfF f).length<=(tkF f).length:=by
 obtain ⟨m,a,b,po⟩:=f
 have:=hA _ _ h.2.1
 have h1:(mnS m).length<=m:=by unfold mnS; split <;> simp; omega
 have h2:(eBN po).length<=(eBM po).length:=by cases po <;> simp [eBN,eBM]
 show ((b++eBN po)++mnS m).length<=(List.replicate m [45]++(a++eBM po)).length
 have h3:b.length<=a.length:=this
 simp only [List.length_append,List.length_replicate]
 omega
theorem eDW {R:AtR} (hA:StL R):∀ {fs:List Fac},(∀ f∈fs,aEC R f)->(aKE fs).length<=(aFA fs).length
 | [],_=>Nat.le_refl _
 | f :: fs,h=>by
  have a:=eKL hA (h f (by simp))
  have b:=eDW hA (fs:=fs) fun g hg=>h g (by simp [hg])
  show (sfF f++([42] :: aKE fs)).length<=([42] :: (tkF f++aFA fs)).length
  simp only [List.length_append,List.length_cons]
  omega
theorem eKK {R:AtR} (hA:StL R) {p:Prd} (h:aFR R p):(stP p).length<=(tkP p).length:=by
 have a:=eKL hA h.1
 have b:=eDW hA h.2
 unfold stP tkP
 simp only [List.length_append]
 omega
theorem eDV {R:AtR} (hA:StL R):∀ {qs:List (Bool × Prd)},(∀ q∈qs,aFR R q.2)->(aIC qs).length<=(aEK qs).length
 | [],_=>Nat.le_refl _
 | q :: qs,h=>by
  have a:=eKK hA (h q (by simp))
  have b:=eDV hA (qs:=qs) fun g hg=>h g (by simp [hg])
  show (stP q.2++(sgW q.1 :: aIC qs)).length<=(sgW q.1 :: (tkP q.2++aEK qs)).length
  simp only [List.length_append,List.length_cons]
  omega
theorem eKJ {R:AtR} (hA:StL R) {T:Trm} (h:TrmOk R T):(stT T).length<=(tkT T).length:=by
 have a:=eKK hA h.1
 have b:=eDV hA h.2
 unfold stT tkT
 simp only [List.length_append]
 omega
theorem eDX:∀ n,StL (AR n)
 | 0,_,_,h=>h.elim
 | n+1,tk,st,h=>by
  rcases h with ⟨v,hv,rfl,rfl⟩ | ⟨T,hT,rfl,rfl⟩
  ·exact Nat.le_refl _
  ·have:=eKJ (eDX n) hT
   simp; omega
theorem ePS (x:Int):atI (([1,1,1,2,0,3]:List Int).map D.int) (x % 6)=some (.int (pwX x)):=by
 rw [aJZ (by omega) (by show _ < 6; omega)]
 unfold pwX
 have h:(x % 6).toNat < 6:=by omega
 generalize (x % 6).toNat=n at h
 match n,h with
 | 0,_=>rfl
 | 1,_=>rfl
 | 2,_=>rfl
 | 3,_=>rfl
 | 4,_=>rfl
 | 5,_=>rfl
 | n+6,h=>omega
theorem eQE (x:Int):atI (([0,0,0,0,1,1,2,3]:List Int).map D.int) (x / 48 % 8)=some (.int (mnX x)):=by
 rw [aJZ (by omega) (by show _ < 8; omega)]
 unfold mnX
 have h:(x / 48 % 8).toNat < 8:=by omega
 generalize (x / 48 % 8).toNat=n at h
 match n,h with
 | 0,_=>rfl
 | 1,_=>rfl
 | 2,_=>rfl
 | 3,_=>rfl
 | 4,_=>rfl
 | 5,_=>rfl
 | 6,_=>rfl
 | 7,_=>rfl
 | n+8,h=>omega
theorem eQD {p:Nat} (h:p<=9):(toString ((p:Nat):Int):Str)=S [48+p]:=by
 have:∀ p:Nat,p < 10->(toString ((p:Nat):Int):Str)=S [48+p]:=by decide +kernel
 exact this p (by omega)
theorem eOS {n:Nat} (h:n<=9):((n:Nat):Int).natAbs.log2 < 1920:=aZG (by omega)
theorem aFF (m:Nat):(List.replicate m [D.str "-"]).flatten=yY (List.replicate m [45]):=by
 rw [show ("-" : Str)=S [45] by decide +kernel]
 induction m with
 | zero=>rfl
 | succ m ih=>rw [List.replicate_succ,List.flatten_cons,ih,List.replicate_succ]; rfl
theorem eDJ {n:Nat} (hn:n=0\/n=1) (ns:List Int) (room:Nat) (hr:room<=6):KOk (aBB n ns room).kv/\KIn (room+1) (aBB n ns room).kv/\nrm (aBB n ns room).kv<=1594323/\∃ u us,(aBB n ns room).tk=u :: us/\∀ x∈u,x < 128:=by
 rcases hn with rfl | rfl
 ·obtain ⟨hv,ha,_⟩:=at0 ns room (by omega)
  obtain ⟨u,us,e,_⟩:=eQJ _ _ _ ha
  exact ⟨hv.ko,hv.kd,Nat.le_trans hv.nb (by decide),u,us,e,(aOO _ _ _ ha u (by rw [e]; simp)).1⟩
 ·obtain ⟨hv,ha,_⟩:=at1 ns room (by omega)
  obtain ⟨u,us,e,_⟩:=eQJ _ _ _ ha
  exact ⟨hv.ko,hv.kd,hv.nb,u,us,e,(aOO _ _ _ ha u (by rw [e]; simp)).1⟩
theorem aEJ {n:Nat} (h:DefX P w K mg base k N__law_factor (yC zD) X) (hn:n=0\/n=1) (m_range:mg "range" = none) (m_min:mg "min" = none) (m_max:mg "max" = none) (m_str:mg "str" = none) (c1:aAT X "_law_pick" jY) (c2:aAT X "_law_atom" (aAW n)) (c3:EV.CalleeD X "_law_product" jE) (c4:EV.CalleeD X "_law_add" wC) :
  ∀ q ds xs d xs',vO n ds xs d xs'->EvM X q (.val (.stt q) :: ds.map Sl.val++List.replicate (N__law_factor.length - (ds.length+1)) Sl.un) (yF zD) (.rt d) xs xs':=by
 rintro q ds xs d xs' ⟨ns,room,rfl,hr,hl,rfl,rfl,rfl⟩
 have t:=h.at'
 haveI:=h.fnT
 have b1:Blt X (yC zD) "range" (.type "range"):=yP (by rw [h.mg']; exact m_range)
 have b2:Blt X (yC zD) "min" (.builtin "min"):=yP (by rw [h.mg']; exact m_min)
 have b3:Blt X (yC zD) "max" (.builtin "max"):=yP (by rw [h.mg']; exact m_max)
 have b4:Blt X (yC zD) "str" (.type "str"):=yP (by rw [h.mg']; exact m_str)
 have hdl:ns.dropLast.length<=200:=by rw [List.length_dropLast]; omega
 show EvM X q [.val (.stt q),.val (.int room),.val (.int n),.un,.un,.un,.un,.un,.un,.un] _ _ _ _
 refine qV (aEG t 3 (vJ t c1 (EvA.am (yB (yA t 0 rfl) yE)) ⟨ns,rfl,rfl,rfl,rfl⟩)) ?_
 unfold aGS eIP
 dsimp only
 have hp3:=eLG (yT ns)
 have hm3:=eIA (yT ns)
 have hpw:=ePS (yT ns)
 have hmn:=eQE (yT ns)
 generalize yT ns=x at hp3 hm3 hpw hmn
 have hq6:room / max 1 (pwX x)<=6:=Nat.le_trans (Nat.div_le_self _ _) hr
 have hqd:(room:Int) / max 1 (pwX x:Int)=((room / max 1 (pwX x):Nat):Int):=by rw [Int.natCast_ediv]; congr 1; omega
 have hfit:pwX x * (room / max 1 (pwX x))<=room:=by
  by_cases h0:pwX x=0
  ·rw [h0]; omega
  ·rw [show max 1 (pwX x)=pwX x by omega]; exact Nat.mul_div_le _ _
 generalize room / max 1 (pwX x)=rq at hq6 hqd hfit
 obtain ⟨k1,k2,k3,u,us,eu,hu⟩:=eDJ hn ns.dropLast rq hq6
 have ht:=(AtV.len hn hdl rq).1
 refine qV (EvS.m (zK (d:=.int (pwX x)) t 4 (zB (EvN.toQ (yQ (yB yD (yB yD (yB yD (yB yD (yB yD (yB yD yE)))))))) (yR (yA t 3 rfl) yD (by decide)) hpw))) ?_
 refine qV (ρ1:=[.val (.stt q),.val (.int room),.val (.int n),.val (.int x),.val (.int (pwX x)),.val (.lst (yY (aBB n ns.dropLast rq).tk)),.val (.dic (aBB n ns.dropLast rq).kv),.un,.un,.un]) (aIV t (vJ (d:=oD (aBB n ns.dropLast rq)) t c2 (EvA.am (yB (yA t 0 rfl) (yB (EvE.eq (aAO t (yA t 1 rfl) (aSF t b3 yD (yA t 4 rfl)) (by omega)) (by rw [hqd])) (yB (yA t 2 rfl) yE)))) ⟨ns.dropLast,rq,rfl,hq6,hdl,rfl,rfl,rfl⟩) (aGT t (qM (zA t 5) (qM (zA t 6) aDN)))) ?_
 generalize aBB n ns.dropLast rq=o at k1 k2 k3 eu ht
 refine EvSs.m ?_
 have hpo:=eEJ o x
 have hpof:pwO o x * rq<=room:=Nat.le_trans (Nat.mul_le_mul_right _ hpo) hfit
 have e40:decide (S u=("(" : Str))=decide (o.tk.head? = some [40]):=by
  rw [eu,eJR]
  exact decide_eq_decide.mpr ⟨fun e=>by rw [aBM e]; rfl,fun e=>by rw [Option.some.inj e]⟩
 refine yG (ρ':=[.val (.stt q),.val (.int room),.val (.int n),.val (.int x),.val (.int (pwO o x)),.val (.lst (yY o.tk)),.val (.dic o.kv),.un,.un,.un]) ?_ ?_
 ·by_cases hh:o.tk.head? = some [40]
  ·refine aBJ (EvT.eq (jP t (zB (d:=.str (S u)) (EvE.ql (yA t 5 rfl)) yD (jR (j:=0) (by rw [eu]; rfl))) ev_str (aKA hu)) (by rw [e40,decide_eq_true hh])) (yJ (EvS.eq (zK t 4 (eIT t b2 yD (yA t 4 rfl))) ?_))
   have e:min (2:Int) (pwX x:Int)=((pwO o x:Nat):Int):=by unfold pwO; rw [if_pos hh]; omega
   rw [e]; rfl
  ·refine EvS.eq (wM (EvT.eq (jP t (zB (d:=.str (S u)) (EvE.ql (yA t 5 rfl)) yD (jR (j:=0) (by rw [eu]; rfl))) ev_str (aKA hu)) (by rw [e40,decide_eq_false hh])) qQ) ?_
   have e:pwO o x=pwX x:=by unfold pwO; rw [if_neg hh]
   rw [e]
 generalize pwO o x=p at hpo hpof
 have hp9:p<=3:=by omega
 have kp:=fun j=>aGL k1 j
 have pin:=fun j=>aIN k2 j
 have okl:=aUH k1 k2
 have okl2:o.kv.length<=1000:=Nat.le_trans okl (Nat.le_trans (Nat.mul_le_mul (show rq+1<=7 by omega) (show rq+1<=7 by omega)) (by decide))
 refine yG (zK (d:=.dic [(nk 0 0,1)]) t 7 (EvDn.toE (EvDn.eq (aAP t (EvKs.cons (k:=nk 0 0) (yM (yB yD (yB yD yE))) yD .nil)) rfl))) ?_
 refine yG (ρ':=[.val (.stt q),.val (.int room),.val (.int n),.val (.int x),.val (.int p),.val (.lst (yY o.tk)),.val (.dic o.kv),.val (.dic (aDZ o.kv p)),.un,.un]) (aCW t (jT t b1 (yA t 4 rfl) (by omega) (by omega)) (FRun.uptoE (fun j=>[.val (.stt q),.val (.int room),.val (.int n),.val (.int x),.val (.int p),.val (.lst (yY o.tk)),.val (.dic o.kv),.val (.dic (aDZ o.kv j)),.un,.un]) (fun j d e=>?_) rfl ?_)) ?_
 ·obtain ⟨hj,rfl⟩:=aAL e
  have hj':j < p:=by omega
  have hjl:(aDZ o.kv j).length<=1000:=by
   have h1:=aUH (kp j) (pin j)
   have h2:j * rq<=2 * 6:=Nat.mul_le_mul (by omega) hq6
   exact Nat.le_trans h1 (Nat.le_trans (Nat.mul_le_mul (show j * rq+1<=13 by omega) (show j * rq+1<=13 by omega)) (by decide))
  exact ⟨_,zA t 8,EvSs.weak (yJ (zK (d:=.dic (aDZ o.kv (j+1))) t 7 (EvDn.toE (aEW t c3 (yB (yA t 7 rfl) (yB (yA t 6 rfl) yE)) ⟨aDZ o.kv j,o.kv,rfl,kp j,k1,hjl,okl2,aYU (Nat.le_trans k3 (by decide)),rfl⟩)))) (.keep (.keep (.keep (.keep (.keep (.keep (.keep (.keep (.forget (.keep .nil))))))))))⟩
 ·have e:(jO 0 (p:Int).toNat).length=p:=by simp [jO]
  rw [e]
 have kin:KIn 10 (aDZ o.kv p):=fun z hz=>let ⟨i,k,e,a,b⟩:=pin p z hz; ⟨i,k,e,by omega,by omega⟩
 refine yG (ρ':=[.val (.stt q),.val (.int room),.val (.int n),.val (.int x),.val (.int p),.val (.lst (yY (if p≠1\/x / 6 % 8=1 then o.tk++[[94],[48+p]] else o.tk))),.val (.dic o.kv),.val (.dic (aDZ o.kv p)),.un,.un]) ?_ ?_
 ·have tv:(!decide ((p:Int)=1) || decide (x / 6 % 8=1))=decide (p≠1\/x / 6 % 8=1):=by
   by_cases z:p=1
   ·subst z; by_cases y:x / 6 % 8=1 <;> simp [y]
   ·have:¬ ((p:Int)=1):=by omega
    simp [z,this]
  by_cases hc:p≠1\/x / 6 % 8=1
  ·rw [if_pos hc]
   refine aBJ (EvT.eq (aLV (aUP (yA t 4 rfl) yD) fun _=>vS (yR (aAO t (yA t 3 rfl) yD (by decide)) yD (by decide)) yD) (by rw [tv,decide_eq_true hc])) (yG (ρ':=[.val (.stt q),.val (.int room),.val (.int n),.val (.int x),.val (.int p),.own (yY (o.tk++[[94],[48+p]])),.val (.dic o.kv),.val (.dic (aDZ o.kv p)),.un,.un]) (EvS.eq (aFE t 5 (wU (yA t 5 rfl) (EvN.toE (yQ (yB ev_str (yB (aDI t b4 (yA t 4 rfl) (eOS (by omega))) yE)))) (by rw [yV]; exact tsz (by simp; omega)))) ?_) (wR 5 rfl qQ))
   rw [eQD (show p<=9 by omega),show ("^" : Str)=S [94] by decide +kernel,jQ]; rfl
  ·rw [if_neg hc]
   exact wM (EvT.eq (aLV (aUP (yA t 4 rfl) yD) fun _=>vS (yR (aAO t (yA t 3 rfl) yD (by decide)) yD (by decide)) yD) (by rw [tv,decide_eq_false hc])) qQ
 have htl:(if p≠1\/x / 6 % 8=1 then o.tk++[[94],[48+p]] else o.tk).length<=622:=by
  split
  ·simp; omega
  ·omega
 generalize (if p≠1\/x / 6 % 8=1 then o.tk++[[94],[48+p]] else o.tk)=T at htl
 refine yG (zK (d:=.int (mnX x)) t 9 (zB (EvN.toQ (yQ (yB yD (yB yD (yB yD (yB yD (yB yD (yB yD (yB yD (yB yD yE)))))))))) (yR (aAO t (yA t 3 rfl) yD (by decide)) yD (by decide)) hmn)) ?_
 generalize mnX x=mm at hm3
 refine yG (ρ':=[.val (.stt q),.val (.int room),.val (.int n),.val (.int x),.val (.int p),.val (.lst (yY T)),.val (.dic o.kv),.val (.dic (if mm % 2=1 then qO [] (aDZ o.kv p) (-1) else aDZ o.kv p)),.un,.val (.int mm)]) ?_ (yJ (zO (EvE.eq (yM (yB (EvN.toE (wU (EvN.toE (aLY (EvN.toE (yQ (yB ev_str yE))) (yA t 9 rfl) (by omega) (by omega) ?_)) (yA t 5 rfl) ?_)) (yB (yA t 7 rfl) yE))) ?_)))
 ·by_cases hm:mm % 2=1
  ·rw [if_pos hm]
   exact aBJ (EvT.eq (vS (yR (yA t 9 rfl) yD (by decide)) yD) (by rw [decide_eq_true_eq]; omega)) (yJ (zK (d:=.dic (qO [] (aDZ o.kv p) (-1))) t 7 (EvDn.toE (aEW t c4 (yB (EvDn.toE eAI) (yB (yA t 7 rfl) (yB (aJN yD) yE))) ⟨[],aDZ o.kv p,-1,rfl,.nil,(fun z hz=>nomatch hz),kp p,kin,.inr rfl,rfl⟩))))
  ·rw [if_neg hm]
   exact wM (EvT.eq (vS (yR (yA t 9 rfl) yD (by decide)) yD) (by rw [decide_eq_false_iff_not]; omega)) qQ
 ·rw [Int.toNat_natCast]; exact tsz (by simp; omega)
 ·rw [Int.toNat_natCast,aFF,yV,yV]; exact tsz (by simp; omega)
 ·rw [Int.toNat_natCast,aFF,<- jQ]; rfl
theorem aUN {n:Nat} (hn:n=0\/n=1) (ns:List Int) (room:Nat) (hr:room<=6):KOk (aGS n ns room).kv/\KIn (room+1) (aGS n ns room).kv/\nrm (aGS n ns room).kv<=2541865828329:=by
 rcases hn with rfl | rfl
 ·obtain ⟨hv,_⟩:=fc0 ns room (by omega)
  exact ⟨hv.ko,hv.kd,Nat.le_trans hv.nb (by decide)⟩
 ·obtain ⟨hv,_⟩:=fc1 ns room (by omega)
  exact ⟨hv.ko,hv.kd,hv.nb⟩
theorem aMX {n:Nat} (hn:n=0\/n=1) (ns:List Int) (room:Nat) (hr:room<=6):KOk (aCC n ns room).kv/\KIn (room+1) (aCC n ns room).kv:=by
 rcases hn with rfl | rfl
 ·obtain ⟨hv,_⟩:=pd0 ns room (by omega)
  exact ⟨hv.ko,hv.kd⟩
 ·obtain ⟨hv,_⟩:=pd1 ns room (by omega)
  exact ⟨hv.ko,hv.kd⟩
theorem aNJ {m:Nat} {kv:KVs} (h:KIn (m+1) kv) (hm:m<=9):KIn 10 kv:=fun z hz=>let ⟨i,k,e,a,b⟩:=h z hz; ⟨i,k,e,by omega,by omega⟩
theorem eOT {kv:KVs} (h:KOk kv) (hk:KIn 10 kv):kv.length<=1000:=Nat.le_trans (aUH h hk) (by decide)
theorem aGX {n:Nat} (h:DefX P w K mg base k N__law_prod (yC jW) X) (hn:n=0\/n=1) (c2:aAT X "_law_factor" (vO n)) (c1:aAT X "_law_pick" jY) (c3:EV.CalleeD X "_law_product" jE) :
  ∀ q ds xs d xs',aAV n ds xs d xs'->EvM X q (.val (.stt q) :: ds.map Sl.val++List.replicate (N__law_prod.length - (ds.length+1)) Sl.un) (yF jW) (.rt d) xs xs':=by
 rintro q ds xs d xs' ⟨ns,room,rfl,hr,hl,rfl,rfl,rfl⟩
 have t:=h.at'
 haveI:=h.fnT
 have hdl:ns.dropLast.length<=200:=by rw [List.length_dropLast]; omega
 show EvM X q [.val (.stt q),.val (.int room),.val (.int n),.un,.un,.un,.un,.un] _ _ _ _
 have hfr:yT ns % ((room:Int)+1)=((frX ns room:Nat):Int):=by unfold frX; rw [Int.toNat_of_nonneg (Int.emod_nonneg _ (by omega))]
 have hfl:=eNG ns room
 unfold aCC eHI
 dsimp only
 refine qV (aEG (d:=.int (frX ns room)) t 3 (EvEM.eq (aJQ (vJ t c1 (EvA.am (yB (yA t 0 rfl) yE)) ⟨ns,rfl,rfl,rfl,rfl⟩) (jI (yA t 1 rfl) yD) (by omega)) (by rw [hfr]))) ?_
 generalize frX ns room=a at hfl
 have ht:=(AtV.len hn hdl a).2.1
 have hx:=(AtV.xs hn ns.dropLast a).2.1
 obtain ⟨k1,k2,k3⟩:=aUN hn ns.dropLast a (by omega)
 refine qV (ρ1:=[.val (.stt q),.val (.int room),.val (.int n),.val (.int a),.val (.lst (yY (aGS n ns.dropLast a).tk)),.val (.dic (aGS n ns.dropLast a).kv),.un,.un]) (aIV t (vJ (d:=oD (aGS n ns.dropLast a)) t c2 (EvA.am (yB (yA t 0 rfl) (yB (yA t 3 rfl) (yB (yA t 2 rfl) yE)))) ⟨ns.dropLast,a,rfl,by omega,hdl,rfl,rfl,rfl⟩) (aGT t (qM (zA t 4) (qM (zA t 5) aDN)))) ?_
 generalize aGS n ns.dropLast a=o at ht hx k1 k2 k3
 have hol:o.xs.length<=200:=by omega
 have hodl:o.xs.dropLast.length<=200:=by rw [List.length_dropLast]; omega
 by_cases hy:0 < yT o.xs % 3
 ·rw [if_pos hy]
  have ht2:=(AtV.len hn hodl (room - a)).2.1
  obtain ⟨l1,l2,l3⟩:=aUN hn o.xs.dropLast (room - a) (by omega)
  refine qV (ρ1:=[.val (.stt q),.val (.int room),.val (.int n),.val (.int a),.val (.lst (yY (o.tk++[[42]]++(aGS n o.xs.dropLast (room - a)).tk))),.val (.dic (aFG o.kv (aGS n o.xs.dropLast (room - a)).kv)),.val (.lst (yY (aGS n o.xs.dropLast (room - a)).tk)),.val (.dic (aGS n o.xs.dropLast (room - a)).kv)]) (eMI (EvTM.eq (eKB (aJQ (vJ t c1 (EvA.am (yB (yA t 0 rfl) yE)) ⟨o.xs,rfl,rfl,rfl,rfl⟩) yD (by decide)) yD) (decide_eq_true hy)) (qV (ρ1:=[.val (.stt q),.val (.int room),.val (.int n),.val (.int a),.val (.lst (yY o.tk)),.val (.dic o.kv),.val (.lst (yY (aGS n o.xs.dropLast (room - a)).tk)),.val (.dic (aGS n o.xs.dropLast (room - a)).kv)]) (aIV t (vJ (d:=oD (aGS n o.xs.dropLast (room - a))) t c2 (EvA.am (yB (yA t 0 rfl) (yB (EvE.eq (aCV (yA t 1 rfl) (yA t 3 rfl)) (show D.int ((room:Int) - (a:Int)) = .int ((room - a:Nat):Int) by congr 1; omega)) (yB (yA t 2 rfl) yE)))) ⟨o.xs.dropLast,room - a,rfl,by omega,hodl,rfl,rfl,rfl⟩) (aGT t (qM (zA t 6) (qM (zA t 7) aDN)))) (EvSs.m ?_))) (EvSs.m (yJ (zO (yM (yB (yA t 4 rfl) (yB (yA t 5 rfl) yE))))))
  generalize aGS n o.xs.dropLast (room - a)=g at ht2 l1 l2 l3
  refine yG (ρ':=[.val (.stt q),.val (.int room),.val (.int n),.val (.int a),.own (yY (o.tk++[[42]]++g.tk)),.val (.dic o.kv),.val (.lst (yY g.tk)),.val (.dic g.kv)]) (EvS.eq (aFE t 4 (wU (EvN.toE (wU (yA t 4 rfl) (EvN.toE (yQ (yB ev_str yE))) ?_)) (yA t 6 rfl) ?_)) ?_) (wR 4 rfl (yJ (zK (d:=.dic (aFG o.kv g.kv)) t 5 (EvDn.toE (aEW t c3 (yB (yA t 5 rfl) (yB (yA t 7 rfl) yE)) ⟨o.kv,g.kv,rfl,k1,l1,eOT k1 (aNJ k2 (by omega)),eOT l1 (aNJ l2 (by omega)),aYU (Nat.le_trans l3 (by decide)),rfl⟩)))))
  ·rw [yV]; exact tsz (by simp; omega)
  ·rw [List.length_append,yV,yV]; exact tsz (by simp; omega)
  ·rw [show ("*" : Str)=S [42] by decide +kernel,jQ,jQ]; rfl
 ·rw [if_neg hy]
  exact qV (eMJ (EvTM.eq (eKB (aJQ (vJ t c1 (EvA.am (yB (yA t 0 rfl) yE)) ⟨o.xs,rfl,rfl,rfl,rfl⟩) yD (by decide)) yD) (decide_eq_false hy)) aZC) (EvSs.m (yJ (zO (yM (yB (yA t 4 rfl) (yB (yA t 5 rfl) yE))))))
theorem ePP (ys:List Int):atI (([.str "+",.str "-"]:List D)) (yT ys % 2)=some (.str (S (sgW (sgX ys))))/\atI (([1,-1]:List Int).map D.int) (yT ys % 2)=some (.int (if sgX ys then 1 else -1)):=by
 unfold sgX
 by_cases h:yT ys % 2=0
 ·rw [decide_eq_true h,h]; exact ⟨by rw [show ("+" : Str)=S [43] by decide +kernel]; rfl,rfl⟩
 ·rw [decide_eq_false h,show yT ys % 2=1 by omega]; exact ⟨by rw [show ("-" : Str)=S [45] by decide +kernel]; rfl,rfl⟩
theorem aIB {n:Nat} (hn:n=0\/n=1) {room:Nat} (hr:room<=6) {o:Ot} (k1:KOk o.kv) (k2:KIn (room+1) o.kv) (hl:o.tk.length<=620) (hx:o.xs.length<=200):∀ j,KOk (aCF (aCC n) room o j).kv/\KIn (room+1) (aCF (aCC n) room o j).kv/\(aCF (aCC n) room o j).tk.length<=620+621 * j/\(aCF (aCC n) room o j).xs.length<=200
 | 0=>⟨k1,k2,by show o.tk.length<=_; omega,hx⟩
 | j+1=>by
  obtain ⟨a,b,c,d⟩:=aIB hn hr k1 k2 hl hx j
  unfold aCF aEL
  dsimp only
  generalize aCF (aCC n) room o j=u at a b c d
  have hd:u.xs.dropLast.length<=200:=by rw [List.length_dropLast]; omega
  obtain ⟨e1,e2⟩:=aMX hn u.xs.dropLast room hr
  have e3:=(AtV.len hn hd room).2.2.1
  have e4:=(AtV.xs hn u.xs.dropLast room).2.2.1
  exact ⟨(aBI _ (fun _ _=>0) _ _ a e1.keys).1,aCE _ _ _ b e2,by simp; omega,by show (aCC n u.xs.dropLast room).xs.length<=200; omega⟩
theorem aJV {n:Nat} (h:DefX P w K mg base k N__law_sum (yC vA) X) (hn:n=0\/n=1) (m_range:mg "range" = none) (c2:aAT X "_law_prod" (aAV n)) (c3:EV.CalleeD X "_law_add" wC) (c1:aAT X "_law_pick" jY) :
  ∀ q ds xs d xs',aAJ n ds xs d xs'->EvM X q (.val (.stt q) :: ds.map Sl.val++List.replicate (N__law_sum.length - (ds.length+1)) Sl.un) (yF vA) (.rt d) xs xs':=by
 rintro q ds xs d xs' ⟨ns,room,rfl,hr,hl,rfl,rfl,rfl⟩
 have t:=h.at'
 haveI:=h.fnT
 have b1:Blt X (yC vA) "range" (.type "range"):=yP (by rw [h.mg']; exact m_range)
 show EvM X q [.val (.stt q),.val (.int room),.val (.int n),.un,.un,.un,.un,.un,.un] _ _ _ _
 unfold aBQ eGM
 dsimp only
 have ht:=(AtV.len hn hl room).2.2.1
 have hx:=(AtV.xs hn ns room).2.2.1
 obtain ⟨k1,k2⟩:=aMX hn ns room hr
 refine qV (ρ1:=[.val (.stt q),.val (.int room),.val (.int n),.val (.lst (yY (aCC n ns room).tk)),.val (.dic (aCC n ns room).kv),.un,.un,.un,.un]) (aIV t (vJ (d:=oD (aCC n ns room)) t c2 (EvA.am (yB (yA t 0 rfl) (yB (yA t 1 rfl) (yB (yA t 2 rfl) yE)))) ⟨ns,room,rfl,hr,hl,rfl,rfl,rfl⟩) (aGT t (qM (zA t 3) (qM (zA t 4) aDN)))) ?_
 generalize aCC n ns room=o at ht hx k1 k2
 have ho:o.xs.dropLast.length<=200:=by rw [List.length_dropLast]; omega
 have fc:=aIB hn hr (o:={ o with xs:=o.xs.dropLast }) k1 k2 ht ho
 have h3:(yT o.xs % 3).toNat<=2:=by omega
 refine qV (ρ1:=[.val (.stt q),.val (.int room),.val (.int n),.val (.lst (yY (aCF (aCC n) room { o with xs:=o.xs.dropLast } (yT o.xs % 3).toNat).tk)),.val (.dic (aCF (aCC n) room { o with xs:=o.xs.dropLast } (yT o.xs % 3).toNat).kv),.un,.un,.un,.un]) (eMK t (aVZ t b1 (aJQ (vJ t c1 (EvA.am (yB (yA t 0 rfl) yE)) ⟨o.xs,rfl,rfl,rfl,rfl⟩) yD (by decide)) (by omega) (by omega)) (FRunM.uptoE (fun j=>[.val (.stt q),.val (.int room),.val (.int n),.val (.lst (yY (aCF (aCC n) room { o with xs:=o.xs.dropLast } j).tk)),.val (.dic (aCF (aCC n) room { o with xs:=o.xs.dropLast } j).kv),.un,.un,.un,.un]) (fun j=>iL (aCF (aCC n) room { o with xs:=o.xs.dropLast } j).xs) (fun j d e=>?_) rfl rfl (by rw [show (jO 0 (yT o.xs % 3).toNat).length=(yT o.xs % 3).toNat by simp [jO]]) rfl)) ?_
 ·obtain ⟨hj,rfl⟩:=aAL e
  have hj2:j < 2:=by omega
  obtain ⟨a,b,c,dd⟩:=fc j
  rw [show aCF (aCC n) room { o with xs:=o.xs.dropLast } (j+1)=aEL (aCC n) room (aCF (aCC n) room { o with xs:=o.xs.dropLast } j) from rfl]
  generalize aCF (aCC n) room { o with xs:=o.xs.dropLast } j=u at a b c dd
  unfold aEL
  dsimp only
  have hd:u.xs.dropLast.length<=200:=by rw [List.length_dropLast]; omega
  obtain ⟨e1,e2⟩:=aMX hn u.xs.dropLast room hr
  have e3:=(AtV.len hn hd room).2.2.1
  obtain ⟨s1,s2⟩:=ePP u.xs
  refine ⟨_,zA t 5,EvM.weak (ρ1:=[.val (.stt q),.val (.int room),.val (.int n),.val (.lst (yY (u.tk++[sgW (sgX u.xs)]++(aCC n u.xs.dropLast room).tk))),.val (.dic (qO u.kv (aCC n u.xs.dropLast room).kv (if sgX u.xs then 1 else -1))),.val (.int j),.val (.int (yT u.xs % 2)),.val (.lst (yY (aCC n u.xs.dropLast room).tk)),.val (.dic (aCC n u.xs.dropLast room).kv)]) (qV (aEG t 6 (aJQ (vJ t c1 (EvA.am (yB (yA t 0 rfl) yE)) ⟨u.xs,rfl,rfl,rfl,rfl⟩) yD (by decide))) (qV (ρ1:=[.val (.stt q),.val (.int room),.val (.int n),.val (.lst (yY u.tk)),.val (.dic u.kv),.val (.int j),.val (.int (yT u.xs % 2)),.val (.lst (yY (aCC n u.xs.dropLast room).tk)),.val (.dic (aCC n u.xs.dropLast room).kv)]) (aIV t (vJ (d:=oD (aCC n u.xs.dropLast room)) t c2 (EvA.am (yB (yA t 0 rfl) (yB (yA t 1 rfl) (yB (yA t 2 rfl) yE)))) ⟨u.xs.dropLast,room,rfl,hr,hd,rfl,rfl,rfl⟩) (aGT t (qM (zA t 7) (qM (zA t 8) aDN)))) (EvSs.m ?_))) (.keep (.keep (.keep (.keep (.keep (.forget (.forget (.forget (.forget .nil)))))))))⟩
  generalize aCC n u.xs.dropLast room=g at e1 e2 e3
  refine yG (ρ':=[.val (.stt q),.val (.int room),.val (.int n),.own (yY (u.tk++[sgW (sgX u.xs)]++g.tk)),.val (.dic u.kv),.val (.int j),.val (.int (yT u.xs % 2)),.val (.lst (yY g.tk)),.val (.dic g.kv)]) (EvS.eq (aFE t 3 (wU (EvN.toE (wU (yA t 3 rfl) (EvN.toE (yQ (yB (zB (EvN.toQ (yQ (yB ev_str (yB ev_str yE)))) (yA t 6 rfl) s1) yE))) ?_)) (yA t 7 rfl) ?_)) ?_) (wR 3 rfl (yJ (zK (d:=.dic (qO u.kv g.kv (if sgX u.xs then 1 else -1))) t 4 (EvDn.toE (aEW t c3 (yB (yA t 4 rfl) (yB (yA t 8 rfl) (yB (zB (EvN.toQ (yQ (yB yD (yB (aJN yD) yE)))) (yA t 6 rfl) s2) yE))) ⟨u.kv,g.kv,_,rfl,a,aNJ b (by omega),e1,aNJ e2 (by omega),by cases sgX u.xs <;> simp,rfl⟩)))))
  ·rw [yV]; exact tsz (by simp; omega)
  ·rw [List.length_append,yV,yV]; exact tsz (by simp; omega)
  ·rw [jQ,jQ]; rfl
 ·rw [show (jO 0 (yT o.xs % 3).toNat).length=(yT o.xs % 3).toNat by simp [jO]]
  exact EvSs.m (yJ (zO (yM (yB (yA t 3 rfl) (yB (yA t 4 rfl) yE)))))
def SG:Str := "abcdefghijklmnopqrstuvwxyz0123456789"
def ldX (xs:List Int):List Nat:=([[32],[],[],[32,32]]:TK).getD (xs.getD 0 0 % 4).toNat []
def bkX (xs:List Int) (k:Nat):List Nat:=([[],[32],[],[32,32,32]]:TK).getD (xs.getD (k % 12) 0 / 4 % 4).toNat []
def tlX (xs:List Int):List Nat:=([[],[32],[],[]]:TK).getD (xs.getD 0 0 / 16 % 4).toNat []
def rn:List Nat->Bool
 | c :: _=>decide ((48<=c/\c<=57)\/c=120\/c=121)
 | []=>false
def spX (tk:TK) (xs:List Int) (k:Nat):List Nat:=if bkX xs k=[]/\rn (tk.getD k [])=true/\rn (tk.getD (k - 1) [])=true then [32] else bkX xs k
def jnX (tk:TK) (xs:List Int):Nat->List Nat
 | 0=>ldX xs
 | k+1=>jnX tk xs k++(if 0 < k then spX tk xs k else [])++tk.getD k []
def aPX (tk:TK) (xs:List Int):List Nat:=jnX tk xs tk.length++tlX xs
theorem eHL {α:Type} (a b c d z:α) {n:Nat} (h:n < 4) (P:α->Prop) (ha:P a) (hb:P b) (hc:P c) (hd:P d):P (([a,b,c,d]:List α).getD n z):=by
 match n,h with
 | 0,_=>exact ha
 | 1,_=>exact hb
 | 2,_=>exact hc
 | 3,_=>exact hd
 | n+4,h=>omega
theorem at4 (a b c d:Str) (a' b' c' d':List Nat) (ea:a=S a') (eb:b=S b') (ec:c=S c') (ed:d=S d') {i:Int} (h0:0<=i) (h1:i < 4):atI ([.str a,.str b,.str c,.str d]:List D) i=some (.str (S (([a',b',c',d']:TK).getD i.toNat []))):=by
 obtain ⟨n,rfl⟩:=Int.eq_ofNat_of_zero_le h0
 have:n < 4:=by omega
 rw [Int.toNat_natCast]
 match n,this with
 | 0,_=>rw [ea]; rfl
 | 1,_=>rw [eb]; rfl
 | 2,_=>rw [ec]; rfl
 | 3,_=>rw [ed]; rfl
 | n+4,h=>omega
def Bk (u:List Nat):Prop:=(∀ c∈u,c=32)/\u.length<=3
theorem bk_of:Bk []/\Bk [32]/\Bk [32,32]/\Bk [32,32,32]:=⟨⟨by decide,by decide⟩,⟨by decide,by decide⟩,⟨by decide,by decide⟩,⟨by decide,by decide⟩⟩
theorem eID (xs:List Int):Bk (ldX xs)/\(ldX xs).length<=2:=eHL _ _ _ _ _ (by omega) (fun u=>Bk u/\u.length<=2) ⟨bk_of.2.1,by decide⟩ ⟨bk_of.1,by decide⟩ ⟨bk_of.1,by decide⟩ ⟨bk_of.2.2.1,by decide⟩
theorem eOB (xs:List Int) (k:Nat):Bk (bkX xs k):=eHL _ _ _ _ _ (by omega) Bk bk_of.1 bk_of.2.1 bk_of.1 bk_of.2.2.2
theorem aXC (xs:List Int):Bk (tlX xs)/\(tlX xs).length<=1:=eHL _ _ _ _ _ (by omega) (fun u=>Bk u/\u.length<=1) ⟨bk_of.1,by decide⟩ ⟨bk_of.2.1,by decide⟩ ⟨bk_of.1,by decide⟩ ⟨bk_of.1,by decide⟩
theorem aXM (tk:TK) (xs:List Int) (k:Nat):Bk (spX tk xs k):=by unfold spX; split; exact bk_of.2.1; exact eOB xs k
theorem eKC {u:List Nat} (h:TkL u):∃ c cs,u=c :: cs/\(!(Builtin.Str.occurrences SG (S [c]) 0 SG.length 1).isEmpty)=rn u:=by
 have run:∀ c:Nat,c < 128->((48<=c/\c<=57)\/c=120\/c=121)->(!(Builtin.Str.occurrences SG (S [c]) 0 SG.length 1).isEmpty)=true:=by decide +kernel
 rcases h with h | ⟨c,rfl,h⟩
 ·obtain ⟨c,cs,rfl,hc⟩:=aXT h
  refine ⟨c,cs,rfl,?_⟩
  have hc':(48<=c/\c<=57)\/c=120\/c=121:=by omega
  rw [run c (by omega) hc']
  show true=decide _
  rw [decide_eq_true hc']
 ·refine ⟨c,[],rfl,?_⟩
  rcases h with rfl | rfl | rfl | rfl | rfl | rfl <;> decide +kernel
theorem aRG {tk:TK} {j:Nat} (h:j < tk.length):wT (tk.take (j+1))=wT (tk.take j)+(tk.getD j []).length+3:=by
 rw [List.take_succ,List.getElem?_eq_getElem h,jZ,List.getD_eq_getElem?_getD,List.getElem?_eq_getElem h]
 show _+(tk[j].length+3+0)=_+tk[j].length+3
 omega
theorem aXF (tk:TK) (j:Nat):wT (tk.take j)<=wT tk:=by
 have:=jZ (tk.take j) (tk.drop j)
 rw [List.take_append_drop] at this
 omega
theorem aUI (tk:TK) (xs:List Int):∀ j,j<=tk.length->(jnX tk xs j).length<=2+wT (tk.take j)
 | 0,_=>by rw [List.take_zero]; exact (eID xs).2
 | j+1,h=>by
  have a:=aUI tk xs j (by omega)
  have b:=(aXM tk xs j).2
  rw [aRG (by omega)]
  unfold jnX
  rw [List.length_append,List.length_append]
  split
  ·omega
  ·simp; omega
theorem eMU {tk:TK} (hq:∀ u∈tk,TkQ u) (xs:List Int):∀ j,j<=tk.length->∀ c∈jnX tk xs j,c < 128
 | 0,_,c,hc=>by rw [(eID xs).1.1 c hc]; decide
 | j+1,h,c,hc=>by
  unfold jnX at hc
  rcases List.mem_append.mp hc with hc | hc
  ·rcases List.mem_append.mp hc with hc | hc
   ·exact eMU hq xs j (by omega) c hc
   ·split at hc
    ·rw [(aXM tk xs j).1 c hc]; decide
    ·cases hc
  ·rw [List.getD_eq_getElem?_getD,List.getElem?_eq_getElem (by omega)] at hc
   exact (hq _ (List.getElem_mem _)).1 c hc
theorem aZJ {u cs:List Nat} {ts:TK} (hu:Bk u) (h:Lex cs ts):Lex (u++cs) ts:=by
 have:∀ u:List Nat,(∀ c∈u,c=32)->Lex (u++cs) ts:=by
  intro u
  induction u with
  | nil=>intro _; exact h
  | cons c u ih=>
   intro hc
   have e:=hc c (by simp)
   subst e
   exact .sp (ih fun d hd=>hc d (by simp [hd]))
 exact this u hu.1
theorem eEH {u:List Nat} (h:TkL u) (hr:rn u=false):∃ c,u=[c]/\al c=false/\c≠32/\c≠60/\c≠62/\c≠33:=by
 rcases h with h | ⟨c,rfl,h⟩
 ·obtain ⟨c,cs,rfl,hc⟩:=aXT h
  have:rn (c :: cs)=true:=by show decide _=true; rw [decide_eq_true_eq]; omega
  rw [this] at hr; cases hr
 ·exact ⟨c,rfl,by rcases h with rfl | rfl | rfl | rfl | rfl | rfl <;> decide +kernel,by omega,by omega,by omega,by omega⟩
theorem eGY {u:List Nat} (h:TkL u) (hr:rn u=true):RunW u:=by
 rcases h with h | ⟨c,rfl,h⟩
 ·exact h
 ·have:¬ ((48<=c/\c<=57)\/c=120\/c=121):=by omega
  exact absurd (of_decide_eq_true (show decide ((48<=c/\c<=57)\/c=120\/c=121)=true from hr)) this
theorem eNE {u:List Nat} (h:Bk u) (hn:u≠[]) (cs:List Nat):∀ c,(u++cs).head? = some c->al c=false:=fun c e=>by
 cases u with
 | nil=>exact absurd rfl hn
 | cons d u=>cases e; rw [h.1 c (by simp)]; exact eOG
theorem aZI {tk:TK} (hq:∀ u∈tk,TkQ u) (xs:List Int):∀ (m j:Nat),j+m=tk.length->∃ W,aPX tk xs=jnX tk xs j++W/\Lex W (tk.drop j)/\(0 < j->rn (tk.getD (j - 1) [])=true->∀ c,W.head? = some c->al c=false)
 | 0,j,e=>by
  have e':j=tk.length:=by omega
  subst e'
  refine ⟨tlX xs,rfl,?_,fun _ _ c hc=>?_⟩
  ·rw [List.drop_length]
   have:=aZJ (aXC xs).1 Lex.nil
   rw [List.append_nil] at this; exact this
  ·by_cases hn:tlX xs=[]
   ·rw [hn] at hc; cases hc
   ·exact eNE (aXC xs).1 hn [] c (by rw [List.append_nil]; exact hc)
 | m+1,j,e=>by
  obtain ⟨W,e1,h1,h2⟩:=aZI hq xs m (j+1) (by omega)
  have hj:j < tk.length:=by omega
  have hg:tk.getD j []=tk[j]:=by rw [List.getD_eq_getElem?_getD,List.getElem?_eq_getElem hj]; rfl
  have hQ:=(hq tk[j] (List.getElem_mem hj)).2.2
  have hdr:tk.drop j=tk[j] :: tk.drop (j+1):=List.drop_eq_getElem_cons hj
  have tokL:Lex (tk[j]++W) (tk.drop j):=by
   rw [hdr]
   cases hr:rn tk[j] with
   | true=>
    refine .run (eGY hQ hr) (h2 (by omega) ?_) h1
    rw [show j+1 - 1=j by omega,hg,hr]
   | false=>
    obtain ⟨c,ec,a1,a2,a3,a4,a5⟩:=eEH hQ hr
    rw [ec]
    exact .sign a1 a2 a3 a4 a5 h1
  have bk0:Bk (if 0 < j then spX tk xs j else []):=by split; exact aXM tk xs j; exact bk_of.1
  refine ⟨(if 0 < j then spX tk xs j else [])++(tk[j]++W),?_,aZJ bk0 tokL,fun h0 hr c hc=>?_⟩
  ·rw [e1]
   show jnX tk xs j++_++tk.getD j []++W=_
   rw [hg]; simp only [List.append_assoc]
  ·rw [if_pos h0] at hc
   by_cases hs:spX tk xs j=[]
   ·rw [hs] at hc
    have hrj:rn (tk.getD j [])=false:=by
     cases hr2:rn (tk.getD j []) with
     | false=>rfl
     | true=>
      unfold spX at hs
      by_cases hb:bkX xs j=[]
      ·rw [if_pos ⟨hb,hr2,hr⟩] at hs; cases hs
      ·rw [if_neg (fun z=>hb z.1)] at hs; exact absurd hs hb
    rw [hg] at hrj
    obtain ⟨c',ec,a1,_⟩:=eEH hQ hrj
    rw [ec] at hc
    cases hc
    exact a1
   ·exact eNE (aXM tk xs j) hs _ c hc
theorem eCR {tk:TK} (hq:∀ u∈tk,TkQ u) (xs:List Int):Lex (aPX tk xs) tk:=by
 obtain ⟨W,e1,h1,_⟩:=aZI hq xs tk.length 0 (by omega)
 rw [e1]
 exact aZJ (eID xs).1 h1
theorem eIG {tk:TK} (hq:∀ u∈tk,TkQ u) (xs:List Int):∀ c∈aPX tk xs,c < 128:=fun c hc=>by
 rcases List.mem_append.mp hc with hc | hc
 ·exact eMU hq xs tk.length (Nat.le_refl _) c hc
 ·rw [(aXC xs).1.1 c hc]; decide
theorem eCU (tk:TK) (xs:List Int):(aPX tk xs).length<=wT tk+3:=by
 have a:=aUI tk xs tk.length (Nat.le_refl _)
 have b:=(aXC xs).2
 rw [List.take_length] at a
 unfold aPX
 rw [List.length_append]
 omega
def aAH (ds:List D) (d:D):Prop:=∃ (tk:TK) (xs:List Int),ds=[.lst (yY tk),jA xs]/\xs.length=12/\(∀ u∈tk,TkQ u)/\wT tk<=990/\d = .str (S (aPX tk xs))
theorem aJG:∀ ds d,aAH ds d->ds.length=2:=by rintro _ _ ⟨_,_,rfl,_⟩; rfl
theorem aOE (h:DefX P w K mg base k N__law_joined (yC zS) X) (m_range:mg "range" = none) (m_len:mg "len" = none) :
  ∀ ds d,aAH ds d->EvSs X (ds.map Sl.val++List.replicate (N__law_joined.length - ds.length) Sl.un) (yF zS) (.rt d):=by
 rintro ds d ⟨tk,xs,rfl,hl,hq,hw,rfl⟩
 have t:=h.at'
 haveI:=h.fnT
 have b1:Blt X (yC zS) "range" (.type "range"):=yP (by rw [h.mg']; exact m_range)
 have b2:Blt X (yC zS) "len" (.builtin "len"):=yP (by rw [h.mg']; exact m_len)
 have htl:tk.length<=330:=by have:=aWQ tk; omega
 have z0:("" : Str)=S []:=by decide +kernel
 have z1:(" " : Str)=S [32]:=by decide +kernel
 have z2:("  " : Str)=S [32,32]:=by decide +kernel
 have z3:("   " : Str)=S [32,32,32]:=by decide +kernel
 have hv:∀ n:Nat,n < 12->atI (xs.map D.int) (n:Int)=some (.int (xs.getD n 0)):=fun n hn=>aRA (by omega)
 show EvSs X [.val (.lst (yY tk)),.val (jA xs),.un,.un,.un,.un] _ _
 refine yG (zK (d:=.str SG) t 2 ev_str) (yG (zK (d:=.str (S (ldX xs))) t 3 (zB (EvN.toQ (yQ (yB ev_str (yB ev_str (yB ev_str (yB ev_str yE)))))) (yR (zB (EvE.ql (yA t 1 rfl)) yD (hv 0 (by omega))) yD (by decide)) (at4 _ _ _ _ _ _ _ _ z1 z0 z0 z2 (by omega) (by omega)))) ?_)
 refine yG (ρ':=[.val (.lst (yY tk)),.val (jA xs),.val (.str SG),.val (.str (S (jnX tk xs tk.length))),.un,.un]) (aCW t (jT t b1 (vF t b2 (EvE.ql (yA t 0 rfl))) (by rw [yV]; omega) (by rw [yV]; omega)) (FRun.uptoE (fun j=>[.val (.lst (yY tk)),.val (jA xs),.val (.str SG),.val (.str (S (jnX tk xs j))),.un,.un]) (fun j d e=>?_) rfl ?_)) (yJ (zO (EvE.eq (aSH (z:=S (jnX tk xs tk.length)) (w:=S (tlX xs)) (yA t 3 rfl) (zB (EvN.toQ (yQ (yB ev_str (yB ev_str (yB ev_str (yB ev_str yE)))))) (yR (aAO t (zB (EvE.ql (yA t 1 rfl)) yD (hv 0 (by omega))) yD (by decide)) yD (by decide)) (at4 _ _ _ _ _ _ _ _ z0 z1 z0 z0 (by omega) (by omega))) ?_) (by rw [eDL]; rfl))))
 ·obtain ⟨hj,rfl⟩:=aAL e
  rw [Int.toNat_natCast,yV] at hj
  have hg:tk.getD j []=tk[j]:=by rw [List.getD_eq_getElem?_getD,List.getElem?_eq_getElem hj]; rfl
  have hQ:=hq tk[j] (List.getElem_mem hj)
  have hta:∀ i:Nat,(hi:i < tk.length)->atI (yY tk) (i:Int)=some (.str (S tk[i])):=fun i hi=>jR (by unfold yY; rw [List.getElem?_map,List.getElem?_eq_getElem hi]; rfl)
  have hjl:=aUI tk xs j (by omega)
  have hjw:=aXF tk (j+1)
  rw [aRG hj] at hjw
  have sp3:=(aXM tk xs j).2
  refine ⟨_,zA t 4,EvSs.weak (ρ1:=[.val (.lst (yY tk)),.val (jA xs),.val (.str SG),.val (.str (S (jnX tk xs (j+1)))),.val (.int j),.un]) (yG (ρ':=[.val (.lst (yY tk)),.val (jA xs),.val (.str SG),.val (.str (S (jnX tk xs j++(if 0 < j then spX tk xs j else [])))),.val (.int j),.un]) ?_ (yJ (EvS.eq (zK t 3 (aSH (w:=S tk[j]) (yA t 3 rfl) (zB (EvE.ql (yA t 0 rfl)) (yA t 4 rfl) (hta j hj)) ?_)) ?_))) (.keep (.keep (.keep (.keep (.forget (.keep .nil))))))⟩
  ·by_cases h0:0 < j
   ·rw [if_pos h0]
    have hj1:j - 1 < tk.length:=by omega
    have hg1:tk.getD (j - 1) []=tk[j - 1]:=by rw [List.getD_eq_getElem?_getD,List.getElem?_eq_getElem hj1]; rfl
    have hQ1:=hq tk[j - 1] (List.getElem_mem hj1)
    obtain ⟨c,cs,ec,oc⟩:=eKC hQ.2.2
    obtain ⟨c1,cs1,ec1,oc1⟩:=eKC hQ1.2.2
    have hl1:(S tk[j]).length<=sizeLine:=by rw [wV]; rw [hg] at hjw; exact sl1 (by omega)
    have hl2:(S tk[j - 1]).length<=sizeLine:=by
     rw [wV]
     have:=aXF tk (j - 1+1)
     rw [aRG hj1,hg1] at this
     exact sl1 (by omega)
    have hmod:(j:Int) % 12=((j % 12:Nat):Int):=by omega
    have hbk:PyData.strOk (S (bkX xs j))=true:=aKA fun c hc=>by rw [(eOB xs j).1 c hc]; decide
    have e0:decide (S (bkX xs j)=("" : Str))=decide (bkX xs j=[]):=decide_eq_decide.mpr ⟨fun e=>aBM (e.trans z0),fun e=>by rw [e,z0]⟩
    have ejm:(j:Int) - 1=((j - 1:Nat):Int):=by omega
    refine aBJ (EvT.eq (aEB (yA t 4 rfl) yD) (by rw [decide_eq_true_eq]; omega)) (EvSs.weak (ρ1:=[.val (.lst (yY tk)),.val (jA xs),.val (.str SG),.val (.str (S (jnX tk xs j++spX tk xs j))),.val (.int j),.val (.str (S (spX tk xs j)))]) (yG (zK (d:=.str (S (bkX xs j))) t 5 (zB (EvN.toQ (yQ (yB ev_str (yB ev_str (yB ev_str (yB ev_str yE)))))) (yR (aAO t (zB (EvE.ql (yA t 1 rfl)) (EvE.eq (yR (yA t 4 rfl) (vF t b2 (EvE.ql (yA t 1 rfl))) (by rw [List.length_map,hl]; decide)) (by rw [List.length_map,hl]; exact congrArg D.int hmod)) (hv (j % 12) (by omega))) yD (by decide)) yD (by decide)) (at4 _ _ _ _ _ _ _ _ z0 z1 z0 z3 (by omega) (by omega)))) (yG (ρ':=[.val (.lst (yY tk)),.val (jA xs),.val (.str SG),.val (.str (S (jnX tk xs j))),.val (.int j),.val (.str (S (spX tk xs j)))]) ?_ (yJ (EvS.eq (zK t 3 (aSH (yA t 3 rfl) (yA t 5 rfl) (by rw [wV,wV]; exact sl1 (by omega)))) (by rw [eDL]; rfl))))) (.keep (.keep (.keep (.keep (.keep (.forget .nil)))))))
    have tstv:(decide (bkX xs j=[]) && (rn tk[j] && rn tk[j - 1]))=decide (bkX xs j=[]/\rn (tk.getD j [])=true/\rn (tk.getD (j - 1) [])=true):=by
     rw [hg,hg1]
     by_cases y:bkX xs j=[] <;> cases rn tk[j] <;> cases rn tk[j - 1] <;> simp [y]
    unfold spX
    by_cases hc:bkX xs j=[]/\rn (tk.getD j [])=true/\rn (tk.getD (j - 1) [])=true
    ·rw [if_pos hc]
     exact aBJ (EvT.eq (eAC (EvT.eq (jP t (yA t 5 rfl) ev_str hbk) e0) (fun _=>aUQ (vR (c:=c) (zB (EvE.ql (yA t 0 rfl)) (yA t 4 rfl) (hta j hj)) yD hl1 (by rw [aCL,ec]; exact jR (j:=0) rfl)) (yA t 2 rfl) oc) (fun _ _=>aUQ (vR (c:=c1) (zB (EvE.ql (yA t 0 rfl)) (EvE.eq (aCV (yA t 4 rfl) yD) (congrArg D.int ejm)) (hta (j - 1) hj1)) yD hl2 (by rw [aCL,ec1]; exact jR (j:=0) rfl)) (yA t 2 rfl) oc1)) (by rw [tstv,decide_eq_true hc])) (yJ (EvS.eq (zK t 5 ev_str) (by rw [z1]; rfl)))
    ·rw [if_neg hc]
     exact wM (EvT.eq (eAC (EvT.eq (jP t (yA t 5 rfl) ev_str hbk) e0) (fun _=>aUQ (vR (c:=c) (zB (EvE.ql (yA t 0 rfl)) (yA t 4 rfl) (hta j hj)) yD hl1 (by rw [aCL,ec]; exact jR (j:=0) rfl)) (yA t 2 rfl) oc) (fun _ _=>aUQ (vR (c:=c1) (zB (EvE.ql (yA t 0 rfl)) (EvE.eq (aCV (yA t 4 rfl) yD) (congrArg D.int ejm)) (hta (j - 1) hj1)) yD hl2 (by rw [aCL,ec1]; exact jR (j:=0) rfl)) (yA t 2 rfl) oc1)) (by rw [tstv,decide_eq_false hc])) qQ
   ·rw [if_neg h0,List.append_nil]
    exact wM (EvT.eq (aEB (yA t 4 rfl) yD) (by rw [decide_eq_false_iff_not]; omega)) qQ
  ·rw [wV,wV,List.length_append]
   rw [hg] at hjw
   have:(if 0 < j then spX tk xs j else []).length<=3:=by
    split
    ·exact sp3
    ·simp
   exact sl1 (by omega)
  ·rw [eDL,<- hg]; rfl
 ·have e:(jO 0 ((yY tk).length:Int).toNat).length=tk.length:=by rw [yV]; simp [jO]
  rw [e]
 ·have a:=aUI tk xs tk.length (Nat.le_refl _)
  have b:=(aXC xs).2
  rw [List.take_length] at a
  rw [wV,wV]; exact sl1 (by omega)
def SpV (tk:TK) (kv:KVs):Prop:=KOk kv/\KIn 10 kv/\wT tk<=990/\∃ T B,TrmOk (AR 21) T/\tkT T=tk/\BoardOk B/\(∀ φ,bs B φ=ds kv φ)/\Runs (stT T) [] [B]
theorem eGP {ns:List Int} (h:ns.length<=100) {room:Nat} (hr:room<=6):SpV (aBQ 1 ns room).tk (aBQ 1 ns room).kv:=by
 obtain ⟨hv,T,hT,e1,e2⟩:=sm1 ns room (by omega)
 obtain ⟨B,okB,bB,rB⟩:=hv.bd
 have hw:=((ps1 ns room).wid (by decide) (by decide)).1
 refine ⟨hv.ko,aNJ hv.kd (by omega),by omega,T,B,hT.mono (eON (by decide)),e1,okB,bB,?_⟩
 rw [e2]
 exact rB []
theorem eCE {tk:TK} {kv:KVs} (h:SpV tk kv) (xs:List Int):(∀ u∈tk,TkQ u)/\wT tk<=990/\aAU (AR 21) [.str (S (aPX tk xs))] (yO (aAS kv))/\Fit 10 (aAS kv):=by
 obtain ⟨k1,k2,hw,T,B,hT,rfl,okB,bB,rB⟩:=h
 have hq:=eGK (aOO 21) hT
 have eB:aAS kv=B:=eBB (aLZ kv) okB fun i k=>by
  rw [aGU,<- aUZ,bB]
  by_cases z:i < 10/\k < 10
  ·rw [if_pos z,eNY k1]
  ·rw [if_neg z,eAK (n:=10) (by omega) k2]
 have hl:=eCU (tkT T) xs
 have hst:=eKJ (eDX 21) hT
 have htl:=aWQ (tkT T)
 refine ⟨hq,hw,⟨aPX (tkT T) xs,T,B,rfl,eCR hq xs,eIG hq xs,by omega,fun u hu=>(hq u hu).1,eJH (by decide) hT,hT,by omega,rB,by rw [eB]⟩,aSQ k2⟩
theorem ar1 {u:List Nat} (h:RunW u) (n:Nat):AR (n+1) [u] [u]:=.inl ⟨u,h,rfl,rfl⟩
abbrev eCA (u:List Nat):Fac:=⟨0,[u],[u],none⟩
theorem aDC {u:List Nat} (h:RunW u) (n:Nat):aEC (AR (n+1)) (eCA u):=⟨Nat.zero_le _,ar1 h n,fun d e=>by cases e⟩
abbrev eCO (n:Nat):Bd:=if (n:Int)=0 then [] else [[(n:Int)]]
theorem aEN {n:Nat} (h:n < 10 ^ 12) (st:List Bd):Runs [jG n] st (st++[eCO n]):=by
 have:=StepR.atom (st:=st) (.inl (aGO h))
 rw [eBG h] at this
 exact .cons this .nil
theorem aXS (st:List Bd):Runs [[120]] st (st++[[[0,1]]]):=.cons (StepR.atom (st:=st) aRO) .nil
theorem eEA (st:List Bd):Runs [[121]] st (st++[[[],[1]]]):=.cons (StepR.atom (st:=st) aVN) .nil
theorem fit_x:Fit 2 [[0,1]]:=vT eQC (vI eJL) (vE 1 (by decide) (by decide))
theorem fit_y:Fit 2 [[],[1]]:=vT eQB (vI eJV) (vE 1 (by decide) (by decide))
theorem aZS (n:Nat):Fit 1 (eCO n):=vT (eOR n) (vI (eDH n)) (vE _ (by decide) (by decide))
theorem eDN {i k a c:Nat} (v w:Int) (h:nk i k≠nk a c):KOk [(nk i k,v),(nk a c,w)]:=⟨fun p hp=>by
 rcases List.mem_cons.mp hp with rfl | hp
 ·exact ⟨i,k,rfl⟩
 ·rw [List.mem_singleton.mp hp]; exact ⟨a,c,rfl⟩,by
 rw [List.map_cons,List.nodup_cons]
 exact ⟨fun z=>h (by simpa using z),by simp⟩⟩
theorem eDO {i k a c n:Nat} (v w:Int) (h1:i < n) (h2:k < n) (h3:a < n) (h4:c < n):KIn n [(nk i k,v),(nk a c,w)]:=fun p hp=>by
 rcases List.mem_cons.mp hp with rfl | hp
 ·exact ⟨i,k,rfl,h1,h2⟩
 ·rw [List.mem_singleton.mp hp]; exact ⟨a,c,rfl,h3,h4⟩
theorem eDP (i k a c:Nat) (v w:Int) (φ:Nat->Nat->Int):ds [(nk i k,v),(nk a c,w)] φ=v * φ i k+w * φ a c:=by
 have:=aGM a c w φ
 show v * φ ((i:Int)).toNat ((k:Int)).toNat+ds [(nk a c,w)] φ=_
 rw [this,Int.toNat_natCast,Int.toNat_natCast]
def eCK (n:Nat):Nat->Trm
 | 0=>((eCA [120],[]),[(true,(eCA (jG n),[]))])
 | k+1=>((⟨0,[40] :: (tkT (eCK n k)++[[41]]),stT (eCK n k),none⟩,[]),[])
theorem eEV {n:Nat} (h:n < 10 ^ 12):∀ k,TrmOk (AR (k+1)) (eCK n k)
 | 0=>⟨⟨aDC aRO 0,fun f hf=>nomatch hf⟩,fun q hq=>by rw [List.mem_singleton.mp hq]; exact ⟨aDC (.inl (aGO h)) 0,fun f hf=>nomatch hf⟩⟩
 | k+1=>⟨⟨⟨Nat.zero_le _,.inr ⟨eCK n k,eEV h k,rfl,rfl⟩,fun d e=>by cases e⟩,fun f hf=>nomatch hf⟩,fun q hq=>nomatch hq⟩
theorem eEU (n:Nat):∀ k,stT (eCK n k)=[[120],jG n,[43]]
 | 0=>rfl
 | k+1=>by
  show ((((stT (eCK n k)++[])++[])++[])++[])=_
  simp only [List.append_nil]
  exact eEU n k
theorem eET (n:Nat):∀ k,tkT (eCK n k)=List.replicate k [40]++[[120],[43],jG n]++List.replicate k [41]
 | 0=>rfl
 | k+1=>by
  show ((([]++(([40] :: (tkT (eCK n k)++[[41]]))++[]))++[])++[])=_
  simp only [List.append_nil,List.nil_append]
  rw [eET n k,List.replicate_succ,List.replicate_succ']
  simp
theorem eGQ {n m:Nat} (h:n < 10 ^ 12) (hm:m<=20):SpV (List.replicate m [40]++[[120],[43],jG n]++List.replicate m [41]) [(nk 1 0,1),(nk 0 0,(n:Int))]:=by
 refine ⟨eDN _ _ (by decide),eDO _ _ (by decide) (by decide) (by decide) (by decide),?_,eCK n m,aDD [[0,1]] (eCO n),(eEV h m).mono (eON (by omega)),eET n m,aAB _ _,fun φ=>?_,?_⟩
 ·have:=aGN (n:=n) (k:=12) (by decide) h
  rw [jZ,jZ,aLH,aLH]
  show m * 4+(1+3+(1+3+((jG n).length+3+0)))+m * 4<=990
  omega
 ·rw [aCK,eJL,eDH,eDP]
 ·rw [eEU]
  exact (aXS []).app ((aEN h _).app (.cons (.add (st:=[]) (fit_x.sm (by decide)) ((aZS n).sm (by decide))) .nil))
def mnF (m n:Nat):Prd:=(⟨m,[jG n],[jG n],none⟩,[eCA [121]])
def mnN (m n:Nat):Int:=(n:Int) * (if m % 2=1 then -1 else 1)
theorem eFD {m n:Nat} (h:n < 10 ^ 12) (hm:m<=20) (k:Nat):aFR (AR (k+1)) (mnF m n):=⟨⟨hm,ar1 (.inl (aGO h)) k,fun d e=>by cases e⟩,fun f hf=>by rw [List.mem_singleton.mp hf]; exact aDC aVN k⟩
theorem aYZ {m n:Nat} (h:n < 10 ^ 12):∃ B,BoardOk B/\(∀ φ,bs B φ=mnN m n * φ 0 1)/\∀ st,Runs (stP (mnF m n)) st (st++[B]):=by
 have key:∃ C,BoardOk C/\(∀ φ,bs C φ=mnN m n * φ 0 0)/\∀ st,Runs ([jG n]++mnS m) st (st++[C]):=by
  unfold mnN mnS
  by_cases hm:m % 2=1
  ·rw [if_pos hm,if_pos hm]
   exact ⟨aDD [] (aRZ (eCO n)),aAB _ _,fun φ=>by rw [aCK,aJU,eDH]; show (0:Int)+_=_; rw [Int.mul_neg,Int.mul_one,Int.neg_mul]; omega,fun st=>(aEN h st).app (.cons (.neg ((aZS n).sm (by decide))) .nil)⟩
  ·rw [if_neg hm,if_neg hm]
   exact ⟨eCO n,eOR n,fun φ=>by rw [eDH,Int.mul_one],fun st=>by rw [List.append_nil]; exact aEN h st⟩
 obtain ⟨C,okC,bC,rC⟩:=key
 have fC:Fit 1 C:=vT okC (vI bC) (vE _ (by decide) (by decide))
 refine ⟨wJ C [[],[1]],aCZ _ _,fun φ=>?_,fun st=>?_⟩
 ·rw [aDX,bC,eJV,Int.one_mul]
 ·show Runs ((([jG n]++[])++mnS m)++((([[121]]++[])++[])++([42] :: []))) _ _
  simp only [List.append_nil]
  refine (rC st).app ((eEA _).app (.cons (.mul (st:=st) (fC.sm (by decide)) (fit_y.sm (by decide)) ?_) .nil))
  intro r hr y hy
  simp at hr
  rcases hr with rfl | rfl
  ·cases hy
  ·rw [List.mem_singleton.mp hy]; decide
theorem eFC (m n:Nat):tkP (mnF m n)=List.replicate m [45]++[jG n,[42],[121]]:=by
 show (List.replicate m [45]++([jG n]++[]))++([42] :: (([]++([[121]]++[]))++[]))=_
 simp
theorem eKP {m n:Nat} (h:n < 10 ^ 12) (hm:m<=20):SpV (List.replicate m [45]++[jG n,[42],[121]]) [(nk 0 1,mnN m n)]:=by
 obtain ⟨B,okB,bB,rB⟩:=aYZ (m:=m) h
 refine ⟨aAM 0 1 _,vE _ (by decide) (by decide),?_,(mnF m n,[]),B,⟨eFD h hm 20,fun q hq=>nomatch hq⟩,by show tkP _++[]=_; rw [List.append_nil,eFC],okB,vI bB,by show Runs (stP _++[]) _ _; rw [List.append_nil]; exact rB []⟩
 have:=aGN (n:=n) (k:=12) (by decide) h
 rw [jZ,aLH]
 show m * 4+((jG n).length+3+(1+3+(1+3+0)))<=990
 omega
theorem eGO {m n:Nat} (h:n < 10 ^ 12) (hm:m<=20):SpV ([[120],[45]]++(List.replicate m [45]++[jG n,[42],[121]])) [(nk 1 0,1),(nk 0 1,0 - mnN m n)]:=by
 obtain ⟨B,okB,bB,rB⟩:=aYZ (m:=m) h
 have fB:Fit 2 B:=vT okB (vI bB) (vE _ (by decide) (by decide))
 refine ⟨eDN _ _ (by decide),eDO _ _ (by decide) (by decide) (by decide) (by decide),?_,((eCA [120],[]),[(false,mnF m n)]),aDD [[0,1]] (aRZ B),⟨⟨aDC aRO 20,fun f hf=>nomatch hf⟩,fun q hq=>by rw [List.mem_singleton.mp hq]; exact eFD h hm 20⟩,?_,aAB _ _,fun φ=>?_,?_⟩
 ·have:=aGN (n:=n) (k:=12) (by decide) h
  rw [jZ,jZ,aLH]
  show (1+3+(1+3+0))+(m * 4+((jG n).length+3+(1+3+(1+3+0))))<=990
  omega
 ·show [[120]]++([45] :: (tkP (mnF m n)++[]))=_
  rw [List.append_nil,eFC]; rfl
 ·rw [aCK,aJU,eJL,bB,eDP,Int.zero_sub,Int.neg_mul]
 ·show Runs ([[120]]++(stP (mnF m n)++([45] :: []))) _ _
  exact (aXS []).app ((rB _).app (.cons (.sub (st:=[]) (fit_x.sm (by decide)) (fB.sm (by decide))) .nil))
theorem eAY {i k:Nat} {B:Bd} (h:∀ φ,bs B φ=1 * φ i k):∀ m φ,bs (aOJ B m) φ=1 * φ (m * i) (m * k)
 | 0,φ=>by show bs [[1]] φ=_; simp [bs,rs]
 | m+1,φ=>by
  show bs (wJ (aOJ B m) B) φ=_
  rw [aDX,eAY h m,h,Nat.succ_mul,Nat.succ_mul]; omega
theorem aXL {c i k m n:Nat} {B:Bd} (hc:RunW [c]) (e:atB [c]=B) (okB:BoardOk B) (hB:∀ φ,bs B φ=1 * φ i k) (hik:(i=1/\k=0)\/(i=0/\k=1)) (hm:m<=9) (h:n < 10 ^ 12):SpV [[c],[94],[48+m],[45],jG n] (qO [(nk (m * i) (m * k),1)] [(nk 0 0,(n:Int))] (-1)):=by
 have kin1:∀ j,j<=9->KIn 10 [(nk (j * i) (j * k),(1:Int))]:=fun j hj=>vE 1 (by rcases hik with ⟨rfl,rfl⟩ | ⟨rfl,rfl⟩ <;> omega) (by rcases hik with ⟨rfl,rfl⟩ | ⟨rfl,rfl⟩ <;> omega)
 have fitj:∀ j,j<=9->Fit 10 (aOJ B j):=fun j hj=>vT (aIO B j) (vI (eAY hB j)) (kin1 j hj)
 have fitB:Fit 2 B:=vT okB (vI hB) (vE 1 (by omega) (by omega))
 have so:=fun φ=>aBI (-1) φ [(nk 0 0,(n:Int))] [(nk (m * i) (m * k),1)] (aAM _ _ _) (aAM 0 0 (n:Int)).keys
 refine ⟨(so (fun _ _=>0)).1,aCE (-1) _ _ (kin1 m hm) (vE _ (by decide) (by decide)),?_,((⟨0,[[c]],[[c]],some m⟩,[]),[(false,(eCA (jG n),[]))]),aDD (aOJ B m) (aRZ (eCO n)),⟨⟨⟨Nat.zero_le _,ar1 hc 20,fun d e=>by cases e; exact hm⟩,fun f hf=>nomatch hf⟩,fun q hq=>by rw [List.mem_singleton.mp hq]; exact ⟨aDC (.inl (aGO h)) 20,fun f hf=>nomatch hf⟩⟩,rfl,aAB _ _,fun φ=>?_,?_⟩
 ·have:=aGN (n:=n) (k:=12) (by decide) h
  show 1+3+(1+3+(1+3+(1+3+((jG n).length+3+0))))<=990
  omega
 ·rw [aCK,aJU,eAY hB,eDH,(so φ).2,aGM,aGM]; omega
 ·show Runs ([[c],[94,48+m]]++([jG n]++([45] :: []))) _ _
  have s1:StepR [c] [] ([]++[B]):=by have:=StepR.atom (st:=[]) hc; rw [e] at this; exact this
  have s2:StepR [94,48+m] ([]++[B]) ([]++[aOJ B m]):=.pow ⟨fun j hj=>(fitj j (by omega)).sm (by decide),fitB.sm (by decide),aQW (M:=1) (vI hB) (Nat.le_refl _) (by decide)⟩ hm
  exact .cons s1 (.cons s2 ((aEN h _).app (.cons (.sub (st:=[]) ((fitj m hm).sm (by decide)) ((aZS n).sm (by decide))) .nil)))
def Sp1 (a b:Nat):Prop:=(a=1/\b=0)\/(a=0/\b=1)\/(a=0/\b=0)
def ltF (a b:Nat):List Fac:=if a=1 then [eCA [120]] else if b=1 then [eCA [121]] else []
def ltR (a b:Nat):TK:=if a=1 then [[42],[120]] else if b=1 then [[42],[121]] else []
def moP (n a b:Nat):Prd:=(eCA (jG n),ltF a b)
theorem eFA {n a b:Nat} (h:n < 10 ^ 12) (k:Nat):aFR (AR (k+1)) (moP n a b):=⟨aDC (.inl (aGO h)) k,fun f hf=>by
 have hf':f∈ltF a b:=hf
 unfold ltF at hf'
 split at hf'
 ·rw [List.mem_singleton.mp hf']; exact aDC aRO k
 ·split at hf'
  ·rw [List.mem_singleton.mp hf']; exact aDC aVN k
  ·cases hf'⟩
theorem eEZ (n a b:Nat):tkP (moP n a b)=[jG n]++ltR a b:=by
 unfold moP ltF ltR
 split
 ·rfl
 ·split <;> rfl
theorem eRG {B:Bd} {i k:Nat} (h:∀ φ,bs B φ=1 * φ i k):∀ r∈B,∀ y∈r,-(2 ^ 63) < y/\y < 2 ^ 63:=aQW (M:=1) (vI h) (Nat.le_refl _) (by decide)
theorem aYY {n a b:Nat} (h:n < 10 ^ 12) (hs:Sp1 a b):∃ B,BoardOk B/\(∀ φ,bs B φ=(n:Int) * φ a b)/\∀ st,Runs (stP (moP n a b)) st (st++[B]):=by
 rcases hs with ⟨rfl,rfl⟩ | ⟨rfl,rfl⟩ | ⟨rfl,rfl⟩
 ·exact ⟨wJ (eCO n) [[0,1]],aCZ _ _,fun φ=>by rw [aDX,eDH,eJL,Int.one_mul],fun st=>(aEN h st).app ((aXS _).app (.cons (.mul (st:=st) ((aZS n).sm (by decide)) (fit_x.sm (by decide)) (eRG eJL)) .nil))⟩
 ·exact ⟨wJ (eCO n) [[],[1]],aCZ _ _,fun φ=>by rw [aDX,eDH,eJV,Int.one_mul],fun st=>(aEN h st).app ((eEA _).app (.cons (.mul (st:=st) ((aZS n).sm (by decide)) (fit_y.sm (by decide)) (eRG eJV)) .nil))⟩
 ·exact ⟨eCO n,eOR n,fun φ=>eDH n φ,fun st=>aEN h st⟩
def eHU (n0 a0 b0 n1 a1 b1:Nat) (s:Bool):KVs:=qO (qO [] [(nk a0 b0,(n0:Int))] 1) [(nk a1 b1,(n1:Int))] (if s then 1 else -1)
theorem aLK {a b:Nat} (h:Sp1 a b):a < 2/\b < 2:=by unfold Sp1 at h; omega
theorem aYS {n0 a0 b0 n1 a1 b1:Nat} (s:Bool) (h0:Sp1 a0 b0) (h1:Sp1 a1 b1) (l0:n0<=9) (l1:n1<=9):KOk (eHU n0 a0 b0 n1 a1 b1 s)/\KIn 2 (eHU n0 a0 b0 n1 a1 b1 s)/\nrm (eHU n0 a0 b0 n1 a1 b1 s)<=18/\∀ φ,ds (eHU n0 a0 b0 n1 a1 b1 s) φ=(n0:Int) * φ a0 b0+(if s then 1 else -1) * ((n1:Int) * φ a1 b1):=by
 have o0:=fun φ=>aBI 1 φ [(nk a0 b0,(n0:Int))] [] .nil (aAM a0 b0 (n0:Int)).keys
 have k0:=(o0 fun _ _=>0).1
 have o1:=fun φ=>aBI (if s then 1 else -1) φ [(nk a1 b1,(n1:Int))] (qO [] [(nk a0 b0,(n0:Int))] 1) k0 (aAM a1 b1 (n1:Int)).keys
 have q0:=aLK h0
 have q1:=aLK h1
 refine ⟨(o1 fun _ _=>0).1,aCE _ _ _ (aCE 1 _ [] (fun z hz=>nomatch hz) (vE _ q0.1 q0.2)) (vE _ q1.1 q1.2),?_,fun φ=>?_⟩
 ·have e0:=aFI 1 rfl [(nk a0 b0,(n0:Int))] [] .nil (aAM a0 b0 (n0:Int)).keys
  have e1:=aFI (if s then 1 else -1) (by cases s <;> rfl) [(nk a1 b1,(n1:Int))] _ k0 (aAM a1 b1 (n1:Int)).keys
  have e2:nrm [(nk a0 b0,(n0:Int))]=n0:=by show (n0:Int).natAbs+0=n0; omega
  have e3:nrm [(nk a1 b1,(n1:Int))]=n1:=by show (n1:Int).natAbs+0=n1; omega
  have e4:nrm ([]:KVs)=0:=rfl
  rw [e2,e4] at e0
  rw [e3] at e1
  unfold eHU
  omega
 ·show ds (qO (qO [] [(nk a0 b0,(n0:Int))] 1) [(nk a1 b1,(n1:Int))] (if s then 1 else -1)) φ=_
  rw [(o1 φ).2,(o0 φ).2,aGM,aGM]
  show (0:Int)+1 * _+_=_
  omega
def eLA (n0 a0 b0 n1 a1 b1:Nat) (s:Bool) (p:Nat):TK:=[40] :: ((([jG n0]++ltR a0 b0)++([sgW s]++([jG n1]++ltR a1 b1)))++[[41]])++[[94],[48+p]]
theorem eKO {n0 a0 b0 n1 a1 b1 p:Nat} {s:Bool} (h0:Sp1 a0 b0) (h1:Sp1 a1 b1) (l0:n0<=9) (l1:n1<=9) (hp:p<=9):SpV (eLA n0 a0 b0 n1 a1 b1 s p) (aDZ (eHU n0 a0 b0 n1 a1 b1 s) p):=by
 obtain ⟨k1,k2,k3,k4⟩:=aYS s h0 h1 l0 l1
 obtain ⟨B,okB,bB,rB⟩:=aYY (n:=n0) (by omega) h0
 obtain ⟨C,okC,bC,rC⟩:=aYY (n:=n1) (by omega) h1
 have q0:=aLK h0
 have q1:=aLK h1
 have fB:Fit 2 B:=vT okB (vI bB) (vE _ q0.1 q0.2)
 have fC:Fit 2 C:=vT okC (vI bC) (vE _ q1.1 q1.2)
 have hE:∃ E,BoardOk E/\(∀ φ,bs E φ=ds (eHU n0 a0 b0 n1 a1 b1 s) φ)/\∀ st,Runs (stT (moP n0 a0 b0,[(s,moP n1 a1 b1)])) st (st++[E]):=by
  cases s
  ·exact ⟨aDD B (aRZ C),aAB _ _,fun φ=>by rw [aCK,aJU,bB,bC,k4]; simp,fun st=>(rB st).app ((rC _).app (.cons (.sub (st:=st) (fB.sm (by decide)) (fC.sm (by decide))) .nil))⟩
  ·exact ⟨aDD B C,aAB _ _,fun φ=>by rw [aCK,bB,bC,k4]; simp,fun st=>(rB st).app ((rC _).app (.cons (.add (st:=st) (fB.sm (by decide)) (fC.sm (by decide))) .nil))⟩
 obtain ⟨E,okE,bE,rE⟩:=hE
 have hT1:TrmOk (AR 20) (moP n0 a0 b0,[(s,moP n1 a1 b1)]):=⟨eFA (by omega) 19,fun q hq=>by rw [List.mem_singleton.mp hq]; exact eFA (by omega) 19⟩
 have fitj:∀ j,j<=9->Fit 10 (aOJ E j):=fun j hj=>vT (aIO E j) (aPE k1 bE j) (aNJ (aIN (m:=1) k2 j) (by omega))
 refine ⟨aGL k1 p,aNJ (aIN (m:=1) k2 p) (by omega),?_,((⟨0,[40] :: (tkT (moP n0 a0 b0,[(s,moP n1 a1 b1)])++[[41]]),stT (moP n0 a0 b0,[(s,moP n1 a1 b1)]),some p⟩,[]),[]),aOJ E p,⟨⟨⟨Nat.zero_le _,.inr ⟨_,hT1,rfl,rfl⟩,fun d e=>by cases e; exact hp⟩,fun f hf=>nomatch hf⟩,fun q hq=>nomatch hq⟩,?_,aIO E p,aPE k1 bE p,?_⟩
 ·have c0:=aGN (n:=n0) (k:=12) (by decide) (by omega)
  have c1:=aGN (n:=n1) (k:=12) (by decide) (by omega)
  have lr:∀ a b,wT (ltR a b)<=8:=fun a b=>by unfold ltR; split; exact Nat.le_refl _; split; exact Nat.le_refl _; exact Nat.zero_le _
  have x0:=lr a0 b0
  have x1:=lr a1 b1
  have xs:wT [sgW s]=4:=by cases s <;> rfl
  unfold eLA
  rw [jZ,aCX,jZ,jZ,jZ,jZ,jZ,xs]
  show 1+3+(((jG n0).length+3+0+_)+(4+((jG n1).length+3+0+_))+(1+3+0))+(1+3+(1+3+0))<=990
  omega
 ·show (([]++(([40] :: ((tkP (moP n0 a0 b0)++(sgW s :: (tkP (moP n1 a1 b1)++[])))++[[41]]))++[[94],[48+p]]))++[])++[]=_
  rw [eEZ,eEZ]
  unfold eLA
  simp
 ·show Runs (((((stT (moP n0 a0 b0,[(s,moP n1 a1 b1)])++[[94,48+p]]))++[])++[])++[]) _ _
  simp only [List.append_nil]
  exact (rE []).app (.cons (.pow (st:=[]) ⟨fun j hj=>(fitj j (by omega)).sm (by decide),(vT okE bE k2).sm (by decide),aQW bE k3 (by decide)⟩ hp) .nil)
def spA (xs:List Int):List (Nat × Nat):=([[(1,0),(0,1)],[(1,0),(0,0)],[(0,1),(0,0)],[(0,0),(0,0)]]:List (List (Nat × Nat))).getD (xs.getD 5 0 % 4).toNat []
def aa (xs:List Int) (j:Nat):Nat:=((spA xs).getD j (0,0)).1
def bb (xs:List Int) (j:Nat):Nat:=((spA xs).getD j (0,0)).2
def nn (xs:List Int) (j:Nat):Nat:=(xs.getD (2+j) 0 % 10).toNat
def ss (xs:List Int):Bool:=decide (xs.getD 4 0 % 2=0)
def sgJ (xs:List Int) (j:Nat):Int:=if j=0 then 1 else if ss xs then 1 else -1
def eEL (xs:List Int) (j:Nat):TK:=if j=0 then [] else [sgW (ss xs)]
def tkR (xs:List Int):Nat->TK
 | 0=>[[40]]
 | j+1=>tkR xs j++eEL xs j++[jG (nn xs j)]++ltR (aa xs j) (bb xs j)
def aWP (xs:List Int):Nat->KVs
 | 0=>[]
 | j+1=>qO (aWP xs j) [(nk (aa xs j) (bb xs j),(nn xs j:Int))] (sgJ xs j)
def ppR (xs:List Int):Nat:=(xs.getD 1 0 % 10).toNat
def rsO (xs:List Int):TK:=tkR xs 2++[[41],[94],[48+ppR xs]]
def rsK (xs:List Int):KVs:=aDZ (aWP xs 2) (ppR xs)
theorem eKQ (xs:List Int):∃ a0 b0 a1 b1,spA xs=[(a0,b0),(a1,b1)]/\Sp1 a0 b0/\Sp1 a1 b1:=by
 unfold spA
 have h:(xs.getD 5 0 % 4).toNat < 4:=by omega
 generalize (xs.getD 5 0 % 4).toNat=n at h
 match n,h with
 | 0,_=>exact ⟨1,0,0,1,rfl,.inl ⟨rfl,rfl⟩,.inr (.inl ⟨rfl,rfl⟩)⟩
 | 1,_=>exact ⟨1,0,0,0,rfl,.inl ⟨rfl,rfl⟩,.inr (.inr ⟨rfl,rfl⟩)⟩
 | 2,_=>exact ⟨0,1,0,0,rfl,.inr (.inl ⟨rfl,rfl⟩),.inr (.inr ⟨rfl,rfl⟩)⟩
 | 3,_=>exact ⟨0,0,0,0,rfl,.inr (.inr ⟨rfl,rfl⟩),.inr (.inr ⟨rfl,rfl⟩)⟩
 | n+4,h=>omega
def eEN (p:Nat × Nat):D:=.tup [.int p.1,.int p.2]
theorem eKR (xs:List Int):atI ([.lst [.tup [.int 1,.int 0],.tup [.int 0,.int 1]],.lst [.tup [.int 1,.int 0],.tup [.int 0,.int 0]],.lst [.tup [.int 0,.int 1],.tup [.int 0,.int 0]],.lst [.tup [.int 0,.int 0],.tup [.int 0,.int 0]]]:List D) (xs.getD 5 0 % 4)=some (.lst ((spA xs).map eEN)):=by
 unfold spA
 have h0:0<=xs.getD 5 0 % 4:=by omega
 have h1:xs.getD 5 0 % 4 < 4:=by omega
 generalize xs.getD 5 0 % 4=i at h0 h1
 obtain ⟨n,rfl⟩:=Int.eq_ofNat_of_zero_le h0
 have:n < 4:=by omega
 rw [Int.toNat_natCast]
 match n,this with
 | 0,_=>rfl
 | 1,_=>rfl
 | 2,_=>rfl
 | 3,_=>rfl
 | n+4,h=>omega
theorem eJS (xs:List Int) {j:Nat} (hj:j < 2):Sp1 (aa xs j) (bb xs j)/\atI ((spA xs).map eEN) (j:Int)=some (.tup [.int (aa xs j),.int (bb xs j)]):=by
 obtain ⟨a0,b0,a1,b1,e,h0,h1⟩:=eKQ xs
 unfold aa bb
 rw [e]
 match j,hj with
 | 0,_=>exact ⟨h0,rfl⟩
 | 1,_=>exact ⟨h1,rfl⟩
 | j+2,h=>omega
theorem aYW (xs:List Int) (j:Nat):nn xs j<=9/\xs.getD (2+j) 0 % 10=(nn xs j:Int):=by unfold nn; omega
theorem eKT (xs:List Int) (j:Nat):sgJ xs j=1\/sgJ xs j = -1:=by unfold sgJ; split; exact .inl rfl; split; exact .inl rfl; exact .inr rfl
theorem aRW (xs:List Int):∀ j,j<=2->KOk (aWP xs j)/\KIn 2 (aWP xs j)
 | 0,_=>⟨.nil,fun z hz=>nomatch hz⟩
 | j+1,h=>by
  obtain ⟨a,b⟩:=aRW xs j (by omega)
  have q:=aLK (eJS xs (j:=j) (by omega)).1
  exact ⟨(aBI _ (fun _ _=>0) _ _ a (aAM _ _ _).keys).1,aCE _ _ _ b (vE _ q.1 q.2)⟩
theorem rsV (xs:List Int):SpV (rsO xs) (rsK xs):=by
 have h0:=(eJS xs (j:=0) (by decide)).1
 have h1:=(eJS xs (j:=1) (by decide)).1
 have:=eKO (s:=ss xs) (p:=ppR xs) h0 h1 (aYW xs 0).1 (aYW xs 1).1 (by unfold ppR; omega)
 have e1:rsO xs=eLA (nn xs 0) (aa xs 0) (bb xs 0) (nn xs 1) (aa xs 1) (bb xs 1) (ss xs) (ppR xs):=by
  show (([[40]]++[]++[jG (nn xs 0)]++ltR (aa xs 0) (bb xs 0))++[sgW (ss xs)]++[jG (nn xs 1)]++ltR (aa xs 1) (bb xs 1))++[[41],[94],[48+ppR xs]]=_
  unfold eLA
  simp
 rw [e1]
 exact this
theorem eCL (xs:List Int):nrm (aWP xs 2)<=18:=(aYS (ss xs) (eJS xs (j:=0) (by decide)).1 (eJS xs (j:=1) (by decide)).1 (aYW xs 0).1 (aYW xs 1).1).2.2.1
theorem eML {a b:Nat} (h:Sp1 a b):atI ([.lst [],.lst [.str "*",.str "x"],.lst [.str "*",.str "y"]]:List D) ((a:Int)+2 * (b:Int))=some (.lst (yY (ltR a b))):=by
 rw [show ("*" : Str)=S [42] by decide +kernel,show ("x" : Str)=S [120] by decide +kernel,show ("y" : Str)=S [121] by decide +kernel]
 rcases h with ⟨rfl,rfl⟩ | ⟨rfl,rfl⟩ | ⟨rfl,rfl⟩ <;> rfl
theorem eLL (xs:List Int) {j:Nat} (hj:j < 2):atI ([.lst [.str "+"],.lst [.str "-"]]:List D) (xs.getD 4 0 % 2)=some (.lst (yY [sgW (ss xs)]))/\atI ([.lst [],.lst (yY [sgW (ss xs)])]:List D) (j:Int)=some (.lst (yY (eEL xs j)))/\atI (([1,1 - 2 * (xs.getD 4 0 % 2)]:List Int).map D.int) (j:Int)=some (.int (sgJ xs j)):=by
 have e2:(if ss xs then (1:Int) else -1)=1 - 2 * (xs.getD 4 0 % 2):=by
  unfold ss
  by_cases h:xs.getD 4 0 % 2=0
  ·rw [h]; rfl
  ·rw [show xs.getD 4 0 % 2=1 by omega]; rfl
 refine ⟨?_,?_,?_⟩
 ·unfold ss
  rw [show ("+" : Str)=S [43] by decide +kernel,show ("-" : Str)=S [45] by decide +kernel]
  by_cases h:xs.getD 4 0 % 2=0
  ·rw [h]; rfl
  ·rw [show xs.getD 4 0 % 2=1 by omega]; rfl
 ·match j,hj with
  | 0,_=>rfl
  | 1,_=>rfl
  | j+2,h=>omega
 ·match j,hj with
  | 0,_=>rfl
  | 1,_=>show _=some (D.int (if ss xs then 1 else -1)); rw [e2]; rfl
  | j+2,h=>omega
theorem aZE (a b:Nat):(ltR a b).length<=2:=by unfold ltR; split; exact Nat.le_refl _; split; exact Nat.le_refl _; exact Nat.zero_le _
theorem aRH (xs:List Int):∀ j,(tkR xs j).length<=1+4 * j
 | 0=>Nat.le_refl _
 | j+1=>by
  have a:=aRH xs j
  have b:=aZE (aa xs j) (bb xs j)
  have c:(eEL xs j).length<=1:=by unfold eEL; split <;> simp
  unfold tkR
  simp only [List.length_append,List.length_singleton]
  omega
def aAG (ds:List D) (d:D):Prop:=∃ xs:List Int,ds=[jA xs]/\xs.length=6/\d = .tup [.lst (yY (rsO xs)),.dic (rsK xs)]
theorem aJF:∀ ds d,aAG ds d->ds.length=1:=by rintro _ _ ⟨_,rfl,_⟩; rfl
theorem aOD (h:DefX P w K mg base k N__law_raised (yC zR) X) (m_range:mg "range" = none) (m_str:mg "str" = none) (c1:EV.CalleeD X "_law_add" wC) (c2:EV.CalleeD X "_law_product" jE) :
  ∀ ds d,aAG ds d->EvSs X (ds.map Sl.val++List.replicate (N__law_raised.length - ds.length) Sl.un) (yF zR) (.rt d):=by
 rintro ds d ⟨xs,rfl,hl,rfl⟩
 have t:=h.at'
 haveI:=h.fnT
 have b1:Blt X (yC zR) "range" (.type "range"):=yP (by rw [h.mg']; exact m_range)
 have b2:Blt X (yC zR) "str" (.type "str"):=yP (by rw [h.mg']; exact m_str)
 have hv:∀ n:Nat,n < 6->atI (xs.map D.int) (n:Int)=some (.int (xs.getD n 0)):=fun n hn=>aRA (by omega)
 have pr:∀ {ρ:Rho} {i j:Int} {p1 p2 p3:Pos} {j1 j2 j3:Nat},EvE X ρ (.Tuple [.Constant (.int i) j1 p1,.Constant (.int j) j2 p2] j3 p3) (.tup [.int i,.int j]):=yM (yB yD (yB yD yE))
 show EvSs X [.val (jA xs),.un,.un,.un,.un,.un,.un,.un,.un] _ _
 refine yG (zK (d:=.lst ((spA xs).map eEN)) t 1 (zB (EvN.toQ (yQ (yB (EvN.toE (yQ (yB pr (yB pr yE)))) (yB (EvN.toE (yQ (yB pr (yB pr yE)))) (yB (EvN.toE (yQ (yB pr (yB pr yE)))) (yB (EvN.toE (yQ (yB pr (yB pr yE)))) yE)))))) (yR (zB (EvE.ql (yA t 0 rfl)) yD (hv 5 (by omega))) yD (by decide)) (eKR xs))) ?_
 refine yG (zK (d:=.lst (yY (tkR xs 0))) t 2 (EvE.eq (EvN.toE (yQ (yB ev_str yE))) (by rw [eJR]; rfl))) (yG (zK (d:=.dic (aWP xs 0)) t 3 (EvDn.toE eAI)) ?_)
 refine yG (ρ':=[.val (jA xs),.val (.lst ((spA xs).map eEN)),.val (.lst (yY (tkR xs 2))),.val (.dic (aWP xs 2)),.un,.un,.un,.un,.un]) (aCW t (jT t b1 yD (by decide) (by decide)) (FRun.uptoE (fun j=>[.val (jA xs),.val (.lst ((spA xs).map eEN)),.val (.lst (yY (tkR xs j))),.val (.dic (aWP xs j)),.un,.un,.un,.un,.un]) (fun j d e=>?_) rfl rfl)) ?_
 ·obtain ⟨hj,rfl⟩:=aAL e
  have hj2:j < 2:=hj
  obtain ⟨hs,hat⟩:=eJS xs hj2
  obtain ⟨n9,en⟩:=aYW xs j
  obtain ⟨p1,p2,p3⟩:=eLL xs hj2
  obtain ⟨k1,k2⟩:=aRW xs j (by omega)
  have q:=aLK hs
  have hx:atI (xs.map D.int) (2+(j:Int))=some (.int (xs.getD (2+j) 0)):=by rw [show (2:Int)+(j:Int)=((2+j:Nat):Int) by omega]; exact hv (2+j) (by omega)
  have tl:=aRH xs j
  have l1:(eEL xs j).length<=1:=by unfold eEL; split <;> simp
  have l2:=aZE (aa xs j) (bb xs j)
  have eT:tkR xs (j+1)=tkR xs j++eEL xs j++[jG (nn xs j)]++ltR (aa xs j) (bb xs j):=rfl
  have eO:aWP xs (j+1)=qO (aWP xs j) [(nk (aa xs j) (bb xs j),(nn xs j:Int))] (sgJ xs j):=rfl
  have lt:=eML hs
  have sg:=eKT xs j
  rw [eT,eO]
  generalize tkR xs j=T at tl
  generalize aWP xs j=O at k1 k2
  generalize eEL xs j=Q at p2 l1
  generalize nn xs j=n at n9 en
  generalize sgJ xs j=sj at p3 sg
  generalize aa xs j=a at hs hat q l2 lt
  generalize bb xs j=b at hs hat q l2 lt
  refine ⟨_,zA t 4,EvSs.weak (ρ1:=[.val (jA xs),.val (.lst ((spA xs).map eEN)),.val (.lst (yY (T++Q++[jG n]++ltR a b))),.val (.dic (qO O [(nk a b,(n:Int))] sj)),.val (.int j),.val (.int n),.val (.int sj),.un,.un]) (yG (zK (d:=.int n) t 5 (EvE.eq (yR (zB (EvE.ql (yA t 0 rfl)) (jI yD (yA t 4 rfl)) hx) yD (by decide)) (by rw [en]))) (yG (zK (d:=.int sj) t 6 (zB (EvN.toQ (yQ (yB yD (yB (aCV yD (aBE yD (yR (zB (EvE.ql (yA t 0 rfl)) yD (hv 4 (by omega))) yD (by decide)) (aCI (by decide) (by decide)))) yE)))) (yA t 4 rfl) p3)) (yG (zK (d:=.lst (yY (T++Q++[jG n]))) t 2 (EvE.eq (EvN.toE (wU (EvN.toE (wU (yA t 2 rfl) (zB (EvN.toQ (yQ (yB (EvN.toE (yQ yE)) (yB (zB (EvN.toQ (yQ (yB (EvN.toE (yQ (yB ev_str yE))) (yB (EvN.toE (yQ (yB ev_str yE))) yE)))) (yR (zB (EvE.ql (yA t 0 rfl)) yD (hv 4 (by omega))) yD (by decide)) p1) yE)))) (yA t 4 rfl) p2) ?_)) (EvN.toE (yQ (yB (aDI t b2 (yA t 5 rfl) (eOS n9)) yE))) ?_)) ?_)) (yG (zK (d:=.lst (yY (T++Q++[jG n]++ltR a b))) t 2 (EvE.eq (EvN.toE (wU (yA t 2 rfl) (zB (EvN.toQ (yQ (yB (EvN.toE (yQ yE)) (yB (EvN.toE (yQ (yB ev_str (yB ev_str yE)))) (yB (EvN.toE (yQ (yB ev_str (yB ev_str yE)))) yE))))) (jI (eFP (i:=0) 0 (zB (EvE.ql (yA t 1 rfl)) (yA t 4 rfl) hat) yD rfl rfl) (aBE yD (eFP (i:=1) 1 (zB (EvE.ql (yA t 1 rfl)) (yA t 4 rfl) hat) yD rfl rfl) (aCI (by decide) (by decide)))) lt) ?_)) (by rw [<- jQ]))) (yJ (zK (d:=.dic (qO O [(nk a b,(n:Int))] sj)) t 3 (EvDn.toE (aEW t c1 (yB (yA t 3 rfl) (yB (EvDn.toE (EvDn.eq (aAP t (EvKs.cons (k:=nk a b) (zB (EvE.ql (yA t 1 rfl)) (yA t 4 rfl) hat) (yA t 5 rfl) .nil)) rfl)) (yB (yA t 6 rfl) yE))) ⟨O,[(nk a b,(n:Int))],sj,rfl,k1,fun z hz=>let ⟨i,k,e,a,b⟩:=k2 z hz; ⟨i,k,e,by omega,by omega⟩,aAM _ _ _,vE _ (by omega) (by omega),sg,rfl⟩)))))))) (.keep (.keep (.keep (.keep (.forget (.forget (.forget (.keep (.keep .nil)))))))))⟩
  ·rw [yV,yV]; exact tsz (by omega)
  ·rw [List.length_append,yV,yV]; exact tsz (by simp; omega)
  ·rw [aPQ,<- jQ]
   show D.lst (yY (T++Q)++yY [jG n])=_
   rw [<- jQ]
  ·rw [yV,yV]; exact tsz (by simp; omega)
 obtain ⟨k1,k2⟩:=aRW xs 2 (by decide)
 have k3:=eCL xs
 have hp:ppR xs<=9:=by unfold ppR; omega
 have ep:xs.getD 1 0 % 10=(ppR xs:Int):=by unfold ppR; omega
 have tl:=aRH xs 2
 unfold rsO rsK
 generalize tkR xs 2=T at tl
 generalize aWP xs 2=O at k1 k2 k3
 generalize ppR xs=pp at hp ep
 have x1:∀ {ρ:Rho} {p1 p2 p3 p4 p5:Pos} {j1 j2:Nat},ρ[0]? = some (.val (jA xs))->EvE X ρ (.BinOp (.Subscript (.Name "_law_xs" p1) (.Constant (.int 1) j1 p2) p3) .Mod (.Constant (.int 10) j2 p4) p5) (.int pp):=fun r0=>EvE.eq (yR (zB (EvE.ql (yA t 0 r0)) yD (hv 1 (by omega))) yD (by decide)) (by rw [ep])
 refine yG (zK (d:=.dic (aDZ O 0)) t 7 (EvDn.toE (EvDn.eq (aAP t (EvKs.cons (k:=nk 0 0) (yM (yB yD (yB yD yE))) yD .nil)) rfl))) ?_
 refine yG (ρ':=[.val (jA xs),.val (.lst ((spA xs).map eEN)),.val (.lst (yY T)),.val (.dic O),.un,.un,.un,.val (.dic (aDZ O pp)),.un]) (aCW t (jT t b1 (x1 rfl) (by omega) (by omega)) (FRun.uptoE (fun j=>[.val (jA xs),.val (.lst ((spA xs).map eEN)),.val (.lst (yY T)),.val (.dic O),.un,.un,.un,.val (.dic (aDZ O j)),.un]) (fun j d e=>?_) rfl ?_)) (yJ (zO (EvE.eq (yM (yB (EvN.toE (wU (yA t 2 rfl) (EvN.toE (yQ (yB ev_str (yB ev_str (yB (aDI t b2 (x1 rfl) (eOS hp)) yE))))) ?_)) (yB (yA t 7 rfl) yE))) ?_)))
 ·obtain ⟨hj,rfl⟩:=aAL e
  rw [Int.toNat_natCast] at hj
  exact ⟨_,zA t 8,EvSs.weak (yJ (zK (d:=.dic (aDZ O (j+1))) t 7 (EvDn.toE (aEW t c2 (yB (yA t 7 rfl) (yB (yA t 3 rfl) yE)) ⟨aDZ O j,O,rfl,aGL k1 j,k1,eOT (aGL k1 j) (aNJ (aIN (m:=1) k2 j) (by omega)),eOT k1 (aNJ (m:=1) k2 (by decide)),aYU (Nat.le_trans k3 (by decide)),rfl⟩)))) (.keep (.keep (.keep (.keep (.keep (.keep (.keep (.keep (.forget .nil)))))))))⟩
 ·have e:(jO 0 (pp:Int).toNat).length=pp:=by simp [jO]
  rw [e]
 ·rw [yV]; exact tsz (by simp; omega)
 ·rw [eQD hp,eBR,show ("^" : Str)=S [94] by decide +kernel,jQ]; rfl
theorem eAP {xs:List Int} {n a b:Nat} (h:xs.length=n) (ha:a<=b) (hb:b<=n):(aOK xs (some (a:Int)) (some (b:Int))).length=b - a:=by
 unfold aOK
 have e1:HT.sIx xs.length 0 (some (a:Int))=a:=by simp only [HT.sIx]; split <;> omega
 have e2:HT.sIx xs.length xs.length (some (b:Int))=b:=by simp only [HT.sIx]; split <;> omega
 rw [List.length_take,List.length_drop,e1,e2,h]; omega
def aMZ (xs:List Int):Nat:=(xs.getD 1 0 % 21).toNat
def mdS (xs:List Int):Int:=([10,1000000,100000000000,1000000000000]:List Int).getD (xs.getD 4 0 % 4).toNat 0
def szS (xs:List Int):Nat:=((xs.getD 2 0 * 1000000+xs.getD 3 0 % 1000000) % mdS xs).toNat
def spO (xs:List Int):TK × KVs:=
 if xs.getD 0 0 % 4=3 then (rsO xs,rsK xs)
 else if xs.getD 0 0 / 4 % 3=0 then (List.replicate (aMZ xs) [40]++[[120],[43],jG (szS xs)]++List.replicate (aMZ xs) [41],[(nk 1 0,1),(nk 0 0,(szS xs:Int))])
 else if xs.getD 0 0 / 4 % 3=1 then (if xs.getD 5 0 % 2=1 then ([[120],[45]]++(List.replicate (aMZ xs) [45]++[jG (szS xs),[42],[121]]),[(nk 1 0,1),(nk 0 1,0 - mnN (aMZ xs) (szS xs))]) else (List.replicate (aMZ xs) [45]++[jG (szS xs),[42],[121]],[(nk 0 1,mnN (aMZ xs) (szS xs))]))
 else (if aMZ xs / 10 % 2=0 then ([[120],[94],[48+aMZ xs % 10],[45],jG (szS xs)],qO [(nk (aMZ xs % 10) 0,1)] [(nk 0 0,(szS xs:Int))] (-1)) else ([[121],[94],[48+aMZ xs % 10],[45],jG (szS xs)],qO [(nk 0 (aMZ xs % 10),1)] [(nk 0 0,(szS xs:Int))] (-1)))
theorem eFE (xs:List Int):0 < mdS xs/\mdS xs<=1000000000000:=by
 unfold mdS
 have h:(xs.getD 4 0 % 4).toNat < 4:=by omega
 generalize (xs.getD 4 0 % 4).toNat=n at h
 match n,h with
 | 0,_=>decide
 | 1,_=>decide
 | 2,_=>decide
 | 3,_=>decide
 | n+4,h=>omega
theorem eKI (xs:List Int):szS xs < 10 ^ 12/\(xs.getD 2 0 * 1000000+xs.getD 3 0 % 1000000) % mdS xs=(szS xs:Int):=by
 obtain ⟨h1,h2⟩:=eFE xs
 have a:=Int.emod_lt_of_pos (xs.getD 2 0 * 1000000+xs.getD 3 0 % 1000000) h1
 have b:=Int.emod_nonneg (xs.getD 2 0 * 1000000+xs.getD 3 0 % 1000000) (show mdS xs≠0 by omega)
 unfold szS
 omega
theorem eFB (xs:List Int):aMZ xs<=20/\xs.getD 1 0 % 21=(aMZ xs:Int):=by unfold aMZ; omega
theorem ePO (xs:List Int):SpV (spO xs).1 (spO xs).2:=by
 have h1:=(eKI xs).1
 have h2:=(eFB xs).1
 unfold spO
 split
 ·exact rsV xs
 ·split
  ·exact eGQ h1 h2
  ·split
   ·split
    ·exact eGO h1 h2
    ·exact eKP h1 h2
   ·split
    ·have:=aXL (m:=aMZ xs % 10) aRO rfl eQC eJL (.inl ⟨rfl,rfl⟩) (by omega) h1
     rw [Nat.mul_one,Nat.mul_zero] at this; exact this
    ·have:=aXL (m:=aMZ xs % 10) aVN rfl eQB eJV (.inr ⟨rfl,rfl⟩) (by omega) h1
     rw [Nat.mul_one,Nat.mul_zero] at this; exact this
def wF (ds:List D) (d:D):Prop:=∃ xs:List Int,ds=[jA xs]/\xs.length=6/\d = .tup [.lst (yY (spO xs).1),.dic (spO xs).2]
theorem aHC:∀ ds d,wF ds d->ds.length=1:=by rintro _ _ ⟨_,rfl,_⟩; rfl
theorem aIK (z:Str) (c:List Nat) (e:z=S c) (m:Nat):(List.replicate m [D.str z]).flatten=yY (List.replicate m c):=by
 rw [e]
 induction m with
 | zero=>rfl
 | succ m ih=>rw [List.replicate_succ,List.flatten_cons,ih,List.replicate_succ]; rfl
theorem aLD (h:DefX P w K mg base k N__law_special (yC zH) X) (m_str:mg "str" = none) (c1:EV.Callee X "_law_raised" aAG) (c2:EV.CalleeD X "_law_add" wC) :
  ∀ ds d,wF ds d->EvSs X (ds.map Sl.val++List.replicate (N__law_special.length - ds.length) Sl.un) (yF zH) (.rt d):=by
 rintro ds d ⟨xs,rfl,hl,rfl⟩
 have t:=h.at'
 haveI:=h.fnT
 have b1:Blt X (yC zH) "str" (.type "str"):=yP (by rw [h.mg']; exact m_str)
 have hv:∀ n:Nat,n < 6->atI (xs.map D.int) (n:Int)=some (.int (xs.getD n 0)):=fun n hn=>aRA (by omega)
 obtain ⟨n12,en⟩:=eKI xs
 obtain ⟨m20,em⟩:=eFB xs
 obtain ⟨md1,md2⟩:=eFE xs
 show EvSs X [.val (jA xs),.un,.un,.un,.un,.un,.un] _ _
 unfold spO
 by_cases h0:xs.getD 0 0 % 4=3
 ·rw [if_pos h0]
  exact aBX (aBJ (EvT.eq (vS (yR (zB (EvE.ql (yA t 0 rfl)) yD (hv 0 (by omega))) yD (by decide)) yD) (decide_eq_true h0)) (yJ (zO (yU t c1 (yB (yA t 0 rfl) yE) ⟨xs,rfl,hl,rfl⟩))))
 rw [if_neg h0]
 refine yG (wM (EvT.eq (vS (yR (zB (EvE.ql (yA t 0 rfl)) yD (hv 0 (by omega))) yD (by decide)) yD) (decide_eq_false h0)) qQ) ?_
 refine yG (zK (d:=.int (aMZ xs)) t 1 (EvE.eq (yR (zB (EvE.ql (yA t 0 rfl)) yD (hv 1 (by omega))) yD (by decide)) (by rw [em]))) ?_
 refine yG (zK t 2 (jI (aBE (zB (EvE.ql (yA t 0 rfl)) yD (hv 2 (by omega))) (aJM yD yD ⟨by decide,by decide,by decide⟩) (wP (by decide) (by decide))) (yR (zB (EvE.ql (yA t 0 rfl)) yD (hv 3 (by omega))) (aJM yD yD ⟨by decide,by decide,by decide⟩) (by decide)))) ?_
 refine yG (zK (d:=.int (szS xs)) t 2 (EvE.eq (yR (j:=mdS xs) (yA t 2 rfl) (zB (EvN.toQ (yQ (yB yD (yB (aJM yD yD ⟨by decide,by decide,by decide⟩) (yB (aJM yD yD ⟨by decide,by decide,by decide⟩) (yB (aJM yD yD ⟨by decide,by decide,by decide⟩) yE)))))) (yR (zB (EvE.ql (yA t 0 rfl)) yD (hv 4 (by omega))) yD (by decide)) (aJZ (xs:=[10,1000000,100000000000,1000000000000]) (by omega) (by show _ < 4; omega))) md1) (by rw [<- en]; rfl))) ?_
 show EvSs X [.val (jA xs),.val (.int (aMZ xs)),.val (.int (szS xs)),.un,.un,.un,.un] _ _
 have x43:∀ {ρ:Rho} {p1 p2 p3 p4 p5 p6 p7:Pos} {j1 j2 j3:Nat},ρ[0]? = some (.val (jA xs))->EvE X ρ (.BinOp (.BinOp (.Subscript (.Name "_law_xs" p1) (.Constant (.int 0) j1 p2) p3) .FloorDiv (.Constant (.int 4) j2 p4) p5) .Mod (.Constant (.int 3) j3 p6) p7) (.int (xs.getD 0 0 / 4 % 3)):=fun r0=>yR (aAO t (zB (EvE.ql (yA t 0 r0)) yD (hv 0 (by omega))) yD (by decide)) yD (by decide)
 generalize aMZ xs=m at m20
 generalize szS xs=n at n12
 by_cases h1:xs.getD 0 0 / 4 % 3=0
 ·rw [if_pos h1]
  refine aBX (aBJ (EvT.eq (vS (x43 rfl) yD) (decide_eq_true h1)) (yJ (zO (EvE.eq (yM (yB (EvN.toE (wU (EvN.toE (wU (EvN.toE (aLY (EvN.toE (yQ (yB ev_str yE))) (yA t 1 rfl) (by omega) (by omega) ?_)) (EvN.toE (yQ (yB ev_str (yB ev_str (yB (aDI t b1 (yA t 2 rfl) (aZG n12)) yE))))) ?_)) (EvN.toE (aLY (EvN.toE (yQ (yB ev_str yE))) (yA t 1 rfl) (by omega) (by omega) ?_)) ?_)) (yB (EvDn.toE (EvDn.eq (aAP t (EvKs.cons (k:=nk 1 0) (yM (yB yD (yB yD yE))) yD (EvKs.cons (k:=nk 0 0) (yM (yB yD (yB yD yE))) (yA t 2 rfl) .nil))) rfl)) yE))) ?_))))
  ·rw [Int.toNat_natCast]; exact tsz (by simp; omega)
  ·rw [Int.toNat_natCast,aIK _ _ eJR,yV]; exact tsz (by simp; omega)
  ·rw [Int.toNat_natCast]; exact tsz (by simp; omega)
  ·rw [Int.toNat_natCast,aIK _ _ eJR,aIK _ _ eBR,List.length_append,yV,yV]; exact tsz (by simp; omega)
  ·rw [Int.toNat_natCast,aIK _ _ eJR,aIK _ _ eBR,aPQ,show ("x" : Str)=S [120] by decide +kernel,show ("+" : Str)=S [43] by decide +kernel,jQ,jQ]; rfl
 rw [if_neg h1]
 refine yG (wM (EvT.eq (vS (x43 rfl) yD) (decide_eq_false h1)) qQ) ?_
 by_cases h2:xs.getD 0 0 / 4 % 3=1
 ·rw [if_pos h2]
  have emn:(n:Int) * (([1,-1]:List Int).getD ((m:Int) % 2).toNat 0)=mnN m n:=by
   unfold mnN
   by_cases z:m % 2=1
   ·rw [if_pos z,show ((m:Int) % 2).toNat=1 by omega]; rfl
   ·rw [if_neg z,show ((m:Int) % 2).toNat=0 by omega]; rfl
  have hT:(List.replicate m [45]++[jG n,[42],[121]]).length<=23:=by simp; omega
  refine aBX (aBJ (EvT.eq (vS (x43 rfl) yD) (decide_eq_true h2)) (yG (ρ':=[.val (jA xs),.val (.int m),.val (.int n),.own (yY (List.replicate m [45]++[jG n,[42],[121]])),.val (.int (mnN m n)),.un,.un]) (EvS.eq (aXP t 3 4 (wU (EvN.toE (aLY (EvN.toE (yQ (yB ev_str yE))) (yA t 1 rfl) (by omega) (by omega) ?_)) (EvN.toE (yQ (yB (aDI t b1 (yA t 2 rfl) (aZG n12)) (yB ev_str (yB ev_str yE))))) ?_) (aBE (yA t 2 rfl) (zB (EvN.toQ (yQ (yB yD (yB (aJN yD) yE)))) (yR (yA t 1 rfl) yD (by decide)) (aJZ (xs:=[1,-1]) (by omega) (by show _ < 2; omega))) ?_) (by decide)) ?_) (wR 3 rfl ?_)))
  ·rw [Int.toNat_natCast]; exact tsz (by simp; omega)
  ·rw [Int.toNat_natCast,aFF,yV]; exact tsz (by simp; omega)
  ·have h:((m:Int) % 2).toNat < 2:=by omega
   generalize ((m:Int) % 2).toNat=z at h
   match z,h with
   | 0,_=>exact wP (by decide) (by decide)
   | 1,_=>exact wP (by decide) (by decide)
   | z+2,h=>omega
  ·rw [emn,Int.toNat_natCast,aFF,aPQ,show ("*" : Str)=S [42] by decide +kernel,show ("y" : Str)=S [121] by decide +kernel,jQ]; rfl
  show EvSs X [.val (jA xs),.val (.int m),.val (.int n),.val (.lst (yY (List.replicate m [45]++[jG n,[42],[121]]))),.val (.int (mnN m n)),.un,.un] _ _
  generalize List.replicate m [45]++[jG n,[42],[121]]=T at hT
  generalize mnN m n=z
  by_cases h5:xs.getD 5 0 % 2=1
  ·rw [if_pos h5]
   refine aBX (aBJ (EvT.eq (vS (yR (zB (EvE.ql (yA t 0 rfl)) yD (hv 5 (by omega))) yD (by decide)) yD) (decide_eq_true h5)) (yJ (zO (EvE.eq (yM (yB (EvN.toE (wU (EvN.toE (yQ (yB ev_str (yB ev_str yE)))) (yA t 3 rfl) ?_)) (yB (EvDn.toE (EvDn.eq (aAP t (EvKs.cons (k:=nk 1 0) (yM (yB yD (yB yD yE))) yD (EvKs.cons (k:=nk 0 1) (yM (yB yD (yB yD yE))) (aCV yD (yA t 4 rfl)) .nil))) rfl)) yE))) ?_))))
   ·rw [yV]; exact tsz (by simp; omega)
   ·rw [show ("x" : Str)=S [120] by decide +kernel,show ("-" : Str)=S [45] by decide +kernel,jQ]; rfl
  ·rw [if_neg h5]
   exact yG (wM (EvT.eq (vS (yR (zB (EvE.ql (yA t 0 rfl)) yD (hv 5 (by omega))) yD (by decide)) yD) (decide_eq_false h5)) qQ) (yJ (zO (yM (yB (yA t 3 rfl) (yB (EvDn.toE (EvDn.eq (aAP t (EvKs.cons (k:=nk 0 1) (yM (yB yD (yB yD yE))) (yA t 4 rfl) .nil)) rfl)) yE)))))
 rw [if_neg h2]
 refine yG (wM (EvT.eq (vS (x43 rfl) yD) (decide_eq_false h2)) qQ) ?_
 have e10:(m:Int) % 10=((m % 10:Nat):Int):=by omega
 have e102:(m:Int) / 10 % 2=((m / 10 % 2:Nat):Int):=by omega
 have hp9:m % 10<=9:=by omega
 have hb2:m / 10 % 2 < 2:=by omega
 have x10:∀ {ρ:Rho} {p1 p2 p3:Pos} {j1:Nat},ρ[1]? = some (.val (.int m))->EvE X ρ (.BinOp (.Name "_law_many" p1) .Mod (.Constant (.int 10) j1 p2) p3) (.int ((m % 10:Nat):Int)):=fun r1=>EvE.eq (yR (yA t 1 r1) yD (by decide)) (by rw [e10])
 refine yG (zK (d:=.int ((m / 10 % 2:Nat):Int)) t 5 (EvE.eq (yR (aAO t (yA t 1 rfl) yD (by decide)) yD (by decide)) (by rw [e102]))) ?_
 generalize m % 10=p at hp9 x10
 have one:∀ (c i k:Nat),(c=120\/c=121)->i<=9->k<=9->∀ l:Nat,l < 2->atI ([.tup [.int p,.int 0],.tup [.int 0,.int p]]:List D) (l:Int)=some (.tup [.int i,.int k])->atI (("xy" : Str)).cps.toList (l:Int)=some c->EvSs X [.val (jA xs),.val (.int m),.val (.int n),.un,.un,.val (.int l),.un] ((yF zH).drop 7) (.rt (.tup [.lst (yY [[c],[94],[48+p],[45],jG n]),.dic (qO [(nk i k,1)] [(nk 0 0,(n:Int))] (-1))])):=fun c i k hc hi hk l hl2 hat hxy=>by
  refine yG (zK (d:=.tup [.int i,.int k]) t 6 (zB (EvN.toQ (yQ (yB (yM (yB (x10 rfl) (yB yD yE))) (yB (yM (yB yD (yB (x10 rfl) yE))) yE)))) (yA t 5 rfl) hat)) (yJ (zO (EvE.eq (yM (yB (EvN.toE (yQ (yB (vR (c:=c) ev_str (yA t 5 rfl) (by decide) hxy) (yB ev_str (yB (aDI t b1 (x10 rfl) (eOS hp9)) (yB ev_str (yB (aDI t b1 (yA t 2 rfl) (aZG n12)) yE))))))) (yB (EvDn.toE (aEW t c2 (yB (EvDn.toE (EvDn.eq (aAP t (EvKs.cons (k:=nk i k) (yA t 6 rfl) yD .nil)) rfl)) (yB (EvDn.toE (EvDn.eq (aAP t (EvKs.cons (k:=nk 0 0) (yM (yB yD (yB yD yE))) (yA t 2 rfl) .nil)) rfl)) (yB (aJN yD) yE))) ⟨[(nk i k,1)],[(nk 0 0,(n:Int))],-1,rfl,aAM _ _ _,vE _ (by omega) (by omega),aAM _ _ _,vE _ (by decide) (by decide),.inr rfl,rfl⟩)) yE))) ?_)))
  rw [eQD hp9,aPQ,show ("^" : Str)=S [94] by decide +kernel,show ("-" : Str)=S [45] by decide +kernel]; rfl
 by_cases hz:m / 10 % 2=0
 ·rw [if_pos hz,hz]
  exact one 120 p 0 (.inl rfl) hp9 (by decide) 0 (by decide) rfl (by decide +kernel)
 ·rw [if_neg hz,show m / 10 % 2=1 by omega]
  exact one 121 0 p (.inr rfl) (by decide) hp9 1 (by decide) rfl (by decide +kernel)
def aTD (ds:List D) (d:D):Prop:=∃ ns:List Int,ds=[.scr ns]/\ns.length<=63/\d = .bl true
theorem eIC:∀ ds d,aTD ds d->ds.length=1:=by rintro _ _ ⟨_,rfl,_⟩; rfl
theorem eCS (ns:List Int) (h:ns.length<=63):aTD [.scr ns] (.bl true):=⟨ns,rfl,h,rfl⟩
theorem eDD {xs:List Int} {n:Nat}:EV.cutD (xs.map D.int) (some (n:Int)) none=(xs.drop n).map D.int:=by rw [eJJ,List.map_drop]
theorem eQS (h:DefX P w K mg base k N_law (yC aKQ) X) (cN:EV.Callee X "_law_numbers" wH) (cS:aAT X "_law_sum" (aAJ 1)) (cR:EV.Callee X "read_term" (aAU (AR 21))) (cC:EV.Callee X "_law_cell" aCT) (cX:EV.Callee X "_law_special" wF) (cJ:EV.Callee X "_law_joined" aAH) (cF:EV.Callee X "_law_formed" aAI) (cB:EV.Callee X "_law_board_of" vP) :
  ∀ ds d,aTD ds d->EvSs X (ds.map Sl.val++List.replicate (N_law.length - ds.length) Sl.un) (yF aKQ) (.rt d):=by
 rintro ds d ⟨ns,rfl,hn,rfl⟩
 have t:=h.at'
 haveI:=h.fnT
 show EvSs X [.val (.scr ns),.un,.un,.un,.un,.un,.un] _ _
 have hz:=eDE ns (some 1) (some 6)
 refine yG (aCW t (ds:=((eAS ns 0) :: aOK ns (some 1) (some 6)).map D.int) (eAF (EvE.eq (EvN.toE (wU (EvN.toE (yQ (yB (yU t cC (yB (yA t 0 rfl) (yB yD yE)) ⟨ns,0,rfl,by decide,by decide,rfl⟩) yE))) (EvE.eq (EvN.toE (aEU (EvE.qs (yA t 0 rfl)) (aBK yD) (aBK yD))) (by rw [aHW])) ?_)) rfl)) (FRun.same [.val (.scr ns),.un,.un,.un,.un,.un,.un] _ fun d hd=>?_)) (yJ (zO eNP))
 ·have:=aZH; simp; omega
 obtain ⟨c,_,rfl⟩:=List.mem_map.mp hd
 refine ⟨_,zA t 1,yG (zK (d:=jA (aIR c 120)) t 2 (yU t cN (yB (yA t 1 rfl) (yB yD yE)) ⟨c,120,rfl,by decide,rfl⟩)) ?_⟩
 have hxl:(aIR c 120).length=120:=aPO _ _
 generalize aIR c 120=xs at hxl
 have hv:∀ n:Nat,n < 120->atI (xs.map D.int) (n:Int)=some (.int (xs.getD n 0)):=fun n hn=>aRA (by omega)
 have hr:(xs.getD 0 0 % 7).toNat<=6:=by omega
 have er:xs.getD 0 0 % 7=(((xs.getD 0 0 % 7).toNat:Nat):Int):=by omega
 generalize (xs.getD 0 0 % 7).toNat=room at hr er
 have hdl:(xs.drop 20).length<=100:=by rw [List.length_drop]; omega
 have c6:(aOK xs (some 2) (some 8)).length=6:=eAP (a:=2) (b:=8) hxl (by omega) (by omega)
 have c12:(aOK xs (some 8) (some 20)).length=12:=eAP (a:=8) (b:=20) hxl (by omega) (by omega)
 have hsum:=eGP hdl hr
 refine eDA t 3 (EvN.eq (aEU (EvE.ql (yA t 2 rfl)) (aBK yD) aFP) (eDD (n:=20))) fun q=>⟨iL (aBQ 1 (xs.drop 20) room).xs,?_⟩
 show EvM X q [.val (.scr ns),.val (.int c),.val (jA xs),.val (.stt q),.un,.un,.un] _ _ _ _
 refine qV (ρ1:=[.val (.scr ns),.val (.int c),.val (jA xs),.val (.stt q),.val (.lst (yY (aBQ 1 (xs.drop 20) room).tk)),.val (.dic (aBQ 1 (xs.drop 20) room).kv),.un]) (aIV t (vJ (d:=oD (aBQ 1 (xs.drop 20) room)) t cS (EvA.am (yB (yA t 3 rfl) (yB (EvE.eq (yR (zB (EvE.ql (yA t 2 rfl)) yD (hv 0 (by omega))) yD (by decide)) (by rw [er])) (yB yD yE)))) ⟨xs.drop 20,room,rfl,hr,by omega,rfl,rfl,rfl⟩) (aGT t (qM (zA t 4) (qM (zA t 5) aDN)))) (EvSs.m ?_)
 generalize aBQ 1 (xs.drop 20) room=o at hsum
 have fin:∃ tk kv,SpV tk kv/\(tk,kv)=if xs.getD 1 0 % 8=1 then spO (aOK xs (some 2) (some 8)) else (o.tk,o.kv):=by
  split
  ·exact ⟨_,_,ePO _,rfl⟩
  ·exact ⟨_,_,hsum,rfl⟩
 obtain ⟨tk,kv,hsp,etk⟩:=fin
 obtain ⟨hq,hw,hrd,hft⟩:=eCE hsp (aOK xs (some 8) (some 20))
 refine EvSs.weak (ρ1:=[.val (.scr ns),.val (.int c),.val (jA xs),.val (.stt q),.val (.lst (yY tk)),.val (.dic kv),.val (yO (aAS kv))]) (yG (ρ':=[.val (.scr ns),.val (.int c),.val (jA xs),.val (.stt q),.val (.lst (yY tk)),.val (.dic kv),.un]) ?_ (yG (zK t 6 (yU t cR (yB (yU t cJ (yB (yA t 4 rfl) (yB (EvE.eq (EvN.toE (aEU (EvE.ql (yA t 2 rfl)) (aBK yD) (aBK yD))) (by rw [aHW])) yE)) ⟨tk,aOK xs (some 8) (some 20),rfl,c12,hq,hw,rfl⟩) yE) hrd)) (yJ (wM (EvT.eq (aLV (aLW (aHF (yU t cF (yB (yA t 6 rfl) yE) ⟨aAS kv,rfl,hft.sm (by decide),rfl⟩))) (fun _=>eIY t (aUM (aAS kv)) (yA t 6 rfl) (yU t cB (yB (yA t 5 rfl) yE) ⟨kv,rfl,rfl⟩))) rfl) qQ)))) (.keep (.forget (.forget (.forget (.forget (.forget (.forget .nil)))))))
 by_cases h1:xs.getD 1 0 % 8=1
 ·rw [if_pos h1] at etk
  refine aBJ (EvT.eq (vS (yR (zB (EvE.ql (yA t 2 rfl)) yD (hv 1 (by omega))) yD (by decide)) yD) (decide_eq_true h1)) (yJ (eBY t (d:=.tup [.lst (yY tk),.dic kv]) (yU t cX (yB (EvE.eq (EvN.toE (aEU (EvE.ql (yA t 2 rfl)) (aBK yD) (aBK yD))) (by rw [aHW])) yE) ⟨aOK xs (some 2) (some 8),rfl,c6,by rw [<- etk]⟩) (aGT t (qM (zA t 4) (qM (zA t 5) aDN)))))
 ·rw [if_neg h1] at etk
  cases etk
  exact wM (EvT.eq (vS (yR (zB (EvE.ql (yA t 2 rfl)) yD (hv 1 (by omega))) yD (by decide)) yD) (decide_eq_false h1)) qQ
theorem aBA {fd:FuncData} {ps:List Str} {us:List Value} (h:us.length=1) (k:∀ a0,bindArgs fd ⟨[a0],[]⟩=pure (ps.zip [a0])):bindArgs fd ⟨us,[]⟩=pure (ps.zip us):=match us,h with | [a0],_=>k a0
theorem aDO {fd:FuncData} {ps:List Str} {us:List Value} (h:us.length=2) (k:∀ a0 a1,bindArgs fd ⟨[a0,a1],[]⟩=pure (ps.zip [a0,a1])):bindArgs fd ⟨us,[]⟩=pure (ps.zip us):=match us,h with | [a0,a1],_=>k a0 a1
theorem aSR {fd:FuncData} {ps:List Str} {us:List Value} (h:us.length=3) (k:∀ a0 a1 a2,bindArgs fd ⟨[a0,a1,a2],[]⟩=pure (ps.zip [a0,a1,a2])):bindArgs fd ⟨us,[]⟩=pure (ps.zip us):=match us,h with | [a0,a1,a2],_=>k a0 a1 a2
set_option maxHeartbeats 4000000 in
theorem all_mk {l:PySem.W.OpenLaw} {w:World} {K:PySem.W.Frag} {h:Heap} {mg:Str->Option Value} {fa f1 f2 f3 f4 f5 f6 f7 f8 f9 f10 f11 f12 f13 f14 f15 f16 f17 f18 f19 f20 f21 f22 f23 f24 f25 f26 f27 f28 f29 f30 f31 f32 f33 f34 f35 f36 f37 f38 f39 f40 f41 f42 f43 f44 f45 f46:Addr} (ht:l.prog.given.tree=none) (X:K.In h) (G:h.Ns mainGlobals mg) (hfa:mg "law" = some (.ref fa))
  {od1 an1 od2 an2 od3 an3 od4 an4 od5 an5 od6 an6 od7 an7 od8 an8 od9 an9 od10 an10 od11 an11 od12 an12 od13 an13 od14 an14 od15 an15 od16 an16 od17 an17 od18 an18 od19 an19 od20 an20 od21 an21 od22 an22 od23 an23 od24 an24 od25 an25 od26 an26 od27 an27 od28 an28 od29 an29 od30 an30 od31 an31 od32 an32 od33 an33 od34 an34 od35 an35 od36 an36 od37 an37 od38 an38 od39 an39 od40 an40 od41 an41 od42 an42 od43 an43 od44 an44 od45 an45 od46 an46:Option Addr} {sl1 sl2 sl3 sl4 sl5 sl6 sl7 sl8 sl9 sl10 sl11 sl12 sl13 sl14 sl15 sl16 sl17 sl18 sl19 sl20 sl21 sl22 sl23 sl24 sl25 sl26 sl27 sl28 sl29 sl30 sl31 sl32 sl33 sl34 sl35 sl36 sl37 sl38 sl39 sl40 sl41 sl42 sl43 sl44 sl45 sl46:Array (Option Value)} {oc1 kV1 dc1 pm1 cd1 ct1 oc2 kV2 dc2 pm2 cd2 ct2 oc3 kV3 dc3 pm3 cd3 ct3 oc4 kV4 dc4 pm4 cd4 ct4 oc5 kV5 dc5 pm5 cd5 ct5 oc6 kV6 dc6 pm6 cd6 ct6 oc7 kV7 dc7 pm7 cd7 ct7 oc8 kV8 dc8 pm8 cd8 ct8 oc9 kV9 dc9 pm9 cd9 ct9 oc10 kV10 dc10 pm10 cd10 ct10 oc11 kV11 dc11 pm11 cd11 ct11 oc12 kV12 dc12 pm12 cd12 ct12 oc13 kV13 dc13 pm13 cd13 ct13 oc14 kV14 dc14 pm14 cd14 ct14 oc15 kV15 dc15 pm15 cd15 ct15 oc16 kV16 dc16 pm16 cd16 ct16 oc17 kV17 dc17 pm17 cd17 ct17 oc18 kV18 dc18 pm18 cd18 ct18 oc19 kV19 dc19 pm19 cd19 ct19 oc20 kV20 dc20 pm20 cd20 ct20 oc21 kV21 dc21 pm21 cd21 ct21 oc22 kV22 dc22 pm22 cd22 ct22 oc23 kV23 dc23 pm23 cd23 ct23 oc24 kV24 dc24 pm24 cd24 ct24 oc25 kV25 dc25 pm25 cd25 ct25 oc26 kV26 dc26 pm26 cd26 ct26 oc27 kV27 dc27 pm27 cd27 ct27 oc28 kV28 dc28 pm28 cd28 ct28 oc29 kV29 dc29 pm29 cd29 ct29 oc30 kV30 dc30 pm30 cd30 ct30 oc31 kV31 dc31 pm31 cd31 ct31 oc32 kV32 dc32 pm32 cd32 ct32 oc33 kV33 dc33 pm33 cd33 ct33 oc34 kV34 dc34 pm34 cd34 ct34 oc35 kV35 dc35 pm35 cd35 ct35 oc36 kV36 dc36 pm36 cd36 ct36 oc37 kV37 dc37 pm37 cd37 ct37 oc38 kV38 dc38 pm38 cd38 ct38 oc39 kV39 dc39 pm39 cd39 ct39 oc40 kV40 dc40 pm40 cd40 ct40 oc41 kV41 dc41 pm41 cd41 ct41 oc42 kV42 dc42 pm42 cd42 ct42 oc43 kV43 dc43 pm43 cd43 ct43 oc44 kV44 dc44 pm44 cd44 ct44 oc45 kV45 dc45 pm45 cd45 ct45 oc46 kV46 dc46 pm46 cd46 ct46:Value}
  (a1:PySem.W.nsIn K mainGlobals "without_end" = some (some (.ref f1))) (l1:K.lookup f1=some ⟨oc1,od1,.func (PySem.W.fnOf "without_end" "without_end" (yN zN) (yF zN) (yC zN) .none kV1 dc1 pm1 an1 cd1 ct1),sl1⟩) (c1:PySem.W.codeIn K cd1 "without_end" = true) (k1:PySem.W.keepIn K (.ref f1)=true)
  (a2:PySem.W.nsIn K mainGlobals "part_at" = some (some (.ref f2))) (l2:K.lookup f2=some ⟨oc2,od2,.func (PySem.W.fnOf "part_at" "part_at" (yN wL) (yF wL) (yC wL) .none kV2 dc2 pm2 an2 cd2 ct2),sl2⟩) (c2:PySem.W.codeIn K cd2 "part_at" = true) (k2:PySem.W.keepIn K (.ref f2)=true)
  (a3:PySem.W.nsIn K mainGlobals "row_of" = some (some (.ref f3))) (l3:K.lookup f3=some ⟨oc3,od3,.func (PySem.W.fnOf "row_of" "row_of" (yN aCG) (yF aCG) (yC aCG) .none kV3 dc3 pm3 an3 cd3 ct3),sl3⟩) (c3:PySem.W.codeIn K cd3 "row_of" = true) (k3:PySem.W.keepIn K (.ref f3)=true)
  (a4:PySem.W.nsIn K mainGlobals "row_plus" = some (some (.ref f4))) (l4:K.lookup f4=some ⟨oc4,od4,.func (PySem.W.fnOf "row_plus" "row_plus" (yN jD) (yF jD) (yC jD) .none kV4 dc4 pm4 an4 cd4 ct4),sl4⟩) (c4:PySem.W.codeIn K cd4 "row_plus" = true) (k4:PySem.W.keepIn K (.ref f4)=true)
  (a5:PySem.W.nsIn K mainGlobals "other_sign" = some (some (.ref f5))) (l5:K.lookup f5=some ⟨oc5,od5,.func (PySem.W.fnOf "other_sign" "other_sign" (yN qS) (yF qS) (yC qS) .none kV5 dc5 pm5 an5 cd5 ct5),sl5⟩) (c5:PySem.W.codeIn K cd5 "other_sign" = true) (k5:PySem.W.keepIn K (.ref f5)=true)
  (a6:PySem.W.nsIn K mainGlobals "row_times" = some (some (.ref f6))) (l6:K.lookup f6=some ⟨oc6,od6,.func (PySem.W.fnOf "row_times" "row_times" (yN qW) (yF qW) (yC qW) .none kV6 dc6 pm6 an6 cd6 ct6),sl6⟩) (c6:PySem.W.codeIn K cd6 "row_times" = true) (k6:PySem.W.keepIn K (.ref f6)=true)
  (a7:PySem.W.nsIn K mainGlobals "board_of" = some (some (.ref f7))) (l7:K.lookup f7=some ⟨oc7,od7,.func (PySem.W.fnOf "board_of" "board_of" (yN vX) (yF vX) (yC vX) .none kV7 dc7 pm7 an7 cd7 ct7),sl7⟩) (c7:PySem.W.codeIn K cd7 "board_of" = true) (k7:PySem.W.keepIn K (.ref f7)=true)
  (a8:PySem.W.nsIn K mainGlobals "board_plus" = some (some (.ref f8))) (l8:K.lookup f8=some ⟨oc8,od8,.func (PySem.W.fnOf "board_plus" "board_plus" (yN zU) (yF zU) (yC zU) .none kV8 dc8 pm8 an8 cd8 ct8),sl8⟩) (c8:PySem.W.codeIn K cd8 "board_plus" = true) (k8:PySem.W.keepIn K (.ref f8)=true)
  (a9:PySem.W.nsIn K mainGlobals "board_minus" = some (some (.ref f9))) (l9:K.lookup f9=some ⟨oc9,od9,.func (PySem.W.fnOf "board_minus" "board_minus" (yN qF) (yF qF) (yC qF) .none kV9 dc9 pm9 an9 cd9 ct9),sl9⟩) (c9:PySem.W.codeIn K cd9 "board_minus" = true) (k9:PySem.W.keepIn K (.ref f9)=true)
  (a10:PySem.W.nsIn K mainGlobals "board_times" = some (some (.ref f10))) (l10:K.lookup f10=some ⟨oc10,od10,.func (PySem.W.fnOf "board_times" "board_times" (yN zQ) (yF zQ) (yC zQ) .none kV10 dc10 pm10 an10 cd10 ct10),sl10⟩) (c10:PySem.W.codeIn K cd10 "board_times" = true) (k10:PySem.W.keepIn K (.ref f10)=true)
  (a11:PySem.W.nsIn K mainGlobals "is_number" = some (some (.ref f11))) (l11:K.lookup f11=some ⟨oc11,od11,.func (PySem.W.fnOf "is_number" "is_number" (yN jM) (yF jM) (yC jM) .none kV11 dc11 pm11 an11 cd11 ct11),sl11⟩) (c11:PySem.W.codeIn K cd11 "is_number" = true) (k11:PySem.W.keepIn K (.ref f11)=true)
  (a12:PySem.W.nsIn K mainGlobals "end_of_run" = some (some (.ref f12))) (l12:K.lookup f12=some ⟨oc12,od12,.func (PySem.W.fnOf "end_of_run" "end_of_run" (yN qT) (yF qT) (yC qT) .none kV12 dc12 pm12 an12 cd12 ct12),sl12⟩) (c12:PySem.W.codeIn K cd12 "end_of_run" = true) (k12:PySem.W.keepIn K (.ref f12)=true)
  (a13:PySem.W.nsIn K mainGlobals "refuse_wrong_run" = some (some (.ref f13))) (l13:K.lookup f13=some ⟨oc13,od13,.func (PySem.W.fnOf "refuse_wrong_run" "refuse_wrong_run" (yN yS) (yF yS) (yC yS) .none kV13 dc13 pm13 an13 cd13 ct13),sl13⟩) (c13:PySem.W.codeIn K cd13 "refuse_wrong_run" = true) (k13:PySem.W.keepIn K (.ref f13)=true)
  (a14:PySem.W.nsIn K mainGlobals "token_at" = some (some (.ref f14))) (l14:K.lookup f14=some ⟨oc14,od14,.func (PySem.W.fnOf "token_at" "token_at" (yN vW) (yF vW) (yC vW) .none kV14 dc14 pm14 an14 cd14 ct14),sl14⟩) (c14:PySem.W.codeIn K cd14 "token_at" = true) (k14:PySem.W.keepIn K (.ref f14)=true)
  (a15:PySem.W.nsIn K mainGlobals "tokens_of" = some (some (.ref f15))) (l15:K.lookup f15=some ⟨oc15,od15,.func (PySem.W.fnOf "tokens_of" "tokens_of" (yN jK) (yF jK) (yC jK) .none kV15 dc15 pm15 an15 cd15 ct15),sl15⟩) (c15:PySem.W.codeIn K cd15 "tokens_of" = true) (k15:PySem.W.keepIn K (.ref f15)=true)
  (a16:PySem.W.nsIn K mainGlobals "refuse_deep" = some (some (.ref f16))) (l16:K.lookup f16=some ⟨oc16,od16,.func (PySem.W.fnOf "refuse_deep" "refuse_deep" (yN qB) (yF qB) (yC qB) .none kV16 dc16 pm16 an16 cd16 ct16),sl16⟩) (c16:PySem.W.codeIn K cd16 "refuse_deep" = true) (k16:PySem.W.keepIn K (.ref f16)=true)
  (a17:PySem.W.nsIn K mainGlobals "reader_of" = some (some (.ref f17))) (l17:K.lookup f17=some ⟨oc17,od17,.func (PySem.W.fnOf "reader_of" "reader_of" (yN qG) (yF qG) (yC qG) .none kV17 dc17 pm17 an17 cd17 ct17),sl17⟩) (c17:PySem.W.codeIn K cd17 "reader_of" = true) (k17:PySem.W.keepIn K (.ref f17)=true)
  (a18:PySem.W.nsIn K mainGlobals "next_token" = some (some (.ref f18))) (l18:K.lookup f18=some ⟨oc18,od18,.func (PySem.W.fnOf "next_token" "next_token" (yN qE) (yF qE) (yC qE) .none kV18 dc18 pm18 an18 cd18 ct18),sl18⟩) (c18:PySem.W.codeIn K cd18 "next_token" = true) (k18:PySem.W.keepIn K (.ref f18)=true)
  (a19:PySem.W.nsIn K mainGlobals "take_token" = some (some (.ref f19))) (l19:K.lookup f19=some ⟨oc19,od19,.func (PySem.W.fnOf "take_token" "take_token" (yN qR) (yF qR) (yC qR) .none kV19 dc19 pm19 an19 cd19 ct19),sl19⟩) (c19:PySem.W.codeIn K cd19 "take_token" = true) (k19:PySem.W.keepIn K (.ref f19)=true)
  (a20:PySem.W.nsIn K mainGlobals "take_one_of" = some (some (.ref f20))) (l20:K.lookup f20=some ⟨oc20,od20,.func (PySem.W.fnOf "take_one_of" "take_one_of" (yN qA) (yF qA) (yC qA) .none kV20 dc20 pm20 an20 cd20 ct20),sl20⟩) (c20:PySem.W.codeIn K cd20 "take_one_of" = true) (k20:PySem.W.keepIn K (.ref f20)=true)
  (a21:PySem.W.nsIn K mainGlobals "refuse_more" = some (some (.ref f21))) (l21:K.lookup f21=some ⟨oc21,od21,.func (PySem.W.fnOf "refuse_more" "refuse_more" (yN zP) (yF zP) (yC zP) .none kV21 dc21 pm21 an21 cd21 ct21),sl21⟩) (c21:PySem.W.codeIn K cd21 "refuse_more" = true) (k21:PySem.W.keepIn K (.ref f21)=true)
  (a22:PySem.W.nsIn K mainGlobals "read_atom" = some (some (.ref f22))) (l22:K.lookup f22=some ⟨oc22,od22,.func (PySem.W.fnOf "read_atom" "read_atom" (yN jL) (yF jL) (yC jL) .none kV22 dc22 pm22 an22 cd22 ct22),sl22⟩) (c22:PySem.W.codeIn K cd22 "read_atom" = true) (k22:PySem.W.keepIn K (.ref f22)=true)
  (a23:PySem.W.nsIn K mainGlobals "read_power" = some (some (.ref f23))) (l23:K.lookup f23=some ⟨oc23,od23,.func (PySem.W.fnOf "read_power" "read_power" (yN qC) (yF qC) (yC qC) .none kV23 dc23 pm23 an23 cd23 ct23),sl23⟩) (c23:PySem.W.codeIn K cd23 "read_power" = true) (k23:PySem.W.keepIn K (.ref f23)=true)
  (a24:PySem.W.nsIn K mainGlobals "read_factor" = some (some (.ref f24))) (l24:K.lookup f24=some ⟨oc24,od24,.func (PySem.W.fnOf "read_factor" "read_factor" (yN qD) (yF qD) (yC qD) .none kV24 dc24 pm24 an24 cd24 ct24),sl24⟩) (c24:PySem.W.codeIn K cd24 "read_factor" = true) (k24:PySem.W.keepIn K (.ref f24)=true)
  (a25:PySem.W.nsIn K mainGlobals "read_product" = some (some (.ref f25))) (l25:K.lookup f25=some ⟨oc25,od25,.func (PySem.W.fnOf "read_product" "read_product" (yN zT) (yF zT) (yC zT) .none kV25 dc25 pm25 an25 cd25 ct25),sl25⟩) (c25:PySem.W.codeIn K cd25 "read_product" = true) (k25:PySem.W.keepIn K (.ref f25)=true)
  (a26:PySem.W.nsIn K mainGlobals "read_sum" = some (some (.ref f26))) (l26:K.lookup f26=some ⟨oc26,od26,.func (PySem.W.fnOf "read_sum" "read_sum" (yN qP) (yF qP) (yC qP) .none kV26 dc26 pm26 an26 cd26 ct26),sl26⟩) (c26:PySem.W.codeIn K cd26 "read_sum" = true) (k26:PySem.W.keepIn K (.ref f26)=true)
  (a27:PySem.W.nsIn K mainGlobals "atom_of" = some (some (.ref f27))) (l27:K.lookup f27=some ⟨oc27,od27,.func (PySem.W.fnOf "atom_of" "atom_of" (yN wN) (yF wN) (yC wN) .none kV27 dc27 pm27 an27 cd27 ct27),sl27⟩) (c27:PySem.W.codeIn K cd27 "atom_of" = true) (k27:PySem.W.keepIn K (.ref f27)=true)
  (a28:PySem.W.nsIn K mainGlobals "power_of_board" = some (some (.ref f28))) (l28:K.lookup f28=some ⟨oc28,od28,.func (PySem.W.fnOf "power_of_board" "power_of_board" (yN zF) (yF zF) (yC zF) .none kV28 dc28 pm28 an28 cd28 ct28),sl28⟩) (c28:PySem.W.codeIn K cd28 "power_of_board" = true) (k28:PySem.W.keepIn K (.ref f28)=true)
  (a29:PySem.W.nsIn K mainGlobals "take_term_step" = some (some (.ref f29))) (l29:K.lookup f29=some ⟨oc29,od29,.func (PySem.W.fnOf "take_term_step" "take_term_step" (yN zE) (yF zE) (yC zE) .none kV29 dc29 pm29 an29 cd29 ct29),sl29⟩) (c29:PySem.W.codeIn K cd29 "take_term_step" = true) (k29:PySem.W.keepIn K (.ref f29)=true)
  (a30:PySem.W.nsIn K mainGlobals "read_term" = some (some (.ref f30))) (l30:K.lookup f30=some ⟨oc30,od30,.func (PySem.W.fnOf "read_term" "read_term" (yN jV) (yF jV) (yC jV) .none kV30 dc30 pm30 an30 cd30 ct30),sl30⟩) (c30:PySem.W.codeIn K cd30 "read_term" = true) (k30:PySem.W.keepIn K (.ref f30)=true)
  (a31:PySem.W.nsIn K mainGlobals "_law_cell" = some (some (.ref f31))) (l31:K.lookup f31=some ⟨oc31,od31,.func (PySem.W.fnOf "_law_cell" "_law_cell" (yN jN) (yF jN) (yC jN) .none kV31 dc31 pm31 an31 cd31 ct31),sl31⟩) (c31:PySem.W.codeIn K cd31 "_law_cell" = true) (k31:PySem.W.keepIn K (.ref f31)=true)
  (a32:PySem.W.nsIn K mainGlobals "_law_numbers" = some (some (.ref f32))) (l32:K.lookup f32=some ⟨oc32,od32,.func (PySem.W.fnOf "_law_numbers" "_law_numbers" (yN zC) (yF zC) (yC zC) .none kV32 dc32 pm32 an32 cd32 ct32),sl32⟩) (c32:PySem.W.codeIn K cd32 "_law_numbers" = true) (k32:PySem.W.keepIn K (.ref f32)=true)
  (a33:PySem.W.nsIn K mainGlobals "_law_trim" = some (some (.ref f33))) (l33:K.lookup f33=some ⟨oc33,od33,.func (PySem.W.fnOf "_law_trim" "_law_trim" (yN qH) (yF qH) (yC qH) .none kV33 dc33 pm33 an33 cd33 ct33),sl33⟩) (c33:PySem.W.codeIn K cd33 "_law_trim" = true) (k33:PySem.W.keepIn K (.ref f33)=true)
  (a34:PySem.W.nsIn K mainGlobals "_law_board_of" = some (some (.ref f34))) (l34:K.lookup f34=some ⟨oc34,od34,.func (PySem.W.fnOf "_law_board_of" "_law_board_of" (yN yZ) (yF yZ) (yC yZ) .none kV34 dc34 pm34 an34 cd34 ct34),sl34⟩) (c34:PySem.W.codeIn K cd34 "_law_board_of" = true) (k34:PySem.W.keepIn K (.ref f34)=true)
  (a35:PySem.W.nsIn K mainGlobals "_law_product" = some (some (.ref f35))) (l35:K.lookup f35=some ⟨oc35,od35,.func (PySem.W.fnOf "_law_product" "_law_product" (yN qI) (yF qI) (yC qI) .none kV35 dc35 pm35 an35 cd35 ct35),sl35⟩) (c35:PySem.W.codeIn K cd35 "_law_product" = true) (k35:PySem.W.keepIn K (.ref f35)=true)
  (a36:PySem.W.nsIn K mainGlobals "_law_pick" = some (some (.ref f36))) (l36:K.lookup f36=some ⟨oc36,od36,.func (PySem.W.fnOf "_law_pick" "_law_pick" (yN jX) (yF jX) (yC jX) .none kV36 dc36 pm36 an36 cd36 ct36),sl36⟩) (c36:PySem.W.codeIn K cd36 "_law_pick" = true) (k36:PySem.W.keepIn K (.ref f36)=true)
  (a37:PySem.W.nsIn K mainGlobals "_law_add" = some (some (.ref f37))) (l37:K.lookup f37=some ⟨oc37,od37,.func (PySem.W.fnOf "_law_add" "_law_add" (yN vC) (yF vC) (yC vC) .none kV37 dc37 pm37 an37 cd37 ct37),sl37⟩) (c37:PySem.W.codeIn K cd37 "_law_add" = true) (k37:PySem.W.keepIn K (.ref f37)=true)
  (a38:PySem.W.nsIn K mainGlobals "_law_atom" = some (some (.ref f38))) (l38:K.lookup f38=some ⟨oc38,od38,.func (PySem.W.fnOf "_law_atom" "_law_atom" (yN qX) (yF qX) (yC qX) .none kV38 dc38 pm38 an38 cd38 ct38),sl38⟩) (c38:PySem.W.codeIn K cd38 "_law_atom" = true) (k38:PySem.W.keepIn K (.ref f38)=true)
  (a39:PySem.W.nsIn K mainGlobals "_law_factor" = some (some (.ref f39))) (l39:K.lookup f39=some ⟨oc39,od39,.func (PySem.W.fnOf "_law_factor" "_law_factor" (yN zD) (yF zD) (yC zD) .none kV39 dc39 pm39 an39 cd39 ct39),sl39⟩) (c39:PySem.W.codeIn K cd39 "_law_factor" = true) (k39:PySem.W.keepIn K (.ref f39)=true)
  (a40:PySem.W.nsIn K mainGlobals "_law_prod" = some (some (.ref f40))) (l40:K.lookup f40=some ⟨oc40,od40,.func (PySem.W.fnOf "_law_prod" "_law_prod" (yN jW) (yF jW) (yC jW) .none kV40 dc40 pm40 an40 cd40 ct40),sl40⟩) (c40:PySem.W.codeIn K cd40 "_law_prod" = true) (k40:PySem.W.keepIn K (.ref f40)=true)
  (a41:PySem.W.nsIn K mainGlobals "_law_sum" = some (some (.ref f41))) (l41:K.lookup f41=some ⟨oc41,od41,.func (PySem.W.fnOf "_law_sum" "_law_sum" (yN vA) (yF vA) (yC vA) .none kV41 dc41 pm41 an41 cd41 ct41),sl41⟩) (c41:PySem.W.codeIn K cd41 "_law_sum" = true) (k41:PySem.W.keepIn K (.ref f41)=true)
  (a42:PySem.W.nsIn K mainGlobals "_law_joined" = some (some (.ref f42))) (l42:K.lookup f42=some ⟨oc42,od42,.func (PySem.W.fnOf "_law_joined" "_law_joined" (yN zS) (yF zS) (yC zS) .none kV42 dc42 pm42 an42 cd42 ct42),sl42⟩) (c42:PySem.W.codeIn K cd42 "_law_joined" = true) (k42:PySem.W.keepIn K (.ref f42)=true)
  (a43:PySem.W.nsIn K mainGlobals "_law_raised" = some (some (.ref f43))) (l43:K.lookup f43=some ⟨oc43,od43,.func (PySem.W.fnOf "_law_raised" "_law_raised" (yN zR) (yF zR) (yC zR) .none kV43 dc43 pm43 an43 cd43 ct43),sl43⟩) (c43:PySem.W.codeIn K cd43 "_law_raised" = true) (k43:PySem.W.keepIn K (.ref f43)=true)
  (a44:PySem.W.nsIn K mainGlobals "_law_special" = some (some (.ref f44))) (l44:K.lookup f44=some ⟨oc44,od44,.func (PySem.W.fnOf "_law_special" "_law_special" (yN zH) (yF zH) (yC zH) .none kV44 dc44 pm44 an44 cd44 ct44),sl44⟩) (c44:PySem.W.codeIn K cd44 "_law_special" = true) (k44:PySem.W.keepIn K (.ref f44)=true)
  (a45:PySem.W.nsIn K mainGlobals "_law_formed" = some (some (.ref f45))) (l45:K.lookup f45=some ⟨oc45,od45,.func (PySem.W.fnOf "_law_formed" "_law_formed" (yN zI) (yF zI) (yC zI) .none kV45 dc45 pm45 an45 cd45 ct45),sl45⟩) (c45:PySem.W.codeIn K cd45 "_law_formed" = true) (k45:PySem.W.keepIn K (.ref f45)=true)
  (a46:PySem.W.nsIn K mainGlobals "law" = some (some (.ref f46))) (l46:K.lookup f46=some ⟨oc46,od46,.func (PySem.W.fnOf "law" "law" (yN aKQ) (yF aKQ) (yC aKQ) .none kV46 dc46 pm46 an46 cd46 ct46),sl46⟩) (c46:PySem.W.codeIn K cd46 "law" = true) (k46:PySem.W.keepIn K (.ref f46)=true)
  (z_len:PySem.W.nsIn K mainGlobals "len" = some none)
  (z_tuple:PySem.W.nsIn K mainGlobals "tuple" = some none)
  (z_max:PySem.W.nsIn K mainGlobals "max" = some none)
  (z_range:PySem.W.nsIn K mainGlobals "range" = some none)
  (z_enumerate:PySem.W.nsIn K mainGlobals "enumerate" = some none)
  (z_all:PySem.W.nsIn K mainGlobals "all" = some none)
  (z_isinstance:PySem.W.nsIn K mainGlobals "isinstance" = some none)
  (z_str:PySem.W.nsIn K mainGlobals "str" = some none)
  (z_list:PySem.W.nsIn K mainGlobals "list" = some none)
  (z_int:PySem.W.nsIn K mainGlobals "int" = some none)
  (z_abs:PySem.W.nsIn K mainGlobals "abs" = some none)
  (z_dict:PySem.W.nsIn K mainGlobals "dict" = some none)
  (z_min:PySem.W.nsIn K mainGlobals "min" = some none)
  (z_bool:PySem.W.nsIn K mainGlobals "bool" = some none)
  {g_WORDS:Addr} {go_WORDS:Option Addr} {gi_WORDS:Array Value} {gn_WORDS:Nat} {gs_WORDS:Array (Option Value)}
  (ga_WORDS:PySem.W.nsIn K mainGlobals "WORDS" = some (some (.ref g_WORDS))) (gl_WORDS:K.lookup g_WORDS=some ⟨.type "tuple",go_WORDS,.seq gi_WORDS gn_WORDS,gs_WORDS⟩) (gp_WORDS:GPs K gi_WORDS.toList [.str "x",.str "y",.str "not",.str "and",.str "or",.str "some",.str "all"])
  {g_DOUBLE_SIGNS:Addr} {go_DOUBLE_SIGNS:Option Addr} {gi_DOUBLE_SIGNS:Array Value} {gn_DOUBLE_SIGNS:Nat} {gs_DOUBLE_SIGNS:Array (Option Value)}
  (ga_DOUBLE_SIGNS:PySem.W.nsIn K mainGlobals "DOUBLE_SIGNS" = some (some (.ref g_DOUBLE_SIGNS))) (gl_DOUBLE_SIGNS:K.lookup g_DOUBLE_SIGNS=some ⟨.type "tuple",go_DOUBLE_SIGNS,.seq gi_DOUBLE_SIGNS gn_DOUBLE_SIGNS,gs_DOUBLE_SIGNS⟩) (gp_DOUBLE_SIGNS:GPs K gi_DOUBLE_SIGNS.toList [.str "<=",.str ">=",.str "!="])
  {tk_FIGURES:Tok} (gc_FIGURES:PySem.W.nsIn K mainGlobals "FIGURES" = some (some (.str ("0123456789" : Str) tk_FIGURES)))
  {tk_MOST_OPEN:Tok} (gc_MOST_OPEN:PySem.W.nsIn K mainGlobals "MOST_OPEN" = some (some (.int 20 tk_MOST_OPEN)))
  {tk_MOST_MINUSES:Tok} (gc_MOST_MINUSES:PySem.W.nsIn K mainGlobals "MOST_MINUSES" = some (some (.int 20 tk_MOST_MINUSES)))
  {tk_MOST_SIGNS:Tok} (gc_MOST_SIGNS:PySem.W.nsIn K mainGlobals "MOST_SIGNS" = some (some (.int 1000 tk_MOST_SIGNS)))
  {cR fI:Addr} {odI anI:Option Addr} {slI:Array (Option Value)} {ocI kVI dcI pmI cdI ctI:Value} (eR:PySem.W.nsIn K mainGlobals "Reader" = some (some (.ref cR))) (r1:PySem.W.makesIn K cR=true) (r2:PySem.W.findIn K (.ref cR) "__init__" = some (some (.ref fI))) (r3:PySem.W.isFn K (.ref fI)=true) (r4:PySem.W.keepIn K (.ref cR)=true) (r5:PySem.W.plainGet K cR Str.empty=true) (r6:PySem.W.hasDictIn K cR=true) (r7:PySem.W.plainOver K cR=true) (r8:PySem.W.findIn K (.ref cR) "__setattr__" = some (some (.builtin "object.__setattr__"))) (r9:PySem.W.findIn K (.ref cR) "tokens" = some none) (r10:PySem.W.findIn K (.ref cR) "done" = some none) (r11:PySem.W.findIn K (.ref cR) "steps" = some none)
  (lI:K.lookup fI=some ⟨ocI,odI,.func (PySem.W.fnOf "__init__" "Reader.__init__" (yN vG) (yF vG) (yC vG) .none kVI dcI pmI anI cdI ctI),slI⟩) (cI:PySem.W.codeIn K cdI "Reader.__init__" = true) (kI:PySem.W.keepIn K (.ref fI)=true)
  : ∃ fd:FuncData,(∀ (s:Shared) (v:Value),BindsTo s fd ⟨[v],[]⟩ [("_law_script",v)])/\∀ base:Heap,K.In base->base.Ns mainGlobals mg->qL l.prog w K mg base CX0 112 fa fd ["_law_script"] (spC K aTD):=by
 have e:=hfa.symm.trans (PySem.W.mg_of X G a46)
 cases e
 have m_len:=PySem.W.mg_none_of X G z_len
 have m_tuple:=PySem.W.mg_none_of X G z_tuple
 have m_max:=PySem.W.mg_none_of X G z_max
 have m_range:=PySem.W.mg_none_of X G z_range
 have m_enumerate:=PySem.W.mg_none_of X G z_enumerate
 have m_all:=PySem.W.mg_none_of X G z_all
 have m_isinstance:=PySem.W.mg_none_of X G z_isinstance
 have m_str:=PySem.W.mg_none_of X G z_str
 have m_list:=PySem.W.mg_none_of X G z_list
 have m_int:=PySem.W.mg_none_of X G z_int
 have m_abs:=PySem.W.mg_none_of X G z_abs
 have m_dict:=PySem.W.mg_none_of X G z_dict
 have m_min:=PySem.W.mg_none_of X G z_min
 have m_bool:=PySem.W.mg_none_of X G z_bool
 have F1:=yW (st:=zN) l1 c1 k1
 have m1:=PySem.W.mg_of X G a1
 have bd1:=F1.binds (ps:=["parts", "nought"]) fun _ _ _ _ _ _ us hl=>aDO hl fun _ _=>rfl
 have F2:=yW (st:=wL) l2 c2 k2
 have m2:=PySem.W.mg_of X G a2
 have bd2:=F2.binds (ps:=["parts", "power", "nought"]) fun _ _ _ _ _ _ us hl=>aSR hl fun _ _ _=>rfl
 have F3:=yW (st:=aCG) l3 c3 k3
 have m3:=PySem.W.mg_of X G a3
 have bd3:=F3.binds (ps:=["numbers"]) fun _ _ _ _ _ _ us hl=>aBA hl fun _=>rfl
 have F4:=yW (st:=jD) l4 c4 k4
 have m4:=PySem.W.mg_of X G a4
 have bd4:=F4.binds (ps:=["f", "g"]) fun _ _ _ _ _ _ us hl=>aDO hl fun _ _=>rfl
 have F5:=yW (st:=qS) l5 c5 k5
 have m5:=PySem.W.mg_of X G a5
 have bd5:=F5.binds (ps:=["f"]) fun _ _ _ _ _ _ us hl=>aBA hl fun _=>rfl
 have F6:=yW (st:=qW) l6 c6 k6
 have m6:=PySem.W.mg_of X G a6
 have bd6:=F6.binds (ps:=["f", "g"]) fun _ _ _ _ _ _ us hl=>aDO hl fun _ _=>rfl
 have F7:=yW (st:=vX) l7 c7 k7
 have m7:=PySem.W.mg_of X G a7
 have bd7:=F7.binds (ps:=["rows"]) fun _ _ _ _ _ _ us hl=>aBA hl fun _=>rfl
 have F8:=yW (st:=zU) l8 c8 k8
 have m8:=PySem.W.mg_of X G a8
 have bd8:=F8.binds (ps:=["f", "g"]) fun _ _ _ _ _ _ us hl=>aDO hl fun _ _=>rfl
 have F9:=yW (st:=qF) l9 c9 k9
 have m9:=PySem.W.mg_of X G a9
 have bd9:=F9.binds (ps:=["f", "g"]) fun _ _ _ _ _ _ us hl=>aDO hl fun _ _=>rfl
 have F10:=yW (st:=zQ) l10 c10 k10
 have m10:=PySem.W.mg_of X G a10
 have bd10:=F10.binds (ps:=["f", "g"]) fun _ _ _ _ _ _ us hl=>aDO hl fun _ _=>rfl
 have F11:=yW (st:=jM) l11 c11 k11
 have m11:=PySem.W.mg_of X G a11
 have bd11:=F11.binds (ps:=["token"]) fun _ _ _ _ _ _ us hl=>aBA hl fun _=>rfl
 have F12:=yW (st:=qT) l12 c12 k12
 have m12:=PySem.W.mg_of X G a12
 have bd12:=F12.binds (ps:=["text", "start"]) fun _ _ _ _ _ _ us hl=>aDO hl fun _ _=>rfl
 have F13:=yW (st:=yS) l13 c13 k13
 have m13:=PySem.W.mg_of X G a13
 have bd13:=F13.binds (ps:=["run"]) fun _ _ _ _ _ _ us hl=>aBA hl fun _=>rfl
 have F14:=yW (st:=vW) l14 c14 k14
 have m14:=PySem.W.mg_of X G a14
 have bd14:=F14.binds (ps:=["text", "start"]) fun _ _ _ _ _ _ us hl=>aDO hl fun _ _=>rfl
 have F15:=yW (st:=jK) l15 c15 k15
 have m15:=PySem.W.mg_of X G a15
 have bd15:=F15.binds (ps:=["text"]) fun _ _ _ _ _ _ us hl=>aBA hl fun _=>rfl
 have F16:=yW (st:=qB) l16 c16 k16
 have m16:=PySem.W.mg_of X G a16
 have bd16:=F16.binds (ps:=["tokens", "opening", "closing"]) fun _ _ _ _ _ _ us hl=>aSR hl fun _ _ _=>rfl
 have F17:=yW (st:=qG) l17 c17 k17
 have m17:=PySem.W.mg_of X G a17
 have bd17:=F17.binds (ps:=["text", "most"]) fun _ _ _ _ _ _ us hl=>aDO hl fun _ _=>rfl
 have F18:=yW (st:=qE) l18 c18 k18
 have m18:=PySem.W.mg_of X G a18
 have bd18:=F18.binds (ps:=["reader"]) fun _ _ _ _ _ _ us hl=>aBA hl fun _=>rfl
 have F19:=yW (st:=qR) l19 c19 k19
 have m19:=PySem.W.mg_of X G a19
 have bd19:=F19.binds (ps:=["reader"]) fun _ _ _ _ _ _ us hl=>aBA hl fun _=>rfl
 have F20:=yW (st:=qA) l20 c20 k20
 have m20:=PySem.W.mg_of X G a20
 have bd20:=F20.binds (ps:=["reader", "tokens"]) fun _ _ _ _ _ _ us hl=>aDO hl fun _ _=>rfl
 have F21:=yW (st:=zP) l21 c21 k21
 have m21:=PySem.W.mg_of X G a21
 have bd21:=F21.binds (ps:=["reader"]) fun _ _ _ _ _ _ us hl=>aBA hl fun _=>rfl
 have F22:=yW (st:=jL) l22 c22 k22
 have m22:=PySem.W.mg_of X G a22
 have bd22:=F22.binds (ps:=["reader"]) fun _ _ _ _ _ _ us hl=>aBA hl fun _=>rfl
 have F23:=yW (st:=qC) l23 c23 k23
 have m23:=PySem.W.mg_of X G a23
 have bd23:=F23.binds (ps:=["reader"]) fun _ _ _ _ _ _ us hl=>aBA hl fun _=>rfl
 have F24:=yW (st:=qD) l24 c24 k24
 have m24:=PySem.W.mg_of X G a24
 have bd24:=F24.binds (ps:=["reader"]) fun _ _ _ _ _ _ us hl=>aBA hl fun _=>rfl
 have F25:=yW (st:=zT) l25 c25 k25
 have m25:=PySem.W.mg_of X G a25
 have bd25:=F25.binds (ps:=["reader"]) fun _ _ _ _ _ _ us hl=>aBA hl fun _=>rfl
 have F26:=yW (st:=qP) l26 c26 k26
 have m26:=PySem.W.mg_of X G a26
 have bd26:=F26.binds (ps:=["reader"]) fun _ _ _ _ _ _ us hl=>aBA hl fun _=>rfl
 have F27:=yW (st:=wN) l27 c27 k27
 have m27:=PySem.W.mg_of X G a27
 have bd27:=F27.binds (ps:=["token"]) fun _ _ _ _ _ _ us hl=>aBA hl fun _=>rfl
 have F28:=yW (st:=zF) l28 c28 k28
 have m28:=PySem.W.mg_of X G a28
 have bd28:=F28.binds (ps:=["f", "many"]) fun _ _ _ _ _ _ us hl=>aDO hl fun _ _=>rfl
 have F29:=yW (st:=zE) l29 c29 k29
 have m29:=PySem.W.mg_of X G a29
 have bd29:=F29.binds (ps:=["step", "boards"]) fun _ _ _ _ _ _ us hl=>aDO hl fun _ _=>rfl
 have F30:=yW (st:=jV) l30 c30 k30
 have m30:=PySem.W.mg_of X G a30
 have bd30:=F30.binds (ps:=["text"]) fun _ _ _ _ _ _ us hl=>aBA hl fun _=>rfl
 have F31:=yW (st:=jN) l31 c31 k31
 have m31:=PySem.W.mg_of X G a31
 have bd31:=F31.binds (ps:=["_law_script", "_law_k"]) fun _ _ _ _ _ _ us hl=>aDO hl fun _ _=>rfl
 have F32:=yW (st:=zC) l32 c32 k32
 have m32:=PySem.W.mg_of X G a32
 have bd32:=F32.binds (ps:=["_law_cell_here", "_law_many"]) fun _ _ _ _ _ _ us hl=>aDO hl fun _ _=>rfl
 have F33:=yW (st:=qH) l33 c33 k33
 have m33:=PySem.W.mg_of X G a33
 have bd33:=F33.binds (ps:=["_law_parts"]) fun _ _ _ _ _ _ us hl=>aBA hl fun _=>rfl
 have F34:=yW (st:=yZ) l34 c34 k34
 have m34:=PySem.W.mg_of X G a34
 have bd34:=F34.binds (ps:=["_law_parts"]) fun _ _ _ _ _ _ us hl=>aBA hl fun _=>rfl
 have F35:=yW (st:=qI) l35 c35 k35
 have m35:=PySem.W.mg_of X G a35
 have bd35:=F35.binds (ps:=["_law_one", "_law_other"]) fun _ _ _ _ _ _ us hl=>aDO hl fun _ _=>rfl
 have F36:=yW (st:=jX) l36 c36 k36
 have m36:=PySem.W.mg_of X G a36
 have bd36:=F36.binds (ps:=["_law_state"]) fun _ _ _ _ _ _ us hl=>aBA hl fun _=>rfl
 have F37:=yW (st:=vC) l37 c37 k37
 have m37:=PySem.W.mg_of X G a37
 have bd37:=F37.binds (ps:=["_law_one", "_law_other", "_law_sign"]) fun _ _ _ _ _ _ us hl=>aSR hl fun _ _ _=>rfl
 have F38:=yW (st:=qX) l38 c38 k38
 have m38:=PySem.W.mg_of X G a38
 have bd38:=F38.binds (ps:=["_law_state", "_law_room", "_law_deep"]) fun _ _ _ _ _ _ us hl=>aSR hl fun _ _ _=>rfl
 have F39:=yW (st:=zD) l39 c39 k39
 have m39:=PySem.W.mg_of X G a39
 have bd39:=F39.binds (ps:=["_law_state", "_law_room", "_law_deep"]) fun _ _ _ _ _ _ us hl=>aSR hl fun _ _ _=>rfl
 have F40:=yW (st:=jW) l40 c40 k40
 have m40:=PySem.W.mg_of X G a40
 have bd40:=F40.binds (ps:=["_law_state", "_law_room", "_law_deep"]) fun _ _ _ _ _ _ us hl=>aSR hl fun _ _ _=>rfl
 have F41:=yW (st:=vA) l41 c41 k41
 have m41:=PySem.W.mg_of X G a41
 have bd41:=F41.binds (ps:=["_law_state", "_law_room", "_law_deep"]) fun _ _ _ _ _ _ us hl=>aSR hl fun _ _ _=>rfl
 have F42:=yW (st:=zS) l42 c42 k42
 have m42:=PySem.W.mg_of X G a42
 have bd42:=F42.binds (ps:=["_law_tokens", "_law_xs"]) fun _ _ _ _ _ _ us hl=>aDO hl fun _ _=>rfl
 have F43:=yW (st:=zR) l43 c43 k43
 have m43:=PySem.W.mg_of X G a43
 have bd43:=F43.binds (ps:=["_law_xs"]) fun _ _ _ _ _ _ us hl=>aBA hl fun _=>rfl
 have F44:=yW (st:=zH) l44 c44 k44
 have m44:=PySem.W.mg_of X G a44
 have bd44:=F44.binds (ps:=["_law_xs"]) fun _ _ _ _ _ _ us hl=>aBA hl fun _=>rfl
 have F45:=yW (st:=zI) l45 c45 k45
 have m45:=PySem.W.mg_of X G a45
 have bd45:=F45.binds (ps:=["_law_found"]) fun _ _ _ _ _ _ us hl=>aBA hl fun _=>rfl
 have F46:=yW (st:=aKQ) l46 c46 k46
 have m46:=PySem.W.mg_of X G a46
 refine ⟨PySem.W.fnOf "law" "law" (yN aKQ) (yF aKQ) (yC aKQ) .none kV46 dc46 pm46 an46 cd46 ct46,fun s v=>.of_eq rfl,fun base KB _=>?_⟩
 have FI:=yW (st:=vG) lI cI kI
 have bdI:=FI.binds (ps:=["self", "tokens"]) fun _ _ _ _ _ _ us hl=>aDO hl fun _ _=>rfl
 have okI:qL l.prog w K mg base CX0 1 _ _ _ (aTL cR):=eIL ht FI aKP ⟨r5,r6,r7,r8⟩ r9 r10 r11 rfl rfl rfl
 have ok1:qL l.prog w K mg base CX0 1 _ _ _ (spC K vL):=wQ ht F1 aKF aIY fun XX hX=>aNZ hX m_len m_tuple
 have ok2:qL l.prog w K mg base CX0 1 _ _ _ (spC K aDR):=wQ ht F2 aVL aSB fun XX hX=>eBC hX m_len
 have ok3:qL l.prog w K mg base CX0 2 _ _ _ (spC K aFT):=wQ ht F3 aXO aVV fun XX hX=>eDI hX  (hX.callee ok1 (by decide) m1 k1 bd1)
 have ok4:qL l.prog w K mg base CX0 3 _ _ _ (spC K aCA):=wQ ht F4 aRL aPT fun XX hX=>aWJ hX m_max m_len m_range (hX.callee ok3 (by decide) m3 k3 bd3) (hX.callee ok2 (by decide) m2 k2 bd2)
 have ok5:qL l.prog w K mg base CX0 1 _ _ _ (spC K aBG):=wQ ht F5 aMI aKV fun XX hX=>aQX hX m_tuple
 have ok6:qL l.prog w K mg base CX0 3 _ _ _ (spC K aCO):=wQ ht F6 aOR aNB fun XX hX=>aSU hX m_enumerate m_len (hX.callee ok3 (by decide) m3 k3 bd3)
 have ok7:qL l.prog w K mg base CX0 2 _ _ _ (spC K aCB):=wQ ht F7 aRM aPU fun XX hX=>aWK hX  (hX.callee ok1 (by decide) m1 k1 bd1)
 have ok8:qL l.prog w K mg base CX0 4 _ _ _ (spC K wX):=wQ ht F8 aML aKY fun XX hX=>aQZ hX m_max m_len m_range (hX.callee ok7 (by decide) m7 k7 bd7) (hX.callee ok4 (by decide) m4 k4 bd4) (hX.callee ok2 (by decide) m2 k2 bd2)
 have ok9:qL l.prog w K mg base CX0 5 _ _ _ (spC K aAF):=wQ ht F9 aKL aJE fun XX hX=>aOC hX m_tuple (hX.callee ok8 (by decide) m8 k8 bd8) (hX.callee ok5 (by decide) m5 k5 bd5)
 have ok10:qL l.prog w K mg base CX0 4 _ _ _ (spC K vN):=wQ ht F10 aKK aJD fun XX hX=>aOB hX m_enumerate m_len (hX.callee ok7 (by decide) m7 k7 bd7) (hX.callee ok4 (by decide) m4 k4 bd4) (hX.callee ok6 (by decide) m6 k6 bd6)
 have ok11:qL l.prog w K mg base CX0 1 _ _ _ (spC K aCR):=wQ ht F11 aOV aNF fun XX hX=>aSW hX   ⟨tk_FIGURES,PySem.W.mg_of X G gc_FIGURES⟩
 have ok12:qL l.prog w K mg base CX0 1 _ _ _ (spC K aBH):=wQ ht F12 aMK aKX fun XX hX=>aQY hX m_len
 have ok13:qL l.prog w K mg base CX0 1 _ _ _ (spC K jJ):=eFJ ht F13 aEM aEA fun XX hX=>aFQ hX m_all m_len  ⟨g_WORDS,PySem.W.mg_of X G ga_WORDS,.tup gl_WORDS rfl rfl gp_WORDS⟩ ⟨tk_FIGURES,PySem.W.mg_of X G gc_FIGURES⟩
 have ok14:qL l.prog w K mg base CX0 2 _ _ _ (spC K aDY):=wQ ht F14 aRK aPS fun XX hX=>aWI hX  (hX.callee ok13 (by decide) m13 k13 bd13) (hX.callee ok12 (by decide) m12 k12 bd12) ⟨g_DOUBLE_SIGNS,PySem.W.mg_of X G ga_DOUBLE_SIGNS,.tup gl_DOUBLE_SIGNS rfl rfl gp_DOUBLE_SIGNS⟩
 have ok15:qL l.prog w K mg base CX0 3 _ _ _ (spC K aCN):=wQ ht F15 aOQ aNA fun XX hX=>aST hX m_len (hX.callee ok14 (by decide) m14 k14 bd14)
 have ok16:qL l.prog w K mg base CX0 1 _ _ _ (spC K aAD):=eFJ ht F16 aKI aJB fun XX hX=>aOA hX   ⟨tk_MOST_OPEN,PySem.W.mg_of X G gc_MOST_OPEN⟩
 have okrn17:qL l.prog w K mg base CX0 6 _ _ _ (eOO K aCP):=eIM ht F17 aOS aNC fun XX hX=>aQR hX m_isinstance m_str m_len (hX.callee ok15 (by decide) m15 k15 bd15) (hX.callee ok16 (by decide) m16 k16 bd16) (hX.mkR okI (by decide) ⟨r1,r2,r3,r4⟩ (PySem.W.mg_of X G eR) bdI ⟨r5,r6,r7,r8⟩ r9 r10 r11)
 have okz18:qL l.prog w K mg base CX0 1 _ _ _ (spR K zW):=aEH ht F18 aMJ aKW fun XX hX=>aNY hX m_len
 have okz19:qL l.prog w K mg base CX0 2 _ _ _ (spR K zV):=aEH ht F19 aMG aKT fun XX hX=>aNW hX  (hX.calleeR okz18 (by decide) m18 k18 bd18)
 have okz20:qL l.prog w K mg base CX0 3 _ _ _ (spR K vM):=aEH ht F20 aKG aIZ fun XX hX=>aLA hX  (hX.calleeR okz19 (by decide) m19 k19 bd19)
 have okz21:qL l.prog w K mg base CX0 1 _ _ _ (spR K aAC):=aEH ht F21 aKH aJA fun XX hX=>aLB hX m_len
 have okrd:∀ n,qL l.prog w K mg base CX0 (5 * n+5) f26 (PySem.W.fnOf "read_sum" "read_sum" (yN qP) (yF qP) (yC qP) .none kV26 dc26 pm26 an26 cd26 ct26) ["reader"] (spR K (wB (AR n))):=fun n=>by
  induction n with
  | zero=>exact aEH (k:=4) ht F26 aID (aGQ _) (fun XX hX r ok ds s d s' z=>by obtain ⟨_,_,T,_,_,_,hT,_⟩:=z; exact hT.1.1.2.1.elim)
  | succ n ih=>
  have o1:qL l.prog w K mg base CX0 (5 * n+5+1) _ _ _ (spR K (aCQ (AR (n+1)))):=aEH ht F22 aOU (aNE _) fun XX hX=>aQP (n:=n) hX  (hX.calleeR okz19 (by omega) m19 k19 bd19) (hX.calleeR ih (by omega) m26 k26 bd26) (hX.calleeR okz20 (by omega) m20 k20 bd20) (hX.callee ok11 (by omega) m11 k11 bd11)
  have o2:qL l.prog w K mg base CX0 (5 * n+6+1) _ _ _ (spR K (aBF (AR (n+1)))):=aEH ht F23 aMH (aKU _) fun XX hX=>aNX  hX m_list (hX.calleeR o1 (by omega) m22 k22 bd22) (hX.calleeR okz18 (by omega) m18 k18 bd18) (hX.calleeR okz19 (by omega) m19 k19 bd19) (hX.calleeR okz20 (by omega) m20 k20 bd20) ⟨tk_FIGURES,PySem.W.mg_of X G gc_FIGURES⟩
  have o3:qL l.prog w K mg base CX0 (5 * n+7+1) _ _ _ (spR K (aAE (AR (n+1)))):=aEH ht F24 aKJ (aJC _) fun XX hX=>aLC (eQJ (n+1)) hX  (hX.calleeR o2 (by omega) m23 k23 bd23) (hX.calleeR okz18 (by omega) m18 k18 bd18) (hX.calleeR okz19 (by omega) m19 k19 bd19) ⟨tk_MOST_MINUSES,PySem.W.mg_of X G gc_MOST_MINUSES⟩
  have o4:qL l.prog w K mg base CX0 (5 * n+8+1) _ _ _ (spR K (wD (AR (n+1)))):=aEH ht F25 aIE (aHB _) fun XX hX=>aJT  hX  (hX.calleeR o3 (by omega) m24 k24 bd24) (hX.calleeR okz18 (by omega) m18 k18 bd18) (hX.calleeR okz19 (by omega) m19 k19 bd19)
  have o5:qL l.prog w K mg base CX0 (5 * n+9+1) _ _ _ (spR K (wB (AR (n+1)))):=aEH ht F26 aID (aGQ _) fun XX hX=>aSO  hX  (hX.calleeR o4 (by omega) m25 k25 bd25) (hX.calleeR okz18 (by omega) m18 k18 bd18) (hX.calleeR okz19 (by omega) m19 k19 bd19)
  rw [show 5 * (n+1)+5=5 * n+9+1 by omega]; exact o5
 have okz26:qL l.prog w K mg base CX0 110 _ _ _ (spR K (wB (AR 21))):=okrd 21
 have ok27:qL l.prog w K mg base CX0 1 _ _ _ (spC K aFU):=wQ ht F27 aVM aSC fun XX hX=>eBD hX m_int
 have ok28:qL l.prog w K mg base CX0 5 _ _ _ (spC K jU):=wQ ht F28 aFZ aFK fun XX hX=>aHG hX m_range (hX.callee ok10 (by decide) m10 k10 bd10)
 have okm29:qL l.prog w K mg base CX0 6 _ _ _ (eOP K wZ):=eIN ht F29 aFY rfl fun XX hX=>aGG hX m_int (hX.callee ok10 (by decide) m10 k10 bd10) (hX.callee ok9 (by decide) m9 k9 bd9) (hX.callee ok8 (by decide) m8 k8 bd8) (hX.callee ok28 (by decide) m28 k28 bd28) (hX.callee ok27 (by decide) m27 k27 bd27)
 have ok30:qL l.prog w K mg base CX0 111 _ _ _ (spC K (aAU (AR 21))):=wQ ht F30 aOT (aND (AR 21)) fun XX hX=>aSV hX  (hX.calleeRN okrn17 (by decide) m17 k17 bd17) (hX.calleeR okz26 (by decide) m26 k26 bd26) (hX.calleeR okz21 (by decide) m21 k21 bd21) (hX.calleeM2 okm29 (by decide) m29 k29 bd29) ⟨tk_MOST_SIGNS,PySem.W.mg_of X G gc_MOST_SIGNS⟩
 have ok31:qL l.prog w K mg base CX0 1 _ _ _ (spC K aCT):=wQ ht F31 aOY aNI fun XX hX=>aSY hX m_len
 have ok32:qL l.prog w K mg base CX0 1 _ _ _ (spC K wH):=wQ ht F32 aII aHE fun XX hX=>aLE hX m_range m_abs m_int
 have ok33:qL l.prog w K mg base CX0 1 _ _ _ (spC K aCS):=wQ ht F33 aOW aNG fun XX hX=>aSX hX m_list m_tuple m_len
 have ok34:qL l.prog w K mg base CX0 2 _ _ _ (spC K vP):=wQ ht F34 aGZ aGC fun XX hX=>aJX hX m_range m_tuple m_len (hX.callee ok33 (by decide) m33 k33 bd33)
 have okd35:qL l.prog w K mg base CX0 1 _ _ _ (spD K jE):=eFK ht F35 aIH aHD fun XX hX=>aJW hX
 have oks36:qL l.prog w K mg base CX0 1 _ _ _ (spS K jY):=aFN ht F36 aOX aNH fun XX hX=>aQQ hX
 have okd37:qL l.prog w K mg base CX0 1 _ _ _ (spD K wC):=eFK ht F37 aRN aPV fun XX hX=>aSS hX m_dict
 have ds_atom_0:qL l.prog w K mg base CX0 2 _ _ _ (spS K (aAW 0)):=aFN ht F38 aGK (aFM 0) fun XX hX=>aGY hX (.inl rfl) m_str m_int (hX.calleeS oks36 (by decide) m36 k36 bd36) (fun m e=>nomatch e)
 have ds_factor_0:qL l.prog w K mg base CX0 3 _ _ _ (spS K (vO 0)):=aFN ht F39 aEE (aDF 0) fun XX hX=>aEJ hX (.inl rfl) m_range m_min m_max m_str (hX.calleeS oks36 (by decide) m36 k36 bd36) (hX.calleeS ds_atom_0 (by decide) m38 k38 bd38) (hX.calleeD okd35 (by decide) m35 k35 bd35) (hX.calleeD okd37 (by decide) m37 k37 bd37)
 have ds_prod_0:qL l.prog w K mg base CX0 4 _ _ _ (spS K (aAV 0)):=aFN ht F40 aGJ (aFL 0) fun XX hX=>aGX hX (.inl rfl)  (hX.calleeS ds_factor_0 (by decide) m39 k39 bd39) (hX.calleeS oks36 (by decide) m36 k36 bd36) (hX.calleeD okd35 (by decide) m35 k35 bd35)
 have ds_sum_0:qL l.prog w K mg base CX0 5 _ _ _ (spS K (aAJ 0)):=aFN ht F41 aIF (aGR 0) fun XX hX=>aJV hX (.inl rfl) m_range (hX.calleeS ds_prod_0 (by decide) m40 k40 bd40) (hX.calleeD okd37 (by decide) m37 k37 bd37) (hX.calleeS oks36 (by decide) m36 k36 bd36)
 have ds_atom_1:qL l.prog w K mg base CX0 6 _ _ _ (spS K (aAW 1)):=aFN ht F38 aGK (aFM 1) fun XX hX=>aGY hX (.inr rfl) m_str m_int (hX.calleeS oks36 (by decide) m36 k36 bd36) (fun m e=>by cases e; exact (hX.calleeS ds_sum_0 (by decide) m41 k41 bd41))
 have ds_factor_1:qL l.prog w K mg base CX0 7 _ _ _ (spS K (vO 1)):=aFN ht F39 aEE (aDF 1) fun XX hX=>aEJ hX (.inr rfl) m_range m_min m_max m_str (hX.calleeS oks36 (by decide) m36 k36 bd36) (hX.calleeS ds_atom_1 (by decide) m38 k38 bd38) (hX.calleeD okd35 (by decide) m35 k35 bd35) (hX.calleeD okd37 (by decide) m37 k37 bd37)
 have ds_prod_1:qL l.prog w K mg base CX0 8 _ _ _ (spS K (aAV 1)):=aFN ht F40 aGJ (aFL 1) fun XX hX=>aGX hX (.inr rfl)  (hX.calleeS ds_factor_1 (by decide) m39 k39 bd39) (hX.calleeS oks36 (by decide) m36 k36 bd36) (hX.calleeD okd35 (by decide) m35 k35 bd35)
 have ds_sum_1:qL l.prog w K mg base CX0 9 _ _ _ (spS K (aAJ 1)):=aFN ht F41 aIF (aGR 1) fun XX hX=>aJV hX (.inr rfl) m_range (hX.calleeS ds_prod_1 (by decide) m40 k40 bd40) (hX.calleeD okd37 (by decide) m37 k37 bd37) (hX.calleeS oks36 (by decide) m36 k36 bd36)
 have oks41:=ds_sum_1
 have ok42:qL l.prog w K mg base CX0 1 _ _ _ (spC K aAH):=wQ ht F42 aKN aJG fun XX hX=>aOE hX m_range m_len
 have ok43:qL l.prog w K mg base CX0 2 _ _ _ (spC K aAG):=wQ ht F43 aKM aJF fun XX hX=>aOD hX m_range m_str (hX.calleeD okd37 (by decide) m37 k37 bd37) (hX.calleeD okd35 (by decide) m35 k35 bd35)
 have ok44:qL l.prog w K mg base CX0 3 _ _ _ (spC K wF):=wQ ht F44 aIG aHC fun XX hX=>aLD hX m_str (hX.callee ok43 (by decide) m43 k43 bd43) (hX.calleeD okd37 (by decide) m37 k37 bd37)
 have ok45:qL l.prog w K mg base CX0 1 _ _ _ (spC K aAI):=wQ ht F45 aKO aJH fun XX hX=>aOF hX m_isinstance m_tuple m_all m_int m_bool
 have ok46:qL l.prog w K mg base CX0 112 _ _ _ (spC K aTD):=wQ ht F46 eKV eIC fun XX hX=>eQS hX  (hX.callee ok32 (by decide) m32 k32 bd32) (hX.calleeS oks41 (by decide) m41 k41 bd41) (hX.callee ok30 (by decide) m30 k30 bd30) (hX.callee ok31 (by decide) m31 k31 bd31) (hX.callee ok44 (by decide) m44 k44 bd44) (hX.callee ok42 (by decide) m42 k42 bd42) (hX.callee ok45 (by decide) m45 k45 bd45) (hX.callee ok34 (by decide) m34 k34 bd34)
 exact ok46
theorem walk {l:PySem.W.OpenLaw} {q:Program} {loose:List Str} {XP:(Str->Option Value)->Heap->Prop} {YP:World->Heap->Prop} {d:DefRec} {K:Params->PySem.W.Frag} (hq:importsNone q=true) (hn:l.most=some 63) (hdf:d.params.defaults=[])
  (hY:∀ (w:World) (h:Heap),YP w h->(K w.params).In h)
  (F:∀ (w:World) (mg:Str->Option Value) (fa:Addr) (h:Heap),(K w.params).In h->h.Ns mainGlobals mg->mg d.name=some (.ref fa) ->
   ∃ fd:FuncData,(∀ (s:Shared) (u:Value),BindsTo s fd ⟨[u],[]⟩ [("_law_script",u)])/\∀ base:Heap,(K w.params).In base->base.Ns mainGlobals mg->qL l.prog w (K w.params) mg base CX0 112 fa fd ["_law_script"] (spC (K w.params) aTD)) :
  PySem.W.WalkO q loose XP YP l.row.toRowW d [] (fun f vs=>PySem.call f vs):=
 L2.walk_of (n:=63) (k:=112) (x := "_law_script") (CX:=fun _=>CX0) (sp:=fun w=>spC (K w.params) aTD) hq hn (by decide) hdf ⟨rfl,by decide,by decide⟩ hY F (fun _ H a ns hl hO hS=>⟨H,[.scr ns],.bl true,.refl _,.cons (.scr hS) .nil,eCS ns hl,fun v F' H' x r=>by cases r; rfl⟩) fun _ _ _ _ _ z=>z
end
end My
namespace PySem.W.Fast
def tw10315807436707056737 := ()
def tw17282404154572185332 := ()
def tw5449848567032653979 := ()
def tw17960637174472500097 := ()
def tw15253822016702379231 := ()
def tw1544905448355422461 := ()
def tw447343814080839013 := ()
def tw4318137073628401321 := ()
def tw3392700469790296832 := ()
def tw17554983254560662833 := ()
def tw2223814844829194642 := ()
def tw1685906805827808911 := ()
def tw5588495304637256533 := ()
def tw6640328083000169189 := ()
def tw15362592510917489301 := ()
def tw4645462969252525103 := ()
def tw4500356557120544044 := ()
def tw108931893037577858 := ()
def tw6291716792776179038 := ()
def tw9846792195636691426 := ()
def tw348037203079136578 := ()
def tw10341527108406848713 := ()
def tw5026701799755097475 := ()
def tw2973072996270532477 := ()
def tw18064448634818260096 := ()
def tw5680300968114189764 := ()
def tw11147890589375532882 := ()
def tw5019556434369441494 := ()
def tw1735014857429525230 := ()
def tw10292389526823831140 := ()
def tw5759228738703280672 := ()
def tw16451604254257183246 := ()
def tw2862672624967458969 := ()
def tw1894685381158805155 := ()
def tw16546249534127019891 := ()
def tw9746806242009922239 := ()
def tw15064229968059125740 := ()
def tw18304750703185018193 := ()
def tw15379686541915463095 := ()
def tw1306610622612220459 := ()
def tw18147472512023400099 := ()
def tw6915313165533191959 := ()
def tw2375896282728187505 := ()
def tw3499000808919945857 := ()
def tw7625779404194818204 := ()
def tw1478902097856622956 := ()
def tw10792706660323854393 := ()
def tw12207954061194350190 := ()
def tw9958607466690761554 := ()
def tw18349704538474532735 := ()
def tw3594854825034047874 := ()
def tw15038249254383478723 := ()
def tw17005986711728491769 := ()
def tw11364310670221897312 := ()
def tw1628831938672604471 := ()
def tw4835658723780941773 := ()
def tw18069833568955837320 := ()
def tw8960004231539445584 := ()
def tw4784269066266690811 := ()
def tw14385039689288162108 := ()
def tw14056715444777970813 := ()
def tw8017798334577502873 := ()
def tw15253376629934124284 := ()
def tw14750993559349505272 := ()
def tw13658497417021358909 := ()
def tw11675757593115494943 := ()
def tw6944016083970202404 := ()
def tw5005972327452732875 := ()
def tw6259139652470390906 := ()
def tw6028874134459685958 := ()
def tw8875290121622088609 := ()
def tw17423699936909712494 := ()
def tw2589557995177093507 := ()
def tw11882382643843357197 := ()
def tw15861182023353123751 := ()
def tw9183684301296714092 := ()
def tw9798805317939210877 := ()
def tw2847198970986069806 := ()
def tw17993242208712008344 := ()
def tw9771331891722928118 := ()
def tw303035543032805005 := ()
def tw8480404363030709775 := ()
def tw15603724099173309938 := ()
def tw7070874673405472210 := ()
def tw692152576107284407 := ()
def tw4487123552359791410 := ()
def tw11856452384242443783 := ()
def tw6917125385100711165 := ()
def tw14159887431416826827 := ()
def tw3989196730477906351 := ()
def tw11919923107126759025 := ()
def tw11001129689878606742 := ()
def tw7487587696640551687 := ()
def tw5314341642388516896 := ()
def tw201568475488648542 := ()
def tw9689423047033729603 := ()
def tw15788161528816176383 := ()
def tw498142064278346968 := ()
def tw2996650965295360397 := ()
def tw6569885865737284024 := ()
def tw9079844022327149358 := ()
def tw16343946947453113871 := ()
def tw11546293738795130953 := ()
def tw3122283995774865767 := ()
def tw5777295733951628808 := ()
def tw15493567755188071069 := ()
def tw13719480866255599211 := ()
def tw7337748488838736866 := ()
def tw6481786178173783915 := ()
def tw9388271636817821752 := ()
def tw14510842886145195434 := ()
def tw16579097559081226855 := ()
def tw5573737883846031996 := ()
def tw5636667461182229768 := ()
def tw11091247981571516089 := ()
def tw12191902598106421426 := ()
def tw13917591517690348565 := ()
def tw1128270645327340378 := ()
def tw4882772198457484126 := ()
def tw7381665224398075923 := ()
def tw12723052556557939747 := ()
def tw12645587615982068096 := ()
def tw6523421681868748783 := ()
def tw10279502468051374728 := ()
def tw5098449451072729926 := ()
def tw18191051059917192887 := ()
def tw9828050981011738877 := ()
def tw7560774650694663926 := ()
def tw13840750024489525322 := ()
def tw7913090892272025840 := ()
def tw9278096392800412356 := ()
def tw4312052472668519883 := ()
def tw11097501547917809944 := ()
def tw10220204088630429319 := ()
def tw15980172785980300925 := ()
def tw12227778223994791927 := ()
def tw18031060166561390174 := ()
def tw7064280860097272847 := ()
def tw10045647725676636183 := ()
def tw12784995751795686053 := ()
def tw15203494793900701296 := ()
def tw482619682715247581 := ()
def tw6725269854415120054 := ()
def tw4498310184912625088 := ()
def tw3379664186896250204 := ()
def tw12198520236694446903 := ()
def tw15527713456965095175 := ()
def tw4270117884334555068 := ()
def tw11758884957655889639 := ()
def tw18327098552289332922 := ()
def tw6156713269026236273 := ()
def tw3866642349892382728 := ()
def tw425629799772371568 := ()
def tw15446077057768522646 := ()
def tw8553357058973798076 := ()
def tw14065512543490608459 := ()
def tw5754577034113316627 := ()
def tw294848291885764431 := ()
def tw8054789863050986213 := ()
def tw9409768947004081598 := ()
def tw17329243008468704957 := ()
def tw10943651242610936771 := ()
def tw5624825071455518981 := ()
def tw14668221729843736483 := ()
def tw15196282621728030728 := ()
def tw16686802383001172753 := ()
def tw6586302800490646649 := ()
def tw8194744463338124888 := ()
def tw15440081564338574993 := ()
def tw4767238787757796673 := ()
def tw17213064518067072412 := ()
def tw15789588689779589533 := ()
def tw5052241255547805057 := ()
def tw13861696059689552185 := ()
def tw13913370729041143184 := ()
def tw12859903207157731339 := ()
def tw17973450375905570810 := ()
def tw16700729399835008690 := ()
def tw5291306538555783658 := ()
def tw15650592209497320522 := ()
def tw11556714360010366161 := ()
def tw5179204920794270504 := ()
def tw16406576842922395127 := ()
def tw17385557244396453849 := ()
def tw8219285105479090376 := ()
def tw13689595919640374337 := ()
def tw268258747811982127 := ()
def tw2919332151607432294 := ()
def tw13686077459731747377 := ()
def tw623926594193129543 := ()
def tw4877665802134638932 := ()
def tw385784644417172983 := ()
def tw17881267278978719190 := ()
def tw11932643122028231643 := ()
def tw14019945431929633362 := ()
def tw15619398345714314124 := ()
def tw14618097485799222723 := ()
def tw5877522016036059090 := ()
def tw18023979625311715182 := ()
def tw618376055351579512 := ()
def tw16511822484457605161 := ()
def tw10145734590632776485 := ()
def tw12163173562716677800 := ()
def tw8564242266792051571 := ()
def tw8638977626674826739 := ()
def tw6071864166765719202 := ()
def tw9849176400476278063 := ()
def tw16676899131016175716 := ()
def tw11379549985307338633 := ()
def tw5626123032477103645 := ()
def tw17601462693445919472 := ()
def tw16260363520665603722 := ()
def tw9101019173841992192 := ()
def tw7057896729937551438 := ()
def tw7529526615528305785 := ()
def tw11065184896715487084 := ()
def tw15764617310612922804 := ()
def tw6832810488840366455 := ()
def tw867485087672685760 := ()
def tw9751025991079817145 := ()
def tw5436309756320538805 := ()
def tw8454346267059431712 := ()
def tw11793094863168766103 := ()
def tw4501229278906199811 := ()
def tw15521053979411924516 := ()
def tw15998259768660987539 := ()
def tw12310480936319786127 := ()
def tw9028107048587661674 := ()
def tw12690327830348189360 := ()
def tw8209762231039652241 := ()
def tw14591922929635497318 := ()
def tw15460564715388352622 := ()
def tw878621083119852873 := ()
def tw13557091747186609460 := ()
def tw5990919345675596330 := ()
def tw9353004508387588041 := ()
def tw6146139597859326185 := ()
def tw8866116472379148401 := ()
def tw11031298736102554373 := ()
def tw4639387891246021677 := ()
def tw9954372020241925051 := ()
def tw13811849762886251699 := ()
def tw15643934789395830376 := ()
def tw13268728151583571396 := ()
def tw16102517597999274206 := ()
def tw247913101079891697 := ()
def tw10160458627984931995 := ()
def tw8171987670665118719 := ()
def tw5690434920309772052 := ()
def tw442512700754259104 := ()
def tw7835720626733880135 := ()
def tw703795338152872567 := ()
def tw14087176421458607253 := ()
def tw3335071225863177521 := ()
def tw12308703049072674000 := ()
def tw14764910449643247550 := ()
def tw12960486315366539165 := ()
def tw610270290089085585 := ()
def tw3829944951986998121 := ()
def tw7615361676455830775 := ()
def tw7819108481497332249 := ()
def tw3296531967470898231 := ()
def tw4636860294586360718 := ()
def tw1501230428132742524 := ()
def tw8077385286832655833 := ()
def tw7064729828938568527 := ()
def tw8075167696092627836 := ()
def tw4669565991280386685 := ()
def tw12678719981139216542 := ()
def tw5120358120882741602 := ()
def tw4012399527039789463 := ()
def tw17264764492338029169 := ()
def tw3908565597637355281 := ()
def tw11043404457712228296 := ()
def tw18138888993137197970 := ()
def tw8654936695868571057 := ()
def tw1938978168332852087 := ()
def tw14785818812075647764 := ()
def tw6083556678126866353 := ()
def tw4143741939641015048 := ()
def tw16683410596617052313 := ()
def tw6193056563546517739 := ()
def tw15711661188248174927 := ()
def tw17450389114536130987 := ()
def tw15050592399574990710 := ()
def tw17349632330202307056 := ()
def tw9248291744358405232 := ()
def tw4107486710058402154 := ()
def tw4419625580942247901 := ()
def tw13872024502990586166 := ()
def tw12466890718264259427 := ()
def tw1228259274824109432 := ()
def tw16112504983512237479 := ()
def tw503418621239842692 := ()
def tw2807324890073333544 := ()
def tw13982899756269670881 := ()
def tw6005469353079337360 := ()
def tw11285256343493907484 := ()
def tw12411950816646210058 := ()
def tw9198837350343724764 := ()
def tw11574265636803500856 := ()
def tw3131565191105927194 := ()
def tw16229596783758404794 := ()
def tw14710807498130024435 := ()
def tw7176668056525772328 := ()
def tw5768482699648384225 := ()
def tw15895282985788342904 := ()
def tw9659877226488375523 := ()
def tw9918489214614293008 := ()
def tw10725097474566557042 := ()
def tw5662098644386258032 := ()
def tw13010694719825672768 := ()
def tw10600566256495363047 := ()
theorem te17261982253147283196 : True := trivial
def tw16696802504797153582 := ()
def tw10582490440479460658 := ()
def tw6418341587306233588 := ()
def tw13772909224319846419 := ()
end PySem.W.Fast
open PySem PySem.W PyProof.Rows
set_option maxRecDepth 100000 in
set_option maxHeartbeats 0 in
theorem PySem.Challenge.cw_planestacks_k29_terms_read_holds : PySem.Challenge.rw_planestacks_k29_terms_read.Holds := by
 w_on; o_law; k_head; (case hw => w_witness2)
 k_fill
 refine My.walk (l := PySem.Challenge.rw_planestacks_k29_terms_read) (by decide +kernel) rfl rfl (fun w h Y => PySem.W.kIn_of Y) ?F
 case F =>
  intro w mg fa h KX G hmg
  refine' My.all_mk rfl KX G hmg ?a1 ?l1 ?c1 ?k1 ?a2 ?l2 ?c2 ?k2 ?a3 ?l3 ?c3 ?k3 ?a4 ?l4 ?c4 ?k4 ?a5 ?l5 ?c5 ?k5 ?a6 ?l6 ?c6 ?k6 ?a7 ?l7 ?c7 ?k7 ?a8 ?l8 ?c8 ?k8 ?a9 ?l9 ?c9 ?k9 ?a10 ?l10 ?c10 ?k10 ?a11 ?l11 ?c11 ?k11 ?a12 ?l12 ?c12 ?k12 ?a13 ?l13 ?c13 ?k13 ?a14 ?l14 ?c14 ?k14 ?a15 ?l15 ?c15 ?k15 ?a16 ?l16 ?c16 ?k16 ?a17 ?l17 ?c17 ?k17 ?a18 ?l18 ?c18 ?k18 ?a19 ?l19 ?c19 ?k19 ?a20 ?l20 ?c20 ?k20 ?a21 ?l21 ?c21 ?k21 ?a22 ?l22 ?c22 ?k22 ?a23 ?l23 ?c23 ?k23 ?a24 ?l24 ?c24 ?k24 ?a25 ?l25 ?c25 ?k25 ?a26 ?l26 ?c26 ?k26 ?a27 ?l27 ?c27 ?k27 ?a28 ?l28 ?c28 ?k28 ?a29 ?l29 ?c29 ?k29 ?a30 ?l30 ?c30 ?k30 ?a31 ?l31 ?c31 ?k31 ?a32 ?l32 ?c32 ?k32 ?a33 ?l33 ?c33 ?k33 ?a34 ?l34 ?c34 ?k34 ?a35 ?l35 ?c35 ?k35 ?a36 ?l36 ?c36 ?k36 ?a37 ?l37 ?c37 ?k37 ?a38 ?l38 ?c38 ?k38 ?a39 ?l39 ?c39 ?k39 ?a40 ?l40 ?c40 ?k40 ?a41 ?l41 ?c41 ?k41 ?a42 ?l42 ?c42 ?k42 ?a43 ?l43 ?c43 ?k43 ?a44 ?l44 ?c44 ?k44 ?a45 ?l45 ?c45 ?k45 ?a46 ?l46 ?c46 ?k46 ?z_len ?z_tuple ?z_max ?z_range ?z_enumerate ?z_all ?z_isinstance ?z_str ?z_list ?z_int ?z_abs ?z_dict ?z_min ?z_bool ?ga_WORDS ?gl_WORDS ?gp_WORDS ?ga_DOUBLE_SIGNS ?gl_DOUBLE_SIGNS ?gp_DOUBLE_SIGNS ?gc_FIGURES ?gc_MOST_OPEN ?gc_MOST_MINUSES ?gc_MOST_SIGNS ?eR ?r1 ?r2 ?r3 ?r4 ?r5 ?r6 ?r7 ?r8 ?r9 ?r10 ?r11 ?lI ?cI ?kI
  (case a1 | l1 | c1 | k1 | a2 | l2 | c2 | k2 | a3 | l3 | c3 | k3 | a4 | l4 | c4 | k4 | a5 | l5 | c5 | k5 | a6 | l6 | c6 | k6 | a7 | l7 | c7 | k7 | a8 | l8 | c8 | k8 | a9 | l9 | c9 | k9 | a10 | l10 | c10 | k10 | a11 | l11 | c11 | k11 | a12 | l12 | c12 | k12 | a13 | l13 | c13 | k13 | a14 | l14 | c14 | k14 | a15 | l15 | c15 | k15 | a16 | l16 | c16 | k16 | a17 | l17 | c17 | k17 | a18 | l18 | c18 | k18 | a19 | l19 | c19 | k19 | a20 | l20 | c20 | k20 | a21 | l21 | c21 | k21 | a22 | l22 | c22 | k22 | a23 | l23 | c23 | k23 | a24 | l24 | c24 | k24 | a25 | l25 | c25 | k25 | a26 | l26 | c26 | k26 | a27 | l27 | c27 | k27 | a28 | l28 | c28 | k28 | a29 | l29 | c29 | k29 | a30 | l30 | c30 | k30 | a31 | l31 | c31 | k31 | a32 | l32 | c32 | k32 | a33 | l33 | c33 | k33 | a34 | l34 | c34 | k34 | a35 | l35 | c35 | k35 | a36 | l36 | c36 | k36 | a37 | l37 | c37 | k37 | a38 | l38 | c38 | k38 | a39 | l39 | c39 | k39 | a40 | l40 | c40 | k40 | a41 | l41 | c41 | k41 | a42 | l42 | c42 | k42 | a43 | l43 | c43 | k43 | a44 | l44 | c44 | k44 | a45 | l45 | c45 | k45 | a46 | l46 | c46 | k46 | z_len | z_tuple | z_max | z_range | z_enumerate | z_all | z_isinstance | z_str | z_list | z_int | z_abs | z_dict | z_min | z_bool | ga_WORDS | gl_WORDS => k_is)
  (case gp_WORDS => refine' (.cons (.str _ _) (.cons (.str _ _) (.cons (.str _ _) (.cons (.str _ _) (.cons (.str _ _) (.cons (.str _ _) (.cons (.str _ _) .nil))))))))
  (case ga_DOUBLE_SIGNS | gl_DOUBLE_SIGNS => k_is)
  (case gp_DOUBLE_SIGNS => refine' (.cons (.str _ _) (.cons (.str _ _) (.cons (.str _ _) .nil))))
  (case gc_FIGURES | gc_MOST_OPEN | gc_MOST_MINUSES | gc_MOST_SIGNS | eR | r1 | r2 | r3 | r4 | r5 | r6 | r7 | r8 | r9 | r10 | r11 | lI | cI | kI => k_is)
