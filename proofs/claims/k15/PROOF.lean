import PyProof.Rows.All
import Wide.All
import OpenK.AllK
import Wide.FinOn
import Lean
import PyProof.EqAt
import PyProof.EqKinds
import PyProof.TupleCall
import PySem.Challenge.RW_planestacks_k15_roots_weighed
set_option linter.all false
def af:=@PySem.wpAny_bind
def ah:=@List.length_map
def aj:=@List.mem_cons_of_mem
def ap:=@decide_eq_false
def aq:=@Rat.intCast_mul
def ar:=@PySem.wpAny_pure
def au:=@List.size_toArray
def aw:=@Rat.le_trans
def ay:=@if_neg
def az:=@Nat.le_refl
def aA:=@Rat.mul_nonneg
def aB:=@if_pos
def aC:=@List.mem_cons
def aE:=@Nat.lt_of_lt_of_le
def aF:=@Bool.false_ne_true
def aH:=@decide_eq_true
def aK:=@PySem.Heap.lt_size
def aM:=@Rat.mul_pos
def aN:=@Int.sign_eq_neg_one_of_neg
def aQ:=@Rat.le_of_lt
def aR:=@PySem.wpAny_mono
def aT:=@List.mem_cons_self
def aY:=@Int.sign_eq_one_of_pos
def aZ:=@Nat.le_trans
def ba:=@PySem.wpAny_newObj_type
def bc:=@Option.some.inj
def bi:=@List.mem_append_right
def bu:=@Int.natAbs_mul
def bw:=@List.length_take
def bx:=@Rat.intCast_sub
def bA:=@Int.mul_fdiv_cancel_left
def bB:=@Nat.pow_le_pow_right
def bG:=@List.map_append
def bJ:=@PySem.wpAny_field
def bL:=@Nat.ne_of_lt
def bU:=@Nat.lt_of_le_of_lt
def bV:=@List.length_append
def ck:=@List.length_set
def cm:=@Rat.mul_le_mul_of_nonneg_right
def cn:=@Bool.and_eq_true
def cy:=@Nat.mul_le_mul_right
def cz:=@List.eq_nil_of_length_eq_zero
def cI:=@PySem.W.mg_none_of
def cJ:=@List.mem_singleton
def cK:=@Int.natAbs_natCast
def c8:=@congrArg
def dh:=@Rat.pow_succ
def du:=@PyProof.Rows.slot_tuple_getitem
def dw:=@PySem.W.kia_one
def dA:=@List.lookup_cons
def dB:=@List.length_drop
def dC:=@List.length_cons
def dD:=@List.replicate_succ
def dF:=@Rat.le_refl
def dH:=@List.length_replicate
def dM:=@List.mem_filterMap
def dN:=@Int.emod_lt_of_pos
def dQ:=@List.map_cons
def dS:=@PySem.wpAny_call_entry
def dU:=@Nat.mul_le_mul_left
def dW:=@List.length_reverse
def ef:=@PySem.wpAny_holding
def eu:=@List.eq_nil_or_concat
def eE:=@List.take_length
def eV:=@PySem.Obj.data_mapFields
def e8:=@Rat.intCast_add
def fc:=@Int.emod_nonneg
def ff:=@List.filterMap_cons
def fq:=@PyProof.Rows.callWith_type1
def ft:=@Ne.symm
def fu:=@PySem.W.mg_of
def fv:=@Nat.lt_irrefl
def fB:=@List.concat_eq_append
def fI:=@Rat.pow_zero
def fJ:=@List.flatten_cons
def gd:=@PySem.mem_of_lookup
def gk:=@PySem.wpAny_loadPart_at
def gn:=@Nat.mul_le_mul
def gy:=@Nat.zero_le
def gF:=@Int.lt_or_gt_of_ne
def gG:=@Bool.false_eq_true
def gM:=@PySem.wpAny_setField
def gN:=@PySem.Heap.size_push
def hZ:=@Nat.lt_succ_of_lt
def ia:=@Nat.gcd_dvd_right
def ib:=@Int.lt_trichotomy
def ir:=@PySem.wpAny_passesOwn
def iu:=@PySem.wpAny_loadPart'
def iM:=@PySem.builtinLookup_eq_fast
def iN:=@PySem.Obj.isFreed_of_fields
def iO:=@List.not_mem_nil
def iP:=@List.map_map
def iQ:=@PySem.wpAny_truthy_bool
def iR:=@List.drop_eq_getElem_cons
def i8:=@Array.length_toList
def ji:=@PySem.wpAny_of_eq
def jj:=@Nat.gcd_pos_of_pos_right
def jk:=@Int.mul_ediv_cancel_left
def jm:=@PySem.F.slot_tuple_iterator_next
def jt:=@List.append_nil
def ju:=@Int.natCast_mul
def jM:=@PySem.wpAny_execs_cons
def jQ:=@PySem.Heap.SameBut.update
def kC:=@Nat.ne_of_gt
def kD:=@List.take_add_one
def kE:=@List.reverse_cons
def kF:=@List.foldl_append
def kG:=@Bool.not_eq_true'
def lL:=@Nat.gcd_dvd_left
def lY:=@PySem.isSubtype_type
def lZ:=@PySem.SeqAt.canLay_of_shaped
def l5:=@Rat.one_mul
def l6:=@Nat.pow_pos
def l7:=@Int.mul_one
def ny:=@PySem.W.hideAll_get
def nA:=@Int.sign_mul_natAbs
def nL:=@Rat.zero_mul
def nM:=@Nat.le_of_lt
def nO:=@Nat.le_of_eq
def nP:=@Int.mul_zero
def oM:=@if_false
def oN:=@List.drop_zero
def pY:=@PySem.wpAny_execs_nil
def pZ:=@PySem.typeLookup_type
def p6:=@Classical.byContradiction
def p7:=@List.append_assoc
def p8:=@Int.toNat_natCast
def rQ:=@PySem.wpAny_pyIter_tuple
def rR:=@PySem.wpAny_Call_Name_kw
def rS:=@Nat.not_lt_of_le
def rT:=@Nat.lt_succ_self
def rV:=@List.getElem_mem
def ud:=@Nat.succ_mul
def ue:=@Nat.pow_succ
def uf:=@Nat.le_mul_of_pos_left
def ug:=@Nat.gcd_comm
def ui:=@Rat.intCast_pow
def uj:=@List.range_succ
def uk:=@List.mem_append
def uo:=@List.length_nil
def uq:=@Bool.eq_iff_iff
def uU:=@PySem.wpAny_standAt
def uV:=@PySem.wpAny_attempt
def uW:=@Nat.le_of_ble_eq_true
def uX:=@List.length_singleton
def wL:=@PySem.wpAny_isInstance
def wM:=@PySem.W.looks_findIn
def wN:=@List.replicate_succ'
def wP:=@Int.one_mul
def yr:=@PySem.W.looks_mroIn
def yt:=@List.map_congr_left
def yx:=@PySem.wpAny_specialOf
def yy:=@Nat.dvd_trans
def yz:=@List.sum_cons
def yA:=@Int.mul_assoc
def yB:=@Bool.not_true
def zW:=@PySem.F.typeOf_object_class
def BM:=@or_false
def BN:=@decide_eq_true_eq
def BO:=@Rat.mul_zero
def BP:=@Rat.divInt_eq_div
def BQ:=@Nat.sub_zero
def BR:=@Int.pow_zero
def BS:=@Int.pow_succ
def BU:=@Int.natAbs_add_le
def DQ:=@Nat.min_le_right
def DR:=@Nat.le_add_right
def DS:=@List.any_eq_true
def DY:=@Rat.mul_one
def DZ:=@Int.mul_sub
def Fb:=@PySem.call_meets
def Fc:=@Rat.natCast_add
def Fd:=@Rat.intCast_neg
def Fe:=@List.of_mem_zip
def Ff:=@Int.neg_mul_neg
def FK:=@Nat.mul_lt_mul_of_pos_right
def Ht:=@PySem.wpAny_typeOf
def Hu:=@PySem.wpAny_sequenceKey
def Hv:=@PySem.seqIndex_neg
def Hw:=@congrFun
def Hx:=@PySem.codeAny_mono
def Hy:=@PySem.Obj.cls_mapFields
def Hz:=@Int.mul_nonneg
def HH:=@PyProof.Rows.slicePart_none
def HI:=@Int.eq_of_mul_eq_mul_left
def IW:=@PySem.entryFor_of_tree
def IY:=@Rat.mul_assoc
def IZ:=@Nat.mul_assoc
def Ja:=@Nat.add_assoc
def Jb:=@List.length_filterMap_le
def Jj:=@PySem.seqIndex_of
def Jk:=@PyProof.Rows.entry_tuple_getitem
def Jl:=@PySem.F.plainAttrs_list
def Kn:=@if_true
def Ko:=@PySem.W.cellsFrom_some
def Kp:=@Nat.add_zero
def Kq:=@Nat.add_comm
def Kr:=@List.take_of_length_le
def Ks:=@List.map_set
def Kt:=@List.dropWhile_sublist
def Ku:=@PySem.F.args_tuple_iterator_next_1
def KH:=@PyProof.Rows.assignInOrder_cons
def KI:=@PyProof.Rows.args_tuple_getitem
def KJ:=@List.dropLast_eq_take
def KL:=@PySem.F.entry_tuple_iterator_next
def KM:=@Bool.beq_eq_decide_eq
def K5:=@PySem.wpAny_rule
def K6:=@PySem.isSubtype_stop
def K7:=@Rat.div_def
def K8:=@Nat.pow_add
def K9:=@List.mem_of_mem_take
def La:=@List.mem_append_left
def Lb:=@List.length_dropLast
def Lc:=@Int.mul_pos
def Ld:=@Int.mul_neg
def Le:=@PySem.F.slot_range_iterator_next
def Lf:=@PySem.Calls.Name_function_global
local macro_rules|`(tactic|decide)=>`(tactic|decide +kernel)
abbrev yu(x:PySem.Str):Prop:=(x==("__debug__" : PySem.Str))=false
abbrev DT(sc:PySem.Scope)(x:PySem.Str):Prop:=sc.names.lookup x=some .globalImplicit
abbrev Jm(c:PySem.Pos)(es:List PySem.Expr)(E:PySem.Env):Prop:=((PySem.backTo c (PySem.starEach es E)).all (fun x=>!x.1)&&(PySem.backToKw c (PySem.keywordEach [] E)).all (fun x=>x.1.isSome)&&decide (es.length+([]:List PySem.Keyword).length+(if ([]:List PySem.Keyword).isEmpty then 0 else 1)<30))=true
abbrev Fi(e:PySem.Expr)(es:List PySem.Expr)(E:PySem.Env):Prop:=PySem.starEach (e::es) E=(false,PySem.eval e E)::PySem.starEach es E
abbrev BX(c:PySem.Pos)(es:List PySem.Expr)(E:PySem.Env):Prop:=(PySem.backTo c (PySem.starEach es E)).any (·.1)=false
abbrev dq:=PySem.W.Frag
abbrev aI:=List Int
abbrev Kv:=List Nat
abbrev fw:=List PySem.Str
abbrev ur:=List PySem.Expr
abbrev hW:=List PySem.Value
abbrev fQ:=List (PySem.Addr×PySem.Obj)
abbrev oO:=PySem.Value->PySem.Shared->Prop
abbrev uh:=PySem.Str->Option PySem.Value
set_option Elab.async false
set_option maxRecDepth 100000
namespace L2
open PySem PySem.Spec PyProof.Rows
variable {K:dq}
abbrev wU:=Sum Int Str
def FB:wU->Value->Bool
 |.inl k,v=>Value.isInt k v
 |.inr x,v=>Value.isStrOf x v
def JQ(w:World):wU->Int
 |.inl k=>hashInt k
 |.inr x=>hashStr w x
def eT:∀{k:wU} {v:Value},FB k v=true->(∃i t,k=Sum.inl i/\v=Value.int i t)\/(∃x t,k=Sum.inr x/\v=Value.str x t)
 |.inl i,v,h=>by
  obtain⟨t,e⟩:=Value.isInt_shape (k:=i) (v:=v) h
  exact .inl ⟨i,t,rfl,e⟩
 |.inr x,v,h=>by
  obtain⟨t,e⟩:=Value.isStrOf_shape (x:=x) (v:=v) h
  exact .inr ⟨x,t,rfl,e⟩
def GO(a b:Int):decide ((Sum.inl a:wU)=Sum.inl b)=(a==b):=by
 by_cases e:a=b
 ·subst e;simp
 ·have h:¬(Sum.inl a:wU)=Sum.inl b:=fun q=>e (Sum.inl.inj q)
  rw[ap h]
  exact(beq_eq_false_iff_ne.mpr e).symm
def GL(a b:Str):decide ((Sum.inr a:wU)=Sum.inr b)=decide (a=b):=by
 by_cases e:a=b
 ·subst e;simp
 ·have h:¬(Sum.inr a:wU)=Sum.inr b:=fun q=>e (Sum.inr.inj q)
  rw[ap h,ap e]
def GN(a:Int)(b:Str):decide ((Sum.inl a:wU)=Sum.inr b)=false:=ap (fun q=>nomatch q)
def GM(a:Str)(b:Int):decide ((Sum.inr a:wU)=Sum.inl b)=false:=ap (fun q=>nomatch q)
def vW(prog:Program)(w:World):PySem.KeyKind prog w wU where
 is:=FB
 hash:=JQ w
 inj:=fun v a b ha hb=>by
  rcases eT ha with⟨i,t,rfl,rfl⟩ | ⟨x,t,rfl,rfl⟩
  ·rcases eT hb with⟨j,u,rfl,e⟩ | ⟨y,u,rfl,e⟩
   ·injection e with e1 _;rw[e1]
   ·exact nomatch e
  ·rcases eT hb with⟨j,u,rfl,e⟩ | ⟨y,u,rfl,e⟩
   ·exact nomatch e
   ·injection e with e1 _;rw[e1]
 byValue:=fun k v h=>by
  rcases eT h with⟨i,t,rfl,rfl⟩ | ⟨x,t,rfl,rfl⟩<;>rfl
 pyHash:=fun hv h=>by
  rcases eT hv with⟨i,t,rfl,rfl⟩ | ⟨x,t,rfl,rfl⟩
  ·exact wpAny_pyHash_int h
  ·exact wpAny_pyHash_str h
 eqBool:=fun hu hv h=>by
  rcases eT hu with⟨i,t,rfl,rfl⟩ | ⟨x,t,rfl,rfl⟩
  ·rcases eT hv with⟨j,u,rfl,rfl⟩ | ⟨y,u,rfl,rfl⟩
   ·rw[GO] at h;exact wpAny_eqBool_int h
   ·rw[GN] at h;exact SeqAt.EqAt.int_str i t y u _ _ _ _ h
  ·rcases eT hv with⟨j,u,rfl,rfl⟩ | ⟨y,u,rfl,rfl⟩
   ·rw[GM] at h;exact SeqAt.EqAt.str_int x t j u _ _ _ _ h
   ·rw[GL] at h;exact wpAny_eqBool_str h
 «strs»:=fun k x t v h=>by
  rcases eT h with⟨i,u,rfl,e⟩ | ⟨y,u,rfl,e⟩
  ·exact nomatch e
  ·injection e with e1 _
   subst e1
   cases v<;>rfl
inductive V where
 |LH | bl (b:Bool) | int (i:Int) | str (x:Str) | NX (b:Array UInt8) | Qc (b:UInt64) | ref (a:Addr) | ty (n:String)
 deriving DecidableEq
abbrev fK:=List V
def RelV:V->Value->Prop
 |.LH,u=>u=Value.none
 |.bl b,u=>u=Value.bool b
 |.int i,u=>∃t,u=Value.int i t
 |.str x,u=>∃t,u=Value.str x t
 |.NX b,u=>∃t,u=Value.bytes b t
 |.Qc b,u=>∃t,u=Value.float b t
 |.ref a,u=>u=Value.ref a
 |.ty n,u=>u=Value.type n
abbrev Vals:fK->hW->Prop:=Paired RelV
def Vals.length(r:Vals xs us):xs.length=us.length:=Paired.length r
def Vals.get:∀{xs:fK} {us:hW} {i:Nat} {x:V},Vals xs us->xs[i]?=some x->∃u,us[i]?=some u/\RelV x u
 |_,_,_,_,.nil,e=>by simp at e
 |_,_,0,_,.cons r _,e=>by simp at e;subst e;exact⟨_,rfl,r⟩
 |_,_,i+1,x,.cons _ t,e=>by
  obtain⟨u,h1,h2⟩:=Vals.get (i:=i) (x:=x) t (by simpa using e)
  exact⟨u,by simpa using h1,h2⟩
def Vals.set(r:RelV x u):∀{xs:fK} {us:hW} (i:Nat),Vals xs us->Vals (xs.set i x) (us.set i u)
 |_,_,_,.nil=>.nil
 |_,_,0,.cons _ t=>.cons r t
 |_,_,i+1,.cons q t=>.cons q (Vals.set r i t)
def Vals.append:∀{xs ys:fK} {us ws:hW},Vals xs us->Vals ys ws->Vals (xs++ys) (us++ws)
 |_,_,_,_,.nil,s=>s
 |_,_,_,_,.cons r t,s=>.cons r (Vals.append t s)
def Vals.take:∀{xs:fK} {us:hW} (n:Nat),Vals xs us->Vals (xs.take n) (us.take n)
 |_,_,0,_=>.nil
 |_,_,_+1,.nil=>.nil
 |_,_,n+1,.cons r t=>.cons r (Vals.take n t)
def Vals.drop:∀{xs:fK} {us:hW} (n:Nat),Vals xs us->Vals (xs.drop n) (us.drop n)
 |_,_,0,r=>r
 |_,_,_+1,.nil=>.nil
 |_,_,n+1,.cons _ t=>Vals.drop n t
def Hj:Option V->Option Value->Prop
 |some v,some u=>RelV v u
 |none,none=>True
 |_,_=>False
def KV{κ:Type}:List (κ×V)->List (κ×Value)->Prop:=Paired fun(p:κ×V) (q:κ×Value)=>p.1=q.1/\RelV p.2 q.2
def kV:wU->V
 |.inl i=>.int i
 |.inr x=>.str x
inductive HO where
 |lst (xs:fK)
 |tup (xs:fK)
 |dK (kvs:List (wU×V)) | dT (kvs:List (List wU×V))
 |set (S:Int->Bool) (n:Nat)
 |ins (C dx:Addr) (fs:List (Str×V))
 |own (x:Addr)
 |xd (fs:List (Str×V))
 |met (f x:Addr)
 |Rn (lo hi:Int)
 |Mq (o:Obj) (u:HO)
 |NZ (ps:Array Value)
 |ext (φ:Heap->Prop)
abbrev Hp:=Addr->Option HO
def gq(H:Hp)(a:Addr)(o:HO):Hp:=fun b=>if b=a then some o else H b
def cH:gq H a o a=some o:=by unfold gq;rw[aB rfl]
def bo{a b:Addr}(h:b≠a):gq H a o b=H b:=by unfold gq;rw[ay h]
def dR{H:Hp}{a b:Addr}(h:H a=some o)(h':H b=none):a≠b:=by
 intro e;subst e;rw[h] at h';cases h'
section
variable (P:Program)(w:World)
def LF(H:Hp)(h:Heap)(a:Addr):HO->Prop
 |.lst xs=>xs.length<=sizeLine/\∃(its:hW) (n:Nat),Vals xs its/\h.get? a=some { cls:=.type "list",data:=.seq its.toArray n }
 |.tup xs=>xs.length<=sizeLine/\∃its:hW,Vals xs its/\IsTup h a its.toArray
 |.dK kvs=>kvs.length<=sizeLine/\(a==sysModules)=false/\∃vs,KV kvs vs/\h.DictOf (vW P w) a vs
 |.dT kvs=>kvs.length<=sizeLine/\(a==sysModules)=false/\∃xs:List (List wU×Addr×Value),
   Paired (fun(p:List wU×V) (q:List wU×Addr×Value)=>p.1=q.1/\H q.2.1=some (.tup (p.1.map kV))/\RelV p.2 q.2.2) kvs xs /\
   ∃o es ep,h.get? a=some o/\o.ExactDict/\o.data=.dict es ep/\es.toList=xs.map (entryOfKey (tupleKind (vW P w)))/\(xs.map (·.1)).Nodup
 |.set S n=>h.SetOf (intKind P w) a S n
 |.ins C dx fs=>H dx=some (.own a)/\fs.length<=1000/\dx≠a/\h.get? a=some (PySem.W.instObj C dx) /\
   ∃mA,h.Ns1 dx mA/\(∀f,Hj (fs.lookup f) (mA f))/\PySem.Within mA (fs.map (·.1))
 |.own _=>∃o,h.get? a=some o
 |.xd fs=>∃mA,h.Ns1 a mA/\∀f,Hj (fs.lookup f) (mA f)
 |.Rn lo hi=>∃t u v,h.get? a=some { cls:=.type "range",data:=.fields #[.int lo t,.int hi u,.int 1 v] }
 |.Mq o u=>h.get? a=some o/\LF H h a u
 |.NZ ps=>h.get? a=some { cls:=.none,data:=.fields ps }
 |.met f x=>h.get? a=some (PySem.W.methodObj (.ref f) (.ref x))
 |.ext φ=>φ h/\(∃o,h.get? a=some o)/\∀h1 h2:Heap,φ h1->(∀o,h1.get? a=some o->h2.get? a=some o)->φ h2
def MI(H:Hp)(h:Heap):Prop:=∀a o,H a=some o->LF P w H h a o
end
def LF.lt(x:LF P w H h a o):a<h.objs.size:=by
 cases o with
 |lst xs=>obtain⟨_,_,_,_,e⟩:=x;exact aK e
 |tup xs=>obtain⟨_,_,_,p⟩:=x;exact p.lt
 |dK kvs=>obtain⟨_,_,_,_,o,_,_,e,_⟩:=x;exact aK e
 |dT kvs=>obtain⟨_,_,_,_,o,_,_,e,_⟩:=x;exact aK e
 |set S n=>obtain⟨o,_,_,_,e,_⟩:=x;exact aK e
 |ins C dx fs=>obtain⟨_,_,_,e,_⟩:=x;exact aK e
 |own y=>obtain⟨_,e⟩:=x;exact aK e
 |xd fs=>obtain⟨_,⟨_,_,_,e,_⟩,_⟩:=x;exact aK e
 |Rn lo hi=>obtain⟨_,_,_,e⟩:=x;exact aK e
 |Mq ob u=>obtain⟨e,_⟩:=x;exact aK e
 |NZ ps=>exact aK (show h.get? a=some _ from x)
 |met f y=>exact aK (show h.get? a=some _ from x)
 |ext φ=>obtain⟨_,⟨_,e⟩,_⟩:=x;exact aK e
def Paired.Qs{α β:Type}{F G:α->β->Prop}:∀{l₁:List α} {l₂:List β},Paired F l₁ l₂->(∀a b,F a b->G a b)->Paired G l₁ l₂
 |_,_,.nil,_=>.nil
 |_,_,.cons r t,f=>.cons (f _ _ r) (Paired.Qs t f)
def LF.MW{H':Hp}{h':Heap}(x:LF P w H h a o)(k:∀b u,(b=a\/H b=some (.own a))->h.get? b=some u->h'.get? b=some u)(ho:∀b,H b=some (.own a)->H' b=some (.own a))(ht:∀b xs,H b=some (.tup xs)->H' b=some (.tup xs)):LF P w H' h' a o:=by
 induction o with
 |lst xs=>obtain⟨z,its,n,r,e⟩:=x;exact⟨z,its,n,r,k _ _ (.inl rfl) e⟩
 |tup xs=>obtain⟨z,its,r,ob,e,c⟩:=x;exact⟨z,its,r,ob,k _ _ (.inl rfl) e,c⟩
 |dK kvs=>obtain⟨z,y,vs,r,ob,es,ep,e,c⟩:=x;exact⟨z,y,vs,r,ob,es,ep,k _ _ (.inl rfl) e,c⟩
 |dT kvs=>
  obtain⟨z,y,xs,r,ob,es,ep,e,c⟩:=x
  exact⟨z,y,xs,Paired.Qs r fun p q z=>⟨z.1,ht _ _ z.2.1,z.2.2⟩,ob,es,ep,k _ _ (.inl rfl) e,c⟩
 |set S n=>obtain⟨ob,es,ep,t,e,c⟩:=x;exact⟨ob,es,ep,t,k _ _ (.inl rfl) e,c⟩
 |ins C dx fs=>
  obtain⟨d,z,ne,e,mA,⟨od,es,ep,e2,c⟩,r⟩:=x
  exact⟨ho _ d,z,ne,k _ _ (.inl rfl) e,mA,⟨od,es,ep,k _ _ (.inr d) e2,c⟩,r⟩
 |own y=>obtain⟨ob,e⟩:=x;exact⟨ob,k _ _ (.inl rfl) e⟩
 |xd fs=>obtain⟨mA,⟨od,es,ep,e,c⟩,r⟩:=x;exact⟨mA,⟨od,es,ep,k _ _ (.inl rfl) e,c⟩,r⟩
 |Rn lo hi=>obtain⟨t,u,v,e⟩:=x;exact⟨t,u,v,k _ _ (.inl rfl) e⟩
 |Mq ob u ih=>obtain⟨e,q⟩:=x;exact⟨k _ _ (.inl rfl) e,ih q⟩
 |NZ ps=>
  have e:h.get? a=some { cls:=.none,data:=.fields ps }:=x
  show h'.get? a=some { cls:=.none,data:=.fields ps }
  exact k a _ (.inl rfl) e
 |met f y=>
  have e:h.get? a=some (PySem.W.methodObj (.ref f) (.ref y)):=x
  show h'.get? a=some (PySem.W.methodObj (.ref f) (.ref y))
  exact k a _ (.inl rfl) e
 |ext φ=>obtain⟨p,⟨o,e⟩,st⟩:=x;exact⟨st _ _ p fun o q=>k _ _ (.inl rfl) q,⟨o,k _ _ (.inl rfl) e⟩,st⟩
def MI.lt{a:Addr}(x:MI P w H h)(e:H a=some o):a<h.objs.size:=(x a o e).lt
def MI.fresh{a:Addr}(x:MI P w H h)(e:h.objs.size<=a):H a=none:=by
 cases q:H a with
 |none=>rfl
 |some u=>exact absurd (aE (x.lt q) e) (fv _)
def MI.kept{h':Heap}(x:MI P w H h)(k:∀b u,h.get? b=some u->h'.get? b=some u):MI P w H h':=fun a o e=>
 (x a o e).MW (fun b u _ q=>k b u q) (fun _ q=>q) fun _ _ q=>q
def MI.laid{h':Heap}{a:Addr}(x:MI P w H h)(k:∀b u,h.get? b=some u->h'.get? b=some u)(hp:h.objs.size<=a)(new:LF P w (gq H a o) h' a o):MI P w (gq H a o) h':=fun b u e=>by
 have hn:=x.fresh hp
 by_cases hb:b=a
 ·subst hb;rw[cH] at e;cases e;exact new
 ·rw[bo hb] at e
  exact(x b u e).MW (fun c v _ q=>k c v q) (fun c q=>by rw[bo (dR q hn)];exact q) fun c xs q=>by rw[bo (dR q hn)];exact q
def Rd(H:Hp)(a:Addr)(u:HO):Prop:=H a=some u\/∃o,H a=some (.Mq o u)
def Rd.ok(r:Rd H a u)(x:MI P w H h):LF P w H h a u:=by
 rcases r with r | ⟨o,r⟩
 ·exact x a u r
 ·obtain⟨_,q⟩:=x a _ r
  exact q
def Ji:Option HO->Prop
 |some (.lst _)=>True
 |some (.dK _)=>True
 |some (.dT _)=>True
 |some (.set _ _)=>True
 |some (.ins _ _ _)=>True
 |some (.ext _)=>True
 |_=>False
def MI.write{h':Heap}{e:Addr}(ok:MI P w H h)(mu:Ji (H x))(he:e=x\/H e=some (.own x))(k:∀b u,b≠e->h.get? b=some u->h'.get? b=some u)(OO:∃u,h'.get? e=some u)(new:LF P w (gq H x o') h' x o'):MI P w (gq H x o') h':=fun b u q=>by
 have NQ:∀c y,H c=some (.own y)->c≠x:=fun c y r z=>by subst z;rw[r] at mu;exact mu
 have Sh:∀c xs,H c=some (.tup xs)->c≠x:=fun c xs r z=>by subst z;rw[r] at mu;exact mu
 by_cases hb:b=x
 ·subst hb;rw[cH] at q;cases q;exact new
 ·rw[bo hb] at q
  by_cases PH:b=e
  ·have q':H b=some (.own x):=by
    rcases he with z | z
    ·exact absurd (PH.trans z) hb
    ·rw[PH];exact z
   rw[q] at q';cases q'
   obtain⟨v,hv⟩:=OO
   exact⟨v,by rw[PH];exact hv⟩
  ·refine(ok b u q).MW (fun c v hc r=>k c v ?_ r) (fun c r=>by rw[bo (NQ c b r)];exact r) fun c xs r=>by rw[bo (Sh c xs r)];exact r
   rcases hc with rfl | hc
   ·exact PH
   ·rintro rfl
    rcases he with z | z
    ·exact NQ c b hc z
    ·rw[hc] at z;cases z;exact hb rfl
structure Un(fs ex:List Addr)(H H':Hp)(h h':Heap):Prop where
 keep:∀b o,h.get? b=some o->H b=none->b∉fs->b∉ex->h'.get? b=some o
 slot:∀b o,h.get? b=some o->H b=none->b∈fs->b∉ex->∃sl,h'.get? b=some { o with slots:=sl }
 free:∀b o,h.get? b=some o->H b=none->b∉ex->H' b=none
 there:∀b o,h.get? b=some o->b∉ex->∃o',h'.get? b=some o'
 L8:∀b xs,H b=some (.tup xs)->H' b=some (.tup xs)
 L4:∀b o u,H b=some (.Mq o u)->H' b=some (.Mq o u)
 Mb:∀b ps,H b=some (.NZ ps)->∃more,H' b=some (.NZ (ps++more))
def Un.any{b:Addr}(u:Un fs ex H H1 h h1)(q:h.get? b=some ob)(n:H b=none)(hx:b∉ex):∃sl,h1.get? b=some { ob with slots:=sl }:=by
 by_cases hb:b∈fs
 ·exact u.slot b ob q n hb hx
 ·exact⟨ob.slots,u.keep b ob q n hb hx⟩
def Un.kept{h:Heap}{h':Heap}(k:∀b u,h.get? b=some u->h'.get? b=some u):Un fs ex H H h h':=
 ⟨fun b ob q _ _ _=>k b ob q,fun b ob q _ _ _=>⟨ob.slots,k b ob q⟩,fun _ _ _ n _=>n,fun b ob q _=>⟨ob,k b ob q⟩,fun _ _ q=>q,fun _ _ _ q=>q,fun _ ps q=>⟨#[],by rw[q];simp⟩⟩
def Un.refl:Un fs ex H H h h:=Un.kept fun _ _ q=>q
def Un.laid{H:Hp}{h:Heap}{h':Heap}{a:Addr}(k:∀b u,h.get? b=some u->h'.get? b=some u)(hp:h.objs.size<=a)(hn:H a=none):Un fs ex H (gq H a o) h h' where
 keep:=fun b u q _ _ _=>k b u q
 slot:=fun b u q _ _ _=>⟨u.slots,k b u q⟩
 free:=fun b u q n _=>by rw[bo (bL (aE (aK q) hp))];exact n
 there:=fun b u q _=>⟨u,k b u q⟩
 L8:=fun b xs q=>by rw[bo (dR q hn)];exact q
 L4:=fun b u xs q=>by rw[bo (dR q hn)];exact q
 Mb:=fun b ps q=>⟨#[],by rw[bo (dR q hn),q];simp⟩
def Un.write{H:Hp}{h:Heap}{h':Heap}{e:Addr}(mu:Ji (H x))(he:e=x\/H e=some (.own x))(k:∀b u,b≠e->h.get? b=some u->h'.get? b=some u)(OO:∃u,h'.get? e=some u):Un fs ex H (gq H x o) h h':=by
 have hx:∀b,H b=none->b≠x:=fun b n z=>by subst z;rw[n] at mu;exact mu
 have hb:∀b,H b=none->b≠e:=fun b n z=>by
  subst z
  rcases he with r | r
  ·exact hx b n r
  ·rw[n] at r;cases r
 have hm:∀b u,H b=some u->¬Ji (some u)->b≠x:=fun b u q nm z=>by subst z;rw[q] at mu;exact nm mu
 refine⟨fun b u q n _ _=>k b u (hb b n) q,fun b u q n _ _=>⟨u.slots,k b u (hb b n) q⟩,fun b u q n _=>by rw[bo (hx b n)];exact n,fun b u q _=>?_,
  fun b xs q=>by rw[bo (hm b _ q fun z=>z)];exact q,fun b u xs q=>by rw[bo (hm b _ q fun z=>z)];exact q,fun b ps q=>⟨#[],by rw[bo (hm b _ q fun z=>z),q];simp⟩⟩
 by_cases PH:b=e
 ·subst PH;exact OO
 ·exact⟨u,k b u PH q⟩
def Jc(h:Heap)(H:Hp):List Addr:=(List.range h.objs.size).filter fun a=>(H a).isSome
def uI(h:Heap)(H:Hp):Heap:=PySem.W.hideAll h (Jc h H)
def Bs(h:Heap)(H:Hp):(uI h H).objs.size=h.objs.size:=PySem.W.hideAll_size _ _
def CY{h:Heap}{H:Hp}{b:Addr}(e:h.get? b=some o)(n:H b=none):(uI h H).get? b=some o:=
 ny _ e fun hm=>by
  have q:(H b).isSome=true:=(List.mem_filter.mp hm).2
  rw[n] at q;simp at q
def Ew{b:Addr}(e:(uI h H).get? b=some o):h.get? b=some o/\H b=none:=by
 have e':h.get? b=some o:=PySem.W.of_hideAll (Jc h H) e
 refine⟨e',?_⟩
 cases q:H b with
 |none=>rfl
 |some x=>
  have hm:b∈Jc h H:=List.mem_filter.mpr ⟨List.mem_range.mpr (aK e'),by simp[q]⟩
  have z:(uI h H).get? b=none:=PySem.W.hideAll_none (Jc h H) hm
  rw[z] at e;cases e
def E4(g h:Heap)(L:Addr):fQ:=(List.range h.objs.size).filterMap fun a=>if a=L\/(g.get? a).isSome=true then none else (h.get? a).map fun o=>(a,o)
def rest(g h:Heap)(L d:Addr):fQ:=(E4 g h L).filter fun p=>decide (p.1≠d)
structure Mod(K:dq)(mg:uh)(base:Heap):Prop where
 Rw:K.In base
 glob:base.Ns mainGlobals mg
 blt:∃mb,base.Ns builtinsNs mb/\∀x:Str,x ≠ "__name__" -> mb x=bootBuiltins x
 nolimit:base.NoLimit
 seer:base.NoSeer
structure Cx where
 prog:Program
 w:World
 K:dq
 mg:Str->Option Value
 base:Heap
 A:Around
 N:fw
 s₀:Shared
 H₀:Hp
 env:Env
 outer:List Env
 stack:List Env
 ex:List Addr
 fn:Str->Bool
 calm:Bool
 pn:fQ
 xe:Value->Shared->Prop
abbrev eG(X:Cx){α:Type}(m:Sem α)(Q:α->Shared->Prop)(E:Value->Shared->Prop)(s:Shared):Prop:=wpAny (model X.prog X.w) X.A m Q E s
def oo(l:List Env):List Addr:=l.filterMap (·.frame)
abbrev Cx.fs(X:Cx):List Addr:=oo X.outer
def IJ(sc:Scope)(x:Str):Prop:=sc.names.lookup x=some .local\/sc.names.lookup x=some .cell\/sc.names.lookup x=some .free
def Hm(sc:Scope)(x:Str):Prop:=sc.names.lookup x=some .local\/sc.names.lookup x=some .cell
def Ke(env:Env)(h:Heap)(m:uh)(x:Str)(u:Value):Prop:=
 (env.kindOf x=some .local/\m x=some u)\/((env.kindOf x=some .cell\/env.kindOf x=some .free)/\∃c,env.cells.lookup x=some c/\h.IsCell c (some u))
structure Cx.Ok(X:Cx):Prop where
 mod:Mod X.K X.mg X.base
 kind:X.env.scope.kind=.function
 glob:X.env.globals=mainGlobals
 blt:X.env.builtins=builtinsNs
 above:X.s₀.heap.objs.size<=X.env.locals
 inj:∀x y c,X.env.cells.lookup x=some c->X.env.cells.lookup y=some c->x=y
 has:∀x,(X.env.kindOf x=some .cell\/X.env.kindOf x=some .free)->∃c,X.env.cells.lookup x=some c
 Qd:∀x c,X.fn x=true->X.env.cells.lookup x=some c->X.s₀.heap.objs.size<=c
 hd:X.calm=true->X.A.handled=none
 frames:X.A.frames=some X.stack
 O0:X.stack=X.outer\/(X.stack=X.env::X.outer/\X.env.frame=some X.env.locals)
 Q3:∀b∈X.ex,b≠X.env.locals/\∀x c,X.env.cells.lookup x=some c->c≠b
 bs:∀b o,X.base.get? b=some o->X.s₀.heap.get? b=some o/\X.H₀ b=none
 OV:X.base.objs.size<=X.s₀.heap.objs.size
 Me:∀b o,X.base.get? b=some o->b∉X.ex
 NV:∀b∈X.ex,b∉X.fs
 MA:X.s₀.heap.FunFrames X.base X.outer
 PL:∀b∈X.fs,X.H₀ b=none
structure Inv(X:Cx)(pins:fQ)(σ:List (Option V))(H:Hp)(s:Shared):Prop where
 ok:X.Ok
 os:s.os=X.s₀.os
 bare:AllBare s.gens
 base:Un X.fs X.ex X.H₀ H X.s₀.heap s.heap
 loc:∃m,s.heap.Ns X.env.locals m/\∀(i:Nat) (x:Str) (v:V),X.N[i]?=some x->σ[i]?=some (some v)->IJ X.env.scope x->∃u,RelV v u/\Ke X.env s.heap m x u
 cell:∀x c,X.env.cells.lookup x=some c->∃v,s.heap.IsCell c v
 free:H X.env.locals=none
 L7:∀x c,X.env.cells.lookup x=some c->H c=none
 pin:∀p∈X.pn++pins,s.heap.get? p.1=some p.2/\H p.1=none/\p.1≠X.env.locals/\p.1∉X.fs/\∀v,p.2.data ≠ .cell v
 LA:MI X.prog X.w H s.heap
 len:σ.length=X.N.length
section
variable {σ:List (Option V)}
def Cx.Ok.Sj{b:Addr}{X:Cx}(ok:X.Ok)(e:X.base.get? b=some o):b∉X.fs:=fun hb=>by
 have:=(ok.MA.mem hb).1
 rw[e] at this;cases this
def Inv.bs(I:Inv X pins σ H s):∀b o,X.base.get? b=some o->s.heap.get? b=some o/\H b=none:=fun b o e=>
 ⟨I.base.keep b o (I.ok.bs b o e).1 (I.ok.bs b o e).2 (I.ok.Sj e) (I.ok.Me b o e),I.base.free b o (I.ok.bs b o e).1 (I.ok.bs b o e).2 (I.ok.Me b o e)⟩
def Inv.bk(I:Inv X pins σ H s):∀b o,X.base.get? b=some o->s.heap.get? b=some o:=fun b o e=>(I.bs b o e).1
def Inv.mod(I:Inv X pins σ H s):Mod X.K X.mg X.base:=I.ok.mod
def Inv.MX(I:Inv X pins σ H s):X.K.In s.heap:=I.ok.mod.Rw.keeps I.bk
def Inv.nolimit(I:Inv X pins σ H s):s.heap.NoLimit:=I.ok.mod.nolimit.keeps I.bk
def Inv.lt(I:Inv X pins σ H s):X.env.locals<s.heap.objs.size:=let ⟨_,hn,_⟩:=I.loc;hn.lt
def Inv.sz(I:Inv X pins σ H s):X.s₀.heap.objs.size<=s.heap.objs.size:=aZ I.ok.above (nM I.lt)
def Inv.Si{a:Addr}(I:Inv X pins σ H s)(h:s.heap.objs.size<=a):a∉X.fs:=fun hb=>by
 obtain⟨_,o,ho,_⟩:=I.ok.MA.mem hb
 exact absurd (aE (aK ho) (aZ I.sz h)) (fv _)
def Inv.OS(I:Inv X pins σ H s):∀x c,X.env.cells.lookup x=some c->c≠X.env.locals:=fun x c e z=>by
 obtain⟨v,o,ho,hd⟩:=I.cell x c e
 obtain⟨m,⟨o',es,ep,Pr,QO,_⟩,_⟩:=I.loc
 rw[z,Pr] at ho;cases ho;rw[QO] at hd;cases hd
def Inv.MA(I:Inv X pins σ H s):s.heap.FunFrames X.base X.outer:=by
 have all:∀(l:List Env),(∀b∈oo l,b∈X.fs)->X.s₀.heap.FunFrames X.base l->s.heap.FunFrames X.base l:=by
  intro l
  induction l with
  |nil=>intro _ _;trivial
  |cons env r ih=>
   intro hs hl
   obtain⟨hk,⟨L,o,hf,hn,ho,hd⟩,hr⟩:=hl
   have hL:L∈X.fs:=hs L (by unfold oo;rw[ff,hf];exact aT)
   obtain⟨sl,e⟩:=I.base.slot L o ho (I.ok.PL L hL) hL fun z=>I.ok.NV L z hL
   exact⟨hk,⟨L,_,hf,hn,e,hd⟩,ih (fun b hb=>hs b (by unfold oo;rw[ff,hf];exact aj _ hb)) hr⟩
 exact all X.outer (fun _ hb=>hb) I.ok.MA
def Inv.stack(I:Inv X pins σ H s):s.heap.FunFrames X.base X.stack:=by
 rcases I.ok.O0 with e | ⟨e,hf⟩
 ·rw[e];exact I.MA
 ·rw[e]
  obtain⟨m,hn,_⟩:=I.loc
  refine .cons (by rw[I.ok.kind];decide) hf hn ?_ I.MA
  exact Heap.get?_none_of_le (aZ I.ok.OV I.ok.above)
def Inv.MN(I:Inv X pins σ H s):∀b∈oo X.stack,b∈X.env.locals::X.fs:=fun b hb=>by
 rcases I.ok.O0 with e | ⟨e,hf⟩
 ·rw[e] at hb;exact aj _ hb
 ·rw[e] at hb
  unfold oo at hb
  rw[ff,hf] at hb
  exact hb
def Inv.ML(I:Inv X pins σ H s):∀b∈oo X.stack,H b=none:=fun b hb=>by
 rcases aC.mp (I.MN b hb) with e | hb
 ·rw[e];exact I.free
 ·obtain⟨_,o,ho,_⟩:=I.ok.MA.mem hb
  exact I.base.free b o ho (I.ok.PL b hb) fun z=>I.ok.NV b z hb
def Inv.step{t':Nat}{ch:List Addr}{H':Hp}{h':Heap}{g':Array GenState}{d':Drawn}(I:Inv X pins σ H s)(Oy:∀b∈ch,(b∈X.ex\/X.s₀.heap.objs.size<=b)/\b≠X.env.locals/\(∀x c,X.env.cells.lookup x=some c->c≠b)/\∀p∈X.pn++pins,p.1≠b)(keep:∀b o,b≠X.env.locals->b∉X.fs->b∉ch->s.heap.get? b=some o->H b=none->h'.get? b=some o)(slot:∀b o,b≠X.env.locals->b∈X.fs->b∉ch->s.heap.get? b=some o->H b=none->∃sl,h'.get? b=some { o with slots:=sl })(free:∀b o,b∉ch->s.heap.get? b=some o->H b=none->H' b=none)(there:∀b o,b∉ch->s.heap.get? b=some o->∃o',h'.get? b=some o')(L8:∀b xs,H b=some (.tup xs)->H' b=some (.tup xs))(L4:∀b o u,H b=some (.Mq o u)->H' b=some (.Mq o u))(Mb:∀b ps,H b=some (.NZ ps)->∃more,H' b=some (.NZ (ps++more)))(ns:∀m,s.heap.Ns X.env.locals m->h'.Ns X.env.locals m)(LA:MI X.prog X.w H' h')(hg:AllBare g'):
  Inv X pins σ H' { s with heap:=h',gens:=g',drawn:=d',toks:=t' }:=by
 have PZ:∀b o,X.s₀.heap.get? b=some o->b≠X.env.locals:=fun b o e=>bL (aE (aK e) I.ok.above)
 have Rv:∀b o,X.s₀.heap.get? b=some o->b∉X.ex->b∉ch:=fun b o e hx hb=>by
  rcases(Oy b hb).1 with z | z
  ·exact hx z
  ·exact absurd (aE (aK e) z) (fv _)
 have cellK:∀x c,X.env.cells.lookup x=some c->∀v,s.heap.IsCell c v->h'.IsCell c v:=fun x c e v ⟨o,ho,hd⟩=>by
  have Qr:c∉ch:=fun z=>(Oy c z).2.2.1 x c e rfl
  by_cases hc:c∈X.fs
  ·obtain⟨sl,q⟩:=slot c o (I.OS x c e) hc Qr ho (I.L7 x c e)
   exact⟨_,q,hd⟩
  ·exact⟨o,keep c o (I.OS x c e) hc Qr ho (I.L7 x c e),hd⟩
 refine⟨I.ok,I.os,hg,⟨fun b o e n hb hx=>?_,fun b o e n hb hx=>?_,fun b o e n hx=>?_,fun b o e hx=>?_,fun b xs e=>L8 b xs (I.base.L8 b xs e),fun b o xs e=>L4 b o xs (I.base.L4 b o xs e),fun b ps e=>?_⟩,?_,fun x c e=>?_,?_,fun x c e=>?_,fun p hp=>?_,LA,I.len⟩
 ·exact keep b o (PZ b o e) hb (Rv b o e hx) (I.base.keep b o e n hb hx) (I.base.free b o e n hx)
 ·obtain⟨sl,e1⟩:=I.base.slot b o e n hb hx
  obtain⟨Sd,e2⟩:=slot b _ (PZ b o e) hb (Rv b o e hx) e1 (I.base.free b o e n hx)
  exact⟨Sd,e2⟩
 ·obtain⟨o',e1⟩:=I.base.there b o e hx
  exact free b o' (Rv b o e hx) e1 (I.base.free b o e n hx)
 ·obtain⟨o',e1⟩:=I.base.there b o e hx
  exact there b o' (Rv b o e hx) e1
 ·obtain⟨m1,e1⟩:=I.base.Mb b ps e
  obtain⟨m2,e2⟩:=Mb b _ e1
  exact⟨m1++m2,by rw[e2,Array.append_assoc]⟩
 ·obtain⟨m,hn,hl⟩:=I.loc
  refine⟨m,ns m hn,fun i x v e1 e2 e3=>?_⟩
  obtain⟨u,r,l⟩:=hl i x v e1 e2 e3
  refine⟨u,r,?_⟩
  rcases l with l | ⟨k,c,e,z⟩
  ·exact .inl l
  ·exact .inr ⟨k,c,e,cellK x c e _ z⟩
 ·obtain⟨v,z⟩:=I.cell x c e
  exact⟨v,cellK x c e v z⟩
 ·obtain⟨m,⟨o,_,_,ho,_⟩,_⟩:=I.loc
  exact free _ o (fun z=>(Oy _ z).2.1 rfl) ho I.free
 ·obtain⟨v,o,ho,hd⟩:=I.cell x c e
  exact free c o (fun z=>(Oy c z).2.2.1 x c e rfl) ho (I.L7 x c e)
 ·obtain⟨e,n,ne,nf,d⟩:=I.pin p hp
  have Qr:p.1∉ch:=fun z=>(Oy p.1 z).2.2.2 p hp rfl
  exact⟨keep p.1 p.2 ne nf Qr e n,free p.1 p.2 Qr e n,ne,nf,d⟩
def Inv.un{t':Nat}(I:Inv X pins σ H s)(u:Un X.fs [] H H' s.heap h')(LA:MI X.prog X.w H' h'):Inv X pins σ H' { s with heap:=h',toks:=t' }:=by
 obtain⟨m,⟨o,es,ep,ho,r⟩,_⟩:=id I.loc
 obtain⟨sl,hL⟩:=u.any ho I.free (by simp)
 exact I.step (g':=s.gens) (d':=s.drawn) (ch:=[]) (fun _ z=>nomatch z) (fun b o _ hb _ e n=>u.keep b o e n hb (by simp)) (fun b o _ hb _ e n=>u.slot b o e n hb (by simp)) (fun b o _ e n=>u.free b o e n (by simp)) (fun b o _ e=>u.there b o e (by simp)) u.L8 u.L4 u.Mb (fun m' hm=>by
  obtain⟨o',Ti,Tj,Pr,r'⟩:=hm
  rw[ho] at Pr;cases Pr
  exact⟨_,Ti,Tj,hL,r'⟩) LA I.bare
def Inv.call{t':Nat}{g':Array GenState}{d':Drawn}(I:Inv X pins σ H s)(u:Un (oo X.stack) ch H H' s.heap h')(LA:MI X.prog X.w H' h')(hg:AllBare g')(Oy:∀b∈ch,(b∈X.ex\/X.s₀.heap.objs.size<=b)/\b≠X.env.locals/\(∀x c,X.env.cells.lookup x=some c->c≠b)/\∀p∈X.pn++pins,p.1≠b):
  Inv X pins σ H' { s with heap:=h',gens:=g',drawn:=d',toks:=t' }:=by
 obtain⟨m,⟨o,es,ep,ho,r⟩,_⟩:=id I.loc
 obtain⟨sl,hL⟩:=u.any ho I.free fun z=>(Oy _ z).2.1 rfl
 exact I.step (ch:=ch) Oy (fun b o hL hb hc e n=>u.keep b o e n (fun z=>(aC.mp (I.MN b z)).elim hL hb) hc) (fun b o _ _ hc e n=>u.any e n hc) (fun b o hc e n=>u.free b o e n hc) (fun b o hc e=>u.there b o e hc) u.L8 u.L4 u.Mb (fun m' hm=>by
  obtain⟨o',Ti,Tj,Pr,r'⟩:=hm
  rw[ho] at Pr;cases Pr
  exact⟨_,Ti,Tj,hL,r'⟩) LA hg
def Inv.turned{t':Nat}{it:Addr}{h':Heap}(I:Inv X pins σ H s)(k:∀b o,b≠it->s.heap.get? b=some o->h'.get? b=some o)(hn:H it=none)(hL:it≠X.env.locals)(h1:it∈X.ex\/X.s₀.heap.objs.size<=it)(h2:∀x c,X.env.cells.lookup x=some c->c≠it)(h3:∀p∈X.pn++pins,p.1≠it):Inv X pins σ H { s with heap:=h',toks:=t' }:=by
 have T6:∀b u,H b=some u->b≠it:=fun b u e z=>by rw[z,hn] at e;cases e
 refine I.step (g':=s.gens) (d':=s.drawn) (ch:=[it]) (fun b hb=>?_) (fun b o _ _ hc e _=>k b o (fun z=>hc (by simp[z])) e) (fun b o _ _ hc e _=>⟨o.slots,k b o (fun z=>hc (by simp[z])) e⟩) (fun _ _ _ _ n=>n)
  (fun b o hc e=>⟨o,k b o (fun z=>hc (by simp[z])) e⟩) (fun _ _ e=>e) (fun _ _ _ e=>e) (fun b ps e=>⟨#[],by rw[e];simp⟩) (fun m hm=>?_) (fun b u e=>?_) I.bare
 ·have e:b=it:=by simpa using hb
  subst e
  exact⟨h1,hL,h2,h3⟩
 ·obtain⟨o,es,ep,ho,r⟩:=hm
  exact⟨o,es,ep,k _ o (ft hL) ho,r⟩
 ·refine(I.LA b u e).MW (fun c v hc q=>k c v ?_ q) (fun _ q=>q) fun _ _ q=>q
  rcases hc with z | z
  ·rw[z];exact T6 b u e
  ·exact T6 c _ z
def Inv.tok(I:Inv X pins σ H s)(t:Nat):Inv X pins σ H { s with toks:=t }:=I.un (h':=s.heap) (t':=t) Un.refl I.LA
def Inv.kept{t':Nat}{h':Heap}(I:Inv X pins σ H s)(k:∀b u,s.heap.get? b=some u->h'.get? b=some u):Inv X pins σ H { s with heap:=h',toks:=t' }:=I.un (Un.kept k) (I.LA.kept k)
def Inv.laid{a:Addr}{t':Nat}{h':Heap}(I:Inv X pins σ H s)(k:∀b u,s.heap.get? b=some u->h'.get? b=some u)(hp:s.heap.objs.size<=a)(new:LF X.prog X.w (gq H a o) h' a o):
  Inv X pins σ (gq H a o) { s with heap:=h',toks:=t' }:=I.un (Un.laid k hp (I.LA.fresh hp)) (I.LA.laid k hp new)
def Inv.write{e:Addr}{t':Nat}{h':Heap}(I:Inv X pins σ H s)(mu:Ji (H x))(he:e=x\/H e=some (.own x))(k:∀b u,b≠e->s.heap.get? b=some u->h'.get? b=some u)(OO:∃u,h'.get? e=some u)(new:LF X.prog X.w (gq H x o) h' x o):Inv X pins σ (gq H x o) { s with heap:=h',toks:=t' }:=I.un (Un.write mu he k OO) (I.LA.write mu he k OO new)
def Inv.NI{LX:fQ}(I:Inv X pins σ H s)(h:∀p∈LX,s.heap.get? p.1=some p.2/\H p.1=none/\p.1≠X.env.locals/\p.1∉X.fs/\∀v,p.2.data ≠ .cell v):Inv X LX σ H s:=
 ⟨I.ok,I.os,I.bare,I.base,I.loc,I.cell,I.free,I.L7,fun p hp=>(uk.mp hp).elim (fun z=>I.pin p (La _ z)) (h p),I.LA,I.len⟩
def tF{N:fw}{i j:Nat}(hN:N.Nodup)(a:N[i]?=some x)(b:N[j]?=some x):i=j:=by
 obtain⟨h1,e1⟩:=List.getElem?_eq_some_iff.mp a
 obtain⟨h2,e2⟩:=List.getElem?_eq_some_iff.mp b
 exact(List.getElem_inj hN).mp (e1.trans e2.symm)
def u5{i:Nat}{Q:Unit->Shared->Prop}(I:Inv X pins σ H s)(hN:X.N.Nodup)(hi:X.N[i]?=some x)(hx:Hm X.env.scope x)(r:RelV v u)(h:∀s',Inv X pins (σ.set i (some v)) H s'->(∃a,Heap.SameBut a s.heap s'.heap/\(a=X.env.locals\/X.env.cells.lookup x=some a))->Q () s')(hf:X.fn x=true\/X.env.scope.names.lookup x=some .local:=by first | exact .inl rfl | exact .inr rfl | assumption):wpAny M A (storeName X.env x u) Q E s:=by
 obtain⟨m,hn,hl⟩:=id I.loc
 have PF:(X.env.scope.kind == .class||(X.env.scope.kind == .module&&X.env.locals != X.env.globals))=false:=by rw[I.ok.kind];rfl
 have Up:i<σ.length:=by rw[I.len];exact(List.getElem?_eq_some_iff.mp hi).1
 have OS:=I.OS
 have tracked:∀{a:Addr} {h':Heap},(∃o,s.heap.get? a=some o/\H a=none)->Heap.SameBut a s.heap h'->MI X.prog X.w H h':=fun {a h'} ha hs b ob e=>by
  obtain⟨_,_,Nh⟩:=ha
  refine(I.LA b ob e).MW (fun c w' hc q=>(hs.2 c ?_).trans q) (fun _ q=>q) fun _ _ q=>q
  rintro rfl
  rcases hc with rfl | hc
  ·rw[Nh] at e;cases e
  ·rw[Nh] at hc;cases hc
 rcases hx with hk | hk
 ·refine wpAny_storeName_local hk hn (fun h' RA hs=>?_) PF
  obtain⟨oL,_,_,WN,_⟩:=id hn
  refine h _ ⟨I.ok,I.os,I.bare,⟨fun b o e n hb hx=>?_,fun b o e n hb hx=>?_,I.base.free,fun b o e hx=>?_,I.base.L8,I.base.L4,I.base.Mb⟩,⟨_,RA,fun j y v' e1 e2 e3=>?_⟩,fun y c e=>?_,I.free,I.L7,fun p hp=>?_,tracked ⟨oL,WN,I.free⟩ hs,by simpa using I.len⟩ ⟨_,hs,.inl rfl⟩
  ·exact(hs.2 b (bL (aE (aK e) I.ok.above))).trans (I.base.keep b o e n hb hx)
  ·obtain⟨sl,e1⟩:=I.base.slot b o e n hb hx
   exact⟨sl,(hs.2 b (bL (aE (aK e) I.ok.above))).trans e1⟩
  ·obtain⟨o',e1⟩:=I.base.there b o e hx
   exact⟨o',(hs.2 b (bL (aE (aK e) I.ok.above))).trans e1⟩
  ·by_cases hj:j=i
   ·subst hj
    rw[hi] at e1;cases e1
    rw[List.getElem?_set_self Up] at e2
    cases e2
    exact⟨u,r,.inl ⟨hk,by simp⟩⟩
   ·rw[List.getElem?_set_ne (ft hj)] at e2
    obtain⟨u',r',q⟩:=hl j y v' e1 e2 e3
    refine⟨u',r',?_⟩
    rcases q with⟨k,e⟩ | ⟨k,c,e,z⟩
    ·refine .inl ⟨k,?_⟩
     have:y≠x:=fun e=>hj (tF hN e1 (e ▸ hi))
     simp[this,e]
    ·exact .inr ⟨k,c,e,z.sameBut hs (OS y c e)⟩
  ·obtain⟨w',z⟩:=I.cell y c e
   exact⟨w',z.sameBut hs (OS y c e)⟩
  ·obtain⟨e,n,ne,nf,d⟩:=I.pin p hp
   exact⟨(hs.2 p.1 ne).trans e,n,ne,nf,d⟩
 ·have SW:X.fn x=true:=by
   rcases hf with z | z
   ·exact z
   ·rw[z] at hk;cases hk
  obtain⟨c,hc⟩:=I.ok.has x (.inl hk)
  obtain⟨w',z⟩:=I.cell x c hc
  refine wpAny_storeName_cell I.ok.kind hk hc z (fun h' Nt hs=>?_)
  obtain⟨oc,QC,SH⟩:=id z
  refine h { s with heap:=h' } ⟨I.ok,I.os,I.bare,⟨fun b o e n hb hx=>?_,fun b o e n hb hx=>?_,I.base.free,fun b o e hx=>?_,I.base.L8,I.base.L4,I.base.Mb⟩,⟨m,hn.sameBut hs (ft (OS x c hc)),fun j y v' e1 e2 e3=>?_⟩,fun y c' e=>?_,I.free,I.L7,fun p hp=>?_,tracked ⟨oc,QC,I.L7 x c hc⟩ hs,by simpa using I.len⟩ ⟨c,hs,.inr hc⟩
  ·exact(hs.2 b (bL (aE (aK e) (I.ok.Qd x c SW hc)))).trans (I.base.keep b o e n hb hx)
  ·obtain⟨sl,e1⟩:=I.base.slot b o e n hb hx
   exact⟨sl,(hs.2 b (bL (aE (aK e) (I.ok.Qd x c SW hc)))).trans e1⟩
  ·obtain⟨o',e1⟩:=I.base.there b o e hx
   exact⟨o',(hs.2 b (bL (aE (aK e) (I.ok.Qd x c SW hc)))).trans e1⟩
  ·by_cases hj:j=i
   ·subst hj
    rw[hi] at e1;cases e1
    rw[List.getElem?_set_self Up] at e2
    cases e2
    exact⟨u,r,.inr ⟨.inl hk,c,hc,Nt⟩⟩
   ·rw[List.getElem?_set_ne (ft hj)] at e2
    obtain⟨u',r',q⟩:=hl j y v' e1 e2 e3
    refine⟨u',r',?_⟩
    rcases q with q | ⟨k,c',e,z'⟩
    ·exact .inl q
    ·refine .inr ⟨k,c',e,z'.sameBut hs ?_⟩
     rintro rfl
     exact hj (tF hN e1 (I.ok.inj _ _ _ e hc ▸ hi))
  ·by_cases RI:c'=c
   ·subst RI;exact⟨_,Nt⟩
   ·obtain⟨w2,z2⟩:=I.cell y c' e
    exact⟨w2,z2.sameBut hs RI⟩
  ·obtain⟨e,n,ne,nf,d⟩:=I.pin p hp
   refine⟨(hs.2 p.1 ?_).trans e,n,ne,nf,d⟩
   intro q
   rw[q,QC] at e
   have q':oc=p.2:=bc e
   exact d w' (by rw[<-q'];exact SH)
def kJ{i:Nat}{Q:Unit->Shared->Prop}(I:Inv X pins σ H s)(hN:X.N.Nodup)(hi:X.N[i]?=some x)(hx:Hm X.env.scope x)(r:RelV v u)(h:∀s',Inv X pins (σ.set i (some v)) H s'->Q () s')(hf:X.fn x=true\/X.env.scope.names.lookup x=some .local:=by first | exact .inl rfl | exact .inr rfl | assumption):wpAny M A (storeName X.env x u) Q E s:=
 u5 I hN hi hx r (fun s' I' _=>h s' I') hf
def Inv.O7{s':Shared}(I:Inv X pins σ H s)(ho:s'.os=s.os)(u:Un (oo X.stack) ch H H' s.heap s'.heap)(LA:MI X.prog X.w H' s'.heap)(hg:AllBare s'.gens)(Oy:∀b∈ch,(b∈X.ex\/X.s₀.heap.objs.size<=b)/\b≠X.env.locals/\(∀x c,X.env.cells.lookup x=some c->c≠b)/\∀p∈X.pn++pins,p.1≠b):Inv X pins σ H' s':=by
 obtain⟨h',g',d',t',o'⟩:=s'
 have e:o'=s.os:=ho
 subst e
 exact I.call (g':=g') (t':=t') (d':=d') u LA hg Oy
end
abbrev XK:=Value->Option Addr->Hp->Prop
abbrev St:=List (Option V)
abbrev VK:=V->Hp->Prop
abbrev TE:=St->Hp->VK->Prop
abbrev TT:=St->Hp->(Bool->Hp->Prop)->Prop
abbrev TA:=St->Hp->(fK->Hp->Prop)->Prop
structure lH where
 nx:St->Hp->Prop
 rt:VK
 bk:St->Hp->Prop:=fun _ _=>False
 ct:St->Hp->Prop:=fun _ _=>False
abbrev TS:=lH->St->Hp->Prop
def EP(X:Cx)(pins:fQ)(σ:St)(Q:VK)(u:Value)(s':Shared):Prop:=∃v H',Inv X pins σ H' s'/\RelV v u/\Q v H'
def TP(X:Cx)(pins:fQ)(σ:St)(Q:Bool->Hp->Prop)(b:Bool)(s':Shared):Prop:=∃H',Inv X pins σ H' s'/\Q b H'
def AP(X:Cx)(pins:fQ)(σ:St)(Q:fK->Hp->Prop)(us:hW)(s':Shared):Prop:=∃vs H',Inv X pins σ H' s'/\Vals vs us/\Q vs H'
def SP(X:Cx)(pins:fQ)(D:lH)(f:Flow)(s':Shared):Prop:=
 match f with
 |.next=>∃σ' H',Inv X pins σ' H' s'/\D.nx σ' H'
 |.brk=>∃σ' H',Inv X pins σ' H' s'/\D.bk σ' H'
 |.cont=>∃σ' H',Inv X pins σ' H' s'/\D.ct σ' H'
 |.ret u=>∃v σ' H',Inv X pins σ' H' s'/\RelV v u/\D.rt v H'
def PE(X:Cx)(e:Expr)(t:TE):Prop:=
 ∀(pins:fQ) (s:Shared) (σ:St) (H:Hp) (Q:VK),Inv X pins σ H s->t σ H Q->eG X (eval e X.env) (EP X pins σ Q) X.xe s
def PT(X:Cx)(e:Expr)(t:TT):Prop:=
 ∀(pins:fQ) (s:Shared) (σ:St) (H:Hp) (Q:Bool->Hp->Prop),Inv X pins σ H s->t σ H Q->eG X (isTrue e X.env (eval e X.env)) (TP X pins σ Q) X.xe s
def PW(X:Cx)(e:Expr)(t:TT):Prop:=
 ∀(whole:Sem Value) (pins:fQ) (s:Shared) (σ:St) (H:Hp) (Q:Bool->Hp->Prop),Inv X pins σ H s->t σ H Q->eG X (isTrue e X.env whole) (TP X pins σ Q) X.xe s
def PA(X:Cx)(es:ur)(t:TA):Prop:=
 ∀(pos:Pos) (pins:fQ) (s:Shared) (σ:St) (H:Hp) (Q:fK->Hp->Prop),Inv X pins σ H s->t σ H Q->eG X (spliced (backTo pos (starEach es X.env))) (AP X pins σ Q) X.xe s
def PS(X:Cx)(st:Stmt)(t:TS):Prop:=
 ∀(pins:fQ) (s:Shared) (σ:St) (H:Hp) (D:lH),Inv X pins σ H s->t D σ H->eG X (exec st X.env) (SP X pins D) X.xe s
def NG(X:Cx)(st:List Stmt)(t:TS):Prop:=
 ∀(pins:fQ) (s:Shared) (σ:St) (H:Hp) (D:lH),Inv X pins σ H s->t D σ H->eG X (execs st X.env) (SP X pins D) X.xe s
def fg{α:Type}{t:Sem α}{Q Q':α->Shared->Prop}(h:wpAny M A t Q E s)(hQ:∀a s,Q a s->Q' a s):wpAny M A t Q' E s:=aR h hQ fun _ _ x=>x
section
def Li(ha:PE X a ta)(hb:PE X b tb){R:V->V->Hp->Prop}(I:Inv X pins σ H s)(h:ta σ H fun x H1=>tb σ H1 fun y H2=>R x y H2){α:Type}{Q:α->Shared->Prop}{f:Value->Value->Sem α}(hf:∀v u s2 x y H2,Inv X pins σ H2 s2->RelV x v->RelV y u->R x y H2->eG X (f v u) Q X.xe s2):
  eG X (eval a X.env) (fun v s₁=>eG X (eval b X.env) (fun u s₂=>eG X (f v u) Q X.xe s₂) X.xe s₁) X.xe s:=by
 refine fg (ha pins s σ H _ I h) fun v s1 ⟨x,H1,I1,r1,q1⟩=>?_
 refine fg (hb pins s1 σ H1 _ I1 q1) fun u s2 ⟨y,H2,I2,r2,q2⟩=>?_
 exact hf v u s2 x y H2 I2 r1 r2 q2
def HM(i:Nat):TE:=fun σ H Q=>∃v,σ[i]?=some (some v)/\Q v H
def tC(v:V):TE:=fun _ H Q=>Q v H
def Cz{i:Nat}{X:Cx}(hN:X.N[i]?=some x)(hv:IJ X.env.scope x)(hd:yu x:=by decide)(NU:(x==("__classdict__" : Str))=false:=by decide):PE X (.Name x pos) (HM i):=by
 intro pins s σ H Q I h
 obtain⟨v,e,h⟩:=h
 obtain⟨m,hn,hl⟩:=I.loc
 obtain⟨u,r,l⟩:=hl i x v hN e hv
 have fin:EP X pins σ Q u s:=⟨v,H,I,r,h⟩
 rcases l with⟨hk,hm⟩ | ⟨hk,c,hc,Mw⟩
 ·exact wpAny_Name (wpAny_loadName_local I.ok.kind hk hn hm fin) hd
 ·rcases hk with hk | hk
  ·exact wpAny_Name (wpAny_loadName_cell I.ok.kind hk hc Mw fin) hd
  ·exact wpAny_Name (wpAny_loadName_free I.ok.kind hk hc Mw fin NU) hd
def Gs{i j pos}:PE X (.Constant (.int i) j pos) (tC (.int i)):=fun _ _ _ H _ I h=>wpAny_Constant_int ⟨.int i,H,I.tok _,⟨_,rfl⟩,h⟩
def Ie{b j pos}:PE X (.Constant (.bool b) j pos) (tC (.bl b)):=fun _ _ _ H _ I h=>Constant_bool ⟨.bl b,H,I,rfl,h⟩
def Gp{j pos}:PE X (.Constant .none j pos) (tC .LH):=fun _ _ _ H _ I h=>Constant_none ⟨.LH,H,I,rfl,h⟩
def Gm{x j pos}:PE X (.Constant (.str x) j pos) (tC (.str x)):=fun _ _ _ H _ I h=>Calls.Constant_str ⟨.str x,H,I.tok _,⟨_,rfl⟩,h⟩
def Gl(X:Cx)(x:Str):Prop:=X.env.kindOf x=some .globalImplicit
def pD{Q:oO}(I:Inv X pins σ H s)(hg:Gl X x)(hm:X.mg x=some u)(h:Q u s)(hd:yu x:=by decide):eG X (eval (.Name x pos) X.env) Q E s:=
 Lf I.ok.kind hg (Calls.loadGlobal_global (by rw[I.ok.glob];exact I.mod.glob.keeps I.bk) hm h) hd
def oj{Q:oO}(I:Inv X pins σ H s)(hg:Gl X x)(hm:X.mg x=none)(hv:bootBuiltins x=some u)(h:Q u s)(hn:x ≠ "__name__" := by decide)(hd:yu x:=by decide):eG X (eval (.Name x pos) X.env) Q E s:=by
 obtain⟨mb,h1,h2⟩:=I.mod.blt
 exact Lf I.ok.kind hg (Calls.loadGlobal_builtin (by rw[I.ok.glob];exact I.mod.glob.keeps I.bk) hm (by rw[I.ok.blt];exact h1.keeps I.bk) ((h2 x hn).trans hv) h) hd
def Er(hg:Gl X x)(hm:X.mg x=some u)(r:RelV v u)(hd:yu x:=by decide):PE X (.Name x pos) (tC v):=
 fun _ _ _ H _ I h=>pD I hg hm ⟨v,H,I,r,h⟩ hd
def Ae(hg:Gl X x)(hm:X.mg x=none)(hv:bootBuiltins x=some u)(r:RelV v u)(hn:x ≠ "__name__" := by decide)(hd:yu x:=by decide):PE X (.Name x pos) (tC v):=
 fun _ _ _ H _ I h=>oj I hg hm hv ⟨v,H,I,r,h⟩ hn hd
def PC(X:Cx)(op:CmpOp)(a b:Expr)(t:TE):Prop:=
 ∀(pins:fQ) (s:Shared) (σ:St) (H:Hp) (Q:VK),Inv X pins σ H s->t σ H Q ->
  eG X (eval a X.env) (fun v s₁=>eG X (eval b X.env) (fun u s₂=>eG X (compareOp op v u) (EP X pins σ Q) X.xe s₂) X.xe s₁) X.xe s
def eB(b:Expr){op:CmpOp}(h:op ≠ .In)(h2:op ≠ .NotIn):behindInMarks op b=false:=by
 have e1:(op==CmpOp.In)=false:=by cases op<;>first | rfl | exact absurd rfl h
 have e2:(op==CmpOp.NotIn)=false:=by cases op<;>first | rfl | exact absurd rfl h2
 cases b<;>simp[behindInMarks,e1,e2]
def tB(t:TE):TT:=fun σ H Q=>t σ H fun x H1=>∃c,x=.bl c/\Q c H1
def JL{op:CmpOp}(h:PC X op a b t)(h1:behindInMarks op b=false:=by first | exact eB _ (by decide) (by decide) | rfl):PT X (.Compare a [op] [b] pos) (tB t):=by
 intro pins s σ H Q I hw
 refine wpAny_isTrue_Compare1 (fg (h pins s σ H _ I hw) fun v s1 h1=>fg h1 fun u s2 h2=>fg h2 fun c s3 ⟨x,H1,I1,r1,q1⟩=>?_) h1
 obtain⟨d,rfl,q⟩:=q1
 cases r1
 exact iQ ⟨H1,I1,q⟩
def F0(h:PE X e t)(he:∀whole,isTrue e X.env whole=(do let v <-whole;standAt e.pos;holding [v] (truthy v)):=by intro _;rfl):PT X e (tB t):=by
 intro pins s σ H Q I hw
 refine isTrue_plain (fg (h pins s σ H _ I hw) fun v s1 ⟨x,H1,I1,r1,q1⟩=>?_) (he _)
 obtain⟨d,rfl,q⟩:=q1
 cases r1
 exact iQ ⟨H1,I1,q⟩
variable {tA Rk:TT}{rest:ur}
def JD(t u:TT):TT:=fun σ H Q=>t σ H fun c H1=>if c=true then u σ H1 Q else Q false H1
def KT(t u:TT):TT:=fun σ H Q=>t σ H fun c H1=>if c=true then Q true H1 else u σ H1 Q
def Jw(t:TT):TT:=fun σ H Q=>t σ H fun c H1=>Q (!c) H1
def Eg(ha:PT X a tA):PW X (.BoolOp .And [a] pos) tA:=by
 intro wh pins s σ H Q I h
 refine isTrue_and (fg (ha pins s σ H Q I h) fun c s1 e=>?_)
 cases c with
 |true=>exact isTrue_and_nil e
 |false=>exact e
def FY(ha:PT X a tA):PW X (.BoolOp .Or [a] pos) tA:=by
 intro wh pins s σ H Q I h
 refine isTrue_or (fg (ha pins s σ H Q I h) fun c s1 e=>?_)
 cases c with
 |false=>exact isTrue_or_nil e
 |true=>exact e
def Cq(ha:PT X a tA)(hb:PW X (.BoolOp .And (b::rest) pos) Rk):PW X (.BoolOp .And (a::b::rest) pos) (JD tA Rk):=by
 intro wh pins s σ H Q I h
 refine isTrue_and (fg (ha pins s σ H _ I h) fun c s1 ⟨H1,I1,q1⟩=>?_)
 cases c with
 |true=>exact hb wh pins s1 σ H1 Q I1 q1
 |false=>exact⟨H1,I1,q1⟩
def Ft(ha:PT X a tA)(hb:PW X (.BoolOp .Or (b::rest) pos) Rk):PW X (.BoolOp .Or (a::b::rest) pos) (KT tA Rk):=by
 intro wh pins s σ H Q I h
 refine isTrue_or (fg (ha pins s σ H _ I h) fun c s1 ⟨H1,I1,q1⟩=>?_)
 cases c with
 |true=>exact⟨H1,I1,q1⟩
 |false=>exact hb wh pins s1 σ H1 Q I1 q1
def F8(ha:PT X a tA):PT X (.UnaryOp .Not a pos) (Jw tA):=by
 intro pins s σ H Q I h
 exact isTrue_not (ha pins s σ H (fun c H1=>Q (!c) H1) I h)
def HX(ta tb:TE):TE:=fun σ H Q=>ta σ H fun x H1=>∃c,x=.bl c/\if c=true then tb σ H1 Q else Q (.bl false) H1
def Jv(ta tb:TE):TE:=fun σ H Q=>ta σ H fun x H1=>∃c,x=.bl c/\if c=true then Q (.bl true) H1 else tb σ H1 Q
def Gn{op}(h:PE X a t):PE X (.BoolOp op [a] pos) t:=fun pins s σ H Q I hw=>BoolOp_one (h pins s σ H Q I hw)
def CA(ha:PE X a ta)(hb:PE X (.BoolOp .And (b::rest) pos) tb):PE X (.BoolOp .And (a::b::rest) pos) (HX ta tb):=by
 intro pins s σ H Q I h
 refine BoolOp_and (fg (ha pins s σ H _ I h) fun v s1 ⟨x,H1,I1,r1,q1⟩=>?_)
 obtain⟨c,rfl,q1⟩:=q1
 cases r1
 refine iQ ?_
 cases c with
 |true=>exact hb pins s1 σ H1 Q I1 q1
 |false=>exact⟨.bl false,H1,I1,rfl,q1⟩
def Fw(ha:PE X a ta)(hb:PE X (.BoolOp .Or (b::rest) pos) tb):PE X (.BoolOp .Or (a::b::rest) pos) (Jv ta tb):=by
 intro pins s σ H Q I h
 refine BoolOp_or (fg (ha pins s σ H _ I h) fun v s1 ⟨x,H1,I1,r1,q1⟩=>?_)
 obtain⟨c,rfl,q1⟩:=q1
 cases r1
 refine iQ ?_
 cases c with
 |false=>exact hb pins s1 σ H1 Q I1 q1
 |true=>exact⟨.bl true,H1,I1,rfl,q1⟩
def KU(t:TT)(ta tb:TE):TE:=fun σ H Q=>t σ H fun c H1=>if c=true then ta σ H1 Q else tb σ H1 Q
def xr(hc:PT X c tA)(ha:PE X a ta)(hb:PE X b tb):PE X (.IfExp c a b pos) (KU tA ta tb):=by
 intro pins s σ H Q I h
 refine wpAny_IfExp (fg (hc pins s σ H _ I h) fun d s1 ⟨H1,I1,q1⟩=>?_)
 cases d with
 |true=>exact ha pins s1 σ H1 Q I1 q1
 |false=>exact hb pins s1 σ H1 Q I1 q1
end
def Mh(K:dq)(H:Hp)(a:Addr)(xs:fK):Prop:=
 Rd H a (.lst xs) \/
  ∃(o:Obj) (its:Array Value) (n:Nat),K.lookup a=some o/\o.cls=.type "list" /\ o.dict=none/\o.data=.seq its n/\its.size<=sizeLine/\Vals xs its.toList
def L0(K:dq)(H:Hp)(a:Addr)(xs:fK):Prop:=
 Rd H a (.tup xs) \/
  ∃(o:Obj) (its:Array Value) (n:Nat),K.lookup a=some o/\o.cls=.type "tuple" /\ o.data=.seq its n/\its.size<=sizeLine/\Vals xs its.toList
def J7:Value->Option V
 |.none=>some .LH
 |.bool b=>some (.bl b)
 |.int i _=>some (.int i)
 |.str x _=>some (.str x)
 |.bytes b _=>some (.NX b)
 |.float b _=>some (.Qc b)
 |.ref a=>some (.ref a)
 |.type n=>some (.ty n)
 |_=>none
def RelV.abs(r:RelV x u):J7 u=some x:=by
 cases x with
 |LH=>cases r;rfl
 |bl _=>cases r;rfl
 |int _=>obtain⟨t,rfl⟩:=r;rfl
 |str _=>obtain⟨t,rfl⟩:=r;rfl
 |NX _=>obtain⟨t,rfl⟩:=r;rfl
 |Qc _=>obtain⟨t,rfl⟩:=r;rfl
 |ref _=>cases r;rfl
 |ty _=>cases r;rfl
def RelV.inj(r:RelV x u)(q:RelV y u):x=y:=bc (r.abs.symm.trans q.abs)
def Vals.inj:∀{xs ys:fK} {us:hW},Vals xs us->Vals ys us->xs=ys
 |_,_,_,.nil,.nil=>rfl
 |_,_,_,.cons r t,.cons r' t'=>by rw[r.inj r',Vals.inj t t']
def Mh.of{K:dq}{H:Hp}{a:Addr}(h:H a=some (.lst xs)):Mh K H a xs:=.inl (.inl h)
def L0.of{K:dq}{H:Hp}{a:Addr}(h:H a=some (.tup xs)):L0 K H a xs:=.inl (.inl h)
def Inv.list(I:Inv X pins σ H s)(h:Mh X.K H a xs):∃its:hW,Vals xs its/\PlainL s.heap a its.toArray/\xs.length<=sizeLine:=by
 rcases h with h | ⟨o,its,n,hk,hc,hd,hs,hz,r⟩
 ·obtain⟨z,its,n,r,e⟩:=h.ok I.LA
  exact⟨its,r,⟨_,n,e,rfl,rfl,rfl⟩,z⟩
 ·refine⟨its.toList,r,⟨o,n,I.MX a o hk,hc,hd,by simpa using hs⟩,?_⟩
  have e:=r.length
  simp only[i8] at e
  lia
def Inv.tuple(I:Inv X pins σ H s)(h:L0 X.K H a xs):∃its:hW,Vals xs its/\IsTup s.heap a its.toArray/\xs.length<=sizeLine:=by
 rcases h with h | ⟨o,its,n,hk,hc,hs,hz,r⟩
 ·obtain⟨z,its,r,p⟩:=h.ok I.LA
  exact⟨its,r,p,z⟩
 ·refine⟨its.toList,r,⟨o,I.MX a o hk,hc,n,by simpa using hs⟩,?_⟩
  have e:=r.length
  simp only[i8] at e
  lia
def Inv.Oa(I:Inv X pins σ H s)(h:Mh X.K H a xs)(h':Mh X.K H a ys):xs=ys:=by
 obtain⟨its,r,⟨o,n,e,_,_,d⟩,_⟩:=I.list h
 obtain⟨its',r',⟨o',n',e',_,_,d'⟩,_⟩:=I.list h'
 rw[e] at e';cases e'
 rw[d] at d'
 injection d' with d1 _
 have:its=its':=by simpa using c8 Array.toList d1
 subst this
 exact r.inj r'
def Inv.MF(I:Inv X pins σ H s)(h:L0 X.K H a xs)(h':L0 X.K H a ys):xs=ys:=by
 obtain⟨its,r,⟨o,e,_,n,d⟩,_⟩:=I.tuple h
 obtain⟨its',r',⟨o',e',_,n',d'⟩,_⟩:=I.tuple h'
 rw[e] at e';cases e'
 rw[d] at d'
 injection d' with d1 _
 have:its=its':=by simpa using c8 Array.toList d1
 subst this
 exact r.inj r'
abbrev Cx.MK(X:Cx)(E:oO):Cx:={ X with xe:=E }
abbrev Cx.MZ(X:Cx):Cx:=X.MK fun _ _=>False
def Cx.Ok.MK{X:Cx}(ok:X.Ok)(E:oO):(X.MK E).Ok:=
 ⟨ok.mod,ok.kind,ok.glob,ok.blt,ok.above,ok.inj,ok.has,ok.Qd,ok.hd,ok.frames,ok.O0,ok.Q3,ok.bs,ok.OV,ok.Me,ok.NV,ok.MA,ok.PL⟩
def Cx.Ok.Ml{X:Cx}(ok:(X.MK E).Ok):X.Ok:=
 ⟨ok.mod,ok.kind,ok.glob,ok.blt,ok.above,ok.inj,ok.has,ok.Qd,ok.hd,ok.frames,ok.O0,ok.Q3,ok.bs,ok.OV,ok.Me,ok.NV,ok.MA,ok.PL⟩
def Inv.MK(I:Inv X pins σ H s)(E:oO):Inv (X.MK E) pins σ H s:=⟨I.ok.MK E,I.os,I.bare,I.base,I.loc,I.cell,I.free,I.L7,I.pin,I.LA,I.len⟩
def Inv.Ml{X:Cx}(I:Inv (X.MK E) pins σ H s):Inv X pins σ H s:=⟨I.ok.Ml,I.os,I.bare,I.base,I.loc,I.cell,I.free,I.L7,I.pin,I.LA,I.len⟩
def SP.Ml{D:lH}{X:Cx}{f:Flow}(h:SP (X.MK E) pins D f s'):SP X pins D f s':=by
 cases f with
 |next=>obtain⟨σ',H',I,q⟩:=h;exact⟨σ',H',I.Ml,q⟩
 |brk=>obtain⟨σ',H',I,q⟩:=h;exact⟨σ',H',I.Ml,q⟩
 |cont=>obtain⟨σ',H',I,q⟩:=h;exact⟨σ',H',I.Ml,q⟩
 |ret u=>obtain⟨v,σ',H',I,r,q⟩:=h;exact⟨v,σ',H',I.Ml,r,q⟩
def NG.MZ{st:List Stmt}{X:Cx}(h:NG X.MZ st t):NG X st t:=fun pins s σ H D I hw=>
 aR (h pins s σ H D (I.MK _) hw) (fun _ _ q=>q.Ml) fun _ _ z=>False.elim z
section
variable {st:Stmt}{rest:List Stmt}
def HQ:TS:=fun D σ H=>D.nx σ H
def Js(t u:TS):TS:=fun D σ H=>t { D with nx:=u D } σ H
def Ei:NG X [] HQ:=fun _ _ σ H _ I h=>pY ⟨σ,H,I,h⟩
def xn(h1:PS X st t)(h2:NG X rest u):NG X (st::rest) (Js t u):=by
 intro pins s σ H D I h
 refine jM (fg (h1 pins s σ H { D with nx:=u D } I h) fun f s1 q=>?_)
 cases f with
 |next=>
  obtain⟨σ',H',I',q⟩:=q
  exact h2 pins s1 σ' H' D I' q
 |ret v=>exact q
 |brk=>exact q
 |cont=>exact q
def Eh(h1:PS X st t):NG X [st] t:=by
 intro pins s σ H D I h
 refine jM (fg (h1 pins s σ H D I h) fun f s1 q=>?_)
 cases f with
 |next=>exact pY q
 |ret v=>exact q
 |brk=>exact q
 |cont=>exact q
def Inv.quiet(I:Inv X pins σ H s):interactive X.env=false:=by simp[interactive,I.ok.kind]
def HR(te:TE):TS:=fun D σ H=>te σ H fun _ H1=>D.nx σ H1
def vR{pos:Pos}(he:PE X e te)(hs:swapsWith e none pos.line X.env=pure false:=by rfl):PS X (.Expr e pos) (HR te):=by
 intro pins s σ H D I h
 exact wpAny_Expr_any (fg (he pins s σ H _ I h) fun v s1 ⟨x,H1,I1,r1,q1⟩=>⟨σ,H1,I1,q1⟩) I.quiet hs
def Jt(te:TE):TS:=fun D σ H=>te σ H D.rt
def Ga(he:PE X e te):PS X (.Return (some e) pos) (Jt te):=by
 intro pins s σ H D I h
 exact wpAny_Return_some (fg (he pins s σ H _ I h) fun v s1 ⟨x,H1,I1,r1,q1⟩=>⟨x,σ,H1,I1,r1,q1⟩)
def Jz(c:TT)(t u:TS):TS:=fun D σ H=>c σ H fun b H1=>if b=true then t D σ H1 else u D σ H1
def Fu{tc:TT}(hc:PT X c tc)(ha:NG X a t)(hb:NG X b u):PS X (.If c a b pos) (Jz tc t u):=by
 intro pins s σ H D I h
 refine wpAny_If (fg (hc pins s σ H _ I h) fun d s1 ⟨H1,I1,q1⟩=>?_)
 cases d with
 |true=>exact ha pins s1 σ H1 D I1 q1
 |false=>exact hb pins s1 σ H1 D I1 q1
end
abbrev TG:=V->St->Hp->(St->Hp->Prop)->Prop
abbrev E6:=fK->St->Hp->(St->Hp->Prop)->Prop
def PG(X:Cx)(target:Expr)(t:TG):Prop:=
 ∀(pins:fQ) (s:Shared) (σ:St) (H:Hp) (v:V) (u:Value) (Q:St->Hp->Prop),Inv X pins σ H s->RelV v u->t v σ H Q ->
  eG X (assign target X.env u) (fun _ s'=>∃σ' H',Inv X pins σ' H' s'/\Q σ' H') X.xe s
def HG(X:Cx)(ts:ur)(t:E6):Prop:=
 ∀(pins:fQ) (s:Shared) (σ:St) (H:Hp) (vs:fK) (us:hW) (Q:St->Hp->Prop),Inv X pins σ H s->Vals vs us->t vs σ H Q ->
  eG X (assignInOrder ((assignEach ts X.env).map (·.2)) us) (fun _ s'=>∃σ' H',Inv X pins σ' H' s'/\Q σ' H') X.xe s
abbrev DI:=V->V->V->Hp->(Hp->Prop)->Prop
def Hk(X:Cx)(t:DI):Prop:=
 ∀(pins:fQ) (s:Shared) (σ:St) (H:Hp) (o i v:V) (ov iv u:Value) (Q:Hp->Prop),Inv X pins σ H s->RelV o ov->RelV i iv->RelV v u->t o i v H Q ->
  eG X (setItem ov iv u) (fun _ s'=>∃H',Inv X pins σ H' s'/\Q H') X.xe s
abbrev IL:=V->V->Hp->VK->Prop
def Jg(X:Cx)(op:Operator)(t:IL):Prop:=
 ∀(pins:fQ) (s:Shared) (σ:St) (H:Hp) (x y:V) (v u:Value) (Q:VK),Inv X pins σ H s->RelV x v->RelV y u->t x y H Q ->
  eG X (inplaceOp op v u) (EP X pins σ Q) X.xe s
def FD(i:Nat):TG:=fun v σ H Q=>Q (σ.set i (some v)) H
def su{i:Nat}{X:Cx}(hN:X.N.Nodup)(hi:X.N[i]?=some x)(hx:Hm X.env.scope x)(hf:X.fn x=true\/X.env.scope.names.lookup x=some .local:=by first | exact .inl rfl | exact .inr rfl | assumption):PG X (.Name x pos) (FD i):=by
 intro pins s σ H v u Q I r h
 exact wpAny_assign_Name (kJ I hN hi hx r (fun s' I'=>⟨_,H,I',h⟩) hf)
def J0:E6:=fun vs σ H Q=>vs=[]/\Q σ H
def Iy(t:TG)(u:E6):E6:=fun vs σ H Q=>∃v r,vs=v::r/\t v σ H fun σ' H'=>u r σ' H' Q
def Ad:HG X [] J0:=by
 intro pins s σ H vs us Q I r h
 obtain⟨e,h⟩:=h
 subst e
 cases r
 exact assignInOrder_nil ⟨σ,H,I,h⟩
def tD{u:E6}(h1:PG X e t)(h2:HG X es u)(hs:(assignEach (e::es) X.env).map (·.2)=assign e X.env::(assignEach es X.env).map (·.2):=by rfl):HG X (e::es) (Iy t u):=by
 intro pins s σ H vs us Q I r h
 obtain⟨v,vr,e1,h⟩:=h
 subst e1
 cases r with
 |cons r rr=>
  rw[hs]
  refine KH (fg (h1 pins s σ H _ _ _ I r h) fun _ s1 ⟨σ1,H1,I1,q1⟩=>?_)
  exact h2 pins s1 σ1 H1 _ _ Q I1 rr q1
def JY(K:dq)(n:Nat)(t:E6):TG:=fun v σ H Q=>∃a xs,v=.ref a/\L0 K H a xs/\xs.length=n/\t xs σ H Q
def Cy{n:Nat}{X:Cx}{t:E6}(hc:X.calm=true)(h:HG X es t)(hn:(assignEach es X.env).length=n:=by rfl)(M5:(assignEach es X.env).findIdx? (·.1)=none:=by rfl):PG X (.Tuple es k pos) (JY X.K n t):=by
 intro pins s σ H v u Q I r hw
 obtain⟨a,xs,e1,hq,hl,hw⟩:=hw
 subst e1
 cases r
 obtain⟨its,rv,ht,hz⟩:=I.tuple hq
 refine assign_Tuple_tuple (I.ok.hd hc) ht (by simp[hn,<-hl,rv.length]) M5 fun h' hx=>?_
 have I1:Inv X pins σ H { s with heap:=h' }:=I.kept (t':=s.toks) fun b o e=>hx b o (bL (aK e)) e
 exact h pins _ σ H xs _ Q I1 (by simpa using rv) hw
def JZ(to ti:TE)(t:DI):TG:=fun v σ H Q=>to σ H fun o H1=>ti σ H1 fun i H2=>t o i v H2 fun H3=>Q σ H3
def Gi{t:DI}(ho:PE X o to)(hi:PE X i ti)(hs:Hk X t)(ha:∀v,assign (.Subscript o i pos) X.env v=(do
   let ov <-holding [v] (eval o X.env)
   let iv <-holding [v,ov] (eval i X.env)
   standAt pos
   holding [v,ov,iv] (setItem ov iv v)
   release [v,ov,iv] []):=by intro _;rfl):PG X (.Subscript o i pos) (JZ to ti t):=by
 intro pins s σ H v u Q I r h
 rw[ha]
 refine af (ef (fg (ho pins s σ H _ I h) fun ov s1 ⟨x,H1,I1,r1,q1⟩=>?_))
 refine af (ef (fg (hi pins s1 σ H1 _ I1 q1) fun iv s2 ⟨y,H2,I2,r2,q2⟩=>?_))
 refine af (uU (af (ef (fg (hs pins s2 σ H2 x y v ov iv u _ I2 r1 r2 r q2) fun _ s3 ⟨H3,I3,q3⟩=>?_))))
 exact wpAny_release ⟨σ,H3,I3,q3⟩
def HW(te:TE)(g:TG):TS:=fun D σ H=>te σ H fun x H1=>g x σ H1 D.nx
def Ge{pos:Pos}(he:PE X e te)(hg:PG X tg g)(hs:swapsWithSole [tg] e pos.line X.env=pure false:=by rfl)(hw:swappedStores [tg] e X.env=pure none:=by rfl)(h1:(assignEach [tg] X.env).map (·.2)=[assign tg X.env]:=by rfl):PS X (.Assign [tg] e pos) (HW te g):=by
 intro pins s σ H D I h
 refine wpAny_Assign_stores (fg (he pins s σ H _ I h) fun v s1 ⟨x,H1,I1,r1,q1⟩=>?_) hs hw
 rw[h1]
 exact fg (hg pins s1 σ H1 x v _ I1 r1 q1) fun _ s2 q=>q
def yM{i:Nat}{X:Cx}{pos:Pos}(hN:X.N.Nodup)(hi:X.N[i]?=some x)(hx:Hm X.env.scope x)(he:PE X e te)(hs:swapsWith e (some (.Name x pos')) pos.line X.env=pure false:=by rfl)(hf:X.fn x=true\/X.env.scope.names.lookup x=some .local:=by first | exact .inl rfl | exact .inr rfl | assumption):
  PS X (.Assign [.Name x pos'] e pos) (HW te (FD i)):=by
 intro pins s σ H D I h
 refine wpAny_Assign_Name (fg (he pins s σ H _ I h) fun v s1 ⟨y,H1,I1,r1,q1⟩=>?_) hs
 exact kJ I1 hN hi hx r1 (fun s2 I2=>⟨_,H1,I2,q1⟩) hf
def Ju(i j:Nat)(ta:TA):TS:=fun D σ H=>ta σ H fun vs H1=>∃v w,vs=[v,w]/\D.nx ((σ.set i (some v)).set j (some w)) H1
def Gb{i j:Nat}{X:Cx}{pos:Pos}{kt k2 PX}(hc:X.calm=true)(hN:X.N.Nodup)(hi:X.N[i]?=some x)(hj:X.N[j]?=some y)(SV:i≠j)(hx:X.env.scope.names.lookup x=some .local)(hy:X.env.scope.names.lookup y=some .local)(ha:PA X [a,b] ta)(hw:swappedStores [.Tuple [.Name x px,.Name y py] kt pt] (.Tuple [a,b] k2 PX) X.env=pure (some [x,y]))(hs:swapsWithSole [.Tuple [.Name x px,.Name y py] kt pt] (.Tuple [a,b] k2 PX) pos.line X.env=pure false:=by rfl):
  PS X (.Assign [.Tuple [.Name x px,.Name y py] kt pt] (.Tuple [a,b] k2 PX) pos) (Ju i j ta):=by
 intro pins s σ H D I h
 rw[exec_Assign_arm]
 refine af (uU ?_)
 rw[hs]
 refine af (ar ?_)
 rw[ay (by decide)]
 refine af (Tuple_ (fg (ha _ pins s σ H _ I h) fun us s1 ⟨vs,H1,I1,r1,q1⟩=>?_))
 obtain⟨v,w,e1,q1⟩:=q1
 subst e1
 obtain⟨u1,u2,rfl,rv,Ny⟩:∃u1 u2,us=[u1,u2]/\RelV v u1/\RelV w u2:=by
  cases r1 with
  |cons p q=>
   cases q with
   |cons p' q'=>
    cases q'
    exact⟨_,_,rfl,p,p'⟩
 refine ba ?_ (by show 2<=sizeLine;decide)
 have I2:Inv X pins σ H1 { s1 with heap:=s1.heap.push { cls:=.type "tuple",data:=.seq [u1,u2].toArray } }:=I1.kept (t':=s1.toks) fun b o e=>Heap.get?_push_of_some _ e
 rw[hw]
 refine af (ar ?_)
 show eG X (do rule "assign.swapped-stores";let items <-unpackItems (.ref s1.heap.objs.size) 2 none;assignInOrder [fun v=>bindName X.env y v,fun v=>bindName X.env x v] items.reverse;pure Flow.next) _ _ _
 refine af (K5 (af (unpackItems_tuple (items:=#[u1,u2]) (I.ok.hd hc) (IsTup.new s1.heap _) fun h' NF=>?_)))
 have I3:=I2.kept (h':=h') (t':=s1.toks) fun b o e=>NF b o (bL (aK e)) e
 show wpAny _ _ (assignInOrder [fun v=>bindName X.env y v,fun v=>bindName X.env x v] [u2,u1] >>= fun _=>pure Flow.next) _ _ _
 refine af (KH (wpAny_bindName (kJ I3 hN hj (.inl hy) Ny (fun s2 I4=>?_) (.inr hy))))
 refine KH (wpAny_bindName (kJ I4 hN hi (.inl hx) rv (fun s3 I5=>assignInOrder_nil (ar ?_)) (.inr hx)))
 rw[List.set_comm _ _ (ft SV)] at I5
 exact⟨_,H1,I5,q1⟩
def JC(i:Nat)(te:TE)(ti:IL):TS:=fun D σ H=>∃x,σ[i]?=some (some x)/\te σ H fun y H1=>ti x y H1 fun z H2=>D.nx (σ.set i (some z)) H2
def Gd{i:Nat}{X:Cx}{ti:IL}(hN:X.N.Nodup)(hi:X.N[i]?=some x)(hx:Hm X.env.scope x)(he:PE X e te)(ho:Jg X op ti)(hf:X.fn x=true\/X.env.scope.names.lookup x=some .local:=by first | exact .inl rfl | exact .inr rfl | assumption):
  PS X (.AugAssign (.Name x pos') op e pos) (JC i te ti):=by
 intro pins s σ H D I h
 obtain⟨v,e1,h⟩:=h
 obtain⟨m,hn,hl⟩:=I.loc
 have Vx:IJ X.env.scope x:=by rcases hx with k | k;exact .inl k;exact .inr (.inl k)
 obtain⟨u,r,l⟩:=hl i x v hi e1 Vx
 refine wpAny_AugAssign_Name ?_
 have go:eG X (eval e X.env) (fun w s₂=>eG X (inplaceOp op u w) (fun r s₃=>eG X (storeName X.env x r) (fun _=>SP X pins D .next) X.xe s₃) X.xe s₂) X.xe s:=by
  refine fg (he pins s σ H _ I h) fun w s1 ⟨y,H1,I1,r1,q1⟩=>?_
  refine fg (ho pins s1 σ H1 v y u w _ I1 r r1 q1) fun z s2 ⟨zv,H2,I2,r2,q2⟩=>?_
  exact kJ I2 hN hi hx r2 (fun s3 I3=>⟨_,H2,I3,q2⟩) hf
 rcases l with⟨hk,hm⟩ | ⟨hk,c,hc,Mw⟩
 ·exact wpAny_loadName_local I.ok.kind hk hn hm go
 ·rcases hk with hk | hk
  ·exact wpAny_loadName_cell I.ok.kind hk hc Mw go
  ·rcases hx with k | k
   ·have:X.env.scope.names.lookup x=some .free:=hk
    rw[k] at this;cases this
   ·have:X.env.scope.names.lookup x=some .free:=hk
    rw[k] at this;cases this
def HV(to ti te:TE)(OG:V->V->Hp->VK->Prop)(Rj:IL)(OF:DI):TS:=fun D σ H=>to σ H fun o H1=>ti σ H1 fun i H2=>OG o i H2 fun x H3=>te σ H3 fun y H4=>Rj x y H4 fun z H5=>OF o i z H5 fun H6=>D.nx σ H6
def IP(X:Cx)(t:V->V->Hp->VK->Prop):Prop:=
 ∀(pins:fQ) (s:Shared) (σ:St) (H:Hp) (o i:V) (ov iv:Value) (Q:VK),Inv X pins σ H s->RelV o ov->RelV i iv->t o i H Q ->
  eG X (getItem ov iv) (EP X pins σ Q) X.xe s
def Ej{OG:V->V->Hp->VK->Prop}{Rj:IL}{OF:DI}(ho:PE X o to)(hi:PE X i ti)(hg:IP X OG)(he:PE X e te)(hp:Jg X op Rj)(hs:Hk X OF)(ha:∀ov iv new,augStore i ov iv new=(do holding [new,ov,iv] (setItem ov iv new);release [new,ov,iv] [];pure .next):=by intros;rfl):PS X (.AugAssign (.Subscript o i R9) op e pos) (HV to ti te OG Rj OF):=by
 intro pins s σ H D I h
 refine wpAny_AugAssign_SubscriptAny (fg (ho pins s σ H _ I h) fun ov s1 ⟨x1,H1,I1,r1,q1⟩=>?_) ha
 refine fg (hi pins s1 σ H1 _ I1 q1) fun iv s2 ⟨x2,H2,I2,r2,q2⟩=>?_
 refine fg (hg pins s2 σ H2 x1 x2 ov iv _ I2 r1 r2 q2) fun old s3 ⟨x3,H3,I3,r3,q3⟩=>?_
 refine fg (he pins s3 σ H3 _ I3 q3) fun v s4 ⟨x4,H4,I4,r4,q4⟩=>?_
 refine fg (hp pins s4 σ H4 x3 x4 old v _ I4 r3 r4 q4) fun new s5 ⟨x5,H5,I5,r5,q5⟩=>?_
 exact fg (hs pins s5 σ H5 x1 x2 x5 ov iv new _ I5 r1 r2 r5 q5) fun _ s6 ⟨H6,I6,q6⟩=>⟨σ,H6,I6,q6⟩
def FR(c:TT)(tb:TS):TS:=fun D σ H=>∃W:Nat->St->Hp->Prop,(∃m,W m σ H)/\∀m σ H,W m σ H ->
 c σ H fun b H1=>if b=true then ∃N:St->Hp->Prop,(∀σ' H',N σ' H'->∃m',m'<m/\W m' σ' H')/\tb { D with nx:=N,ct:=N,bk:=D.nx } σ H1 else D.nx σ H1
def Cs{X:Cx}{tc:TT}(hp:PassesOwn (model X.prog X.w) X.A X.env X.xe)(hc:PT X c tc)(hb:NG X body tb):PS X (.While c body [] pos) (FR tc tb):=by
 intro pins s σ H D I h
 obtain⟨W,⟨m0,w0⟩,turn⟩:=h
 refine wpAny_While (codeAny_whileLoop (fun n s'=>∃σ' H',Inv X pins σ' H' s'/\W n σ' H') ?_ m0 ⟨σ,H,I,w0⟩)
 rintro n s1 ⟨σ1,H1,I1,w1⟩
 refine ir hp (fg (hc pins s1 σ1 H1 _ I1 (turn n σ1 H1 w1)) fun b s2 ⟨H2,I2,q2⟩=>?_)
 cases b with
 |true=>
  obtain⟨N,hN,q2⟩:=q2
  rw[aB rfl]
  refine ir hp (fg (hb pins s2 σ1 H2 _ I2 q2) fun f s3 q3=>?_)
  cases f with
  |next=>
   obtain⟨σ3,H3,I3,n3⟩:=q3
   obtain⟨m',hm,w3⟩:=hN σ3 H3 n3
   exact⟨m',hm,σ3,H3,I3,w3⟩
  |cont=>
   obtain⟨σ3,H3,I3,n3⟩:=q3
   obtain⟨m',hm,w3⟩:=hN σ3 H3 n3
   exact⟨m',hm,σ3,H3,I3,w3⟩
  |brk=>exact q3
  |ret v=>exact q3
 |false=>
  rw[ay aF]
  exact pY ⟨σ1,H2,I2,q2⟩
structure It where
 go:Nat->Hp->Prop
 RZ:Nat->Hp->V->Hp->Prop
 stop:Nat->Hp->Prop
 L3:Prop
def Hr(X:Cx):Prop:=∃(ea:Addr) (oe:Obj) (u:HO) (vs:Array Value),X.A.handled=some (.ref ea)/\X.H₀ ea=some (.Mq oe u)/\oe.data=.fields vs/\vs[2]?=some .none
def oH(X:Cx)(pins:fQ)(H:Hp)(b:Addr):Prop:=
 H b=none/\b≠X.env.locals/\b∉X.fs/\(b∈X.ex\/X.s₀.heap.objs.size<=b)/\(∀x c,X.env.cells.lookup x=some c->c≠b)/\∀p∈X.pn++pins,p.1≠b
def Inv.Ol{H':Hp}{b:Addr}(I:Inv X pins σ H s)(hb:s.heap.objs.size<=b)(hn:H' b=none):oH X pins H' b:=by
 refine⟨hn,kC (aE I.lt hb),I.Si hb,.inr (aZ I.sz hb),fun x c e z=>?_,fun p hp z=>?_⟩
 ·obtain⟨v,q⟩:=I.cell x c e
  exact absurd (aE q.lt (by rw[z];exact hb)) (fv _)
 ·exact absurd (aE (aK (I.pin p hp).1) (by rw[z];exact hb)) (fv _)
structure yp(P:Program)(w:World)(K:dq)(tg:Expr)(J:It)(fp:List Addr)(it:Addr)(tn:Nat->Heap->Prop):Prop where
 mem:it∈fp
 obj:∀i h,tn i h->∀b∈fp,∃o,h.get? b=some o/\∀v,o.data ≠ .cell v
 keep:∀i h h',tn i h->(∀b∈fp,∀o,h.get? b=some o->h'.get? b=some o)->tn i h'
 item:∀(X:Cx),X.prog=P->X.w=w->X.K=K->(X.calm=true\/(J.L3/\Hr X))->∀(i:Nat) (pins:fQ) (s:Shared) (σ:St) (H:Hp) (E:oO),Inv X pins σ H s->(∀b∈fp,oH X pins H b)->tn i s.heap->J.go i H ->
  wpAny (model P w) X.A (pyNext (.ref it)) (fun r s1=>∃u,r=some u /\
   wpAny (model P w) X.A (letOwnedTupleGo tg (.ref it) u) (fun _ s2=>∃x H',Inv X pins σ H' s2/\RelV x u/\J.RZ i H x H'/\tn (i+1) s2.heap/\∀b∈fp,H' b=none) E s1) E s
 done:∀(X:Cx),X.prog=P->X.w=w->X.K=K->(X.calm=true\/(J.L3/\Hr X))->∀(i:Nat) (pins:fQ) (s:Shared) (σ:St) (H:Hp) (E:oO),Inv X pins σ H s->(∀b∈fp,oH X pins H b)->tn i s.heap->J.stop i H ->
  wpAny (model P w) X.A (pyNext (.ref it)) (fun r s1=>r=none/\Inv X pins σ H s1) E s
 self:∀(A:Around) (i:Nat) (s:Shared) (Q:oO) (E:oO),tn i s.heap->Q (.ref it) s->wpAny (model P w) A (pyIter (.ref it)) Q E s
abbrev TI:=St->Hp->(It->Hp->Prop)->Prop
def Jh(X:Cx)(pins:fQ)(σ:St)(tg:Expr)(R:It->Hp->Prop)(Qv:Value)(s2:Shared):Prop:=
 ∃(it:Addr) (fp:List Addr) (tn:Nat->Heap->Prop) (J:It) (H':Hp),Qv=.ref it/\Inv X pins σ H' s2/\yp X.prog X.w X.K tg J fp it tn/\tn 0 s2.heap/\(∀b∈fp,oH X pins H' b)/\R J H'
def PI(X:Cx)(tg iter:Expr)(wi:TI):Prop:=
 ∀(pins:fQ) (s:Shared) (σ:St) (H:Hp) (R:It->Hp->Prop),Inv X pins σ H s->wi σ H R ->
  eG X (eval iter X.env) (fun v s1=>eG X (pyIter v) (Jh X pins σ tg R) X.xe s1) X.xe s
def Ap{s:Shared}{it:Addr}{Q:Unit->Shared->Prop}(ho:s.heap.get? it=some o)(hc:o.cls=.type n)(hd:o.data=.fields vs)(hn:["enumerate", "zip", "dict_itemiterator", "dict_reverseitemiterator", "odict_iterator", "itertools.zip_longest", "itertools.pairwise"].contains n=false)(hQ:Q () s):wpAny M A (letOwnedTupleGo tg (.ref it) u) Q E s:=by
 unfold letOwnedTupleGo
 cases tg<;>first
  |exact ar hQ
  |(cases u<;>first
    |exact ar hQ
    |(refine af (wpAny_load ho ?_);rw[hc,hd];show wpAny M A (if (["enumerate", "zip", "dict_itemiterator", "dict_reverseitemiterator", "odict_iterator", "itertools.zip_longest", "itertools.pairwise"].contains n&&vs[0]?==some (rawInt _))=true then _ else _) Q E s;rw[ay (by intro h;rw[hn,Bool.false_and] at h;cases h)];exact ar hQ))
def Kj(K:dq)(a:Addr):It:=
 ⟨fun i H=>∃xs x,Mh K H a xs/\xs[i]?=some x,fun i H x H'=>H'=H/\∀xs,Mh K H a xs->xs[i]?=some x,fun i H=>∃xs,Mh K H a xs/\xs.length<=i,False⟩
def Ki(K:dq)(a:Addr):It:=
 ⟨fun i H=>∃xs x,L0 K H a xs/\xs[i]?=some x,fun i H x H'=>H'=H/\∀xs,L0 K H a xs->xs[i]?=some x,fun i H=>∃xs,L0 K H a xs/\xs.length<=i,False⟩
def IQ(lo:Int)(n:Nat):It:=⟨fun i _=>i<n,fun i H x H'=>H'=H/\x=.int (lo+i),fun i _=>n<=i,True⟩
def AW{K:dq}(a it:Addr):yp P w K tg (Kj K a) [it] it (fun i h=>h.IsListIter it a i) where
 mem:=by simp
 obj:=fun i h st b hb=>by
  have e:b=it:=by simpa using hb
  subst e
  obtain⟨o,e,c,d⟩:=st
  exact⟨o,e,fun v z=>by rw[d] at z;cases z⟩
 keep:=fun i h h' st k=>st.at fun o e=>k it (by simp) o e
 item:=by
  intro X hP hw hK hc i pins s σ H E I hf st hg
  subst hP hw hK
  replace hc:=hc.resolve_right fun z=>z.1
  obtain⟨xs,x,hq,hx⟩:=hg
  obtain⟨its,rv,p,hz⟩:=I.list hq
  obtain⟨u,hu,ru⟩:=rv.get hx
  obtain⟨f0,f1,f2,f3,f4,f5⟩:=hf it (by simp)
  refine wpAny_pyNext_list_item st p.isList (x:=u) (by simpa using hu) fun h' N0 sb=>?_
  have I1:Inv X pins σ H { s with heap:=h' }:=I.turned (t':=s.toks) (fun b o hb e=>(sb.2 b hb).trans e) f0 f1 f3 f4 f5
  obtain⟨o,e,c,d⟩:=id N0
  exact⟨u,rfl,Ap (s:={ s with heap:=h' }) e c d (by decide) ⟨x,H,I1,ru,⟨rfl,fun ys hy=>by rw[I.Oa hy hq];exact hx⟩,N0,fun b hb=>(hf b hb).1⟩⟩
 done:=by
  intro X hP hw hK hc i pins s σ H E I hf st hg
  subst hP hw hK
  replace hc:=hc.resolve_right fun z=>z.1
  obtain⟨xs,hq,hx⟩:=hg
  obtain⟨its,rv,p,hz⟩:=I.list hq
  obtain⟨f0,f1,f2,f3,f4,f5⟩:=hf it (by simp)
  have hl:=rv.length
  exact wpAny_pyNext_list_end (I.ok.hd hc) st p.isList (by simp;lia) fun h' eb=>⟨rfl,I.turned (t':=s.toks) (fun b o hb e=>eb b o hb e) f0 f1 f3 f4 f5⟩
 self:=fun _ _ _ _ _ st h=>wpAny_pyIter_listiter st h
def yE{K:dq}(a it:Addr):yp P w K tg (Ki K a) [it] it (fun i h=>h.IsTupleIter it a i) where
 mem:=by simp
 obj:=fun i h st b hb=>by
  have e:b=it:=by simpa using hb
  subst e
  obtain⟨o,e,c,d⟩:=st
  exact⟨o,e,fun v z=>by rw[d] at z;cases z⟩
 keep:=fun i h h' st k=>st.at fun o e=>k it (by simp) o e
 item:=by
  intro X hP hw hK hc i pins s σ H E I hf st hg
  subst hP hw hK
  replace hc:=hc.resolve_right fun z=>z.1
  obtain⟨xs,x,hq,hx⟩:=hg
  obtain⟨its,rv,p,hz⟩:=I.tuple hq
  obtain⟨u,hu,ru⟩:=rv.get hx
  obtain⟨f0,f1,f2,f3,f4,f5⟩:=hf it (by simp)
  refine wpAny_pyNext_tuple_item st (show s.heap.IsTuple a its.toArray from p) (x:=u) (by simpa using hu) fun h' N0 sb=>?_
  have I1:Inv X pins σ H { s with heap:=h' }:=I.turned (t':=s.toks) (fun b o hb e=>(sb.2 b hb).trans e) f0 f1 f3 f4 f5
  obtain⟨o,e,c,d⟩:=id N0
  exact⟨u,rfl,Ap (s:={ s with heap:=h' }) e c d (by decide) ⟨x,H,I1,ru,⟨rfl,fun ys hy=>by rw[I.MF hy hq];exact hx⟩,N0,fun b hb=>(hf b hb).1⟩⟩
 done:=by
  intro X hP hw hK hc i pins s σ H E I hf st hg
  subst hP hw hK
  replace hc:=hc.resolve_right fun z=>z.1
  obtain⟨xs,hq,hx⟩:=hg
  obtain⟨its,rv,p,hz⟩:=I.tuple hq
  obtain⟨f0,f1,f2,f3,f4,f5⟩:=hf it (by simp)
  have hl:=rv.length
  exact wpAny_pyNext_tuple_end (I.ok.hd hc) st (show s.heap.IsTuple a its.toArray from p) (by simp;lia) fun h' eb=>⟨rfl,I.turned (t':=s.toks) (fun b o hb e=>eb b o hb e) f0 f1 f3 f4 f5⟩
 self:=fun _ _ _ _ _ st h=>wpAny_pyIter_tupleiter st h
def uJ:entryFor table "proto.unchain"=some Builtin.«proto.unchain»:=IW (by kernel_rfl)
def uw{A:Around}{s:Shared}{step:Int}{Q:Option Value->Shared->Prop}(hh:A.handled=some (.ref ea))(he:s.heap.get? ea=some oe)(hd:oe.data=.fields vs)(h2:vs[2]?=some .none)(hit:IsRangeIter s.heap it x left step)(QE:left<=0)(hQ:∀h',Heap.ExtBut it s.heap h'->Q none { s with heap:=h' }):wpAny (model prog w) A (pyNext (.ref it)) Q E s:=by
 have hT:s.TypeIs (.ref it) "range_iterator" := ⟨_,hit,rfl⟩
 unfold pyNext
 refine af (uV (wpAny_callSpecial?_slot (name:=Str.ofString "__next__") hT Le (dS Le hT F.entry_range_iterator_next ?_ (F.args_range_iterator_next_1 _))))
 show wpAny _ _ (field (.ref it) 0 >>= _) _ _ s
 refine af (bJ hit rfl (x:=rawInt x) rfl ?_)
 show wpAny _ _ (field (.ref it) 1 >>= _) _ _ s
 refine af (bJ hit rfl (x:=rawInt left) rfl ?_)
 show wpAny _ _ (field (.ref it) 2 >>= _) _ _ s
 refine af (bJ hit rfl (x:=rawInt step) rfl ?_)
 show wpAny _ _ (if left<=0 then _ else _) _ _ s
 rw[aB QE]
 refine af (K5 (af ?_))
 show wpAny _ _ (newExc (.type "StopIteration") [] >>= _) _ _ _
 refine af ?_
 simp only[newExc,newTuple]
 refine af (ba ?_ (by size_fits))
 refine af (m:=firstArgMember _ _) (ji (a:=Value.none) (by first | rfl | (simp only[firstArgMember];rfl)) ?_)
 refine ba ?_ (by size_fits)
 have Mj:ea<s.heap.objs.size:=aK he
 simp only[raiseNew]
 refine af (wpAny_handled ?_)
 rw[show A.in1.handled=some (.ref ea) from hh]
 dsimp only
 have ne:(Value.ref ea != Value.ref (s.heap.push { cls:=.type "tuple",data:=.seq ([]:hW).toArray }).objs.size)=true:=by
  rw[gN]
  have:ea≠s.heap.objs.size+1:=bL (hZ Mj)
  simp[this]
 rw[aB ne]
 have Pz:((s.heap.push { cls:=.type "tuple",data:=.seq ([]:hW).toArray }).push { cls:=.type "StopIteration",data:=.fields (#[.ref s.heap.objs.size,.none,.none,.none,.bool false,Value.none]++ownMembersOf (.type "StopIteration") []) }).get? ea=some oe:=Heap.get?_push_of_some _ (Heap.get?_push_of_some _ he)
 refine af (ef (wpAny_runValue (codeAny_builtin uJ ?_)))
 unfold Builtin.«proto.unchain»
 dsimp only
 refine af (bJ Pz hd h2 ?_)
 rw[aB (by decide)]
 refine ar ?_
 dsimp only
 refine af ?_
 simp only[updateField]
 refine af (wpAny_load (Heap.get?_push_size _ rfl) ?_)
 dsimp only
 rw[aB (by rw[Array.size_append];show 2<6+_;lia)]
 refine wpAny_update (Heap.get?_push_size _ rfl) ?_
 refine wpAny_throw ?_
 refine af (wL (T := "StopIteration") (b:=true) ⟨_,Heap.get?_update_self _ (Heap.get?_push_size _ rfl) rfl,rfl⟩ K6 ?_)
 refine ar (hQ _ fun b o hb q=>?_)
 have S3:b<s.heap.objs.size:=aK q
 rw[Heap.get?_update_other _ _ (by rw[gN];exact kC (hZ S3))]
 exact Heap.get?_push_of_some _ (Heap.get?_push_of_some _ q)
def yF{K:dq}(it:Addr)(lo:Int)(n:Nat):yp P w K tg (IQ lo n) [it] it (fun i h=>IsRangeIter h it (lo+(i:Nat)*1) ((n:Int)-(i:Nat)) 1) where
 mem:=by simp
 obj:=fun i h st b hb=>by
  have e:b=it:=by simpa using hb
  subst e
  exact⟨_,st,fun v z=>by
   have z':Data.fields _=Data.cell v:=z
   cases z'⟩
 keep:=fun i h h' st k=>k it (by simp) _ st
 item:=by
  intro X hP hw hK hc i pins s σ H E I hf st hg
  subst hP hw hK
  obtain⟨f0,f1,f2,f3,f4,f5⟩:=hf it (by simp)
  refine wpAny_pyNext_range_item st (by have:i<n:=hg;lia) fun h' N0 sb=>?_
  have I1:Inv X pins σ H { s with heap:=h',toks:=s.toks+1 }:=I.turned (fun b o hb e=>(sb.2 b hb).trans e) f0 f1 f3 f4 f5
  have e1:lo+(i:Nat)*1+1=lo+((i+1:Nat):Int)*1:=by lia
  have e2:(n:Int)-(i:Nat)-1=(n:Int)-((i+1:Nat):Int):=by lia
  rw[e1,e2] at N0
  refine⟨_,rfl,Ap (s:={ s with heap:=h',toks:=s.toks+1 }) (n := "range_iterator") N0 rfl rfl (by decide) ⟨.int (lo+i),H,I1,⟨s.toks,?_⟩,⟨rfl,rfl⟩,N0,fun b hb=>(hf b hb).1⟩⟩
  rw[l7]
 done:=by
  intro X hP hw hK hc i pins s σ H E I hf st hg
  subst hP hw hK
  obtain⟨f0,f1,f2,f3,f4,f5⟩:=hf it (by simp)
  rcases hc with hc | ⟨_,ea,oe,u,vs,k1,k2,k3,k4⟩
  rotate_left
  ·obtain⟨ho,_⟩:=(show LF X.prog X.w H s.heap ea (.Mq oe u) from I.LA ea _ (I.base.L4 ea oe u k2))
   exact uw k1 ho k3 k4 st (by have:n<=i:=hg;lia) fun h' eb=>⟨rfl,I.turned (t':=s.toks) (fun b o hb e=>eb b o hb e) f0 f1 f3 f4 f5⟩
  exact wpAny_pyNext_range_end (I.ok.hd hc) st (by have:n<=i:=hg;lia) fun h' eb=>⟨rfl,I.turned (t':=s.toks) (fun b o hb e=>eb b o hb e) f0 f1 f3 f4 f5⟩
 self:=fun _ _ _ _ _ st h=>wpAny_pyIter_rangeiter st h
def Iu(K:dq)(tl:TE):TI:=fun σ H R=>tl σ H fun x H1=>∃a,x=.ref a/\(∃xs,Mh K H1 a xs)/\R (Kj K a) H1
def JV(K:dq)(tl:TE):TI:=fun σ H R=>tl σ H fun x H1=>∃a,x=.ref a/\(∃xs,L0 K H1 a xs)/\R (Ki K a) H1
def Eo(hl:PE X l tl):PI X tg l (Iu X.K tl):=by
 intro pins s σ H R I h
 refine fg (hl pins s σ H _ I h) fun v s1 ⟨x,H1,I1,r1,q1⟩=>?_
 obtain⟨a,e,⟨xs,hq⟩,q⟩:=q1
 subst e
 cases r1
 obtain⟨its,rv,p,hz⟩:=I1.list hq
 refine wpAny_pyIter_list p.isList ?_
 refine⟨s1.heap.objs.size,[s1.heap.objs.size],_,_,H1,rfl,I1.kept (t':=s1.toks) fun b o e=>Heap.get?_push_of_some _ e,AW a _,⟨_,Heap.get?_push_size _ rfl,rfl,rfl⟩,fun b hb=>?_,q⟩
 have e:b=s1.heap.objs.size:=by simpa using hb
 subst e
 exact I1.Ol (az _) (I1.LA.fresh (az _))
def Gf(hl:PE X l tl):PI X tg l (JV X.K tl):=by
 intro pins s σ H R I h
 refine fg (hl pins s σ H _ I h) fun v s1 ⟨x,H1,I1,r1,q1⟩=>?_
 obtain⟨a,e,⟨xs,hq⟩,q⟩:=q1
 subst e
 cases r1
 obtain⟨its,rv,p,hz⟩:=I1.tuple hq
 refine rQ (show s1.heap.IsTuple a its.toArray from p) ?_
 refine⟨s1.heap.objs.size,[s1.heap.objs.size],_,_,H1,rfl,I1.kept (t':=s1.toks) fun b o e=>Heap.get?_push_of_some _ e,yE a _,⟨_,Heap.get?_push_size _ rfl,rfl,rfl⟩,fun b hb=>?_,q⟩
 have e:b=s1.heap.objs.size:=by simpa using hb
 subst e
 exact I1.Ol (az _) (I1.LA.fresh (az _))
def xj{lo hi:Int}{tk:Nat}{R:It->Hp->Prop}(I:Inv X pins σ H s)(h1 : -(2 ^ 62)<=lo)(h2:lo<2 ^ 62)(h3 : -(2 ^ 62)<=hi)(h4:hi<2 ^ 62)(q:R (IQ lo (hi-lo).toNat) H):eG X (pyIter (.ref s.heap.objs.size)) (Jh X pins σ tg R) E { s with heap:=s.heap.push { cls:=.type "range",data:=.fields #[.int lo t,.int hi u,.int 1 v] },toks:=tk }:=by
 refine wpAny_pyIter_range (IsRange.new ..) (small_one h1 h2 h3 h4) ?_
 have I1:Inv X pins σ H { s with heap:=s.heap.push { cls:=.type "range",data:=.fields #[.int lo t,.int hi u,.int 1 v] },toks:=tk }:=I.kept fun b o e=>Heap.get?_push_of_some _ e
 refine⟨(s.heap.push { cls:=.type "range",data:=.fields #[.int lo t,.int hi u,.int 1 v] }).objs.size,[(s.heap.push { cls:=.type "range",data:=.fields #[.int lo t,.int hi u,.int 1 v] }).objs.size],_,_,H,rfl,
  I1.kept (t':=tk) fun b o e=>Heap.get?_push_of_some _ e,yF _ lo (hi-lo).toNat,?_,fun b hb=>?_,q⟩
 ·have e1:lo+((0:Nat):Int)*1=lo:=by simp
  have e2:(((hi-lo).toNat:Nat):Int)-((0:Nat):Int)=Builtin.Range.rangeSize lo hi 1:=by rw[rangeSize_one];split<;>lia
  show IsRangeIter _ _ (lo+((0:Nat):Int)*1) ((((hi-lo).toNat:Nat):Int)-((0:Nat):Int)) 1
  rw[e1,e2]
  exact Heap.get?_push_size _ rfl
 ·have e:b=(s.heap.push { cls:=.type "range",data:=.fields #[.int lo t,.int hi u,.int 1 v] }).objs.size:=by simpa using hb
  subst e
  exact I1.Ol (az _) (I1.LA.fresh (az _))
def Ir(ta:TA):TI:=fun σ H R=>ta σ H fun vs H1=>∃j:Int,vs=[.int j]/\-(2 ^ 62)<=j/\j<2 ^ 62/\R (IQ 0 j.toNat) H1
def Iq(ta:TA):TI:=fun σ H R=>ta σ H fun vs H1=>∃i j:Int,vs=[.int i,.int j]/\(-(2 ^ 62)<=i/\i<2 ^ 62/\-(2 ^ 62)<=j/\j<2 ^ 62)/\R (IQ i (j-i).toNat) H1
def Bb(hg:Gl X "range")(hm:X.mg "range"=none)(ha:PA X [a] ta)(hs:starEach [a] X.env=[(false,eval a X.env)]:=by rfl):PI X tg (.Call (.Name "range" p) [a] [] pos) (Ir ta):=by
 intro pins s σ H R I h
 refine Call_ (oj I hg hm boot_range (fq (fg (ha pos pins s σ H _ I h) fun us s1 ⟨vs,H1,I1,r1,q1⟩=>?_) hs rfl))
 obtain⟨j,e,q1,q2,q⟩:=q1
 subst e
 cases r1 with
 |cons r rr=>
  cases rr
  obtain⟨t,rfl⟩:=r
  exact call_range_1 (xj I1 (by lia) (by lia) q1 q2 (by simpa using q))
def Ba(hg:Gl X "range")(hm:X.mg "range"=none)(ha:PA X [a,b] ta)(hs:starEach [a,b] X.env=[(false,eval a X.env),(false,eval b X.env)]:=by rfl)(OK:starEach [b] X.env=[(false,eval b X.env)]:=by rfl):
  PI X tg (.Call (.Name "range" p) [a,b] [] pos) (Iq ta):=by
 intro pins s σ H R I h
 refine Call_ (oj I hg hm boot_range (fq (fg (ha pos pins s σ H _ I h) fun us s1 ⟨vs,H1,I1,r1,q1⟩=>?_) (by rw[hs,OK]) (by rw[OK];rfl)))
 obtain⟨i,j,e,⟨q1,q2,q3,q4⟩,q⟩:=q1
 subst e
 cases r1 with
 |cons r rr=>
  cases rr with
  |cons r' rr=>
   cases rr
   obtain⟨t,rfl⟩:=r
   obtain⟨t',rfl⟩:=r'
   exact call_range_2 (xj I1 q1 q2 q3 q4 q)
def JA(wi:TI)(g:TG)(tb:TS):TS:=fun D σ H=>wi σ H fun J H1=>∃W:Nat->Nat->St->Hp->Prop,(∃m,W 0 m σ H1)/\∀i m σ H,W i m σ H ->
 (J.stop i H/\D.nx σ H)\/(J.go i H/\∃N:St->Hp->Prop,(∀σ' H',N σ' H'->∃m',m'<m/\W (i+1) m' σ' H')/\∀x H',J.RZ i H x H'->g x σ H' fun σ2 H2=>tb { D with nx:=N,ct:=N,bk:=D.nx } σ2 H2)
def qp(fp:List Addr)(h:Heap):fQ:=fp.filterMap fun b=>(h.get? b).map fun o=>(b,o)
def ii{fp:List Addr}{h:Heap}{b:Addr}(hb:b∈fp)(e:h.get? b=some o):(b,o)∈qp fp h:=dM.mpr ⟨b,hb,by rw[e];rfl⟩
def Bd{p:Addr×Obj}(hp:p∈qp fp h):p.1∈fp/\h.get? p.1=some p.2:=by
 obtain⟨b,hb,e⟩:=dM.mp hp
 cases q:h.get? b with
 |none=>rw[q] at e;cases e
 |some o=>
  rw[q] at e
  have e':(b,o)=p:=bc e
  subst e'
  exact⟨hb,q⟩
def Inv.pinned{fp:List Addr}(I:Inv X pins σ H s)(hf:∀b∈fp,oH X pins H b)(ho:∀b∈fp,∃o,s.heap.get? b=some o/\∀v,o.data ≠ .cell v):Inv X (pins++qp fp s.heap) σ H s:=
 I.NI fun p hp=>(uk.mp hp).elim (fun z=>I.pin p (bi _ z)) fun z=>by
  obtain⟨hb,e⟩:=Bd z
  obtain⟨f0,f1,f2,_⟩:=hf p.1 hb
  obtain⟨o,e',d⟩:=ho p.1 hb
  rw[e] at e';cases e'
  exact⟨e,f0,f1,f2,d⟩
def Inv.Ma{pins pl:fQ}(I:Inv X (pins++pl) σ H s):Inv X pins σ H s:=I.NI fun p hp=>I.pin p (bi _ (La _ hp))
def Gc{X:Cx}(hp:PassesOwn (model X.prog X.w) X.A X.env X.xe)(hc:X.calm=true)(hi:PI X tg iter wi)(hg:PG X tg g)(hb:NG X body tb)(hs:∀x,foldedSetIterable iter X.env x=pure x:=by intro _;rfl):PS X (.For tg iter body [] pos) (JA wi g tb):=by
 intro pins s σ H D I h
 refine wpAny_For (fg (hi pins s σ H _ I h) fun v s1 h1=>fg h1 fun Qv s2 h2=>?_) hs
 obtain⟨it,fp,tn,J,H2,e,I2,T,Sb,f2,W,⟨m0,w0⟩,turn⟩:=h2
 subst e
 have stat:∀{H':Hp},(∀b∈fp,H' b=none)->∀b∈fp,oH X pins H' b:=fun hn b hb=>⟨hn b hb,(f2 b hb).2⟩
 refine codeAny_forLoop_any (fun n s'=>∃i σ' H',Inv X pins σ' H' s'/\tn i s'.heap/\(∀b∈fp,H' b=none)/\W i n σ' H') ?_ m0 ⟨0,σ,H2,I2,Sb,fun b hb=>(f2 b hb).1,w0⟩
 rintro n s3 ⟨i,σ3,H3,I3,Rl,RL,w3⟩
 rcases turn i n σ3 H3 w3 with⟨stop,qn⟩ | ⟨go,N,hN,step⟩
 ·refine ir hp (fg (T.done X rfl rfl rfl (.inl hc) i pins s3 σ3 H3 X.xe I3 (stat RL) Rl stop) fun r s4 ⟨hr,I4⟩=>?_)
  subst hr
  exact pY ⟨σ3,H3,I4,qn⟩
 ·refine ir hp (fg (T.item X rfl rfl rfl (.inl hc) i pins s3 σ3 H3 X.xe I3 (stat RL) Rl go) fun r s4 ⟨u,hr,h4⟩=>?_)
  subst hr
  refine ir hp (fg h4 fun _ s5 ⟨x,H5,I5,r5,y5,N6,QX⟩=>?_)
  have Rg:=I5.pinned (stat QX) (T.obj _ _ N6)
  refine ir hp (fg (hg _ s5 σ3 H5 x u _ Rg r5 (step x H5 y5)) fun _ s6 ⟨σ6,H6,I6,q6⟩=>?_)
  refine ir hp (fg (hb _ s6 σ6 H6 _ I6 q6) fun f s7 q7=>?_)
  have again:∀{σ7:St} {H7:Hp},Inv X (pins++qp fp s5.heap) σ7 H7 s7->N σ7 H7->∃m,m<n/\∃i σ' H',Inv X pins σ' H' s7/\tn i s7.heap/\(∀b∈fp,H' b=none)/\W i m σ' H':=fun {σ7 H7} I7 n7=>by
   obtain⟨m',hm,w7⟩:=hN σ7 H7 n7
   refine⟨m',hm,i+1,σ7,H7,I7.Ma,T.keep _ _ _ N6 fun b hb o e=>(I7.pin (b,o) (bi _ (bi _ (ii hb e)))).1,fun b hb=>?_,w7⟩
   obtain⟨o,e,d⟩:=T.obj _ _ N6 b hb
   exact(I7.pin (b,o) (bi _ (bi _ (ii hb e)))).2.1
  cases f with
  |next=>obtain⟨σ7,H7,I7,n7⟩:=q7;exact again I7 n7
  |cont=>obtain⟨σ7,H7,I7,n7⟩:=q7;exact again I7 n7
  |brk=>obtain⟨σ7,H7,I7,q7⟩:=q7;exact⟨σ7,H7,I7.Ma,q7⟩
  |ret v=>obtain⟨x7,σ7,H7,I7,r7,q7⟩:=q7;exact⟨x7,σ7,H7,I7.Ma,r7,q7⟩
abbrev R2:=V->V->Hp->VK->Prop
def mG(X:Cx)(f:Value->Value->Sem Value)(r:R2):Prop:=
 ∀(pins:fQ) (s:Shared) (σ:St) (H:Hp) (x y:V) (v u:Value) (Q:VK),Inv X pins σ H s->RelV x v->RelV y u->r x y H Q ->
  eG X (f v u) (EP X pins σ Q) X.xe s
def J9(X:Cx)(f:Value->Sem Value)(r:V->Hp->VK->Prop):Prop:=
 ∀(pins:fQ) (s:Shared) (σ:St) (H:Hp) (x:V) (v:Value) (Q:VK),Inv X pins σ H s->RelV x v->r x H Q ->
  eG X (f v) (EP X pins σ Q) X.xe s
def mQ(X:Cx)(f:Value)(r:fK->Hp->VK->Prop):Prop:=
 ∀(pins:fQ) (s:Shared) (σ:St) (H:Hp) (xs:fK) (us:hW) (Q:VK),Inv X pins σ H s->Vals xs us->r xs H Q ->
  eG X (call f us) (EP X pins σ Q) X.xe s
def Ka(X:Cx)(r:V->Hp->(Bool->Hp->Prop)->Prop):Prop:=
 ∀(pins:fQ) (s:Shared) (σ:St) (H:Hp) (x:V) (v:Value) (Q:Bool->Hp->Prop),Inv X pins σ H s->RelV x v->r x H Q ->
  eG X (truthy v) (TP X pins σ Q) X.xe s
def Jd(r:R2)(ta tb:TE):TE:=fun σ H Q=>ta σ H fun x H1=>tb σ H1 fun y H2=>r x y H2 Q
def KR(r:V->Hp->VK->Prop)(ta:TE):TE:=fun σ H Q=>ta σ H fun x H1=>r x H1 Q
def rI(C:Int->Int->Prop)(g:Int->Int->V):R2:=fun x y H Q=>∃i j,x=.int i/\y=.int j/\C i j/\Q (g i j) H
def Ec(g:Int->Int->V):R2:=fun x y H Q=>∃i j,x=.int i/\y=.int j/\Q (g i j) H
def rU(g:Int->V):V->Hp->VK->Prop:=fun x H Q=>∃i,x=.int i/\Q (g i) H
def Hf(ha:PE X a ta)(hb:PE X b tb){R:V->V->Hp->Prop}(I:Inv X pins σ H s)(h:ta σ H fun x H1=>tb σ H1 fun y H2=>R x y H2){f:Value->Value->Sem Value}(hf:∀v u s2 x y H2,Inv X pins σ H2 s2->RelV x v->RelV y u->R x y H2->eG X (f v u) Q X.xe s2):
  eG X (eval a X.env) (fun v s₁=>eG X (eval b X.env) (fun u s₂=>eG X (f v u) Q X.xe s₂) X.xe s₁) X.xe s:=by
 refine fg (ha pins s σ H _ I h) fun v s1 ⟨x,H1,I1,r1,q1⟩=>?_
 refine fg (hb pins s1 σ H1 _ I1 q1) fun u s2 ⟨y,H2,I2,r2,q2⟩=>?_
 exact hf v u s2 x y H2 I2 r1 r2 q2
def xq{r:R2}(ho:mG X (binaryOp op) r)(ha:PE X a ta)(hb:PE X b tb):PE X (.BinOp a op b pos) (Jd r ta tb):=by
 intro pins s σ H Q I h
 exact wpAny_BinOp (Hf ha hb I h fun v u s2 x y H2 I2 rx ry q=>ho pins s2 σ H2 x y v u Q I2 rx ry q)
def Ib{op:UnaryOp}{r:V->Hp->VK->Prop}(ho:J9 X (unaryOp op) r)(ha:PE X a ta):PE X (.UnaryOp op a pos) (KR r ta):=by
 intro pins s σ H Q I h
 exact UnaryOp_ (fg (ha pins s σ H _ I h) fun v s1 ⟨x,H1,I1,r1,q1⟩=>ho pins s1 σ H1 x v Q I1 r1 q1)
def HD{f:Value->Value->Sem Value}{C:Int->Int->Prop}{g:Int->Int->Int}(rule:∀(i j:Int) (t u:Tok) (s:Shared) (Q:oO) (E:oO),C i j->Q (.int (g i j) s.toks) { s with toks:=s.toks+1 }->eG X (f (.int i t) (.int j u)) Q E s):
  mG X f (rI C fun i j=>.int (g i j)):=by
 intro pins s σ H x y v u Q I rx ry h
 obtain⟨i,j,rfl,rfl,hc,q⟩:=h
 obtain⟨t,rfl⟩:=rx
 obtain⟨t',rfl⟩:=ry
 exact rule i j t t' s _ _ hc ⟨.int (g i j),H,I.tok _,⟨_,rfl⟩,q⟩
def Im{f:Value->Value->Sem Value}{g:Int->Int->Int}(rule:∀(i j:Int) (t u:Tok) (s:Shared) (Q:oO) (E:oO),Q (.int (g i j) s.toks) { s with toks:=s.toks+1 }->eG X (f (.int i t) (.int j u)) Q E s):
  mG X f (Ec fun i j=>.int (g i j)):=by
 intro pins s σ H x y v u Q I rx ry h
 obtain⟨i,j,rfl,rfl,q⟩:=h
 obtain⟨t,rfl⟩:=rx
 obtain⟨t',rfl⟩:=ry
 exact rule i j t t' s _ _ ⟨.int (g i j),H,I.tok _,⟨_,rfl⟩,q⟩
def GB{f:Value->Value->Sem Value}{g:Int->Int->Bool}(rule:∀(i j:Int) (t u:Tok) (s:Shared) (Q:oO) (E:oO),Q (.bool (g i j)) s->eG X (f (.int i t) (.int j u)) Q E s):
  mG X f (Ec fun i j=>.bl (g i j)):=by
 intro pins s σ H x y v u Q I rx ry h
 obtain⟨i,j,rfl,rfl,q⟩:=h
 obtain⟨t,rfl⟩:=rx
 obtain⟨t',rfl⟩:=ry
 exact rule i j t t' s _ _ ⟨.bl (g i j),H,I,rfl,q⟩
def IT(i j:Int):Prop:=0<=j/\j<=1000000/\i.natAbs<2 ^ 64
def GA:mG X (binaryOp .Add) (Ec fun i j=>.int (i+j)):=Im fun _ _ _ _ _ _ _ q=>add_int q
def Gv:mG X (binaryOp .Sub) (Ec fun i j=>.int (i-j)):=Im fun _ _ _ _ _ _ _ q=>sub_int q
def Gy:mG X (binaryOp .Mod) (rI (fun _ j=>0<j) fun i j=>.int (i%j)):=HD fun i j _ _ _ _ _ hc q=>by
 have h1:(0:Int)<j:=hc
 exact mod_int' (by lia) (by rw[Int.fmod_eq_emod_of_nonneg i (by lia)];exact q)
def Gx:mG X (binaryOp .Pow) (rI IT fun i j=>.int (i ^ j.toNat)):=HD fun _ _ _ _ _ _ _ hc q=>pow_int_small hc.1 hc.2.1 hc.2.2 q
def KQ{f:Value->Sem Value}{g:Int->Int}(rule:∀(i:Int) (t:Tok) (s:Shared) (Q:oO) (E:oO),Q (.int (g i) s.toks) { s with toks:=s.toks+1 }->eG X (f (.int i t)) Q E s):
  J9 X f (rU fun i=>.int (g i)):=by
 intro pins s σ H x v Q I rx h
 obtain⟨i,rfl,q⟩:=h
 obtain⟨t,rfl⟩:=rx
 exact rule i t s _ _ ⟨.int (g i),H,I.tok _,⟨_,rfl⟩,q⟩
def FP:J9 X (unaryOp .USub) (rU fun i=>.int (-i)):=KQ fun _ _ _ _ _ q=>neg_int q
def HZ:V->V->Bool
 |.LH,.LH=>true | .LH,.int _=>true | .int _,.LH=>true | .LH,.bl _=>true | .bl _,.LH=>true | .LH,.str _=>true | .str _,.LH=>true
 |.int _,.int _=>true | .bl _,.bl _=>true | .str _,.str _=>true | .NX _,.NX _=>true
 |.int _,.str _=>true | .str _,.int _=>true | .bl _,.str _=>true | .str _,.bl _=>true
 |_,_=>false
def KZ:R2:=fun x y H Q=>HZ x y=true/\Q (.bl (decide (x=y))) H
def KY:R2:=fun x y H Q=>HZ x y=true/\Q (.bl (!decide (x=y))) H
def sC{i:Int}:decide (V.int i=V.int j)=(i==j):=by
 rw[uq]
 simp
def Du{i:Bool}:decide (V.bl i=V.bl j)=(i==j):=by
 rw[uq]
 simp
def AI{i:Str}:decide (V.str i=V.str j)=(i==j):=by
 rw[uq]
 simp
def AJ{i j:Array UInt8}:decide (V.NX i=V.NX j)=(i.toList==j.toList):=by
 rw[uq]
 cases i
 cases j
 simp
def dj{Q:VK}{k':Bool}(I:Inv X pins σ H s)(q:Q (.bl k) H)(e:k=k'):EP X pins σ Q (.bool k') s:=by
 subst e
 exact⟨.bl k,H,I,rfl,q⟩
def FA:mG X (compareOp .Eq) KZ:=by
 intro pins s σ H x y v u Q I rx ry h
 obtain⟨hs,q⟩:=h
 cases x with
 |LH=>
  cases rx
  cases y with
  |LH=>cases ry;exact PySem.EqNone.eq_none_none (dj I q (by simp))
  |bl j=>cases ry;exact PySem.EqNone.eq_none_bool (dj I q (by simp))
  |int j=>obtain⟨t',rfl⟩:=ry;exact PySem.EqNone.eq_none_int (dj I q (by simp))
  |str j=>obtain⟨t',rfl⟩:=ry;exact PySem.EqNone.eq_none_str (dj I q (by simp))
  |_=>exact absurd (show false=true from hs) aF
 |bl i=>
  cases rx
  cases y with
  |LH=>cases ry;exact PySem.EqNone.eq_bool_none (dj I q (by simp))
  |bl j=>cases ry;exact eq_bool (dj I q Du)
  |str j=>obtain⟨t',rfl⟩:=ry;exact PySem.EqMixed.eq_bool_str (dj I q (by simp))
  |_=>exact absurd (show false=true from hs) aF
 |int i=>
  obtain⟨t,rfl⟩:=rx
  cases y with
  |LH=>cases ry;exact PySem.EqNone.eq_int_none (dj I q (by simp))
  |int j=>obtain⟨t',rfl⟩:=ry;exact eq_int (dj I q sC)
  |str j=>obtain⟨t',rfl⟩:=ry;exact PySem.EqMixed.eq_int_str (dj I q (by simp))
  |_=>exact absurd (show false=true from hs) aF
 |str i=>
  obtain⟨t,rfl⟩:=rx
  cases y with
  |LH=>cases ry;exact PySem.EqNone.eq_str_none (dj I q (by simp))
  |bl j=>cases ry;exact PySem.EqMixed.eq_str_bool (dj I q (by simp))
  |int j=>obtain⟨t',rfl⟩:=ry;exact PySem.EqMixed.eq_str_int (dj I q (by simp))
  |str j=>obtain⟨t',rfl⟩:=ry;exact eq_str (dj I q AI)
  |_=>exact absurd (show false=true from hs) aF
 |NX i=>
  obtain⟨t,rfl⟩:=rx
  cases y with
  |NX j=>obtain⟨t',rfl⟩:=ry;exact PySem.W.eq_bytes (dj I q AJ)
  |_=>exact absurd (show false=true from hs) aF
 |_=>cases y<;>exact absurd (show false=true from hs) aF
def Ik:mG X (compareOp .NotEq) KY:=by
 intro pins s σ H x y v u Q I rx ry h
 obtain⟨hs,q⟩:=h
 cases x with
 |LH=>
  cases rx
  cases y with
  |LH=>cases ry;exact PySem.EqNone.ne_none_none (dj I q (by simp))
  |bl j=>cases ry;exact PySem.EqNone.ne_none_bool (dj I q (by simp))
  |int j=>obtain⟨t',rfl⟩:=ry;exact PySem.EqNone.ne_none_int (dj I q (by simp))
  |str j=>obtain⟨t',rfl⟩:=ry;exact PySem.EqNone.ne_none_str (dj I q (by simp))
  |_=>exact absurd (show false=true from hs) aF
 |bl i=>
  cases rx
  cases y with
  |LH=>cases ry;exact PySem.EqNone.ne_bool_none (dj I q (by simp))
  |bl j=>cases ry;exact ne_bool (dj I q (c8 not Du))
  |str j=>obtain⟨t',rfl⟩:=ry;exact PySem.EqMixed.ne_bool_str (dj I q (by simp))
  |_=>exact absurd (show false=true from hs) aF
 |int i=>
  obtain⟨t,rfl⟩:=rx
  cases y with
  |LH=>cases ry;exact PySem.EqNone.ne_int_none (dj I q (by simp))
  |int j=>obtain⟨t',rfl⟩:=ry;exact ne_int (dj I q (c8 not sC))
  |str j=>obtain⟨t',rfl⟩:=ry;exact PySem.EqMixed.ne_int_str (dj I q (by simp))
  |_=>exact absurd (show false=true from hs) aF
 |str i=>
  obtain⟨t,rfl⟩:=rx
  cases y with
  |LH=>cases ry;exact PySem.EqNone.ne_str_none (dj I q (by simp))
  |bl j=>cases ry;exact PySem.EqMixed.ne_str_bool (dj I q (by simp))
  |int j=>obtain⟨t',rfl⟩:=ry;exact PySem.EqMixed.ne_str_int (dj I q (by simp))
  |str j=>obtain⟨t',rfl⟩:=ry;exact ne_str (dj I q (c8 not AI))
  |_=>exact absurd (show false=true from hs) aF
 |NX i=>
  obtain⟨t,rfl⟩:=rx
  cases y with
  |NX j=>obtain⟨t',rfl⟩:=ry;exact PySem.W.ne_bytes (dj I q (c8 not AJ))
  |_=>exact absurd (show false=true from hs) aF
 |_=>cases y<;>exact absurd (show false=true from hs) aF
def Fy:mG X (compareOp .Lt) (Ec fun i j=>.bl (decide (i<j))):=GB fun _ _ _ _ _ _ _ q=>lt_int q
def Fz:mG X (compareOp .Gt) (Ec fun i j=>.bl (decide (j<i))):=GB fun _ _ _ _ _ _ _ q=>gt_int q
def Il:mG X (compareOp .GtE) (Ec fun i j=>.bl (decide (j<=i))):=GB fun _ _ _ _ _ _ _ q=>ge_int q
def CC:mG X (compareOp .Is) (fun x y H Q=>y=.LH/\Q (.bl (decide (x=.LH))) H):=by
 intro pins s σ H x y v u Q I rx ry h
 obtain⟨rfl,q⟩:=h
 cases ry
 refine is_none_gen (dj I q ?_)
 cases x<;>first
  |(cases rx;rfl)
  |(obtain⟨t,rfl⟩:=rx;rfl)
def Eu:mG X (compareOp .IsNot) (fun x y H Q=>y=.LH/\Q (.bl (!decide (x=.LH))) H):=by
 intro pins s σ H x y v u Q I rx ry h
 obtain⟨rfl,q⟩:=h
 cases ry
 refine isnot_none_gen (dj I q ?_)
 cases x<;>first
  |(cases rx;rfl)
  |(obtain⟨t,rfl⟩:=rx;rfl)
def JN(b:Expr){op:CmpOp}(h:op ≠ .In:=by decide)(h2:op ≠ .NotIn:=by decide):behindInMarks op b=false:=by
 have e1:(op==CmpOp.In)=false:=by cases op<;>first | rfl | exact absurd rfl h
 have e2:(op==CmpOp.NotIn)=false:=by cases op<;>first | rfl | exact absurd rfl h2
 cases b<;>simp[behindInMarks,e1,e2]
def sw{op:CmpOp}{r:R2}(ho:mG X (compareOp op) r)(ha:PE X a ta)(hb:PE X b tb)(hm:behindInMarks op b=false):PE X (.Compare a [op] [b] pos) (Jd r ta tb):=by
 intro pins s σ H Q I h
 exact wpAny_Compare1 (Hf ha hb I h fun v u s2 x y H2 I2 rx ry q=>ho pins s2 σ H2 x y v u Q I2 rx ry q) hm
def HN(t:TE):TT:=fun σ H Q=>t σ H fun x H'=>∃k,x=.bl k/\Q k H'
def m8{op:CmpOp}{r:R2}(ho:mG X (compareOp op) r)(ha:PE X a ta)(hb:PE X b tb)(hm:behindInMarks op b=false):PT X (.Compare a [op] [b] pos) (HN (Jd r ta tb)):=by
 intro pins s σ H Q I h
 refine wpAny_isTrue_Compare1 (fg (ha pins s σ H _ I h) fun v s1 ⟨x,H1,I1,r1,q1⟩=>fg (hb pins s1 σ H1 _ I1 q1) fun u s2 ⟨y,H2,I2,r2,q2⟩=>
  fg (ho pins s2 σ H2 x y v u _ I2 r1 r2 q2) fun c s3 ⟨z,H3,I3,r3,k,e,q3⟩=>?_) hm
 subst e
 cases r3
 exact iQ ⟨H3,I3,q3⟩
def IK(K:dq)(x:V)(H:Hp)(k:Bool):Prop:=
 match x with
 |.LH=>k=false
 |.bl b=>k=b
 |.int i=>k=(i != 0)
 |.str y=>y.length<=sizeLine/\k=((y.length:Int) != 0)
 |.NX y=>y.size<=sizeLine/\k=((y.size:Int) != 0)
 |.ref p=>(∃xs,Mh K H p xs/\k = !xs.isEmpty)\/(∃xs,L0 K H p xs/\k = !xs.isEmpty)\/∃kvs,H p=some (.dK kvs)/\k = !kvs.isEmpty
 |_=>False
def yT{κ:Type}{kvs:List (κ×V)}{vs:List (κ×Value)}(r:KV kvs vs):(!vs.isEmpty) = !kvs.isEmpty:=by
 cases r<;>rfl
def tP(r:Vals xs its):(!its.toArray.isEmpty) = !xs.isEmpty:=by
 cases r<;>simp
def mq:(sizeLine:Nat)<2 ^ 63:=by rw[sizeLine_eq];decide
def FQ:Ka X (fun x H Q=>∃k,IK X.K x H k/\Q k H):=by
 intro pins s σ H x v Q I rx h
 obtain⟨k,e,q⟩:=h
 have hl:=mq
 have hs:sizeLine=16777216:=sizeLine_eq
 cases x with
 |LH=>
  cases rx
  have e':k=false:=e
  subst e'
  exact truthy_none ⟨H,I,q⟩
 |bl b=>
  cases rx
  have e':k=b:=e
  subst e'
  exact iQ ⟨H,I,q⟩
 |int i=>
  obtain⟨t,rfl⟩:=rx
  have e':k=(i != 0):=e
  subst e'
  exact PySem.P.truthy_int ⟨H,I,q⟩
 |str y=>
  obtain⟨t,rfl⟩:=rx
  obtain⟨hy,e'⟩:y.length<=sizeLine/\k=((y.length:Int) != 0):=e
  subst e'
  exact PySem.P.truthy_str (by lia) ⟨H,I.tok _,q⟩
 |NX y=>
  obtain⟨t,rfl⟩:=rx
  obtain⟨hy,e'⟩:y.size<=sizeLine/\k=((y.size:Int) != 0):=e
  subst e'
  exact PySem.W.truthy_bytes (by lia) ⟨H,I.tok _,q⟩
 |ref p=>
  cases rx
  have e':(∃xs,Mh X.K H p xs/\k = !xs.isEmpty)\/(∃xs,L0 X.K H p xs/\k = !xs.isEmpty)\/∃kvs,H p=some (.dK kvs)/\k = !kvs.isEmpty:=e
  rcases e' with⟨xs,hx,e'⟩ | ⟨xs,hx,e'⟩ | ⟨kvs,hx,e'⟩
  ·subst e'
   obtain⟨its,r,pl,hz⟩:=I.list hx
   have hlen:=r.length
   exact wpAny_truthy_list pl.isList (by simp only[au];lia) ⟨H,I.tok _,by rw[tP r];exact q⟩
  ·subst e'
   obtain⟨its,r,pl,hz⟩:=I.tuple hx
   have hlen:=r.length
   exact truthy_tuple pl (by simp only[au];lia) ⟨H,I.tok _,by rw[tP r];exact q⟩
  ·subst e'
   obtain⟨hz,hS,vs,r,m⟩:kvs.length<=sizeLine/\(p==sysModules)=false/\∃vs,KV kvs vs/\s.heap.DictOf (vW X.prog X.w) p vs:=I.LA p _ hx
   have hlen:kvs.length=vs.length:=Paired.length r
   exact wpAny_truthy_dict hS m (by lia) ⟨H,I.tok _,by rw[yT r];exact q⟩
 |_=>exact(show False from e).elim
def Cr(ha:PE X a ta)(he:∀whole,isTrue a X.env whole=(do let v <-whole;standAt a.pos;holding [v] (truthy v))):
  PT X a (fun σ H Q=>ta σ H fun x H'=>∃k,IK X.K x H' k/\Q k H'):=by
 intro pins s σ H Q I h
 exact isTrue_plain (fg (ha pins s σ H _ I h) fun v s1 ⟨x,H1,I1,r1,q1⟩=>FQ pins s1 σ H1 x v Q I1 r1 q1) (he _)
def qX(r:Vals [x] us):∃u,us=[u]/\RelV x u:=by
 cases r with
 |cons r1 r2=>cases r2;exact⟨_,rfl,r1⟩
def Fk(r:Vals [x,y] us):∃u w',us=[u,w']/\RelV x u/\RelV y w':=by
 cases r with
 |cons r1 r2=>
  cases r2 with
  |cons r3 r4=>cases r4;exact⟨_,_,rfl,r1,r3⟩
def Dy:mQ X (.builtin "abs") (fun xs H Q=>∃i,xs=[.int i]/\Q (.int (if i<0 then -i else i)) H):=by
 intro pins s σ H xs us Q I r h
 obtain⟨i,rfl,q⟩:=h
 obtain⟨u,rfl,t,rfl⟩:=qX r
 exact call_abs_int fun u tk=>⟨.int (if i<0 then -i else i),H,I.tok _,⟨_,rfl⟩,q⟩
def BE:mQ X (.type "int") (fun xs H Q=>(∃i,xs=[.int i]/\Q (.int i) H)\/∃k,xs=[.bl k]/\Q (.int (if k then 1 else 0)) H):=by
 intro pins s σ H xs us Q I r h
 rcases h with⟨i,rfl,q⟩ | ⟨k,rfl,q⟩
 ·obtain⟨u,rfl,t,rfl⟩:=qX r
  exact call_int_int ⟨.int i,H,I,⟨_,rfl⟩,q⟩
 ·obtain⟨u,rfl,r1⟩:=qX r
  cases r1
  exact call_int_bool ⟨.int (if k then 1 else 0),H,I.tok _,⟨_,rfl⟩,q⟩
structure PR(h:Heap)(x dx C:Addr)(mA:uh):Prop where
 obj:h.get? x=some (PySem.W.instObj C dx)
 ns:h.Ns1 dx mA
 ne:dx≠x
def Bl{h:Heap}(n:h.Ns1 dx mA):∃od,h.get? dx=some od/\∀name,PySem.W.lookIn name od=some (mA name):=by
 obtain⟨o,es,ep,ho,hd,hk,_,hm⟩:=n
 refine⟨o,ho,fun name=>?_⟩
 have e:=hm name
 unfold nsFind findBy at e
 rw[<-Array.find?_toList] at e
 unfold PySem.W.lookIn
 rw[hd]
 dsimp only
 split
 ·rename_i y q
  rw[q] at e
  exact c8 some e
 ·rename_i q
  rw[q] at e
  have a:es.toList.any (·.refKey)=false:=by
   rw[List.any_eq_false]
   intro y hy
   obtain⟨z,t,SR⟩:=hk y (Array.mem_toList_iff.mp hy)
   simp[DictEntry.refKey,SR]
  have a':¬es.toList.any (·.refKey)=true:=by rw[a];exact aF
  rw[ay a']
  exact c8 some e
def PR.look(I:PR h x dx C mA):∃od,PySem.W.InstAt h x (PySem.W.instObj C dx) C (some od)/\∀name,PySem.W.lookIn name od=some (mA name):=
 let ⟨od,ho,hl⟩:=Bl I.ns
 ⟨od,⟨I.obj,rfl,rfl,ho⟩,hl⟩
section
variable {fs Za:List (Str×V)}
def EF{a:Addr}(LA:MI P w H h)(e:H a=some (.ins C dx fs)):∃mA,PR h a dx C mA/\(∀f,Hj (fs.lookup f) (mA f))/\PySem.Within mA (fs.map (·.1))/\fs.length<=1000/\H dx=some (.own a):=by
 obtain⟨d,z,ne,ob,mA,n,r,q⟩:=(show LF P w H h a (.ins C dx fs) from LA a _ e)
 exact⟨mA,⟨ob,n,ne⟩,r,q,z,d⟩
end
structure RY(K:dq)(C:Addr):Prop where
 pg:PySem.W.plainGet K C Str.empty=true
 hd:PySem.W.hasDictIn K C=true
 po:PySem.W.plainOver K C=true
 sa:PySem.W.findIn K (.ref C) "__setattr__"=some (some (.builtin "object.__setattr__"))
def RY.get{K:dq}(c:RY K C)(f:Str):PySem.W.plainGet K C f=true:=c.pg
def zU(K:dq)(C:Addr)(f:Str):Prop:=PySem.W.findIn K (.ref C) f=some none
inductive qO(K:dq)(H:Hp):V->Value->Prop where
 |LH:qO K H .LH (.type "NoneType")
 |bl (x:Bool):qO K H (.bl x) (.type "bool")
 |int (i:Int):qO K H (.int i) (.type "int")
 |str (x:Str):qO K H (.str x) (.type "str")
 |Qc (x:UInt64):qO K H (.Qc x) (.type "float")
 |lst {a:Addr} {xs:fK} (e:H a=some (.lst xs)):qO K H (.ref a) (.type "list")
 |Mq {a:Addr} {o:Obj} {xs:fK} (e:H a=some (.Mq o (.lst xs))):qO K H (.ref a) (.type "list")
 |tup {a:Addr} {xs:fK} (e:H a=some (.tup xs)):qO K H (.ref a) (.type "tuple")
 |dK {a:Addr} {kvs:List (wU×V)} (e:H a=some (.dK kvs)):qO K H (.ref a) (.type "dict")
 |dT {a:Addr} {kvs:List (List wU×V)} (e:H a=some (.dT kvs)):qO K H (.ref a) (.type "dict")
 |ins {a C dx:Addr} {fs:List (Str×V)} (e:H a=some (.ins C dx fs)) (cl:RY K C) (ha:PySem.W.findIn K (.ref C) "__class__"=some (some (.builtin "object.__class__")))
   (hn:PySem.W.specialIn K (.builtin "object.__class__") "__get__"=some (some (.builtin "getset_descriptor.__get__"))) (Ue:PySem.W.takesIn K (.builtin "object.__class__")=some true)
   (hm:PySem.W.mroIn K C (.type "object")=some true):qO K H (.ref a) (.ref C)
def Bq{Q:oO}{c:Value}(I:Inv X pins σ H s)(rx:RelV x u)(ty:qO X.K H x t)(e:PySem.W.kitOne X.K t c=some b)(h:∀tk,Q (.bool b) { s with toks:=tk }):
  wpAny (model X.prog X.w) A (call (.builtin "isinstance") [u,c]) Q E s:=by
 cases ty with
 |LH=>cases(show u=Value.none from rx);exact dw PySem.W.kitx_none I.MX True.intro e (fun z=>nomatch z) h
 |bl y=>cases(show u=Value.bool y from rx);exact dw PySem.W.kitx_bool I.MX True.intro e (fun z=>nomatch z) h
 |int i=>obtain⟨t,q⟩:=(show ∃t,u=Value.int i t from rx);cases q;exact dw PySem.W.kitx_int I.MX True.intro e (fun z=>nomatch z) h
 |str y=>obtain⟨t,q⟩:=(show ∃t,u=Value.str y t from rx);cases q;exact dw PySem.W.kitx_str I.MX True.intro e (fun z=>nomatch z) h
 |Qc y=>obtain⟨t,q⟩:=(show ∃t,u=Value.float y t from rx);cases q;exact dw PySem.W.kitx_float I.MX True.intro e (fun z=>nomatch z) h
 |@lst a xs ea=>
  cases(show u=Value.ref a from rx)
  obtain⟨_,_,n,_,h1⟩:=(show LF X.prog X.w H s.heap a (.lst xs) from I.LA a _ ea)
  exact dw PySem.W.kitx_list I.MX ⟨_,h1,rfl⟩ e (fun z=>nomatch z) h
 |@Mq a ob xs ea=>
  cases(show u=Value.ref a from rx)
  obtain⟨_,_,_,n,_,h1⟩:=(show LF X.prog X.w H s.heap a (.Mq ob (.lst xs)) from I.LA a _ ea)
  exact dw PySem.W.kitx_list I.MX ⟨_,h1,rfl⟩ e (fun z=>nomatch z) h
 |@tup a xs ea=>
  cases(show u=Value.ref a from rx)
  obtain⟨_,_,_,p⟩:=(show LF X.prog X.w H s.heap a (.tup xs) from I.LA a _ ea)
  obtain⟨o,h1,h2,_⟩:=p
  exact dw PySem.W.kitx_tuple I.MX ⟨o,h1,h2⟩ e (fun z=>nomatch z) h
 |@dK a kvs ea=>
  cases(show u=Value.ref a from rx)
  obtain⟨_,_,vs,_,p⟩:=(show LF X.prog X.w H s.heap a (.dK kvs) from I.LA a _ ea)
  obtain⟨o,es,ep,h1,h2,_⟩:=p
  exact dw PySem.W.kitx_dict I.MX ⟨o,h1,h2.1⟩ e (fun z=>nomatch z) h
 |@dT a kvs ea=>
  cases(show u=Value.ref a from rx)
  obtain⟨_,_,xs,_,o,es,ep,h1,h2,_⟩:=(show LF X.prog X.w H s.heap a (.dT kvs) from I.LA a _ ea)
  exact dw PySem.W.kitx_dict I.MX ⟨o,h1,h2.1⟩ e (fun z=>nomatch z) h
 |@ins a C dx fs ea cl ha hn Ue hm=>
  cases(show u=Value.ref a from rx)
  obtain⟨mA,O,_⟩:=EF I.LA ea
  obtain⟨od,J,_⟩:=O.look
  exact dw (PySem.W.kitx_own (cl.get _) cl.hd ha hn Ue hm) I.MX J e (fun z=>nomatch z) h
structure L6(k:Nat)(A:Around):Prop where
 hd:A.handled=none
 dp:A.depth+3*k+105<recursionLimit
 un:A.units+16*k+200<cLine
def L6.mono{j:Nat}(r:L6 k A)(h:j<=k):L6 j A:=⟨r.hd,by have:=r.dp;lia,by have:=r.un;lia⟩
def L6.deeper{k:Nat}(r:L6 (k+1) A)(env:Env):L6 k (A.deeper env):=
 ⟨r.hd,by have:=r.dp;show A.depth+1+3*k+105<_;lia,by have:=r.un;show A.units+3+16*k+200<_;lia⟩
def L6.NM(r:L6 k A):A.depth+100<recursionLimit:=by have:=r.dp;lia
def L6.depth(r:L6 k A):A.depth<recursionLimit:=by have:=r.dp;lia
def L6.units(r:L6 k A):A.units+64<cLine:=by have:=r.un;lia
def Jx:TA:=fun _ H Q=>Q [] H
def HS(ta:TE)(tr:TA):TA:=fun σ H Q=>ta σ H fun x H1=>tr σ H1 fun xs H2=>Q (x::xs) H2
def ie:PA X [] Jx:=fun _ _ _ _ H Q I h=>Calls.spliced_nil ⟨[],H,I,.nil,h⟩
def eH(ha:PE X e te)(hr:PA X es t)(hs:Fi e es X.env:=by rfl):PA X (e::es) (HS te t):=by
 intro pos pins s σ H Q I h
 rw[hs]
 show wpAny _ _ (spliced ((false,eval e X.env)::backTo pos (starEach es X.env))) _ _ s
 refine Calls.spliced_cons (fg (ha pins s σ H _ I h) fun u s1 ⟨x,H1,I1,r1,q1⟩=>?_)
 exact fg (hr pos pins s1 σ H1 _ I1 q1) fun us s2 ⟨xs,H2,I2,r2,q2⟩=>⟨x::xs,H2,I2,.cons r1 r2,q2⟩
def Jr(t:TA):TE:=fun σ H Q=>t σ H fun xs H1=>xs.length<=sizeLine/\∀p,H1 p=none->Q (.ref p) (gq H1 p (.tup xs))
def Jy(t:TA):TE:=fun σ H Q=>t σ H fun xs H1=>xs.length<=sizeLine/\∀p,H1 p=none->Q (.ref p) (gq H1 p (.lst xs))
def Gk{x1}(h:PA X es t):PE X (.Tuple es x1 pos) (Jr t):=by
 intro pins s σ H Q I hq
 refine wpAny_Tuple_spliced (fg (h pos pins s σ H _ I hq) fun us s1 ⟨xs,H1,I1,r,z,q⟩=>⟨by rw[<-r.length];exact z,?_⟩)
 have hf:H1 s1.heap.objs.size=none:=I1.LA.fresh (az _)
 refine⟨.ref s1.heap.objs.size,gq H1 s1.heap.objs.size (.tup xs),I1.laid (t':=s1.toks) (fun b u e=>Heap.get?_push_of_some _ e) (az _) ?_,rfl,q _ hf⟩
 exact⟨z,us,r,⟨_,Heap.get?_push_size _ rfl,rfl,_,rfl⟩⟩
def Gq(h:PA X es t):PE X (.List es pos) (Jy t):=by
 intro pins s σ H Q I hq
 refine wpAny_List_spliced (fg (h pos pins s σ H _ I hq) fun us s1 ⟨xs,H1,I1,r,z,q⟩=>⟨by rw[<-r.length];exact z,?_⟩)
 have hf:H1 s1.heap.objs.size=none:=I1.LA.fresh (az _)
 refine⟨.ref s1.heap.objs.size,gq H1 s1.heap.objs.size (.lst xs),I1.laid (t':=s1.toks) (fun b u e=>Heap.get?_push_of_some _ e) (az _) ?_,rfl,q _ hf⟩
 exact⟨z,us,0,r,Heap.get?_push_size _ rfl⟩
abbrev Sp:=fK->Hp->VK->XK->Prop
abbrev Hs:=List Env->Hp->Shared->XK->Value->Shared->Prop
structure Fa(P:Program)(w:World)(K:dq)(mg:uh)(base:Heap)(A:Around)(outer:List Env)(s:Shared)(H:Hp):Prop where
 frames:A.frames=some outer
 mod:Mod K mg base
 bs:∀b o,base.get? b=some o->s.heap.get? b=some o/\H b=none
 OV:base.objs.size<=s.heap.objs.size
 MA:s.heap.FunFrames base outer
 PL:∀b∈oo outer,H b=none
 LA:MI P w H s.heap
 bare:AllBare s.gens
def CE(outer:List Env)(P:Program)(w:World)(H:Hp)(s:Shared)(Q:VK)(u:Value)(s':Shared):Prop:=
 ∃v H',s'.os=s.os/\AllBare s'.gens/\Un (oo outer) [] H H' s.heap s'.heap/\MI P w H' s'.heap/\RelV v u/\Q v H'
def CR(CX:Hs)(outer:List Env)(P:Program)(w:World)(H:Hp)(s:Shared)(Q:VK)(E:XK)(r:Result)(s':Shared):Prop:=
 match r with
 |.ok (.ret u)=>CE outer P w H s Q u s'
 |.ok _=>False
 |.error e=>CX outer H s E e s'
structure lX(P:Program)(w:World)(K:dq)(mg:uh)(base:Heap)(CX:Hs)(k:Nat)(f:Addr)(fd:FuncData)(ps:fw)(sp:Sp):Prop where
 len:∀vs H Q E,sp vs H Q E->vs.length=ps.length
 run:∀(A:Around) (outer:List Env) (s:Shared) (H:Hp) (args:Args) (us:hW) (vs:fK) (Q:VK) (E:XK),L6 k A->Fa P w K mg base A outer s H->BindsTo s fd args (ps.zip us)->Vals vs us->sp vs H Q E ->
  codeAny (model P w) A (.call (.ref f) args) (CR CX outer P w H s Q E) s
def Inv.Q4(I:Inv X pins σ H s):Fa X.prog X.w X.K X.mg X.base X.A X.stack s H:=
 ⟨I.ok.frames,I.ok.mod,I.bs,aZ I.ok.OV I.sz,I.stack,I.ML,I.LA,I.bare⟩
def Inv.after(I:Inv X pins σ H s)(h:CE X.stack X.prog X.w H s Q u s'):EP X pins σ Q u s':=by
 obtain⟨v,H',os,bare,un,LA,r,q⟩:=h
 obtain⟨hh,g,d,t,VX⟩:=s'
 obtain rfl:VX=s.os:=os
 exact⟨v,H',I.call (h':=hh) (g':=g) (d':=d) (t':=t) (ch:=[]) un LA bare (fun b z=>absurd z (by simp)),r,q⟩
def HU(sp:Sp)(PM:fK)(E:XK)(t:TA):TE:=fun σ H Q=>t σ H fun vs H1=>sp (vs++PM) H1 Q E
def Binds(K:dq)(fd:FuncData)(ps:fw)(ds:hW):Prop:=
 ∀(s:Shared) (us:hW),K.In s.heap->(us++ds).length=ps.length->BindsTo s fd ⟨us,[]⟩ (ps.zip (us++ds))
def Binds.all{K:dq}{ps:fw}(h:∀us:hW,us.length=ps.length->bindArgs fd ⟨us,[]⟩=pure (ps.zip us)):Binds K fd ps []:=fun s us _ hl=>by
 rw[jt] at hl ⊢
 exact .of_eq (h us hl)
def wD(CX:Hs)(X:Cx)(E:XK):Prop:=∀(pins:fQ) (σ:St) (H:Hp) (s:Shared) (e:Value) (s':Shared),Inv X pins σ H s->CX X.stack H s E e s'->X.xe e s'
section
variable {E:XK}
def FV{X:Cx}(F:lX X.prog X.w X.K X.mg X.base CX k f fd ps sp)(hr:L6 k X.A)(hb:Binds X.K fd ps ds)(hd:Vals PM ds)(hx:wD CX X E)(I:Inv X pins σ H s)(r:Vals vs us)(h:sp (vs++PM) H Q E):eG X (call (.ref f) us) (EP X pins σ Q) X.xe s:=by
 have r2:Vals (vs++PM) (us++ds):=r.append hd
 have hl:(us++ds).length=ps.length:=by rw[<-r2.length];exact F.len _ _ _ _ h
 refine wpAny_call (Hx (F.run X.A X.stack s H ⟨us,[]⟩ (us++ds) (vs++PM) Q E hr I.Q4 (hb s us I.MX hl) r2 h) fun r s' hq=>?_)
 cases r with
 |error e=>exact hx pins σ H s e s' I hq
 |ok fl=>
  cases fl with
  |ret u=>exact I.after hq
  |next=>exact False.elim hq
  |brk=>exact False.elim hq
  |cont=>exact False.elim hq
def Es{X:Cx}(F:lX X.prog X.w X.K X.mg X.base CX k f fd ps sp)(hr:L6 k X.A)(hg:Gl X x)(hm:X.mg x=some (.ref f))(hk:PySem.W.keepIn X.K (.ref f)=true)(hb:Binds X.K fd ps ds)(hd:Vals PM ds)(hx:wD CX X E)(ha:PA X (e::es) t)(NT:yu x:=by decide)(he:Fi e es X.env:=by rfl)(Od:BX pos es X.env:=by rfl):
  PE X (.Call (.Name x p) (e::es) [] pos) (HU sp PM E t):=by
 intro pins s σ H Q I h
 refine rR (pD I hg hm ?_ NT)
 refine PySem.W.callWith_K (h₀:=X.base) I.ok.mod.Rw hk (fg (ha pos pins s σ H _ I h) fun us s1 ⟨vs,H1,I1,r,q⟩=>⟨I1.MX,?_⟩) he Od
 exact FV F hr hb hd hx I1 r q
end
structure aP(N P:fw)(sc:Scope):Prop where
 kind:sc.kind=.function
 co:sc.isCoroutine=false
 gen:sc.isGenerator=false
 nd:N.Nodup
 pre:N.take P.length=P
 par:∀x∈P,sc.names.lookup x=some .local\/sc.names.lookup x=some .cell
 Pe:∀y∈sc.names,y.2 ≠ .free
def vw{kindOf:Str->Option NameKind}:∀{binds:List (Str×Value)} {m:uh},(∀v,(x,v)∉binds)->bindL kindOf binds m x=m x
 |[],_,_=>rfl
 |(n,v)::r,m,h=>by
  unfold bindL
  rw[vw fun w hw=>h w (aj _ hw)]
  split
  ·have:x≠n:=by rintro rfl;exact h v aT
   simp[this]
  ·rfl
def vy{kindOf:Str->Option NameKind}:∀{binds:List (Str×Value)} {m:uh},(∀v,(x,v)∉binds)->bindC kindOf binds m x=m x
 |[],_,_=>rfl
 |(n,v)::r,m,h=>by
  unfold bindC
  rw[vy fun w hw=>h w (aj _ hw)]
  split
  ·rfl
  ·have:x≠n:=by rintro rfl;exact h v aT
   simp[this]
def vx{kindOf:Str->Option NameKind}:∀{P:fw} {vs:hW} {i:Nat} {m:uh},P.Nodup->P[i]?=some x->vs[i]?=some v->kindOf x=some .local ->
  bindL kindOf (P.zip vs) m x=some v
 |[],_,_,_,_,h,_,_=>by simp at h
 |_::_,[],_,_,_,_,h,_=>by simp at h
 |p::P,w::vs,0,m,nd,h1,h2,hk=>by
  simp at h1 h2;subst h1;subst h2
  show bindL kindOf ((p,w)::P.zip vs) m p=_
  unfold bindL
  rw[vw fun v hv=>(List.nodup_cons.mp nd).1 (Fe hv).1,aB hk]
  simp
 |p::P,w::vs,i+1,m,nd,h1,h2,hk=>by
  show bindL kindOf ((p,w)::P.zip vs) m x=_
  unfold bindL
  exact vx (i:=i) (List.nodup_cons.mp nd).2 (by simpa using h1) (by simpa using h2) hk
def vz{kindOf:Str->Option NameKind}:∀{P:fw} {vs:hW} {i:Nat} {m:uh},P.Nodup->P[i]?=some x->vs[i]?=some v->kindOf x≠some .local ->
  bindC kindOf (P.zip vs) m x=some v
 |[],_,_,_,_,h,_,_=>by simp at h
 |_::_,[],_,_,_,_,h,_=>by simp at h
 |p::P,w::vs,0,m,nd,h1,h2,hk=>by
  simp at h1 h2;subst h1;subst h2
  show bindC kindOf ((p,w)::P.zip vs) m p=_
  unfold bindC
  rw[vy fun v hv=>(List.nodup_cons.mp nd).1 (Fe hv).1,ay hk]
  simp
 |p::P,w::vs,i+1,m,nd,h1,h2,hk=>by
  show bindC kindOf ((p,w)::P.zip vs) m x=_
  unfold bindC
  exact vz (i:=i) (List.nodup_cons.mp nd).2 (by simpa using h1) (by simpa using h2) hk
def start(N:fw)(vs:fK):St:=vs.map some++List.replicate (N.length-vs.length) none
def pQ(CX:Hs)(P:Program)(w:World)(K:dq)(mg:uh)(base:Heap)(N:fw)(qual:Str)(scope:Scope)(f:Addr)(cd:Value)(A:Around)(outer:List Env)(s:Shared)(H:Hp)(E:XK):Cx where
 prog:=P
 w:=w
 K:=K
 mg:=mg
 base:=base
 A:=A.deeper (envOfC qual scope s.heap.objs.size f cd)
 N:=N
 s₀:=s
 H₀:=H
 env:=envOfC qual scope s.heap.objs.size f cd
 outer:=outer
 stack:=envOfC qual scope s.heap.objs.size f cd::outer
 ex:=[]
 calm:=true
 fn:=fun _=>true
 pn:=[]
 xe:=fun e s'=>wpAny (model P w) (A.deeper (envOfC qual scope s.heap.objs.size f cd)) (leaving (envOfC qual scope s.heap.objs.size f cd) e) (fun _ MM=>CX outer H s E e MM) (fun e' MM=>CX outer H s E e' MM) s'
def yb{sc:Scope}{x:Str}(h:sc.names.lookup x=some .cell):∃c,(cellsFrom n sc.names []).lookup x=some c:=by
 have q:=Ko sc.names n [] (.inl h)
 exact Option.isSome_iff_exists.mp q
def Br{K:dq}{A:Around}{vs:fK}{outer:List Env}{E:XK}(S:aP N ps scope)(hd:A.handled=none)(e0:Fa P w K mg base A outer s H)(hl:vs.length=ps.length)(r:Vals vs us)(x:InCallC s s.heap.objs.size (bindL (envOfC qual scope s.heap.objs.size f cd).kindOf (ps.zip us) fun _=>none) (cellsFrom (s.heap.objs.size+1) scope.names []) (bindC (envOfC qual scope s.heap.objs.size f cd).kindOf (ps.zip us) fun _=>none) s1):
  Inv (pQ CX P w K mg base N qual scope f cd A outer s H E) [] (start N vs) H s1:=by
 have Od:ps.length<=N.length:=by have:=c8 List.length S.pre;rw[bw] at this;lia
 obtain⟨h1,tk,rfl,hk⟩:=x.done
 have Qq:∀b:Addr,b∉(pQ CX P w K mg base N qual scope f cd A outer s H E).ex:=fun b z=>absurd (show b∈([]:List Addr) from z) (by simp)
 refine⟨⟨e0.mod,S.kind,rfl,rfl,az _,fun y z c h1 h2=>?_,fun y hy=>?_,fun y c _ h=>?_,fun _=>hd,Around.frames_deeper e0.frames,.inr ⟨rfl,rfl⟩,fun b z=>absurd z (Qq b),e0.bs,e0.OV,fun b _ _=>Qq b,fun b z=>absurd z (Qq b),e0.MA,e0.PL⟩,
  rfl,e0.bare,Un.kept hk,⟨_,x.toInCall.ns,fun i y v h1 h2 h3=>?_⟩,fun y c h=>⟨_,x.cell y c h⟩,e0.LA.fresh (az _),fun y c h=>?_,fun p hp=>absurd (show p∈([]:fQ) from hp) (by simp),e0.LA.kept hk,?_⟩
 ·exact name_of_addr x.apart (gd h1) (gd h2)
 ·have hy:scope.names.lookup y=some .cell\/scope.names.lookup y=some .free:=hy
  rcases hy with hy | hy
  ·exact yb hy
  ·exact absurd rfl (S.Pe _ (gd hy))
 ·exact nM (x.above y c (gd h))
 ·have hi:i<vs.length:=by
   unfold start at h2
   by_cases hi:i<vs.length
   ·exact hi
   ·rw[List.getElem?_append_right (by simpa using hi)] at h2
    rw[List.getElem?_replicate] at h2
    split at h2<;>cases h2
  have ha:vs[i]?=some v:=by
   unfold start at h2
   rw[List.getElem?_append_left (by simpa using hi),List.getElem?_map] at h2
   cases e:vs[i]? with
   |none=>rw[e] at h2;cases h2
   |some a=>rw[e] at h2;cases h2;rfl
  obtain⟨u,hu,rv⟩:=r.get ha
  have hp:ps[i]?=some y:=by
   rw[<-S.pre,List.getElem?_take_of_lt (by lia)];exact h1
  have T7:ps.Nodup:=by rw[<-S.pre];exact S.nd.sublist (List.take_sublist _ _)
  refine⟨u,rv,?_⟩
  rcases S.par y (List.mem_of_getElem? hp) with k | k
  ·exact .inl ⟨k,vx T7 hp hu k⟩
  ·obtain⟨c,e⟩:=yb (n:=s.heap.objs.size+1) k
   refine .inr ⟨.inl k,c,e,?_⟩
   have q:=x.cell y c e
   rw[vz T7 hp hu (by show scope.names.lookup y≠_;rw[k];decide)] at q
   exact q
 ·exact e0.LA.fresh (nM (x.above y c (gd h)))
 ·unfold start
  show _=N.length
  rw[bV,ah,dH]
  lia
def C5{K:dq}{f:Addr}{name qual:Str}{body:List Stmt}{scope:Scope}{dV kV doc pm LU ct:Value}{an:Option Addr}{sp:Sp}{params:Arguments}(lk:K.lookup f=some ⟨oc,od,.func (PySem.W.fnOf name qual params body scope dV kV doc pm an LU ct),OJ⟩)(NU:PySem.W.codeIn K LU qual=true)(S:aP N ps scope)(len:∀vs H Q E,sp vs H Q E->vs.length=ps.length)(Og:∀(A:Around) (outer:List Env) (s:Shared) (H:Hp) (vs:fK) (Q:VK) (E:XK),L6 k (A.deeper (envOfC qual scope s.heap.objs.size f LU))->sp vs H Q E ->
   ∃t,NG (pQ CX P w K mg base N qual scope f LU A outer s H E) body t/\t { nx:=fun _ H'=>Q .LH H',rt:=Q } (start N vs) H):
  lX P w K mg base CX (k+1) f (PySem.W.fnOf name qual params body scope dV kV doc pm an LU ct) ps sp:=by
 refine⟨len,fun A outer s H args us vs Q E hr e0 hb r Oc=>?_⟩
 have hl:=len _ _ _ _ Oc
 have KX:K.In s.heap:=e0.mod.Rw.keeps fun b o e=>(e0.bs b o e).1
 have lim:s.heap.NoLimit:=e0.mod.nolimit.keeps fun b o e=>(e0.bs b o e).1
 have QF:∀y∈ps.zip us,scope.names.lookup y.1=some .local\/(scope.names.lookup y.1=some .cell/\((cellsFrom (s.heap.objs.size+1) scope.names []).lookup y.1).isSome=true):=fun⟨n,v⟩ hy=>by
  rcases S.par n (Fe hy).1 with q | q
  ·exact .inl q
  ·exact .inr ⟨q,Ko _ _ _ (.inl q)⟩
 refine codeAny_call_function hr.depth (KX _ _ lk) rfl S.co S.gen rfl (PySem.W.codeRec_of KX NU) (hb _ _ _ _ ?_)
 refine wpAny_newFunctionEnv_cells S.kind QF fun env he s1 x=>?_
 subst he
 refine⟨lim.keeps x.toInCall.keep,codeAny_func ?_⟩
 obtain⟨t,ht,hq⟩:=Og A outer s H vs Q E (hr.deeper _) Oc
 have I:Inv (pQ CX P w K mg base N qual scope f LU A outer s H E) [] (start N vs) H s1:=Br S hr.hd e0 hl r x
 refine aR (ht [] s1 (start N vs) H _ I hq) (fun fl s' hs=>?_) fun e s' hs=>hs
 have fin:∀{σ':St} {H':Hp} {v:V} {u:Value},Inv (pQ CX P w K mg base N qual scope f LU A outer s H E) [] σ' H' s'->RelV v u->Q v H'->CE outer P w H s Q u s':=
  fun {σ' H' v u} J rv q=>⟨v,H',J.os,J.bare,J.base,J.LA,rv,q⟩
 cases fl with
 |ret u=>
  obtain⟨v,σ',H',J,rv,q⟩:=hs
  exact fin J rv q
 |next=>
  obtain⟨σ',H',J,q⟩:=hs
  exact fin (v:=V.LH) (u:=Value.none) J rfl q
 |brk=>
  obtain⟨_,_,_,q⟩:=hs
  exact False.elim q
 |cont=>
  obtain⟨_,_,_,q⟩:=hs
  exact False.elim q
section
variable {id:String}{r:fK->Hp->VK->Prop}
def Kz(r:fK->Hp->VK->Prop)(t:TA):TE:=fun σ H Q=>t σ H fun vs H1=>r vs H1 Q
def ml(hc:mQ X (.builtin id) r)(hg:Gl X x)(hm:X.mg x=none)(hv:bootBuiltins x=some (.builtin id))(ha:PA X (e::es) t)(hn:x ≠ "__name__" := by decide)(NT:yu x:=by decide)(he:Fi e es X.env:=by rfl)(Od:BX pos es X.env:=by rfl):PE X (.Call (.Name x p) (e::es) [] pos) (Kz r t):=by
 intro pins s σ H Q I h
 refine rR (oj I hg hm hv ?_ hn NT)
 exact PyProof.Rows.callWith_builtin1 (fg (ha pos pins s σ H _ I h) fun us s1 ⟨vs,H1,I1,r1,q1⟩=>hc pins s1 σ H1 vs us Q I1 r1 q1) he Od
def qq(hc:mQ X (.type T) r)(hg:Gl X x)(hm:X.mg x=none)(hv:bootBuiltins x=some (.type T))(ha:PA X (e::es) t)(hn:x ≠ "__name__" := by decide)(NT:yu x:=by decide)(he:Fi e es X.env:=by rfl)(Od:BX pos es X.env:=by rfl):PE X (.Call (.Name x p) (e::es) [] pos) (Kz r t):=by
 intro pins s σ H Q I h
 refine rR (oj I hg hm hv ?_ hn NT)
 exact fq (fg (ha pos pins s σ H _ I h) fun us s1 ⟨vs,H1,I1,r1,q1⟩=>hc pins s1 σ H1 vs us Q I1 r1 q1) he Od
end
end L2
namespace HT
open PySem PyProof.Rows
variable {K:dq}
section
open PySem.SeqAt
open PySem.AutoSeq1 (wpAny_loadPart')
open PySem.MeetsSeq PySem.MeetsSeq2 PySem.MeetsSeq3
end
def LC(n d:Nat):Option Int->Nat
 |none=>d
 |some v=>if v<0 then (v+(n:Int)).toNat else min v.toNat n
def FU(n d:Nat)(hd:d<=n)(o:Option Int):LC n d o<=n:=by
 cases o with
 |none=>exact hd
 |some v=>
  show(if v<0 then (v+(n:Int)).toNat else min v.toNat n)<=n
  by_cases hv:v<0
  ·rw[aB hv];lia
  ·rw[ay hv];exact DQ _ _
def AL(v:Int)(n d:Nat):(if v<0 then max (v+(n:Int)) 0 else min v (n:Int))=((LC n d (some v):Nat):Int):=by
 show(if v<0 then max (v+(n:Int)) 0 else min v (n:Int))=(((if v<0 then (v+(n:Int)).toNat else min v.toNat n):Nat):Int)
 by_cases hv:v<0
 ·simp only[aB hv];lia
 ·simp only[ay hv];lia
def zu(lo hi:Option Int)(n:Nat):Builtin.Slice.sliceAdjust lo hi 1 (n:Int)=(((LC n 0 lo:Nat):Int),((LC n n hi:Nat):Int)):=by
 have h1:¬((1:Int)<0):=by lia
 unfold Builtin.Slice.sliceAdjust
 simp only[h1,oM]
 refine Prod.ext ?_ ?_
 ·cases lo with
  |none=>rfl
  |some v=>exact AL v n 0
 ·cases hi with
  |none=>rfl
  |some v=>exact AL v n n
def yN(i j:Nat):Builtin.Slice.slicePlaces (i:Int) (j:Int) 1=j-i:=by
 unfold Builtin.Slice.slicePlaces
 have h1:(1:Int) > 0:=by lia
 simp only[h1,Kn,Int.ediv_one]
 split<;>lia
def sQ{o:Option Int}{Q:Option Int->Shared->Prop}(p:IsPart v o)(h:Q o s):wpAny (model prog w) A (Builtin.Slice.slicePartIndex v) Q E s:=by
 cases p with
 |none=>exact HH h
 |int i t=>exact slicePart_int h
def kK{s:Shared}{lo hi:Option Int}{Q:Int×Int×Nat->Shared->Prop}(hs:s.heap.IsSliceOf sl vl vu .none)(pl:IsPart vl lo)(pu:IsPart vu hi)(h:Q (((LC n 0 lo:Nat):Int),1,LC n n hi-LC n 0 lo) s):wpAny (model prog w) A (Builtin.Slice.sliceApplied (.ref sl) (pure (n:Int))) Q E s:=by
 obtain⟨os,Nq,PD,N4⟩:=id hs
 unfold Builtin.Slice.sliceApplied Builtin.Slice.sliceFields
 refine af (af (bJ Nq N4 (x:=vl) rfl (af (bJ Nq N4 (x:=vu) rfl (af (bJ Nq N4 (x:=.none) rfl (ar ?_)))))))
 refine af (HH ?_)
 show wpAny _ _ (if ((1:Int)==0)=true then _ else _) _ _ s
 rw[ay (by decide)]
 refine af (sQ pl (af (sQ pu (af (ar ?_)))))
 show wpAny _ _ (match Builtin.Slice.sliceAdjust lo hi 1 (n:Int) with | (lo,hi)=>pure (lo,(1:Int),Builtin.Slice.slicePlaces lo hi 1)) _ _ s
 rw[zu lo hi n]
 show wpAny _ _ (pure (((LC n 0 lo:Nat):Int),(1:Int),Builtin.Slice.slicePlaces ((LC n 0 lo:Nat):Int) ((LC n n hi:Nat):Int) 1)) _ _ s
 rw[yN]
 exact ar h
def Cu(xs:Array Value)(i k:Nat):((List.range k).filterMap fun(m:Nat)=>xs[((i:Int)+(m:Int)*1).toNat]?).toArray=((xs.toList.drop i).take k).toArray:=by
 have e:(fun(m:Nat)=>xs[((i:Int)+(m:Int)*1).toNat]?)=fun m=>xs[i+m]?:=by
  funext m
  have:((i:Int)+(m:Int)*1).toNat=i+m:=by lia
  rw[this]
 rw[e]
 have:=pick_run xs i k
 rw[List.filterMap_map] at this
 have e2:((fun x=>xs[x]?) ∘ fun x=>i+x)=fun m=>xs[i+m]?:=rfl
 rw[e2] at this
 rw[this]
def Mz{Q:oO}{s:Shared}{lo hi:Option Int}(ht:IsTup s.heap t items)(hs:s.heap.IsSliceOf sl vl vu .none)(pl:IsPart vl lo)(pu:IsPart vu hi)(hw:¬(LC items.size 0 lo=0/\LC items.size items.size hi=items.size))(h:Q (.ref s.heap.objs.size) { s with heap:=s.heap.push { cls:=.type "tuple",data:=.seq ((items.toList.drop (LC items.size 0 lo)).take (LC items.size items.size hi-LC items.size 0 lo)).toArray } })(MV:items.size<=sizeLine):wpAny (model prog w) A (getItem (.ref t) (.ref sl)) Q E s:=by
 have Mv:sizeOk (.seq ((items.toList.drop (LC items.size 0 lo)).take (LC items.size items.size hi-LC items.size 0 lo)).toArray):=by
  show((items.toList.drop (LC items.size 0 lo)).take (LC items.size items.size hi-LC items.size 0 lo)).toArray.size<=sizeLine
  rw[au,bw,dB,i8]
  lia
 have hj:LC items.size items.size hi<=items.size:=FU _ _ (az _) hi
 obtain⟨os,Nq,PD,N4⟩:=id hs
 have QQ:s.TypeIs (.ref sl) "slice" := ⟨os,Nq,PD⟩
 unfold getItem
 try with_reducible refine ef ?_
 first | refine af (ar ?_) | skip
 refine af (Hu ht.typeIs (by decide) ?_)
 refine af (wpAny_callSpecial?_slot (name:=Str.ofString "__getitem__") ht.typeIs du
  (dS du ht.typeIs Jk ?_ (KI _ _)))
 show wpAny _ _ (Builtin.Tuple.tupleItemsOf (.ref t) >>= _) _ _ s
 refine af (tupleItemsOf_ ht ?_)
 refine af (Ht QQ ?_)
 rw[aB (by decide)]
 refine af (kK hs pl pu ?_)
 have SJ:¬((((LC items.size 0 lo:Nat):Int)==0&&(1:Int)==1&&(LC items.size items.size hi-LC items.size 0 lo)==items.size)=true):=by
  intro q
  rw[cn,cn] at q
  have q1:((LC items.size 0 lo:Nat):Int)=0:=eq_of_beq q.1.1
  have q2:LC items.size items.size hi-LC items.size 0 lo=items.size:=eq_of_beq q.2
  exact hw ⟨by lia,by lia⟩
 show wpAny _ _ (if (((LC items.size 0 lo:Nat):Int)==0&&(1:Int)==1&&(LC items.size items.size hi-LC items.size 0 lo)==items.size)=true then _ else _) _ _ s
 rw[ay SJ,Cu]
 first
  |exact af (m:=Builtin.Tuple.tupleExact _) (ba (ar ⟨_,rfl,ar h⟩) Mv)
  |exact af (m:=Builtin.Tuple.tupleExact _) (ba (af (ar (ar ⟨_,rfl,ar h⟩))) Mv)
  |exact af (af (m:=Builtin.Tuple.tupleExact _) (ba (ar (ar ⟨_,rfl,ar h⟩)) Mv))
  |exact af (af (m:=Builtin.Tuple.tupleExact _) (ba (ar ⟨_,rfl,ar h⟩) Mv))
end HT
namespace L2
open PySem PySem.Spec PyProof.Rows
variable {K:dq}
abbrev TO:=St->Hp->(Option Int->Hp->Prop)->Prop
def PO(X:Cx)(e:Option Expr)(t:TO):Prop:=
 ∀(pins:fQ) (s:Shared) (σ:St) (H:Hp) (Q:Option Int->Hp->Prop),Inv X pins σ H s->t σ H Q ->
  eG X (evalPart e X.env) (fun u s'=>∃o H',Inv X pins σ H' s'/\IsPart u o/\Q o H') X.xe s
def D2:TO:=fun _ H Q=>Q none H
def HP(t:TE):TO:=fun σ H Q=>t σ H fun x H1=>∃i,x=.int i/\Q (some i) H1
section
variable {lo hi:Option Expr}{tl th:TO}
def El:PO X none D2:=by
 intro pins s σ H Q I h
 rw[evalPart_none]
 exact ar ⟨none,H,I,.none,h⟩
def Ek(h:PE X e te):PO X (some e) (HP te):=by
 intro pins s σ H Q I hw
 rw[evalPart_some]
 refine fg (h pins s σ H _ I hw) fun u s1 ⟨x,H1,I1,r1,q1⟩=>?_
 obtain⟨i,rfl,q⟩:=q1
 obtain⟨t,rfl⟩:=r1
 exact⟨some i,H1,I1,.int i t,q⟩
def Jf(X:Cx)(r:V->Option Int->Option Int->Hp->VK->Prop):Prop:=
 ∀(pins:fQ) (s:Shared) (σ:St) (H:Hp) (x:V) (v vl vu:Value) (lo hi:Option Int) (sl:Addr) (Q:VK),Inv X pins σ H s->RelV x v->s.heap.IsSliceOf sl vl vu .none->IsPart vl lo->IsPart vu hi->r x lo hi H Q ->
  ∃T id,typeLookup (.type T) "__getitem__"=pure (some (.builtin id))/\s.TypeIs v T/\eG X (getItem v (.ref sl)) (EP X pins σ Q) X.xe s
def KS(r:V->Option Int->Option Int->Hp->VK->Prop)(te:TE)(tl th:TO):TE:=fun σ H Q=>te σ H fun x H1=>tl σ H1 fun l H2=>th σ H2 fun u H3=>r x l u H3 Q
def tE{r:V->Option Int->Option Int->Hp->VK->Prop}(hr:Jf X r)(he:PE X e te)(hl:PO X lo tl)(hu:PO X hi th):PE X (.Subscript e (.Slice lo hi none p2) pos) (KS r te tl th):=by
 intro pins s σ H Q I h
 refine Subscript_ (fg (he pins s σ H _ I h) fun v s1 ⟨x,H1,I1,r1,q1⟩=>?_)
 refine wpAny_Slice (fg (hl pins s1 σ H1 _ I1 q1) fun vl s2 ⟨l,H2,I2,pl,q2⟩=>fg (hu pins s2 σ H2 _ I2 q2) fun vu s3 ⟨u,H3,I3,pu,q3⟩=>?_)
 rw[evalPart_none]
 refine ar ?_
 have I4:Inv X pins σ H3 { s3 with heap:=s3.heap.push { cls:=.type "slice",data:=.fields #[vl,vu,.none] } }:=I3.kept (t':=s3.toks) fun b ob q=>Heap.get?_push_of_some _ q
 obtain⟨T,id,hT,ht,hg⟩:=hr pins { s3 with heap:=s3.heap.push { cls:=.type "slice",data:=.fields #[vl,vu,.none] } } σ H3 x v vl vu l u s3.heap.objs.size Q I4 r1 (Heap.IsSliceOf.new ..) pl pu q3
 show eG X (subscriptTail e (.Slice lo hi none p2) v (.ref s3.heap.objs.size)) (EP X pins σ Q) X.xe { s3 with heap:=s3.heap.push { cls:=.type "slice",data:=.fields #[vl,vu,.none] } }
 exact tail_any (ops:=[.ref s3.heap.objs.size,v]) ht hT hg (by with_unfolding_all rfl)
def xV(xs:fK)(lo hi:Option Int):fK:=(xs.drop (HT.LC xs.length 0 lo)).take (HT.LC xs.length xs.length hi-HT.LC xs.length 0 lo)
def rk(xs:fK)(lo hi:Option Int):(xV xs lo hi).length<=xs.length:=by
 unfold xV
 rw[bw,dB]
 lia
def JF(K:dq):V->Option Int->Option Int->Hp->VK->Prop:=fun x lo hi H Q=>∃a xs,x=.ref a/\L0 K H a xs /\
 ¬(HT.LC xs.length 0 lo=0/\HT.LC xs.length xs.length hi=xs.length)/\∀p,H p=none->Q (.ref p) (gq H p (.tup (xV xs lo hi)))
def FS:Jf X (JF X.K):=by
 intro pins s σ H x v vl vu lo hi sl Q I rx hs pl pu h
 obtain⟨a,xs,rfl,hx,hw,q⟩:=h
 cases rx
 obtain⟨its,r,ht,hz⟩:=I.tuple hx
 have hlen:its.toArray.size=xs.length:=by rw[au];exact r.length.symm
 refine⟨"tuple",_,PyProof.Rows.slot_tuple_getitem.lookup,ht.typeIs,?_⟩
 refine HT.Mz ht hs pl pu (by rw[hlen];exact hw) ?_ (by rw[hlen];exact hz)
 rw[hlen]
 refine⟨.ref s.heap.objs.size,_,I.laid (t':=s.toks) (o:=.tup (xV xs lo hi)) (fun b ob q=>Heap.get?_push_of_some _ q) (az _) ?_,rfl,q _ (I.LA.fresh (az _))⟩
 exact⟨aZ (rk xs lo hi) hz,_,(r.drop (HT.LC xs.length 0 lo)).take (HT.LC xs.length xs.length hi-HT.LC xs.length 0 lo),IsTup.new _ _⟩
end
def An(n:Nat)(i:Int):Option Nat:=if 0<=i then (if i<n then some i.toNat else none) else if -(n:Int)<=i then some (i+n).toNat else none
def pU{α:Type}(xs:List α)(i:Int):Option α:=(An xs.length i).bind fun j=>xs[j]?
def Am{i:Int}(h:An n i=some j):seqIndex? i n=some j/\j<n/\-(n:Int)<=i/\i<n:=by
 unfold An at h
 by_cases h0:0<=i
 ·rw[aB h0] at h
  by_cases h1:i<n
  ·rw[aB h1] at h
   have e:i.toNat=j:=bc h
   exact⟨by rw[Jj h0 h1,e],by lia,by lia,h1⟩
  ·rw[ay h1] at h;cases h
 ·rw[ay h0] at h
  by_cases h1 : -(n:Int)<=i
  ·rw[aB h1] at h
   have e:(i+n).toNat=j:=bc h
   exact⟨by rw[Hv (by lia) h1,e],by lia,h1,by lia⟩
  ·rw[ay h1] at h;cases h
def wy{i:Int}{α:Type}{xs:List α}{v:α}(h:pU xs i=some v):∃j,seqIndex? i xs.length=some j/\xs[j]?=some v/\j<xs.length/\-(xs.length:Int)<=i/\i<xs.length:=by
 unfold pU at h
 cases e:An xs.length i with
 |none=>rw[e] at h;cases h
 |some j=>
  rw[e] at h
  obtain⟨h1,h2,h3,h4⟩:=Am e
  exact⟨j,h1,h,h2,h3,h4⟩
def E3{j:Nat}{α:Type}{xs:List α}{v:α}(h:xs[j]?=some v):pU xs (j:Int)=some v:=by
 have hj:j<xs.length:=(List.getElem?_eq_some_iff.mp h).1
 have e:An xs.length (j:Int)=some j:=by
  unfold An
  rw[aB (by lia),aB (by lia)];simp
 unfold pU;rw[e];exact h
def DE{α:Type}(xs:List α)(v:α):pU (xs++[v]) (-1)=some v:=by
 have hl:(xs++[v]).length=xs.length+1:=by simp
 have e:An (xs++[v]).length (-1)=some xs.length:=by
  unfold An
  rw[hl,ay (by decide),aB (by lia)]
  congr 1
  lia
 unfold pU
 rw[e]
 show(xs++[v])[xs.length]?=some v
 simp
def AR(b:Expr):Prop:=∀o i,subscripted b false o i=operate [o,i] (getItem o i)
def Kg(X:Cx)(r:R2):Prop:=
 ∀(value slice:Expr) (pins:fQ) (s:Shared) (σ:St) (H:Hp) (x y:V) (v u:Value) (Q:VK),Inv X pins σ H s->RelV x v->RelV y u->r x y H Q ->
  subscripted slice false v u=operate [v,u] (getItem v u)->eG X (subscriptTail value slice v u) (EP X pins σ Q) X.xe s
def KF(X:Cx)(id:String)(r:V->fK->Hp->VK->Prop):Prop:=
 ∀(pins:fQ) (s:Shared) (σ:St) (H:Hp) (x:V) (xs:fK) (v:Value) (us:hW) (Q:VK),Inv X pins σ H s->RelV x v->Vals xs us->r x xs H Q ->
  eG X (call (.builtin id) (v::us)) (EP X pins σ Q) X.xe s
section
def Fx{r:R2}(hr:Kg X r)(ha:PE X a ta)(hb:PE X b tb)(hs:AR b):PE X (.Subscript a b pos) (Jd r ta tb):=by
 intro pins s σ H Q I h
 exact Subscript_ (Hf ha hb I h fun v u s2 x y H2 I2 rx ry q=>hr a b pins s2 σ H2 x y v u Q I2 rx ry q (hs _ _))
def Ia(K:dq):R2:=fun x y H Q=>∃p xs i v,x=.ref p/\y=.int i/\Mh K H p xs/\pU xs i=some v/\Q v H
def JJ(K:dq):R2:=fun x y H Q=>∃p xs i v,x=.ref p/\y=.int i/\L0 K H p xs/\pU xs i=some v/\Q v H
def EC:Kg X (Ia X.K):=by
 intro value slice pins s σ H x y v u Q I rx ry h hs
 obtain⟨p,xs,i,z,rfl,rfl,hq,he,q⟩:=h
 cases rx
 obtain⟨t,rfl⟩:=ry
 obtain⟨its,r,pl,hz⟩:=I.list hq
 obtain⟨j,h1,h2,h3,h4,h5⟩:=wy he
 obtain⟨w,ew,Ny⟩:=r.get h2
 have hl:=r.length
 have hn:=mq
 have fin:EP X pins σ Q w s:=⟨z,H,I,Ny,q⟩
 by_cases h0:0<=i
 ·have hj:i.toNat=j:=by
   rw[Jj h0 h5] at h1
   exact bc h1
  exact item_listR pl.isList h0 (by lia) (by rw[hj];simpa using ew) fin hs
 ·have hj:(i+(its.toArray.size:Int)).toNat=j:=by
   rw[Hv (by lia) h4] at h1
   rw[au,<-hl]
   exact bc h1
  exact subscriptTail_builtinR (x:=w) pl.isList.typeIs slot_list_getitem.lookup
   (wpAny_getItem_list_neg (Q:=fun r s'=>r=w/\EP X pins σ Q r s') pl.isList (by lia) (by rw[au]<;>lia) (by lia) (by rw[hj];simpa using ew) ⟨rfl,fin⟩) hs
def GQ:Kg X (JJ X.K):=by
 intro value slice pins s σ H x y v u Q I rx ry h hs
 obtain⟨p,xs,i,z,rfl,rfl,hq,he,q⟩:=h
 cases rx
 obtain⟨t,rfl⟩:=ry
 obtain⟨its,r,pl,hz⟩:=I.tuple hq
 obtain⟨j,h1,h2,h3,h4,h5⟩:=wy he
 obtain⟨w,ew,Ny⟩:=r.get h2
 have hl:=r.length
 have hn:=mq
 have fin:EP X pins σ Q w s:=⟨z,H,I,Ny,q⟩
 exact subscriptTail_builtinR (x:=w) pl.typeIs slot_tuple_getitem.lookup
  (getItem_tuple (j:=j) (Q:=fun r s'=>r=w/\EP X pins σ Q r s') pl (by lia) (by lia) (by rw[au,<-hl];exact h1) (by simpa using ew) ⟨rfl,fin⟩) hs
def yR(its:hW)(n j:Nat)(u:Value):Obj.mapSeq (·.setIfInBounds j u) { cls:=.type "list",data:=.seq its.toArray n } = { cls:=.type "list",data:=.seq (its.set j u).toArray n }:=by
 simp[Obj.mapSeq]
def Inv.lst{p:Addr}(I:Inv X pins σ H s)(h:H p=some (.lst xs)):
  ∃(its:hW) (n:Nat),Vals xs its/\s.heap.get? p=some { cls:=.type "list",data:=.seq its.toArray n }/\xs.length<=sizeLine:=by
 obtain⟨z,its,n,r,e⟩:=I.LA p _ h
 exact⟨its,n,r,e,z⟩
def Inv.Pg{p:Addr}{its its':hW}{f:Obj->Obj}(I:Inv X pins σ H s)(h:H p=some (.lst xs))(ho:s.heap.get? p=some { cls:=.type "list",data:=.seq its.toArray n })(hf:f { cls:=.type "list",data:=.seq its.toArray n } = { cls:=.type "list",data:=.seq its'.toArray n' })(r:Vals ys its')(hz:ys.length<=sizeLine)(t:Nat):
  Inv X pins σ (gq H p (.lst ys)) { s with heap:=s.heap.update p f,toks:=t }:=by
 have e:(s.heap.update p f).get? p=some { cls:=.type "list",data:=.seq its'.toArray n' }:=by
  rw[Heap.get?_update_self f ho (by rw[hf]<;>rfl),hf]
 refine I.write (x:=p) (e:=p) (by rw[h];trivial) (.inl rfl) (fun b u hb q=>(Heap.get?_update_other _ _ (ft hb)).trans q) ⟨_,e⟩ ?_
 exact⟨hz,its',n',r,e⟩
def H9:V->V->V->Hp->(Hp->Prop)->Prop:=fun o i v H Q=>∃p xs k j,o=.ref p/\i=.int k/\H p=some (.lst xs)/\An xs.length k=some j/\Q (gq H p (.lst (xs.set j v)))
def xc:Hk X H9:=by
 intro pins s σ H o i v ov iv u Q I ro ri rv h
 obtain⟨p,xs,k,j,rfl,rfl,hp,hj,q⟩:=h
 cases ro
 obtain⟨t,rfl⟩:=ri
 obtain⟨its,n,r,ho,hz⟩:=I.lst hp
 obtain⟨h1,h2,h3,h4⟩:=Am hj
 have hl:=r.length
 have hn:=mq
 have I':Inv X pins σ (gq H p (.lst (xs.set j v))) { s with heap:=s.heap.update p (Obj.mapSeq (·.setIfInBounds j u)) }:=
  I.Pg hp ho (yR its n j u) (r.set rv j) (by rw[ck];exact hz) s.toks
 by_cases h0:0<=k
 ·have hk:k.toNat=j:=by
   rw[Jj h0 h4] at h1
   exact bc h1
  exact PySem.W.ki_setAt ho h0 (by lia) (by rw[au,<-hl];exact h4) (by rw[hk];exact⟨_,I',q⟩)
 ·have hk:(k+(its.toArray.size:Int)).toNat=j:=by
   rw[Hv (by lia) h3] at h1
   rw[au,<-hl]
   exact bc h1
  exact PySem.W.ki_setBack ho (by lia) (by rw[au,<-hl];exact h3) (by lia) (by rw[hk];exact⟨_,I',q⟩)
def vI(lo hi:Option Int)(n:Nat):(sliceBounds lo hi none n).1=((HT.LC n 0 lo:Nat):Int)/\(sliceBounds lo hi none n).2.1=((HT.LC n n hi:Nat):Int)/\(sliceBounds lo hi none n).2.2=1:=by
 refine⟨?_,?_,rfl⟩
 ·cases lo with
  |none=>simp[sliceBounds,HT.LC]
  |some i=>
   simp only[sliceBounds,HT.LC,Option.getD_none,show(1:Int) > 0 by decide,Kn]
   by_cases h:i<0
   ·simp only[h,Kn]<;>lia
   ·simp only[h,oM]<;>lia
 ·cases hi with
  |none=>simp[sliceBounds,HT.LC]
  |some i=>
   simp only[sliceBounds,HT.LC,Option.getD_none,show(1:Int) > 0 by decide,Kn]
   by_cases h:i<0
   ·simp only[h,Kn]<;>lia
   ·simp only[h,oM]<;>lia
def uv(its:hW)(lo hi:Option Int):slicePick its.toArray lo hi none=((its.drop (HT.LC its.length 0 lo)).take (HT.LC its.length its.length hi-HT.LC its.length 0 lo)).toArray:=by
 obtain⟨h1,h2,h3⟩:=vI lo hi its.toArray.size
 unfold slicePick
 rw[h1,h2,h3]
 simp only[sliceRange_one,pick_run,au]<;>rfl
def JG(K:dq):V->Option Int->Option Int->Hp->VK->Prop:=fun x lo hi H Q=>∃a xs,x=.ref a/\Mh K H a xs/\∀p,H p=none->Q (.ref p) (gq H p (.lst (xV xs lo hi)))
def D5:Jf X (JG X.K):=by
 intro pins s σ H x v vl vu lo hi sl Q I rx hs pl pu h
 obtain⟨a,xs,rfl,hx,q⟩:=h
 cases rx
 obtain⟨its,r,ht,hz⟩:=I.list hx
 have hlen:=r.length
 refine⟨"list",_,slot_list_getitem.lookup,ht.isList.typeIs,?_⟩
 refine wpAny_getItem_list_slice ht.isList hs pl pu .none (by simp) ?_ (by rw[au]<;>lia)
 rw[uv,<-hlen]
 refine⟨.ref s.heap.objs.size,_,I.laid (t':=s.toks) (o:=.lst (xV xs lo hi)) (fun b ob q=>Heap.get?_push_of_some _ q) (az _) ?_,rfl,q _ (I.LA.fresh (az _))⟩
 exact⟨aZ (rk xs lo hi) hz,_,0,(r.drop (HT.LC xs.length 0 lo)).take (HT.LC xs.length xs.length hi-HT.LC xs.length 0 lo),Heap.get?_push_size _ rfl⟩
def wq:mQ X (.builtin "len") (fun xs H Q=>∃p ys,xs=[.ref p]/\(Mh X.K H p ys\/L0 X.K H p ys)/\Q (.int ys.length) H):=by
 intro pins s σ H xs us Q I r h
 obtain⟨p,ys,rfl,hq,q⟩:=h
 obtain⟨u,rfl,rx⟩:=qX r
 cases rx
 have hn:=mq
 rcases hq with hq | hq
 ·obtain⟨its,r',pl,hz⟩:=I.list hq
  have hlen:=r'.length
  exact Calls.call_len_list pl.isList (by simp only[au]<;>lia) ⟨.int ys.length,H,I.tok _,⟨s.toks+1,by rw[au,hlen]⟩,q⟩
 ·obtain⟨its,r',pl,hz⟩:=I.tuple hq
  have hlen:=r'.length
  exact len_tuple pl (by simp only[au]<;>lia) ⟨.int ys.length,H,I.tok _,⟨s.toks+1,by rw[au,hlen]⟩,q⟩
def wp:mQ X (.type "list") (fun xs H Q=>∃p ys,xs=[.ref p]/\(Mh X.K H p ys\/L0 X.K H p ys)/\∀l,H l=none->Q (.ref l) (gq H l (.lst ys))):=by
 intro pins s σ H xs us Q I r h
 obtain⟨p,ys,rfl,hq,q⟩:=h
 obtain⟨u,rfl,rx⟩:=qX r
 cases rx
 have fin:∀(its:hW),Vals ys its->ys.length<=sizeLine->∀(h':Heap) (c':Nat),(∀b o',s.heap.get? b=some o'->h'.get? b=some o') ->
   h'.get? s.heap.objs.size=some { cls:=.type "list",dict:=none,data:=.seq its.toArray c',slots:=#[] }->EP X pins σ Q (.ref s.heap.objs.size) { s with heap:=h' }:=fun its r' hz h' c' kp e=>
  ⟨.ref s.heap.objs.size,_,I.laid (t':=s.toks) kp (az _) (show LF X.prog X.w _ h' _ (.lst ys) from⟨hz,its,c',r',e⟩),rfl,q _ (I.LA.fresh (az _))⟩
 rcases hq with hq | hq
 ·obtain⟨its,r',pl,hz⟩:=I.list hq
  have hlen:=r'.length
  obtain⟨o,ho,hc,n,hd⟩:=pl.isList
  exact call_list_seq p (.inl rfl) ho hc hd (fun h' c' kp e=>fin its r' hz h' c' kp e) (by simp only[au]<;>lia)
 ·obtain⟨its,r',pl,hz⟩:=I.tuple hq
  have hlen:=r'.length
  obtain⟨o,ho,hc,n,hd⟩:=pl
  exact call_list_seq p (.inr rfl) ho hc hd (fun h' c' kp e=>fin its r' hz h' c' kp e) (by simp only[au]<;>lia)
def uM:mQ X (.type "tuple") (fun xs H Q=>∃p ys,xs=[.ref p]/\((Mh X.K H p ys/\∀l,H l=none->Q (.ref l) (gq H l (.tup ys)))\/(L0 X.K H p ys/\Q (.ref p) H))):=by
 intro pins s σ H xs us Q I r h
 obtain⟨p,ys,rfl,h⟩:=h
 obtain⟨u,rfl,rx⟩:=qX r
 cases rx
 rcases h with⟨hq,q⟩ | ⟨hq,q⟩
 ·obtain⟨its,r',pl,hz⟩:=I.list hq
  have hlen:=r'.length
  refine call_tuple_list pl.isList (fun h' kp=>?_) (by simp only[au]<;>lia)
  have I1:Inv X pins σ H { s with heap:=h' }:=I.kept (t':=s.toks) kp
  have I2:Inv X pins σ (gq H h'.objs.size (.tup ys)) { s with heap:=h'.push { cls:=.type "tuple",data:=.seq its.toArray } }:=
   I1.laid (t':=s.toks) (fun b o e=>Heap.get?_push_of_some _ e) (az _) (show LF X.prog X.w _ _ _ (.tup ys) from⟨hz,its,r',IsTup.new _ _⟩)
  exact⟨.ref h'.objs.size,_,I2,rfl,q _ (I1.LA.fresh (az _))⟩
 ·obtain⟨its,r',pl,hz⟩:=I.tuple hq
  exact call_tuple_same pl ⟨.ref p,H,I,rfl,q⟩
def Jo(K:dq)(T:String)(x:V)(H:Hp):Prop:=match x with
 |.str _=>T="str"
 |.int _=>T="int"
 |.ref p=>(T="list" /\ ∃xs,Mh K H p xs)\/(T="tuple" /\ ∃o,K.lookup p=some o/\o.cls=.type "tuple" /\ o.dict=none) \/
   (T="dict" /\ ((∃kvs,H p=some (.dK kvs))\/∃kvs,H p=some (.dT kvs)))\/(T="set" /\ ∃S n,H p=some (.set S n))
 |_=>False
def B5(I:Inv X pins σ H s)(r:RelV x v)(ty:Jo X.K T x H):
  s.TypeIs v T/\∀a,v=.ref a->∃ob,s.heap.get? a=some ob/\ob.dict=none:=by
 cases x with
 |str z=>
  obtain⟨t,rfl⟩:=r
  cases(show T="str" from ty)
  exact⟨typeIs_str s z t,fun _ e=>nomatch e⟩
 |int i=>
  obtain⟨t,rfl⟩:=r
  cases(show T="int" from ty)
  exact⟨typeIs_int s i t,fun _ e=>nomatch e⟩
 |ref p=>
  cases r
  rcases ty with⟨rfl,xs,hq⟩ | ⟨rfl,o,hk,hc,hd⟩ | ⟨rfl,hk⟩ | ⟨rfl,S,n,hk⟩
  ·obtain⟨its,_,pl,_⟩:=I.list hq
   refine⟨pl.isList.typeIs,fun a e=>?_⟩
   cases e
   obtain⟨o,n,e,c,hd,_⟩:=pl
   exact⟨o,e,hd⟩
  ·refine⟨⟨o,I.MX p o hk,hc⟩,fun a e=>?_⟩
   cases e
   exact⟨o,I.MX _ o hk,hd⟩
  ·have z:∃o,s.heap.get? p=some o/\o.ExactDict:=by
    rcases hk with⟨kvs,hk⟩ | ⟨kvs,hk⟩
    ·obtain⟨_,_,_,_,o,_,_,e,ex,_⟩:=I.LA p _ hk
     exact⟨o,e,ex⟩
    ·obtain⟨_,_,_,_,o,_,_,e,ex,_⟩:=I.LA p _ hk
     exact⟨o,e,ex⟩
   obtain⟨o,e,ex⟩:=z
   refine⟨⟨o,e,ex.1⟩,fun a e2=>?_⟩
   cases e2
   exact⟨o,e,ex.2.1⟩
  ·obtain⟨o,_,_,_,e,ex,_⟩:=I.LA p _ hk
   refine⟨⟨o,e,ex.1⟩,fun a e2=>?_⟩
   cases e2
   exact⟨o,e,ex.2.1⟩
 |_=>exact False.elim ty
def JB(K:dq)(T:String)(r:V->fK->Hp->VK->Prop)(to:TE):TE:=fun σ H Q=>to σ H fun x H1=>Jo K T x H1/\r x [] H1 Q
def KW(K:dq)(T:String)(r:V->fK->Hp->VK->Prop)(to:TE)(t:TA):TE:=fun σ H Q=>to σ H fun x H1=>Jo K T x H1/\t σ H1 fun xs H2=>r x xs H2 Q
variable {id:String}{r:V->fK->Hp->VK->Prop}
def Gu{apos:Pos}{Md:Pos}(pa:PlainAttrs T)(slot:Slot T name id)(Sy:typeOf (.builtin id)=pure (.type "method_descriptor"))(hm:KF X id r)(ho:PE X o to)(Oh:attributeBase o name X.env (eval o X.env)=eval o X.env:=by rfl)(MS:(apos.endLine==Md.line)=true:=by rfl):PE X (.Call (.Attribute o name apos) [] [] Md) (JB X.K T r to):=by
 intro pins s σ H Q I h
 refine wpAny_Call_method0_late Oh MS (fg (ho pins s σ H _ I h) fun v s1 ⟨x,H1,I1,r1,ty,q1⟩=>?_)
 obtain⟨h1,h2⟩:=B5 I1 r1 ty
 exact⟨T,id,pa,slot,Sy,h1,h2,Calls.callWith_builtin rfl (PySem.evalArgs_none (hm pins s1 σ H1 x [] v [] Q I1 r1 .nil q1))⟩
def Ic{apos:Pos}(pa:PlainAttrs T)(slot:Slot T name id)(Sy:typeOf (.builtin id)=pure (.type "method_descriptor"))(hm:KF X id r)(ho:PE X o to)(ha:PA X (e::es) t)(Oh:attributeBase o name X.env (eval o X.env)=eval o X.env:=by rfl)(Py:((backTo Md (starEach (e::es) X.env)).all (fun x=>!x.1)&&(backToKw Md (keywordEach [] X.env)).all (fun x=>x.1.isSome)
   && decide ((e::es).length+([]:List Keyword).length+(if ([]:List Keyword).isEmpty then 0 else 1)<30))=true:=by rfl)(MS:(apos.endLine==Md.line)=true:=by rfl)(hs:Fi e es X.env:=by rfl)(Pp:BX Md es X.env:=by rfl):
  PE X (.Call (.Attribute o name apos) (e::es) [] Md) (KW X.K T r to t):=by
 intro pins s σ H Q I h
 refine wpAny_Call_method_late Oh Py MS rfl (fg (ho pins s σ H _ I h) fun v s1 ⟨x,H1,I1,r1,ty,q1⟩=>?_)
 obtain⟨h1,h2⟩:=B5 I1 r1 ty
 refine⟨T,id,pa,slot,Sy,h1,h2,?_⟩
 have hA:=ha Md pins s1 σ H1 _ I1 q1
 rw[hs] at hA ⊢
 refine Calls.callWith_builtin (by show(false||(backTo Md (starEach es X.env)).any (·.1))=false;rw[Pp]<;>rfl) (Calls.evalArgs_plain ?_)
 exact fg hA fun us s2 ⟨vs,H2,I2,r2,q2⟩=>hm pins s2 σ H2 x vs v us Q I2 r1 r2 q2
end
def Kc(X:Cx)(id:String)(r:V->fK->Hp->VK->Prop):Prop:=
 ∀(pins:fQ) (s:Shared) (σ:St) (H:Hp) (x:V) (xs:fK) (v:Value) (us:hW) (Q:VK),Inv X pins σ H s->RelV x v->Vals xs us->r x xs H Q ->
  eG X (call (.builtin id) (v::us)) (EP X pins σ Q) X.xe s
def Vals.one:∀{x:V} {us:hW},Vals [x] us->∃u,us=[u]/\RelV x u
 |_,_,.cons r .nil=>⟨_,rfl,r⟩
def Vals.zero:∀{us:hW},Vals [] us->us=[]
 |_,.nil=>rfl
def Vals.dropLast(h:Vals xs us):Vals xs.dropLast us.dropLast:=by
 induction h with
 |nil=>exact .nil
 |cons r t ih=>
  cases t with
  |nil=>exact .nil
  |cons q t'=>exact .cons r ih
def Vals.reverse(h:Vals xs us):Vals xs.reverse us.reverse:=by
 induction h with
 |nil=>exact .nil
 |cons r t ih=>rw[kE,kE];exact Vals.append ih (.cons r .nil)
def Vals.rep(h:Vals xs us):∀k:Nat,Vals (List.replicate k xs).flatten (List.replicate k us).flatten
 |0=>.nil
 |k+1=>by
  rw[dD,dD,fJ,fJ]
  exact Vals.append h (Vals.rep h k)
def zf{α:Type}(l:List α):l.eraseIdx (l.length-1)=l.dropLast:=by
 induction l with
 |nil=>rfl
 |cons a r ih=>
  cases r with
  |nil=>rfl
  |cons b r=>
   have e:(a::b::r).length-1=((b::r).length-1)+1:=by
    have h1:(a::b::r).length=r.length+2:=rfl
    have h2:(b::r).length=r.length+1:=rfl
    lia
   rw[e,List.eraseIdx_cons_succ,ih]
   all_goals rfl
def vm(its:hW):∀(k:Nat) (acc:hW),
  List.foldl (fun x1 x2=>x1++x2) acc.toArray (List.replicate k its.toArray)=(acc++(List.replicate k its).flatten).toArray
 |0,acc=>by simp
 |k+1,acc=>by
  have e:acc.toArray++its.toArray=(acc++its).toArray:=by simp
  have e2:(acc++its)++(List.replicate k its).flatten=acc++(List.replicate (k+1) its).flatten:=by
   rw[dD,fJ,p7]
  rw[<-e2,<-vm its k (acc++its),<-e,dD,List.foldl_cons]
def Inv.Ph{its its':hW}{t':Nat}{l:Addr}{f:Array Value->Array Value}(I:Inv X pins σ H s)(hH:H l=some (.lst xs))(e:s.heap.get? l=some { cls:=.type "list",data:=.seq its.toArray n })(hf:f its.toArray=its'.toArray)(hv:Vals ys its')(hz:ys.length<=sizeLine):
  Inv X pins σ (gq H l (.lst ys)) { s with heap:=s.heap.update l (Obj.mapSeq f),toks:=t' }:=by
 have q:=PySem.IsL.update e f
 rw[hf] at q
 refine I.write (x:=l) (e:=l) (by rw[hH];exact trivial) (.inl rfl) (fun b' u hb hu=>(Heap.get?_update_other s.heap (Obj.mapSeq f) (ft hb)).trans hu) ⟨_,q⟩ ?_
 exact⟨hz,its',_,hv,q⟩
def Inv.Pj{t':Nat}(I:Inv X pins σ H s)(hv:Vals ys its)(hz:ys.length<=sizeLine):
  Inv X pins σ (gq H s.heap.objs.size (.lst ys)) { s with heap:=s.heap.push { cls:=.type "list",data:=.seq its.toArray },toks:=t' }:=
 I.laid (fun _ _ q=>Heap.get?_push_of_some _ q) (az _) ⟨hz,its,0,hv,Heap.get?_push_size _ rfl⟩
def Inv.fresh(I:Inv X pins σ H s):H s.heap.objs.size=none:=I.LA.fresh (az _)
def Inv.NB{l:Addr}(I:Inv X pins σ H s)(hH:H l=some (.lst xs)):xs.length<=sizeLine/\∃(its:hW) (n:Nat),Vals xs its/\xs.length=its.length/\s.heap.get? l=some { cls:=.type "list",data:=.seq its.toArray n }:=by
 obtain⟨z,its,n,r,e⟩:=I.LA l _ hH
 exact⟨z,its,n,r,r.length,e⟩
def xy{n:Nat}(h:n<=sizeLine):Builtin.List.listTooLong n=false:=by
 unfold Builtin.List.listTooLong
 exact ap (by lia)
def Ee:V->fK->Hp->VK->Prop:=fun x vs H Q=>∃l xs y,x=.ref l/\vs=[y]/\H l=some (.lst xs)/\xs.length<sizeLine/\Q .LH (gq H l (.lst (xs++[y])))
def vj:Kc X "list.append" Ee:=by
 intro pins s σ H x vs v us Q I rx rv h
 obtain⟨l,xs,y,rfl,rfl,hH,hz,q⟩:=h
 cases rx
 obtain⟨u,rfl,ru⟩:=rv.one
 obtain⟨z,its,n,r,hl,e⟩:=I.NB hH
 refine Fb F.slot_list_append ⟨_,e,rfl⟩ F.entry_list_append (F.args_list_append_2 _ _) (PySem.list_append l its.toArray n u (by rw[au];lia)) ⟨e,?_⟩
 refine⟨.LH,_,I.Ph (its':=its++[u]) hH e (by simp) (r.append (.cons ru .nil)) ?_,rfl,q⟩
 rw[bV,uX]
 lia
def Ed:V->fK->Hp->VK->Prop:=fun x vs H Q=>∃l b xs zs,x=.ref l/\vs=[.ref b]/\H l=some (.lst xs)/\H b=some (.lst zs)/\xs.length+zs.length<=sizeLine/\Q .LH (gq H l (.lst (xs++zs)))
def HE:Kc X "list.extend" Ed:=by
 intro pins s σ H x vs v us Q I rx rv h
 obtain⟨l,b,xs,zs,rfl,rfl,hH,hB,hz,q⟩:=h
 cases rx
 obtain⟨u,rfl,ru⟩:=rv.one
 cases ru
 obtain⟨z,its,n,r,hl,e⟩:=I.NB hH
 obtain⟨z2,ND,n2,r2,WT,e2⟩:=I.NB hB
 have MV:its.toArray.size+ND.toArray.size<=sizeLine:=by rw[au,au];lia
 have Oe:¬(!its.toArray.isEmpty&&Builtin.List.listTooLong (its.toArray.size+ND.toArray.size))=true:=by
  rw[xy MV,Bool.and_false]
  exact aF
 refine Fb F.slot_list_extend ⟨_,e,rfl⟩ F.entry_list_extend (F.args_list_extend_2 _ _)
  (AutoSeq1.list_extend_list_list_0 l its.toArray n b ND.toArray n2 Oe (by rw[au];lia) (by lia)) ⟨e,e2,?_⟩
 refine⟨.LH,_,I.Ph (its':=its++ND) hH e (by simp) (r.append r2) ?_,rfl,q⟩
 rw[bV]
 lia
def JI:V->fK->Hp->VK->Prop:=fun x vs H Q=>∃l xs y,x=.ref l/\vs=[]/\H l=some (.lst xs)/\xs[xs.length-1]?=some y/\Q y (gq H l (.lst xs.dropLast))
def GI:Kc X "list.pop" JI:=by
 intro pins s σ H x vs v us Q I rx rv h
 obtain⟨l,xs,y,rfl,rfl,hH,hy,q⟩:=h
 cases rx
 have WA:=rv.zero
 subst WA
 obtain⟨z,its,n,r,hl,e⟩:=I.NB hH
 obtain⟨u,hu,ru⟩:=r.get hy
 have Sv:its.toArray[its.toArray.size-1]?=some u:=by
  show its.toArray[its.length-1]?=some u
  rw[<-Array.getElem?_toList,<-hl]
  exact hu
 refine Fb F.slot_list_pop ⟨_,e,rfl⟩ F.entry_list_pop (F.args_list_pop_1 _) (MeetsSeq.list_pop_last l its.toArray n u Sv (by rw[au];lia)) ⟨e,?_⟩
 refine⟨y,_,I.Ph (its':=its.dropLast) hH e ?_ r.dropLast ?_,ru,q⟩
 ·show its.toArray.eraseIdxIfInBounds (its.toArray.size-1)=its.dropLast.toArray
  rw[au,List.eraseIdxIfInBounds_toArray,zf]
 ·rw[Lb]
  lia
def JK:R2:=fun x y H Q=>∃l b xs zs,x=.ref l/\y=.ref b/\H l=some (.lst xs)/\H b=some (.lst zs)/\xs.length+zs.length<=sizeLine/\∀p,H p=none->Q (.ref p) (gq H p (.lst (xs++zs)))
def Gz:mG X (binaryOp .Add) JK:=by
 intro pins s σ H x y v u Q I rx ry h
 obtain⟨l,b,xs,zs,rfl,rfl,hH,hB,hz,q⟩:=h
 cases rx
 cases ry
 obtain⟨z,its,n,r,hl,e⟩:=I.NB hH
 obtain⟨z2,ND,n2,r2,WT,e2⟩:=I.NB hB
 refine PySem.P.add_list e e2 ?_ (by rw[au,au];lia)
 have ea:its.toArray++ND.toArray=(its++ND).toArray:=by simp
 rw[ea]
 exact⟨.ref _,_,I.Pj (t':=s.toks) (r.append r2) (by rw[bV];lia),rfl,q _ I.fresh⟩
def JH:R2:=fun x y H Q=>∃l k xs,x=.ref l/\y=.int k/\H l=some (.lst xs)/\-(2 ^ 63)<=k/\k<2 ^ 63/\xs.length*k.toNat<=sizeLine /\
 ∀p,H p=none->Q (.ref p) (gq H p (.lst (List.replicate k.toNat xs).flatten))
def Ez{α:Type}(xs:List α)(k:Nat):(List.replicate k xs).flatten.length=k*xs.length:=by
 induction k with
 |zero=>simp
 |succ k ih=>rw[dD,fJ,bV,ih,ud,Kq]
def Gw:mG X (binaryOp .Mult) JH:=by
 intro pins s σ H x y v u Q I rx ry h
 obtain⟨l,k,xs,rfl,rfl,hH,h1,h2,hz,q⟩:=h
 cases rx
 obtain⟨t,rfl⟩:=ry
 obtain⟨z,its,n,r,hl,e⟩:=I.NB hH
 have hlen:its.toArray.size*k.toNat<=sizeLine:=by rw[au,<-hl];exact hz
 have S2:¬its.toArray.size*k.toNat > (2 ^ 63-1) / 8:=by
  have:(sizeLine:Nat)<=(2 ^ 63-1) / 8:=by decide
  lia
 have SX:¬(!Builtin.List.listFitsIndex k)=true:=by
  rw[fitsIndex_both h1 h2]
  exact aF
 have Oe:¬Builtin.List.listTooLong (its.toArray.size*k.toNat)=true:=by
  rw[xy hlen]
  exact aF
 have SK:List.foldl (fun x1 x2=>x1++x2) #[] (List.replicate (if its.toArray.isEmpty=true then 0 else k.toNat) its.toArray)=(List.replicate k.toNat its).flatten.toArray:=by
  have f0:∀m:Nat,List.foldl (fun x1 x2=>x1++x2) #[] (List.replicate m its.toArray)=(List.replicate m its).flatten.toArray:=fun m=>by
   have:=vm its m []
   rw[List.nil_append] at this
   exact this
  rw[f0]
  cases its with
  |nil=>simp
  |cons a r'=>rw[ay (by simp)]
 refine wpAny_binaryOp_repeat_ref (T := "list") (U := "int") (by decide) ⟨_,e,rfl⟩ (fun s'=>typeIs_int s' k t) noFill_list_mul F.fills_int_mul F.slot_int_rmul repeat_list F.slot_int_index.lookup
  (Fb F.slot_int_rmul (typeIs_int s k t) F.entry_int_rmul (F.args_int_rmul_2 _ _) (int___rmul___int_list k t l its.toArray n)
   ⟨e,rfl,⟨_,e,rfl⟩,Fb F.slot_list_mul ⟨_,e,rfl⟩ F.entry_list_mul (F.args_list_mul_2 _ _) (AutoListH.list___mul___list_int_3 l its.toArray n k t SX S2 Oe) ⟨e,?_⟩⟩)
 rw[SK]
 exact⟨.ref _,_,I.Pj (t':=s.toks) (r.rep k.toNat) (by rw[Ez,Nat.mul_comm];exact hz),rfl,q _ I.fresh⟩
end L2
namespace Vm
open PySem PySem.W PySem.Calls PyProof.Rows
variable {K:dq}
def rH{P:Params}:∀(ns:aI) (vs:hW),WellAll P h vs (ns.map WData.int)->IntsAre vs ns:=by
 intro ns
 induction ns with
 |nil=>
  intro vs w
  rw[List.map_nil] at w
  cases w
  exact .nil
 |cons n ns ih=>
  intro vs w
  rw[dQ] at w
  cases w with
  |cons a b=>
   cases a
   exact .cons _ _ (ih _ b)
def A4{l:OpenLaw}(hn:l.most=some n){P:Params}{args:List WData}(OL:l.row.toRowW.claim.pre args=true)(Sw:WellAll P h vals args):
  ∃a vs ns,vals=[Value.ref a]/\args=[WData.list (ns.map WData.int)]/\h.get? a=some { cls:=.type "list",data:=.seq vs.toArray }/\IntsAre vs ns/\ns.length<=n:=by
 have WJ:WShape.hasAll [] args [.list .int]=true:=(pre_splitW OL).1
 have hc:l.pre.holds [] { args:=args }=true:=(pre_splitW OL).2
 obtain⟨d,r,rfl,h1,h2⟩:=hasAllW_cons WJ
 obtain rfl:=hasAllW_nil h2
 obtain⟨xs,rfl,h3⟩:=hasW_list h1
 obtain⟨ns,rfl⟩:=items_int h3
 have hlen:ns.length<=n:=by
  unfold OpenLaw.pre at hc
  have h4:(WTm.not (.lt (.lit (.int (n:Int))) (.len (.arg 0)))).holds [] { args:=[.list (ns.map .int)] }=true:=by
   have h4:=(holds_andW hc).1
   rw[hn] at h4
   exact h4
  have h5:=condW_of h4 (w_not (w_lt w_lit (w_len_list (w_arg rfl))))
  rw[ah] at h5
  refine Nat.le_of_not_lt fun q=>?_
  have q':(n:Int)<((ns.length:Nat):Int):=by lia
  first
   |(rw[aH q'] at h5;exact absurd h5 (by decide))
   |(simp at h5;lia)
 cases Sw with
 |cons w1 w2=>
  cases w2
  cases w1 with
  |list ho S4=>exact⟨_,_,ns,rfl,rfl,ho,rH ns _ S4,hlen⟩
def A8(l:OpenLaw)(args:List WData):l.row.toRowW.claim.post args (.bool true) args=true:=
 postW_of (r:=l.row.toRowW) (X:=(true==true))
  (show WShape.has [] (.bool true) .bool=true by first | rfl | decide | simp[WShape.has,WShape.arms,WShape.armsAll])
  (show(WTm.eq .res (.lit (.bool true))).value [] { args:=args,res:=some (.bool true),after:=args }=some (.bool (true==true)) from w_eq_bool (w_res rfl) w_lit) rfl
def Nk{l:OpenLaw}{XP:(Str->Option Value)->Heap->Prop}{YP:World->Heap->Prop}{d:DefRec}(hn:l.most=some n)(QL:d.params.defaults=[])(call:∀(w:World) (s₀ s₁:Shared) (mg mb:uh) (fa:Addr) (o:Obj) (pm cd doc:Value) (a:Addr) (vs:hW) (ns:aI),
   Ground q loose [] XP w s₀ mg mb s₁.heap->YP w s₁.heap ->
   s₁.heap.get? fa=some o->o.data=.func (docDef d.name d.params d.body d.scope pm cd doc)->s₁.heap.CodeRec cd d.name->mg d.name=some (.ref fa) ->
   s₁.heap.get? a=some { cls:=.type "list",data:=.seq vs.toArray }->IntsAre vs ns->ns.length<=n->s₁.gens = #[] ->
   codeAny (model l.prog w) callerA (.call (.ref fa) ⟨[.ref a],[]⟩) (fun r s'=>r=.ok (.ret (.bool true))/\OldK s₁.heap s'.heap/\s'.os=s₁.os/\AllBare s'.gens) s₁):
  WalkO q loose XP YP l.row.toRowW d [] (fun f vs=>PySem.call f vs):=by
 intro w s₀ s₁ mg mb G Y fa o pm cd doc dV kV ho hd NU hD hmg hg args vals as OL WS Yn Sw QD
 obtain rfl:dV=.none:=Dflts.none hD QL
 obtain rfl:kV=.none:=Dflts.noKw hD
 obtain⟨a,vs,ns,rfl,rfl,Pq,hints,hlen⟩:=A4 hn OL Sw
 refine enter_call (Hx (call w s₀ s₁ mg mb fa o pm cd doc a vs ns G Y ho (fd_plain hd) NU hmg Pq hints hlen hg) fun r s' hq=>?_)
 obtain⟨rfl,h2,h3,h4⟩:=hq
 exact⟨.inl ⟨.bool true,.bool true,[],rfl,fun _=>rfl,.bool true,A8 l _,fun _=>⟨List.Pairwise.nil,fun _ hm=>(nomatch hm)⟩⟩,h2,h3,h4⟩
section
variable {K:Frag}
def JP(h:Heap)(L d:Addr):fQ:=(List.range h.objs.size).filterMap fun a=>if a=L\/a=d then none else (h.get? a).map fun o=>(a,o)
end
end Vm
namespace L2
open PySem PySem.Spec PyProof.Rows
variable {K:dq}
def uZ:∀{vs:hW} {ns:aI},IntsAre vs ns->Vals (ns.map V.int) vs
 |_,_,.nil=>.nil
 |_,_,.cons n t h=>.cons ⟨t,rfl⟩ (uZ h)
def Hl(H:Hp):Prop:=∀b,H b=none\/∃o xs,H b=some (.Mq o (.lst xs))
def CP{K:dq}{a:Addr}{x:Str}{s₁:Shared}{vs:hW}(KX:K.In s₁.heap)(Rz:s₁.heap.Ns mainGlobals mg)(hb:s₁.heap.Ns builtinsNs mb)(W8:∀x:Str,x ≠ "__name__" -> mb x=bootBuiltins x)(SN:s₁.heap.NoLimit)(NJ:s₁.heap.NoSeer)(hg:s₁.gens = #[])(ha:s₁.heap.get? a=some { cls:=.type "list",data:=.seq vs.toArray })(hi:IntsAre vs ns)(hl:ns.length<=sizeLine)(hr:L6 k callerA)(F:∀base:Heap,K.In base->base.Ns mainGlobals mg->lX P w K mg base CX k fa fd [x] sp)(QP:∀(s:Shared) (u:Value),BindsTo s fd ⟨[u],[]⟩ [(x,u)])(Oc:∀H:Hp,Hl H->Mh K H a (ns.map V.int)->sp [.ref a] H (fun v _=>v=.bl true) fun _ _ _=>False)(Ta:∀H e s',CX [] H s₁ (fun _ _ _=>False) e s'->False):
  codeAny (model P w) callerA (.call (.ref fa) ⟨[.ref a],[]⟩) (fun r s'=>r=.ok (.ret (.bool true))/\OldK s₁.heap s'.heap/\s'.os=s₁.os/\AllBare s'.gens) s₁:=by
 have rv:=uZ hi
 have So:=hi.length
 have core:∀H:Hp,Hl H->Mh K H a (ns.map V.int)->MI P w H s₁.heap->(∀b,H b≠none->b=a)->(H a≠none->K.lookup a=none) ->
   codeAny (model P w) callerA (.call (.ref fa) ⟨[.ref a],[]⟩) (fun r s'=>r=.ok (.ret (.bool true))/\OldK s₁.heap s'.heap/\s'.os=s₁.os/\AllBare s'.gens) s₁:=by
  intro H hO hS LA hA hK
  have M8:∀{b:Addr} {o:Obj},s₁.heap.get? b=some o->H b=none->(uI s₁.heap H).get? b=some o:=fun e n=>CY e n
  have Qq:∀{b:Addr} {o:Obj} {es:Array DictEntry} {ep:Nat},s₁.heap.get? b=some o->o.data=.dict es ep->H b=none:=fun {b o es ep} e d=>by
   cases q:H b with
   |none=>rfl
   |some u=>
    have e':b=a:=hA b (by rw[q];simp)
    subst e'
    rw[ha] at e;cases e
    have d':Data.seq vs.toArray _=Data.dict es ep:=d
    cases d'
  have O1:∀{b:Addr} {m:uh},s₁.heap.Ns b m->(uI s₁.heap H).Ns b m:=fun {b m} ⟨o,es,ep,e,d,r⟩=>⟨o,es,ep,M8 e (Qq e d),d,r⟩
  have Uu:K.In (uI s₁.heap H):=fun b o e=>M8 (KX b o e) (by
   cases q:H b with
   |none=>rfl
   |some u=>
    have e':b=a:=hA b (by rw[q];simp)
    subst e'
    rw[hK (by rw[q];simp)] at e;cases e)
  have QR:(uI s₁.heap H).NoSeer:={
   statics:=let ⟨mc,a1,b1⟩:=NJ.statics;⟨mc,O1 a1,b1⟩
   mods:=let ⟨mc,a1,b1⟩:=NJ.mods;⟨mc,O1 a1,b1⟩
   imp:=let ⟨mc,a1,b1⟩:=NJ.imp;⟨mc,O1 a1,b1⟩
   main:=let ⟨Na,bm,ob,a1,b1,c1,d1,e1⟩:=NJ.main;⟨Na,bm,ob,O1 a1,b1,M8 c1 (by
    cases q:H bm with
    |none=>rfl
    |some u=>
     have e':bm=a:=hA bm (by rw[q];simp)
     subst e'
     rw[ha] at c1;cases c1
     injection d1 with d2
     exact absurd d2 (by decide)),d1,e1⟩ }
  have hM:Mod K mg (uI s₁.heap H):=⟨Uu,O1 Rz,⟨mb,O1 hb,W8⟩,let ⟨mc,h1,h2⟩:=SN;⟨mc,O1 h1,h2⟩,QR⟩
  have e0:Fa P w K mg (uI s₁.heap H) callerA [] s₁ H:=⟨rfl,hM,fun b o e=>Ew e,nO (Bs _ _),trivial,fun b hb=>absurd (show b∈([]:List Addr) from hb) (by simp),LA,.of_eq hg⟩
  refine Hx ((F _ Uu (O1 Rz)).run callerA [] s₁ H ⟨[.ref a],[]⟩ [.ref a] [.ref a] _ _ hr e0 (QP s₁ (.ref a)) (.cons rfl .nil) (Oc H hO hS)) fun r s' h=>?_
  cases r with
  |error e=>exact(Ta H e s' h).elim
  |ok fl=>
   cases fl with
   |next=>exact False.elim h
   |brk=>exact False.elim h
   |cont=>exact False.elim h
   |ret u=>
    obtain⟨v,H',os,bare,un,SG,r',q⟩:=h
    have q':v=.bl true:=q
    subst q'
    obtain rfl:u=Value.bool true:=r'
    refine⟨rfl,OldK.of_keep fun b o e=>?_,os,bare⟩
    cases q:H b with
    |none=>exact un.keep b o e q (by intro z;exact absurd (show b∈([]:List Addr) from z) (by simp)) (by simp)
    |some u=>
     rcases hO b with z | ⟨ob,xs,z⟩
     ·rw[q] at z;cases z
     ·have z2:=un.L4 b ob _ z
      obtain⟨e1,_⟩:=LA b _ z
      obtain⟨e2,_⟩:=SG b _ z2
      rw[e] at e1;cases e1
      exact e2
 cases hk:K.lookup a with
 |some o=>
  have e:=KX a o hk
  rw[ha] at e
  cases e
  refine core (fun _=>none) (fun _=>.inl rfl) (.inr ⟨_,vs.toArray,_,hk,rfl,rfl,rfl,by rw[au,So];exact hl,by simpa using rv⟩) (fun b u z=>by have z':(none:Option HO)=some u:=z;cases z') (fun b z=>absurd rfl z) fun z=>absurd rfl z
 |none=>
  refine core (fun b=>if b=a then some (.Mq { cls:=.type "list",data:=.seq vs.toArray } (.lst (ns.map V.int))) else none) (fun b=>?_) (.inl (.inr ⟨{ cls:=.type "list",data:=.seq vs.toArray },aB rfl⟩)) (fun b u z=>?_) (fun b z=>?_) fun _=>hk
  ·by_cases hb:b=a
   ·exact .inr ⟨_,_,aB hb⟩
   ·exact .inl (ay hb)
  ·by_cases hb:b=a
   ·have z':=(aB hb).symm.trans z
    cases z'
    subst hb
    exact⟨ha,by rw[ah];exact hl,vs,_,rv,ha⟩
   ·have z':=(ay hb).symm.trans z
    cases z'
  ·by_cases hb:b=a
   ·exact hb
   ·exact absurd (ay hb) z
def OE{q:Program}{l:PySem.W.OpenLaw}{XP:(Str->Option Value)->Heap->Prop}{YP:World->Heap->Prop}{d:DefRec}{K:Params->dq}{CX:World->Hs}{sp:World->Sp}(hq:importsNone q=true)(hn:l.most=some n)(WQ:n<=sizeLine)(QL:d.params.defaults=[])(hr:L6 k callerA)(hY:∀(w:World) (h:Heap),YP w h->(K w.params).In h)(F:∀(w:World) (mg:uh) (fa:Addr) (h:Heap),(K w.params).In h->h.Ns mainGlobals mg->mg d.name=some (.ref fa) ->
   ∃fd:FuncData,(∀(s:Shared) (u:Value),BindsTo s fd ⟨[u],[]⟩ [(x,u)]) /\
    ∀base:Heap,(K w.params).In base->base.Ns mainGlobals mg->lX l.prog w (K w.params) mg base (CX w) k fa fd [x] (sp w))(Oc:∀(w:World) (H:Hp) (a:Addr) (ns:aI),ns.length<=n->Hl H->Mh (K w.params) H a (ns.map V.int)->sp w [.ref a] H (fun v _=>v=.bl true) fun _ _ _=>False)(Ta:∀(w:World) (H:Hp) (s:Shared) (e:Value) (s':Shared),CX w [] H s (fun _ _ _=>False) e s'->False):
  PySem.W.WalkO q loose XP YP l.row.toRowW d [] (fun f vs=>PySem.call f vs):=by
 refine Vm.Nk hn QL fun w s₀ s₁ mg mb fa o pm cd doc a vs ns G Y ho hd NU hmg Pq hints hlen hg=>?_
 have KX:=hY w _ Y
 obtain⟨fd,hb,hF⟩:=F w mg fa _ KX G.T.g hmg
 exact CP KX G.T.g G.T.b G.T.builtins G.T.nolimit (G.T.seer hq) hg Pq hints (aZ hlen WQ) hr hF hb (fun H hO hS=>Oc w H a ns hlen hO hS) fun H e s'=>Ta w H s₁ e s'
def gZ(s:Stmt):Arguments:=match s with
 |.FunctionDef _ a _ _ _ _ _ _ _ _=>a
 |_=>{ posonlyargs:=[],args:=[],vararg:=none,kwonlyargs:=[],kw_defaults:=[],kwarg:=none,defaults:=[] }
def bX(s:Stmt):List Stmt:=match s with
 |.FunctionDef _ _ b _ _ _ _ _ _ _=>b
 |_=>[]
def ai(s:Stmt):Scope:=match s with
 |.FunctionDef _ _ _ _ _ _ sc _ _ _=>sc
 |_=>{ kind:=.function,names:=[],isGenerator:=false,isCoroutine:=false }
abbrev AS:Hs:=fun _ _ _ _ _ _=>False
abbrev E0:XK:=fun _ _ _=>False
def Ii:wD AS X E0:=fun _ _ _ _ _ _ _ h=>h.elim
structure OB(K:dq)(x qual:Str)(st:Stmt)(f:Addr)(fd:FuncData):Prop where
 ex:∃(oc:Value) (od:Option Addr) (kV doc pm:Value) (an:Option Addr) (LU ct:Value) (OJ:Array (Option Value)),
  fd=PySem.W.fnOf x qual (gZ st) (bX st) (ai st) .none kV doc pm an LU ct/\K.lookup f=some ⟨oc,od,.func fd,OJ⟩/\PySem.W.codeIn K LU qual=true
 kp:PySem.W.keepIn K (.ref f)=true
def OB.ok{st:Stmt}{sp:Sp}(F:OB K x qual st f fd)(S:aP N ps (ai st))(len:∀vs H Q E,sp vs H Q E->vs.length=ps.length)(Og:∀(LU:Value) (A:Around) (outer:List Env) (s:Shared) (H:Hp) (vs:fK) (Q:VK) (E:XK),L6 k (A.deeper (envOfC qual (ai st) s.heap.objs.size f LU))->sp vs H Q E ->
   ∃t,NG (pQ AS P w K mg base N qual (ai st) f LU A outer s H E).MZ (bX st) t/\t { nx:=fun _ H'=>Q .LH H',rt:=Q } (start N vs) H):lX P w K mg base AS (k+1) f fd ps sp:=by
 obtain⟨oc,od,kV,doc,pm,an,LU,ct,OJ,rfl,lk,NU⟩:=F.ex
 refine C5 lk NU S len fun A outer s H vs Q E hr Oc=>?_
 obtain⟨t,h,q⟩:=Og LU A outer s H vs Q E hr Oc
 exact⟨t,h.MZ,q⟩
def OB.binds{st:Stmt}{ps:fw}(F:OB K x qual st f fd)(h:∀(kV doc pm:Value) (an:Option Addr) (LU ct:Value) (us:hW),us.length=ps.length->bindArgs (PySem.W.fnOf x qual (gZ st) (bX st) (ai st) .none kV doc pm an LU ct) ⟨us,[]⟩=pure (ps.zip us)):Binds K fd ps []:=by
 obtain⟨oc,od,kV,doc,pm,an,LU,ct,OJ,rfl,lk,NU⟩:=F.ex
 exact .all (h kV doc pm an LU ct)
def G1{x qual:Str}{st:Stmt}{f:Addr}{an:Option Addr}{kV doc pm LU ct:Value}(l:K.lookup f=some ⟨oc,od,.func (PySem.W.fnOf x qual (gZ st) (bX st) (ai st) .none kV doc pm an LU ct),OJ⟩)(c:PySem.W.codeIn K LU qual=true)(k:PySem.W.keepIn K (.ref f)=true):OB K x qual st f (PySem.W.fnOf x qual (gZ st) (bX st) (ai st) .none kV doc pm an LU ct):=⟨⟨oc,od,kV,doc,pm,an,LU,ct,OJ,rfl,l,c⟩,k⟩
def Lv(H H':Hp):Prop:=∀b o,H b=some o->H' b=some o
def Lv.refl(H:Hp):Lv H H:=fun _ _ h=>h
def Lv.trans(a:Lv H H1)(b:Lv H1 H2):Lv H H2:=fun c o h=>b c o (a c o h)
def Lv.free{l:Addr}(e:Lv H H')(h:H' l=Option.none):H l=Option.none:=by
 cases q:H l with
 |none=>rfl
 |some o=>
  rw[e l o q] at h
  cases h
def Lv.seq{K:dq}(e:Lv H H')(h:Mh K H a xs):Mh K H' a xs:=by
 rcases h with(h | ⟨o,h⟩) | h
 ·exact .inl (.inl (e _ _ h))
 ·exact .inl (.inr ⟨o,e _ _ h⟩)
 ·exact .inr h
end L2
namespace L2.EV
open PySem PySem.Spec PyProof.Rows
variable {K:dq}
inductive D where
 |LH | bl (b:Bool) | int (i:Int) | str (x:Str) | tup (xs:List D) | lst (xs:List D) | MG (ns:aI) | exc (C:Addr) | Nb (C ea:Addr) | MY (kvs:List (aI×Int)) | adr (p:Addr) | OH (q:Addr)
abbrev cQ:=List D
def mx(a C:Addr):Heap->Prop:=fun h=>∃ob vs,h.get? a=some ob/\ob.cls=.ref C/\ob.data=.fields vs/\vs[2]?=some .none
def IB(o:Obj)(xs:List (aI×Addr×Int)):Prop:=o.ExactDict/\∃(es:Array DictEntry) (ep:Nat) (ys:List (aI×Addr×Value)),o.data=.dict es ep/\(∀(P:Program) (w:World),es.toList=ys.map (entryOfKey (tupleKind (intKind P w)))) /\
 Paired (fun(x:aI×Addr×Int) (y:aI×Addr×Value)=>y.1=x.1/\y.2.1=x.2.1/\RelV (.int x.2.2) y.2.2) xs ys/\(ys.map (·.1)).Nodup
def IC(a:Addr)(xs:List (aI×Addr×Int)):Heap->Prop:=fun h=>xs.length<=sizeLine/\(a==sysModules)=false/\∃o,h.get? a=some o/\IB o xs
def Ov(F:Hp)(kvs:List (aI×Int))(xs:List (aI×Addr×Int)):Prop:=kvs=xs.map (fun x=>(x.1,x.2.2))/\∀x∈xs,F x.2.1=some (.tup (x.1.map V.int))
def Ov.mono{kvs:List (aI×Int)}{xs:List (aI×Addr×Int)}(h:Lv F F')(r:Ov F kvs xs):Ov F' kvs xs:=⟨r.1,fun x hx=>h _ _ (r.2 x hx)⟩
mutual
inductive Rep(K:dq)(F:Hp):V->D->Prop where
 |LH:Rep K F .LH .LH
 |bl (b:Bool):Rep K F (.bl b) (.bl b)
 |int (i:Int):Rep K F (.int i) (.int i)
 |str (x:Str):Rep K F (.str x) (.str x)
 |tup {a:Addr} {vs:fK} {ds:cQ}:F a=some (.tup vs)->Ls K F vs ds->Rep K F (.ref a) (.tup ds)
 |lst {a:Addr} {vs:fK} {ds:cQ}:F a=some (.lst vs)->Ls K F vs ds->Rep K F (.ref a) (.lst ds)
 |MG {a:Addr} {ns:aI}:Mh K F a (ns.map V.int)->Rep K F (.ref a) (.MG ns)
 |exc {a C:Addr} {ob:Obj}:F a=some (.Mq ob (.ext (mx a C)))->Rep K F (.ref a) (.exc C)
 |Nb {a C:Addr} {ob:Obj}:F a=some (.Mq ob (.ext (mx a C)))->Rep K F (.ref a) (.Nb C a)
 |MY {a:Addr} {ob:Obj} {kvs:List (aI×Int)} {xs:List (aI×Addr×Int)}:F a=some (.Mq ob (.ext (IC a xs)))->Ov F kvs xs->Rep K F (.ref a) (.MY kvs)
 |adr (a:Addr):Rep K F (.ref a) (.adr a)
 |OH {a q:Addr}:F a=some (.dK [(Sum.inr "xs",.ref q)])->Rep K F (.ref a) (.OH q)
inductive Ls(K:dq)(F:Hp):fK->cQ->Prop where
 |nil:Ls K F [] []
 |cons {v:V} {d:D} {vs:fK} {ds:cQ}:Rep K F v d->Ls K F vs ds->Ls K F (v::vs) (d::ds)
end
mutual
def Rep.mono(h:Lv F F'):∀{v:V} {d:D},Rep K F v d->Rep K F' v d
 |_,_,.LH=>.LH
 |_,_,.bl b=>.bl b
 |_,_,.int i=>.int i
 |_,_,.str x=>.str x
 |_,_,.tup e r=>.tup (h _ _ e) (Ls.mono h r)
 |_,_,.lst e r=>.lst (h _ _ e) (Ls.mono h r)
 |_,_,.MG e=>.MG (h.seq e)
 |_,_,.exc e=>.exc (h _ _ e)
 |_,_,.Nb e=>.Nb (h _ _ e)
 |_,_,.MY e r=>.MY (h _ _ e) (r.mono h)
 |_,_,.adr a=>.adr a
 |_,_,.OH e=>.OH (h _ _ e)
def Ls.mono(h:Lv F F'):∀{vs:fK} {ds:cQ},Ls K F vs ds->Ls K F' vs ds
 |_,_,.nil=>.nil
 |_,_,.cons r t=>.cons (Rep.mono h r) (Ls.mono h t)
end
def Ls.length:∀{vs:fK} {ds:cQ},Ls K F vs ds->vs.length=ds.length
 |_,_,.nil=>rfl
 |_,_,.cons _ t=>c8 Nat.succ (Ls.length t)
def Ls.get:∀{vs:fK} {ds:cQ} {i:Nat} {d:D},Ls K F vs ds->ds[i]?=some d->∃v,vs[i]?=some v/\Rep K F v d
 |_,_,_,_,.nil,e=>by simp at e
 |_,_,0,_,.cons r _,e=>by simp at e;subst e;exact⟨_,rfl,r⟩
 |_,_,i+1,d,.cons _ t,e=>by
  obtain⟨v,h1,h2⟩:=Ls.get (i:=i) (d:=d) t (by simpa using e)
  exact⟨v,by simpa using h1,h2⟩
def Ls.append:∀{vs us:fK} {ds es:cQ},Ls K F vs ds->Ls K F us es->Ls K F (vs++us) (ds++es)
 |_,_,_,_,.nil,s=>s
 |_,_,_,_,.cons r t,s=>.cons r (Ls.append t s)
def Ls.take:∀{vs:fK} {ds:cQ} (n:Nat),Ls K F vs ds->Ls K F (vs.take n) (ds.take n)
 |_,_,0,_=>.nil
 |_,_,_+1,.nil=>.nil
 |_,_,n+1,.cons r t=>.cons r (Ls.take n t)
def Ls.drop:∀{vs:fK} {ds:cQ} (n:Nat),Ls K F vs ds->Ls K F (vs.drop n) (ds.drop n)
 |_,_,0,r=>r
 |_,_,_+1,.nil=>.nil
 |_,_,n+1,.cons _ t=>Ls.drop n t
def Ls.set(r:Rep K F v d):∀{vs:fK} {ds:cQ} (i:Nat),Ls K F vs ds->Ls K F (vs.set i v) (ds.set i d)
 |_,_,_,.nil=>.nil
 |_,_,0,.cons _ t=>.cons r t
 |_,_,i+1,.cons q t=>.cons q (Ls.set r i t)
def Ls.dropLast(h:Ls K F vs ds):Ls K F vs.dropLast ds.dropLast:=by
 rw[KJ,KJ,h.length]
 exact h.take _
def Ls.reverse:∀{vs:fK} {ds:cQ},Ls K F vs ds->Ls K F vs.reverse ds.reverse
 |_,_,.nil=>.nil
 |_,_,.cons r t=>by rw[kE,kE];exact Ls.append (Ls.reverse t) (.cons r .nil)
def Ls.rep(h:Ls K F vs ds):∀k:Nat,Ls K F (List.replicate k vs).flatten (List.replicate k ds).flatten
 |0=>.nil
 |k+1=>by
  rw[dD,dD,fJ,fJ]
  exact Ls.append h (Ls.rep h k)
def Ls.ints:∀ns:aI,Ls K F (ns.map V.int) (ns.map D.int)
 |[]=>.nil
 |n::ns=>.cons (.int n) (Ls.ints ns)
structure B0 where
 F:Hp
 H:Hp
structure Ext(B:B0)(F H:Hp):Prop where
 sub:Lv F H
 sh:Lv B.H H
 sf:Lv B.F F
 nw:∀a,F a≠none->B.F a≠none\/B.H a=none
inductive Sl where
 |un | val (d:D) | own (xs:cQ) | Nc (kvs:List (aI×Int))
structure Nl(B:B0)(F H:Hp)(σ:St)(ρ:List Sl):Prop where
 Tp:∀(i:Nat) kvs,ρ[i]?=some (.Nc kvs)->∃a es,σ[i]?=some (some (.ref a))/\H a=some (.ext (IC a es))/\F a=none/\B.H a=none/\Ov F kvs es
 Q9:∀(i j:Nat) xs ys a,ρ[i]?=some (.Nc xs)->ρ[j]?=some (.Nc ys)->σ[i]?=some (some (.ref a))->σ[j]?=some (some (.ref a))->i=j
def Nl.to{H':Hp}{σ':St}{ρ ρ':List Sl}(k:Nl B F H σ ρ)(hF:Lv F F')(hH:∀a φ,H a=some (.ext φ)->F a=none->B.H a=none->H' a=some (.ext φ)/\F' a=none)(hρ:∀(i:Nat) kvs,ρ'[i]?=some (.Nc kvs)->ρ[i]?=some (.Nc kvs)/\σ'[i]?=σ[i]?):Nl B F' H' σ' ρ':=by
 refine⟨fun i kvs e=>?_,fun i j xs ys a e1 e2 e3 e4=>?_⟩
 ·obtain⟨q,z⟩:=hρ i kvs e
  obtain⟨a,es,h1,h2,h3,h4,h5⟩:=k.Tp i kvs q
  obtain⟨g1,g2⟩:=hH a _ h2 h3 h4
  exact⟨a,es,z.trans h1,g1,g2,h4,h5.mono hF⟩
 ·obtain⟨q1,z1⟩:=hρ i xs e1
  obtain⟨q2,z2⟩:=hρ j ys e2
  exact k.Q9 i j xs ys a q1 q2 (z1 ▸ e3) (z2 ▸ e4)
def r9{σ:St}{ρ:List Sl}{v:Option V}{s:Sl}(hs:∀kvs,s ≠ .Nc kvs)(j:Nat)(kvs:List (aI×Int))(h:(ρ.set i s)[j]?=some (.Nc kvs)):ρ[j]?=some (.Nc kvs)/\(σ.set i v)[j]?=σ[j]?:=by
 by_cases e:i=j
 ·subst e
  rw[List.getElem?_set_self'] at h
  cases z:ρ[i]? with
  |none=>rw[z] at h;cases h
  |some w=>rw[z] at h;exact absurd (bc h) (hs kvs)
 ·rw[List.getElem?_set_ne e] at h ⊢
  exact⟨h,rfl⟩
def xf{σ:St}{ρ:List Sl}{s:Sl}(hs:∀kvs,s ≠ .Nc kvs)(j:Nat)(kvs:List (aI×Int))(h:(ρ.set i s)[j]?=some (.Nc kvs)):ρ[j]?=some (.Nc kvs)/\σ[j]?=σ[j]?:=
 ⟨(r9 (σ:=[]) (v:=none) hs j kvs h).1,rfl⟩
structure Ok(K:dq)(B:B0)(F H:Hp)(σ:St)(ρ:List Sl):Prop extends Ext B F H where
 len:σ.length=ρ.length
 vals:∀(i:Nat) d,ρ[i]?=some (.val d)->∃v,σ[i]?=some (some v)/\Rep K F v d
 Mu:∀(i:Nat) xs,ρ[i]?=some (.own xs)->∃a vs,σ[i]?=some (some (.ref a))/\H a=some (.lst vs)/\F a=none/\B.H a=none/\Ls K F vs xs
 dist:∀(i j:Nat) xs ys a,ρ[i]?=some (.own xs)->ρ[j]?=some (.own ys)->σ[i]?=some (some (.ref a))->σ[j]?=some (some (.ref a))->i=j
 MY:Nl B F H σ ρ
def bv{H:Hp}{p:Addr}(h:H p=none):Lv H (gq H p o):=fun b u q=>by rw[bo (dR q h)];exact q
def B2(h:Lv F H):Lv (gq F p o) (gq H p o):=fun b u q=>by
 by_cases hb:b=p
 ·subst hb;rw[cH] at q ⊢;exact q
 ·rw[bo hb] at q ⊢;exact h b u q
section
variable {K:dq}{ρ:List Sl}
def Ext.refl(h:Lv F H):Ext ⟨F,H⟩ F H:=⟨h,.refl _,.refl _,fun a q=>.inl q⟩
def Ext.trans(x:Ext B F H)(y:Ext ⟨F,H⟩ F' H'):Ext B F' H':=
 ⟨y.sub,x.sh.trans y.sh,x.sf.trans y.sf,fun a q=>by
  rcases y.nw a q with z | z
  ·exact x.nw a z
  ·exact .inr (x.sh.free z)⟩
def Ext.kf{a:Addr}(y:Ext B F' H')(h1:B.F a=none)(h2:B.H a=some o):F' a=none:=by
 cases q:F' a with
 |none=>rfl
 |some u=>
  rcases y.nw a (by rw[q];exact fun z=>nomatch z) with z | z
  ·exact absurd h1 z
  ·exact nomatch h2.symm.trans z
def Ext.grow{p:Addr}(x:Ext B F H)(hp:H p=none):Ext B (gq F p o) (gq H p o):=
 ⟨B2 x.sub,x.sh.trans (bv hp),x.sf.trans (bv (x.sub.free hp)),fun a q=>by
  by_cases h:a=p
  ·subst h;exact .inr (x.sh.free hp)
  ·rw[bo h] at q;exact x.nw a q⟩
def Ok.ext(k:Ok K B F H σ ρ)(y:Ext ⟨F,H⟩ F' H'):Ok K B F' H' σ ρ:=by
 refine⟨k.toExt.trans y,k.len,fun i d e=>?_,fun i xs e=>?_,k.dist,k.MY.to y.sf (fun a φ e1 e2 e3=>⟨y.sh _ _ e1,?_⟩) fun _ _ e=>⟨e,rfl⟩⟩
 rotate_left 2
 ·exact y.kf e2 e1
 ·obtain⟨v,h1,h2⟩:=k.vals i d e
  exact⟨v,h1,h2.mono y.sf⟩
 ·obtain⟨a,vs,h1,h2,h3,h4,h5⟩:=k.Mu i xs e
  refine⟨a,vs,h1,y.sh _ _ h2,?_,h4,h5.mono y.sf⟩
  exact y.kf h3 h2
def Ok.grow{p:Addr}(k:Ok K B F H σ ρ)(hp:H p=none):Ok K B (gq F p o) (gq H p o) σ ρ:=
 k.ext ((Ext.refl k.sub).grow hp)
def Ok.QU{p:Addr}(k:Ok K B F H σ ρ)(hp:H p=none):Ok K B F (gq H p o) σ ρ:=
 k.ext ⟨k.sub.trans (bv hp),bv hp,.refl _,fun a q=>.inl q⟩
def L5(σ:St)(ρ:List Sl)(p:Addr):Prop:=∀(i:Nat) xs,ρ[i]?=some (.own xs)->σ[i]?≠some (some (.ref p))
def Ok.noOwn{p:Addr}(k:Ok K B F H σ ρ)(hp:H p=none):L5 σ ρ p:=fun i xs e q=>by
 obtain⟨a,vs,h1,h2,_⟩:=k.Mu i xs e
 rw[h1] at q
 cases q
 rw[hp] at h2;cases h2
def Ok.LZ(k:Ok K B F H σ ρ)(i:Nat)(r:Rep K F v d):Ok K B F H (σ.set i (some v)) (ρ.set i (.val d)):=by
 refine⟨k.toExt,by rw[ck,ck,k.len],fun j e q=>?_,fun j xs q=>?_,fun j l xs ys a q1 q2 q3 q4=>?_,k.MY.to (.refl _) (fun _ _ e1 e2 _=>⟨e1,e2⟩) (r9 fun _ z=>nomatch z)⟩
 ·by_cases h:i=j
  ·subst h
   rw[List.getElem?_set_self'] at q
   cases z:ρ[i]? with
   |none=>rw[z] at q;cases q
   |some w=>
    rw[z] at q;cases q
    have hi:i<σ.length:=by rw[k.len];exact(List.getElem?_eq_some_iff.mp z).1
    exact⟨v,by rw[List.getElem?_set_self hi],r⟩
  ·rw[List.getElem?_set_ne h] at q ⊢
   exact k.vals j e q
 ·by_cases h:i=j
  ·subst h
   rw[List.getElem?_set_self'] at q
   cases z:ρ[i]? with
   |none=>rw[z] at q;cases q
   |some w=>rw[z] at q;cases q
  ·rw[List.getElem?_set_ne h] at q ⊢
   exact k.Mu j xs q
 ·have n1:i≠j:=by
   rintro rfl
   rw[List.getElem?_set_self'] at q1
   cases z:ρ[i]? with
   |none=>rw[z] at q1;cases q1
   |some w=>rw[z] at q1;cases q1
  have n2:i≠l:=by
   rintro rfl
   rw[List.getElem?_set_self'] at q2
   cases z:ρ[i]? with
   |none=>rw[z] at q2;cases q2
   |some w=>rw[z] at q2;cases q2
  rw[List.getElem?_set_ne n1] at q1 q3
  rw[List.getElem?_set_ne n2] at q2 q4
  exact k.dist j l xs ys a q1 q2 q3 q4
def Ok.N7{p:Addr}(k:Ok K B F H σ ρ)(i:Nat)(hp:H p=some (.lst vs))(hf:F p=none)(hb:B.H p=none)(hn:L5 σ ρ p)(r:Ls K F vs ds):
  Ok K B F H (σ.set i (some (.ref p))) (ρ.set i (.own ds)):=by
 refine⟨k.toExt,by rw[ck,ck,k.len],fun j e q=>?_,fun j xs q=>?_,fun j l xs ys a q1 q2 q3 q4=>?_,k.MY.to (.refl _) (fun _ _ e1 e2 _=>⟨e1,e2⟩) (r9 fun _ z=>nomatch z)⟩
 ·by_cases h:i=j
  ·subst h
   rw[List.getElem?_set_self'] at q
   cases z:ρ[i]? with
   |none=>rw[z] at q;cases q
   |some w=>rw[z] at q;cases q
  ·rw[List.getElem?_set_ne h] at q ⊢
   exact k.vals j e q
 ·by_cases h:i=j
  ·subst h
   rw[List.getElem?_set_self'] at q
   cases z:ρ[i]? with
   |none=>rw[z] at q;cases q
   |some w=>
    rw[z] at q;cases q
    have hi:i<σ.length:=by rw[k.len];exact(List.getElem?_eq_some_iff.mp z).1
    exact⟨p,vs,by rw[List.getElem?_set_self hi],hp,hf,hb,r⟩
  ·rw[List.getElem?_set_ne h] at q ⊢
   exact k.Mu j xs q
 ·by_cases n1:i=j
  ·by_cases n2:i=l
   ·exact n1.symm.trans n2
   ·subst n1
    rw[List.getElem?_set_ne n2] at q2 q4
    have hi:i<σ.length:=by
     have:=(List.getElem?_eq_some_iff.mp q3).1
     rw[ck] at this;exact this
    rw[List.getElem?_set_self hi] at q3
    cases q3
    exact absurd q4 (hn l ys q2)
  ·by_cases n2:i=l
   ·subst n2
    rw[List.getElem?_set_ne n1] at q1 q3
    have hi:i<σ.length:=by
     have:=(List.getElem?_eq_some_iff.mp q4).1
     rw[ck] at this;exact this
    rw[List.getElem?_set_self hi] at q4
    cases q4
    exact absurd q3 (hn j xs q1)
   ·rw[List.getElem?_set_ne n1] at q1 q3
    rw[List.getElem?_set_ne n2] at q2 q4
    exact k.dist j l xs ys a q1 q2 q3 q4
def Ok.M7{vs:fK}{i:Nat}(k:Ok K B F H σ ρ)(hi:ρ[i]?=some (.own xs))(hs:σ[i]?=some (some (.ref p)))(r:Ls K F ws ds):
  Ok K B F (gq H p (.lst ws)) σ (ρ.set i (.own ds)):=by
 obtain⟨a,us,h1,h2,h3,h4,h5⟩:=k.Mu i xs hi
 rw[h1] at hs
 cases hs
 have Mj:i<ρ.length:=(List.getElem?_eq_some_iff.mp hi).1
 refine⟨⟨fun b u q=>?_,fun b u q=>?_,k.sf,k.nw⟩,by rw[ck,k.len],fun j e q=>?_,fun j ys q=>?_,fun j l ys zs b q1 q2 q3 q4=>?_,k.MY.to (.refl _) (fun b φ e1 e2 _=>⟨by rw[bo (fun z=>by subst z;rw[h2] at e1;cases e1)];exact e1,e2⟩) (xf fun _ z=>nomatch z)⟩
 ·have ne:b≠p:=fun z=>by subst z;rw[h3] at q;cases q
  rw[bo ne];exact k.sub b u q
 ·have ne:b≠p:=fun z=>by subst z;rw[h4] at q;cases q
  rw[bo ne];exact k.sh b u q
 ·by_cases h:i=j
  ·subst h
   rw[List.getElem?_set_self Mj] at q;cases q
  ·rw[List.getElem?_set_ne h] at q
   exact k.vals j e q
 ·by_cases h:i=j
  ·subst h
   rw[List.getElem?_set_self Mj] at q;cases q
   exact⟨p,ws,h1,cH,h3,h4,r⟩
  ·rw[List.getElem?_set_ne h] at q
   obtain⟨b,R5,g1,g2,g3,g4,g5⟩:=k.Mu j ys q
   have ne:b≠p:=fun z=>by subst z;exact h (k.dist i j xs ys b hi q h1 g1)
   exact⟨b,R5,g1,by rw[bo ne];exact g2,g3,g4,g5⟩
 ·have own:∀(m:Nat) ys,(ρ.set i (.own ds))[m]?=some (.own ys)->∃zs,ρ[m]?=some (.own zs):=fun m ys q=>by
   by_cases h:i=m
   ·subst h;exact⟨xs,hi⟩
   ·rw[List.getElem?_set_ne h] at q;exact⟨ys,q⟩
  obtain⟨y1,z1⟩:=own j ys q1
  obtain⟨y2,z2⟩:=own l zs q2
  exact k.dist j l _ _ b z1 z2 q3 q4
def Ok.Oj{i:Nat}(k:Ok K B F H σ ρ)(hi:ρ[i]?=some (.own xs)):∃F',Lv F F'/\Ok K B F' H σ (ρ.set i (.val (.lst xs))):=by
 obtain⟨a,us,h1,h2,h3,h4,h5⟩:=k.Mu i xs hi
 have Mj:i<ρ.length:=(List.getElem?_eq_some_iff.mp hi).1
 have sf:Lv F (gq F a (.lst us)):=bv h3
 have NQ:∀(j:Nat) ys,(ρ.set i (.val (.lst xs)))[j]?=some (.own ys)->i≠j/\ρ[j]?=some (.own ys):=fun j ys q=>by
  by_cases h:i=j
  ·subst h;rw[List.getElem?_set_self Mj] at q;cases q
  ·rw[List.getElem?_set_ne h] at q;exact⟨h,q⟩
 refine⟨gq F a (.lst us),sf,⟨fun b u q=>?_,k.sh,k.sf.trans sf,fun b q=>?_⟩,by rw[ck,k.len],fun j e q=>?_,fun j ys q=>?_,fun j l ys zs b q1 q2 q3 q4=>?_,k.MY.to sf (fun b φ e1 e2 _=>⟨e1,by rw[bo (fun z=>by subst z;rw[h2] at e1;cases e1)];exact e2⟩) (xf fun _ z=>nomatch z)⟩
 ·by_cases h:b=a
  ·subst h;rw[cH] at q;cases q;exact h2
  ·rw[bo h] at q;exact k.sub b u q
 ·by_cases h:b=a
  ·subst h;exact .inr h4
  ·rw[bo h] at q;exact k.nw b q
 ·by_cases h:i=j
  ·subst h
   rw[List.getElem?_set_self Mj] at q;cases q
   exact⟨_,h1,.lst cH (h5.mono sf)⟩
  ·rw[List.getElem?_set_ne h] at q
   obtain⟨v,g1,g2⟩:=k.vals j e q
   exact⟨v,g1,g2.mono sf⟩
 ·obtain⟨h,q⟩:=NQ j ys q
  obtain⟨b,R5,g1,g2,g3,g4,g5⟩:=k.Mu j ys q
  have ne:b≠a:=fun z=>by subst z;exact h (k.dist i j xs ys b hi q h1 g1)
  exact⟨b,R5,g1,g2,by rw[bo ne];exact g3,g4,g5.mono sf⟩
 ·exact k.dist j l _ _ b (NQ j ys q1).2 (NQ l zs q2).2 q3 q4
end
set_option autoImplicit true
structure wE(X:Cx)(e:Expr)(σ:St)(H:Hp)(Q:VK):Prop where
 go:∀(pins:fQ) (s:Shared),Inv X pins σ H s->eG X (eval e X.env) (EP X pins σ Q) X.xe s
instance Vv {X:Cx} {e:Expr} {σ:St} {H:Hp} {Q:VK}:CoeFun (wE X e σ H Q) (fun _=>∀(pins:fQ) (s:Shared),Inv X pins σ H s->eG X (eval e X.env) (EP X pins σ Q) X.xe s):=⟨wE.go⟩
structure wT(X:Cx)(e:Expr)(σ:St)(H:Hp)(Q:(Bool->Hp->Prop)):Prop where
 go:∀(pins:fQ) (s:Shared),Inv X pins σ H s->eG X (isTrue e X.env (eval e X.env)) (TP X pins σ Q) X.xe s
instance Vq {X:Cx} {e:Expr} {σ:St} {H:Hp} {Q:Bool->Hp->Prop}:CoeFun (wT X e σ H Q) (fun _=>∀(pins:fQ) (s:Shared),Inv X pins σ H s->eG X (isTrue e X.env (eval e X.env)) (TP X pins σ Q) X.xe s):=⟨wT.go⟩
structure wW(X:Cx)(e:Expr)(σ:St)(H:Hp)(Q:(Bool->Hp->Prop)):Prop where
 go:∀(whole:Sem Value) (pins:fQ) (s:Shared),Inv X pins σ H s->eG X (isTrue e X.env whole) (TP X pins σ Q) X.xe s
instance Vp {X:Cx} {e:Expr} {σ:St} {H:Hp} {Q:Bool->Hp->Prop}:CoeFun (wW X e σ H Q) (fun _=>∀(whole:Sem Value) (pins:fQ) (s:Shared),Inv X pins σ H s->eG X (isTrue e X.env whole) (TP X pins σ Q) X.xe s):=⟨wW.go⟩
structure wA(X:Cx)(es:ur)(σ:St)(H:Hp)(Q:(fK->Hp->Prop)):Prop where
 go:∀(pos:Pos) (pins:fQ) (s:Shared),Inv X pins σ H s->eG X (spliced (backTo pos (starEach es X.env))) (AP X pins σ Q) X.xe s
instance Vw {X:Cx} {es:ur} {σ:St} {H:Hp} {Q:fK->Hp->Prop}:CoeFun (wA X es σ H Q) (fun _=>∀(pos:Pos) (pins:fQ) (s:Shared),Inv X pins σ H s->eG X (spliced (backTo pos (starEach es X.env))) (AP X pins σ Q) X.xe s):=⟨wA.go⟩
structure wS(X:Cx)(st:Stmt)(D:lH)(σ:St)(H:Hp):Prop where
 go:∀(pins:fQ) (s:Shared),Inv X pins σ H s->eG X (exec st X.env) (SP X pins D) X.xe s
instance Vr {X:Cx} {st:Stmt} {D:lH} {σ:St} {H:Hp}:CoeFun (wS X st D σ H) (fun _=>∀(pins:fQ) (s:Shared),Inv X pins σ H s->eG X (exec st X.env) (SP X pins D) X.xe s):=⟨wS.go⟩
structure wSs(X:Cx)(st:List Stmt)(D:lH)(σ:St)(H:Hp):Prop where
 go:∀(pins:fQ) (s:Shared),Inv X pins σ H s->eG X (execs st X.env) (SP X pins D) X.xe s
instance TF {X:Cx} {st:List Stmt} {D:lH} {σ:St} {H:Hp}:CoeFun (wSs X st D σ H) (fun _=>∀(pins:fQ) (s:Shared),Inv X pins σ H s->eG X (execs st X.env) (SP X pins D) X.xe s):=⟨wSs.go⟩
structure wO(X:Cx)(e:Option Expr)(σ:St)(H:Hp)(Q:(Option Int->Hp->Prop)):Prop where
 go:∀(pins:fQ) (s:Shared),Inv X pins σ H s->eG X (evalPart e X.env) (fun u s'=>∃o H',Inv X pins σ H' s'/\IsPart u o/\Q o H') X.xe s
instance Vs {X:Cx} {e:Option Expr} {σ:St} {H:Hp} {Q:Option Int->Hp->Prop}:CoeFun (wO X e σ H Q) (fun _=>∀(pins:fQ) (s:Shared),Inv X pins σ H s->eG X (evalPart e X.env) (fun u s'=>∃o H',Inv X pins σ H' s'/\IsPart u o/\Q o H') X.xe s):=⟨wO.go⟩
structure wG(X:Cx)(e:Expr)(v:V)(σ:St)(H:Hp)(Q:(St->Hp->Prop)):Prop where
 go:∀(pins:fQ) (s:Shared) (u:Value),Inv X pins σ H s->RelV v u->eG X (assign e X.env u) (fun _ s'=>∃σ' H',Inv X pins σ' H' s'/\Q σ' H') X.xe s
instance Vu {X:Cx} {e:Expr} {v:V} {σ:St} {H:Hp} {Q:St->Hp->Prop}:CoeFun (wG X e v σ H Q) (fun _=>∀(pins:fQ) (s:Shared) (u:Value),Inv X pins σ H s->RelV v u->eG X (assign e X.env u) (fun _ s'=>∃σ' H',Inv X pins σ' H' s'/\Q σ' H') X.xe s):=⟨wG.go⟩
section
variable {st:Stmt}{oe:Option Expr}
def bW:PE X e (wE X e):=fun pins s _ _ _ I h=>h pins s I
def rA:PT X e (wT X e):=fun pins s _ _ _ I h=>h pins s I
def Ef:PW X e (wW X e):=fun wh pins s _ _ _ I h=>h wh pins s I
def Bc:PA X es (wA X es):=fun pos pins s _ _ _ I h=>h pos pins s I
def F9:PS X st (wS X st):=fun pins s _ _ _ I h=>h pins s I
def lQ:NG X Nx (wSs X Nx):=fun pins s _ _ _ I h=>h pins s I
def A9:PO X oe (wO X oe):=fun pins s _ _ _ I h=>h pins s I
def Gh:PG X e (wG X e):=fun pins s _ _ _ u _ I r h=>h pins s u I r
end
abbrev eU:=List Sl
def Lq(X:Cx)(ρ:eU)(e:Expr)(d:D):Prop:=∀(B:B0) (F H:Hp) (σ:St) (Q:VK),Ok X.K B F H σ ρ ->
 (∀v F' H',Ext ⟨F,H⟩ F' H'->Rep X.K F' v d->Q v H')->wE X e σ H Q
def LQ(X:Cx)(ρ:eU)(e:Expr)(xs:cQ):Prop:=∀(B:B0) (F H:Hp) (σ:St) (Q:VK),Ok X.K B F H σ ρ ->
 (∀p vs F' H',Ext ⟨F,H⟩ F' H'->H p=none->H' p=some (.lst vs)->F' p=none->Ls X.K F' vs xs->Q (.ref p) H')->wE X e σ H Q
def Oq(K:dq)(k:Bool)(H:Hp)(a:Addr)(vs:fK):Prop:=if k=true then Mh K H a vs else L0 K H a vs
def MD(X:Cx)(ρ:eU)(e:Expr)(k:Bool)(xs:cQ):Prop:=∀(B:B0) (F H:Hp) (σ:St) (Q:VK),Ok X.K B F H σ ρ ->
 (∀a vs F' H',Ext ⟨F,H⟩ F' H'->Oq X.K k H' a vs->Ls X.K F' vs xs->Q (.ref a) H')->wE X e σ H Q
def Lu(X:Cx)(ρ:eU)(e:Expr)(b:Bool):Prop:=∀(B:B0) (F H:Hp) (σ:St) (Q:Bool->Hp->Prop),Ok X.K B F H σ ρ ->
 (∀F' H',Ext ⟨F,H⟩ F' H'->Q b H')->wT X e σ H Q
def Ms(X:Cx)(ρ:eU)(e:Expr)(b:Bool):Prop:=∀(B:B0) (F H:Hp) (σ:St) (Q:Bool->Hp->Prop),Ok X.K B F H σ ρ ->
 (∀F' H',Ext ⟨F,H⟩ F' H'->Q b H')->wW X e σ H Q
def Pl(e:Expr):Prop:=∀(es:ur) (env:Env),starEach (e::es) env=(false,eval e env)::starEach es env
def OX:ur->Prop
 |[]=>True
 |e::es=>Pl e/\OX es
def OX.any{env:Env}:∀{es:ur},OX es->(backTo pos (starEach es env)).any (·.1)=false
 |[],_=>rfl
 |e::es,h=>by
  rw[h.1 es env]
  show(false||(backTo pos (starEach es env)).any (·.1))=false
  rw[OX.any h.2];rfl
def E9(X:Cx)(ρ:eU)(es:ur)(ds:cQ):Prop:=OX es/\∀(B:B0) (F H:Hp) (σ:St) (Q:fK->Hp->Prop),Ok X.K B F H σ ρ ->
 (∀vs F' H',Ext ⟨F,H⟩ F' H'->Ls X.K F' vs ds->Q vs H')->wA X es σ H Q
def DX(X:Cx)(ρ:eU)(e:Option Expr)(o:Option Int):Prop:=∀(B:B0) (F H:Hp) (σ:St) (Q:Option Int->Hp->Prop),Ok X.K B F H σ ρ ->
 (∀F' H',Ext ⟨F,H⟩ F' H'->Q o H')->wO X e σ H Q
inductive Out where
 |nx (ρ:eU) | rt (d:D)
def MH(K:dq)(B:B0)(F₀:Hp)(E:lH):Out->Prop
 |.nx ρ=>∀F H σ,Ok K B F H σ ρ->Lv F₀ F->E.nx σ H
 |.rt d=>∀v F H,Ext B F H->Rep K F v d->E.rt v H
def MH.later{K:dq}(h:MH K B F₀ E o)(s:Lv F₀ F₁):MH K B F₁ E o:=by
 cases o with
 |nx ρ=>exact fun F H σ k s'=>h F H σ k (s.trans s')
 |rt d=>exact h
def Mt(X:Cx)(ρ:eU)(st:Stmt)(o:Out):Prop:=∀(B:B0) (F H:Hp) (σ:St) (E:lH),Ok X.K B F H σ ρ->MH X.K B F E o->wS X st E σ H
def Lr(X:Cx)(ρ:eU)(Nx:List Stmt)(o:Out):Prop:=∀(B:B0) (F H:Hp) (σ:St) (E:lH),Ok X.K B F H σ ρ->MH X.K B F E o->wSs X Nx E σ H
def Nf(X:Cx)(ρ:eU)(tg:Expr)(d:D)(ρ':eU):Prop:=∀(B:B0) (F H:Hp) (σ:St) (v:V) (Q:St->Hp->Prop),Ok X.K B F H σ ρ->Rep X.K F v d ->
 (∀F' H' σ',Ok X.K B F' H' σ' ρ'->Lv F F'->Q σ' H')->wG X tg v σ H Q
def ME(X:Cx)(ρ:eU)(tg:Expr)(d:D)(ρ':eU):Prop:=∀(B:B0) (F H:Hp) (σ:St) (v:V) (Q:St->Hp->Prop),Ok X.K B F H σ ρ->Rep X.K F v d ->
 (∀σ',Ok X.K B F H σ' ρ'->(∀p,L5 σ ρ p->L5 σ' ρ' p)->Q σ' H)->wG X tg v σ H Q
def Ext.t{H:Hp}(x:Ext ⟨F,H⟩ F' H')(y:Ext ⟨F',H'⟩ F2 H2):Ext ⟨F,H⟩ F2 H2:=x.trans y
def Lq.of(h:PE X e t)(r:∀(B:B0) (F H:Hp) (σ:St) (Q:VK),Ok X.K B F H σ ρ->(∀v F' H',Ext ⟨F,H⟩ F' H'->Rep X.K F' v d->Q v H')->t σ H Q):Lq X ρ e d:=
 fun B F H σ Q k q=>.mk fun pins s I=>h pins s σ H Q I (r B F H σ Q k q)
def LQ.of(h:PE X e t)(r:∀(B:B0) (F H:Hp) (σ:St) (Q:VK),Ok X.K B F H σ ρ ->
  (∀p vs F' H',Ext ⟨F,H⟩ F' H'->H p=none->H' p=some (.lst vs)->F' p=none->Ls X.K F' vs xs->Q (.ref p) H')->t σ H Q):LQ X ρ e xs:=
 fun B F H σ Q k q=>.mk fun pins s I=>h pins s σ H Q I (r B F H σ Q k q)
def MD.of(h:PE X e t)(r:∀(B:B0) (F H:Hp) (σ:St) (Q:VK),Ok X.K B F H σ ρ ->
  (∀a vs F' H',Ext ⟨F,H⟩ F' H'->Oq X.K k H' a vs->Ls X.K F' vs xs->Q (.ref a) H')->t σ H Q):MD X ρ e k xs:=
 fun B F H σ Q k q=>.mk fun pins s I=>h pins s σ H Q I (r B F H σ Q k q)
def Lu.of{t:TT}(h:PT X e t)(r:∀(B:B0) (F H:Hp) (σ:St) (Q:Bool->Hp->Prop),Ok X.K B F H σ ρ->(∀F' H',Ext ⟨F,H⟩ F' H'->Q b H')->t σ H Q):Lu X ρ e b:=
 fun B F H σ Q k q=>.mk fun pins s I=>h pins s σ H Q I (r B F H σ Q k q)
def Ms.of{t:TT}(h:PW X e t)(r:∀(B:B0) (F H:Hp) (σ:St) (Q:Bool->Hp->Prop),Ok X.K B F H σ ρ->(∀F' H',Ext ⟨F,H⟩ F' H'->Q b H')->t σ H Q):Ms X ρ e b:=
 fun B F H σ Q k q=>.mk fun wh pins s I=>h wh pins s σ H Q I (r B F H σ Q k q)
def Mt.of{st:Stmt}(h:PS X st t)(r:∀(B:B0) (F H:Hp) (σ:St) (E:lH),Ok X.K B F H σ ρ->MH X.K B F E o->t E σ H):Mt X ρ st o:=
 fun B F H σ E k q=>.mk fun pins s I=>h pins s σ H E I (r B F H σ E k q)
def Lr.of(h:NG X Nx t)(r:∀(B:B0) (F H:Hp) (σ:St) (E:lH),Ok X.K B F H σ ρ->MH X.K B F E o->t E σ H):Lr X ρ Nx o:=
 fun B F H σ E k q=>.mk fun pins s I=>h pins s σ H E I (r B F H σ E k q)
def Nf.of(h:PG X e t)(r:∀(B:B0) (F H:Hp) (σ:St) (v:V) (Q:St->Hp->Prop),Ok X.K B F H σ ρ->Rep X.K F v d->(∀F' H' σ',Ok X.K B F' H' σ' ρ'->Lv F F'->Q σ' H')->t v σ H Q):Nf X ρ e d ρ':=
 fun B F H σ v Q k rv q=>.mk fun pins s u I ru=>h pins s σ H v u Q I ru (r B F H σ v Q k rv q)
def ME.of(h:PG X e t)(r:∀(B:B0) (F H:Hp) (σ:St) (v:V) (Q:St->Hp->Prop),Ok X.K B F H σ ρ->Rep X.K F v d->(∀σ',Ok X.K B F H σ' ρ'->(∀p,L5 σ ρ p->L5 σ' ρ' p)->Q σ' H)->t v σ H Q):ME X ρ e d ρ':=
 fun B F H σ v Q k rv q=>.mk fun pins s u I ru=>h pins s σ H v u Q I ru (r B F H σ v Q k rv q)
def L5.LZ(h:L5 σ ρ p)(i:Nat)(v:Option V)(d:D):L5 (σ.set i v) (ρ.set i (.val d)) p:=fun j xs e q=>by
 by_cases hj:i=j
 ·subst hj
  rw[List.getElem?_set_self'] at e
  cases z:ρ[i]? with
  |none=>rw[z] at e;cases e
  |some w=>rw[z] at e;cases e
 ·rw[List.getElem?_set_ne hj] at e q
  exact h j xs e q
def Ext.freeze{H:Hp}{p:Addr}(x:Ext ⟨F,H⟩ F' H')(h0:H p=none)(hp:H' p=some (.lst vs))(hf:F' p=none):Ext ⟨F,H⟩ (gq F' p (.lst vs)) H':=
 ⟨fun b u q=>by
  by_cases h:b=p
  ·subst h;rw[cH] at q;cases q;exact hp
  ·rw[bo h] at q;exact x.sub b u q,x.sh,x.sf.trans (bv hf),fun a q=>by
  by_cases h:a=p
  ·subst h;exact .inr h0
  ·rw[bo h] at q;exact x.nw a q⟩
def LQ.Mi(h:LQ X ρ e xs):Lq X ρ e (.lst xs):=fun B F H σ Q k q=>
 h B F H σ Q k fun p vs F' H' x h0 hp hf r=>q _ _ _ (x.freeze h0 hp hf) (.lst cH (r.mono (bv hf)))
def Oq.mono{K:dq}(s:Lv H H')(h:Oq K k H a vs):Oq K k H' a vs:=by
 cases k with
 |true=>exact s.seq h
 |false=>
  have h':L0 K H a vs:=h
  show L0 K H' a vs
  rcases h' with(h | ⟨o,h⟩) | h
  ·exact .inl (.inl (s _ _ h))
  ·exact .inl (.inr ⟨o,s _ _ h⟩)
  ·exact .inr h
def Lq.ql(h:Lq X ρ e (.lst xs)):MD X ρ e true xs:=fun B F H σ Q k q=>
 h B F H σ Q k fun v F' H' x r=>by
  cases r with
  |lst hf rl=>exact q _ _ _ _ x (show Mh _ _ _ _ from Mh.of (x.sub _ _ hf)) rl
def Lq.qt(h:Lq X ρ e (.tup xs)):MD X ρ e false xs:=fun B F H σ Q k q=>
 h B F H σ Q k fun v F' H' x r=>by
  cases r with
  |tup hf rl=>exact q _ _ _ _ x (show L0 _ _ _ _ from L0.of (x.sub _ _ hf)) rl
def Lq.qs(h:Lq X ρ e (.MG ns)):MD X ρ e true (ns.map D.int):=fun B F H σ Q k q=>
 h B F H σ Q k fun v F' H' x r=>by
  cases r with
  |MG hs=>exact q _ _ _ _ x (show Mh _ _ _ _ from x.sub.seq hs) (Ls.ints ns)
def LQ.toQ(h:LQ X ρ e xs):MD X ρ e true xs:=h.Mi.ql
structure At(X:Cx)(N:fw)(sc:Scope):Prop where
 eN:X.N=N
 eS:X.env.scope=sc
 calm:X.calm=true
 nd:X.N.Nodup
 MZ:X.xe=fun _ _=>False
 un:X.A.units+64<cLine
 dp:X.A.depth+100<recursionLimit
 tree:X.prog.given.tree=none
 fr:∃env l,X.stack=env::l/\env.scope.isGenerator=false/\env.scope.isCoroutine=false/\env.builtins=builtinsNs/\env.globals=mainGlobals
structure NH(X:Cx)(N:fw)(sc:Scope):Prop where
 eN:X.N=N
 eS:X.env.scope=sc
 nd:X.N.Nodup
 MZ:X.xe=fun _ _=>False
 un:X.A.units+64<cLine
 dp:X.A.depth+100<recursionLimit
 tree:X.prog.given.tree=none
 fr:∃env l,X.stack=env::l/\env.scope.isGenerator=false/\env.scope.isCoroutine=false/\env.builtins=builtinsNs/\env.globals=mainGlobals
def At.z(t:At X N sc):NH X N sc:=⟨t.eN,t.eS,t.nd,t.MZ,t.un,t.dp,t.tree,t.fr⟩
def NH.at(t:NH X N sc)(h:X.calm=true):At X N sc:=⟨t.eN,t.eS,h,t.nd,t.MZ,t.un,t.dp,t.tree,t.fr⟩
def IR(A:Around)(H:Hp):Prop:=∃(ea:Addr) (oe:Obj) (u:HO) (vs:Array Value),A.handled=some (.ref ea)/\H ea=some (.Mq oe u)/\oe.data=.fields vs/\vs[2]?=some .none
class Ou (X:Cx):Prop where
 fn:∀x,X.fn x=true
def At.pass(a:At X N sc):PassesOwn (model X.prog X.w) X.A X.env X.xe:=by rw[a.MZ];exact PassesOwn.never
def nJ(sc:Scope)(x:Str):Bool:=match sc.names.lookup x with
 |some .local=>true
 |some .cell=>true
 |some .free=>true
 |_=>false
def qT(sc:Scope)(x:Str):Bool:=match sc.names.lookup x with
 |some .local=>true
 |some .cell=>true
 |_=>false
def B1{x:Str}(h:nJ sc x=true):IJ sc x:=by
 unfold nJ at h
 cases e:sc.names.lookup x with
 |none=>rw[e] at h;cases h
 |some k=>
  rw[e] at h
  cases k<;>first | exact .inl e | exact .inr (.inl e) | exact .inr (.inr e) | cases h
def CM{x:Str}(h:qT sc x=true):Hm sc x:=by
 unfold qT at h
 cases e:sc.names.lookup x with
 |none=>rw[e] at h;cases h
 |some k=>
  rw[e] at h
  cases k<;>first | exact .inl e | exact .inr e | cases h
def iX(x:Str):Bool:=!(x==("__debug__" : Str)) && !(x==("__classdict__" : Str))
def FZ{i:Nat}(t:At X N sc)(hN:N[i]?=some x)(hv:nJ sc x=true)(hx:iX x=true):PE X (.Name x pos) (HM i):=by
 unfold iX at hx
 rw[cn,kG,kG] at hx
 exact Cz (by rw[t.eN];exact hN) (by rw[t.eS];exact B1 hv) hx.1 hx.2
def ac{ρ:eU}(t:At X N sc)(i:Nat)(hr:ρ[i]?=some (.val d):=by rfl)(hN:N[i]?=some x:=by rfl)(hv:nJ sc x=true:=by rfl)(hx:iX x=true:=by rfl):Lq X ρ (.Name x pos) d:=
 .of (FZ t hN hv hx) fun B F H σ Q k q=>by
  obtain⟨v,h1,h2⟩:=k.vals i d hr
  exact⟨v,h1,q v F H (.refl k.sub) h2⟩
def ou{ρ:eU}(t:At X N sc)(i:Nat)(hr:ρ[i]?=some (.own xs))(hN:N[i]?=some x:=by rfl)(hv:nJ sc x=true:=by rfl)(hx:iX x=true:=by rfl):MD X ρ (.Name x pos) true xs:=
 .of (FZ t hN hv hx) fun B F H σ Q k q=>by
  obtain⟨p,vs,h1,h2,h3,h4,h5⟩:=k.Mu i xs hr
  exact⟨_,h1,q p vs F H (.refl k.sub) (show Mh _ _ _ _ from Mh.of h2) h5⟩
def ag:Lq X ρ (.Constant (.int i) j pos) (.int i):=.of Gs fun B F H σ Q k q=>q _ F H (.refl k.sub) (.int i)
def pJ:Lq X ρ (.Constant (.bool b) j pos) (.bl b):=.of Ie fun B F H σ Q k q=>q _ F H (.refl k.sub) (.bl b)
def jC:Lq X ρ (.Constant .none j pos) .LH:=.of Gp fun B F H σ Q k q=>q _ F H (.refl k.sub) .LH
def dk:Lq X ρ (.Constant (.str x) j pos) (.str x):=.of Gm fun B F H σ Q k q=>q _ F H (.refl k.sub) (.str x)
def two{X:Cx}{ρ:eU}{a:Expr}{b:Expr}{da db:D}(ha:Lq X ρ a da)(hb:Lq X ρ b db){B:B0}{F H:Hp}{σ:St}{R:V->V->Hp->Prop}(k:Ok X.K B F H σ ρ)(h:∀x y F' H',Ext ⟨F,H⟩ F' H'->Rep X.K F' x da->Rep X.K F' y db->R x y H'):wE X a σ H fun x H1=>wE X b σ H1 fun y H2=>R x y H2:=
 ha B F H σ _ k fun x F1 H1 x1 r1=>hb B F1 H1 σ _ (k.ext x1) fun y F2 H2 x2 r2=>h x y F2 H2 (x1.t x2) (r1.mono x2.sf) r2
def pK{i j m:Int}{C:Int->Int->Prop}{g:Int->Int->Int}(ho:mG X (binaryOp op) (rI C fun i j=>.int (g i j)))(ha:Lq X ρ a (.int i))(hb:Lq X ρ b (.int j))(hc:C i j)(hm:g i j=m):
  Lq X ρ (.BinOp a op b pos) (.int m):=
 .of (xq ho bW bW) fun B F H σ Q k q=>two ha hb k fun x y F' H' x' rx ry=>by
  cases rx;cases ry;subst hm
  exact⟨i,j,rfl,rfl,hc,q _ F' H' x' (.int _)⟩
def xN{i j m:Int}{g:Int->Int->Int}(ho:mG X (binaryOp op) (Ec fun i j=>.int (g i j)))(ha:Lq X ρ a (.int i))(hb:Lq X ρ b (.int j))(hm:g i j=m):
  Lq X ρ (.BinOp a op b pos) (.int m):=
 .of (xq ho bW bW) fun B F H σ Q k q=>two ha hb k fun x y F' H' x' rx ry=>by
  cases rx;cases ry;subst hm
  exact⟨i,j,rfl,rfl,q _ F' H' x' (.int _)⟩
def bO(ha:Lq X ρ a (.int i))(hb:Lq X ρ b (.int j)):Lq X ρ (.BinOp a .Add b pos) (.int (i+j)):=xN GA ha hb rfl
def dz(ha:Lq X ρ a (.int i))(hb:Lq X ρ b (.int j)):Lq X ρ (.BinOp a .Sub b pos) (.int (i-j)):=xN Gv ha hb rfl
def Ev:mG X (binaryOp .Mult) (rI IntMulOk fun i j=>.int (i*j)):=HD fun _ _ _ _ _ _ _ hc q=>mul_int q hc
def At.Pd(t:At X N sc)(I:Inv X pins σ H s):PylongRoom (model X.prog X.w) X.A s:=by
 obtain⟨env,l,h1,h2,h3,h4,h5⟩:=t.fr
 exact PylongRoom.of I.nolimit t.dp (SeerAt.of (I.ok.mod.seer.keeps I.bk) t.tree (by rw[I.ok.frames,h1]) h2 h3 h4 h5)
def Ag(t:At X N sc):mG X (binaryOp .FloorDiv) (rI (fun _ j=>j≠0) fun i j=>.int (i.fdiv j)):=by
 intro pins s σ H x y v u Q I rx ry h
 obtain⟨i,j,rfl,rfl,hc,q⟩:=h
 obtain⟨t1,rfl⟩:=rx
 obtain⟨t2,rfl⟩:=ry
 exact floordiv_int hc ⟨.int (i.fdiv j),H,I.tok _,⟨_,rfl⟩,q⟩ (.inr (t.Pd I))
def aS(ha:Lq X ρ a (.int i))(hb:Lq X ρ b (.int j))(hc:IntMulOk i j):Lq X ρ (.BinOp a .Mult b pos) (.int (i*j)):=pK Ev ha hb hc rfl
def tS(t:At X N sc)(ha:Lq X ρ a (.int i))(hb:Lq X ρ b (.int j))(h0:j≠0):Lq X ρ (.BinOp a .FloorDiv b pos) (.int (i.fdiv j)):=pK (Ag t) ha hb h0 rfl
def lA(t:At X N sc)(ha:Lq X ρ a (.int i))(hb:Lq X ρ b (.int j))(h0:0<j):Lq X ρ (.BinOp a .FloorDiv b pos) (.int (i / j)):=
 pK (Ag t) ha hb (by lia) (Int.fdiv_eq_ediv_of_nonneg i (by lia))
def aW(ha:Lq X ρ a (.int i))(hb:Lq X ρ b (.int j))(h0:0<j):Lq X ρ (.BinOp a .Mod b pos) (.int (i%j)):=pK Gy ha hb h0 rfl
def De(ha:Lq X ρ a (.int i))(hb:Lq X ρ b (.int j))(h0:IT i j):Lq X ρ (.BinOp a .Pow b pos) (.int (i ^ j.toNat)):=pK Gx ha hb h0 rfl
def ge(ha:Lq X ρ a (.int i)):Lq X ρ (.UnaryOp .USub a pos) (.int (-i)):=
 .of (Ib FP bW) fun B F H σ Q k q=>ha B F H σ _ k fun x F' H' x' rx=>by
  cases rx
  exact⟨i,rfl,q _ F' H' x' (.int _)⟩
def Ay{i j:Int}{op:CmpOp}{g:Int->Int->Bool}(ho:mG X (compareOp op) (Ec fun i j=>.bl (g i j)))(ha:Lq X ρ a (.int i))(hb:Lq X ρ b (.int j))(hm:behindInMarks op b=false):Lq X ρ (.Compare a [op] [b] pos) (.bl (g i j)):=
 .of (sw ho bW bW hm) fun B F H σ Q k q=>two ha hb k fun x y F' H' x' rx ry=>by
  cases rx;cases ry
  exact⟨i,j,rfl,rfl,q _ F' H' x' (.bl _)⟩
def Aw(ha:Lq X ρ a (.int i))(hb:Lq X ρ b (.int j)):Lq X ρ (.Compare a [.Lt] [b] pos) (.bl (decide (i<j))):=Ay Fy ha hb (eB _ (by decide) (by decide))
def Dh(ha:Lq X ρ a (.int i))(hb:Lq X ρ b (.int j)):Lq X ρ (.Compare a [.Gt] [b] pos) (.bl (decide (j<i))):=Ay Fz ha hb (eB _ (by decide) (by decide))
mutual
def iE:D->PyData
 |.LH=>.none
 |.bl b=>.bool b
 |.int i=>.int i
 |.str x=>.str x
 |.tup xs=>.tuple (LD xs)
 |.lst xs=>.list (LD xs)
 |.MG ns=>.list (ns.map PyData.int)
 |.exc _=>.dict []
 |.Nb _ _=>.dict []
 |.MY _=>.dict []
 |.adr _=>.dict []
 |.OH _=>.dict []
def LD:cQ->List PyData
 |[]=>[]
 |d::ds=>iE d::LD ds
end
def B8(xs:cQ):LD xs=xs.map iE:=by
 induction xs with
 |nil=>rfl
 |cons d ds ih=>rw[LD,ih,dQ]
def jo(ns:aI):LD (ns.map D.int)=ns.map PyData.int:=by
 rw[B8,iP];rfl
def va{s:Shared}:∀{ns:aI} {us:hW},Vals (ns.map V.int) us->∃as,ReadsAll s.heap us (ns.map PyData.int) as
 |[],_,r=>by cases r;exact⟨_,.nil⟩
 |n::ns,_,r=>by
  rw[dQ] at r
  cases r with
  |cons r1 r2=>
   obtain⟨as,h⟩:=va r2
   obtain⟨t,rfl⟩:=r1
   exact⟨_,.cons (Reads.int n t) h⟩
mutual
def Rep.reads(I:Inv X pins σ H s)(sub:Lv F H):∀{v:V} {d:D} {u:Value},Rep X.K F v d->RelV v u->(iE d).canLay0=true->∃as,Reads s.heap u (iE d) as
 |_,_,u,.LH,r,hs=>by cases(show u=Value.none from r);exact⟨_,Reads.none⟩
 |_,_,u,.bl b,r,hs=>by cases(show u=Value.bool b from r);exact⟨_,Reads.bool b⟩
 |_,_,u,.int i,r,hs=>by obtain⟨t,e⟩:=(show ∃t,u=Value.int i t from r);cases e;exact⟨_,Reads.int i t⟩
 |_,_,u,.str x,r,hs=>by obtain⟨t,e⟩:=(show ∃t,u=Value.str x t from r);cases e;exact⟨_,Reads.str x t⟩
 |_,_,u,.tup (a:=a) h rl,r,hs=>by
  cases(show u=Value.ref a from r)
  obtain⟨its,rv,p,_⟩:=I.tuple (L0.of (sub _ _ h))
  obtain⟨o,e,c,n,dt⟩:=p
  obtain⟨as,ra⟩:=Ls.reads I sub rl rv (by simpa [iE,PyData.canLay0] using hs)
  exact⟨_,Reads.tuple e c dt (by simpa using ra)⟩
 |_,_,u,.lst (a:=a) h rl,r,hs=>by
  cases(show u=Value.ref a from r)
  obtain⟨its,rv,p,_⟩:=I.list (Mh.of (sub _ _ h))
  obtain⟨o,e,c,n,dt⟩:=p.isList
  obtain⟨as,ra⟩:=Ls.reads I sub rl rv (by simpa [iE,PyData.canLay0] using hs)
  exact⟨_,Reads.list e c dt (by simpa using ra)⟩
 |_,_,u,.exc h,r,hs=>by simp[iE,PyData.canLay0] at hs
 |_,_,u,.Nb h,r,hs=>by simp[iE,PyData.canLay0] at hs
 |_,_,u,.MY h _,r,hs=>by simp[iE,PyData.canLay0] at hs
 |_,_,u,.adr _,r,hs=>by simp[iE,PyData.canLay0] at hs
 |_,_,u,.OH _,r,hs=>by simp[iE,PyData.canLay0] at hs
 |_,_,u,.MG (a:=a) h,r,hs=>by
  cases(show u=Value.ref a from r)
  obtain⟨its,rv,p,_⟩:=I.list (sub.seq h)
  obtain⟨o,e,c,n,dt⟩:=p.isList
  obtain⟨as,ra⟩:=va (s:=s) rv
  exact⟨_,Reads.list e c dt (by simpa using ra)⟩
def Ls.reads(I:Inv X pins σ H s)(sub:Lv F H):∀{vs:fK} {ds:cQ} {us:hW},Ls X.K F vs ds->Vals vs us->PyData.canLayAll0 (LD ds)=true->∃as,ReadsAll s.heap us (LD ds) as
 |_,_,_,.nil,r,hs=>by cases r;exact⟨_,.nil⟩
 |_,_,_,.cons r1 r2,r,hs=>by
  cases r with
  |cons q1 q2=>
   rw[LD,PyData.canLayAll0,cn] at hs
   have OK:=hs
   obtain⟨as,h1⟩:=Rep.reads I sub r1 q1 OK.1
   obtain⟨bs,h2⟩:=Ls.reads I sub r2 q2 OK.2
   exact⟨_,.cons h1 h2⟩
end
def Oq.reads(I:Inv X pins σ H s)(sub:Lv F H)(h:Oq X.K k H a vs)(r:Ls X.K F vs xs)(hs:(if k=true then PyData.list (LD xs) else .tuple (LD xs)).canLay0=true):∃as,Reads s.heap (.ref a) (if k=true then PyData.list (LD xs) else .tuple (LD xs)) as:=by
 cases k with
 |true=>
  obtain⟨its,rv,p,_⟩:=I.list (show Mh _ _ _ _ from h)
  obtain⟨o,e,c,n,dt⟩:=p.isList
  obtain⟨as,ra⟩:=Ls.reads I sub r rv (by simpa [PyData.canLay0] using hs)
  exact⟨_,Reads.list e c dt (by simpa using ra)⟩
 |false=>
  obtain⟨its,rv,p,_⟩:=I.tuple (show L0 _ _ _ _ from h)
  obtain⟨o,e,c,n,dt⟩:=p
  obtain⟨as,ra⟩:=Ls.reads I sub r rv (by simpa [PyData.canLay0] using hs)
  exact⟨_,Reads.tuple e c dt (by simpa using ra)⟩
def NN(X:Cx)(H:Hp)(v:V)(p:PyData):Prop:=p.canLay0=true->∀(H':Hp),Lv H H'->∀(pins:fQ) (σ:St) (s:Shared) (u:Value),Inv X pins σ H' s->RelV v u->∃as,Reads s.heap u p as
def DW(X:Cx)(ρ:eU)(e:Expr)(p:PyData):Prop:=∀(B:B0) (F H:Hp) (σ:St) (Q:VK),Ok X.K B F H σ ρ->(∀v F' H',Ext ⟨F,H⟩ F' H'->NN X H' v p->Q v H')->wE X e σ H Q
def Lq.p(h:Lq X ρ e d):DW X ρ e (iE d):=fun B F H σ Q k q=>h B F H σ Q k fun v F' H' x r=>q v F' H' x fun hs H2 s2 pins σ s u I ru=>r.reads I (x.sub.trans s2) ru hs
def MD.p(h:MD X ρ e k xs):DW X ρ e (if k=true then PyData.list (LD xs) else .tuple (LD xs)):=fun B F H σ Q k' q=>h B F H σ Q k' fun a vs F' H' x hs r=>q _ F' H' x fun hc H2 s2 pins σ s u I ru=>by
 cases(show u=Value.ref a from ru)
 exact Oq.reads I (x.sub.trans s2) (hs.mono s2) r hc
def Fq{p q:PyData}(t:At X N sc)(sp:SeqAt.shaped p=true)(sq:SeqAt.shaped q=true):mG X (compareOp .Eq) (fun x y H Q=>NN X H x p/\NN X H y q/\Q (.bl (p.eqv q)) H):=by
 intro pins s σ H x y v u Q I rx ry h
 obtain⟨h1,h2,h3⟩:=h
 obtain⟨as,r1⟩:=h1 (lZ sp) H (.refl _) pins σ s v I rx
 obtain⟨bs,r2⟩:=h2 (lZ sq) H (.refl _) pins σ s u I ry
 exact eq_dataH r1 r2 sp sq t.un ⟨.bl _,H,I,rfl,h3⟩
def H8{p q:PyData}(t:At X N sc)(sp:SeqAt.shaped p=true)(sq:SeqAt.shaped q=true):mG X (compareOp .NotEq) (fun x y H Q=>NN X H x p/\NN X H y q/\Q (.bl (!p.eqv q)) H):=by
 intro pins s σ H x y v u Q I rx ry h
 obtain⟨h1,h2,h3⟩:=h
 obtain⟨as,r1⟩:=h1 (lZ sp) H (.refl _) pins σ s v I rx
 obtain⟨bs,r2⟩:=h2 (lZ sq) H (.refl _) pins σ s u I ry
 exact ne_dataH r1 r2 sp sq t.un ⟨.bl _,H,I,rfl,h3⟩
def NN.mono(h:NN X H v p)(s:Lv H H'):NN X H' v p:=fun hc H2 s2=>h hc H2 (s.trans s2)
def AU(ha:DW X ρ a p)(hb:DW X ρ b q){R:V->V->Hp->Prop}(k:Ok X.K B F H σ ρ)(h:∀x y F' H',Ext ⟨F,H⟩ F' H'->NN X H' x p->NN X H' y q->R x y H'):wE X a σ H fun x H1=>wE X b σ H1 fun y H2=>R x y H2:=
 ha B F H σ _ k fun x F1 H1 x1 r1=>hb B F1 H1 σ _ (k.ext x1) fun y F2 H2 x2 r2=>h x y F2 H2 (x1.t x2) (r1.mono x2.sh) r2
def wb{r:Bool}(t:At X N sc)(ha:DW X ρ a p)(hb:DW X ρ b q)(sp:SeqAt.shaped p=true)(sq:SeqAt.shaped q=true)(hr:p.eqv q=r):Lq X ρ (.Compare a [.Eq] [b] pos) (.bl r):=
 .of (sw (Fq t sp sq) bW bW (eB _ (by decide) (by decide))) fun B F H σ Q k q=>AU ha hb k fun x y F' H' x' rx ry=>⟨rx,ry,by rw[hr];exact q _ F' H' x' (.bl r)⟩
def Dj(t:At X N sc)(ha:Lq X ρ a (.int i))(hb:Lq X ρ b (.int j)):Lq X ρ (.Compare a [.Eq] [b] pos) (.bl (decide (i=j))):=
 .of (sw FA bW bW (eB _ (by decide) (by decide))) fun B F H σ Q k q=>two ha hb k fun x y F' H' x' rx ry=>by
  cases rx;cases ry
  refine⟨rfl,?_⟩
  have e:decide (V.int i=V.int j)=decide (i=j):=by rw[sC,KM]
  rw[e]
  exact q _ F' H' x' (.bl _)
def Ls.at{K:dq}{i:Int}(r:Ls K F vs xs)(h:pU xs i=some d):∃v,pU vs i=some v/\Rep K F v d:=by
 unfold pU at h ⊢
 rw[r.length]
 cases e:An xs.length i with
 |none=>rw[e] at h;cases h
 |some j=>
  rw[e] at h
  obtain⟨v,h1,h2⟩:=r.get h
  exact⟨v,h1,h2⟩
def qe(ha:MD X ρ a k xs)(hb:Lq X ρ b db){R:V->V->Hp->Prop}(k':Ok X.K B F H σ ρ)(h:∀l vs y F' H',Ext ⟨F,H⟩ F' H'->Oq X.K k H' l vs->Ls X.K F' vs xs->Rep X.K F' y db->R (.ref l) y H'):wE X a σ H fun x H1=>wE X b σ H1 fun y H2=>R x y H2:=
 ha B F H σ _ k' fun l vs F1 H1 x1 s1 r1=>hb B F1 H1 σ _ (k'.ext x1) fun y F2 H2 x2 r2=>h l vs y F2 H2 (x1.t x2) (s1.mono x2.sh) (r1.mono x2.sf) r2
def aJ(ha:MD X ρ a k xs)(hb:Lq X ρ b (.int i))(h:pU xs i=some d)(hs:AR b:=by intro _ _;rfl):Lq X ρ (.Subscript a b pos) d:=by
 cases k with
 |true=>
  exact .of (Fx EC bW bW hs) fun B F H σ Q k' q=>qe ha hb k' fun l vs y F' H' x' sl rl ry=>by
   cases ry
   obtain⟨v,h1,h2⟩:=rl.at h
   exact⟨l,vs,i,v,rfl,rfl,sl,h1,q v F' H' x' h2⟩
 |false=>
  exact .of (Fx GQ bW bW hs) fun B F H σ Q k' q=>qe ha hb k' fun l vs y F' H' x' sl rl ry=>by
   cases ry
   obtain⟨v,h1,h2⟩:=rl.at h
   exact⟨l,vs,i,v,rfl,rfl,sl,h1,q v F' H' x' h2⟩
def eO:DX X ρ none none:=fun B F H σ Q k q=>.mk fun pins s I=>El pins s σ H Q I (q F H (.refl k.sub))
def eI(h:Lq X ρ e (.int i)):DX X ρ (some e) (some i):=fun B F H σ Q k q=>.mk fun pins s I=>Ek bW pins s σ H Q I (h B F H σ _ k fun v F' H' x r=>by
 cases r
 exact⟨i,rfl,q F' H' x⟩)
def tZ(xs:cQ)(lo hi:Option Int):cQ:=(xs.drop (HT.LC xs.length 0 lo)).take (HT.LC xs.length xs.length hi-HT.LC xs.length 0 lo)
def Ls.cut{K:dq}(r:Ls K F vs xs)(lo hi:Option Int):Ls K F (xV vs lo hi) (tZ xs lo hi):=by
 unfold xV tZ
 rw[r.length]
 exact(r.drop _).take _
def fW{lo hi:Option Expr}{l h:Option Int}(ha:MD X ρ a true xs)(hl:DX X ρ lo l)(hh:DX X ρ hi h):LQ X ρ (.Subscript a (.Slice lo hi none p2) pos) (tZ xs l h):=
 .of (tE D5 bW A9 A9) fun B F H σ Q k q=>ha B F H σ _ k fun p vs F1 H1 x1 s1 r1=>hl B F1 H1 σ _ (k.ext x1) fun F2 H2 x2=>hh B F2 H2 σ _ (k.ext (x1.t x2)) fun F3 H3 x3=>by
  have x:=x1.t (x2.t x3)
  refine⟨p,vs,rfl,(s1.mono x2.sh).mono x3.sh,fun l' Pu=>?_⟩
  have r3:=(r1.mono x2.sf).mono x3.sf
  exact q l' _ F3 _ ⟨x.sub.trans (bv Pu),x.sh.trans (bv Pu),x.sf,x.nw⟩ (x.sh.free Pu) cH (x.sub.free Pu) (r3.cut l h)
def EN{lo hi:Option Expr}{l h:Option Int}(ha:MD X ρ a false xs)(hl:DX X ρ lo l)(hh:DX X ρ hi h)(hw:¬(HT.LC xs.length 0 l=0/\HT.LC xs.length xs.length h=xs.length)):
  Lq X ρ (.Subscript a (.Slice lo hi none p2) pos) (.tup (tZ xs l h)):=
 .of (tE FS bW A9 A9) fun B F H σ Q k q=>ha B F H σ _ k fun p vs F1 H1 x1 s1 r1=>hl B F1 H1 σ _ (k.ext x1) fun F2 H2 x2=>hh B F2 H2 σ _ (k.ext (x1.t x2)) fun F3 H3 x3=>by
  have x:=x1.t (x2.t x3)
  have r3:=(r1.mono x2.sf).mono x3.sf
  refine⟨p,vs,rfl,(s1.mono x2.sh).mono x3.sh,by rw[r3.length];exact hw,fun l' Pu=>?_⟩
  exact q _ _ _ (x.grow Pu) (.tup cH ((r3.cut l h).mono (bv (x.sub.free Pu))))
def ak:E9 X ρ [] []:=⟨trivial,fun B F H σ Q k q=>.mk fun pos pins s I=>ie pos pins s σ H Q I (q [] F H (.refl k.sub) .nil)⟩
def ae(h1:Lq X ρ e d)(h2:E9 X ρ es ds)(hs:Pl e:=by intro _ _;rfl):E9 X ρ (e::es) (d::ds):=
 ⟨⟨hs,h2.1⟩,fun B F H σ Q k q=>.mk fun pos pins s I=>eH bW Bc (hs _ _) pos pins s σ H Q I (h1 B F H σ _ k fun v F1 H1 x1 r1=>h2.2 B F1 H1 σ _ (k.ext x1) fun vs F2 H2 x2 r2=>q _ F2 H2 (x1.t x2) (.cons (r1.mono x2.sf) r2))⟩
def aV(h:E9 X ρ es ds)(hl:ds.length<=sizeLine:=by exact uW rfl):Lq X ρ (.Tuple es x1 pos) (.tup ds):=
 .of (Gk Bc) fun B F H σ Q k q=>h.2 B F H σ _ k fun vs F' H' x r=>⟨by rw[r.length];exact hl,fun p hp=>q _ _ _ (x.grow hp) (.tup cH (r.mono (bv (x.sub.free hp))))⟩
def dZ(h:E9 X ρ es ds)(hl:ds.length<=sizeLine:=by exact uW rfl):LQ X ρ (.List es pos) ds:=
 .of (Gq Bc) fun B F H σ Q k q=>h.2 B F H σ _ k fun vs F' H' x r=>⟨by rw[r.length];exact hl,fun p hp=>q p vs F' _ ⟨x.sub.trans (bv hp),x.sh.trans (bv hp),x.sf,x.nw⟩ (x.sh.free hp) cH (x.sub.free hp) r⟩
def wj(ha:Lq X ρ a (.lst xs))(hb:Lq X ρ b (.lst ys))(hz:xs.length+ys.length<=sizeLine):LQ X ρ (.BinOp a .Add b pos) (xs++ys):=
 .of (xq Gz bW bW) fun B F H σ Q k q=>two ha hb k fun x y F' H' x' rx ry=>by
  cases rx with
  |lst h1 r1=>
   cases ry with
   |lst h2 r2=>
    refine⟨_,_,_,_,rfl,rfl,x'.sub _ _ h1,x'.sub _ _ h2,by rw[r1.length,r2.length];exact hz,fun p hp=>?_⟩
    exact q p _ F' _ ⟨x'.sub.trans (bv hp),x'.sh.trans (bv hp),x'.sf,x'.nw⟩ (x'.sh.free hp) cH (x'.sub.free hp) (r1.append r2)
def zg(ha:Lq X ρ a (.lst xs))(hb:Lq X ρ b (.int n))(h1 : -(2 ^ 63)<=n)(h2:n<2 ^ 63)(hz:xs.length*n.toNat<=sizeLine):LQ X ρ (.BinOp a .Mult b pos) (List.replicate n.toNat xs).flatten:=
 .of (xq Gw bW bW) fun B F H σ Q k q=>two ha hb k fun x y F' H' x' rx ry=>by
  cases rx with
  |lst g1 r1=>
   cases ry
   refine⟨_,n,_,rfl,rfl,x'.sub _ _ g1,h1,h2,by rw[r1.length];exact hz,fun p hp=>?_⟩
   exact q p _ F' _ ⟨x'.sub.trans (bv hp),x'.sh.trans (bv hp),x'.sf,x'.nw⟩ (x'.sh.free hp) cH (x'.sub.free hp) (r1.rep _)
def ni(ha:Lu X ρ a r):Ms X ρ (.BoolOp .And [a] pos) r:=.of (Eg rA) fun B F H σ Q k q=>ha B F H σ Q k q
def qA(ha:Lu X ρ a r):Ms X ρ (.BoolOp .Or [a] pos) r:=.of (FY rA) fun B F H σ Q k q=>ha B F H σ Q k q
def j9{rest:ur}(ha:Lu X ρ a true)(hb:Ms X ρ (.BoolOp .And (b::rest) pos) r):Ms X ρ (.BoolOp .And (a::b::rest) pos) r:=
 .of (Cq rA Ef) fun B F H σ Q k q=>ha B F H σ _ k fun F1 H1 x1=>by rw[aB rfl];exact hb B F1 H1 σ _ (k.ext x1) fun F2 H2 x2=>q F2 H2 (x1.t x2)
def ng{rest:ur}(ha:Lu X ρ a false):Ms X ρ (.BoolOp .And (a::b::rest) pos) false:=
 .of (Cq rA Ef) fun B F H σ Q k q=>ha B F H σ _ k fun F1 H1 x1=>by rw[ay aF];exact q F1 H1 x1
def ot{rest:ur}(ha:Lu X ρ a false)(hb:Ms X ρ (.BoolOp .Or (b::rest) pos) r):Ms X ρ (.BoolOp .Or (a::b::rest) pos) r:=
 .of (Ft rA Ef) fun B F H σ Q k q=>ha B F H σ _ k fun F1 H1 x1=>by rw[ay aF];exact hb B F1 H1 σ _ (k.ext x1) fun F2 H2 x2=>q F2 H2 (x1.t x2)
def yX{rest:ur}(ha:Lu X ρ a true):Ms X ρ (.BoolOp .Or (a::b::rest) pos) true:=
 .of (Ft rA Ef) fun B F H σ Q k q=>ha B F H σ _ k fun F1 H1 x1=>by rw[aB rfl];exact q F1 H1 x1
def Ms.toT(h:Ms X ρ e r):Lu X ρ e r:=fun B F H σ Q k q=>.mk fun pins s I=>h B F H σ Q k q _ pins s I
def we(ha:Lu X ρ a r):Lu X ρ (.UnaryOp .Not a pos) (!r):=.of (F8 rA) fun B F H σ Q k q=>ha B F H σ _ k q
def zd{op:BoolOp}(h:Lq X ρ a d):Lq X ρ (.BoolOp op [a] pos) d:=.of (Gn bW) fun B F H σ Q k q=>h B F H σ Q k q
def Az{rest:ur}(ha:Lq X ρ a (.bl true))(hb:Lq X ρ (.BoolOp .And (b::rest) pos) d):Lq X ρ (.BoolOp .And (a::b::rest) pos) d:=
 .of (CA bW bW) fun B F H σ Q k q=>ha B F H σ _ k fun v F1 H1 x1 r=>by
  cases r
  exact⟨true,rfl,by rw[aB rfl];exact hb B F1 H1 σ _ (k.ext x1) fun v F2 H2 x2 r2=>q v F2 H2 (x1.t x2) r2⟩
def AA{rest:ur}(ha:Lq X ρ a (.bl false)):Lq X ρ (.BoolOp .And (a::b::rest) pos) (.bl false):=
 .of (CA bW bW) fun B F H σ Q k q=>ha B F H σ _ k fun v F1 H1 x1 r=>by
  cases r
  exact⟨false,rfl,by rw[ay aF];exact q _ F1 H1 x1 (.bl false)⟩
def G6{rest:ur}(ha:Lq X ρ a (.bl false))(hb:Lq X ρ (.BoolOp .Or (b::rest) pos) d):Lq X ρ (.BoolOp .Or (a::b::rest) pos) d:=
 .of (Fw bW bW) fun B F H σ Q k q=>ha B F H σ _ k fun v F1 H1 x1 r=>by
  cases r
  exact⟨false,rfl,by rw[ay aF];exact hb B F1 H1 σ _ (k.ext x1) fun v F2 H2 x2 r2=>q v F2 H2 (x1.t x2) r2⟩
def G5{rest:ur}(ha:Lq X ρ a (.bl true)):Lq X ρ (.BoolOp .Or (a::b::rest) pos) (.bl true):=
 .of (Fw bW bW) fun B F H σ Q k q=>ha B F H σ _ k fun v F1 H1 x1 r=>by
  cases r
  exact⟨true,rfl,by rw[aB rfl];exact q _ F1 H1 x1 (.bl true)⟩
def wa(hc:Lu X ρ c true)(ha:Lq X ρ a d):Lq X ρ (.IfExp c a b pos) d:=
 .of (xr rA bW bW) fun B F H σ Q k q=>hc B F H σ _ k fun F1 H1 x1=>by rw[aB rfl];exact ha B F1 H1 σ _ (k.ext x1) fun v F2 H2 x2 r2=>q v F2 H2 (x1.t x2) r2
def tR(hc:Lu X ρ c false)(hb:Lq X ρ b d):Lq X ρ (.IfExp c a b pos) d:=
 .of (xr rA bW bW) fun B F H σ Q k q=>hc B F H σ _ k fun F1 H1 x1=>by rw[ay aF];exact hb B F1 H1 σ _ (k.ext x1) fun v F2 H2 x2 r2=>q v F2 H2 (x1.t x2) r2
def G8(ha:Lq X ρ e (.int i))(he:∀whole,isTrue e X.env whole=(do let v <-whole;standAt e.pos;holding [v] (truthy v)):=by intro _;rfl):Lu X ρ e (i != 0):=
 .of (Cr bW he) fun B F H σ Q k q=>ha B F H σ _ k fun v F1 H1 x1 r=>by
  cases r
  exact⟨_,rfl,q F1 H1 x1⟩
def lT(ha:Lq X ρ e (.bl r))(he:∀whole,isTrue e X.env whole=(do let v <-whole;standAt e.pos;holding [v] (truthy v)):=by intro _;rfl):Lu X ρ e r:=
 .of (F0 bW he) fun B F H σ Q k q=>ha B F H σ _ k fun v F1 H1 x1 rv=>by
  cases rv
  exact⟨r,rfl,q F1 H1 x1⟩
section
def oy{op:CmpOp}{r:R2}(ho:mG X (compareOp op) r)(ha:Lq X ρ a da)(hb:Lq X ρ b db)(hm:behindInMarks op b=false)(hr:∀(F H:Hp) x y (Q:VK),Rep X.K F x da->Rep X.K F y db->Q (.bl k) H->r x y H Q):Lu X ρ (.Compare a [op] [b] pos) k:=
 .of (m8 ho bW bW hm) fun B F H σ Q k' q=>two ha hb k' fun x y F' H' x' rx ry=>hr F' H' x y _ rx ry ⟨k,rfl,q F' H' x'⟩
def tT(ha:Lq X ρ a (.int i))(hb:Lq X ρ b (.int j)):Lu X ρ (.Compare a [.Lt] [b] pos) (decide (i<j)):=oy Fy ha hb (eB _ (by decide) (by decide)) fun F H x y Q rx ry q=>by cases rx;cases ry;exact⟨i,j,rfl,rfl,q⟩
def AD(ha:Lq X ρ a (.int i))(hb:Lq X ρ b (.int j)):Lu X ρ (.Compare a [.Gt] [b] pos) (decide (j<i)):=oy Fz ha hb (eB _ (by decide) (by decide)) fun F H x y Q rx ry q=>by cases rx;cases ry;exact⟨i,j,rfl,rfl,q⟩
def pL(ha:Lq X ρ a (.int i))(hb:Lq X ρ b (.int j)):Lu X ρ (.Compare a [.GtE] [b] pos) (decide (j<=i)):=oy Il ha hb (eB _ (by decide) (by decide)) fun F H x y Q rx ry q=>by cases rx;cases ry;exact⟨i,j,rfl,rfl,q⟩
def xS{i:Int}:decide (V.int i=V.int j)=decide (i=j):=by rw[sC,KM]
def fm(ha:Lq X ρ a (.int i))(hb:Lq X ρ b (.int j)):Lu X ρ (.Compare a [.Eq] [b] pos) (decide (i=j)):=oy FA ha hb (eB _ (by decide) (by decide)) fun F H x y Q rx ry q=>by
 cases rx;cases ry;exact⟨rfl,by rw[xS];exact q⟩
def ze(ha:Lq X ρ a (.int i))(hb:Lq X ρ b (.int j)):Lu X ρ (.Compare a [.NotEq] [b] pos) (!decide (i=j)):=oy Ik ha hb (eB _ (by decide) (by decide)) fun F H x y Q rx ry q=>by
 cases rx;cases ry;exact⟨rfl,by rw[xS];exact q⟩
def ij{r:Bool}(t:At X N sc)(ha:DW X ρ a p)(hb:DW X ρ b q)(sp:SeqAt.shaped p=true)(sq:SeqAt.shaped q=true)(hr:p.eqv q=r):Lu X ρ (.Compare a [.Eq] [b] pos) r:=
 .of (m8 (Fq t sp sq) bW bW (eB _ (by decide) (by decide))) fun B F H σ Q k q=>AU ha hb k fun x y F' H' x' rx ry=>⟨rx,ry,r,by rw[hr],q F' H' x'⟩
def iU{r:Bool}(t:At X N sc)(ha:DW X ρ a p)(hb:DW X ρ b q)(sp:SeqAt.shaped p=true)(sq:SeqAt.shaped q=true)(hr:(!p.eqv q)=r):Lu X ρ (.Compare a [.NotEq] [b] pos) r:=
 .of (m8 (H8 t sp sq) bW bW (eB _ (by decide) (by decide))) fun B F H σ Q k q=>AU ha hb k fun x y F' H' x' rx ry=>⟨rx,ry,r,by rw[hr],q F' H' x'⟩
structure uT(X:Cx)(sc:Scope)(x:Str)(u:Value):Prop where
 g:DT sc x
 m:X.mg x=none
 v:bootBuiltins x=some u
 n:x ≠ "__name__"
 d:yu x
def jA(t:At X N sc)(h:DT sc x):Gl X x:=by
 show X.env.scope.names.lookup x=_
 rw[t.eS];exact h
def Dk{id:String}(t:At X N sc){r:fK->Hp->VK->Prop}(bl:uT X sc x (.builtin id))(hc:mQ X (.builtin id) r)(ha:E9 X ρ (e::es) ds)(hr:∀(F H:Hp) vs (Q:VK),Lv F H->Ls X.K F vs ds->(∀v F' H',Ext ⟨F,H⟩ F' H'->Rep X.K F' v d->Q v H')->r vs H Q):Lq X ρ (.Call (.Name x p) (e::es) [] pos) d:=
 .of (ml hc (jA t bl.g) bl.m bl.v Bc bl.n bl.d (ha.1.1 _ _) (OX.any ha.1.2)) fun B F H σ Q k q=>ha.2 B F H σ _ k fun vs F' H' x' rv=>hr F' H' vs Q x'.sub rv fun v F2 H2 x2 r2=>q v F2 H2 (x'.t x2) r2
def Bx(t:At X N sc){r:fK->Hp->VK->Prop}(bl:uT X sc x (.type T))(hc:mQ X (.type T) r)(ha:E9 X ρ (e::es) ds)(hr:∀(F H:Hp) vs (Q:VK),Lv F H->Ls X.K F vs ds->(∀v F' H',Ext ⟨F,H⟩ F' H'->Rep X.K F' v d->Q v H')->r vs H Q):Lq X ρ (.Call (.Name x p) (e::es) [] pos) d:=
 .of (qq hc (jA t bl.g) bl.m bl.v Bc bl.n bl.d (ha.1.1 _ _) (OX.any ha.1.2)) fun B F H σ Q k q=>ha.2 B F H σ _ k fun vs F' H' x' rv=>hr F' H' vs Q x'.sub rv fun v F2 H2 x2 r2=>q v F2 H2 (x'.t x2) r2
def Ls.one{K:dq}(h:Ls K F vs [d]):∃v,vs=[v]/\Rep K F v d:=by
 cases h with
 |cons r t=>cases t;exact⟨_,rfl,r⟩
def Ls.two{K:dq}(h:Ls K F vs [d,e]):∃v u,vs=[v,u]/\Rep K F v d/\Rep K F u e:=by
 cases h with
 |cons r t=>obtain⟨u,rfl,q⟩:=t.one;exact⟨_,_,rfl,r,q⟩
def eC(t:At X N sc)(bl:uT X sc x (.builtin "len"))(ha:MD X ρ e k xs)(N3:Pl e:=by intro _ _;rfl):Lq X ρ (.Call (.Name x p) [e] [] pos) (.int xs.length):=
 .of (ml wq (jA t bl.g) bl.m bl.v (eH bW ie (N3 _ _)) bl.n bl.d (N3 _ _) rfl) fun B F H σ Q k' q=>ha B F H σ _ k' fun l vs F' H' x' sl rl=>by
  refine⟨l,vs,rfl,?_,?_⟩
  ·cases k with
   |true=>exact .inl sl
   |false=>exact .inr sl
  ·rw[rl.length];exact q _ F' H' x' (.int _)
def ox(t:At X N sc)(bl:uT X sc x (.builtin "abs"))(ha:Lq X ρ e (.int i))(N3:Pl e:=by intro _ _;rfl):Lq X ρ (.Call (.Name x p) [e] [] pos) (.int i.natAbs):=
 Dk t bl Dy (ae ha ak N3) fun F H vs Q sub r q=>by
  obtain⟨v,rfl,rv⟩:=r.one
  cases rv
  have e:(if i<0 then -i else i)=(i.natAbs:Int):=by split<;>lia
  exact⟨i,rfl,by rw[e];exact q _ F H (.refl sub) (.int _)⟩
def sB(t:At X N sc)(bl:uT X sc x (.type "int"))(ha:Lq X ρ e (.bl k))(N3:Pl e:=by intro _ _;rfl):Lq X ρ (.Call (.Name x p) [e] [] pos) (.int (if k then 1 else 0)):=
 Bx t bl BE (ae ha ak N3) fun F H vs Q sub r q=>by
  obtain⟨v,rfl,rv⟩:=r.one
  cases rv
  exact .inr ⟨k,rfl,q _ F H (.refl sub) (.int _)⟩
def wg(t:At X N sc)(bl:uT X sc x (.type "list"))(ha:MD X ρ e k xs)(N3:Pl e:=by intro _ _;rfl):LQ X ρ (.Call (.Name x p) [e] [] pos) xs:=
 .of (qq wp (jA t bl.g) bl.m bl.v (eH bW ie (N3 _ _)) bl.n bl.d (N3 _ _) rfl) fun B F H σ Q k' q=>ha B F H σ _ k' fun l vs F' H' x' sl rl=>by
  refine⟨l,vs,rfl,?_,fun p hp=>?_⟩
  ·cases k with
   |true=>exact .inl sl
   |false=>exact .inr sl
  ·exact q p vs F' _ ⟨x'.sub.trans (bv hp),x'.sh.trans (bv hp),x'.sf,x'.nw⟩ (x'.sh.free hp) cH (x'.sub.free hp) rl
def kW(t:At X N sc)(bl:uT X sc x (.type "tuple"))(ha:MD X ρ e true xs)(N3:Pl e:=by intro _ _;rfl):Lq X ρ (.Call (.Name x p) [e] [] pos) (.tup xs):=
 .of (qq uM (jA t bl.g) bl.m bl.v (eH bW ie (N3 _ _)) bl.n bl.d (N3 _ _) rfl) fun B F H σ Q k' q=>ha B F H σ _ k' fun l vs F' H' x' sl rl=>by
  refine⟨l,vs,rfl,.inl ⟨sl,fun p hp=>?_⟩⟩
  exact q _ _ _ (x'.grow hp) (.tup cH (rl.mono (bv (x'.sub.free hp))))
def Jq:D->Value
 |.LH=>.type "NoneType" |.bl _=>.type "bool" |.int _=>.type "int" |.str _=>.type "str" |.tup _=>.type "tuple" |.lst _=>.type "list" |.MG _=>.type "list" |.exc C=>.ref C | .Nb C _=>.ref C | .MY _=>.type "dict" |.adr _=>.type "dict" |.OH _=>.type "dict"
def Jp{X:Cx}(sub:Lv F H)(r:Rep X.K F v d)(hd:∀ns,d ≠ .MG ns)(hx:∀C ea,d ≠ .exc C/\d ≠ .Nb C ea/\d ≠ .adr C:=by intro _ _;exact And.intro (fun h=>by cases h) (And.intro (fun h=>by cases h) (fun h=>by cases h)))(hq:∀kvs,d ≠ .MY kvs:=by intro _ h;cases h):qO X.K H v (Jq d):=by
 cases r with
 |LH=>exact .LH
 |bl b=>exact .bl b
 |int i=>exact .int i
 |str x=>exact .str x
 |tup h _=>exact .tup (sub _ _ h)
 |lst h _=>exact .lst (sub _ _ h)
 |MG h=>exact absurd rfl (hd _)
 |exc h=>exact absurd rfl (hx _ 0).1
 |Nb h=>exact absurd rfl (hx _ _).2.1
 |adr a=>exact absurd rfl (hx a 0).2.2
 |OH h=>exact .dK (sub _ _ h)
 |MY h _=>exact absurd rfl (hq _)
def GV{X:Cx}{d:D}(hx:∀C ea,d ≠ .exc C/\d ≠ .Nb C ea/\d ≠ .adr C)(hd:∀ns,d ≠ .MG ns)(hq:∀kvs,d ≠ .MY kvs)(hk:PySem.W.kitOne X.K (Jq d) (.type T)=some k):
  mQ X (.builtin "isinstance") (fun xs H Q=>∃x F,xs=[x,.ty T]/\Lv F H/\Rep X.K F x d/\Q (.bl k) H):=by
 intro pins s σ H xs us Q I r h
 obtain⟨v,F,rfl,sub,rv,q⟩:=h
 obtain⟨u,w,rfl,ru,Ny⟩:=Fk r
 cases(show w=Value.type T from Ny)
 exact Bq I ru (Jp sub rv hd hx hq) hk fun tk=>⟨.bl k,H,I.tok tk,rfl,q⟩
def v9(t:At X N sc)(bl:uT X sc x (.builtin "isinstance"))(bt:uT X sc y (.type T))(ha:Lq X ρ a d)(hk:PySem.W.kitOne X.K (Jq d) (.type T)=some k)(hd:∀ns,d ≠ .MG ns:=by intro _ h;cases h)(O2:Pl a:=by intro _ _;rfl)(hx:∀C ea,d ≠ .exc C/\d ≠ .Nb C ea/\d ≠ .adr C:=by intro _ _;exact And.intro (fun h=>by cases h) (And.intro (fun h=>by cases h) (fun h=>by cases h)))(hq:∀kvs,d ≠ .MY kvs:=by intro _ h;cases h):
  Lq X ρ (.Call (.Name x p) [a,.Name y py] [] pos) (.bl k):=
 .of (ml (GV hx hd hq hk) (jA t bl.g) bl.m bl.v (eH bW (eH (Ae (v:=.ty T) (jA t bt.g) bt.m bt.v rfl bt.n bt.d) ie) (O2 _ _)) bl.n bl.d (O2 _ _) rfl) fun B F H σ Q k' q=>
  ha B F H σ _ k' fun v F' H' x' r=>⟨v,F',rfl,x'.sub,r,q _ F' H' x' (.bl k)⟩
def Fo(K:dq)(C:cQ->D->Prop):Sp:=fun vs H Q _=>∃F ds d,Lv F H/\Ls K F vs ds/\C ds d/\∀v F' H',Ext ⟨F,H⟩ F' H'->Rep K F' v d->Q v H'
def Callee(X:Cx)(x:Str)(C:cQ->D->Prop):Prop:=∃(f:Addr) (fd:FuncData) (ps:fw) (k:Nat),lX X.prog X.w X.K X.mg X.base AS k f fd ps (Fo X.K C)/\L6 k X.A/\X.mg x=some (.ref f)/\PySem.W.keepIn X.K (.ref f)=true/\Binds X.K fd ps []
def ax(t:At X N sc){C:cQ->D->Prop}(h:Callee X x C)(ha:E9 X ρ (e::es) ds)(hC:C ds d)(hg:DT sc x:=by rfl)(NT:yu x:=by rfl):Lq X ρ (.Call (.Name x p) (e::es) [] pos) d:=by
 obtain⟨f,fd,ps,k,F,hr,hm,hk,hb⟩:=h
 have pz:wD AS X E0:=Ii
 refine .of (Es F hr (jA t hg) hm hk hb .nil pz Bc NT (ha.1.1 _ _) (OX.any ha.1.2)) fun B F' H σ Q k' q=>ha.2 B F' H σ _ k' fun vs F1 H1 x1 r1=>?_
 refine⟨F1,ds,d,x1.sub,by rw[jt];exact r1,hC,fun v F2 H2 x2 r2=>q v F2 H2 (x1.t x2) r2⟩
def dE(sc:Scope):Env:={ scope:=sc,locals:=0,globals:=0,cells:=[],qual := "",func:=none,code:=.none,frame:=none,builtins:=0 }
def z6{env Om:Env}(h:env.scope=Om.scope):swappedStores ts v env=swappedStores ts v Om:=by
 unfold swappedStores Env.blockKind Env.kindOf
 rw[h]
def B9{tg:Option Expr}{env Om:Env}(h:env.scope=Om.scope):swapsWith v tg n env=swapsWith v tg n Om:=by
 unfold swapsWith Env.blockKind Env.kindOf
 rw[h]
variable {st:Stmt}{rest:List Stmt}
def bR:Lr X ρ [] (.nx ρ):=.of Ei fun B F H σ E k q=>q F H σ k (.refl _)
def ao(h1:Mt X ρ st (.nx ρ'))(h2:Lr X ρ' rest o):Lr X ρ (st::rest) o:=
 .of (xn F9 lQ) fun B F H σ E k q=>h1 B F H σ _ k fun F1 H1 σ1 k1 s1=>h2 B F1 H1 σ1 E k1 (q.later s1)
def fO(h1:Mt X ρ st (.rt d)):Lr X ρ (st::rest) (.rt d):=
 .of (xn F9 lQ) fun B F H σ E k q=>h1 B F H σ _ k q
def aD(h1:Mt X ρ st o):Lr X ρ [st] o:=.of (Eh F9) fun B F H σ E k q=>h1 B F H σ E k q
def fX{ρ:eU}(i:Nat)(hi:ρ[i]?=some (.own xs))(h:Lr X (ρ.set i (.val (.lst xs))) rest o):Lr X ρ rest o:=fun B F H σ E k q=>by
 obtain⟨F',sf,k'⟩:=k.Oj hi
 exact h B F' H σ E k' (q.later sf)
def bC(h:Lq X ρ e d):Mt X ρ (.Return (some e) pos) (.rt d):=
 .of (Ga bW) fun B F H σ E k q=>h B F H σ _ k fun v F' H' x r=>q v F' H' (k.toExt.trans x) r
def fy(hc:Lu X ρ c true)(h:Lr X ρ ss o):Mt X ρ (.If c ss us pos) o:=
 .of (Fu rA lQ lQ) fun B F H σ E k q=>hc B F H σ _ k fun F1 H1 x1=>by rw[aB rfl];exact h B F1 H1 σ E (k.ext x1) (q.later x1.sf)
def dr(hc:Lu X ρ c false)(h:Lr X ρ us o):Mt X ρ (.If c ss us pos) o:=
 .of (Fu rA lQ lQ) fun B F H σ E k q=>hc B F H σ _ k fun F1 H1 x1=>by rw[ay aF];exact h B F1 H1 σ E (k.ext x1) (q.later x1.sf)
def GX{x:Str}[Ou X]:X.fn x=true\/X.env.scope.names.lookup x=some .local:=.inl (Ou.fn x)
def At.loc{x:Str}(t:At X N sc)(hx:qT sc x=true):Hm X.env.scope x:=by rw[t.eS];exact CM hx
def At.ix{i:Nat}(t:At X N sc)(h:N[i]?=some x):X.N[i]?=some x:=by rw[t.eN];exact h
def bE{pos:Pos}[Ou X](t:At X N sc)(i:Nat)(h:Lq X ρ e d)(hi:N[i]?=some x:=by rfl)(hx:qT sc x=true:=by rfl)(hs:swapsWith e (some (.Name x pos')) pos.line X.env=pure false:=by rfl):
  Mt X ρ (.Assign [.Name x pos'] e pos) (.nx (ρ.set i (.val d))):=
 .of (yM (i:=i) t.nd (t.ix hi) (t.loc hx) bW hs GX) fun B F H σ E k q=>h B F H σ _ k fun v F' H' x' r=>q F' H' _ ((k.ext x').LZ i r) x'.sf
def kl{pos:Pos}[Ou X](t:At X N sc)(i:Nat)(h:LQ X ρ e xs)(hi:N[i]?=some x:=by rfl)(hx:qT sc x=true:=by rfl)(hs:swapsWith e (some (.Name x pos')) pos.line X.env=pure false:=by rfl):
  Mt X ρ (.Assign [.Name x pos'] e pos) (.nx (ρ.set i (.own xs))):=
 .of (yM (i:=i) t.nd (t.ix hi) (t.loc hx) bW hs GX) fun B F H σ E k q=>h B F H σ _ k fun p vs F' H' x' h0 hp hf r=>
  q F' H' _ ((k.ext x').N7 i hp hf (k.sh.free h0) (k.noOwn h0) r) x'.sf
def Ck{ρ:eU}[Ou X](t:At X N sc)(i:Nat){g:Int->Int->Int}{C:Int->Int->Prop}(ho:mG X (inplaceOp op) (rI C fun i j=>.int (g i j)))(hr:ρ[i]?=some (.val (.int n)))(h:Lq X ρ e (.int m))(hc:C n m)(hi:N[i]?=some x:=by rfl)(hx:qT sc x=true:=by rfl):
  Mt X ρ (.AugAssign (.Name x pos') op e pos) (.nx (ρ.set i (.val (.int (g n m))))):=
 .of (Gd (i:=i) t.nd (t.ix hi) (t.loc hx) bW (show Jg X op (rI C fun i j=>.int (g i j)) from ho) GX) fun B F H σ E k q=>by
  obtain⟨v,h1,h2⟩:=k.vals i _ hr
  cases h2
  exact⟨_,h1,h B F H σ _ k fun v F' H' x' r=>by
   cases r
   exact⟨n,m,rfl,rfl,hc,q F' H' _ ((k.ext x').LZ i (.int _)) x'.sf⟩⟩
def CV:mG X (inplaceOp .Add) (rI (fun _ _=>True) fun i j=>.int (i+j)):=HD fun _ _ _ _ _ _ _ _ q=>iadd_int q
def xK:mG X (inplaceOp .Sub) (rI (fun _ _=>True) fun i j=>.int (i-j)):=HD fun _ _ _ _ _ _ _ _ q=>isub_int q
def CU:mG X (inplaceOp .Mult) (rI IntMulOk fun i j=>.int (i*j)):=HD fun _ _ _ _ _ _ _ hc q=>imul_int q hc
def Ci{ρ:eU}[Ou X](t:At X N sc)(i:Nat)(hr:ρ[i]?=some (.val (.int n)))(h:Lq X ρ e (.int m))(hi:N[i]?=some x:=by rfl)(hx:qT sc x=true:=by rfl):
  Mt X ρ (.AugAssign (.Name x pos') .Sub e pos) (.nx (ρ.set i (.val (.int (n-m))))):=Ck t i xK hr h trivial hi hx
def Cj{ρ:eU}[Ou X](t:At X N sc)(i:Nat)(hr:ρ[i]?=some (.val (.int n)))(h:Lq X ρ e (.int m))(hc:IntMulOk n m)(hi:N[i]?=some x:=by rfl)(hx:qT sc x=true:=by rfl):
  Mt X ρ (.AugAssign (.Name x pos') .Mult e pos) (.nx (ρ.set i (.val (.int (n*m))))):=Ck t i CU hr h hc hi hx
def rd{pos:Pos}(t:At X N sc)(i j:Nat)(h1:Lq X ρ a u)(h2:Lq X ρ b v)(SV:i≠j)(hi:N[i]?=some x:=by rfl)(hj:N[j]?=some y:=by rfl)(hx:sc.names.lookup x=some .local:=by rfl)(hy:sc.names.lookup y=some .local:=by rfl)(hw:swappedStores [.Tuple [.Name x px,.Name y py] kt pt] (.Tuple [a,b] k2 PX) (dE sc)=pure (some [x,y]):=by rfl)(hs:swapsWithSole [.Tuple [.Name x px,.Name y py] kt pt] (.Tuple [a,b] k2 PX) pos.line X.env=pure false:=by rfl)(Pn:Fi a [b] X.env:=by rfl)(OK:Fi b [] X.env:=by rfl):
  Mt X ρ (.Assign [.Tuple [.Name x px,.Name y py] kt pt] (.Tuple [a,b] k2 PX) pos) (.nx ((ρ.set i (.val u)).set j (.val v))):=
 .of (Gb (i:=i) (j:=j) t.calm t.nd (t.ix hi) (t.ix hj) SV (by rw[t.eS];exact hx) (by rw[t.eS];exact hy) (eH bW (eH bW ie OK) Pn) ((z6 (show X.env.scope=(dE sc).scope from t.eS)).trans hw) hs) fun B F H σ E k q=>
  h1 B F H σ _ k fun v1 F1 H1 x1 r1=>h2 B F1 H1 σ _ (k.ext x1) fun v2 F2 H2 x2 r2=>⟨v1,v2,rfl,q F2 H2 _ (((k.ext (x1.t x2)).LZ i (r1.mono x2.sf)).LZ j r2) (x1.t x2).sf⟩
def bj[Ou X](t:At X N sc)(i:Nat)(hi:N[i]?=some x:=by rfl)(hx:qT sc x=true:=by rfl):Nf X ρ (.Name x pos) d (ρ.set i (.val d)):=
 .of (su (i:=i) t.nd (t.ix hi) (t.loc hx) GX) fun B F H σ v Q k r q=>q F H _ (k.LZ i r) (.refl _)
def wm[Ou X](t:At X N sc)(i j:Nat)(hi:N[i]?=some x:=by rfl)(hj:N[j]?=some y:=by rfl)(hx:qT sc x=true:=by rfl)(hy:qT sc y=true:=by rfl):
  Nf X ρ (.Tuple [.Name x px,.Name y py] kt pos) (.tup [u,v]) ((ρ.set i (.val u)).set j (.val v)):=
 .of (Cy t.calm (tD (su (i:=i) t.nd (t.ix hi) (t.loc hx) GX) (tD (su (i:=j) t.nd (t.ix hj) (t.loc hy) GX) Ad))) fun B F H σ w Q k r q=>by
  cases r with
  |tup h rl=>
   obtain⟨v1,v2,rfl,r1,r2⟩:=rl.two
   exact⟨_,_,rfl,L0.of (k.sub _ _ h),rfl,_,_,rfl,_,_,rfl,rfl,q F H _ ((k.LZ i r1).LZ j r2) (.refl _)⟩
def c9(t:At X N sc)(i:Nat)(hi:N[i]?=some x:=by rfl)(hx:sc.names.lookup x=some .local:=by rfl):ME X ρ (.Name x pos) d (ρ.set i (.val d)):=
 .of (su (i:=i) t.nd (t.ix hi) (by rw[t.eS];exact .inl hx) (by rw[t.eS];exact .inr hx)) fun B F H σ v Q k r q=>q _ (k.LZ i r) fun p h=>h.LZ i _ d
def re{pos:Pos}(t:At X N sc)(h:Lq X ρ e d)(hg:Nf X ρ tg d ρ')(hs:swapsWithSole [tg] e pos.line X.env=pure false:=by rfl)(hw:swappedStores [tg] e (dE sc)=pure none:=by rfl)(h1:(assignEach [tg] X.env).map (·.2)=[assign tg X.env]:=by rfl):Mt X ρ (.Assign [tg] e pos) (.nx ρ'):=
 .of (Ge bW Gh hs ((z6 (show X.env.scope=(dE sc).scope from t.eS)).trans hw) h1) fun B F H σ E k q=>h B F H σ _ k fun v F1 H1 x1 r1=>hg B F1 H1 σ v _ (k.ext x1) r1 fun F2 H2 σ2 k2 s2=>q F2 H2 σ2 k2 (x1.sf.trans s2)
def vT{i:Nat}{Q:VK}{ρ:eU}(t:At X N sc)(hr:ρ[i]?=some (.own xs))(hN:N[i]?=some x)(hv:nJ sc x=true)(hx:iX x=true)(k:Ok X.K B F H σ ρ)(h:∀p vs,σ[i]?=some (some (.ref p))->H p=some (.lst vs)->Ls X.K F vs xs->Q (.ref p) H):wE X (.Name x pos) σ H Q:=.mk fun pins s I=>by
 obtain⟨p,vs,h1,h2,h3,h4,h5⟩:=k.Mu i xs hr
 exact FZ t hN hv hx pins s σ H Q I ⟨_,h1,h p vs h1 h2 h5⟩
def kP{apos Md:Pos}{ρ:eU}{pos:Pos}(t:At X N sc)(i:Nat)(hr:ρ[i]?=some (.own xs))(h:Lq X ρ e d)(hz:xs.length<sizeLine)(hN:N[i]?=some y:=by rfl)(hv:nJ sc y=true:=by rfl)(hx:iX y=true:=by rfl)(hs:Fi e [] X.env:=by rfl)(MS:(apos.endLine==Md.line)=true:=by rfl)(Od:BX Md [] X.env:=by rfl)(Py:Jm Md [e] X.env:=by rfl)(Pm:swapsWith (.Call (.Attribute (.Name y p) "append" apos) [e] [] Md) none pos.line X.env=pure false:=by rfl):
  Mt X ρ (.Expr (.Call (.Attribute (.Name y p) "append" apos) [e] [] Md) pos) (.nx (ρ.set i (.own (xs++[d])))):=
 .of (vR (Ic Jl PySem.F.slot_list_append PySem.F.type_list_append vj bW (eH bW ie hs) rfl Py MS hs Od) Pm) fun B F H σ E k q=>
  vT t hr hN hv hx k fun l vs h1 h2 h3=>⟨.inl ⟨rfl,_,Mh.of h2⟩,h B F H σ _ k fun v F' H' x' r=>by
   have k':=k.ext x'
   have QT:=x'.sh _ _ h2
   refine⟨l,vs,v,rfl,rfl,QT,by rw[h3.length];exact hz,?_⟩
   exact q F' _ _ (k'.M7 (vs:=vs) hr h1 ((h3.mono x'.sf).append (.cons r .nil))) x'.sf⟩
def Fp{apos Md:Pos}{ρ:eU}{pos:Pos}(t:At X N sc)(i:Nat)(hr:ρ[i]?=some (.own xs))(hz:xs≠[])(hN:N[i]?=some y:=by rfl)(hv:nJ sc y=true:=by rfl)(hx:iX y=true:=by rfl)(MS:(apos.endLine==Md.line)=true:=by rfl)(Pm:swapsWith (.Call (.Attribute (.Name y p) "pop" apos) [] [] Md) none pos.line X.env=pure false:=by rfl):
  Mt X ρ (.Expr (.Call (.Attribute (.Name y p) "pop" apos) [] [] Md) pos) (.nx (ρ.set i (.own xs.dropLast))):=
 .of (vR (Gu Jl PySem.F.slot_list_pop PySem.F.type_list_pop GI bW rfl MS) Pm) fun B F H σ E k q=>
  vT t hr hN hv hx k fun l vs h1 h2 h3=>⟨.inl ⟨rfl,_,Mh.of h2⟩,by
   have hl:=h3.length
   have M3:vs≠[]:=fun z=>hz (cz (by rw[<-hl,z];rfl))
   obtain⟨w,hw⟩:∃w,vs[vs.length-1]?=some w:=⟨vs[vs.length-1]'(by have:=List.length_pos_iff.mpr M3;lia),List.getElem?_eq_getElem _⟩
   exact⟨l,vs,w,rfl,rfl,h2,hw,q F _ _ (k.M7 (vs:=vs) hr h1 h3.dropLast) (.refl _)⟩⟩
def ER{ρ:eU}(t:At X N sc)(i:Nat)(hr:ρ[i]?=some (.own xs))(h:Lq X ρ b (.int n))(hj:An xs.length n=some j)(hN:N[i]?=some y:=by rfl)(hv:nJ sc y=true:=by rfl)(hx:iX y=true:=by rfl)(ha:∀v,assign (.Subscript (.Name y p) b pos) X.env v=(do
   let ov <-holding [v] (eval (.Name y p) X.env)
   let iv <-holding [v,ov] (eval b X.env)
   standAt pos
   holding [v,ov,iv] (setItem ov iv v)
   release [v,ov,iv] []):=by intro _;rfl):Nf X ρ (.Subscript (.Name y p) b pos) d (ρ.set i (.own (xs.set j d))):=
 .of (Gi bW bW xc ha) fun B F H σ v Q k r q=>
  vT t hr hN hv hx k fun l vs h1 h2 h3=>h B F H σ _ k fun w F' H' x' Ny=>by
   cases Ny
   have QT:=x'.sh _ _ h2
   refine⟨l,vs,n,j,rfl,rfl,QT,by rw[h3.length];exact hj,?_⟩
   exact q F' _ _ ((k.ext x').M7 (vs:=vs) hr h1 ((h3.mono x'.sf).set (r.mono x'.sf) j)) x'.sf
def Bu:IP X (Ia X.K):=by
 intro pins s σ H o i ov iv Q I ro ri h
 obtain⟨p,xs,n,z,rfl,rfl,hq,he,q⟩:=h
 cases ro
 obtain⟨t,rfl⟩:=ri
 obtain⟨its,r,pl,hz⟩:=I.list hq
 obtain⟨j,h1,h2,h3,h4,h5⟩:=wy he
 obtain⟨w,ew,Ny⟩:=r.get h2
 have hl:=r.length
 have hn:=mq
 have fin:EP X pins σ Q w s:=⟨z,H,I,Ny,q⟩
 by_cases h0:0<=n
 ·have hj:n.toNat=j:=by
   rw[Jj h0 h5] at h1
   exact bc h1
  exact wpAny_getItem_list pl.isList h0 (by lia) (by rw[hj];simpa using ew) fin
 ·have hj:(n+(its.toArray.size:Int)).toNat=j:=by
   rw[Hv (by lia) h4] at h1
   rw[au,<-hl]
   exact bc h1
  exact wpAny_getItem_list_neg pl.isList (by lia) (by rw[au]<;>lia) (by lia) (by rw[hj];simpa using ew) fin
def u8{j:Nat}{ρ:eU}(t:At X N sc)(i:Nat){g:Int->Int->Int}{C:Int->Int->Prop}(ho:mG X (inplaceOp op) (rI C fun i j=>.int (g i j)))(hr:ρ[i]?=some (.own xs))(hb:Lq X ρ b (.int n))(hj:An xs.length n=some j)(hu:xs[j]?=some (.int u))(he:Lq X ρ e (.int m))(hc:C u m)(hN:N[i]?=some y:=by rfl)(hv:nJ sc y=true:=by rfl)(hx:iX y=true:=by rfl)(ha:∀ov iv new,augStore b ov iv new=(do holding [new,ov,iv] (setItem ov iv new);release [new,ov,iv] [];pure .next):=by intros;rfl):
  Mt X ρ (.AugAssign (.Subscript (.Name y p) b R9) op e pos) (.nx (ρ.set i (.own (xs.set j (.int (g u m)))))):=
 .of (Ej bW bW Bu bW (show Jg X op (rI C fun i j=>.int (g i j)) from ho) xc ha) fun B F H σ E k q=>
  vT t hr hN hv hx k fun l vs h1 h2 h3=>hb B F H σ _ k fun w F1 H1 x1 Ny=>by
   cases Ny
   have Ux:=x1.sh _ _ h2
   have W9:pU xs n=some (.int u):=by unfold pU;rw[hj];exact hu
   obtain⟨w,Wz,Wy⟩:=(h3.mono x1.sf).at W9
   cases Wy
   refine⟨l,vs,n,_,rfl,rfl,Mh.of Ux,Wz,he B F1 H1 σ _ (k.ext x1) fun w F2 H2 x2 VI=>?_⟩
   cases VI
   have OA:=x2.sh _ _ Ux
   refine⟨u,m,rfl,rfl,hc,l,vs,n,j,rfl,rfl,OA,by rw[h3.length];exact hj,?_⟩
   exact q F2 _ _ ((k.ext (x1.t x2)).M7 (vs:=vs) hr h1 (((h3.mono x1.sf).mono x2.sf).set (.int _) j)) (x1.t x2).sf
end
structure wI(X:Cx)(tg e:Expr)(σ:St)(H:Hp)(R:It->Hp->Prop):Prop where
 go:∀(pins:fQ) (s:Shared),Inv X pins σ H s->eG X (eval e X.env) (fun v s1=>eG X (pyIter v) (Jh X pins σ tg R) X.xe s1) X.xe s
instance Vt {X:Cx} {tg e:Expr} {σ:St} {H:Hp} {R:It->Hp->Prop}:CoeFun (wI X tg e σ H R) (fun _=>∀(pins:fQ) (s:Shared),Inv X pins σ H s->eG X (eval e X.env) (fun v s1=>eG X (pyIter v) (Jh X pins σ tg R) X.xe s1) X.xe s):=⟨wI.go⟩
def JM:PI X tg e (wI X tg e):=fun pins s _ _ _ I h=>h pins s I
def rP(K:dq)(J:It)(F:Hp)(ds:cQ):Prop:=∀(i:Nat) (F2 H2:Hp),Lv F F2->Lv F2 H2 ->
 (∀d,ds[i]?=some d->J.go i H2/\∀x H',J.RZ i H2 x H'->∃F',Ext ⟨F2,H2⟩ F' H'/\Rep K F' x d)/\(ds.length<=i->J.stop i H2)
def Nd(X:Cx)(ρ:eU)(tg e:Expr)(ds:cQ):Prop:=∀(B:B0) (F H:Hp) (σ:St) (R:It->Hp->Prop),Ok X.K B F H σ ρ ->
 (∀J F' H',Ext ⟨F,H⟩ F' H'->rP X.K J F' ds->R J H')->wI X tg e σ H R
def Nd.of(h:PI X tg e t)(r:∀(B:B0) (F H:Hp) (σ:St) (R:It->Hp->Prop),Ok X.K B F H σ ρ->(∀J F' H',Ext ⟨F,H⟩ F' H'->rP X.K J F' ds->R J H')->t σ H R):Nd X ρ tg e ds:=
 fun B F H σ R k q=>.mk fun pins s I=>h pins s σ H R I (r B F H σ R k q)
def ED{K:dq}(hs:∀H,Lv F H->Mh K H l vs)(r:Ls K F vs ds):rP K (Kj K l) F ds:=fun i F2 H2 s1 s2=>
 ⟨fun d hd=>by
  obtain⟨v,hv,rv⟩:=r.get hd
  have sq:=hs H2 (s1.trans s2)
  refine⟨⟨vs,v,sq,hv⟩,fun x H' y=>?_⟩
  obtain⟨rfl,y⟩:=y
  have e:=y vs sq
  rw[hv] at e;cases e
  exact⟨F2,.refl s2,rv.mono s1⟩,fun h=>⟨vs,hs H2 (s1.trans s2),by rw[r.length];exact h⟩⟩
def GS{K:dq}(hs:∀H,Lv F H->L0 K H l vs)(r:Ls K F vs ds):rP K (Ki K l) F ds:=fun i F2 H2 s1 s2=>
 ⟨fun d hd=>by
  obtain⟨v,hv,rv⟩:=r.get hd
  have sq:=hs H2 (s1.trans s2)
  refine⟨⟨vs,v,sq,hv⟩,fun x H' y=>?_⟩
  obtain⟨rfl,y⟩:=y
  have e:=y vs sq
  rw[hv] at e;cases e
  exact⟨F2,.refl s2,rv.mono s1⟩,fun h=>⟨vs,hs H2 (s1.trans s2),by rw[r.length];exact h⟩⟩
def iV(h:Lq X ρ e (.lst ds)):Nd X ρ tg e ds:=.of (Eo bW) fun B F H σ R k q=>h B F H σ _ k fun v F' H' x r=>by
 cases r with
 |lst hf rl=>exact⟨_,rfl,⟨_,Mh.of (x.sub _ _ hf)⟩,q _ F' H' x (ED (fun H2 s2=>Mh.of (s2 _ _ hf)) rl)⟩
def mB(h:Lq X ρ e (.tup ds)):Nd X ρ tg e ds:=.of (Gf bW) fun B F H σ R k q=>h B F H σ _ k fun v F' H' x r=>by
 cases r with
 |tup hf rl=>exact⟨_,rfl,⟨_,L0.of (x.sub _ _ hf)⟩,q _ F' H' x (GS (fun H2 s2=>L0.of (s2 _ _ hf)) rl)⟩
def cZ(lo:Int)(n:Nat):cQ:=(List.range n).map fun(i:Nat)=>D.int (lo+(i:Int))
def CS{K:dq}{lo:Int}:rP K (IQ lo n) F (cZ lo n):=fun i F2 H2 s1 s2=>
 ⟨fun d hd=>by
  unfold cZ at hd
  rw[List.getElem?_map] at hd
  have hi:i<n:=by
   by_cases h:i<n
   ·exact h
   ·rw[List.getElem?_eq_none (by simpa using h)] at hd;cases hd
  rw[List.getElem?_range hi] at hd
  cases hd
  refine⟨hi,fun x H' y=>?_⟩
  obtain⟨rfl,rfl⟩:=y
  exact⟨F2,.refl s2,.int _⟩,fun h=>by
   have h':n<=i:=by simpa [cZ] using h
   exact h'⟩
def eQ(t:At X N sc)(bl:uT X sc "range" (.type "range"))(h:Lq X ρ a (.int j))(h1 : -(2 ^ 62)<=j)(h2:j<2 ^ 62)(hs:Pl a:=by intro _ _;rfl):Nd X ρ tg (.Call (.Name "range" p) [a] [] pos) (cZ 0 j.toNat):=
 .of (Bb (jA t bl.g) bl.m (eH bW ie (hs _ _)) (hs _ _)) fun B F H σ R k q=>h B F H σ _ k fun v F' H' x r=>by
  cases r
  exact⟨j,rfl,h1,h2,q _ F' H' x CS⟩
def vq(t:At X N sc)(bl:uT X sc "range" (.type "range"))(ha:Lq X ρ a (.int i))(hb:Lq X ρ b (.int j))(hc : -(2 ^ 62)<=i/\i<2 ^ 62/\-(2 ^ 62)<=j/\j<2 ^ 62)(Ug:Pl a:=by intro _ _;rfl)(Sz:Pl b:=by intro _ _;rfl):
  Nd X ρ tg (.Call (.Name "range" p) [a,b] [] pos) (cZ i (j-i).toNat):=
 .of (Ba (jA t bl.g) bl.m (eH bW (eH bW ie (Sz _ _)) (Ug _ _)) (by rw[Ug,Sz];rfl) (Sz _ _)) fun B F H σ R k q=>ha B F H σ _ k fun v F1 H1 x1 r1=>hb B F1 H1 σ _ (k.ext x1) fun w F2 H2 x2 r2=>by
  cases r1;cases r2
  exact⟨i,j,rfl,hc,q _ F2 H2 (x1.t x2) CS⟩
inductive LB(X:Cx)(tg:Expr)(body:List Stmt):cQ->eU->Out->Prop where
 |nil {ρ:eU}:LB X tg body [] ρ (.nx ρ)
 |cons {d:D} {ds:cQ} {ρ ρ1 ρ2:eU} {o:Out}:Nf X ρ tg d ρ1->Lr X ρ1 body (.nx ρ2)->LB X tg body ds ρ2 o->LB X tg body (d::ds) ρ o
 |ret {d r:D} {ds:cQ} {ρ ρ1:eU}:Nf X ρ tg d ρ1->Lr X ρ1 body (.rt r)->LB X tg body (d::ds) ρ (.rt r)
def js{i:Nat}{α:Type}{xs ys:List α}{x:α}(h:xs.drop i=x::ys):xs[i]?=some x/\xs.drop (i+1)=ys/\i<xs.length:=by
 have hi:i<xs.length:=by
  by_cases q:i<xs.length
  ·exact q
  ·rw[List.drop_eq_nil_of_le (by lia)] at h;cases h
 have e:=iR hi
 rw[h] at e
 injection e with e1 e2
 exact⟨by rw[List.getElem?_eq_getElem hi,e1],e2.symm,hi⟩
def fC(t:At X N sc)(hi:Nd X ρ tg e ds)(h:LB X tg body ds ρ o)(hs:∀x,foldedSetIterable e X.env x=pure x:=by intro _;rfl):Mt X ρ (.For tg e body [] pos) o:=
 .of (Gc t.pass t.calm JM Gh lQ hs) fun B F H σ E k q=>hi B F H σ _ k fun J F1 H1 x1 J1=>by
  refine⟨fun i m σ H=>∃ρ' F',Ok X.K B F' H σ ρ'/\Lv F1 F'/\LB X tg body (ds.drop i) ρ' o/\m=ds.length-i,⟨ds.length,ρ,F1,k.ext x1,.refl _,by simpa using h,by simp⟩,?_⟩
  rintro i m σ H ⟨ρ',F',k',sf,run,rfl⟩
  have q':MH X.K B F' E o:=q.later (x1.sf.trans sf)
  have J2:=J1 i F' H sf k'.sub
  generalize e1:ds.drop i=rest at run
  cases run with
  |nil=>
   have hl:ds.length<=i:=by
    have:=c8 List.length e1
    rw[dB,uo] at this
    lia
   exact .inl ⟨J2.2 hl,q' F' H σ k' (.refl _)⟩
  |@cons d0 O6 ρ0 ρ1 ρ2 o0 g b r=>
   obtain⟨hd,hr,Mj⟩:=js e1
   obtain⟨go,yl⟩:=J2.1 _ hd
   refine .inr ⟨go,fun σ' H'=>∃OZ,Ok X.K B OZ H' σ' ρ2/\Lv F1 OZ,fun σ' H' ⟨OZ,Sr,MM⟩=>⟨ds.length-(i+1),by lia,_,OZ,Sr,MM,by rw[hr];exact r,rfl⟩,fun x H' y=>?_⟩
   obtain⟨F2,x2,rx⟩:=yl x H' y
   refine g B F2 H' σ x _ (k'.ext x2) rx fun F3 H3 σ3 k3 s3=>b B F3 H3 σ3 _ k3 fun F4 H4 σ4 k4 s4=>⟨F4,k4,sf.trans (x2.sf.trans (s3.trans s4))⟩
  |ret g b=>
   obtain⟨hd,hr,Mj⟩:=js e1
   obtain⟨go,yl⟩:=J2.1 _ hd
   refine .inr ⟨go,fun _ _=>False,fun σ' H' z=>z.elim,fun x H' y=>?_⟩
   obtain⟨F2,x2,rx⟩:=yl x H' y
   exact g B F2 H' σ x _ (k'.ext x2) rx fun F3 H3 σ3 k3 s3=>b B F3 H3 σ3 _ k3 q
def LB.of(body:List Stmt)(R:Nat->eU):∀(ds:cQ) (i:Nat),(∀(j:Nat) d,ds[j]?=some d->∃ρ1,Nf X (R (i+j)) tg d ρ1/\Lr X ρ1 body (.nx (R (i+j+1))))->LB X tg body ds (R i) (.nx (R (i+ds.length)))
 |[],i,_=>.nil
 |d::ds,i,h=>by
  obtain⟨ρ1,h1,h2⟩:=h 0 d rfl
  refine .cons h1 h2 ?_
  have r:=LB.of body R ds (i+1) fun j e he=>by
   have:=h (j+1) e (by simpa using he)
   rw[show i+1+j=i+(j+1) by lia]
   exact this
  rw[show i+(d::ds).length=i+1+ds.length by simp;lia]
  exact r
inductive qM(X:Cx)(c:Expr)(body:List Stmt):Nat->eU->Out->Prop where
 |stop {ρ:eU}:Lu X ρ c false->qM X c body 0 ρ (.nx ρ)
 |step {n:Nat} {ρ ρ1:eU} {o:Out}:Lu X ρ c true->Lr X ρ body (.nx ρ1)->qM X c body n ρ1 o->qM X c body (n+1) ρ o
 |ret {ρ:eU} {r:D}:Lu X ρ c true->Lr X ρ body (.rt r)->qM X c body 0 ρ (.rt r)
def mZ(t:At X N sc)(h:∃n,qM X c body n ρ o):Mt X ρ (.While c body [] pos) o:=
 .of (Cs t.pass rA lQ) fun B F H σ E k q=>by
  obtain⟨n,h⟩:=h
  refine⟨fun m σ H=>∃ρ' F',Ok X.K B F' H σ ρ'/\Lv F F'/\qM X c body m ρ' o,⟨n,ρ,F,k,.refl _,h⟩,?_⟩
  rintro m σ H ⟨ρ',F',k',sf,run⟩
  cases run with
  |stop hc=>
   refine hc B F' H σ _ k' fun F1 H1 x1=>?_
   rw[ay aF]
   exact q F1 H1 σ (k'.ext x1) (sf.trans x1.sf)
  |@step n0 ρ0 ρ1 o0 hc hb r=>
   refine hc B F' H σ _ k' fun F1 H1 x1=>?_
   rw[aB rfl]
   exact⟨fun σ' H'=>∃OZ,Ok X.K B OZ H' σ' ρ1/\Lv F OZ,fun σ' H' ⟨OZ,Sr,MM⟩=>⟨_,rT _,_,OZ,Sr,MM,r⟩,hb B F1 H1 σ _ (k'.ext x1) fun F2 H2 σ2 k2 s2=>⟨F2,k2,sf.trans (x1.sf.trans s2)⟩⟩
  |ret hc hb=>
   refine hc B F' H σ _ k' fun F1 H1 x1=>?_
   rw[aB rfl]
   exact⟨fun _ _=>False,fun σ' H' z=>z.elim,hb B F1 H1 σ _ (k'.ext x1) q⟩
structure DefX(P:Program)(w:World)(K:dq)(mg:uh)(base:Heap)(k:Nat)(N:fw)(sc:Scope)(X:Cx):Prop where
 at':At X N sc
 prog:X.prog=P
 w':X.w=w
 k':X.K=K
 Na:X.mg=mg
 MT:X.base=base
 room:L6 k X.A
 Mg:Ou X
 O0:X.stack=X.env::X.outer/\X.env.frame=some X.env.locals
def pi{K:dq}(sub:Lv F H)(r:Ls K F vs ds)(n:Nat):Ok K ⟨F,H⟩ F H (vs.map some++List.replicate n none) (ds.map Sl.val++List.replicate n Sl.un):=by
 have hl:=r.length
 have own:∀(i:Nat) xs,(ds.map Sl.val++List.replicate n Sl.un)[i]?≠some (.own xs):=fun i xs h=>by
  by_cases hi:i<ds.length
  ·rw[List.getElem?_append_left (by simpa using hi),List.getElem?_map] at h
   cases e:ds[i]? with
   |none=>rw[e] at h;cases h
   |some d=>rw[e] at h;cases h
  ·rw[List.getElem?_append_right (by simpa using hi),List.getElem?_replicate] at h
   split at h<;>cases h
 have Qo:∀(i:Nat) xs,(ds.map Sl.val++List.replicate n Sl.un)[i]?≠some (.Nc xs):=fun i xs h=>by
  by_cases hi:i<ds.length
  ·rw[List.getElem?_append_left (by simpa using hi),List.getElem?_map] at h
   cases e:ds[i]? with
   |none=>rw[e] at h;cases h
   |some d=>rw[e] at h;cases h
  ·rw[List.getElem?_append_right (by simpa using hi),List.getElem?_replicate] at h
   split at h<;>cases h
 refine⟨.refl sub,by simp[hl],fun i d h=>?_,fun i xs h=>absurd h (own i xs),fun i j xs ys a h=>absurd h (own i xs),⟨fun i kvs h=>absurd h (Qo i kvs),fun i j xs ys a h=>absurd h (Qo i xs)⟩⟩
 by_cases hi:i<ds.length
 ·rw[List.getElem?_append_left (by simpa using hi),List.getElem?_map] at h
  cases e:ds[i]? with
  |none=>rw[e] at h;cases h
  |some d'=>
   rw[e] at h;cases h
   obtain⟨v,hv,rv⟩:=r.get e
   exact⟨v,by rw[List.getElem?_append_left (by rw[ah];lia),List.getElem?_map,hv];rfl,rv⟩
 ·rw[List.getElem?_append_right (by simpa using hi),List.getElem?_replicate] at h
  split at h<;>cases h
def Iz{P:Program}(MR:P.given.tree=none){w:World}{K:dq}{mg:uh}{base:Heap}{x qual:Str}{st:Stmt}{f:Addr}{fd:FuncData}{N ps:fw}{k:Nat}{C:cQ->D->Prop}(F:OB K x qual st f fd)(S:aP N ps (ai st))(len:∀ds d,C ds d->ds.length=ps.length)(body:∀X,DefX P w K mg base k N (ai st) X->∀ds d,C ds d->Lr X (ds.map Sl.val++List.replicate (N.length-ds.length) Sl.un) (bX st) (.rt d)):lX P w K mg base AS (k+1) f fd ps (Fo K C):=by
 refine F.ok S (fun vs H Q E h=>?_) (fun LU A outer s H vs Q E hr h=>?_)
 ·obtain⟨F',ds,d,sub,r,hC,q⟩:=h
  rw[r.length];exact len ds d hC
 ·obtain⟨F',ds,d,sub,r,hC,q⟩:=h
  refine⟨_,lQ,?_⟩
  have hx:DefX P w K mg base k N (ai st) (pQ AS P w K mg base N qual (ai st) f LU A outer s H E).MZ:=
   ⟨⟨rfl,rfl,rfl,S.nd,rfl,hr.units,hr.NM,MR,⟨_,_,rfl,S.gen,S.co,rfl,rfl⟩⟩,rfl,rfl,rfl,rfl,rfl,hr,⟨fun _=>rfl⟩,rfl,rfl⟩
  have hb:=body _ hx ds d hC
  have hk:Ok K ⟨F',H⟩ F' H (start N vs) (ds.map Sl.val++List.replicate (N.length-ds.length) Sl.un):=by
   unfold start
   rw[r.length]
   exact pi sub r _
  exact hb ⟨F',H⟩ F' H _ _ hk fun v F2 H2 x2 r2=>q v F2 H2 x2 r2
def DefX.callee{K:dq}{x:Str}{C:cQ->D->Prop}(h:DefX P w K mg base k N sc X)(F:lX P w K mg base AS j f fd ps (Fo K C))(hj:j<=k)(hm:mg x=some (.ref f))(hk:PySem.W.keepIn K (.ref f)=true)(hb:Binds K fd ps []):Callee X x C:=by
 obtain⟨h0,rfl,rfl,rfl,rfl,rfl,hr,_⟩:=h
 exact⟨f,fd,ps,j,F,hr.mono hj,hm,hk,hb⟩
def rz(scope sc:Scope):Scope:={ scope with names:=scope.names.map fun(n,k)=>if (k == .free&&sc.kind == .function&&sc.names.lookup n==some .cell) then (n,.cell) else (n,k) }
def vP{sc:Scope}{env:Env}(h:env.scope=sc):relabel scope env=rz scope sc:=by subst h;rfl
def wo(env:Env):∀(names:List (Str×NameKind)) (cs:List (Str×Addr)),(∀n,(n,NameKind.free)∈names->∃c,env.cells.lookup n=some c) ->
  (∀n c,cs.lookup n=some c->env.cells.lookup n=some c) ->
  ∃cl:List (Str×Addr),(forIn (m:=Sem) names cs fun(x:Str×NameKind) r=>if x.2 == .free then do let c <-cellOf env x.1;pure (ForInStep.yield ((x.1,c)::r)) else pure (ForInStep.yield r))=pure cl /\
   (∀n c,cl.lookup n=some c->env.cells.lookup n=some c)/\(∀n,(n,NameKind.free)∈names->∃c,cl.lookup n=some c)/\(∀n c,cs.lookup n=some c->∃c',cl.lookup n=some c')
 |[],cs,_,h=>⟨cs,rfl,h,(fun n hn=>nomatch hn),fun n c e=>⟨c,e⟩⟩
 |(n,k)::r,cs,hf,h=>by
  rw[List.forIn_cons]
  by_cases hk:k=.free
  ·subst hk
   obtain⟨c,hc⟩:=hf n aT
   have Mw:cellOf env n=pure c:=by unfold cellOf;rw[hc]
   have h':∀m c',((n,c)::cs).lookup m=some c'->env.cells.lookup m=some c':=fun m c' e=>by
    rw[dA] at e
    cases hm:m==n with
    |true=>rw[hm] at e;cases e;rw[eq_of_beq hm];exact hc
    |false=>rw[hm] at e;exact h m c' e
   obtain⟨cl,e1,e2,e3,e4⟩:=wo env r ((n,c)::cs) (fun m hm=>hf m (aj _ hm)) h'
   refine⟨cl,?_,e2,fun m hm=>?_,fun m c' e=>?_⟩
   ·show((do let c <-cellOf env n;pure (ForInStep.yield ((n,c)::cs))) >>= _:Sem (List (Str×Addr)))=_
    rw[Mw]
    exact e1
   ·rcases aC.mp hm with z | z
    ·cases z
     exact e4 n c (by rw[dA,beq_self_eq_true])
    ·exact e3 m z
   ·by_cases hm:m=n
    ·subst hm;exact e4 m c (by rw[dA,beq_self_eq_true])
    ·exact e4 m c' (by rw[dA,beq_eq_false_iff_ne.mpr hm];exact e)
  ·have hb:(k==NameKind.free)=false:=beq_eq_false_iff_ne.mpr hk
   obtain⟨cl,e1,e2,e3,e4⟩:=wo env r cs (fun m hm=>hf m (aj _ hm)) h
   refine⟨cl,?_,e2,fun m hm=>?_,e4⟩
   ·show((if (k==NameKind.free)=true then _ else pure (ForInStep.yield cs)) >>= _:Sem (List (Str×Addr)))=_
    rw[hb,ay aF]
    exact e1
   ·rcases aC.mp hm with z | z
    ·cases z;exact absurd rfl hk
    ·exact e3 m z
def zi{scope:Scope}{env:Env}(hf:∀n,(n,NameKind.free)∈scope.names->∃c,env.cells.lookup n=some c):
  ∃cl:List (Str×Addr),closureFor scope env=pure cl/\(∀n c,cl.lookup n=some c->env.cells.lookup n=some c)/\(∀n,(n,NameKind.free)∈scope.names->∃c,cl.lookup n=some c):=by
 obtain⟨cl,e1,e2,e3,_⟩:=wo env scope.names [] hf (fun n c e=>nomatch e)
 refine⟨cl,?_,e2,e3⟩
 show(forIn (m:=Sem) scope.names ([]:List (Str×Addr)) (fun(x:Str×NameKind) r=>if x.2 == .free then do let c <-cellOf env x.1;pure (ForInStep.yield ((x.1,c)::r)) else pure (ForInStep.yield r)) >>= fun s=>pure s)=pure cl
 rw[e1];rfl
structure mW(N:fw)(sc:Scope)(N':fw)(scope:Scope):Prop where
 kind:scope.kind=.function
 cells:∀y∈scope.names,y.2=.cell->scope.names.lookup y.1=some .cell
 names:∀y∈scope.names,y.2=.local->scope.names.lookup y.1=some .local
 free:∀y∈scope.names,y.2=.free->sc.names.lookup y.1=some .cell
 QW:sc.kind=.function
 nd:N'.Nodup
 old:∀(i:Nat) x,i<N.length->N'[i]?=some x->nJ (rz scope sc) x=true->N[i]?=some x/\scope.names.lookup x=some .free
 len:N.length<=N'.length
def xu(scope:Scope)(x:Str):Bool:=match scope.names.lookup x with
 |some .cell=>true
 |_=>false
structure FC(names:List (Str×NameKind))(cells:List (Str×Addr))(n:Nat)(cl:List (Str×Addr))(h:Heap):Prop where
 look:∀m c,cl.lookup m=some c->(cells.lookup m=some c/\¬(m,NameKind.cell)∈names)\/(n<=c/\(m,NameKind.cell)∈names/\h.IsCell c none)
 has:∀m,((m,NameKind.cell)∈names\/∃c,cells.lookup m=some c)->∃c,cl.lookup m=some c
 inj:∀x y c,n<=c->cl.lookup x=some c->cl.lookup y=some c->x=y
def mw:∀(names:List (Str×NameKind)) (cells:List (Str×Addr)) (s:Shared) (Q:List (Str×Addr)->Shared->Prop),(∀m c,cells.lookup m=some c->c<s.heap.objs.size) ->
  (∀cl h,(∀b o,s.heap.get? b=some o->h.get? b=some o)->FC names cells s.heap.objs.size cl h->Q cl { s with heap:=h }) ->
  wpAny M A (forIn names cells fun x __s=>match x with
   |(name,kind)=>if (kind==NameKind.cell)=true then do
     let a <-alloc { cls:=Value.type "cell",data:=Data.cell none }
     pure (ForInStep.yield ((name,a)::__s))
    else pure (ForInStep.yield __s)) Q E s
 |[],cells,s,Q,hb,q=>by
  refine ar (q cells s.heap (fun _ _ e=>e) ⟨fun m c e=>.inl ⟨e,fun z=>nomatch z⟩,fun m hm=>hm.elim (fun z=>nomatch z) id,fun x y c hc e _=>absurd (hb x c e) (rS hc)⟩)
 |(name,kind)::rest,cells,s,Q,hb,q=>by
  rw[List.forIn_cons]
  by_cases hk:kind=.cell
  ·subst hk
   refine af ?_
   show wpAny M A (alloc _ >>= _) _ _ s
   refine af (wpAny_alloc (ar ?_))
   have MV:(s.heap.push { cls:=Value.type "cell",data:=Data.cell none }).objs.size=s.heap.objs.size+1:=by rw[gN]
   refine mw rest _ _ _ (fun m c e=>?_) fun cl h kp f=>q cl h (fun b o e=>kp b o (Heap.get?_push_of_some _ e)) ⟨fun m c e=>?_,fun m hm=>f.has m ?_,fun x y c hc ex ey=>?_⟩
   ·show c<(s.heap.push { cls:=Value.type "cell",data:=Data.cell none }).objs.size
    rw[MV]
    rw[dA] at e
    split at e
    ·cases e;exact rT _
    ·exact hZ (hb m c e)
   ·have f':=f.look m c e
    rcases f' with⟨e1,e2⟩ | ⟨e1,e2,e3⟩
    ·rw[dA] at e1
     split at e1
     ·rename_i hm
      cases e1
      have Ow:m=name:=by simpa using hm
      subst Ow
      exact .inr ⟨az _,by simp,⟨_,kp _ _ (Heap.get?_push_size _ rfl),rfl⟩⟩
     ·rename_i hm
      have Ow:m≠name:=by simpa using hm
      exact .inl ⟨e1,fun z=>by
       rcases aC.mp z with z | z
       ·exact Ow (c8 Prod.fst z)
       ·exact e2 z⟩
    ·have XC:s.heap.objs.size+1<=c:=by rw[<-MV];exact e1
     exact .inr ⟨by lia,by simp[e2],e3⟩
   ·rcases hm with hm | ⟨c,hc⟩
    ·rcases aC.mp hm with z | z
     ·right
      have:m=name:=c8 Prod.fst z
      subst this
      exact⟨s.heap.objs.size,by rw[dA];simp⟩
     ·exact .inl z
    ·right
     rw[dA]
     split
     ·exact⟨_,rfl⟩
     ·exact⟨c,hc⟩
   ·by_cases Nt:s.heap.objs.size+1<=c
    ·exact f.inj x y c (by show(s.heap.push _).objs.size<=c;rw[MV];exact Nt) ex ey
    ·have one:∀z,cl.lookup z=some c->z=name:=fun z ez=>by
      rcases f.look z c ez with⟨e1,_⟩ | ⟨e1,_⟩
      ·rw[dA] at e1
       split at e1
       ·rename_i hm;simpa using hm
       ·exact absurd (hb z c e1) (rS hc)
      ·exact absurd (show s.heap.objs.size+1<=c from aZ (nO MV.symm) e1) Nt
     rw[one x ex,one y ey]
  ·have RE:(kind==NameKind.cell)=false:=by simpa using hk
   have mem:∀m,(m,NameKind.cell)∈(name,kind)::rest ↔ (m,NameKind.cell)∈rest:=fun m=>by
    constructor
    ·intro z
     rcases aC.mp z with z | z
     ·exact absurd (c8 Prod.snd z).symm hk
     ·exact z
    ·intro z;simp[z]
   refine af ?_
   show wpAny M A (if (kind==NameKind.cell)=true then _ else _) _ _ s
   rw[RE,ay aF]
   refine ar (mw rest cells s Q hb fun cl h kp f=>q cl h kp ⟨fun m c e=>?_,fun m hm=>f.has m ?_,f.inj⟩)
   ·rw[mem];exact f.look m c e
   ·rw[mem] at hm;exact hm
def xz{s:Shared}{scope:Scope}{env:Env}{cl:List (Str×Addr)}{Q:Env->Shared->Prop}(hb:∀m c,cl.lookup m=some c->c<s.heap.objs.size)(h:∀Rb h',(∀b o,s.heap.get? b=some o->h'.get? b=some o)->(∃m,h'.Ns s.heap.objs.size m)->FC scope.names cl s.heap.objs.size Rb h'->Q { scope:=scope,locals:=s.heap.objs.size,globals:=env.globals,cells:=Rb,qual:=env.qual,func:=none,code:=env.code,frame:=env.frame,builtins:=env.builtins } { s with heap:=h' }):
  wpAny M A (newFunctionEnv scope env.globals cl [] env.qual none .none (some env)) Q E s:=by
 unfold newFunctionEnv
 refine af (wpAny_alloc ?_)
 have MV:(s.heap.push { cls:=Value.type "dict",data:=Data.dict #[] }).objs.size=s.heap.objs.size+1:=by rw[gN]
 refine af (mw scope.names cl _ _ (fun m c e=>?_) fun Rb h' kp f=>?_)
 ·show c<(s.heap.push { cls:=Value.type "dict",data:=Data.dict #[] }).objs.size
  rw[MV];exact hZ (hb m c e)
 ·refine af (ar (ar ?_))
  obtain⟨o,es,ep,g1,g2,g3,g4⟩:=Heap.Ns.new s.heap (.type "dict")
  refine h Rb h' (fun b o e=>kp b o (Heap.get?_push_of_some _ e)) ⟨_,o,es,ep,kp _ _ g1,g2,g3,g4⟩ ⟨fun m c e=>?_,f.has,fun x y c hc ex ey=>?_⟩
  ·rcases f.look m c e with z | ⟨z1,z2,z3⟩
   ·exact .inl z
   ·have Vn:s.heap.objs.size+1<=c:=aZ (nO MV.symm) z1
    exact .inr ⟨Nat.le_of_succ_le Vn,z2,z3⟩
  ·by_cases Nt:s.heap.objs.size+1<=c
   ·exact f.inj x y c (aZ (nO MV) Nt) ex ey
   ·have e:c=s.heap.objs.size:=Nat.le_antisymm (Nat.le_of_lt_succ (Nat.lt_of_not_le Nt)) hc
    rcases f.look x c ex with⟨z,_⟩ | ⟨z,_⟩
    ·exact absurd (hb x c z) (rS hc)
    ·have z':s.heap.objs.size+1<=c:=aZ (nO MV.symm) z
     exact absurd z' Nt
structure MU(X X':Cx)(N':fw)(PV:Scope)(ow:Str->Bool):Prop where
 Nv:NH X' N' PV
 Ve:X'.calm=X.calm
 prog:X'.prog=X.prog
 w':X'.w=X.w
 k':X'.K=X.K
 Na:X'.mg=X.mg
 MT:X'.base=X.base
 a':X'.A=X.A
 UA:∀x,ow x=true->X'.fn x=true
structure Nm(X X':Cx)(N':fw)(PV:Scope)(ow:Str->Bool):Prop where
 at':At X' N' PV
 prog:X'.prog=X.prog
 w':X'.w=X.w
 k':X'.K=X.K
 Na:X'.mg=X.mg
 MT:X'.base=X.base
 a':X'.A=X.A
 UA:∀x,ow x=true->X'.fn x=true
section
variable {ow:Str->Bool}
def MU.calm(h:MU X X' N' PV ow)(hc:X.calm=true):Nm X X' N' PV ow:=⟨h.Nv.at (h.Ve.trans hc),h.prog,h.w',h.k',h.Na,h.MT,h.a',h.UA⟩
def Nm.callee{C:cQ->D->Prop}(h:Nm X X' N' PV ow)(c:Callee X x C):Callee X' x C:=by
 obtain⟨f,fd,ps,k,F,hr,hm,hk,hb⟩:=c
 refine⟨f,fd,ps,k,?_,?_,?_,?_,?_⟩
 ·rw[h.prog,h.w',h.k',h.Na,h.MT];exact F
 ·rw[h.a'];exact hr
 ·rw[h.Na];exact hm
 ·rw[h.k'];exact hk
 ·rw[h.k'];exact hb
end
inductive LO(X:Cx)(tg elt:Expr)(ifs:ur):cQ->eU->cQ->Prop where
 |nil {ρ:eU}:LO X tg elt ifs [] ρ []
 |take {d r:D} {ds rs:cQ} {ρ ρ1:eU}:ME X ρ tg d ρ1->(ifs=[]\/∃c,ifs=[c]/\Lu X ρ1 c true)->Lq X ρ1 elt r->LO X tg elt ifs ds ρ1 rs->LO X tg elt ifs (d::ds) ρ (r::rs)
 |skip {d:D} {ds rs:cQ} {ρ ρ1:eU} {c:Expr}:ME X ρ tg d ρ1->ifs=[c]->Lu X ρ1 c false->LO X tg elt ifs ds ρ1 rs->LO X tg elt ifs (d::ds) ρ rs
section
variable {R:Result->Shared->Prop}
def wn{env:Env}(I:Nat->Shared->Prop)(turn:∀n s,I n s->wpAny (model prog w) A (pyNext it) (fun r s₁=>match r with
   |none=>R (.ok .next) s₁
   |some v=>wpAny (model prog w) A (letOwnedTupleGo target it v) (fun _ s₀=>wpAny (model prog w) A (assign target env v) (fun _ s₂=>
     wpAny (model prog w) A (forIn ifs true fun c r=>if r=true then do let ok <-isTrue c env (eval c env);pure (ForInStep.yield ok) else pure (ForInStep.yield r)) (fun ok s₃=>
      if ok=true then wpAny (model prog w) A (eval elt env) (fun x s₄=>
       wpAny (model prog w) A (call (.builtin "list.append") [acc,x]) (fun _ s₅=>∃m,m<n/\I m s₅) (fun _ _=>False) s₄) (fun _ _=>False) s₃
      else ∃m,m<n/\I m s₃) (fun _ _=>False) s₂) (fun _ _=>False) s₀) (fun _ _=>False) s₁) (fun _ _=>False) s)(n:Nat)(h:I n s):
  codeAny (model prog w) A (.compLoop (.ListComp elt [⟨target,iter,ifs,0⟩] scope pos) 0 it acc env) R s:=by
 refine codeAny_loop rfl I (fun n s hI=>?_) n h
 show wpAny _ A ((compTurn (.ListComp elt [⟨target,iter,ifs,0⟩] scope pos) 0 it acc env).onRaise (fun x=>do noteFrame x env;theTreesLotGoes x)) _ _ s
 refine wpAny_noted ?_
 rw[compTurn_list]
 refine af (uU (af (aR (turn n s hI) (fun r s₁ h₁=>?_) fun _ _ h'=>h'.elim)))
 cases r with
 |none=>exact ar h₁
 |some v=>
  refine af (aR h₁ (fun _ s₀ h₀=>af (aR h₀ (fun _ s₂ h₂=>af (aR h₂ (fun ok s₃ h₃=>?_) fun _ _ h'=>h'.elim)) fun _ _ h'=>h'.elim)) fun _ _ h'=>h'.elim)
  cases ok with
  |false=>exact ar ⟨rfl,h₃⟩
  |true=>
   exact af (af (aR h₃ (fun x s₄ h₄=>af (aR h₄ (fun _ s₅ h₅=>ar (ar ⟨rfl,h₅⟩)) fun _ _ h'=>h'.elim)) fun _ _ h'=>h'.elim))
end
def Ok.OT{K:dq}{p:Addr}(k:Ok K B F H σ ρ)(hf:F p=none)(hb:B.H p=none)(hn:L5 σ ρ p)(hl:∃vs,H p=some (.lst vs)):Ok K B F (gq H p o) σ ρ:=by
 refine⟨⟨fun b u q=>?_,fun b u q=>?_,k.sf,k.nw⟩,k.len,k.vals,fun i xs e=>?_,k.dist,k.MY.to (.refl _) (fun b φ e1 e2 _=>⟨by rw[bo (fun z=>by subst z;obtain⟨vs,hl⟩:=hl;rw[hl] at e1;cases e1)];exact e1,e2⟩) fun _ _ e=>⟨e,rfl⟩⟩
 ·have ne:b≠p:=fun z=>by subst z;rw[hf] at q;cases q
  rw[bo ne];exact k.sub b u q
 ·have ne:b≠p:=fun z=>by subst z;rw[hb] at q;cases q
  rw[bo ne];exact k.sh b u q
 ·obtain⟨a,vs,h1,h2,h3,h4,h5⟩:=k.Mu i xs e
  have ne:a≠p:=fun z=>by subst z;exact hn i xs e h1
  exact⟨a,vs,h1,by rw[bo ne];exact h2,h3,h4,h5⟩
def Ok.more{K:dq}(k:Ok K B F H σ ρ)(n:Nat):Ok K B F H (σ++List.replicate n none) (ρ++List.replicate n .un):=by
 have get:∀(i:Nat) s,(ρ++List.replicate n Sl.un)[i]?=some s->s ≠ .un->ρ[i]?=some s/\(σ++List.replicate n none)[i]?=σ[i]?:=fun i s h hn=>by
  by_cases hi:i<ρ.length
  ·rw[List.getElem?_append_left hi] at h
   exact⟨h,List.getElem?_append_left (by rw[k.len];exact hi)⟩
  ·rw[List.getElem?_append_right (by lia),List.getElem?_replicate] at h
   split at h
   ·cases h;exact absurd rfl hn
   ·cases h
 refine⟨k.toExt,by simp[k.len],fun i d h=>?_,fun i xs h=>?_,fun i j xs ys a h1 h2 h3 h4=>?_,k.MY.to (.refl _) (fun _ _ e1 e2 _=>⟨e1,e2⟩) fun i kvs h=>get i _ h fun z=>nomatch z⟩
 ·obtain⟨e1,e2⟩:=get i _ h fun z=>nomatch z
  rw[e2];exact k.vals i d e1
 ·obtain⟨e1,e2⟩:=get i _ h fun z=>nomatch z
  rw[e2];exact k.Mu i xs e1
 ·obtain⟨e1,e2⟩:=get i _ h1 fun z=>nomatch z
  obtain⟨g1,g2⟩:=get j _ h2 fun z=>nomatch z
  rw[e2] at h3;rw[g2] at h4
  exact k.dist i j xs ys a e1 g1 h3 h4
def jz{x:Str}{names:List (Str×NameKind)}{k:NameKind}(h:names.lookup x=some k):(x,k)∈names:=gd h
def tf{scope sc:Scope}{x:Str}(hf:sc.kind=.function)(fr:∀y∈scope.names,y.2=.free->sc.names.lookup y.1=some .cell){k:NameKind}(h:(rz scope sc).names.lookup x=some k):
  ∃k',scope.names.lookup x=some k'/\(k'=.free->k=.cell)/\(k' ≠ .free->k=k'):=by
 have go:∀names:List (Str×NameKind),(∀y∈names,y.2=.free->sc.names.lookup y.1=some .cell)->(names.map fun(n,k)=>if (k==NameKind.free&&sc.kind == .function&&sc.names.lookup n==some .cell) then (n,NameKind.cell) else (n,k)).lookup x=some k ->
   ∃k',names.lookup x=some k'/\(k'=.free->k=.cell)/\(k' ≠ .free->k=k'):=by
  intro names
  induction names with
  |nil=>intro _ h;cases h
  |cons y r ih=>
   intro fr h
   obtain⟨n,kk⟩:=y
   have hr:=ih fun y hy=>fr y (aj _ hy)
   by_cases SQ:kk=.free
   ·subst SQ
    have hc:=fr (n,.free) aT rfl
    have e:(if (NameKind.free==NameKind.free&&sc.kind == .function&&sc.names.lookup n==some .cell)=true then (n,NameKind.cell) else (n,NameKind.free))=(n,NameKind.cell):=by
     have Nt:sc.names.lookup n=some .cell:=hc
     rw[Nt,hf];rfl
    rw[dQ] at h
    simp only[e] at h
    rw[dA] at h ⊢
    cases hx:x==n with
    |true=>rw[hx] at h;cases h;exact⟨.free,rfl,fun _=>rfl,fun z=>absurd rfl z⟩
    |false=>rw[hx] at h;exact hr h
   ·have e:(if (kk==NameKind.free&&sc.kind == .function&&sc.names.lookup n==some .cell)=true then (n,NameKind.cell) else (n,kk))=(n,kk):=by
     have hb:(kk==NameKind.free)=false:=beq_eq_false_iff_ne.mpr SQ
     rw[hb];rfl
    rw[dQ] at h
    simp only[e] at h
    rw[dA] at h ⊢
    cases hx:x==n with
    |true=>rw[hx] at h;cases h;exact⟨_,rfl,fun z=>absurd z SQ,fun _=>rfl⟩
    |false=>rw[hx] at h;exact hr h
 exact go scope.names fr h
def Je(X:Cx)(N':fw)(scope:Scope)(cl:List (Str×Addr))(C:Addr)(s3:Shared)(H3:Hp)(fp:List Addr):Cx:=
 { X with N:=N',s₀:=s3,H₀:=H3,env:=compEnvC scope cl C X.env,outer:=X.stack,stack:=X.stack,ex:=fp,fn:=xu scope,pn:=[],xe:=fun _ _=>False }
section
variable {tn:Nat->Heap->Prop}{J:It}
def Hd{cl N5:List (Str×Addr)}(t:NH X N sc)(S:mW N sc N' scope)(I3:Inv X pins σ H3 s3)(NK:∀n c,N5.lookup n=some c->X.env.cells.lookup n=some c)(Oz:∀n,(n,NameKind.free)∈scope.names->∃c,N5.lookup n=some c)(CN:FC scope.names N5 s3.heap.objs.size cl h₁)(fo:∀b∈fp,oH X pins H3 b)(fl:∀b∈fp,b<s3.heap.objs.size):(Je X N' scope cl s3.heap.objs.size s3 H3 fp).Ok:=by
 refine⟨I3.ok.mod,?_,I3.ok.glob,I3.ok.blt,az _,fun x y c h1 h2=>?_,fun x hx=>?_,(fun x c hf h=>?_),I3.ok.hd,I3.ok.frames,.inl rfl,fun b hb=>⟨?_,fun x c h=>?_⟩,I3.bs,aZ I3.ok.OV I3.sz,fun b o h hb=>?_,fun b hb h=>?_,I3.stack,I3.ML⟩
 ·exact S.kind
 ·by_cases hc:s3.heap.objs.size<=c
  ·exact CN.inj x y c hc h1 h2
  ·have old:∀z,cl.lookup z=some c->X.env.cells.lookup z=some c:=fun z ez=>by
    rcases CN.look z c ez with⟨e,_⟩ | ⟨e,_⟩
    ·exact NK z c e
    ·exact absurd e hc
   exact I3.ok.inj x y c (old x h1) (old y h2)
 ·have NF:(relabel scope X.env).names.lookup x=some .cell\/(relabel scope X.env).names.lookup x=some .free:=hx
  rw[vP t.eS] at NF
  have hk:∃k,(k=NameKind.cell\/k=.free)/\(rz scope sc).names.lookup x=some k:=by
   rcases NF with h | h
   ·exact⟨_,.inl rfl,h⟩
   ·exact⟨_,.inr rfl,h⟩
  obtain⟨k,hk,h⟩:=hk
  obtain⟨k',h1,h2,h3⟩:=tf S.QW S.free h
  by_cases hf:k'=.free
  ·subst hf;exact CN.has x (.inr (Oz x (jz h1)))
  ·have e:=h3 hf
   rcases hk with hk | hk
   ·have e':k'=.cell:=e.symm.trans hk
    subst e'
    exact CN.has x (.inl (jz h1))
   ·exact absurd (e.symm.trans hk) hf
 ·have hm:(x,NameKind.cell)∈scope.names:=by
   have QJ:xu scope x=true:=hf
   unfold xu at QJ
   cases e:scope.names.lookup x with
   |none=>rw[e] at QJ;cases QJ
   |some kk=>rw[e] at QJ;cases kk<;>first | exact jz e | cases QJ
  rcases CN.look x c h with⟨_,e⟩ | ⟨e,_⟩
  ·exact absurd hm e
  ·exact e
 ·exact bL (fl b hb)
 ·rcases CN.look x c h with⟨e,_⟩ | ⟨e,_⟩
  ·exact(fo b hb).2.2.2.2.1 x c (NK x c e)
  ·exact fun z=>absurd (fl b hb) (by rw[<-z];exact rS e)
 ·rcases(fo b hb).2.2.2.1 with z | z
  ·exact I3.ok.Me b o h z
  ·have h1:=aK h
   have h2:=I3.ok.OV
   exact absurd (aE h1 (aZ h2 z)) (fv _)
 ·have h':b∈oo X.stack:=h
  rcases aC.mp (I3.MN b h') with z | z
  ·exact(fo b hb).2.1 z
  ·exact(fo b hb).2.2.1 z
def ET{tk:Nat}{cl N5:List (Str×Addr)}(t:NH X N sc)(S:mW N sc N' scope)(I3:Inv X pins σ H3 s3)(NK:∀n c,N5.lookup n=some c->X.env.cells.lookup n=some c)(Oz:∀n,(n,NameKind.free)∈scope.names->∃c,N5.lookup n=some c)(CN:FC scope.names N5 s3.heap.objs.size cl h₁)(fo:∀b∈fp,oH X pins H3 b)(fl:∀b∈fp,b<s3.heap.objs.size)(Rz:∃m,h₁.Ns s3.heap.objs.size m)(kp:∀b o,s3.heap.get? b=some o->h₁.get? b=some o):
  Inv (Je X N' scope cl s3.heap.objs.size s3 H3 fp) [] (σ++List.replicate (N'.length-N.length) none) H3 { s3 with heap:=h₁,toks:=tk }:=by
 obtain⟨m,hm⟩:=Rz
 have hlen:σ.length=N.length:=by rw[I3.len,t.eN]
 refine⟨Hd t S I3 NK Oz CN fo fl,rfl,I3.bare,Un.kept kp,⟨m,hm,fun i x v h1 h2 h3=>?_⟩,fun x c h=>?_,I3.LA.fresh (az _),fun x c h=>(CN.look x c h).elim (fun z=>I3.L7 x c (NK x c z.1)) (fun z=>I3.LA.fresh z.1),(fun p hp=>nomatch hp),I3.LA.kept kp,?_⟩
 ·have hi:i<σ.length:=by
   by_cases hi:i<σ.length
   ·exact hi
   ·rw[List.getElem?_append_right (by lia),List.getElem?_replicate] at h2
    split at h2<;>cases h2
  rw[List.getElem?_append_left hi] at h2
  have Uw:IJ (rz scope sc) x:=by rw[<-vP t.eS];exact h3
  have hv:nJ (rz scope sc) x=true:=by
   unfold nJ
   rcases Uw with z | z | z<;>rw[z]
  obtain⟨e1,e2⟩:=S.old i x (by lia) h1 hv
  have Mw:sc.names.lookup x=some .cell:=S.free _ (jz e2) rfl
  obtain⟨m0,Yq,WU⟩:=I3.loc
  obtain⟨u,ru,lk⟩:=WU i x v (by rw[t.eN];exact e1) h2 (by rw[t.eS];exact .inr (.inl Mw))
  refine⟨u,ru,?_⟩
  have WV:X.env.kindOf x=some .cell:=by show X.env.scope.names.lookup x=_;rw[t.eS];exact Mw
  rcases lk with⟨k,_⟩ | ⟨_,c,hc,RI⟩
  ·rw[WV] at k;cases k
  ·obtain⟨c',Nt⟩:=CN.has x (.inr (Oz x (jz e2)))
   have ho:N5.lookup x=some c':=by
    rcases CN.look x c' Nt with⟨z,_⟩ | ⟨_,z,_⟩
    ·exact z
    ·have z':=S.cells _ z rfl
     rw[e2] at z';cases z'
   have e:c'=c:=bc ((NK x c' ho).symm.trans hc)
   subst e
   refine .inr ⟨?_,c',Nt,?_⟩
   ·show(relabel scope X.env).names.lookup x=_\/(relabel scope X.env).names.lookup x=_
    rw[vP t.eS]
    rcases Uw with z | z | z
    ·obtain⟨k',g1,g2,g3⟩:=tf S.QW S.free z
     by_cases RE:k'=.free
     ·have:=g2 RE;cases this
     ·have e:=g3 RE
      subst e
      rw[e2] at g1
      cases g1
    ·exact .inl z
    ·exact .inr z
   ·obtain⟨oc,ho,hd⟩:=RI
    exact⟨oc,kp _ _ ho,hd⟩
 ·rcases CN.look x c h with⟨z,_⟩ | ⟨_,_,z⟩
  ·obtain⟨v,oc,ho,hd⟩:=I3.cell x c (NK x c z)
   exact⟨v,oc,kp _ _ ho,hd⟩
  ·exact⟨_,z⟩
 ·show(σ++List.replicate (N'.length-N.length) none).length=N'.length
  have:=S.len
  rw[bV,dH,hlen]
  lia
end
def IU(X:Cx)(pins:fQ)(σ:St)(F2 H2:Hp)(rs:cQ)(D' C:Addr)(s':Shared):Prop:=
 ∃(F' H':Hp) (vs:fK) (m:uh),Inv X pins σ H' s'/\s'.heap.Ns C m/\H' C=none/\C≠X.env.locals/\X.s₀.heap.objs.size<=C/\(∀x c,X.env.cells.lookup x=some c->c≠C)/\(∀p∈X.pn++pins,p.1≠C) /\
  Ext ⟨F2,H2⟩ F' H'/\H2 D'=none/\H' D'=some (.lst vs)/\F' D'=none/\Ls X.K F' vs rs/\D'≠C
section
variable {tn:Nat->Heap->Prop}{J:It}
def BC{s3:Shared}{DD C:Addr}{h₁:Heap}{tk:Nat}{cl N5:List (Str×Addr)}(t:NH X N sc)(md:X.calm=true\/(J.L3/\IR X.A H2))(S:mW N sc N' scope)(hC:s3.heap.objs.size=C)(S9:DD≠C)(I3:Inv X pins σ (gq H2 DD (.lst [])) s3)(Oi:H2 DD=none)(Qb:∀b∈fp,oH X pins (gq H2 DD (.lst [])) b)(Xu:∀b∈fp,b<s3.heap.objs.size)(T:yp X.prog X.w X.K tg J fp it tn)(Vz:tn 0 s3.heap)(Pt:∃m,h₁.Ns s3.heap.objs.size m)(Ua:∀b o,s3.heap.get? b=some o->h₁.get? b=some o)(k2:Ok X.K B F2 H2 σ ρ)(JO:rP X.K J F2 ds)(hz:ds.length<sizeLine)(NK:∀n c,N5.lookup n=some c->X.env.cells.lookup n=some c)(Oz:∀n,(n,NameKind.free)∈scope.names->∃c,N5.lookup n=some c)(CN:FC scope.names N5 s3.heap.objs.size cl h₁)(run:∀X',MU X X' N' (rz scope sc) (xu scope)->LO X' tg elt ifs ds (ρ++List.replicate (N'.length-N.length) .un) rs){RR:Value->Addr->Result->Shared->Prop}(S6:∀D' C s',IU X pins σ F2 H2 rs D' C s'->RR (.ref D') C (.ok .next) s'):
  codeAny (model X.prog X.w) X.A (.compStart (.ListComp elt [⟨tg,iter,ifs,0⟩] scope pos) 0 (.ref it) (.ref DD) (compEnvC scope cl C X.env)) (RR (.ref DD) C) { s3 with heap:=h₁,toks:=tk }:=by
 have I4:Inv (Je X N' scope cl C s3 (gq H2 DD (.lst [])) fp) [] (σ++List.replicate (N'.length-N.length) none) (gq H2 DD (.lst [])) { s3 with heap:=h₁,toks:=tk }:=by
  have q:=ET (N':=N') (tk:=tk) (fp:=fp) t S I3 NK Oz CN Qb Xu Pt Ua
  rw[hC] at q
  exact q
 generalize O5:Je X N' scope cl C s3 (gq H2 DD (.lst [])) fp=X' at I4
 have cx:MU X X' N' (rz scope sc) (xu scope):=by
  subst O5
  exact⟨⟨rfl,vP t.eS,S.nd,rfl,t.un,t.dp,t.tree,t.fr⟩,rfl,rfl,rfl,rfl,rfl,rfl,rfl,fun x hx=>hx⟩
 have T9:X'.calm=true\/(J.L3/\Hr X'):=by
  rcases md with z | ⟨z,ea,oe,u,vs,k1,k2,k3,k4⟩
  ·exact .inl (cx.Ve.trans z)
  ·refine .inr ⟨z,ea,oe,u,vs,by rw[cx.a'];exact k1,?_,k3,k4⟩
   have e:X'.H₀=gq H2 DD (.lst []):=by subst O5;rfl
   rw[e,bo (dR k2 Oi)];exact k2
 have run':=run X' cx
 have eP:X'.prog=X.prog:=cx.prog
 have eW:X'.w=X.w:=cx.w'
 have eA:X'.A=X.A:=cx.a'
 have eK:X'.K=X.K:=cx.k'
 have Oo:X'.env=compEnvC scope cl C X.env:=by subst O5;rfl
 have eX:X'.xe=fun _ _=>False:=cx.Nv.MZ
 have Q6:X'.ex=fp:=by subst O5;rfl
 have XA:X'.pn=[]:=by subst O5;rfl
 have k4:Ok X.K B F2 (gq H2 DD (.lst [])) (σ++List.replicate (N'.length-N.length) none) (ρ++List.replicate (N'.length-N.length) .un):=(k2.QU Oi).more _
 have Wr:L5 (σ++List.replicate (N'.length-N.length) none) (ρ++List.replicate (N'.length-N.length) .un) DD:=(k2.more _).noOwn Oi
 have bD:B.H DD=none:=k2.sh.free Oi
 have fD:F2 DD=none:=k2.sub.free Oi
 have Tf:∀{H':Hp},(∀b∈fp,H' b=none)->∀b∈fp,oH X' [] H' b:=fun {H'} hn b hb=>by
  refine⟨hn b hb,?_,?_,.inl (by rw[Q6];exact hb),fun x c h=>?_,fun p hp=>?_⟩
  ·exact(I4.ok.Q3 b (by rw[Q6];exact hb)).1
  ·exact I4.ok.NV b (by rw[Q6];exact hb)
  ·exact(I4.ok.Q3 b (by rw[Q6];exact hb)).2 x c h
  ·rw[XA] at hp;exact nomatch hp
 have fin:∀(σ':St) (F' H':Hp) (vs:fK) (s':Shared),Inv X' [] σ' H' s'->Ext ⟨F2,H2⟩ F' H'->H' DD=some (.lst vs)->F' DD=none->Ls X.K F' vs rs->RR (.ref DD) C (.ok .next) s':=fun σ' F' H' vs s' I' x' h1 h2 h3=>by
  refine S6 DD C s' ?_
  have base:=I'.base
  have Nq:=I'.os
  have QH:=I'.LA
  have Nh:=I'.free
  obtain⟨m,hm,_⟩:=I'.loc
  rw[Oo] at Nh hm
  rw[Q6] at base
  have e1:X'.fs=oo X.stack:=by subst O5;rfl
  have e2:X'.H₀=gq H2 DD (.lst []):=by subst O5;rfl
  have e3:X'.s₀=s3:=by subst O5;rfl
  rw[e1,e2,e3] at base
  rw[e3] at Nq
  rw[eP,eW] at QH
  have IX:Inv X pins σ H' s':=I3.O7 (ch:=fp) Nq base QH I'.bare fun b hb=>⟨(Qb b hb).2.2.2.1,(Qb b hb).2.1,(Qb b hb).2.2.2.2.1,(Qb b hb).2.2.2.2.2⟩
  refine⟨F',H',vs,m,IX,hm,Nh,?_,?_,fun x c h z=>?_,fun p hp z=>?_,x',Oi,h1,h2,h3,S9⟩
  ·have:=I3.lt;rw[hC] at this;exact fun z=>absurd (z ▸ this) (fv _)
  ·have:=I3.sz;rw[hC] at this;exact this
  ·obtain⟨v,q⟩:=I3.cell x c h
   have:=q.lt;rw[hC,z] at this;exact absurd this (fv _)
  ·have:=aK (I3.pin p hp).1
   rw[hC,z] at this;exact absurd this (fv _)
 have TL:tn 0 h₁:=T.keep 0 _ _ Vz fun b hb o e=>Ua b o e
 have loop:∀s4:Shared,s4 = { s3 with heap:=h₁,toks:=tk } ->
   codeAny (model X.prog X.w) X.A (.compLoop (.ListComp elt [⟨tg,iter,ifs,0⟩] scope pos) 0 (.ref it) (.ref DD) (compEnvC scope cl C X.env)) (RR (.ref DD) C) s4:=by
  rintro s4 rfl
  obtain⟨P,hP⟩:∃P:Nat->Shared->Prop,P=fun n s'=>∃(i:Nat) (σ':St) (F' H':Hp) (ρ':eU) (vs:fK) (r0 r1:cQ),Inv X' [] σ' H' s'/\tn i s'.heap/\(∀b∈fp,H' b=none)/\Ok X.K B F' H' σ' ρ'/\Ext ⟨F2,H2⟩ F' H'/\H' DD=some (.lst vs)/\F' DD=none/\L5 σ' ρ' DD /\
    Ls X.K F' vs r0/\LO X' tg elt ifs (ds.drop i) ρ' r1/\r0++r1=rs/\r0.length<=i/\i<=ds.length/\n=ds.length+1-i:=⟨_,rfl⟩
  refine wn P ?_ (ds.length+1) (hP ▸
   ⟨0,_,F2,_,_,[],[],rs,I4,TL,fun b hb=>(Qb b hb).1,k4,⟨k2.sub.trans (bv Oi),bv Oi,.refl _,fun a h=>.inl h⟩,cH,fD,Wr,.nil,by simpa using run',rfl,gy _,gy _,by simp⟩)
  intro n s' hs
  rw[hP] at hs
  obtain⟨i,σ',F',H',ρ',vs,r0,r1,I',TK,Uz,k',x',hH,hF,Ws,rv,cr,er,Yo,hi,rfl⟩:=hs
  have Vk:=JO i F' H' x'.sf k'.sub
  have TI:=T.item X' eP eW eK T9 i [] s' σ' H' (fun _ _=>False) I' (Tf Uz) TK
  have TD:=T.done X' eP eW eK T9 i [] s' σ' H' (fun _ _=>False) I' (Tf Uz) TK
  rw[eA] at TI TD
  generalize e1:ds.drop i=rest at cr
  have stepI:∀{TT:Shared->Prop} {d:D} {ρ1:eU} (hd:ds[i]?=some d) (g:ME X' ρ' tg d ρ1)
    (K:∀(LX:fQ) (s5:Shared) (σ5:St) (F5 H5:Hp),Inv X' LX σ5 H5 s5->Ok X.K B F5 H5 σ5 ρ1->Ext ⟨F2,H2⟩ F5 H5->H5 DD=some (.lst vs)->F5 DD=none->L5 σ5 ρ1 DD->Ls X.K F5 vs r0 ->
     (∀(s6:Shared) (σ6:St) (H6:Hp),Inv X' LX σ6 H6 s6->Inv X' [] σ6 H6 s6/\tn (i+1) s6.heap/\∀b∈fp,H6 b=none) ->
     TT s5),
    eG X (pyNext (.ref it)) (fun r s₁=>match r with
   |none=>RR (.ref DD) C (.ok .next) s₁
   |some v=>eG X (letOwnedTupleGo tg (.ref it) v) (fun _ s₀=>eG X (assign tg (compEnvC scope cl C X.env) v) (fun _=>TT) (fun _ _=>False) s₀) (fun _ _=>False) s₁) (fun _ _=>False) s':=by
   intro TT d ρ1 hd g K
   obtain⟨go,yl⟩:=Vk.1 _ hd
   refine fg (TI go) fun r s4 ⟨u,hr,h4⟩=>?_
   subst hr
   refine fg h4 fun _ s5 ⟨x,H5,I5,r5,y5,N6,QX⟩=>?_
   obtain⟨F5,x5,rx⟩:=yl x H5 y5
   have Rg:=I5.pinned (Tf QX) (T.obj _ _ N6)
   have gg:=g B F5 H5 σ' x (fun σ6 H6=>H6=H5/\Ok X.K B F5 H5 σ6 ρ1/\L5 σ6 ρ1 DD) (by rw[eK];exact k'.ext x5) (by rw[eK];exact rx) (fun σ6 k6 n6=>⟨rfl,by rw[eK] at k6;exact k6,n6 DD Ws⟩) _ s5 u Rg r5
   unfold eG at gg;rw[eP,eW,eA,Oo,eX] at gg
   refine fg gg fun _ s6 ⟨σ6,H6,I6,e6,k6,n6⟩=>?_
   subst e6
   refine K _ s6 σ6 F5 H6 I6 k6 (x'.t x5) (x5.sh _ _ hH) ?_ n6 (rv.mono x5.sf) fun s7 σ7 H7 I7=>⟨I7.Ma,T.keep _ _ _ N6 fun b hb o e=>(I7.pin (b,o) (bi _ (bi _ (ii hb e)))).1,fun b hb=>?_⟩
   ·exact x5.kf hF hH
   ·obtain⟨o,e,d⟩:=T.obj _ _ N6 b hb
    exact(I7.pin (b,o) (bi _ (bi _ (ii hb e)))).2.1
  have Q5:∀{d r:D} {N8 Qn:cQ} {ρ1:eU} (Mj:i<ds.length) (PB:ds.drop (i+1)=N8) (ev:Lq X' ρ1 elt r) (PN:LO X' tg elt ifs N8 ρ1 Qn) (RO:r0++(r::Qn)=rs) (LX:fQ) (s5:Shared) (σ5:St) (F5 H5:Hp),Inv X' LX σ5 H5 s5->Ok X.K B F5 H5 σ5 ρ1->Ext ⟨F2,H2⟩ F5 H5->H5 DD=some (.lst vs)->F5 DD=none->L5 σ5 ρ1 DD->Ls X.K F5 vs r0 ->
     (∀(s6:Shared) (σ6:St) (H6:Hp),Inv X' LX σ6 H6 s6->Inv X' [] σ6 H6 s6/\tn (i+1) s6.heap/\∀b∈fp,H6 b=none) ->
     eG X (eval elt (compEnvC scope cl C X.env)) (fun x s₄=>
       eG X (call (.builtin "list.append") [.ref DD,x]) (fun _ s₅=>∃m,m<ds.length+1-i/\P m s₅) (fun _ _=>False) s₄) (fun _ _=>False) s5:=by
   subst hP
   intro d r N8 Qn ρ1 Mj PB ev PN RO LX s5 σ5 F5 H5 I5 k5 x5 h5 f5 n5 Pc back
   have ee:=ev B F5 H5 σ5 (fun v H6=>∃F6,Ext ⟨F5,H5⟩ F6 H6/\Rep X.K F6 v r) (by rw[eK];exact k5) (fun v F6 H6 x6 r6=>⟨F6,x6,by rw[eK] at r6;exact r6⟩) LX s5 I5
   unfold eG at ee;rw[eP,eW,eA,Oo,eX] at ee
   refine fg ee fun u s6 ⟨v,H6,I6,ru,F6,x6,r6⟩=>?_
   have h6:=x6.sh _ _ h5
   have f6:F6 DD=none:=x6.kf f5 h5
   have hlen:vs.length<sizeLine:=by
    have:=Pc.length
    lia
   have app:=vj (X:=X') LX s6 σ5 H6 (.ref DD) [v] (.ref DD) [u] (fun z H7=>H7=gq H6 DD (.lst (vs++[v]))) I6 rfl (.cons ru .nil) ⟨DD,vs,v,rfl,rfl,h6,hlen,rfl⟩
   unfold eG at app;rw[eP,eW,eA,eX] at app
   refine fg app fun _ s7 ⟨z,H7,I7,_,e7⟩=>?_
   subst e7
   obtain⟨I8,t8,f8⟩:=back s7 σ5 _ I7
   have x7:=x5.t x6
   refine⟨ds.length+1-(i+1),by lia,i+1,σ5,F6,_,ρ1,vs++[v],r0++[r],Qn,I8,t8,f8,(k5.ext x6).OT f6 bD n5 ⟨_,h6⟩,⟨fun b w q=>?_,fun b w q=>?_,x7.sf,x7.nw⟩,cH,f6,n5,(Pc.mono x6.sf).append (.cons r6 .nil),by rw[PB];exact PN,by rw[p7];exact RO,by rw[bV,uX];lia,Mj,rfl⟩
   ·have ne:b≠DD:=fun z=>by subst z;rw[f6] at q;cases q
    rw[bo ne];exact x6.sub b w q
   ·have ne:b≠DD:=fun z=>by subst z;have q':H2 b=some w:=q;rw[Oi] at q';cases q'
    rw[bo ne];exact x7.sh b w q
  cases cr with
  |nil=>
   have hl:ds.length<=i:=by
    have:=c8 List.length e1
    rw[dB,uo] at this
    lia
   refine fg (TD (Vk.2 hl)) fun r s4 ⟨hr,Yb⟩=>?_
   subst hr
   rw[jt] at er
   subst er
   exact fin σ' F' H' vs s4 Yb x' hH hF rv
  |@take d r O6 VJ ρ0 ρ1 g ci ev PN=>
   obtain⟨hd,PB,Mj⟩:=js e1
   refine stepI hd g fun LX s5 σ5 F5 H5 I5 k5 x5 h5 f5 n5 Pc back=>?_
   rcases ci with rfl | ⟨c,rfl,et⟩
   ·refine wpAny_tests_nil ?_
    rw[aB rfl]
    exact Q5 (d:=d) Mj PB ev PN er LX s5 σ5 F5 H5 I5 k5 x5 h5 f5 n5 Pc back
   ·have tt:=et B F5 H5 σ5 (fun b H6=>b=true/\∃F6,Ext ⟨F5,H5⟩ F6 H6) (by rw[eK];exact k5) (fun F6 H6 x6=>⟨rfl,F6,x6⟩) LX s5 I5
    unfold eG at tt;rw[eP,eW,eA,Oo,eX] at tt
    refine wpAny_tests_one (fg tt fun b s6 ⟨H6,I6,eb,F6,x6⟩=>?_)
    subst eb
    rw[aB rfl]
    have f6:F6 DD=none:=x6.kf f5 h5
    exact Q5 (d:=d) Mj PB ev PN er LX s6 σ5 F6 H6 I6 (k5.ext x6) (x5.t x6) (x6.sh _ _ h5) f6 n5 (Pc.mono x6.sf) back
  |@skip d O6 VJ ρ0 ρ1 c g hc et PN=>
   obtain⟨hd,PB,Mj⟩:=js e1
   subst hc
   refine stepI hd g fun LX s5 σ5 F5 H5 I5 k5 x5 h5 f5 n5 Pc back=>?_
   have tt:=et B F5 H5 σ5 (fun b H6=>b=false/\∃F6,Ext ⟨F5,H5⟩ F6 H6) (by rw[eK];exact k5) (fun F6 H6 x6=>⟨rfl,F6,x6⟩) LX s5 I5
   unfold eG at tt;rw[eP,eW,eA,Oo,eX] at tt
   refine wpAny_tests_one (fg tt fun b s6 ⟨H6,I6,eb,F6,x6⟩=>?_)
   subst eb
   rw[ay aF]
   have f6:F6 DD=none:=x6.kf f5 h5
   obtain⟨I8,t8,f8⟩:=back s6 σ5 _ I6
   subst hP
   exact⟨ds.length+1-(i+1),by lia,i+1,σ5,F6,H6,ρ1,vs,r0,_,I8,t8,f8,k5.ext x6,x5.t x6,x6.sh _ _ h5,f6,n5,Pc.mono x6.sf,by rw[PB];exact PN,er,by lia,Mj,rfl⟩
 exact codeAny_compStart_list (loop _ rfl) (T.self _ 0 _ _ _ TL (loop _ rfl))
def xW{cl:List (Str×Addr)}(t:NH X N sc)(md:X.calm=true\/(J.L3/\IR X.A H2))(S:mW N sc N' scope)(I2:Inv X pins σ H2 s2)(T:yp X.prog X.w X.K tg J fp it tn)(t0:tn 0 s2.heap)(Xr:∀b∈fp,oH X pins H2 b)(k2:Ok X.K B F2 H2 σ ρ)(JO:rP X.K J F2 ds)(hz:ds.length<sizeLine)(NK:∀n c,cl.lookup n=some c->X.env.cells.lookup n=some c)(Oz:∀n,(n,NameKind.free)∈scope.names->∃c,cl.lookup n=some c)(run:∀X',MU X X' N' (rz scope sc) (xu scope)->LO X' tg elt ifs ds (ρ++List.replicate (N'.length-N.length) .un) rs){RR:Value->Addr->Result->Shared->Prop}(S6:∀D' C s',IU X pins σ F2 H2 rs D' C s'->RR (.ref D') C (.ok .next) s'):
  eG X (newList []) (fun acc s₃=>eG X (newFunctionEnv scope X.env.globals cl [] X.env.qual none .none (some X.env)) (fun Rc s₄=>
   codeAny (model X.prog X.w) X.A (.compStart (.ListComp elt [⟨tg,iter,ifs,0⟩] scope pos) 0 (.ref it) acc { Rc with scope:=relabel scope X.env }) (RR acc Rc.locals) s₄) E s₃) E s2:=by
 have S1:∀m c,cl.lookup m=some c->c<(s2.heap.push { cls:=.type "list",data:=.seq ([]:hW).toArray }).objs.size:=fun m c e=>by
  obtain⟨v,q⟩:=I2.cell m c (NK m c e)
  rw[gN];exact hZ q.lt
 refine ba (xz S1 fun Rb h₁ Wv Pt CN=>?_)
 have I3:Inv X pins σ (gq H2 s2.heap.objs.size (.lst [])) { s2 with heap:=s2.heap.push { cls:=.type "list",data:=.seq ([]:hW).toArray } }:=I2.Pj (t':=s2.toks) (ys:=[]) .nil (gy _)
 have Oi:H2 s2.heap.objs.size=none:=I2.LA.fresh (az _)
 have MV:(s2.heap.push { cls:=.type "list",data:=.seq ([]:hW).toArray }).objs.size=s2.heap.objs.size+1:=by rw[gN]
 have TM:∀b∈fp,b<s2.heap.objs.size:=fun b hb=>by
  obtain⟨o,e,_⟩:=T.obj 0 _ t0 b hb
  exact aK e
 refine BC (s3:={ s2 with heap:=s2.heap.push { cls:=.type "list",data:=.seq ([]:hW).toArray } }) t md S rfl (by
  show s2.heap.objs.size≠(s2.heap.push { cls:=.type "list",data:=.seq ([]:hW).toArray }).objs.size
  rw[MV];exact bL (rT _)) I3 Oi (fun b hb=>?_) (fun b hb=>?_) T (T.keep 0 _ _ t0 fun b hb o e=>Heap.get?_push_of_some _ e) Pt Wv k2 JO hz NK Oz CN run S6
 ·obtain⟨f0,f1⟩:=Xr b hb
  exact⟨by rw[bo (bL (TM b hb))];exact f0,f1⟩
 ·show b<(s2.heap.push { cls:=.type "list",data:=.seq ([]:hW).toArray }).objs.size
  rw[MV];exact hZ (TM b hb)
end
def AK(t:NH X N sc)(S:mW N sc N' scope)(I:Inv X pins σ H s):
  ∃cl:List (Str×Addr),closureFor scope X.env=pure cl/\(∀n c,cl.lookup n=some c->X.env.cells.lookup n=some c)/\(∀n,(n,NameKind.free)∈scope.names->∃c,cl.lookup n=some c):=
 zi fun n hn=>I.ok.has n (.inl (by show X.env.scope.names.lookup n=_;rw[t.eS];exact S.free _ hn rfl))
def iC(t:At X N sc)(N':fw)(S:mW N sc N' scope)(hi:Nd X ρ tg iter ds)(hz:ds.length<sizeLine)(run:∀X',Nm X X' N' (rz scope sc) (xu scope)->LO X' tg elt ifs ds (ρ++List.replicate (N'.length-N.length) .un) rs)(hs:∀x,foldedSetIterable iter X.env x=pure x:=by intro _;rfl):LQ X ρ (.ListComp elt [⟨tg,iter,ifs,0⟩] scope pos) rs:=fun B F H σ Q k q=>.mk fun pins s I=>by
 obtain⟨cl,e1,e2,e3⟩:=AK t.z S I
 rw[eval_ListComp]
 have h1:=hi B F H σ (fun J H1=>∃F1,Ext ⟨F,H⟩ F1 H1/\rP X.K J F1 ds) k (fun J F' H' x j=>⟨F',x,j⟩) pins s I
 refine wpAny_comprehension_free (use:=none) rfl hs e1 S.kind S.names (fg h1 fun v s1 h=>fg h fun Qv s2 h2=>?_)
 obtain⟨it,fp,tn,J,H',e,I2,T,t0,fo,F1,x1,JO⟩:=h2
 subst e
 refine xW (RR:=fun acc C=>compPost (model X.prog X.w) X.A X.xe none (EP X pins σ Q) acc C) t.z (.inl t.calm) S I2 T t0 fo (k.ext x1) JO hz e2 e3 (fun X' c0=>run X' (c0.calm t.calm)) ?_
 rintro D' C s' ⟨F',PU,vs,m,IX,hm,h0,hL,P0,RH,SE,x',QN,hd,hf,rv,S9⟩
 refine⟨m,hm,fun Td sb=>?_⟩
 have Ya:Inv X pins σ PU { s' with heap:=Td }:=IX.turned (t':=s'.toks) (it:=C) (fun b o hb e=>sb.extBut b o hb e) h0 hL (.inr P0) RH SE
 exact⟨.ref D',PU,Ya,rfl,q D' vs F' PU (x1.t x') (x1.sh.free QN) hd hf rv⟩
def A5{Qj:Pos}[Ou X](t:At X N sc)(i:Nat)(N':fw)(S:mW N sc N' scope)(hi:Nd X ρ tg iter ds)(hz:ds.length<sizeLine)(run:∀X',Nm X X' N' (rz scope sc) (xu scope)->LO X' tg elt ifs ds (ρ++List.replicate (N'.length-N.length) .un) rs)(Pm:swapsWith (.ListComp elt [⟨tg,iter,ifs,0⟩] scope pos) (some (.Name y py)) Qj.line (dE sc)=pure true:=by rfl)(hN:N[i]?=some y:=by rfl)(hy:qT sc y=true:=by rfl)(hs:∀x,foldedSetIterable iter X.env x=pure x:=by intro _;rfl):Mt X ρ (.Assign [.Name y py] (.ListComp elt [⟨tg,iter,ifs,0⟩] scope pos) Qj) (.nx (ρ.set i (.own rs))):=fun B F H σ E k q=>.mk fun pins s I=>by
 obtain⟨cl,e1,e2,e3⟩:=AK t.z S I
 rw[exec_Assign_Name_used _ _ _ _ ((B9 (show X.env.scope=(dE sc).scope from t.eS)).trans Pm)]
 refine af (uU (af ?_))
 show wpAny _ X.A (do let _ <-comprehension (.ListComp elt [⟨tg,iter,ifs,0⟩] scope pos) scope X.env _ (newList []) false (eval iter X.env) (some (assign (.Name y py) X.env))) _ _ s
 have h1:=hi B F H σ (fun J H1=>∃F1,Ext ⟨F,H⟩ F1 H1/\rP X.K J F1 ds) k (fun J F' H' x j=>⟨F',x,j⟩) pins s I
 refine af (aR (wpAny_comprehension_free (use:=some (assign (.Name y py) X.env)) (Q:=fun _ s'=>SP X pins E .next s') rfl hs e1 S.kind S.names (fg h1 fun v s1 h=>fg h fun Qv s2 h2=>?_)) (fun _ s' hq=>ar (ar hq)) fun _ _ e=>e)
 obtain⟨it,fp,tn,J,H',e,I2,T,t0,fo,F1,x1,JO⟩:=h2
 subst e
 refine xW (RR:=fun acc C=>compPost (model X.prog X.w) X.A X.xe (some (assign (.Name y py) X.env)) (fun _ s'=>SP X pins E .next s') acc C) t.z (.inl t.calm) S I2 T t0 fo (k.ext x1) JO hz e2 e3 (fun X' c0=>run X' (c0.calm t.calm)) ?_
 rintro D' C s' ⟨F',PU,vs,m,IX,hm,h0,hL,P0,RH,SE,x',QN,hd,hf,rv,S9⟩
 show wpAny _ X.A (assign (.Name y py) X.env (.ref D')) _ _ s'
 refine wpAny_assign_Name (u5 (v:=.ref D') IX t.nd (t.ix hN) (t.loc hy) rfl (fun MM Yc QA=>?_) GX)
 obtain⟨a,sb,ha⟩:=QA
 have Xn:C≠a:=by
  rcases ha with z | z
  ·rw[z];exact hL
  ·exact ft (RH y a z)
 refine⟨m,hm.sameBut sb Xn,fun Td Qm=>?_⟩
 have I3:Inv X pins (σ.set i (some (.ref D'))) PU { MM with heap:=Td }:=Yc.turned (t':=MM.toks) (it:=C) (fun b o hb e=>Qm.extBut b o hb e) h0 hL (.inr P0) RH SE
 have k1:=k.ext (x1.t x')
 have hH:H D'=none:=x1.sh.free QN
 exact⟨_,PU,I3,q F' PU _ (k1.N7 i hd hf (k.sh.free hH) (k.noOwn hH) rv) (x1.t x').sf⟩
def LO.all(R:D->eU)(f:D->D):∀(ds:cQ) (ρ:eU),(∀d∈ds,ME X ρ tg d (R d))->(∀d∈ds,∀e∈ds,ME X (R d) tg e (R e))->(∀d∈ds,Lq X (R d) elt (f d))->LO X tg elt [] ds ρ (ds.map f)
 |[],_,_,_,_=>.nil
 |d::ds,ρ,h1,h2,h3=>.take (h1 d aT) (.inl rfl) (h3 d aT)
   (LO.all R f ds (R d) (fun e he=>h2 d aT e (aj _ he)) (fun a ha e he=>h2 a (aj _ ha) e (aj _ he)) fun e he=>h3 e (aj _ he))
def ID(N:fw)(sc:Scope)(N':fw)(scope:Scope):Bool:=
 decide (scope.kind=.function)&&scope.names.all (fun y=>decide (y.2=.cell->scope.names.lookup y.1=some .cell))&&scope.names.all (fun y=>decide (y.2=.local->scope.names.lookup y.1=some .local)) &&
  scope.names.all (fun y=>decide (y.2=.free->sc.names.lookup y.1=some .cell))&&decide (sc.kind=.function)&&decide N'.Nodup &&
  (List.range N.length).all (fun i=>match N'[i]? with
   |some x=>!(nJ (rz scope sc) x)||(decide (N[i]?=some x)&&decide (scope.names.lookup x=some .free))
   |none=>true)&&decide (N.length<=N'.length)
def Dw{scope:Scope}(h:ID N sc N' scope=true):mW N sc N' scope:=by
 unfold ID at h
 simp only[cn,BN,List.all_eq_true] at h
 obtain⟨⟨⟨⟨⟨⟨⟨h1,h2⟩,h3⟩,h4⟩,h5⟩,h6⟩,h7⟩,h8⟩:=h
 refine⟨h1,h2,h3,h4,h5,h6,fun i x hi hx hv=>?_,h8⟩
 have q:=h7 i (List.mem_range.mpr hi)
 rw[hx] at q
 simp only[hv,yB,Bool.false_or,cn,BN] at q
 exact q
def zm{X:Cx}{x:Str}(hm:X.mg x=none)(g:DT sc x:=by rfl)(v:bootBuiltins x=some u:=by rfl)(n:x ≠ "__name__" := by decide)(d:yu x:=by rfl):uT X sc x u:=⟨g,hm,v,n,d⟩
abbrev av(f:aI):D:=.tup (f.map D.int)
abbrev bn(f:aI):D:=.lst (f.map D.int)
def nv{xs:aI}{i:Int}{n:Nat}(h0:0<=i)(hn:i.toNat=n)(h:n<xs.length):pU (xs.map D.int) i=some (.int xs[n]):=by
 have e:i=((n:Nat):Int):=by lia
 subst e
 exact E3 (by rw[List.getElem?_map,List.getElem?_eq_getElem h];rfl)
def v5{n:Nat}{i:Int}{j:Nat}(h0:0<=i)(hn:i.toNat=j)(h:j<n):An n i=some j:=by
 unfold An
 rw[aB h0,aB (by lia),hn]
def xP(xs ys:aI):PyData.eqvAll (xs.map PyData.int) (ys.map PyData.int)=decide (xs=ys):=by
 induction xs generalizing ys with
 |nil=>cases ys<;>simp[PyData.eqvAll]
 |cons x xs ih=>
  cases ys with
  |nil=>simp[PyData.eqvAll]
  |cons y ys=>
   simp only[dQ,PyData.eqvAll,PyData.eqv,ih]
   by_cases h1:x=y<;>by_cases h2:xs=ys<;>simp[h1,h2]
def fY(xs ys:aI):(iE (av xs)).eqv (iE (av ys))=decide (xs=ys):=by
 show(PyData.tuple (LD (xs.map D.int))).eqv (.tuple (LD (ys.map D.int)))=_
 rw[jo,jo]
 simp only[PyData.eqv]
 exact xP xs ys
def AE(xs ys:aI):(PyData.list (LD (xs.map D.int))).eqv (.list (LD (ys.map D.int)))=decide (xs=ys):=by
 rw[jo,jo]
 simp only[PyData.eqv]
 exact xP xs ys
def yc(xs:aI):PyData.canLayAll0 (xs.map PyData.int)=true:=PySem.W.canLayAll0_ints xs
def bb(xs:aI):SeqAt.shaped (iE (av xs))=true:=by
 show SeqAt.shaped (.tuple (LD (xs.map D.int)))=true
 rw[jo]
 have h1:=PySem.W.depthAll_ints xs
 have h2:PyData.depth (.tuple (xs.map PyData.int))<=64:=by simp only[PyData.depth];lia
 show(PyData.canLay0 (.tuple (xs.map PyData.int))&&decide (PyData.depth (.tuple (xs.map PyData.int))<=64))=true
 rw[cn]
 exact⟨by simp only[PyData.canLay0];exact yc xs,aH h2⟩
def ic(xs:aI):SeqAt.shaped (PyData.list (LD (xs.map D.int)))=true:=by
 rw[jo];exact PySem.W.shaped_ints xs
inductive MB:eU->eU->Prop where
 |nil:MB [] []
 |keep {s:Sl} {a b:eU}:MB a b->MB (s::a) (s::b)
 |forget {s:Sl} {a b:eU}:MB a b->MB (s::a) (.un::b)
def MB.len:∀{a b:eU},MB a b->a.length=b.length
 |_,_,.nil=>rfl
 |_,_,.keep h=>c8 Nat.succ h.len
 |_,_,.forget h=>c8 Nat.succ h.len
def MB.get:∀{a b:eU},MB a b->∀(i:Nat) (s:Sl),b[i]?=some s->s ≠ .un->a[i]?=some s
 |_,_,.nil,_,_,h,_=>by simp at h
 |_,_,.keep h,0,s,e,_=>by simpa using e
 |_,_,.keep h,i+1,s,e,hn=>by simpa using h.get i s (by simpa using e) hn
 |_,_,.forget h,0,s,e,hn=>by simp at e;exact absurd e.symm hn
 |_,_,.forget h,i+1,s,e,hn=>by simpa using h.get i s (by simpa using e) hn
def Ok.weak{K:dq}(k:Ok K B F H σ a)(w:MB a b):Ok K B F H σ b:=
 ⟨k.toExt,k.len.trans w.len,fun i d h=>k.vals i d (w.get i _ h fun z=>nomatch z),fun i xs h=>k.Mu i xs (w.get i _ h fun z=>nomatch z),fun i j xs ys p h1 h2=>k.dist i j xs ys p (w.get i _ h1 fun z=>nomatch z) (w.get j _ h2 fun z=>nomatch z),k.MY.to (.refl _) (fun _ _ e1 e2 _=>⟨e1,e2⟩) fun i kvs h=>⟨w.get i _ h (fun z=>nomatch z),rfl⟩⟩
def Lr.weak(h:Lr X ρ Nx (.nx ρ1))(w:MB ρ1 ρ2):Lr X ρ Nx (.nx ρ2):=fun B F H σ E k q=>h B F H σ E k fun F' H' σ' k' s'=>q F' H' σ' (k'.weak w) s'
def Lu.eq{b':Bool}(h:Lu X ρ e b)(q:b=b'):Lu X ρ e b':=q ▸ h
def Lq.eq{d':D}(h:Lq X ρ e d)(q:d=d'):Lq X ρ e d':=q ▸ h
def LQ.eq{d':cQ}(h:LQ X ρ e d)(q:d=d'):LQ X ρ e d':=q ▸ h
def MD.eq{d':cQ}(h:MD X ρ e k d)(q:d=d'):MD X ρ e k d':=q ▸ h
def Nd.eq{d':cQ}(h:Nd X ρ tg e d)(q:d=d'):Nd X ρ tg e d':=q ▸ h
def Lr.eq{o':Out}(h:Lr X ρ Nx o)(q:o=o'):Lr X ρ Nx o':=q ▸ h
def Mt.eq{st:Stmt}{o':Out}(h:Mt X ρ st o)(q:o=o'):Mt X ρ st o':=q ▸ h
def LB.same(ρ:eU):∀(ds:cQ),(∀d∈ds,∃ρ1,Nf X ρ tg d ρ1/\Lr X ρ1 body (.nx ρ))->LB X tg body ds ρ (.nx ρ)
 |[],_=>.nil
 |d::ds,h=>by
  obtain⟨ρ1,h1,h2⟩:=h d aT
  exact .cons h1 h2 (LB.same ρ ds fun e he=>h e (aj _ he))
def LB.R6{ds:cQ}(R:Nat->eU)(h:∀(j:Nat) d,ds[j]?=some d->∃ρ1,Nf X (R j) tg d ρ1/\Lr X ρ1 body (.nx (R (j+1)))):LB X tg body ds (R 0) (.nx (R ds.length)):=by
 have q:=LB.of (X:=X) (tg:=tg) body R ds 0 fun j d e=>by
  obtain⟨ρ1,h1,h2⟩:=h j d e
  exact⟨ρ1,by simpa using h1,by simpa using h2⟩
 simpa using q
def LB.LJ{ds:cQ}{ρ ρ':eU}(R:Nat->eU)(h:∀(j:Nat) d,ds[j]?=some d->∃ρ1,Nf X (R j) tg d ρ1/\Lr X ρ1 body (.nx (R (j+1))))(e0:R 0=ρ)(e1:R ds.length=ρ'):LB X tg body ds ρ (.nx ρ'):=by
 subst e0;subst e1;exact LB.R6 R h
def tQ(R:Nat->Nat->eU)(h1:∀a b:Nat,Lu X (R a b) c (decide (0<b)))(h2:∀a b:Nat,0<b->Lr X (R a b) body (.nx (R b (a%b)))):
  ∀(n a b:Nat),b<=n->∃m,qM X c body m (R a b) (.nx (R (Nat.gcd a b) 0))
 |n,a,0,_=>⟨0,by
   rw[Nat.gcd_zero_right]
   exact .stop (by have:=h1 a 0;simpa using this)⟩
 |0,a,b+1,h=>by lia
 |n+1,a,b+1,h=>by
  obtain⟨m,q⟩:=tQ R h1 h2 n (b+1) (a%(b+1)) (by have:=Nat.mod_lt a (show 0<b+1 by lia);lia)
  refine⟨m+1,.step (by have:=h1 a (b+1);simpa using this) (h2 a (b+1) (Nat.succ_pos b)) ?_⟩
  have e:Nat.gcd a (b+1)=Nat.gcd (b+1) (a%(b+1)):=by
   rw[ug a (b+1),Nat.gcd_rec (b+1) a,ug]
  rw[e];exact q
def ek{j:Int}(h1 : -(2 ^ 64)<j)(h2:j<2 ^ 64):IntMulOk i j:=.of_right (intBits_le_64 h1 h2)
def br{i j:Int}(h1 : -(2 ^ 64)<i)(h2:i<2 ^ 64):IntMulOk i j:=.of_left (intBits_le_64 h1 h2)
def bZ(xs:aI)(lo hi:Option Int):aI:=(xs.drop (HT.LC xs.length 0 lo)).take (HT.LC xs.length xs.length hi-HT.LC xs.length 0 lo)
def eD(xs:aI)(lo hi:Option Int):tZ (xs.map D.int) lo hi=(bZ xs lo hi).map D.int:=by
 unfold tZ bZ
 rw[ah,List.map_take,List.map_drop]
def pS(xs:aI)(lo hi:Option Int):(bZ xs lo hi).length<=xs.length:=by
 unfold bZ
 rw[bw,dB]
 lia
def td(k:Nat)(n:Int):(List.replicate k [D.int n]).flatten=(List.replicate k n).map D.int:=by
 induction k with
 |zero=>rfl
 |succ k ih=>rw[dD,fJ,ih,dD,dQ];rfl
def LO.gen{α:Type}(g f:α->D)(R:α->eU):∀(xs:List α) (ρ:eU),(∀x∈xs,ME X ρ tg (g x) (R x))->(∀x∈xs,∀y∈xs,ME X (R x) tg (g y) (R y))->(∀x∈xs,Lq X (R x) elt (f x))->LO X tg elt [] (xs.map g) ρ (xs.map f)
 |[],_,_,_,_=>.nil
 |x::xs,ρ,h1,h2,h3=>.take (h1 x aT) (.inl rfl) (h3 x aT)
   (LO.gen g f R xs (R x) (fun e he=>h2 x aT e (aj _ he)) (fun a ha e he=>h2 a (aj _ ha) e (aj _ he)) fun e he=>h3 e (aj _ he))
def LO.ints{xs:aI}(f:Int->Int)(R:Int->eU)(h1:∀x∈xs,ME X ρ tg (.int x) (R x))(h2:∀x∈xs,∀y∈xs,ME X (R x) tg (.int y) (R y))(h3:∀x∈xs,Lq X (R x) elt (.int (f x))):
  LO X tg elt [] (xs.map D.int) ρ ((xs.map f).map D.int):=by
 rw[iP]
 exact LO.gen D.int (fun x=>.int (f x)) R xs ρ h1 h2 h3
def E1{xs:aI}{i:Int}(h0:0<=i)(h:i.toNat<xs.length):pU (xs.map D.int) i=some (.int (xs.getD i.toNat 0)):=by
 rw[nv h0 rfl h,List.getD_eq_getElem?_getD,List.getElem?_eq_getElem h];rfl
def xE:(sizeLine:Nat)=16777216:=sizeLine_eq
open AutoSeq1 (wpAny_loadPart')
def rB{Q:oO}{s:Shared}(hit:s.heap.IsTupleIter it t i)(ht:s.heap.IsTuple t items)(hx:items[i]?=some x)(hQ:∀h',h'.IsTupleIter it t (i+1)->Heap.SameBut it s.heap h'->Q x { s with heap:=h' }):wpAny (model prog w) A (Builtin.SmallTypes.nextOf (.ref it)) Q E s:=by
 obtain⟨o,ho,hc,hd⟩:=id hit
 obtain⟨ol,SF,_,nl,S0⟩:=ht
 unfold Builtin.SmallTypes.nextOf
 refine af (wpAny_callSpecial?_slot (name:=Str.ofString "__next__") hit.typeIs jm (dS jm hit.typeIs KL ?_ (Ku _)))
 show wpAny _ _ (field (.ref it) 0 >>= _) _ _ s
 refine af (bJ ho hd (x:=.ref t) rfl ?_)
 show wpAny _ _ (if (Value.ref t==Value.none)=true then _ else _) _ _ s
 rw[ay (show ¬((Value.ref t==Value.none)=true) from aF)]
 show wpAny _ _ (field (.ref it) 1 >>= _) _ _ s
 refine af (bJ ho hd (x:=.int i 0) rfl ?_)
 show wpAny _ _ (seqItems? (.ref t) >>= _) _ _ s
 refine af (wpAny_seqItems SF S0 ?_)
 simp only[p8,hx]
 refine af (gM ho hd (by simp) (ar ⟨x,rfl,ar (hQ _ ?_ (jQ ..))⟩))
 exact⟨_,Heap.get?_update_self _ ho (iN (eV hd _)),(Hy ..).trans hc,by rw[eV hd];simp[rawInt]⟩
def mo{A:Around}{E:oO}{s:Shared}(hh:A.handled=none)(hit:s.heap.IsTupleIter it t i)(ht:s.heap.IsTuple t items)(hx:items[i]?=none)(hE:∀h' e,Heap.ExtBut it s.heap h'->(∃o,h'.get? e=some o/\o.cls=.type "StopIteration")->E (.ref e) { s with heap:=h' }):wpAny (model prog w) A (Builtin.SmallTypes.nextOf (.ref it)) Q E s:=by
 obtain⟨o,ho,hc,hd⟩:=id hit
 obtain⟨ol,SF,_,nl,S0⟩:=ht
 unfold Builtin.SmallTypes.nextOf
 refine af (wpAny_callSpecial?_slot (name:=Str.ofString "__next__") hit.typeIs jm (dS jm hit.typeIs KL ?_ (Ku _)))
 show wpAny _ _ (field (.ref it) 0 >>= _) _ _ s
 refine af (bJ ho hd (x:=.ref t) rfl ?_)
 show wpAny _ _ (if (Value.ref t==Value.none)=true then _ else _) _ _ s
 rw[ay (show ¬((Value.ref t==Value.none)=true) from aF)]
 show wpAny _ _ (field (.ref it) 1 >>= _) _ _ s
 refine af (bJ ho hd (x:=.int i 0) rfl ?_)
 show wpAny _ _ (seqItems? (.ref t) >>= _) _ _ s
 refine af (wpAny_seqItems SF S0 ?_)
 simp only[p8,hx]
 refine af (K5 (af (gM ho hd (by simp) ?_)))
 show wpAny _ _ (newExc (.type "StopIteration") [] >>= _) _ _ _
 refine af ?_
 simp only[newExc,newTuple]
 refine af (ba ?_ (by size_fits))
 refine af (m:=firstArgMember _ _) (ji (a:=Value.none) (by first | rfl | (simp only[firstArgMember];rfl)) ?_)
 refine ba ?_ (by size_fits)
 simp only[raiseNew]
 refine af (wpAny_handled ?_)
 first | rw[show A.in1.handled=none from hh] | rw[hh]
 refine af (ar (wpAny_throw ?_))
 exact hE _ _ (((jQ ..).extBut.push _).push _) ⟨_,Heap.get?_push_size _ rfl,rfl⟩
def Bz{A:Around}(hh:A.handled=none)(it t:Addr)(M3:t≠it)(items:Array Value):
  Draws prog w A it [it,t] items.size (fun i v=>items[i]?=some v) (fun i h=>h.IsTupleIter it t i/\h.IsTuple t items) where
 live:=fun _ _ st=>let ⟨o,ho,_⟩:=st.1;⟨o,ho⟩
 frame:=fun _ _ _ st hk=>⟨st.1.at fun o e=>hk it (by simp) o e,let ⟨o,e,r⟩:=st.2;⟨o,hk t (by simp) o e,r⟩⟩
 item:=fun i s Q E hi st hQ=>by
  refine rB st.1 st.2 (x:=items[i]) (by simp[hi]) fun h' SU Po=>?_
  exact hQ _ h' s.toks (by simp[hi]) ⟨SU,let ⟨o,e,r⟩:=st.2;⟨o,Po.extBut t o M3 e,r⟩⟩ Po
 done:=fun s Q E st hE=>mo hh st.1 st.2 (by simp) hE
def xC(l:Addr)(items:Array Value)(n:Nat)(Nc:Option Addr)(sl:Array (Option Value)):
  Meets (Builtin.«enumerate.__new__» ⟨[.type "enumerate",.ref l],[]⟩) (fun _ R s=>s.heap.get? l=some { cls:=.type "tuple",dict:=Nc,data:=.seq items n,slots:=sl } /\
   R (.ok (.ret (.ref (s.heap.push { cls:=.type "tuple_iterator",data:=.fields #[.ref l,.int 0 0] }).objs.size)))
    { s with heap:=(s.heap.push { cls:=.type "tuple_iterator",data:=.fields #[.ref l,.int 0 0] }).push { cls:=.type "enumerate",data:=.fields #[.none,.bool false,.ref s.heap.objs.size,rawInt 0,.none,.none] } }):=
 .of_wp fun prog w A R s h=>by
  obtain⟨hp,g,d,tk,os⟩:=s;obtain⟨hl,h⟩:=h
  have WI:=sub_enumerate
  have hL:Heap.IsTuple (Shared.heap ⟨hp,g,d,tk,os⟩) l items:=⟨_,hl,rfl,n,rfl⟩
  wp_walk using iu hl
  refine wpAny_stack_any fun st=>ar ?_
  split
  ·rename_i c _ _ _ _ _
   cases(c==Value.type "enumerate")
   ·wp_walk using iu hl,rQ hL
    exact⟨_,rfl,h⟩
   ·wp_walk using iu hl,rQ hL
    exact⟨_,rfl,h⟩
  ·wp_walk using iu hl,rQ hL
   exact⟨_,rfl,h⟩
def zk{Q:oO}{s:Shared}(hL:s.heap.IsTuple l items)(h:∀h',IsEnum h' (s.heap.objs.size+1) s.heap.objs.size 0 .none->h'.IsTupleIter s.heap.objs.size l 0->h'.objs.size=s.heap.objs.size+2 ->
   (∀b o,s.heap.get? b=some o->h'.get? b=some o)->Q (.ref (s.heap.objs.size+1)) { s with heap:=h' }):wpAny (model prog w) A (call (.type "enumerate") [.ref l]) Q E s:=by
 obtain⟨⟨c,Nc,dt,sl⟩,hl,hc,n,hd⟩:=hL
 replace hc:c=.type "tuple" := hc
 replace hd:dt=.seq items n:=hd
 subst hc hd
 refine callType_new F.called_enumerate (by decide) (F.typeCall_enumerate_1 _) (F.newCall_enumerate_1 _) (fun obj=>F.args_object_init_2 obj _) F.entry_enumerate_new (xC l items n Nc sl) ⟨hl,?_⟩
 have hz:(s.heap.push { cls:=.type "tuple_iterator",data:=.fields #[.ref l,.int 0 0] }).objs.size=s.heap.objs.size+1:=gN ..
 show _/\_
 rw[hz]
 have he:IsEnum ((s.heap.push { cls:=.type "tuple_iterator",data:=.fields #[.ref l,.int 0 0] }).push { cls:=.type "enumerate",data:=.fields #[.none,.bool false,.ref s.heap.objs.size,rawInt 0,.none,.none] }) (s.heap.objs.size+1) s.heap.objs.size 0 .none:=by
  have:=Heap.get?_push_size (s.heap.push { cls:=.type "tuple_iterator",data:=.fields #[.ref l,.int 0 0] }) (o:={ cls:=.type "enumerate",data:=.fields #[.none,.bool false,.ref s.heap.objs.size,rawInt 0,.none,.none] }) rfl
  rw[hz] at this;exact this
 refine⟨⟨_,he,rfl⟩,h _ he ⟨_,Heap.get?_push_of_some _ (Heap.get?_push_size _ rfl),rfl,rfl⟩ (by rw[gN,hz]) fun b o x=>Heap.get?_push_of_some _ (Heap.get?_push_of_some _ x)⟩
def Kk(K:dq)(a:Addr):It:=
 ⟨fun i H=>∃xs x,L0 K H a xs/\xs[i]?=some x,fun i H x H'=>∃p,H p=none/\x=.ref p/\∀xs,L0 K H a xs->∃v,xs[i]?=some v/\H'=gq H p (.tup [.int i,v]),fun i H=>∃xs,L0 K H a xs/\xs.length<=i,False⟩
def Inv.Qg{h':Heap}{t':Nat}{e it:Addr}(I:Inv X pins σ H s)(k:∀b o,b≠e->b≠it->s.heap.get? b=some o->h'.get? b=some o)(fe:oH X pins H e)(fi:oH X pins H it):
  Inv X pins σ H { s with heap:=h',toks:=t' }:=by
 obtain⟨e0,e1,e2,e3,e4,e5⟩:=fe
 obtain⟨i0,i1,i2,i3,i4,i5⟩:=fi
 refine I.step (g':=s.gens) (d':=s.drawn) (ch:=[e,it]) (fun b hb=>?_) (fun b o _ _ hc q _=>k b o (fun z=>hc (by simp[z])) (fun z=>hc (by simp[z])) q) (fun b o _ _ hc q _=>⟨o.slots,k b o (fun z=>hc (by simp[z])) (fun z=>hc (by simp[z])) q⟩) (fun _ _ _ _ n=>n)
  (fun b o hc q=>⟨o,k b o (fun z=>hc (by simp[z])) (fun z=>hc (by simp[z])) q⟩) (fun _ _ q=>q) (fun _ _ _ q=>q) (fun b ps q=>⟨#[],by rw[q];simp⟩) (fun m hm=>?_) (fun b u q=>?_) I.bare
 ·rcases aC.mp hb with rfl | hb
  ·exact⟨e3,e1,e4,e5⟩
  ·rw[cJ.mp hb];exact⟨i3,i1,i4,i5⟩
 ·obtain⟨o,es,ep,ho,r⟩:=hm
  exact⟨o,es,ep,k _ o (ft e1) (ft i1) ho,r⟩
 ·have ne:∀c v,H c=some v->c≠e/\c≠it:=fun c v q=>⟨(fun z=>by rw[z,e0] at q;cases q),(fun z=>by rw[z,i0] at q;cases q)⟩
  refine(I.LA b u q).MW (fun c v hc r=>?_) (fun _ r=>r) fun _ _ r=>r
  rcases hc with z | z
  ·subst z;exact k c v (ne c _ q).1 (ne c _ q).2 r
  ·exact k c v (ne c _ z).1 (ne c _ z).2 r
def Inv.Qh{p:Addr}(I:Inv X pins σ H s)(hp:H p=none)(h1:X.s₀.heap.objs.size<=p)(h2:p≠X.env.locals)(h3:∀x c,X.env.cells.lookup x=some c->c≠p)(h4:∀q∈X.pn++pins,q.1≠p)(new:LF X.prog X.w (gq H p o) s.heap p o):Inv X pins σ (gq H p o) s:=by
 have old:∀b ob,X.s₀.heap.get? b=some ob->b≠p:=fun b ob e=>bL (aE (aK e) h1)
 refine⟨I.ok,I.os,I.bare,⟨I.base.keep,I.base.slot,fun b ob e n hx=>by rw[bo (old b ob e)];exact I.base.free b ob e n hx,I.base.there,fun b xs e=>?_,fun b ob u e=>?_,fun b ps e=>?_⟩,I.loc,I.cell,by rw[bo (ft h2)];exact I.free,fun x c e=>by rw[bo (h3 x c e)];exact I.L7 x c e,fun q hq=>?_,fun b u e=>?_,I.len⟩
 ·have q:=I.base.L8 b xs e
  rw[bo (dR q hp)];exact q
 ·have q:=I.base.L4 b ob u e
  rw[bo (dR q hp)];exact q
 ·obtain⟨more,q⟩:=I.base.Mb b ps e
  exact⟨more,by rw[bo (dR q hp)];exact q⟩
 ·obtain⟨a,b,c⟩:=I.pin q hq
  exact⟨a,by rw[bo (h4 q hq)];exact b,c⟩
 ·by_cases hb:b=p
  ·subst hb;rw[cH] at e;cases e;exact new
  ·rw[bo hb] at e
   exact(I.LA b u e).MW (fun _ _ _ q=>q) (fun c q=>by rw[bo (dR q hp)];exact q) fun c xs q=>by rw[bo (dR q hp)];exact q
def AX{K:dq}(a e it:Addr)(M3:e≠it):yp P w K (.Tuple es x1 pos) (Kk K a) [e,it] e (fun i h=>(∃old,IsEnum h e it i old)/\h.IsTupleIter it a i) where
 mem:=by simp
 obj:=fun i h st b hb=>by
  obtain⟨⟨old,he⟩,o,ho,c,d⟩:=st
  rcases aC.mp hb with rfl | hb
  ·exact⟨_,he,fun v z=>by cases z⟩
  ·rw[cJ.mp hb]
   exact⟨o,ho,fun v z=>by rw[d] at z;cases z⟩
 keep:=fun i h h' st k=>by
  obtain⟨⟨old,he⟩,hi⟩:=st
  exact⟨⟨old,k e (by simp) _ he⟩,hi.at fun o q=>k it (by simp) o q⟩
 item:=by
  intro X hP hw hK hc i pins s σ H E I hf st hg
  subst hP hw hK
  replace hc:=hc.resolve_right fun z=>z.1
  obtain⟨⟨old,he⟩,hit⟩:=st
  obtain⟨xs,x,hq,hx⟩:=hg
  obtain⟨its,rv,p,hz⟩:=I.tuple hq
  obtain⟨u,hu,ru⟩:=rv.get hx
  have fe:=hf e (by simp)
  have fi:=hf it (by simp)
  have Mj:i<its.length:=(List.getElem?_eq_some_iff.mp hu).1
  obtain⟨oa,SI,Ur,na,Yv⟩:=id p
  have Xb:e≠a:=fun z=>by
   subst z
   rw[he] at SI;cases SI
   have z':Value.type "enumerate"=Value.type "tuple" := Ur
   injection z' with z2
   exact absurd z2 (by decide)
  have Xa:a≠it:=fun z=>by
   subst z
   obtain⟨oi,Ry,Uq,_⟩:=hit
   rw[SI] at Ry;cases Ry
   rw[Ur] at Uq
   injection Uq with z2
   exact absurd z2 (by decide)
  have Dr:=Bz (prog:=X.prog) (w:=X.w) (A:=X.A.in1) (I.ok.hd hc) it a Xa its.toArray
  refine wpAny_pyNext_enum_itemD Dr he ⟨hit,p⟩ (by simpa using Mj) M3 (by simp[Xb,M3]) fun y h' tk hy ho M5 hT MV hk=>?_
  have ey:y=u:=by
   have:its[i]?=some y:=by simpa using hy
   rw[hu] at this;exact(bc this).symm
  subst ey
  refine⟨_,rfl,wpAny_letOwnedTupleGo_enum ho fun h2 Of sb=>?_⟩
  have Us:s.heap.objs.size≠e:=kC (aK he)
  have Xh:s.heap.objs.size≠it:=by
   obtain⟨oi,Ry,_⟩:=id hit
   exact kC (aK Ry)
  have Qm:Heap.SameBut e h' h2:=sb
  have kk:∀b o,b≠e->b≠it->s.heap.get? b=some o->h2.get? b=some o:=fun b o h1 QT q=>Qm.extBut b o h1 (hk b o h1 QT q)
  have I1:Inv X pins σ H { s with heap:=h2,toks:=tk+1 }:=Inv.Qg I kk fe fi
  have Uj:H s.heap.objs.size=none:=I.LA.fresh (az _)
  have S5:h2.get? s.heap.objs.size=some { cls:=.type "tuple",data:=.seq #[.int i tk,y] }:=Qm.extBut _ _ Us hT
  have I2:Inv X pins σ (gq H s.heap.objs.size (.tup [.int i,x])) { s with heap:=h2,toks:=tk+1 }:=by
   refine Inv.Qh I1 Uj I.sz (kC I.lt) (fun z c h=>?_) (fun q WL z=>?_) ⟨uW rfl,[.int i tk,y],.cons ⟨tk,rfl⟩ (.cons ru .nil),⟨_,S5,rfl,0,rfl⟩⟩
   ·obtain⟨v,hv⟩:=I.cell z c h
    exact bL hv.lt
   ·have:=aK (I.pin q WL).1
    rw[z] at this;exact absurd this (fv _)
  refine⟨.ref s.heap.objs.size,_,I2,rfl,⟨s.heap.objs.size,Uj,rfl,fun ys Ww=>⟨x,by rw[I.MF Ww hq];exact hx,rfl⟩⟩,⟨⟨_,by simpa using Of⟩,M5.1.at fun o q=>Qm.extBut it o (ft M3) q⟩,fun b hb=>?_⟩
  have bT:b≠s.heap.objs.size:=by
   rcases aC.mp hb with rfl | hb
   ·exact ft Us
   ·rw[cJ.mp hb];exact ft Xh
  rw[bo bT];exact(hf b hb).1
 done:=by
  intro X hP hw hK hc i pins s σ H E I hf st hg
  subst hP hw hK
  replace hc:=hc.resolve_right fun z=>z.1
  obtain⟨⟨old,he⟩,hit⟩:=st
  obtain⟨xs,hq,hx⟩:=hg
  obtain⟨its,rv,p,hz⟩:=I.tuple hq
  have fi:=hf it (by simp)
  obtain⟨f0,f1,f2,f3,f4,f5⟩:=fi
  have hl:=rv.length
  have hT:s.TypeIs (.ref e) "enumerate" := ⟨_,he,rfl⟩
  unfold pyNext
  refine af (uV (wpAny_callSpecial?_slot (name:=Str.ofString "__next__") hT F.slot_enumerate_next (dS F.slot_enumerate_next hT F.entry_enumerate_next ?_ (F.args_enumerate_next_1 _))))
  show wpAny _ _ (field (.ref e) 2 >>= _) _ _ _
  refine af (bJ he rfl (x:=.ref it) rfl ?_)
  refine af (mo (I.ok.hd hc) hit p (by simp;lia) fun h' x Pz NF=>?_)
  obtain⟨o,ho,Nt⟩:=NF
  refine af (wL (T := "StopIteration") (b:=true) ⟨o,ho,Nt⟩ K6 ?_)
  exact ar ⟨rfl,I.turned (t':=s.toks) (fun b o hb e=>Pz b o hb e) f0 f1 f3 f4 f5⟩
 self:=fun _ _ s Q E st h=>by
  obtain⟨⟨old,he⟩,hit⟩:=st
  exact wpAny_pyIter_enum he h
def Iv(K:dq)(ta:TA):TI:=fun σ H R=>ta σ H fun vs H1=>∃a,vs=[.ref a]/\(∃xs,L0 K H1 a xs)/\R (Kk K a) H1
def Ep(hg:Gl X "enumerate")(hm:X.mg "enumerate"=none)(hl:PA X [a] ta)(hs:Pl a):PI X (.Tuple es x1 tp) (.Call (.Name "enumerate" p) [a] [] pos) (Iv X.K ta):=by
 intro pins s σ H R I h
 refine Call_ (oj I hg hm (show bootBuiltins "enumerate"=some (.type "enumerate") by decide) (fq (fg (hl pos pins s σ H _ I h) fun us s1 ⟨vs,H1,I1,r1,q1⟩=>?_) (hs _ _) rfl))
 obtain⟨l,rfl,⟨xs,hq⟩,q⟩:=q1
 obtain⟨u,rfl,ru⟩:=qX r1
 cases(show u=Value.ref l from ru)
 obtain⟨its,rv,pt,hz⟩:=I1.tuple hq
 refine zk pt fun h' he hi MV kp=>?_
 have I2:Inv X pins σ H1 { s1 with heap:=h' }:=I1.kept (t':=s1.toks) kp
 refine wpAny_pyIter_enum he ?_
 have fr:∀b,s1.heap.objs.size<=b->oH X pins H1 b:=fun b hb=>I1.Ol hb (I1.LA.fresh hb)
 refine⟨s1.heap.objs.size+1,[s1.heap.objs.size+1,s1.heap.objs.size],_,_,H1,rfl,I2,AX l _ _ (kC (rT _)),⟨⟨_,he⟩,hi⟩,fun b hb=>?_,q⟩
 rcases aC.mp hb with rfl | hb
 ·exact fr _ (by lia)
 ·rw[cJ.mp hb];exact fr _ (az _)
def vp(ds:cQ):cQ:=(List.range ds.length).map fun(i:Nat)=>.tup [.int (i:Int),ds.getD i .LH]
def nk{i:Nat}(h:(vp ds)[i]?=some d):∃e,ds[i]?=some e/\d=.tup [.int (i:Int),e]:=by
 unfold vp at h
 rw[List.getElem?_map] at h
 by_cases hi:i<ds.length
 ·rw[List.getElem?_range hi] at h
  cases h
  exact⟨ds[i],List.getElem?_eq_getElem hi,by show D.tup [D.int (i:Int),ds.getD i .LH]=_;rw[List.getD_eq_getElem?_getD,List.getElem?_eq_getElem hi];rfl⟩
 ·rw[List.getElem?_eq_none (by simpa using hi)] at h;cases h
def nj:(vp ds).length=ds.length:=by simp[vp]
def GT{K:dq}{F:Hp}{l:Addr}(hf:F l=some (.tup vs))(r:Ls K F vs ds):rP K (Kk K l) F (vp ds):=fun i F2 H2 s1 s2=>
 ⟨fun d hd=>by
  obtain⟨e,he,rfl⟩:=nk hd
  obtain⟨v,hv,rv⟩:=r.get he
  have sq:L0 K H2 l vs:=L0.of (s2 _ _ (s1 _ _ hf))
  refine⟨⟨vs,v,sq,hv⟩,fun x H' y=>?_⟩
  obtain⟨p,hp,rfl,y⟩:=y
  obtain⟨v',Ud,rfl⟩:=y vs sq
  rw[hv] at Ud;cases Ud
  exact⟨_,(Ext.refl s2).grow hp,.tup cH (.cons (.int _) (.cons ((rv.mono s1).mono (bv (s2.free hp))) .nil))⟩,fun h=>⟨vs,L0.of (s2 _ _ (s1 _ _ hf)),by rw[r.length];rw[nj] at h;exact h⟩⟩
def wl(t:At X N sc)(bl:uT X sc "enumerate" (.type "enumerate"))(h:Lq X ρ a (.tup ds))(hs:Pl a:=by intro _ _;rfl):Nd X ρ (.Tuple es x1 tp) (.Call (.Name "enumerate" p) [a] [] pos) (vp ds):=
 .of (Ep (jA t bl.g) bl.m (eH bW ie (hs _ _)) hs) fun B F H σ R k q=>h B F H σ _ k fun v F' H' x r=>by
  cases r with
  |tup hf rl=>exact⟨_,rfl,⟨_,L0.of (x.sub _ _ hf)⟩,q _ F' H' x (GT hf rl)⟩
abbrev vB:hW:=[.type "ValueError",.type "Exception",.type "BaseException",.type "object"]
abbrev vN:String := "ValueError.__new__"
def vU{K:dq}{mg:uh}{x:Str}(X:K.In h)(hb:mg x=some (.ref C))(q:PySem.W.excIn K C vB vN=true):OwnCls x C vB vN mg h:=by
 constructor
 ·exact hb
 ·unfold PySem.W.excIn at q
  split at q
  ·rename_i Nc c TR lk
   split at q
   ·rename_i C2 tl z0 z1 z2 z3 Yi z5 SM Qy
    simp only[cn,beq_iff_eq,kG] at q
    obtain⟨q1,qi⟩:=q
    obtain⟨q1,qn⟩:=q1
    obtain⟨q1,qt⟩:=q1
    obtain⟨q1,qd⟩:=q1
    obtain⟨qC,qN⟩:=q1
    subst qC;subst qN
    cases c with
    |mk f1 f2 f3 f4 f5 f6 f7 f8 f9 UE UD=>
     have e3:f3=.ref C2::tl:=SM
     have XB:UD=false:=qd
     have Xw:TR = #[z0,z1,z2,z3,some (.builtin vN),z5]:=by
      cases TR with
      |mk ls=>exact c8 Array.mk Qy
     subst e3;subst XB;subst Xw
     exact⟨tl,f4,f1,f5,f2,f6,f7,f8,f9,UE,Nc,z0,z1,z2,z3,z5,_,X _ _ lk,.of_isNs (PySem.W.isNs_of_in X qn),PySem.W.nsMap_none_of_in X qn qi,PySem.W.tail_of_in X qt⟩
   ·cases q
  ·cases q
def K2(h base:Heap)(e C:Addr)(fl:Value):Prop:=
 ∃(oe:Obj) (vs:Array Value) (T:Addr) (oT:Obj) (ts:Array Value),h.get? e=some oe/\oe.cls=.ref C/\oe.data=.fields vs/\vs[1]?=some (.ref T)/\vs[2]?=some .none/\base.get? T=none/\T≠e/\h.get? T=some oT/\oT.data=.fields ts/\ts[3]?=some fl
def MJ(base:Heap)(l:List Env)(e C:Addr)(fl:Value)(h:Heap):Prop:=base.StaysIn h/\base.get? e=none/\h.FunFrames base l/\K2 h base e C fl
section
variable {env:Env}{outer:List Env}{Q:Unit->Shared->Prop}
def tW{A:Around}{s:Shared}{e:Addr}(QI:A.frames=some (env::outer))(hl:s.heap.FunFrames base (env::outer))(hf:env.frame=some L)(he:s.heap.get? e=some oe)(hd:oe.data=.fields vs)(hc:oe.cls=.ref C)(MV:1<vs.size)(h2:vs[2]?=some .none)(RD:base.StaysIn s.heap)(RG:base.get? e=none)(k:∀h',MJ base (env::outer) e C (rawInt L) h'->s.heap.UpToSlots h'->Q () { s with heap:=h' }):
  wpAny M A (do let a <-frameOf env;let pl <-entryPlaceOf L Yx;let b <-EntryCells.newEntry head a .none (rawInt L) .none pl;setField (.ref e) 1 b) Q E s:=by
 have ne:e∉(env::outer).filterMap (·.frame):=fun hm=>by
  obtain⟨_,o,ho,hn⟩:=hl.mem hm
  rw[he] at ho;cases ho;exact hn vs hd
 refine af (wpAny_frameOf_fun QI hl hf fun g hs=>af (wpAny_entryPlaceOf fun pl Od=>?_))
 unfold EntryCells.newEntry newFields
 refine af (ba ?_ (Od.sizeOk5 _ _ _ _ _))
 have g1:g.get? e=some oe:=(hs.2.1 e ne).trans he
 have g2:=fun ob=>Heap.get?_push_of_some (h:=g) ob g1
 have Te:g.objs.size≠e:=kC (aK g1)
 refine gM (g2 _) hd MV (k _ ?_ ?_)
 ·have d1:=eV hd (·.setIfInBounds 1 (Value.ref g.objs.size))
  have old:∀b o,b≠e->g.get? b=some o->∀ob,((g.push ob).update e (Obj.mapFields (·.setIfInBounds 1 (Value.ref g.objs.size)))).get? b=some o:=fun b o hb q ob=>by
   rw[Heap.get?_update_other _ _ (ft hb)]
   exact Heap.get?_push_of_some _ q
  have kb:base.StaysIn g:=fun b o q=>(hs.2.1 b fun hm=>by rw[(hl.mem hm).1] at q;cases q).trans (RD b o q)
  refine⟨fun b o q=>old b o (fun z=>by rw[z,RG] at q;cases q) (kb b o q) _,RG,hl.of_keeps fun b o q hn=>?_,_,_,g.objs.size,_,_,Heap.get?_update_self _ (g2 _) (iN d1),(Hy ..).trans hc,d1,by simp[MV],?_,kb.fresh,Te,(Heap.get?_update_other _ _ (ft Te)).trans (Heap.get?_push_size g rfl),rfl,?_⟩
  ·obtain⟨sl,q2⟩:=hs.2.2 b o q
   exact⟨_,old b _ (fun z=>by rw[z,he] at q;cases q;exact hn vs hd) q2 _,rfl⟩
  ·rw[Array.getElem?_setIfInBounds_ne (by decide)];exact h2
  ·first | (simp;done) | (rcases Od with rfl | ⟨_,_,_,_,_,_,_,rfl⟩<;>simp)
 ·intro b o q hn
  obtain⟨sl,q2⟩:=hs.2.2 b o q
  refine⟨sl,?_⟩
  show((g.push _).update e _).get? b=_
  rw[Heap.get?_update_other _ _ (fun z=>by subst z;rw[he] at q;cases q;exact hn vs hd)]
  exact Heap.get?_push_of_some _ q2
def j8{s:Shared}{l:List Env}(f:MJ base l e C fl s.heap)(k:∀h',MJ base l e C .none h'->s.heap.UpToSlots h'->Q () { s with heap:=h' }):wpAny M A (setFlight (.ref e) none) Q E s:=by
 obtain⟨f1,f2,f3,oe,vs,T,oT,ts,a1,a2,a3,a4,a5,a6,a7,a8,a9,RX⟩:=f
 have z3:3<ts.size:=(Array.getElem?_eq_some_iff.mp RX).1
 have off:∀b,b≠T->(s.heap.update T (Obj.mapFields (·.setIfInBounds 3 ((none:Option Addr).elim Value.none fun f=>rawInt f)))).get? b=s.heap.get? b:=fun b hb=>Heap.get?_update_other _ _ (ft hb)
 have Ng:∀b o,s.heap.get? b=some o->(∀ws,o.data ≠ .fields ws)->b≠T:=fun b o q hn z=>by
  rw[z,a8] at q;cases q;exact hn ts a9
 unfold setFlight
 refine af (bJ a1 a3 a4 ?_)
 rw[aB (show(Value.ref T != Value.none)=true by simp)]
 refine gM a8 a9 z3 (k _ ⟨fun b o q=>(off b fun z=>by rw[z,a6] at q;cases q).trans (f1 b o q),f2,f3.of_keeps fun b o q hn=>⟨o,(off b (Ng b o q hn)).trans q,rfl⟩,
  oe,vs,T,_,_,(off e (ft a7)).trans a1,a2,a3,a4,a5,a6,a7,Heap.get?_update_self _ a8 (iN (eV a9 _)),eV a9 _,by simp[z3]⟩ fun b o q hn=>⟨o.slots,(off b (Ng b o q hn)).trans q⟩)
def Be{A:Around}{s:Shared}{base:Heap}(QI:A.frames=some (env::outer))(hf:env.frame=some L)(RD:base.StaysIn h)(hl:h.FunFrames base (env::outer))(m:Heap.MadeExcOf h s.heap e (.ref C) vs)(k:∀h',MJ base (env::outer) e C (rawInt L) h'->s.heap.UpToSlots h'->Q () { s with heap:=h' }):wpAny M A (noteFrame (.ref e) env) Q E s:=by
 obtain⟨t,he,_,_⟩:=m.there
 have RG:base.get? e=none:=by
  cases q:base.get? e with
  |none=>rfl
  |some o=>have:=RD e o q;rw[m.new] at this;cases this
 unfold noteFrame
 simp only[hf]
 refine af (bJ he rfl (x:=.none) rfl ?_)
 rw[ay (by decide)]
 exact tW QI (hl.of_keeps fun b o q _=>⟨o,m.keeps b o q,rfl⟩) hf he rfl rfl (by simp) rfl (fun b o q=>m.keeps b o (RD b o q)) RG k
def Ah{A:Around}{s:Shared}(QI:A.frames=some (env::outer))(hf:env.frame=some L)(f:MJ base (env::outer) e C .none s.heap)(k:∀h',MJ base (env::outer) e C (rawInt L) h'->s.heap.UpToSlots h'->Q () { s with heap:=h' }):wpAny M A (noteFrame (.ref e) env) Q E s:=by
 obtain⟨f1,f2,f3,oe,vs,T,oT,ts,a1,a2,a3,a4,a5,a6,a7,a8,a9,RX⟩:=f
 have off:∀b,b≠T->(s.heap.update T (Obj.mapFields (·.setIfInBounds 3 Value.none))).get? b=s.heap.get? b:=fun b hb=>Heap.get?_update_other _ _ (ft hb)
 have Ng:∀b o,s.heap.get? b=some o->(∀ws,o.data ≠ .fields ws)->b≠T:=fun b o q hn z=>by
  rw[z,a8] at q;cases q;exact hn ts a9
 unfold noteFrame
 simp only[hf]
 refine af (bJ a1 a3 a4 ?_)
 rw[aB (show(Value.ref T != Value.none)=true by simp)]
 refine af (bJ a8 a9 RX ?_)
 rw[ay (show ¬((Value.none==rawInt L)=true) by simp[rawInt])]
 refine af (gM a8 a9 (Array.getElem?_eq_some_iff.mp RX).1 ?_)
 exact tW QI (f3.of_keeps fun b o q hn=>⟨o,(off b (Ng b o q hn)).trans q,rfl⟩) hf ((off e (ft a7)).trans a1) a3 a2 (Array.getElem?_eq_some_iff.mp a4).1 a5
  (fun b o q=>(off b fun z=>by rw[z,a6] at q;cases q).trans (f1 b o q)) f2 fun h' fl up=>k h' fl fun b o q hn=>up b o ((off b (Ng b o q hn)).trans q) hn
def MJ.pop(f:MJ base (env::outer) e C fl h):MJ base outer e C fl h:=let ⟨a,b,⟨_,_,c⟩,d⟩:=f;⟨a,b,c,d⟩
def MJ.first{l:List Env}(f:MJ base l e C fl h):∃oe vs,h.get? e=some oe/\oe.cls=.ref C/\oe.data=.fields vs/\vs[2]?=some .none:=
 let ⟨_,_,_,oe,vs,_,_,_,a1,a2,a3,_,a5,_⟩:=f;⟨oe,vs,a1,a2,a3,a5⟩
end
structure IS(P:Program)(w:World)(l:List Env)(H:Hp)(s:Shared)(H':Hp)(C:Addr)(e:Value)(s':Shared):Prop where
 ex:∃(ea:Addr) (B:Heap),e=.ref ea/\MJ B l ea C .none s'.heap/\MI P w H' B /\
  (∀b o,s.heap.get? b=some o->H b=none->b∉oo l->B.get? b=some o)/\(∀b o,s.heap.get? b=some o->b∉oo l->∃o',B.get? b=some o')
 os:s'.os=s.os
 bare:AllBare s'.gens
 slot:∀b o,s.heap.get? b=some o->H b=none->b∈oo l->∃sl,s'.heap.get? b=some { o with slots:=sl }
 free:∀b o,s.heap.get? b=some o->H b=none->H' b=none
 L8:∀b xs,H b=some (.tup xs)->H' b=some (.tup xs)
 L4:∀b o u,H b=some (.Mq o u)->H' b=some (.Mq o u)
 Mb:∀b ps,H b=some (.NZ ps)->∃more,H' b=some (.NZ (ps++more))
def vn(I:Inv X pins σ H s)(hx:X.ex=[])(M5:X.stack=X.env::X.outer)(hf:X.env.frame=some X.env.locals)(f:IS X.prog X.w X.stack H s H' C e s'):
  wpAny M X.A (leaving X.env e) (fun _ MM=>IS X.prog X.w X.outer X.H₀ X.s₀ H' C e MM) E s':=by
 obtain⟨⟨ea,B,rfl,fl,LA,keep,there⟩,os,bare,slot,free,L8,L4,Mb⟩:=f
 rw[M5] at fl
 have Me:∀b,b∉X.ex:=fun b z=>by rw[hx] at z;cases z
 have PZ:∀b o,X.s₀.heap.get? b=some o->b≠X.env.locals:=fun b o q=>bL (aE (aK q) I.ok.above)
 have Qp:∀b o,X.s₀.heap.get? b=some o->b∉X.fs->b∉oo X.stack:=fun b o q hb z=>by
  rcases aC.mp (I.MN b z) with y | y
  ·exact PZ b o q y
  ·exact hb y
 have Ub:∀b,b∈X.fs->b∈oo X.stack:=fun b hb=>by
  rw[M5];unfold oo;rw[ff,hf];exact aj _ hb
 unfold leaving
 refine af (Ah (by rw[I.ok.frames,M5]) hf fl fun h1 Th up1=>j8 Th fun h' Tg R8=>?_)
 have RN:=Tg.pop
 have up:=up1.trans R8
 refine⟨⟨ea,B,rfl,RN,LA,fun b o q n hb=>?_,fun b o q hb=>?_⟩,os.trans I.os,bare,fun b o q n hb=>?_,fun b o q n=>?_,fun b xs q=>L8 b xs (I.base.L8 b xs q),fun b o u q=>L4 b o u (I.base.L4 b o u q),fun b ps q=>?_⟩
 ·exact keep b o (I.base.keep b o q n hb (Me b)) (I.base.free b o q n (Me b)) (Qp b o q hb)
 ·obtain⟨o',e1⟩:=I.base.there b o q (Me b)
  exact there b o' e1 (Qp b o q hb)
 ·obtain⟨sl,e1⟩:=I.base.slot b o q n hb (Me b)
  obtain⟨Sd,e2⟩:=slot b _ e1 (I.base.free b o q n (Me b)) (Ub b hb)
  obtain⟨_,o2,NS,hd2⟩:=I.ok.MA.mem hb
  have:o=o2:=by rw[q] at NS;exact bc NS
  subst this
  obtain⟨Pb,e3⟩:=up b _ e2 hd2
  exact⟨Pb,e3⟩
 ·obtain⟨o',e1⟩:=I.base.there b o q (Me b)
  exact free b o' e1 (I.base.free b o q n (Me b))
 ·obtain⟨m1,e1⟩:=I.base.Mb b ps q
  obtain⟨m2,e2⟩:=Mb b _ e1
  exact⟨m1++m2,by rw[e2,Array.append_assoc]⟩
def tH{s':Shared}(I:Inv X pins σ H s)(hx:X.ex=[])(M5:X.stack=X.env::X.outer)(hf:X.env.frame=some X.env.locals)(m:Heap.MadeExcOf s.heap s'.heap ea (.ref C) vs)(os:s'.os=s.os)(gens:s'.gens=s.gens):
  wpAny M X.A (leaving X.env (.ref ea)) (fun _ MM=>IS X.prog X.w X.outer X.H₀ X.s₀ H C (.ref ea) MM) E s':=by
 have Me:∀b,b∉X.ex:=fun b z=>by rw[hx] at z;cases z
 have PZ:∀b o,X.s₀.heap.get? b=some o->b≠X.env.locals:=fun b o q=>bL (aE (aK q) I.ok.above)
 have Qp:∀b o,X.s₀.heap.get? b=some o->b∉X.fs->b∉oo X.stack:=fun b o q hb z=>by
  rcases aC.mp (I.MN b z) with y | y
  ·exact PZ b o q y
  ·exact hb y
 have Ub:∀b,b∈X.fs->b∈oo X.stack:=fun b hb=>by
  rw[M5];unfold oo;rw[ff,hf];exact aj _ hb
 have fr:s.heap.FunFrames (PySem.W.hideAll s.heap (oo X.stack)) X.stack:=PySem.W.funFrames_hide I.stack fun env he b hb=>dM.mpr ⟨env,he,hb⟩
 have LA:MI X.prog X.w H (PySem.W.hideAll s.heap (oo X.stack)):=fun a o q=>(I.LA a o q).MW (fun b u hb z=>ny _ z fun hm=>by
   have n:=I.ML b hm
   rcases hb with y | y
   ·rw[y,q] at n;cases n
   ·rw[y] at n;cases n) (fun _ z=>z) fun _ _ z=>z
 unfold leaving
 refine af (Be (base:=PySem.W.hideAll s.heap (oo X.stack)) (h:=s.heap) (by rw[I.ok.frames,M5]) hf (fun b o q=>PySem.W.of_hideAll _ q) (by rw[<-M5];exact fr) m fun h1 Th up1=>j8 Th fun h' Tg R8=>?_)
 have fl:=Tg.pop
 have up:=up1.trans R8
 refine⟨⟨ea,_,rfl,fl,LA,fun b o q n hb=>?_,fun b o q hb=>?_⟩,os.trans I.os,by show AllBare s'.gens;rw[gens];exact I.bare,fun b o q n hb=>?_,fun b o q n=>I.base.free b o q n (Me b),I.base.L8,I.base.L4,I.base.Mb⟩
 ·exact ny _ (I.base.keep b o q n hb (Me b)) (Qp b o q hb)
 ·obtain⟨o',e1⟩:=I.base.there b o q (Me b)
  exact⟨o',ny _ e1 (Qp b o q hb)⟩
 ·obtain⟨sl,e1⟩:=I.base.slot b o q n hb (Me b)
  obtain⟨_,o2,NS,hd2⟩:=I.ok.MA.mem hb
  have:o=o2:=by rw[q] at NS;exact bc NS
  subst this
  obtain⟨Pb,e3⟩:=up b _ (m.keeps _ _ e1) hd2
  exact⟨Pb,e3⟩
inductive zw(X:Cx)(m:Bool)(H:Hp)(s:Shared)(H':Hp)(C:Addr)(e:Value)(s':Shared):Prop where
 |RM:IS X.prog X.w X.stack H s H' C e s'->zw X m H s H' C e s'
 |made {ea:Addr} {vs:hW}:m=true->H'=H->e=.ref ea->Heap.MadeExcOf s.heap s'.heap ea (.ref C) vs->s'.os=s.os->s'.gens=s.gens->zw X m H s H' C e s'
def XP(X:Cx)(m:Bool)(pins:fQ)(B:B0)(F:Hp)(ρ':eU)(C:Addr)(e:Value)(s':Shared):Prop:=
 ∃(σ1:St) (H1:Hp) (s1:Shared) (F' H':Hp),Inv X pins σ1 H1 s1/\Ok X.K B F' H' σ1 ρ'/\Lv F F'/\zw X m H1 s1 H' C e s'
def XP.later(h:XP X m pins B F1 ρ' C e s')(sf:Lv F F1):XP X m pins B F ρ' C e s':=by
 obtain⟨σ1,H1,s1,F',H',a,b,c,d⟩:=h
 exact⟨σ1,H1,s1,F',H',a,b,sf.trans c,d⟩
def J8(X:Cx)(m:Bool)(ρ:eU)(e:Expr)(C:Addr)(ρ':eU):Prop:=∀(B:B0) (F H:Hp) (σ:St),Ok X.K B F H σ ρ->∀(pins:fQ) (s:Shared),Inv X pins σ H s ->
 eG X (eval e X.env) (fun _ _=>False) (XP X m pins B F ρ' C) s
def IH(X:Cx)(m:Bool)(ρ:eU)(st:Stmt)(C:Addr)(ρ':eU):Prop:=∀(B:B0) (F H:Hp) (σ:St),Ok X.K B F H σ ρ->∀(pins:fQ) (s:Shared),Inv X pins σ H s ->
 eG X (exec st X.env) (fun _ _=>False) (XP X m pins B F ρ' C) s
def mF(X:Cx)(m:Bool)(ρ:eU)(st:List Stmt)(C:Addr)(ρ':eU):Prop:=∀(B:B0) (F H:Hp) (σ:St),Ok X.K B F H σ ρ->∀(pins:fQ) (s:Shared),Inv X pins σ H s ->
 eG X (execs st X.env) (fun _ _=>False) (XP X m pins B F ρ' C) s
section
variable {st:Stmt}{rest:List Stmt}
def At.no(t:At X N sc){P:Prop}(h:X.xe v s):P:=by rw[t.MZ] at h;exact h.elim
def Lq.go{Q:oO}(t:At X N sc)(h:Lq X ρ e d)(k:Ok X.K B F H σ ρ)(I:Inv X pins σ H s)(q:∀v u F' H' s',Ext ⟨F,H⟩ F' H'->Rep X.K F' v d->RelV v u->Inv X pins σ H' s'->Q u s'):eG X (eval e X.env) Q E s:=
 aR (h B F H σ (fun v H'=>∃F',Ext ⟨F,H⟩ F' H'/\Rep X.K F' v d) k (fun v F' H' x r=>⟨F',x,r⟩) pins s I) (fun u s' ⟨v,H',I',r,F',x,rv⟩=>q v u F' H' s' x rv r I') fun _ _ z=>t.no z
def Lu.go(t:At X N sc)(h:Lu X ρ e k0)(k:Ok X.K B F H σ ρ)(I:Inv X pins σ H s){Q:Bool->Shared->Prop}(q:∀F' H' s',Ext ⟨F,H⟩ F' H'->Inv X pins σ H' s'->Q k0 s'):eG X (isTrue e X.env (eval e X.env)) Q E s:=
 aR (h B F H σ (fun b H'=>b=k0/\∃F',Ext ⟨F,H⟩ F' H') k (fun F' H' x=>⟨rfl,F',x⟩) pins s I) (fun u s' ⟨H',I',e,F',x⟩=>by subst e;exact q F' H' s' x I') fun _ _ z=>t.no z
def Mt.go(t:At X N sc)(h:Mt X ρ st (.nx ρ1))(k:Ok X.K B F H σ ρ)(I:Inv X pins σ H s){Q:Flow->Shared->Prop}(q:∀F' H' σ' s',Ok X.K B F' H' σ' ρ1->Lv F F'->Inv X pins σ' H' s'->Q .next s'):eG X (exec st X.env) Q E s:=by
 refine aR (h B F H σ { nx:=fun σ' H'=>∃F',Ok X.K B F' H' σ' ρ1/\Lv F F',rt:=fun _ _=>False } k (fun F' H' σ' k' sf=>⟨F',k',sf⟩) pins s I) (fun f s' z=>?_) fun _ _ z=>t.no z
 cases f with
 |next=>obtain⟨σ',H',I',F',k',sf⟩:=z;exact q F' H' σ' s' k' sf I'
 |brk=>obtain⟨_,_,_,z⟩:=z;exact z.elim
 |cont=>obtain⟨_,_,_,z⟩:=z;exact z.elim
 |ret u=>obtain⟨_,_,_,_,_,z⟩:=z;exact z.elim
def fR(h:IH X m ρ st C ρ'):mF X m ρ (st::rest) C ρ':=fun B F H σ k pins s I=>jM (aR (h B F H σ k pins s I) (fun _ _ z=>z.elim) fun _ _ z=>z)
def D0(t:At X N sc)(h1:Mt X ρ st (.nx ρ1))(h:mF X m ρ1 rest C ρ'):mF X m ρ (st::rest) C ρ':=fun B F H σ k pins s I=>
 jM (h1.go t k I fun F' H' σ' s' k' sf I'=>aR (h B F' H' σ' k' pins s' I') (fun _ _ z=>z) fun _ _ z=>z.later sf)
def zX(t:At X N sc)(hc:Lu X ρ c true)(h:mF X m ρ ss C ρ'):IH X m ρ (.If c ss us pos) C ρ':=fun B F H σ k pins s I=>
 wpAny_If (hc.go t k I fun F' H' s' x I'=>aR (h B F' H' σ (k.ext x) pins s' I') (fun _ _ z=>z) fun _ _ z=>z.later x.sf)
def Fj{pos:Pos}(h:J8 X m ρ e C ρ')(hs:swapsWith e (some (.Name x pos')) pos.line X.env=pure false:=by rfl):IH X m ρ (.Assign [.Name x pos'] e pos) C ρ':=fun B F H σ k pins s I=>
 wpAny_Assign_Name (aR (h B F H σ k pins s I) (fun _ _ z=>z.elim) fun _ _ z=>z) hs
def yC{pos:Pos}(h:J8 X m ρ e C ρ')(hs:swapsWith e none pos.line X.env=pure false:=by rfl):IH X m ρ (.Expr e pos) C ρ':=fun B F H σ k pins s I=>
 wpAny_Expr_any (aR (h B F H σ k pins s I) (fun _ _ z=>z.elim) fun _ _ z=>z) I.quiet hs
def yw(P:Program)(w:World):Hs:=fun outer H s E e s'=>∃(C:Addr) (H':Hp),E (.ref C) none H'/\IS P w outer H s H' C e s'
def HB(K:dq)(C:Addr)(R:cQ->Prop):Sp:=fun vs H _ E=>∃F ds,Lv F H/\Ls K F vs ds/\R ds/\∀F' H',Ext ⟨F,H⟩ F' H'->E (.ref C) none H'
def ke(X:Cx)(x:Str)(C:Addr)(R:cQ->Prop):Prop:=∃(f:Addr) (fd:FuncData) (ps:fw) (k:Nat),lX X.prog X.w X.K X.mg X.base (yw X.prog X.w) k f fd ps (HB X.K C R)/\L6 k X.A/\X.mg x=some (.ref f)/\PySem.W.keepIn X.K (.ref f)=true/\Binds X.K fd ps []
def sG(t:At X N sc){R:cQ->Prop}(h:ke X x C R)(ha:E9 X ρ (e::es) ds)(hR:R ds)(hg:DT sc x:=by rfl)(NT:yu x:=by rfl):J8 X m ρ (.Call (.Name x p) (e::es) [] pos) C ρ:=by
 obtain⟨f,fd,ps,k,Fn,hr,hm,hk,hb⟩:=h
 intro B F H σ k0 pins s I
 refine rR (pD I (jA t hg) hm ?_ NT)
 refine PySem.W.callWith_K (h₀:=X.base) I.ok.mod.Rw hk (aR (ha.2 B F H σ (fun vs H1=>∃F1,Ext ⟨F,H⟩ F1 H1/\Ls X.K F1 vs ds) k0 (fun vs F1 H1 x1 r1=>⟨F1,x1,r1⟩) pos pins s I) (fun us s1 z=>?_) fun _ _ z=>t.no z) (ha.1.1 _ _) (OX.any ha.1.2)
 obtain⟨vs,H1,I1,r,F1,x1,r1⟩:=z
 refine⟨I1.MX,?_⟩
 have Oc:HB X.K C R vs H1 (fun _ _=>False) (fun c _ H2=>c=.ref C/\∃F2,Ext ⟨F1,H1⟩ F2 H2):=⟨F1,ds,x1.sub,r1,hR,fun F2 H2 x2=>⟨rfl,F2,x2⟩⟩
 have hl:us.length=ps.length:=by rw[<-r.length];exact Fn.len _ _ _ _ Oc
 refine wpAny_call (Hx (Fn.run X.A X.stack s1 H1 ⟨us,[]⟩ us vs _ _ hr I1.Q4 (by have:=hb s1 us I1.MX (by rw[jt];exact hl);rw[jt] at this;exact this) r Oc) fun r' s' hq=>?_)
 cases r' with
 |error e'=>
  have WM:yw X.prog X.w X.stack H1 s1 (fun c _ H2=>c=Value.ref C/\∃F2,Ext ⟨F1,H1⟩ F2 H2) e' s':=hq
  obtain⟨C',H2,⟨hC,F2,x2⟩,fl⟩:=WM
  cases hC
  exact⟨σ,H1,s1,F2,H2,I1,k0.ext (x1.t x2),(x1.t x2).sf,.RM fl⟩
 |ok fl=>
  cases fl with
  |ret u=>obtain⟨_,_,_,_,_,_,_,z⟩:=(show CE X.stack X.prog X.w H1 s1 (fun _ _=>False) u s' from hq);exact z
  |next=>exact False.elim hq
  |brk=>exact False.elim hq
  |cont=>exact False.elim hq
def v8{P:Program}(MR:P.given.tree=none){w:World}{K:dq}{mg:uh}{base:Heap}{x qual:Str}{st:Stmt}{f:Addr}{fd:FuncData}{N ps:fw}{k:Nat}{C:Addr}{R:cQ->Prop}(Fn:OB K x qual st f fd)(S:aP N ps (ai st))(len:∀ds,R ds->ds.length=ps.length)(body:∀X,DefX P w K mg base k N (ai st) X->∀ds,R ds->∃ρ',mF X true (ds.map Sl.val++List.replicate (N.length-ds.length) Sl.un) (bX st) C ρ'):lX P w K mg base (yw P w) (k+1) f fd ps (HB K C R):=by
 obtain⟨oc,od,kV,doc,pm,an,LU,ct,OJ,rfl,lk,NU⟩:=Fn.ex
 refine C5 lk NU S (fun vs H Q E h=>?_) (fun A outer s H vs Q E hr h=>?_)
 ·obtain⟨F',ds,sub,r,hR,q⟩:=h
  rw[r.length];exact len ds hR
 ·obtain⟨F',ds,sub,r,hR,q⟩:=h
  refine⟨_,lQ,?_⟩
  have hx:DefX P w K mg base k N (ai st) (pQ (yw P w) P w K mg base N qual (ai st) f LU A outer s H E).MZ:=
   ⟨⟨rfl,rfl,rfl,S.nd,rfl,hr.units,hr.NM,MR,⟨_,_,rfl,S.gen,S.co,rfl,rfl⟩⟩,rfl,rfl,rfl,rfl,rfl,hr,⟨fun _=>rfl⟩,rfl,rfl⟩
  obtain⟨ρ',hb⟩:=body _ hx ds hR
  have hk:Ok K ⟨F',H⟩ F' H (start N vs) (ds.map Sl.val++List.replicate (N.length-ds.length) Sl.un):=by
   unfold start
   rw[r.length]
   exact pi sub r _
  refine .mk fun pins s0 I0=>?_
  refine aR (hb ⟨F',H⟩ F' H _ hk pins s0 (I0.MK _)) (fun _ _ z=>z.elim) fun e' s' z=>?_
  obtain⟨σ1,H1,s1,F2,H2,I1,k1,sf,th⟩:=z
  have hE:E (.ref C) none H2:=q F2 H2 k1.toExt
  cases th with
  |RM fl=>exact aR (vn (X:=(pQ (yw P w) P w K mg base N qual (ai st) f LU A outer s H E).MZ) (E:=fun e' MM=>yw P w outer H s E e' MM) I1 rfl rfl rfl fl) (fun _ _ z=>⟨C,H2,hE,z⟩) fun _ _ z=>z
  |made _ eh ee mm os gens=>
   subst eh;subst ee
   exact aR (tH (X:=(pQ (yw P w) P w K mg base N qual (ai st) f LU A outer s H E).MZ) (E:=fun e' MM=>yw P w outer H s E e' MM) I1 rfl rfl rfl mm os gens) (fun _ _ z=>⟨C,_,hE,z⟩) fun _ _ z=>z
def DefX.OU{K:dq}{x:Str}{R:cQ->Prop}(h:DefX P w K mg base k N sc X)(F:lX P w K mg base (yw P w) j f fd ps (HB K C R))(hj:j<=k)(hm:mg x=some (.ref f))(hk:PySem.W.keepIn K (.ref f)=true)(hb:Binds K fd ps []):ke X x C R:=by
 obtain⟨h0,rfl,rfl,rfl,rfl,rfl,hr,_⟩:=h
 exact⟨f,fd,ps,j,F,hr.mono hj,hm,hk,hb⟩
def rW(t:At X N sc)(O:OwnCls x C vB vN X.mg X.base)(h:Lq X ρ msg ms)(hg:DT sc x:=by rfl)(NT:yu x:=by rfl)(hs:Pl msg:=by intro _ _;rfl):
  IH X true ρ (.Raise (some (.Call (.Name x np) [msg] [] Md)) none pos) C ρ:=by
 intro B F H σ k pins s I
 obtain⟨tl,Nn,nm,q,bs,hdct,sn,sub,ab,col,dd,k0,k1,k2,k3,k5,mN,hC,hN,Um,T⟩:=O.obj
 have st:∀{pins σ H s},Inv X pins σ H s->X.base.StaysIn s.heap:=fun I b o q=>I.bk b o q
 refine wpAny_Raise_call_subT (C:=C) (nm:=nm) (q:=q) (N:=Nn) (bs:=bs) (bm:=tl) (hdct:=hdct) (sn:=sn) (sub:=sub) (ab:=ab) (col:=col) (dd:=dd) (k0:=k0) (k1:=k1) (k2:=k2) (k3:=k3) (k5:=k5)
  PySem.F.excBase_ValueError (mN:=mN) (T.hasType PySem.F.excBase_ValueError.hasBase) (I.ok.hd t.calm) (by rw[hs [] X.env];rfl) Um (pD I (jA t hg) O.bound ⟨rfl,?_⟩ NT)
 rw[hs [] X.env]
 refine Calls.evalArgs_plain (Calls.spliced_cons (h.go t k I fun v u F' H' s' x' r ru I'=>Calls.spliced_nil ?_))
 refine⟨rfl,by show 1<=sizeLine;decide,I'.bk _ _ hC,hN.keeps I'.bk,T.keeps I'.bk,fun h' e' mm=>?_⟩
 exact⟨σ,H',s',F',H',I',k.ext x',x'.sf,.made rfl rfl rfl mm rfl rfl⟩
end
def LF.OW(x:LF P w H h a o):∃ob,h.get? a=some ob:=by
 cases o with
 |lst xs=>obtain⟨_,_,_,_,e⟩:=x;exact⟨_,e⟩
 |tup xs=>obtain⟨_,_,_,ob,e,_⟩:=x;exact⟨_,e⟩
 |dK kvs=>obtain⟨_,_,_,_,ob,_,_,e,_⟩:=x;exact⟨_,e⟩
 |dT kvs=>obtain⟨_,_,_,_,ob,_,_,e,_⟩:=x;exact⟨_,e⟩
 |set S n=>obtain⟨ob,_,_,_,e,_⟩:=x;exact⟨_,e⟩
 |ins C dx fs=>obtain⟨_,_,_,e,_⟩:=x;exact⟨_,e⟩
 |own y=>exact x
 |xd fs=>obtain⟨_,⟨ob,_,_,e,_⟩,_⟩:=x;exact⟨_,e⟩
 |Rn lo hi=>obtain⟨_,_,_,e⟩:=x;exact⟨_,e⟩
 |Mq ob u=>obtain⟨e,_⟩:=x;exact⟨_,e⟩
 |NZ ps=>exact⟨_,(show h.get? a=some _ from x)⟩
 |met f y=>exact⟨_,(show h.get? a=some _ from x)⟩
 |ext φ=>obtain⟨_,e,_⟩:=x;exact e
abbrev Cx.L3(X:Cx)(ea:Addr):Cx:={ X with A:=X.A.mark (some (.ref ea)),calm:=false }
def Inv.L3(I:Inv X pins σ H s)(ea:Addr):Inv (Cx.L3 X ea) pins σ H s:=
 ⟨⟨I.ok.mod,I.ok.kind,I.ok.glob,I.ok.blt,I.ok.above,I.ok.inj,I.ok.has,I.ok.Qd,(fun z=>nomatch z),I.ok.frames,I.ok.O0,I.ok.Q3,I.ok.bs,I.ok.OV,I.ok.Me,I.ok.NV,I.ok.MA,I.ok.PL⟩,I.os,I.bare,I.base,I.loc,I.cell,I.free,I.L7,I.pin,I.LA,I.len⟩
def Inv.NW{X:Cx}(ok:X.Ok)(I:Inv (Cx.L3 X ea) pins σ H s):Inv X pins σ H s:=
 ⟨ok,I.os,I.bare,I.base,I.loc,I.cell,I.free,I.L7,I.pin,I.LA,I.len⟩
def At.L3(t:At X N sc)(ea:Addr):NH (Cx.L3 X ea) N sc:=⟨t.eN,t.eS,t.nd,t.MZ,t.un,t.dp,t.tree,t.fr⟩
def Aq{s':Shared}(I:Inv X pins σ H s)(os:s'.os=s.os)(bare:AllBare s'.gens)(LA:MI X.prog X.w H' B)(keep:∀b o,s.heap.get? b=some o->H b=none->b∉oo X.stack->B.get? b=some o)(there:∀b o,s.heap.get? b=some o->b∉oo X.stack->∃o',B.get? b=some o')(slot:∀b o,s.heap.get? b=some o->H b=none->b∈oo X.stack->∃sl,s'.heap.get? b=some { o with slots:=sl })(free:∀b o,s.heap.get? b=some o->H b=none->H' b=none)(L8:∀b xs,H b=some (.tup xs)->H' b=some (.tup xs))(L4:∀b o u,H b=some (.Mq o u)->H' b=some (.Mq o u))(Mb:∀b ps,H b=some (.NZ ps)->∃more,H' b=some (.NZ (ps++more)))(fl:MJ B X.stack ea C .none h5)(up:s'.heap.UpToSlots h5):
  ∃oe:Obj,Inv X pins σ (gq H' ea (.Mq oe (.ext (mx ea C)))) { s' with heap:=h5 }/\H' ea=none/\h5.get? ea=some oe/\oe.cls=.ref C:=by
 obtain⟨oe,vs,QB,QC,Uk,NS⟩:=fl.first
 have PY:∀a o,H' a=some o->a≠ea:=fun a o q z=>by
  obtain⟨ob,e⟩:=LF.OW (LA a o q)
  rw[z,fl.2.1] at e;cases e
 have hn:H' ea=none:=by
  cases q:H' ea with
  |none=>rfl
  |some u=>exact absurd rfl (PY ea u q)
 have Xs:∀b,b∈oo X.stack->b≠ea:=fun b hb z=>by
  obtain⟨_,o,ho,hd⟩:=fl.2.2.1.mem hb
  rw[z,QB] at ho;cases ho;exact hd vs Uk
 have bne:∀b o,s.heap.get? b=some o->b≠ea:=fun b o q=>by
  by_cases hb:b∈oo X.stack
  ·exact Xs b hb
  ·intro z
   obtain⟨o',e⟩:=there b o q hb
   rw[z,fl.2.1] at e;cases e
 refine⟨oe,I.O7 (s':={ s' with heap:=h5 }) (ch:=[]) os ⟨fun b o q n hb _=>fl.1 b o (keep b o q n hb),fun b o q n hb _=>?_,fun b o q n _=>by rw[bo (bne b o q)];exact free b o q n,fun b o q _=>?_,
  fun b xs q=>by rw[bo (PY b _ (L8 b xs q))];exact L8 b xs q,fun b o u q=>by rw[bo (PY b _ (L4 b o u q))];exact L4 b o u q,fun b ps q=>?_⟩ (fun a u q=>?_) bare (fun b z=>absurd z (by simp)),hn,QB,QC⟩
 ·obtain⟨sl,e1⟩:=slot b o q n hb
  obtain⟨_,o2,NS,hd2⟩:=I.stack.mem hb
  have e2:o=o2:=by rw[q] at NS;exact bc NS
  subst e2
  obtain⟨TU,e3⟩:=up b _ e1 hd2
  exact⟨TU,e3⟩
 ·by_cases hb:b∈oo X.stack
  ·obtain⟨sl,e1⟩:=slot b o q (I.ML b hb) hb
   obtain⟨_,o2,NS,hd2⟩:=I.stack.mem hb
   have e2:o=o2:=by rw[q] at NS;exact bc NS
   subst e2
   obtain⟨TU,e3⟩:=up b _ e1 hd2
   exact⟨_,e3⟩
  ·obtain⟨o',e⟩:=there b o q hb
   exact⟨o',fl.1 b o' e⟩
 ·obtain⟨m1,e1⟩:=Mb b ps q
  exact⟨m1,by rw[bo (PY b _ e1)];exact e1⟩
 ·by_cases ha:a=ea
  ·subst ha
   rw[cH] at q;cases q
   exact⟨QB,⟨oe,vs,QB,QC,Uk,NS⟩,⟨oe,QB⟩,fun h1 h2 ⟨ob,ws,e1,e2,e3,e4⟩ k=>⟨ob,ws,k _ e1,e2,e3,e4⟩⟩
  ·rw[bo ha] at q
   exact(LA a u q).MW (fun b v _ z=>fl.1 b v z) (fun b z=>by rw[bo (PY b _ z)];exact z) fun b xs z=>by rw[bo (PY b _ z)];exact z
def yQ{K:dq}{s:Shared}{ea:Addr}{Q:Bool->Shared->Prop}(X:K.In s.heap)(O:OwnCls y Dc vB vN mg s.heap)(he:s.heap.get? ea=some oe)(hc:oe.cls=.ref C)(hm:PySem.W.mroIn K C (.ref Dc)=some b)(q:Q b s):wpAny M A (excMatches (.ref ea) (.ref Dc)) Q E s:=by
 obtain⟨tl,Nn,nm,qn,bs,hdct,sn,sub,ab,col,dd,k0,k1,k2,k3,k5,mN,hC,hN,Um,T⟩:=O.obj
 have hB:tl.contains (.type "BaseException")=true:=T.hasType (X := "BaseException") (b:=true) (by decide)
 have W7:(Value.ref Dc::tl).contains (.type "BaseException")=true:=by rw[List.contains_cons,hB,Bool.or_true]
 have L:=yr (M:=M) X hm
 have f:=tc_notTuple
 obtain⟨hh,gg,d,tt,os⟩:=s
 unfold excMatches
 repeat (first | (with_reducible refine gk he ?_;rw[hc]) | with_reducible refine gk hC ?_ | (with_reducible refine wpAny_isSubtype_exc hC ?_;rw[W7]) | (with_reducible refine L.at ?_) | wp_step)
 cases b <;> (repeat wp_step)<;>exact q
def u0{i:Nat}{Q:Unit->Shared->Prop}(I:Inv X pins σ H s)(hN:X.N.Nodup)(hi:X.N[i]?=some n)(hk:X.env.kindOf n=some .local)(h:∀s',Inv X pins (σ.set i none) H s'->Q () s'):wpAny M A (do bindName X.env n .none;unbindBehindTheSuite X.env n pos) Q E s:=by
 obtain⟨m,hn,hl⟩:=id I.loc
 have PF:(X.env.scope.kind == .class||(X.env.scope.kind == .module&&X.env.locals != X.env.globals))=false:=by rw[I.ok.kind];rfl
 refine wpAny_nameGoes_keeps hk hn PF fun h' v RA hs=>h _ ?_
 have low:∀b o,X.s₀.heap.get? b=some o->h'.get? b=s.heap.get? b:=fun b o e=>hs.2 b (bL (aE (aK e) I.ok.above))
 refine⟨I.ok,I.os,I.bare,⟨fun b o e nn hb hx=>(low b o e).trans (I.base.keep b o e nn hb hx),fun b o e nn hb hx=>?_,I.base.free,fun b o e hx=>?_,I.base.L8,I.base.L4,I.base.Mb⟩,⟨_,RA,fun j y v' e1 e2 e3=>?_⟩,fun y c e=>?_,I.free,I.L7,fun p hp=>?_,fun b ob e=>?_,by rw[ck];exact I.len⟩
 ·obtain⟨sl,e1⟩:=I.base.slot b o e nn hb hx
  exact⟨sl,(low b o e).trans e1⟩
 ·obtain⟨o',e1⟩:=I.base.there b o e hx
  exact⟨o',(low b o e).trans e1⟩
 ·have hj:i≠j:=fun z=>by
   subst z
   rw[List.getElem?_set_self'] at e2
   cases q:σ[i]? with
   |none=>rw[q] at e2;cases e2
   |some w=>rw[q] at e2;cases e2
  rw[List.getElem?_set_ne hj] at e2
  obtain⟨u',r',q⟩:=hl j y v' e1 e2 e3
  refine⟨u',r',?_⟩
  rcases q with⟨k,e⟩ | ⟨k,c,e,z⟩
  ·refine .inl ⟨k,?_⟩
   have:y≠n:=fun e=>hj (tF hN (e ▸ hi) e1)
   simp[this,e]
  ·exact .inr ⟨k,c,e,z.sameBut hs (I.OS y c e)⟩
 ·obtain⟨w',z⟩:=I.cell y c e
  exact⟨w',z.sameBut hs (I.OS y c e)⟩
 ·obtain⟨e,nn,ne,nf,d⟩:=I.pin p hp
  exact⟨(hs.2 p.1 ne).trans e,nn,ne,nf,d⟩
 ·refine(I.LA b ob e).MW (fun c w' hc q=>(hs.2 c ?_).trans q) (fun _ q=>q) fun _ _ q=>q
  rintro rfl
  rcases hc with z | z
  ·rw[<-z,I.free] at e;cases e
  ·rw[I.free] at z;cases z
section
variable {hs:List ExceptHandler}{h₀:ExceptHandler}
def H0(t:At X N sc)(h:Lr X ρ body o):Mt X ρ (.Try body (h₀::hs) [] [] pos) o:=fun B F H σ E k q=>.mk fun pins s I=>by
 refine wpAny_Try_except (aR (h B F H σ E k q pins s I) (fun f s1 z=>?_) fun _ _ z=>t.no z)
 cases f with
 |next=>exact pY z
 |brk=>exact z
 |cont=>exact z
 |ret u=>exact z
def SP.NW{X:Cx}{f:Flow}(ok:X.Ok)(z:SP (Cx.L3 X ea) pins E f s):SP X pins E f s:=by
 cases f with
 |next=>obtain⟨σ',H',I,q⟩:=z;exact⟨σ',H',Inv.NW ok I,q⟩
 |brk=>obtain⟨σ',H',I,q⟩:=z;exact⟨σ',H',Inv.NW ok I,q⟩
 |cont=>obtain⟨σ',H',I,q⟩:=z;exact⟨σ',H',Inv.NW ok I,q⟩
 |ret u=>obtain⟨v,σ',H',I,r,q⟩:=z;exact⟨v,σ',H',Inv.NW ok I,r,q⟩
def Out.drop(i:Nat):Out->Out
 |.nx ρ=>.nx (ρ.set i .un)
 |.rt d=>.rt d
def Aa{o:Addr->Out}(t:At X N sc)(M5:X.stack=X.env::X.outer/\X.env.frame=some X.env.locals)(i:Nat)(hb:mF X false ρ body C ρ1)(OD:OwnCls y Dc vB vN X.mg X.base)(hm:PySem.W.mroIn X.K C (.ref Dc)=some true)(h:∀ea,Lr (Cx.L3 X ea) (ρ1.set i (.val (.Nb C ea))) (b₀::Qi) (o ea))(hi:N[i]?=some n:=by rfl)(hl:sc.names.lookup n=some .local:=by rfl)(hg:DT sc y:=by rfl)(NT:yu y:=by rfl)(ho:∀ea (B:B0) (F:Hp) (E:lH),MH X.K B F E o'->MH X.K B F E ((o ea).drop i)):Mt X ρ (.Try body (.ExceptHandler (some (.Name y np)) (some n) (b₀::Qi) hp::hs) [] [] pos) o':=fun B F H σ E k q=>.mk fun pins s I=>by
 refine wpAny_Try_except (aR (hb B F H σ k pins s I) (fun _ _ z=>z.elim) fun e s' z=>?_)
 obtain⟨σ1,H1,s1,F1,H2,I1,k1,sf,th⟩:=z
 cases th with
 |made z=>cases z
 |RM f=>
  obtain⟨⟨ea,Bh,rfl,fl,LA,keep,there⟩,os,bare,slot,free,L8,L4,Mb⟩:=f
  have RN:=fl
  rw[M5.1] at RN
  refine Ah (by rw[I.ok.frames,M5.1]) M5.2 RN fun h4 QK TH=>?_
  refine j8 QK fun h5 UB Qf=>?_
  have Q2:=UB
  rw[<-M5.1] at Q2
  obtain⟨oe,I5,hn,he,hc⟩:=Aq I1 os bare LA keep there slot free L8 L4 Mb Q2 (TH.trans Qf)
  refine wpAny_handleBy_cons (codeAny_handlers_test (pD (X:=Cx.L3 X ea) (Inv.L3 I5 ea) (show Gl X _ from jA t hg) OD.bound ?_ NT)) (by intro z;cases z)
  refine yQ I5.MX (OD.keeps I5.bk) he hc hm (codeAny_handlers_suite_as ?_)
  refine j8 UB fun h6 Xt R7=>?_
  have QZ:=Xt
  rw[<-M5.1] at QZ
  obtain⟨o6,I6,_⟩:=Aq I1 os bare LA keep there slot free L8 L4 Mb QZ ((TH.trans Qf).trans R7)
  have SO:X.env.kindOf n=some .local:=by show X.env.scope.names.lookup n=_;rw[t.eS];exact hl
  have QD:X.env.scope.names.lookup n=some .local:=SO
  refine kJ (X:=Cx.L3 X ea) (v:=.ref ea) (i:=i) (Inv.L3 I6 ea) t.nd (t.ix hi) (.inl QD) rfl (fun s7 I7=>?_) (.inr QD)
  have k7:Ok X.K B (gq F1 ea (.Mq o6 (.ext (mx ea C)))) (gq H2 ea (.Mq o6 (.ext (mx ea C)))) (σ1.set i (some (.ref ea))) (ρ1.set i (.val (.Nb C ea))):=(k1.grow hn).LZ i (.Nb cH)
  have q2:MH X.K B (gq F1 ea (.Mq o6 (.ext (mx ea C)))) { nx:=fun σ' H'=>E.nx (σ'.set i none) H',rt:=E.rt } (o ea):=by
   have q1:MH X.K B (gq F1 ea (.Mq o6 (.ext (mx ea C)))) E ((o ea).drop i):=MH.later (ho ea B F E q) (sf.trans (bv (k1.sub.free hn)))
   revert q1
   cases o ea with
   |nx ρ2=>
    intro q1
    intro F' H' σ' k' s'
    refine q1 F' H' (σ'.set i none) ⟨k'.toExt,by rw[ck,ck,k'.len],fun j d e=>?_,fun j xs e=>?_,fun j l xs ys a e1 e2 e3 e4=>?_,k'.MY.to (.refl _) (fun _ _ e1 e2 _=>⟨e1,e2⟩) (r9 fun _ z=>nomatch z)⟩ s'
    ·have ne:i≠j:=fun z=>by
      subst z;rw[List.getElem?_set_self'] at e
      cases w:ρ2[i]? with
      |none=>rw[w] at e;cases e
      |some _=>rw[w] at e;cases e
     rw[List.getElem?_set_ne ne] at e ⊢
     exact k'.vals j d e
    ·have ne:i≠j:=fun z=>by
      subst z;rw[List.getElem?_set_self'] at e
      cases w:ρ2[i]? with
      |none=>rw[w] at e;cases e
      |some _=>rw[w] at e;cases e
     rw[List.getElem?_set_ne ne] at e ⊢
     exact k'.Mu j xs e
    ·have ne:∀{j:Nat} {xs:cQ},(ρ2.set i Sl.un)[j]?=some (.own xs)->i≠j:=fun {j xs} e z=>by
      subst z;rw[List.getElem?_set_self'] at e
      cases w:ρ2[i]? with
      |none=>rw[w] at e;cases e
      |some _=>rw[w] at e;cases e
     have n1:=ne e1
     have n2:=ne e2
     rw[List.getElem?_set_ne n1] at e1 e3
     rw[List.getElem?_set_ne n2] at e2 e4
     exact k'.dist j l xs ys a e1 e2 e3 e4
   |rt d=>exact fun q1=>q1
  refine aR (h ea B _ _ _ _ k7 q2 pins s7 I7) (fun f s8 z=>?_) fun _ _ z=>t.no z
  have z':=SP.NW I.ok z
  cases f with
  |next=>
   obtain⟨σ',H',I8,w⟩:=z'
   exact u0 I8 t.nd (t.ix hi) SO fun s9 I9=>⟨_,H',I9,w⟩
  |brk=>
   obtain⟨σ',H',I8,w⟩:=z'
   exact w.elim
  |cont=>
   obtain⟨σ',H',I8,w⟩:=z'
   exact w.elim
  |ret u=>
   obtain⟨v,σ',H',I8,r,w⟩:=z'
   exact u0 I8 t.nd (t.ix hi) SO fun s9 I9=>⟨v,_,H',I9,r,w⟩
end
def Lq.soft(h:Lq X ρ e (.Nb C ea)):Lq X ρ e (.exc C):=fun B F H σ Q k q=>h B F H σ Q k fun v F' H' x r=>by
 cases r with
 |Nb hf=>exact q _ F' H' x (.exc hf)
def p9{ρ:eU}(t:NH X N sc)(i:Nat)(hr:ρ[i]?=some (.val d))(hN:N[i]?=some x:=by rfl)(hv:nJ sc x=true:=by rfl)(hx:iX x=true:=by rfl):Lq X ρ (.Name x pos) d:=by
 have NF:=hx
 unfold iX at NF
 rw[cn,kG,kG] at NF
 refine .of (Cz (by rw[t.eN];exact hN) (by rw[t.eS];exact B1 hv) NF.1 NF.2) fun B F H σ Q k q=>?_
 obtain⟨v,h1,h2⟩:=k.vals i d hr
 exact⟨v,h1,q v F H (.refl k.sub) h2⟩
def Fg{pos:Pos}(t:NH X N sc)(hf:∀x,X.fn x=true)(i:Nat)(h:Lq X ρ e d)(hi:N[i]?=some x:=by rfl)(hx:qT sc x=true:=by rfl)(hs:swapsWith e (some (.Name x pos')) pos.line X.env=pure false:=by rfl):
  Mt X ρ (.Assign [.Name x pos'] e pos) (.nx (ρ.set i (.val d))):=
 .of (yM (i:=i) t.nd (by rw[t.eN];exact hi) (by rw[t.eS];exact CM hx) bW hs (.inl (hf x))) fun B F H σ E k q=>h B F H σ _ k fun v F' H' x' r=>q F' H' _ ((k.ext x').LZ i r) x'.sf
def IA{it l:Addr}(M3:l≠it):∀(n i:Nat) (s:Shared) (Q:hW->Shared->Prop),s.heap.IsListIter it l i->s.heap.IsList l xs->i+n<=xs.size ->
  (∀h',h'.IsListIter it l (i+n)->Heap.SameBut it s.heap h'->Q ((xs.toList.drop i).take n) { s with heap:=h' })->wpAny (model prog w) A (draw (.ref it) n) Q E s:=by
 intro n
 induction n with
 |zero=>
  intro i s Q hit _ _ hQ
  have z:=hQ s.heap hit (Heap.SameBut.refl ..)
  rw[List.take_zero] at z
  exact ar z
 |succ n ih=>
  intro i s Q hit hl hle hQ
  have Mj:i<xs.size:=aE (Nat.lt_succ_of_le (DR i n)) hle
  have hx:xs[i]?=some xs[i]:=Array.getElem?_eq_getElem Mj
  show wpAny _ _ (pyNext (.ref it) >>= _) Q E s
  refine af (wpAny_pyNext_list_item hit hl hx fun h1 Pw Pn=>af (ef (ih (i+1) _ _ Pw (hl.extBut Pn.extBut M3) (by lia) fun h2 SS OK=>ar ?_)))
  have e1:xs.toList.drop i=xs[i]::xs.toList.drop (i+1):=by rw[iR (by simpa using Mj)];simp
  have z:=hQ h2 (by rw[show i+(n+1)=i+1+n by lia];exact SS) (Pn.trans OK)
  rw[e1,List.take_succ_cons] at z
  exact z
def pV{s:Shared}{A:Around}{env:Env}{Q:Unit->Shared->Prop}(hh:A.handled=none)(hl:s.heap.IsList l xs)(hn:(assignEach elts env).length=xs.size)(Qx:(assignEach elts env).findIdx? (·.1)=none)(h:∀h',Heap.ExtBut s.heap.objs.size s.heap h'->wpAny (model prog w) A (assignInOrder ((assignEach elts env).map (·.2)) xs.toList) Q E { s with heap:=h' }):
  wpAny (model prog w) A (assign (.Tuple elts x1 pos) env (.ref l)) Q E s:=by
 have ne:l≠s.heap.objs.size:=by obtain⟨o,ho,_⟩:=hl;exact bL (aK ho)
 rw[assign_Tuple]
 refine af (uU ?_)
 unfold unpack
 rw[hn,Qx]
 refine af (ef ?_)
 unfold unpackItems
 refine af ?_
 unfold notIterableAtAll
 refine af (yx hl.typeIs slot_list_iter.lookup (ar ?_))
 simp only[gG,oM]
 refine af (ef (wpAny_pyIter_list hl ?_))
 refine af (ef (IA ne xs.size 0 _ _ ⟨_,Heap.get?_push_size _ rfl,rfl,rfl⟩ (hl.push _) (nO (Nat.zero_add _)) fun h1 Pw Pn=>?_))
 have all:(xs.toList.drop 0).take xs.size=xs.toList:=by rw[oN];exact Kr (by simp)
 rw[all,ay (by simp)]
 refine af (ef (wpAny_pyNext_list_end hh Pw ((hl.push _).extBut Pn.extBut ne) (by simp) fun h2 Of=>?_))
 simp only[Option.isSome_none,gG,oM]
 exact ar (h h2 fun b o hb e=>Of b o hb (Pn.extBut b o hb (Heap.get?_push_of_some _ e)))
def J3(K:dq)(n:Nat)(t:E6):TG:=fun v σ H Q=>∃a xs,v=.ref a/\Mh K H a xs/\xs.length=n/\t xs σ H Q
def Gj{X:Cx}{n:Nat}{t:E6}(hc:X.calm=true)(h:HG X es t)(hn:(assignEach es X.env).length=n:=by rfl)(M5:(assignEach es X.env).findIdx? (·.1)=none:=by rfl):PG X (.Tuple es k pos) (J3 X.K n t):=by
 intro pins s σ H v u Q I r hw
 obtain⟨a,xs,e1,hq,hl,hw⟩:=hw
 subst e1
 cases r
 obtain⟨its,rv,ht,hz⟩:=I.list hq
 have len:(assignEach es X.env).length=its.toArray.size:=by rw[hn,<-hl,rv.length];simp
 refine pV (I.ok.hd hc) ht.isList len M5 fun h' hx=>?_
 have I1:Inv X pins σ H { s with heap:=h' }:=I.kept (t':=s.toks) fun b o e=>hx b o (bL (aK e)) e
 exact h pins _ σ H xs _ Q I1 (by simpa using rv) hw
structure Ky(X:Cx)(es:ur)(vs:fK)(σ:St)(H:Hp)(Q:St->Hp->Prop):Prop where
 go:∀(pins:fQ) (s:Shared) (us:hW),Inv X pins σ H s->Vals vs us->eG X (assignInOrder ((assignEach es X.env).map (·.2)) us) (fun _ s'=>∃σ' H',Inv X pins σ' H' s'/\Q σ' H') X.xe s
def Cw:HG X es (Ky X es):=fun pins s _ _ _ us _ I r h=>h.go pins s us I r
def DN(X:Cx)(ρ:eU)(es:ur)(ds:cQ)(ρ':eU):Prop:=((∀env,(assignEach es env).length=ds.length)/\∀env,(assignEach es env).findIdx? (·.1)=none)/\∀(B:B0) (F H:Hp) (σ:St) (vs:fK) (Q:St->Hp->Prop),Ok X.K B F H σ ρ->Ls X.K F vs ds ->
 (∀F' H' σ',Ok X.K B F' H' σ' ρ'->Lv F F'->Q σ' H')->Ky X es vs σ H Q
def K3(e:Expr):Prop:=∀(es:ur) (env:Env),assignEach (e::es) env=(false,assign e env)::assignEach es env
def jg:DN X ρ [] [] ρ:=⟨⟨fun _=>rfl,fun _=>rfl⟩,fun B F H σ vs Q k r q=>.mk fun pins s us I ru=>by
 cases r
 exact Ad pins s σ H [] us Q I ru ⟨rfl,q F H σ k (.refl _)⟩⟩
def dL(h1:Nf X ρ e d ρ1)(h2:DN X ρ1 es ds ρ')(hs:K3 e:=by intro _ _;rfl):DN X ρ (e::es) (d::ds) ρ':=⟨⟨fun env=>by rw[hs es env,dC,dC,h2.1.1 env],fun env=>by
  rw[hs es env,List.findIdx?_cons]
  simp[h2.1.2 env]⟩,fun B F H σ vs Q k r q=>.mk fun pins s us I ru=>by
 cases r with
 |cons r1 r2=>
  refine tD Gh Cw (by rw[hs es X.env];rfl) pins s σ H _ us Q I ru ⟨_,_,rfl,?_⟩
  exact h1 B F H σ _ _ k r1 fun F1 H1 σ1 k1 s1=>h2.2 B F1 H1 σ1 _ _ k1 (r2.mono s1) fun F2 H2 σ2 k2 s2=>q F2 H2 σ2 k2 (s1.trans s2)⟩
def mC(t:At X N sc)(h:DN X ρ es ds ρ'):Nf X ρ (.Tuple es k pos) (.tup ds) ρ':=
 .of (Cy (n:=ds.length) t.calm Cw (h.1.1 _) (h.1.2 _)) fun B F H σ v Q k r q=>by
  cases r with
  |tup hf rl=>exact⟨_,_,rfl,L0.of (k.sub _ _ hf),rl.length,h.2 B F H σ _ Q k rl q⟩
def Hb(t:At X N sc)(h:DN X ρ es ds ρ'):Nf X ρ (.Tuple es k pos) (.lst ds) ρ':=
 .of (Gj (n:=ds.length) t.calm Cw (h.1.1 _) (h.1.2 _)) fun B F H σ v Q k r q=>by
  cases r with
  |lst hf rl=>exact⟨_,_,rfl,Mh.of (k.sub _ _ hf),rl.length,h.2 B F H σ _ Q k rl q⟩
structure qL(K:dq)(C:Addr):Prop where
 ga:PySem.W.findIn K (.ref C) "__getattribute__"=some (some (.builtin "BaseException.__getattribute__"))
 gt:PySem.W.findIn K (.ref C) "__getattr__"=some none
 cl:PySem.W.findIn K (.ref C) "__class__"=some (some (.builtin "object.__class__"))
 ob:PySem.W.mroIn K C (.type "object")=some true
 be:PySem.W.mroIn K C (.type "BaseException")=some true
section
variable {g:Array GenState}{d:Drawn}{os:OsState}{K:dq}
def Jn{a:Addr}{R:Result->Shared->Prop}(X:K.In h)(c:qL K C)(hx:h.get? a=some o)(hc:o.cls=.ref C)(hq:R (.ok (.ret (.ref C))) ⟨h,g,d,t,os⟩):
  codeAny (model prog w) A (.call (.builtin "getset_descriptor.__get__") ⟨[.builtin "object.__class__",.ref a,.ref C],[]⟩) R ⟨h,g,d,t,os⟩:=by
 have ty:(⟨h,g,d,t,os⟩:Shared).TypeIs (.builtin "object.__class__") "getset_descriptor" := zW
 have L:PySem.W.Looks (model prog w) h (isSubtype (.ref C) (.type (".".intercalate ("object.__class__".cutAt '.').dropLast))) true:=by rw[F.owner_object_class];exact yr X c.ob
 refine codeAny_call_builtin F.slot_gs_get.plain F.entry_gs_get (F.slot_gs_get.check _ _ _ _ _ _ _ _ ty (F.args_gs_get _ _ _) ?_)
 repeat (any_goals (first | assumption | (with_reducible refine gk hx ?_;rw[hc]) | (with_reducible refine L.at ?_) | wp_step))
 refine⟨Code.quiet_builtin _ (by decide),codeAny_builtin F.entry_object_class ?_⟩
 repeat (any_goals (first | assumption | (with_reducible refine gk hx ?_;rw[hc]) | wp_step))
def FL{a:Addr}{Q:Fin->Shared->Prop}(X:K.In h)(c:qL K C)(hx:h.get? a=some o)(hc:o.cls=.ref C)(hq:Q (.done (.ret (.ref C))) ⟨h,g,d,t,os⟩):
  wpAny (model prog w) A (Builtin.«object.__getattribute__» ⟨[.ref a,.str "__class__" tk],[]⟩) Q E ⟨h,g,d,t,os⟩:=by
 have ty:(⟨h,g,d,t,os⟩:Shared).TypeIs (.builtin "object.__class__") "getset_descriptor" := zW
 have f5:=zW
 have f6:=F.slot_gs_get.lookup
 have f7:=F.slot_gs_set.lookup
 have L:=wM (M:=model prog w) X c.cl
 repeat (any_goals (first | assumption | (with_reducible refine gk hx ?_;rw[hc]) | (with_reducible refine L.at ?_) | wp_step))
 refine Jn X c hx hc ?_
 repeat (any_goals (first | assumption | wp_step))
def FM{a:Addr}{Q:Unit->Shared->Prop}(X:K.In h)(c:qL K C)(hx:h.get? a=some o)(hc:o.cls=.ref C)(hq:Q () ⟨h,g,d,t,os⟩):wpAny M A (checkBuiltinCall "BaseException.__getattribute__" ⟨[.ref a,n],[]⟩) Q E ⟨h,g,d,t,os⟩:=by
 have e1:builtinKind "BaseException.__getattribute__"=some .slot:=by decide
 have e2:splitId "BaseException.__getattribute__"=some ("BaseException", "__getattribute__"):=by decide
 have ha:=F.args_bexc_ga (.ref a) n
 have L:=yr (M:=M) X c.be
 simp only[checkBuiltinCall,e1,e2]
 refine af ?_
 unfold isInstance
 repeat (first | (with_reducible refine gk hx ?_;rw[hc]) | (with_reducible refine L.at ?_) | wp_step)
 exact hq
def KP{Q:oO}{a:Addr}(X:K.In h)(c:qL K C)(hx:h.get? a=some o)(hc:o.cls=.ref C)(hq:Q (.ref C) ⟨h,g,d,t,os⟩):wpAny (model prog w) A (getAttrBy (.ref a) (.str "__class__" tk) false) Q E ⟨h,g,d,t,os⟩:=by
 have f3:=F.attr_ValueError.ga.bind (.ref a)
 have ne:(Value.builtin "BaseException.__getattribute__" == Value.builtin "object.__getattribute__")=false:=by decide
 have ne1:(onTheHeap (Value.ref C)&&Value.builtin "BaseException.__getattribute__" == Value.builtin "object.__getattribute__")=false:=by rw[ne];rfl
 have L1:=wM (M:=model prog w) X c.ga
 have L2:=wM (M:=model prog w) X c.gt
 repeat (any_goals (first | assumption | (with_reducible refine gk hx ?_;rw[hc]) | (with_reducible refine L1.at ?_) | (with_reducible refine L2.at ?_) | wp_step))
 refine codeAny_call_builtin F.attr_ValueError.ga.plain F.entry_bexc_ga (FM X c hx hc (FL X c hx hc ?_))
 repeat (any_goals (first | assumption | wp_step))
def HK{t:Nat}{a:Addr}{Q:Option Value->Shared->Prop}(X:K.In h)(c:qL K C)(hx:h.get? a=some o)(hc:o.cls=.ref C)(hq:Q (some (.ref C)) ⟨h,g,d,t+1,os⟩):wpAny (model prog w) A (getAttr? (.ref a) "__class__") Q E ⟨h,g,d,t,os⟩:=by
 unfold getAttr? getAttrBy?
 repeat (any_goals (first | assumption | with_reducible apply KP X c hx hc | wp_step))
end
def Ak{K:dq}{v:Value}(h:PySem.W.mroIn K C v=some b):∃c0 dd cd sl,K.lookup C=some ⟨c0,dd,.cls cd,sl⟩:=by
 obtain⟨cd,e,_⟩:=Option.bind_eq_some_iff.mp h
 unfold PySem.W.clsIn at e
 split at e
 ·rename_i c0 dd XE sl ho
  exact⟨c0,dd,XE,sl,ho⟩
 ·cases e
def CQ{K:dq}(c:qL K C):PySem.W.KitX K (.ref a) (.ref C) (mx a C) where
 ty:=fun M h X ⟨o,vs,e1,e2,e3,e4⟩=>e2 ▸ (PySem.W.Looks.ld e1).andThen .now
 it:=fun M h X _=>by
  obtain⟨c0,dd,cd,sl,e⟩:=Ak c.ob
  intro A' Q' E' s' k q
  unfold isType loadHead
  exact af (wpAny_loadPart (k _ _ (X _ _ e)) (ar q))
 ne:=fun h tp dd its n sl X e=>by
  obtain⟨c0,ZK,cd,Sd,e'⟩:=Ak c.ob
  refine Bool.eq_false_iff.mpr fun q=>?_
  have z:C=tp:=Value.ref.inj (beq_iff_eq.mp q)
  subst z
  have:=(X _ _ e').symm.trans e
  cases this
 ca:=fun {_ _ _ _ _ s} X ⟨o,vs,e1,e2,e3,e4⟩ q=>by
  obtain⟨h,g,d,t,os⟩:=s
  exact HK X c e1 e2 q
def Da{X:Cx}(sub:Lv F H)(r:Rep X.K F v (.exc C)):∃ea ob,v=.ref ea/\H ea=some (.Mq ob (.ext (mx ea C))):=by
 cases r with
 |exc h=>exact⟨_,_,rfl,sub _ _ h⟩
def CT{cu:Value}{X:Cx}(c:qL X.K C)(rc:∀u,RelV cv u->u=cu)(hk:PySem.W.kitOne X.K (.ref C) cu=some k):
  mQ X (.builtin "isinstance") (fun xs H Q=>∃v b ob,xs=[v,cv]/\v=.ref b/\H b=some (.Mq ob (.ext (mx b C)))/\Q (.bl k) H):=by
 intro pins s σ H xs us Q I r h
 obtain⟨v,b,ob,rfl,rfl,hb,q⟩:=h
 obtain⟨u,w,rfl,ru,Ny⟩:=Fk r
 have e:=rc w Ny
 subst e
 cases(show u=Value.ref b from ru)
 obtain⟨_,hp,_,_⟩:=(show LF X.prog X.w H s.heap b (.Mq ob (.ext (mx b C))) from I.LA b _ hb)
 exact dw (CQ c) I.MX hp hk (fun z=>nomatch z) fun tk=>⟨.bl k,H,I.tok tk,rfl,q⟩
def EG(t:NH X N sc)(h:DT sc x):Gl X x:=by
 show X.env.scope.names.lookup x=_
 rw[t.eS];exact h
def vD{y:Str}(t:NH X N sc)(bl:uT X sc x (.builtin "isinstance"))(c:qL X.K C)(hy:X.mg y=some (.ref Dc))(ha:Lq X ρ a (.exc C))(hk:PySem.W.kitOne X.K (.ref C) (.ref Dc)=some k)(hg:DT sc y:=by rfl)(hd:yu y:=by rfl)(O2:Pl a:=by intro _ _;rfl):Lq X ρ (.Call (.Name x p) [a,.Name y py] [] pos) (.bl k):=
 .of (ml (CT c (cv:=.ref Dc) (fun u h=>h) hk) (EG t bl.g) bl.m bl.v (eH bW (eH (Er (v:=.ref Dc) (EG t hg) hy rfl hd) ie) (O2 _ _)) bl.n bl.d (O2 _ _) rfl) fun B F H σ Q k' q=>
  ha B F H σ _ k' fun v F' H' x' r=>by
   obtain⟨ea,ob,rfl,hb⟩:=Da x'.sub r
   exact⟨_,ea,ob,rfl,rfl,hb,q _ F' H' x' (.bl k)⟩
def BW(t:NH X N sc)(bl:uT X sc x (.builtin "isinstance"))(c:qL X.K C)(bt:uT X sc y (.type T))(ha:Lq X ρ a (.exc C))(hk:PySem.W.kitOne X.K (.ref C) (.type T)=some k)(O2:Pl a:=by intro _ _;rfl):Lq X ρ (.Call (.Name x p) [a,.Name y py] [] pos) (.bl k):=
 .of (ml (CT c (cv:=.ty T) (fun u h=>h) hk) (EG t bl.g) bl.m bl.v (eH bW (eH (Ae (v:=.ty T) (EG t bt.g) bt.m bt.v rfl bt.n bt.d) ie) (O2 _ _)) bl.n bl.d (O2 _ _) rfl) fun B F H σ Q k' q=>
  ha B F H σ _ k' fun v F' H' x' r=>by
   obtain⟨ea,ob,rfl,hb⟩:=Da x'.sub r
   exact⟨_,ea,ob,rfl,rfl,hb,q _ F' H' x' (.bl k)⟩
def tO:D->Bool
 |.LH=>true
 |_=>false
def vO{K:dq}(r:Rep K F v d):decide (v=.LH)=tO d:=by cases r<;>rfl
def Dg(ha:Lq X ρ a d):Lq X ρ (.Compare a [.Is] [.Constant .none j p'] pos) (.bl (tO d)):=
 .of (sw CC bW bW (eB _ (by decide) (by decide))) fun B F H σ Q k q=>two ha jC k fun x y F' H' x' rx ry=>by
  cases ry;exact⟨rfl,by rw[vO rx];exact q _ F' H' x' (.bl _)⟩
def wf(ha:Lq X ρ a d):Lu X ρ (.Compare a [.Is] [.Constant .none j p'] pos) (tO d):=
 oy CC ha jC (eB _ (by decide) (by decide)) fun F H x y Q rx ry q=>by cases ry;exact⟨rfl,by rw[vO rx];exact q⟩
def dJ(ha:Lq X ρ a d):Lu X ρ (.Compare a [.IsNot] [.Constant .none j p'] pos) (!tO d):=
 oy Eu ha jC (eB _ (by decide) (by decide)) fun F H x y Q rx ry q=>by cases ry;exact⟨rfl,by rw[vO rx];exact q⟩
open AutoSeq1 (wpAny_loadPart')
def LP:Slot "reversed" "__next__" "reversed.__next__" :=
 .of (owner := "reversed") (n := "__next__") (by rw[pZ,iM];kernel_rfl) (by decide) (by decide) (by decide) (by first | exact .inl (by decide) | exact .inr (by decide)) (by rw[lY];kernel_rfl)
def nS:Slot "reversed" "__iter__" "reversed.__iter__" :=
 .of (owner := "reversed") (n := "__iter__") (by rw[pZ,iM];kernel_rfl) (by decide) (by decide) (by decide) (by first | exact .inl (by decide) | exact .inr (by decide)) (by rw[lY];kernel_rfl)
def ut:Slot "reversed" "__init__" "object.__init__" :=
 .of (owner := "object") (n := "__init__") (by rw[pZ,iM];kernel_rfl) (by decide) (by decide) (by decide) (by first | exact .inl (by decide) | exact .inr (by decide)) (by rw[lY];kernel_rfl)
def mz:entryFor table "reversed.__next__"=some Builtin.«reversed.__next__»:=IW (by kernel_rfl)
def tV:entryFor table "reversed.__iter__"=some Builtin.«dict_keyiterator.__iter__»:=
 entryFor_alias (id' := "dict_keyiterator.__iter__") (by kernel_rfl) (by first | rfl | decide | (unfold String.splitOn;simp +decide [String.splitOnAux])) (by decide) (by kernel_rfl)
def nY(a:Value):argsOk "reversed.__next__" ⟨[a],[]⟩:=by unfold argsOk;kernel_rfl
def uS(a:Value):argsOk "reversed.__iter__" ⟨[a],[]⟩:=by unfold argsOk;kernel_rfl
def Aj:mroOf (.type "reversed")=pure [.type "reversed",.type "object"]:=by rw[mroOf_type];kernel_rfl
def Ey:typeLookup (.type "reversed") "__new__"=pure (some (.builtin "reversed.__new__")):=by rw[pZ,iM];kernel_rfl
def zj:TypeCalled "reversed" "reversed.__new__" "object.__init__" :=
 ⟨by decide,by decide,⟨_,_,Aj⟩,madeBy_type Aj Ey (by decide),by decide,by rw[lY];kernel_rfl,ut⟩
def vH(a:Value):checkTypeCall "reversed" ⟨[a],[]⟩=pure ():=by kernel_rfl
def xA(a:Value):checkBuiltinCall "reversed.__new__" ⟨[.type "reversed",a],[]⟩=pure ():=by kernel_rfl
def uK:entryFor table "reversed.__new__"=some Builtin.«reversed.__new__»:=IW (by kernel_rfl)
def D3:isSubtype (.type "reversed") (.type "reversed")=pure true:=by rw[lY];kernel_rfl
def AY:typeLookup (.type "tuple") "__reversed__"=pure none:=by rw[pZ,iM];kernel_rfl
def yG:isSubtype (.type "tuple") (.type "dict")=pure false:=by rw[lY];kernel_rfl
def yO(a:Value):Builtin.SmallTypes.newClass "reversed" ⟨[.type "reversed",a],[]⟩=pure (.type "reversed",[a]):=by
 unfold Builtin.SmallTypes.newClass
 simp only[isType,D3,pure_bind,yB,gG,oM]
def zy(h:Heap)(e a:Addr)(j:Int):Prop:=∃o,h.get? e=some o/\o.cls=.type "reversed" /\ o.data=.fields #[.ref a,rawInt j]
def Bi(l:Addr)(items:Array Value)(hz:(items.size:Int)<2 ^ 63):Meets (Builtin.«reversed.__new__» ⟨[.type "reversed",.ref l],[]⟩) (fun _ R s=>IsTup s.heap l items/\∀t',R (.ok (.ret (.ref s.heap.objs.size))) { s with heap:=s.heap.push { cls:=.type "reversed",data:=.fields #[.ref l,rawInt ((items.size:Int)-1)] },toks:=t' }):=
 .of_wp fun prog w A R s h=>by
  obtain⟨hp,g,d,tk,os⟩:=s;obtain⟨hl,h⟩:=h
  have hT:(⟨hp,g,d,tk,os⟩:Shared).TypeIs (.ref l) "tuple" := hl.typeIs
  unfold Builtin.«reversed.__new__»
  refine af (ji (yO _) ?_)
  try dsimp only
  refine af (ji (a:=()) (by first | rfl | kernel_rfl) ?_)
  refine af (ji (a:=()) (by first | rfl | kernel_rfl) ?_)
  try dsimp only
  refine af (yx hT AY ?_)
  try dsimp only
  refine af ?_
  refine af (wL (T := "tuple") (b:=false) hT yG ?_)
  simp only[gG,oM]
  refine af (yx hT slot_tuple_getitem.lookup ?_)
  try dsimp only
  rw[aB (by decide)]
  refine ar ?_
  simp only[yB,gG,oM]
  refine af (len_tuple hl hz ?_)
  refine af (ji (a:=some (items.size:Int)) (by rfl) ?_)
  try dsimp only
  refine af ?_
  show wpAny _ _ (newObj (.type "reversed") (.fields #[.ref l,rawInt ((items.size:Int)-1)])) _ _ _
  exact ba (ar ⟨_,rfl,h _⟩)
def Dx{items:Array Value}{Q:oO}{s:Shared}(hz:(items.size:Int)<2 ^ 63)(hl:IsTup s.heap l items)(h:∀t',Q (.ref s.heap.objs.size) { s with heap:=s.heap.push { cls:=.type "reversed",data:=.fields #[.ref l,rawInt ((items.size:Int)-1)] },toks:=t' }):wpAny (model prog w) A (call (.type "reversed") [.ref l]) Q E s:=by
 refine callType_new zj (by decide) (vH _) (xA _) (fun obj=>F.args_object_init_2 obj _) uK (Bi l items hz) ⟨hl,fun t'=>?_⟩
 exact⟨⟨_,Heap.get?_push_size _ rfl,rfl⟩,h t'⟩
def ux{j:Nat}{items:Array Value}{s:Shared}{Q:Option Value->Shared->Prop}(hz:(items.size:Int)<2 ^ 63)(hit:zy s.heap e a (j:Int))(hl:IsTup s.heap a items)(hx:items[j]?=some x)(hQ:∀h' t',zy h' e a ((j:Int)-1)->Heap.SameBut e s.heap h'->Q (some x) { s with heap:=h',toks:=t' }):wpAny (model prog w) A (pyNext (.ref e)) Q E s:=by
 obtain⟨o,ho,hc,hd⟩:=id hit
 have hT:s.TypeIs (.ref e) "reversed" := ⟨o,ho,hc⟩
 have Yr:j<items.size:=(Array.getElem?_eq_some_iff.mp hx).1
 unfold pyNext
 refine af (uV (wpAny_callSpecial?_slot (name:=Str.ofString "__next__") hT LP (dS LP hT mz ?_ (nY _))))
 unfold Builtin.«reversed.__next__»
 refine af (ji (a:=(Value.ref e,[])) rfl ?_)
 try dsimp only
 refine af (bJ ho hd (x:=.ref a) rfl ?_)
 refine af (bJ ho hd (x:=rawInt (j:Int)) rfl ?_)
 show wpAny _ _ (if (j:Int)<0 then _ else _) _ _ s
 rw[ay (by lia)]
 refine af (yx hl.typeIs slot_tuple_getitem.lookup ?_)
 simp only[Option.isNone_some,gG,oM]
 refine af (wpAny_mkInt ?_)
 refine af (uV (getItem_tuple (j:=j) hl (by lia) (by lia) (by unfold seqIndex?;simp;lia) hx ?_))
 refine af (bJ ho hd (x:=rawInt (j:Int)) rfl ?_)
 show wpAny _ _ (setField (.ref e) 1 (rawInt ((j:Int)-1)) >>= _) _ _ _
 refine af (gM ho hd (by simp) (ar ⟨x,rfl,ar (hQ _ _ ?_ (jQ ..))⟩))
 exact⟨_,Heap.get?_update_self _ ho (iN (eV hd _)),(Hy ..).trans hc,by rw[eV hd];simp[rawInt]⟩
def vV{j:Int}{A:Around}{s:Shared}{Q:Option Value->Shared->Prop}(hh:A.handled=none)(hj:j<0)(hit:zy s.heap e a j)(hQ:∀h',Heap.ExtBut e s.heap h'->Q none { s with heap:=h' }):wpAny (model prog w) A (pyNext (.ref e)) Q E s:=by
 obtain⟨o,ho,hc,hd⟩:=id hit
 have hT:s.TypeIs (.ref e) "reversed" := ⟨o,ho,hc⟩
 unfold pyNext
 refine af (uV (wpAny_callSpecial?_slot (name:=Str.ofString "__next__") hT LP (dS LP hT mz ?_ (nY _))))
 unfold Builtin.«reversed.__next__»
 refine af (ji (a:=(Value.ref e,[])) rfl ?_)
 try dsimp only
 refine af (bJ ho hd (x:=.ref a) rfl ?_)
 refine af (bJ ho hd (x:=rawInt j) rfl ?_)
 show wpAny _ _ (if j<0 then _ else _) _ _ s
 rw[aB hj]
 refine af (K5 ?_)
 refine af ?_
 show wpAny _ _ (do setField (.ref e) 1 (rawInt (-1));setField (.ref e) 0 .none) _ _ s
 refine af (gM ho hd (by simp) ?_)
 have O4:=eV hd (·.setIfInBounds 1 (rawInt (-1)))
 have WO:=Heap.get?_update_self (Obj.mapFields (·.setIfInBounds 1 (rawInt (-1)))) ho (iN O4)
 refine gM WO O4 (by simp) ?_
 refine af ?_
 show wpAny _ _ (newExc (.type "StopIteration") [] >>= _) _ _ _
 refine af ?_
 simp only[newExc,newTuple]
 refine af (ba ?_ (by size_fits))
 refine af (m:=firstArgMember _ _) (ji (a:=Value.none) (by first | rfl | (simp only[firstArgMember];rfl)) ?_)
 refine ba ?_ (by size_fits)
 simp only[raiseNew]
 refine af (wpAny_handled ?_)
 first | rw[show A.in1.handled=none from hh] | rw[hh]
 refine af (ar (wpAny_throw ?_))
 refine af (wL (T := "StopIteration") (b:=true) ⟨_,Heap.get?_push_size _ rfl,rfl⟩ K6 ?_)
 exact ar (hQ _ ((((jQ ..).trans (jQ ..)).extBut.push _).push _))
def xJ{Q:oO}{s:Shared}(hit:zy s.heap e a j)(h:Q (.ref e) s):wpAny (model prog w) A (pyIter (.ref e)) Q E s:=by
 obtain⟨o,ho,hc,hd⟩:=hit
 have hT:s.TypeIs (.ref e) "reversed" := ⟨o,ho,hc⟩
 exact wpAny_pyIter_slot hT nS (dS nS hT tV (ar ⟨_,rfl, "reversed",_,hT,LP.lookup,h⟩) (uS _))
def Kh(K:dq)(a:Addr)(n:Nat):It:=
 ⟨fun i H=>∃xs x,L0 K H a xs/\xs.length=n/\xs.reverse[i]?=some x,fun i H x H'=>H'=H/\∀xs,L0 K H a xs->xs.reverse[i]?=some x,fun i H=>∃xs,L0 K H a xs/\xs.length=n/\n<=i,False⟩
def yL{i:Nat}{α:Type}{xs:List α}{x:α}(h:xs.reverse[i]?=some x):i<xs.length/\xs[xs.length-1-i]?=some x:=by
 have hi:i<xs.length:=by
  have:=(List.getElem?_eq_some_iff.mp h).1
  simpa using this
 rw[List.getElem?_reverse hi] at h
 exact⟨hi,h⟩
def B6{K:dq}(a e:Addr)(n:Nat):yp P w K tg (Kh K a n) [e] e (fun i h=>zy h e a ((n:Int)-1-(i:Int))) where
 mem:=by simp
 obj:=fun i h st b hb=>by
  obtain⟨o,ho,hc,hd⟩:=st
  rw[cJ.mp hb]
  exact⟨o,ho,fun v z=>by rw[hd] at z;cases z⟩
 keep:=fun i h h' st k=>by
  obtain⟨o,ho,r⟩:=st
  exact⟨o,k e (by simp) o ho,r⟩
 item:=by
  intro X hP hw hK hc i pins s σ H E I hf st hg
  subst hP hw hK
  replace hc:=hc.resolve_right fun z=>z.1
  obtain⟨xs,x,hq,hlen,hx⟩:=hg
  obtain⟨its,rv,p,hz⟩:=I.tuple hq
  obtain⟨hi,NF⟩:=yL hx
  obtain⟨u,hu,ru⟩:=rv.get NF
  obtain⟨f0,f1,f2,f3,f4,f5⟩:=hf e (by simp)
  have hl:=rv.length
  have Xo:=mq
  have ej:(n:Int)-1-(i:Int)=((xs.length-1-i:Nat):Int):=by lia
  rw[ej] at st
  refine ux (items:=its.toArray) (by rw[au];lia) st p (x:=u) (by simpa using hu) fun h' tk N0 sb=>?_
  have I1:Inv X pins σ H { s with heap:=h',toks:=tk }:=I.turned (fun b o hb q=>(sb.2 b hb).trans q) f0 f1 f3 f4 f5
  obtain⟨o,e1,c,d⟩:=id N0
  have Sb:zy h' e a ((n:Int)-1-((i+1:Nat):Int)):=by
   have:((xs.length-1-i:Nat):Int)-1=(n:Int)-1-((i+1:Nat):Int):=by lia
   rw[<-this];exact N0
  exact⟨u,rfl,Ap (s:={ s with heap:=h',toks:=tk }) e1 c d (by decide) ⟨x,H,I1,ru,⟨rfl,fun ys hy=>by rw[I.MF hy hq];exact hx⟩,Sb,fun b hb=>(hf b hb).1⟩⟩
 done:=by
  intro X hP hw hK hc i pins s σ H E I hf st hg
  subst hP hw hK
  replace hc:=hc.resolve_right fun z=>z.1
  obtain⟨xs,hq,hlen,hx⟩:=hg
  obtain⟨f0,f1,f2,f3,f4,f5⟩:=hf e (by simp)
  exact vV (I.ok.hd hc) (by lia) st fun h' eb=>⟨rfl,I.turned (t':=s.toks) (fun b o hb q=>eb b o hb q) f0 f1 f3 f4 f5⟩
 self:=fun _ _ s Q E st h=>xJ st h
def JW(K:dq)(ta:TA):TI:=fun σ H R=>ta σ H fun vs H1=>∃a xs,vs=[.ref a]/\L0 K H1 a xs/\R (Kh K a xs.length) H1
def Gg(hg:Gl X "reversed")(hm:X.mg "reversed"=none)(hl:PA X [a] ta)(hs:Pl a):PI X tg (.Call (.Name "reversed" p) [a] [] pos) (JW X.K ta):=by
 intro pins s σ H R I h
 refine Call_ (oj I hg hm (show bootBuiltins "reversed"=some (.type "reversed") by decide) (fq (fg (hl pos pins s σ H _ I h) fun us s1 ⟨vs,H1,I1,r1,q1⟩=>?_) (hs _ _) rfl))
 obtain⟨l,xs,rfl,hq,q⟩:=q1
 obtain⟨u,rfl,ru⟩:=qX r1
 cases(show u=Value.ref l from ru)
 obtain⟨its,rv,pt,hz⟩:=I1.tuple hq
 have hlen:=rv.length
 have Xo:=mq
 refine Dx (items:=its.toArray) (by rw[au];lia) pt fun t'=>?_
 have kp:∀b o,s1.heap.get? b=some o->(s1.heap.push { cls:=.type "reversed",data:=.fields #[.ref l,rawInt ((its.toArray.size:Int)-1)] }).get? b=some o:=fun b o q=>Heap.get?_push_of_some _ q
 have I2:Inv X pins σ H1 { s1 with heap:=s1.heap.push { cls:=.type "reversed",data:=.fields #[.ref l,rawInt ((its.toArray.size:Int)-1)] },toks:=t' }:=I1.kept kp
 have st:zy (s1.heap.push { cls:=.type "reversed",data:=.fields #[.ref l,rawInt ((its.toArray.size:Int)-1)] }) s1.heap.objs.size l ((its.toArray.size:Int)-1):=⟨_,Heap.get?_push_size _ rfl,rfl,rfl⟩
 refine xJ st ?_
 refine⟨s1.heap.objs.size,[s1.heap.objs.size],_,_,H1,rfl,I2,B6 l _ xs.length,?_,fun b hb=>?_,q⟩
 ·have:(its.toArray.size:Int)-1=(xs.length:Int)-1-((0:Nat):Int):=by rw[au];lia
  rw[<-this];exact st
 ·rw[cJ.mp hb];exact I1.Ol (az _) (I1.LA.fresh (az _))
def GR{K:dq}{F:Hp}{l:Addr}(hf:F l=some (.tup vs))(r:Ls K F vs ds):rP K (Kh K l vs.length) F ds.reverse:=fun i F2 H2 s1 s2=>
 ⟨fun d hd=>by
  obtain⟨v,hv,rv⟩:=r.reverse.get hd
  have sq:L0 K H2 l vs:=L0.of (s2 _ _ (s1 _ _ hf))
  refine⟨⟨vs,v,sq,rfl,hv⟩,fun x H' y=>?_⟩
  obtain⟨rfl,y⟩:=y
  have e:=y vs sq
  rw[hv] at e;cases e
  exact⟨F2,.refl s2,rv.mono s1⟩,fun h=>⟨vs,L0.of (s2 _ _ (s1 _ _ hf)),rfl,by rw[r.length];rw[dW] at h;exact h⟩⟩
def Ha(t:At X N sc)(bl:uT X sc "reversed" (.type "reversed"))(h:Lq X ρ a (.tup ds))(hs:Pl a:=by intro _ _;rfl):Nd X ρ tg (.Call (.Name "reversed" p) [a] [] pos) ds.reverse:=
 .of (Gg (jA t bl.g) bl.m (eH bW ie (hs _ _)) hs) fun B F H σ R k q=>h B F H σ _ k fun v F' H' x r=>by
  cases r with
  |tup hf rl=>exact⟨_,_,rfl,L0.of (x.sub _ _ hf),q _ F' H' x (GR hf rl)⟩
section
variable {st:Stmt}{rest:List Stmt}
def Et:mG X (binaryOp .Sub) (fun x y H Q=>∃k j:Bool,x=.bl k/\y=.bl j/\Q (.int (b2i k-b2i j)) H):=by
 intro pins s σ H x y v u Q I rx ry h
 obtain⟨k,j,rfl,rfl,q⟩:=h
 cases rx
 cases ry
 exact sub_bool ⟨.int (b2i k-b2i j),H,I.tok _,⟨_,rfl⟩,q⟩
def EK(ha:Lq X ρ a (.bl k))(hb:Lq X ρ b (.bl j)):Lq X ρ (.BinOp a .Sub b pos) (.int (b2i k-b2i j)):=
 .of (xq Et bW bW) fun B F H σ Q k' q=>two ha hb k' fun x y F' H' x' rx ry=>by
  cases rx;cases ry
  exact⟨k,j,rfl,rfl,q _ F' H' x' (.int _)⟩
end
end L2.EV
namespace HT
open PySem PyProof.Rows PySem.Spec
variable {K:dq}{ds:cQ}
def qk{n:Nat}{s:Shared}{Q:Int×Int×Nat->Shared->Prop}(hs:s.heap.IsSliceOf sl .none .none (.int (-1) tk))(h:Q ((n:Int)-1,-1,n) s):wpAny (model prog w) A (Builtin.Slice.sliceApplied (.ref sl) (pure (n:Int))) Q E s:=by
 obtain⟨os,Nq,PD,N4⟩:=id hs
 unfold Builtin.Slice.sliceApplied Builtin.Slice.sliceFields
 refine af (af (bJ Nq N4 (x:=.none) rfl (af (bJ Nq N4 (x:=.none) rfl (af (bJ Nq N4 (x:=.int (-1) tk) rfl (ar ?_)))))))
 refine af (slicePart_int ?_)
 show wpAny _ _ (if ((-1:Int)==0)=true then _ else _) _ _ s
 rw[ay (by decide)]
 refine af (HH (af (HH (af (ar ?_)))))
 have e:Builtin.Slice.slicePlaces ((n:Int)-1) (-1) (-1)=n:=by
  unfold Builtin.Slice.slicePlaces
  rw[ay (by decide)]
  by_cases z:n=0
  ·subst z;rfl
  ·rw[aB (by lia)]
   have : -(-1:Int)=1:=rfl
   rw[this,Int.ediv_one];lia
 show wpAny _ _ (pure ((n:Int)-1,(-1:Int),Builtin.Slice.slicePlaces ((n:Int)-1) (-1) (-1))) _ _ s
 rw[e]
 exact ar h
def Ct(xs:Array Value):((List.range xs.size).filterMap fun(m:Nat)=>xs[((xs.size:Int)-1+(m:Int)*(-1)).toNat]?).toArray=xs.toList.reverse.toArray:=by
 have Ra:∀(f g:Nat->Option Value) (l:Kv),(∀m∈l,f m=g m)->l.filterMap f=l.filterMap g:=by
  intro f g l
  induction l with
  |nil=>intro _;rfl
  |cons m l ih=>
   intro h
   have h1:=ih fun m hm=>h m (aj _ hm)
   rw[ff,ff,h m (aT ..),h1]
 have h2:∀(n:Nat) (r:hW),r.length=n->(List.range r.length).filterMap (fun m=>r[m]?)=r:=by
  intro n
  induction n with
  |zero=>intro r hr;rw[cz hr];rfl
  |succ n ih=>
   intro r hr
   rcases eu r with e | ⟨ys,y,e⟩
   ·subst e;simp at hr
   ·rw[fB] at e
    subst e
    have hl:ys.length=n:=by simpa using hr
    rw[bV,uX,uj,List.filterMap_append]
    have e1:=Ra (fun m=>(ys++[y])[m]?) (fun m=>ys[m]?) (List.range ys.length) fun m hm=>List.getElem?_append_left (List.mem_range.mp hm)
    rw[e1,ih ys hl]
    congr 1
    simp
 have key:∀l:hW,(List.range l.length).filterMap (fun(m:Nat)=>l[((l.length:Int)-1+(m:Int)*(-1)).toNat]?)=l.reverse:=by
  intro l
  have h1:=Ra (fun(m:Nat)=>l[((l.length:Int)-1+(m:Int)*(-1)).toNat]?) (fun m=>l.reverse[m]?) (List.range l.length) fun m hm=>by
   have Ow:=List.mem_range.mp hm
   show l[((l.length:Int)-1+(m:Int)*(-1)).toNat]?=l.reverse[m]?
   rw[List.getElem?_reverse Ow]
   congr 1;lia
  rw[h1]
  have:=h2 _ l.reverse rfl
  rw[dW] at this
  exact this
 have:=key xs.toList
 rw[i8] at this
 have e:(fun(m:Nat)=>xs.toList[((xs.size:Int)-1+(m:Int)*(-1)).toNat]?)=fun(m:Nat)=>xs[((xs.size:Int)-1+(m:Int)*(-1)).toNat]?:=by
  funext m;exact Array.getElem?_toList
 rw[e] at this
 rw[this]
def Mx{Q:oO}{s:Shared}(ht:IsTup s.heap t items)(hs:s.heap.IsSliceOf sl .none .none (.int (-1) tk))(h:Q (.ref s.heap.objs.size) { s with heap:=s.heap.push { cls:=.type "tuple",data:=.seq items.toList.reverse.toArray } })(MV:items.size<=sizeLine):wpAny (model prog w) A (getItem (.ref t) (.ref sl)) Q E s:=by
 have Mv:sizeOk (.seq items.toList.reverse.toArray):=by
  show items.toList.reverse.toArray.size<=sizeLine
  rw[au,dW,i8]
  exact MV
 obtain⟨os,Nq,PD,N4⟩:=id hs
 have QQ:s.TypeIs (.ref sl) "slice" := ⟨os,Nq,PD⟩
 unfold getItem
 try with_reducible refine ef ?_
 first | refine af (ar ?_) | skip
 refine af (Hu ht.typeIs (by decide) ?_)
 refine af (wpAny_callSpecial?_slot (name:=Str.ofString "__getitem__") ht.typeIs du
  (dS du ht.typeIs Jk ?_ (KI _ _)))
 show wpAny _ _ (Builtin.Tuple.tupleItemsOf (.ref t) >>= _) _ _ s
 refine af (tupleItemsOf_ ht ?_)
 refine af (Ht QQ ?_)
 rw[aB (by decide)]
 refine af (qk hs ?_)
 have SJ:¬((((items.size:Int)-1)==0&&(-1:Int)==1&&items.size==items.size)=true):=by
  intro q
  rw[cn,cn] at q
  have q1:((-1:Int)==1)=true:=q.1.2
  exact absurd q1 (by decide)
 show wpAny _ _ (if (((items.size:Int)-1)==0&&(-1:Int)==1&&items.size==items.size)=true then _ else _) _ _ s
 rw[ay SJ,Ct]
 first
  |exact af (m:=Builtin.Tuple.tupleExact _) (ba (ar ⟨_,rfl,ar h⟩) Mv)
  |exact af (m:=Builtin.Tuple.tupleExact _) (ba (af (ar (ar ⟨_,rfl,ar h⟩))) Mv)
  |exact af (af (m:=Builtin.Tuple.tupleExact _) (ba (ar (ar ⟨_,rfl,ar h⟩)) Mv))
  |exact af (af (m:=Builtin.Tuple.tupleExact _) (ba (ar ⟨_,rfl,ar h⟩) Mv))
end HT
namespace L2.EV
open PySem PySem.Spec PyProof.Rows
variable {K:dq}{ds:cQ}
def G4(ha:MD X ρ a false xs)(hc:Lq X ρ c (.int (-1))):Lq X ρ (.Subscript a (.Slice none none (some c) p2) pos) (.tup xs.reverse):=fun B F H σ Q k q=>.mk fun pins s I=>by
 refine Subscript_ (fg (ha B F H σ (fun v H1=>∃p vs F1,v=.ref p/\Ext ⟨F,H⟩ F1 H1/\Oq X.K false H1 p vs/\Ls X.K F1 vs xs) k (fun p vs F1 H1 x1 s1 r1=>⟨p,vs,F1,rfl,x1,s1,r1⟩) pins s I) fun v s1 z=>?_)
 obtain⟨x,H1,I1,r1,p,vs,F1,hx,x1,sq,rp⟩:=z
 subst hx
 cases r1
 refine wpAny_Slice ?_
 rw[evalPart_none]
 refine ar ?_
 refine ar ?_
 rw[evalPart_some]
 refine fg (hc B F1 H1 σ (fun v H2=>∃F2,Ext ⟨F1,H1⟩ F2 H2/\v=.int (-1)) (k.ext x1) (fun v F2 H2 x2 r=>by cases r;exact⟨F2,x2,rfl⟩) pins s1 I1) fun u s2 z=>?_
 obtain⟨y,H2,I2,r2,F2,x2,hy⟩:=z
 subst hy
 obtain⟨tk,rfl⟩:=r2
 have I4:Inv X pins σ H2 { s2 with heap:=s2.heap.push { cls:=.type "slice",data:=.fields #[.none,.none,.int (-1) tk] } }:=I2.kept (t':=s2.toks) fun b ob q=>Heap.get?_push_of_some _ q
 have VC:L0 X.K H2 p vs:=Oq.mono x2.sh sq
 obtain⟨its,r,ht,hz⟩:=I4.tuple VC
 have hlen:its.toArray.size=vs.length:=by rw[au];exact r.length.symm
 show eG X (subscriptTail a (.Slice none none (some c) p2) (.ref p) (.ref s2.heap.objs.size)) (EP X pins σ Q) X.xe { s2 with heap:=s2.heap.push { cls:=.type "slice",data:=.fields #[.none,.none,.int (-1) tk] } }
 refine tail_any (ops:=[.ref p,.ref s2.heap.objs.size]) ht.typeIs PyProof.Rows.slot_tuple_getitem.lookup (HT.Mx ht (Heap.IsSliceOf.new ..) ?_ (by rw[hlen];exact hz)) rfl
 have xx:=x1.t x2
 have r3:=rp.mono x2.sf
 refine⟨.ref _,_,I4.laid (t':=s2.toks) (o:=.tup vs.reverse) (fun b ob q=>Heap.get?_push_of_some _ q) (az _) ?_,rfl,q _ _ _ (xx.grow (I4.LA.fresh (az _))) (.tup cH (r3.reverse.mono (bv (xx.sub.free (I4.LA.fresh (az _))))))⟩
 exact⟨by rw[dW];exact hz,_,r.reverse,IsTup.new _ _⟩
def Lh(F:Hp)(p:Addr):Hp:=fun a=>if a=p then none else F a
end L2.EV
namespace L2
open PySem PySem.Spec PyProof.Rows
variable {K:dq}{ds:cQ}
end L2
namespace L2.EV
open PySem PySem.Spec PyProof.Rows
variable {K:dq}{ds:cQ}
abbrev Lm:=List (aI×Int)
abbrev Ll:=List (aI×Addr×Int)
def items_int:∀{ks:aI} {us:hW},Vals (ks.map V.int) us->ItemsAre (intKind P w) ks us
 |[],_,r=>by rw[List.map_nil] at r;cases r;exact .nil
 |k::ks,_,r=>by
  rw[dQ] at r
  cases r with
  |cons h t=>
   obtain⟨tk,rfl⟩:=(show ∃t,_=Value.int k t from h)
   exact .cons (by show Value.isInt k (.int k tk)=true;simp[Value.isInt]) (items_int t)
def Co{p:PyData}(t:At X N sc){qs:List PyData}(sp:p.canLay0=true)(sd:p.depth<=62)(sq:PyData.canLayAll0 qs=true):mG X (compareOp .NotIn) (fun x y H Q=>NN X H x p/\NN X H y (.list qs)/\Q (.bl (!qs.any fun y=>PyData.eqv y p)) H):=by
 intro pins s σ H x y v u Q I rx ry h
 obtain⟨h1,h2,h3⟩:=h
 obtain⟨as,r1⟩:=h1 sp H (.refl _) pins σ s v I rx
 obtain⟨bs,r2⟩:=h2 (by simpa [PyData.canLay0] using sq) H (.refl _) pins σ s u I ry
 refine SeqAt.notIn_list_reads r2 r1 sq sp ?_ ⟨.bl _,H,I,rfl,h3⟩
 have hu:=t.un
 have:min (PyData.depthAll qs) p.depth<=p.depth:=DQ _ _
 lia
def Dl{r:Bool}(t:At X N sc)(ha:Lq X ρ a d)(i:Nat)(hr:ρ[i]?=some (.own xs))(sp:(iE d).canLay0=true)(sd:(iE d).depth<=62)(sq:PyData.canLayAll0 (LD xs)=true)(he:(!(LD xs).any fun y=>PyData.eqv y (iE d))=r)(hN:N[i]?=some x:=by rfl)(hv:nJ sc x=true:=by rfl)(hx:iX x=true:=by rfl):Lu X ρ (.Compare a [.NotIn] [.Name x p] pos) r:=
 .of (m8 (Co t sp sd sq) bW bW rfl) fun B F H σ Q k q=>AU (Lq.p ha) (MD.p (ou t i hr hN hv hx)) k fun x y F' H' x' rx ry=>⟨rx,ry,r,by rw[he],q F' H' x'⟩
end L2.EV
namespace HT
open PySem PySem.Spec PyProof.Rows
variable {K:dq}{ds:cQ}
def Mp{Q:oO}{s:Shared}{lo hi:Option Int}(ht:IsTup s.heap t items)(hs:s.heap.IsSliceOf sl vl vu .none)(pl:IsPart vl lo)(pu:IsPart vu hi)(hw:LC items.size 0 lo=0/\LC items.size items.size hi=items.size)(h:Q (.ref t) s):wpAny (model prog w) A (getItem (.ref t) (.ref sl)) Q E s:=by
 obtain⟨os,Nq,PD,N4⟩:=id hs
 have QQ:s.TypeIs (.ref sl) "slice" := ⟨os,Nq,PD⟩
 unfold getItem
 try with_reducible refine ef ?_
 first | refine af (ar ?_) | skip
 refine af (Hu ht.typeIs (by decide) ?_)
 refine af (wpAny_callSpecial?_slot (name:=Str.ofString "__getitem__") ht.typeIs du
  (dS du ht.typeIs Jk ?_ (KI _ _)))
 show wpAny _ _ (Builtin.Tuple.tupleItemsOf (.ref t) >>= _) _ _ s
 refine af (tupleItemsOf_ ht ?_)
 refine af (Ht QQ ?_)
 rw[aB (by decide)]
 refine af (kK hs pl pu ?_)
 have Su:(((LC items.size 0 lo:Nat):Int)==0&&(1:Int)==1&&(LC items.size items.size hi-LC items.size 0 lo)==items.size)=true:=by
  rw[hw.1,hw.2];simp
 show wpAny _ _ (if (((LC items.size 0 lo:Nat):Int)==0&&(1:Int)==1&&(LC items.size items.size hi-LC items.size 0 lo)==items.size)=true then _ else _) _ _ s
 rw[aB Su]
 refine af (af (m:=typeOf (.ref t)) (Ht ht.typeIs (ar ?_)))
 rw[aB (by decide)]
 have fin:wpAny (model prog w) A.in1 (ret (Value.ref t)) (fun fin s'=>∃v,fin=Fin.done (Flow.ret v)/\wpAny (model prog w) A (pure v) Q E s') E s:=ar ⟨_,rfl,ar h⟩
 first
  |exact fin
  |exact af (ar fin)
  |trace_state
end HT
namespace L2
open PySem PySem.Spec PyProof.Rows
variable {K:dq}{ds:cQ}
def JE(K:dq):V->Option Int->Option Int->Hp->VK->Prop:=fun x lo hi H Q=>∃a xs,x=.ref a/\L0 K H a xs/\(HT.LC xs.length 0 lo=0/\HT.LC xs.length xs.length hi=xs.length)/\Q (.ref a) H
def D4:Jf X (JE X.K):=by
 intro pins s σ H x v vl vu lo hi sl Q I rx hs pl pu h
 obtain⟨a,xs,rfl,hx,hw,q⟩:=h
 cases rx
 obtain⟨its,r,ht,hz⟩:=I.tuple hx
 have hlen:its.toArray.size=xs.length:=by rw[au];exact r.length.symm
 refine⟨"tuple",_,PyProof.Rows.slot_tuple_getitem.lookup,ht.typeIs,?_⟩
 exact HT.Mp ht hs pl pu (by rw[hlen];exact hw) ⟨.ref a,H,I,rfl,q⟩
end L2
namespace L2.EV
open PySem PySem.Spec PyProof.Rows
variable {K:dq}{ds:cQ}
def EM{lo hi:Option Expr}{l h:Option Int}(ha:Lq X ρ a (.tup xs))(hl:DX X ρ lo l)(hh:DX X ρ hi h)(hw:HT.LC xs.length 0 l=0/\HT.LC xs.length xs.length h=xs.length):
  Lq X ρ (.Subscript a (.Slice lo hi none p2) pos) (.tup xs):=
 .of (tE D4 bW A9 A9) fun B F H σ Q k q=>ha B F H σ _ k fun v F1 H1 x1 r1=>hl B F1 H1 σ _ (k.ext x1) fun F2 H2 x2=>hh B F2 H2 σ _ (k.ext (x1.t x2)) fun F3 H3 x3=>by
  have x:=x1.t (x2.t x3)
  have r3:=(r1.mono x2.sf).mono x3.sf
  cases r3 with
  |tup hs rs=>exact⟨_,_,rfl,L0.of (x.sub _ _ hs),by rw[rs.length];exact hw,q _ F3 H3 x (.tup hs rs)⟩
def KE(B:B0)(p:Addr)(us:fK):B0:=⟨B.F,gq B.H p (.lst us)⟩
structure Kf(K:dq)(B:B0)(p:Addr)(F:Hp)(us:fK)(xs:cQ):Prop where
 st:B.H p=some (.lst us)
 fr:B.F p=none
 rep:Ls K F us xs
def IN(K:dq)(B:B0)(p:Addr)(F₀:Hp)(E:lH)(O9:cQ):Out->Prop
 |.nx ρ=>∀F H σ us,Ok K (KE B p us) F H σ ρ->Ls K F us O9->Lv F₀ F->E.nx σ H
 |.rt d=>∀v F H us,Ext (KE B p us) F H->Ls K F us O9->Rep K F v d->E.rt v H
def K4(X:Cx)(p:Addr)(ρ:eU)(Nx:List Stmt)(o:Out)(xs O9:cQ):Prop:=∀(B:B0) (F H:Hp) (σ:St) (E:lH) (us:fK),Kf X.K B p F us xs->Ok X.K B F H σ ρ->IN X.K B p F E O9 o->wSs X Nx E σ H
abbrev Tb:=List (Addr×cQ)
def FX{p:PyData}(t:At X N sc){qs:List PyData}(sp:p.canLay0=true)(sd:p.depth<=62)(sq:PyData.canLayAll0 qs=true):mG X (compareOp .In) (fun x y H Q=>NN X H x p/\NN X H y (.list qs)/\Q (.bl (qs.any fun y=>PyData.eqv y p)) H):=by
 intro pins s σ H x y v u Q I rx ry h
 obtain⟨h1,h2,h3⟩:=h
 obtain⟨as,r1⟩:=h1 sp H (.refl _) pins σ s v I rx
 obtain⟨bs,r2⟩:=h2 (by simpa [PyData.canLay0] using sq) H (.refl _) pins σ s u I ry
 refine SeqAt.in_list_reads r2 r1 sq sp ?_ ⟨.bl _,H,I,rfl,h3⟩
 have hu:=t.un
 have:min (PyData.depthAll qs) p.depth<=p.depth:=DQ _ _
 lia
def Dm{r:Bool}(t:At X N sc)(ha:Lq X ρ a d)(hb:MD X ρ b true xs)(sp:(iE d).canLay0=true)(sd:(iE d).depth<=62)(sq:PyData.canLayAll0 (LD xs)=true)(he:((LD xs).any fun y=>PyData.eqv y (iE d))=r)(hm:behindInMarks .In b=false:=by rfl):Lu X ρ (.Compare a [.In] [b] pos) r:=
 .of (m8 (FX t sp sd sq) bW bW hm) fun B F H σ Q k q=>AU (Lq.p ha) (MD.p hb) k fun x y F' H' x' rx ry=>⟨rx,ry,r,by rw[he],q F' H' x'⟩
mutual
inductive GP(K:dq):Value->PyData->Prop where
 |int (i:Int) (t:Tok):GP K (.int i t) (.int i)
 |str (x:Str) (t:Tok):GP K (.str x t) (.str x)
 |tup {a:Addr} {o:Obj} {its:Array Value} {n:Nat} {ps:List PyData}:K.lookup a=some o->o.cls=.type "tuple" -> o.data=.seq its n->O8 K its.toList ps->GP K (.ref a) (.tuple ps)
inductive O8(K:dq):hW->List PyData->Prop where
 |nil:O8 K [] []
 |cons {v:Value} {vs:hW} {p:PyData} {ps:List PyData}:GP K v p->O8 K vs ps->O8 K (v::vs) (p::ps)
end
mutual
def GP.reads{K:dq}(i:K.In h):∀{v:Value} {p:PyData},GP K v p->∃as,Reads h v p as
 |_,_,.int i t=>⟨_,.int i t⟩
 |_,_,.str x t=>⟨_,.str x t⟩
 |_,_,.tup e c d r=>by obtain⟨as,ra⟩:=O8.reads i r;exact⟨_,.tuple (i _ _ e) c d ra⟩
def O8.reads{K:dq}(i:K.In h):∀{vs:hW} {ps:List PyData},O8 K vs ps->∃as,ReadsAll h vs ps as
 |_,_,.nil=>⟨_,.nil⟩
 |_,_,.cons a b=>by obtain⟨as,ra⟩:=GP.reads i a;obtain⟨bs,rb⟩:=O8.reads i b;exact⟨_,.cons ra rb⟩
end
def Ax{lo hi:Option Expr}{l h:Option Int}(ha:Lq X ρ a (.tup xs))(hl:DX X ρ lo l)(hh:DX X ρ hi h):Lq X ρ (.Subscript a (.Slice lo hi none p2) pos) (.tup (tZ xs l h)):=by
 by_cases hw:HT.LC xs.length 0 l=0/\HT.LC xs.length xs.length h=xs.length
 ·have e:tZ xs l h=xs:=by unfold tZ;rw[hw.1,hw.2];simp
  rw[e];exact EM ha hl hh hw
 ·exact EN ha.qt hl hh hw
def AO{α:Type}[DecidableEq α](u v:α):(u==v)=decide (u=v):=by
 by_cases h:u=v
 ·simp[h]
 ·simp[h]
def ES(w:Str):(iE (.str w)).depth<=62:=by simp[iE,PyData.depth]
def He{w:Str}(h:PyData.strOk w=true):(iE (.str w)).canLay0=true:=by simp[iE,PyData.canLay0,h]
def vK{w:Str}(h:PyData.strOk w=true):SeqAt.shaped (iE (.str w))=true:=by
 show((iE (.str w)).canLay0&&decide ((iE (.str w)).depth<=64))=true
 rw[aH (by have:=ES w;lia),He h];rfl
def ko(t:At X N sc)(ha:Lq X ρ a (.str u))(hb:Lq X ρ b (.str v))(hu:PyData.strOk u=true)(hv:PyData.strOk v=true:=by decide):Lu X ρ (.Compare a [.Eq] [b] pos) (decide (u=v)):=
 ij t ha.p hb.p (vK hu) (vK hv) (by show(u==v)=_;exact AO u v)
def Di(t:At X N sc)(ha:Lq X ρ a (.str u))(hb:Lq X ρ b (.str v))(hu:PyData.strOk u=true)(hv:PyData.strOk v=true:=by decide):Lq X ρ (.Compare a [.Eq] [b] pos) (.bl (decide (u=v))):=
 wb t ha.p hb.p (vK hu) (vK hv) (by show(u==v)=_;exact AO u v)
def zt{xs:cQ}(n:Nat)(h:xs[n]?=some d):pU xs (n:Int)=some d:=by
 unfold pU
 have hn:n<xs.length:=(List.getElem?_eq_some_iff.mp h).1
 rw[v5 (j:=n) (by lia) (by lia) hn];exact h
section
variable {rest:List Stmt}
def EO(ha:Lq X ρ a (.bl u))(hb:u=true->Lq X ρ b (.bl v)):Lq X ρ (.BoolOp .And [a,b] pos) (.bl (u&&v)):=by
 cases u with
 |true=>exact Az ha (zd (hb rfl))
 |false=>exact AA ha
def Df(ha:Lq X ρ a (.bl u))(hb:u=false->Lq X ρ b (.bl v)):Lq X ρ (.BoolOp .Or [a,b] pos) (.bl (u||v)):=by
 cases u with
 |true=>exact G5 ha
 |false=>exact G6 ha (zd (hb rfl))
def wc(ha:Lu X ρ a u)(hb:u=false->Lu X ρ b v):Lu X ρ (.BoolOp .Or [a,b] pos) (u||v):=by
 cases u with
 |true=>exact Ms.toT (yX ha)
 |false=>exact Ms.toT (ot ha (qA (hb rfl)))
def kc(ha:Lu X ρ a u)(hb:u=true->Lu X ρ b v):Lu X ρ (.BoolOp .And [a,b] pos) (u&&v):=by
 cases u with
 |true=>exact Ms.toT (j9 ha (ni (hb rfl)))
 |false=>exact Ms.toT (ng ha)
def ka(ha:Lu X ρ a u)(hb:u=true->Lu X ρ b v)(hc:u=true->v=true->Lu X ρ c w):Lu X ρ (.BoolOp .And [a,b,c] pos) (u&&(v&&w)):=by
 cases u with
 |true=>cases v with
  |true=>exact Ms.toT (j9 ha (j9 (hb rfl) (ni (hc rfl rfl))))
  |false=>exact Ms.toT (j9 ha (ng (hb rfl)))
 |false=>exact Ms.toT (ng ha)
end
def mod_lt{x:Int}{xs:cQ}(h:xs≠[]):(x%(xs.length:Int)).toNat<xs.length:=by
 have:0<xs.length:=List.length_pos_iff.mpr h
 have:=dN x (show(0:Int)<(xs.length:Int) by lia)
 have:=fc x (show(xs.length:Int)≠0 by lia)
 lia
structure LS where
 cs:Type
 ds:Type
 ov:cs->Addr->Option HO
 XD:∀c c' a,ov c a=none->ov c' a=none
 rep:dq->Hp->cs->ds->Prop
 mono:∀{K:dq} {F F':Hp} {c:cs} {s:ds},Lv F F'->rep K F c s->rep K F' c s
def K0(o:Addr->Option HO)(H:Hp):Hp:=fun a=>match o a with
 |some u=>some u
 |none=>H a
def KD(S:LS)(B:B0)(c:S.cs):B0:=⟨B.F,K0 (S.ov c) B.H⟩
structure Ln(S:LS)(K:dq)(B:B0)(F:Hp)(c:S.cs)(s:S.ds):Prop where
 st:∀a u,S.ov c a=some u->B.H a=some u
 fr:∀a u,S.ov c a=some u->B.F a=none
 rep:S.rep K F c s
def IM(S:LS)(K:dq)(B:B0)(F₀:Hp)(E:lH)(s':S.ds):Out->Prop
 |.nx ρ=>∀F H σ c,Ok K (KD S B c) F H σ ρ->S.rep K F c s'->Lv F₀ F->E.nx σ H
 |.rt d=>∀v F H c,Ext (KD S B c) F H->S.rep K F c s'->Rep K F v d->E.rt v H
def KG(S:LS)(X:Cx)(ρ:eU)(Nx:List Stmt)(o:Out)(s s':S.ds):Prop:=∀(B:B0) (F H:Hp) (σ:St) (E:lH) (c:S.cs),Ln S X.K B F c s->Ok X.K B F H σ ρ->IM S X.K B F E s' o->wSs X Nx E σ H
structure E7 where
 C:Addr
 p:Addr
 dx:Addr
 q:Addr
 l:Addr
 toks:fw
def JS(r:E7)(n:Int):HO:=.ins r.C r.dx [("tokens",.ref r.l),("done",.int n),("steps",.ref r.q)]
def HF(r:E7):LS where
 cs:=Int×fK
 ds:=Int×cQ
 ov c a:=if a=r.p then some (JS r c.1) else if a=r.q then some (.lst c.2) else none
 XD c c' a h:=by
  by_cases h1:a=r.p
  ·rw[aB h1] at h;cases h
  ·rw[ay h1] at h ⊢
   by_cases h2:a=r.q
   ·rw[aB h2] at h;cases h
   ·rw[ay h2]
 rep K F c s:=c.1=s.1/\Ls K F c.2 s.2/\F r.l=some (.lst (r.toks.map V.str))
 mono:=fun sf h=>⟨h.1,h.2.1.mono sf,sf _ _ h.2.2⟩
structure Kb(K:dq)(r:E7):Prop where
 cls:RY K r.C
 n1:zU K r.C "tokens"
 n2:zU K r.C "done"
 n3:zU K r.C "steps"
 ne:r.q≠r.p
end L2.EV
namespace L2
open PySem PySem.Spec PyProof.Rows
variable {K:dq}{ds:cQ}
end L2
namespace L2.EV
open PySem PySem.Spec PyProof.Rows
variable {K:dq}{ds:cQ}
def Ch{pos:Pos}(h:Lq X ρ e d)(Pm:swapsWith e none pos.line X.env=pure false:=by rfl):Mt X ρ (.Expr e pos) (.nx ρ):=fun B F H σ E k q=>.mk fun pins s I=>
 vR bW Pm pins s σ H E I (h B F H σ _ k fun v F' H' x' r=>q F' H' σ (k.ext x') x'.sf)
def G2{P:Program}(MR:P.given.tree=none){w:World}{K:dq}{mg:uh}{base:Heap}{x qual:Str}{st:Stmt}{f:Addr}{fd:FuncData}{N ps:fw}{k:Nat}{C:cQ->D->Prop}(F:OB K x qual st f fd)(S:aP N ps (ai st))(len:∀ds d,C ds d->ds.length=ps.length)(body:∀X,DefX P w K mg base k N (ai st) X->∀ds d,C ds d->Lr X (ds.map Sl.val++List.replicate (N.length-ds.length) Sl.un) (bX st) (.rt d)\/(d=.LH/\∃ρ',Lr X (ds.map Sl.val++List.replicate (N.length-ds.length) Sl.un) (bX st) (.nx ρ'))):lX P w K mg base AS (k+1) f fd ps (Fo K C):=by
 refine F.ok S (fun vs H Q E h=>?_) (fun LU A outer s H vs Q E hr h=>?_)
 ·obtain⟨F',ds,d,sub,r,hC,q⟩:=h
  rw[r.length];exact len ds d hC
 ·obtain⟨F',ds,d,sub,r,hC,q⟩:=h
  refine⟨_,lQ,?_⟩
  have hx:DefX P w K mg base k N (ai st) (pQ AS P w K mg base N qual (ai st) f LU A outer s H E).MZ:=
   ⟨⟨rfl,rfl,rfl,S.nd,rfl,hr.units,hr.NM,MR,⟨_,_,rfl,S.gen,S.co,rfl,rfl⟩⟩,rfl,rfl,rfl,rfl,rfl,hr,⟨fun _=>rfl⟩,rfl,rfl⟩
  have hk:Ok K ⟨F',H⟩ F' H (start N vs) (ds.map Sl.val++List.replicate (N.length-ds.length) Sl.un):=by
   unfold start
   rw[r.length]
   exact pi sub r _
  rcases body _ hx ds d hC with hb | ⟨rfl,ρ',hb⟩
  ·exact hb ⟨F',H⟩ F' H _ _ hk fun v F2 H2 x2 r2=>q v F2 H2 x2 r2
  ·exact hb ⟨F',H⟩ F' H _ _ hk fun F2 H2 σ2 k2 s2=>q .LH F2 H2 k2.toExt .LH
def S(cs:Kv):Str:=⟨cs.toArray⟩
def al(c:Nat):Bool:=PySem.Unicode.isAlnum c
section
variable {S:LS}{st:Stmt}{rest:List Stmt}{s s1 s':S.ds}
def vC(S:LS)(q:Addr):Prop:=∀c,S.ov c q=none
end
abbrev Lj:=List (aI×Addr×Value)
abbrev Lk:=List (aI×Str)
structure Kd(K:dq)(x:Str)(st:Stmt)(f:Addr)(fd:FuncData):Prop where
 a:PySem.W.nsIn K mainGlobals x=some (some (.ref f))
 F:OB K x x st f fd
structure Bn(K:dq)(mg:uh)(x:Str)(f:Addr)(fd:FuncData)(ps:fw):Prop where
 m:mg x=some (.ref f)
 k:PySem.W.keepIn K (.ref f)=true
 b:Binds K fd ps []
section
variable {K:dq}{st:Stmt}
def kd{an:Option Addr}{kV doc pm LU ct:Value}{x:Str}(a:PySem.W.nsIn K mainGlobals x=some (some (.ref f)))(l:K.lookup f=some ⟨oc,od,.func (PySem.W.fnOf x x (gZ st) (bX st) (ai st) .none kV doc pm an LU ct),OJ⟩)(c:PySem.W.codeIn K LU x=true)(k:PySem.W.keepIn K (.ref f)=true):Kd K x st f (PySem.W.fnOf x x (gZ st) (bX st) (ai st) .none kV doc pm an LU ct):=⟨a,G1 l c k⟩
def Kd.b1(d:Kd K x st f fd)(X:K.In h)(G:h.Ns mainGlobals mg)(S:aP N [p] (ai st))(hb:∀(kV doc pm:Value) (an:Option Addr) (LU ct a:Value),bindArgs (PySem.W.fnOf x x (gZ st) (bX st) (ai st) .none kV doc pm an LU ct) ⟨[a],[]⟩=pure ([p].zip [a]):=by intros;rfl):Bn K mg x f fd [p]:=
 ⟨fu X G d.a,d.F.kp,d.F.binds fun kV doc pm an LU ct us hl=>match us,hl with | [a],_=>hb kV doc pm an LU ct a⟩
def Kd.b2(d:Kd K x st f fd)(X:K.In h)(G:h.Ns mainGlobals mg)(S:aP N [p,q] (ai st))(hb:∀(kV doc pm:Value) (an:Option Addr) (LU ct a b:Value),bindArgs (PySem.W.fnOf x x (gZ st) (bX st) (ai st) .none kV doc pm an LU ct) ⟨[a,b],[]⟩=pure ([p,q].zip [a,b]):=by intros;rfl):Bn K mg x f fd [p,q]:=
 ⟨fu X G d.a,d.F.kp,d.F.binds fun kV doc pm an LU ct us hl=>match us,hl with | [a,b],_=>hb kV doc pm an LU ct a b⟩
def Kd.b3(d:Kd K x st f fd)(X:K.In h)(G:h.Ns mainGlobals mg)(S:aP N [p,q,r] (ai st))(hb:∀(kV doc pm:Value) (an:Option Addr) (LU ct a b c:Value),bindArgs (PySem.W.fnOf x x (gZ st) (bX st) (ai st) .none kV doc pm an LU ct) ⟨[a,b,c],[]⟩=pure ([p,q,r].zip [a,b,c]):=by intros;rfl):Bn K mg x f fd [p,q,r]:=
 ⟨fu X G d.a,d.F.kp,d.F.binds fun kV doc pm an LU ct us hl=>match us,hl with | [a,b,c],_=>hb kV doc pm an LU ct a b c⟩
def DefX.ca{C:cQ->D->Prop}(h:DefX P w K mg base k N sc X)(F:lX P w K mg base AS j f fd ps (Fo K C))(b:Bn K mg x f fd ps)(hj:j<=k:=by decide):EV.Callee X x C:=h.callee F hj b.m b.k b.b
end
def DefX.bt{K:dq}{x:Str}(h:DefX P w K mg base k N sc X)(m:mg x=none)(g:DT sc x:=by rfl)(v:bootBuiltins x=some u:=by rfl)(n:x ≠ "__name__" := by decide)(d:yu x:=by rfl):uT X sc x u:=⟨g,by rw[h.Na];exact m,v,n,d⟩
def jR{N P:fw}{sc:Scope}(h:sc.kind=.function/\sc.isCoroutine=false/\sc.isGenerator=false/\N.Nodup/\N.take P.length=P/\(∀x∈P,sc.names.lookup x=some .local\/sc.names.lookup x=some .cell)/\∀y∈sc.names,y.2 ≠ .free):aP N P sc:=⟨h.1,h.2.1,h.2.2.1,h.2.2.2.1,h.2.2.2.2.1,h.2.2.2.2.2.1,h.2.2.2.2.2.2⟩
abbrev Go(X:Cx)(N:fw)(st:Stmt)(C:cQ->D->Prop):Prop:=∀ds d,C ds d->Lr X (ds.map Sl.val++List.replicate (N.length-ds.length) Sl.un) (bX st) (.rt d)
abbrev Lp(X:Cx)(N:fw)(st:Stmt)(C:fw->cQ->Int×cQ->D->Int×cQ->Prop):Prop:=∀(r:E7),Kb X.K r->∀ds s d s',C r.toks ds s d s'->KG (HF r) X (.val (.adr r.p)::ds.map Sl.val++List.replicate (N.length-(ds.length+1)) Sl.un) (bX st) (.rt d) s s'\/(d=.LH/\∃ρ',KG (HF r) X (.val (.adr r.p)::ds.map Sl.val++List.replicate (N.length-(ds.length+1)) Sl.un) (bX st) (.nx ρ') s s')
abbrev Lo(X:Cx)(N:fw)(st:Stmt)(C:cQ->cQ->D->cQ->Prop):Prop:=∀q ds xs d O9,C ds xs d O9->K4 X q (.val (.OH q)::ds.map Sl.val++List.replicate (N.length-(ds.length+1)) Sl.un) (bX st) (.rt d) xs O9
section
variable {st:Stmt}{rest:List Stmt}
def FG(X:Cx)(ρ:eU)(st:List Stmt)(C:Addr)(ρ':eU):Prop:=∀(E:oO),PassesOwn (model X.prog X.w) X.A X.env E->∀(B:B0) (F H:Hp) (σ:St),Ok X.K B F H σ ρ->∀(pins:fQ) (s:Shared),Inv X pins σ H s ->
 (∀e s',XP X true pins B F ρ' C e s'->E e s')->eG X (execs st X.env) (fun _ _=>False) E s
def II(X:Cx)(ρ:eU)(st:Stmt)(C:Addr)(ρ':eU):Prop:=∀(E:oO),PassesOwn (model X.prog X.w) X.A X.env E->∀(B:B0) (F H:Hp) (σ:St),Ok X.K B F H σ ρ->∀(pins:fQ) (s:Shared),Inv X pins σ H s ->
 (∀e s',XP X true pins B F ρ' C e s'->E e s')->eG X (exec st X.env) (fun _ _=>False) E s
def HJ(h:mF X true ρ Nx C ρ'):FG X ρ Nx C ρ':=fun E hp B F H σ k pins s I hE=>aR (h B F H σ k pins s I) (fun _ _ z=>z) hE
def wY(h:II X ρ st C ρ'):FG X ρ (st::rest) C ρ':=fun E hp B F H σ k pins s I hE=>jM (aR (h E hp B F H σ k pins s I hE) (fun _ _ z=>z.elim) fun _ _ z=>z)
def wX(t:At X N sc)(h1:Mt X ρ st (.nx ρ1))(h:FG X ρ1 rest C ρ'):FG X ρ (st::rest) C ρ':=fun E hp B F H σ k pins s I hE=>
 jM (h1.go t k I fun F' H' σ' s' k' sf I'=>h E hp B F' H' σ' k' pins s' I' fun e MM z=>hE e MM (z.later sf))
inductive pW(X:Cx)(tg:Expr)(body:List Stmt)(C:Addr)(ρ':eU):cQ->eU->Prop where
 |here {d:D} {ds:cQ} {ρ ρ1:eU}:Nf X ρ tg d ρ1->mF X true ρ1 body C ρ'->pW X tg body C ρ' (d::ds) ρ
 |next {d:D} {ds:cQ} {ρ ρ1 ρ2:eU}:Nf X ρ tg d ρ1->Lr X ρ1 body (.nx ρ2)->pW X tg body C ρ' ds ρ2->pW X tg body C ρ' (d::ds) ρ
def BY(t:At X N sc)(hi:Nd X ρ tg e ds)(run:pW X tg body C ρ' ds ρ)(hs:∀x,foldedSetIterable e X.env x=pure x:=by intro _;rfl):II X ρ (.For tg e body [] pos) C ρ':=by
 intro E hp B F H σ k pins s I hE
 have h1:=hi B F H σ (fun J H1=>∃F1,Ext ⟨F,H⟩ F1 H1/\rP X.K J F1 ds) k (fun J F' H' x j=>⟨F',x,j⟩) pins s I
 refine wpAny_For (aR h1 (fun v s1 h=>aR h (fun Qv s2 h2=>?_) fun _ _ z=>t.no z) fun _ _ z=>t.no z) hs
 obtain⟨it,fp,tn,J,H',ee,I2,T,t0,f2,F1,x1,JO⟩:=h2
 subst ee
 have stat:∀{H':Hp},(∀b∈fp,H' b=none)->∀b∈fp,oH X pins H' b:=fun hn b hb=>⟨hn b hb,(f2 b hb).2⟩
 refine codeAny_forLoop_any (fun n s'=>∃i σ' H' F' ρ0,Inv X pins σ' H' s'/\tn i s'.heap/\(∀b∈fp,H' b=none)/\Ok X.K B F' H' σ' ρ0/\Lv F1 F'/\pW X tg body C ρ' (ds.drop i) ρ0/\n=ds.length-i) ?_ ds.length ⟨0,σ,H',F1,ρ,I2,t0,fun b hb=>(f2 b hb).1,k.ext x1,.refl _,by simpa using run,by simp⟩
 rintro n s3 ⟨i,σ3,H3,F3,ρ3,I3,Rl,RL,k3,Se,r3,rfl⟩
 have J2:=JO i F3 H3 Se k3.sub
 generalize e1:ds.drop i=rest at r3
 have QV:∀{d:D} {O6:cQ} {ρ1:eU},ds.drop i=d::O6->Nf X ρ3 tg d ρ1->(∀(QY:fQ) (F6 H6:Hp) (σ6:St) (s6:Shared),Ok X.K B F6 H6 σ6 ρ1->Lv F3 F6->Inv X (pins++QY) σ6 H6 s6 ->
   (∀{σ7:St} {H7:Hp} {s7:Shared},Inv X (pins++QY) σ7 H7 s7->Inv X pins σ7 H7 s7/\tn (i+1) s7.heap/\∀b∈fp,H7 b=none) ->
   eG X (execs body X.env) (fun f s₃=>match f with
     |.next=>∃m,m<ds.length-i/\∃i σ' H' F' ρ0,Inv X pins σ' H' s₃/\tn i s₃.heap/\(∀b∈fp,H' b=none)/\Ok X.K B F' H' σ' ρ0/\Lv F1 F'/\pW X tg body C ρ' (ds.drop i) ρ0/\m=ds.length-i
     |.cont=>∃m,m<ds.length-i/\∃i σ' H' F' ρ0,Inv X pins σ' H' s₃/\tn i s₃.heap/\(∀b∈fp,H' b=none)/\Ok X.K B F' H' σ' ρ0/\Lv F1 F'/\pW X tg body C ρ' (ds.drop i) ρ0/\m=ds.length-i
     |.brk=>False
     |.ret v=>False) (notedBy (model X.prog X.w) X.A X.env (cameBackBy (model X.prog X.w) X.A X.env E)) s6) ->
   eG X (pyNext (.ref it)) (fun r s₁=>match r with
    |none=>eG X (execs [] X.env) (fun f s₃=>False) (notedBy (model X.prog X.w) X.A X.env (cameBackBy (model X.prog X.w) X.A X.env E)) s₁
    |some v=>eG X (letOwnedTupleGo tg (.ref it) v) (fun _ VB=>eG X (assign tg X.env v) (fun _ s₂=>eG X (execs body X.env) (fun f s₃=>match f with
     |.next=>∃m,m<ds.length-i/\∃i σ' H' F' ρ0,Inv X pins σ' H' s₃/\tn i s₃.heap/\(∀b∈fp,H' b=none)/\Ok X.K B F' H' σ' ρ0/\Lv F1 F'/\pW X tg body C ρ' (ds.drop i) ρ0/\m=ds.length-i
     |.cont=>∃m,m<ds.length-i/\∃i σ' H' F' ρ0,Inv X pins σ' H' s₃/\tn i s₃.heap/\(∀b∈fp,H' b=none)/\Ok X.K B F' H' σ' ρ0/\Lv F1 F'/\pW X tg body C ρ' (ds.drop i) ρ0/\m=ds.length-i
     |.brk=>False
     |.ret v=>False) (notedBy (model X.prog X.w) X.A X.env (cameBackBy (model X.prog X.w) X.A X.env E)) s₂) (notedBy (model X.prog X.w) X.A X.env (cameBackBy (model X.prog X.w) X.A X.env E)) VB) (notedBy (model X.prog X.w) X.A X.env (cameBackBy (model X.prog X.w) X.A X.env E)) s₁)
    (notedBy (model X.prog X.w) X.A X.env (cameBackBy (model X.prog X.w) X.A X.env E)) s3:=by
  intro d O6 ρ1 ed g bd
  obtain⟨hd,_,_⟩:=js ed
  obtain⟨go,yl⟩:=J2.1 _ hd
  refine aR (T.item X rfl rfl rfl (.inl t.calm) i pins s3 σ3 H3 _ I3 (stat RL) Rl go) (fun r s4 ⟨u,hr,h4⟩=>?_) fun _ _ z=>z
  subst hr
  refine aR h4 (fun _ s5 ⟨x,H5,I5,r5,y5,N6,QX⟩=>?_) fun _ _ z=>z
  have Rg:=I5.pinned (stat QX) (T.obj _ _ N6)
  obtain⟨F2,x2,rx⟩:=yl x H5 y5
  refine aR (g B F2 H5 σ3 x (fun σ6 H6=>∃F6,Ok X.K B F6 H6 σ6 ρ1/\Lv F2 F6) (k3.ext x2) rx (fun F6 H6 σ6 k6 s6=>⟨F6,k6,s6⟩) (pins++qp fp s5.heap) s5 u Rg r5) (fun _ s6 ⟨σ6,H6,I6,F6,k6,Ql⟩=>?_) fun _ _ z=>t.no z
  refine bd (qp fp s5.heap) F6 H6 σ6 s6 k6 (x2.sf.trans Ql) I6 fun {σ7 H7 s7} I7=>⟨I7.Ma,?_,fun b hb=>?_⟩
  ·exact T.keep _ _ _ N6 fun b hb o e=>(I7.pin (b,o) (bi _ (bi _ (ii hb e)))).1
  ·obtain⟨o,e,d⟩:=T.obj _ _ N6 b hb
   exact(I7.pin (b,o) (bi _ (bi _ (ii hb e)))).2.1
 cases r3 with
 |here g hx=>
  refine QV e1 g fun QY F6 H6 σ6 s6 k6 Ql I6 back=>?_
  refine aR (hx B F6 H6 σ6 k6 _ s6 I6) (fun _ _ z=>z.elim) fun e' s' ⟨σ1,H1,s1,F',H',i1,o1,sf,th⟩=>?_
  exact hp _ _ (hE _ _ ⟨σ1,H1,s1,F',H',i1.Ma,o1,x1.sf.trans (Se.trans (Ql.trans sf)),th⟩)
 |@next d O6 _ ρ1 ρ2 g b r=>
  obtain⟨_,hr,Mj⟩:=js e1
  refine QV e1 g fun QY F6 H6 σ6 s6 k6 Ql I6 back=>?_
  refine aR (b B F6 H6 σ6 { nx:=fun σ' H'=>∃F',Ok X.K B F' H' σ' ρ2/\Lv F6 F',rt:=fun _ _=>False } k6 (fun F' H' σ' k' sf=>⟨F',k',sf⟩) (pins++QY) s6 I6) (fun f s7 z=>?_) fun _ _ z=>t.no z
  cases f with
  |next=>
   obtain⟨σ7,H7,I7,F7,k7,VE⟩:=z
   obtain⟨j1,j2,j3⟩:=back I7
   exact⟨ds.length-(i+1),by lia,i+1,σ7,H7,F7,ρ2,j1,j2,j3,k7,Se.trans (Ql.trans VE),by rw[hr];exact r,rfl⟩
  |brk=>obtain⟨_,_,_,z⟩:=z;exact z.elim
  |cont=>obtain⟨_,_,_,z⟩:=z;exact z.elim
  |ret u=>obtain⟨_,_,_,_,_,z⟩:=z;exact z.elim
def EI{P:Program}(MR:P.given.tree=none){w:World}{K:dq}{mg:uh}{base:Heap}{x qual:Str}{st:Stmt}{f:Addr}{fd:FuncData}{N ps:fw}{k:Nat}{C:Addr}{R:cQ->Prop}(Fn:OB K x qual st f fd)(S:aP N ps (ai st))(len:∀ds,R ds->ds.length=ps.length)(body:∀X,DefX P w K mg base k N (ai st) X->∀ds,R ds->∃ρ',FG X (ds.map Sl.val++List.replicate (N.length-ds.length) Sl.un) (bX st) C ρ'):lX P w K mg base (yw P w) (k+1) f fd ps (HB K C R):=by
 obtain⟨oc,od,kV,doc,pm,an,LU,ct,OJ,rfl,lk,NU⟩:=Fn.ex
 refine C5 lk NU S (fun vs H Q E h=>?_) (fun A outer s H vs Q E hr h=>?_)
 ·obtain⟨F',ds,sub,r,hR,q⟩:=h
  rw[r.length];exact len ds hR
 ·obtain⟨F',ds,sub,r,hR,q⟩:=h
  refine⟨_,lQ,?_⟩
  have hx:DefX P w K mg base k N (ai st) (pQ (yw P w) P w K mg base N qual (ai st) f LU A outer s H E).MZ:=
   ⟨⟨rfl,rfl,rfl,S.nd,rfl,hr.units,hr.NM,MR,⟨_,_,rfl,S.gen,S.co,rfl,rfl⟩⟩,rfl,rfl,rfl,rfl,rfl,hr,⟨fun _=>rfl⟩,rfl,rfl⟩
  obtain⟨ρ',hb⟩:=body _ hx ds hR
  have hk:Ok K ⟨F',H⟩ F' H (start N vs) (ds.map Sl.val++List.replicate (N.length-ds.length) Sl.un):=by
   unfold start
   rw[r.length]
   exact pi sub r _
  refine .mk fun pins s0 I0=>?_
  refine aR (hb _ PassesOwn.leaving ⟨F',H⟩ F' H _ hk pins s0 (I0.MK _) fun e' s' z=>?_) (fun _ _ z=>z.elim) fun e' s' z=>z
  obtain⟨σ1,H1,s1,F2,H2,I1,k1,sf,th⟩:=z
  have hE:E (.ref C) none H2:=q F2 H2 k1.toExt
  cases th with
  |RM fl=>exact aR (vn (X:=(pQ (yw P w) P w K mg base N qual (ai st) f LU A outer s H E).MZ) (E:=fun e' MM=>yw P w outer H s E e' MM) I1 rfl rfl rfl fl) (fun _ _ z=>⟨C,H2,hE,z⟩) fun _ _ z=>z
  |made _ eh ee mm os gens=>
   subst eh;subst ee
   exact aR (tH (X:=(pQ (yw P w) P w K mg base N qual (ai st) f LU A outer s H E).MZ) (E:=fun e' MM=>yw P w outer H s E e' MM) I1 rfl rfl rfl mm os gens) (fun _ _ z=>⟨C,_,hE,z⟩) fun _ _ z=>z
end
section
variable {K:dq}{st:Stmt}
def Kd.b4(d:Kd K x st f fd)(X:K.In h)(G:h.Ns mainGlobals mg)(S:aP N [p,q,r,o] (ai st))(hb:∀(kV doc pm:Value) (an:Option Addr) (LU ct a b c e:Value),bindArgs (PySem.W.fnOf x x (gZ st) (bX st) (ai st) .none kV doc pm an LU ct) ⟨[a,b,c,e],[]⟩=pure ([p,q,r,o].zip [a,b,c,e]):=by intros;rfl):Bn K mg x f fd [p,q,r,o]:=
 ⟨fu X G d.a,d.F.kp,d.F.binds fun kV doc pm an LU ct us hl=>match us,hl with | [a,b,c,e],_=>hb kV doc pm an LU ct a b c e⟩
def DefX.Rf{R:cQ->Prop}(h:DefX P w K mg base k N sc X)(F:lX P w K mg base (yw P w) j f fd ps (HB K C R))(b:Bn K mg x f fd ps)(hj:j<=k:=by decide):ke X x C R:=h.OU F hj b.m b.k b.b
end
end L2.EV
set_option maxHeartbeats 4000000
namespace My
open PySem L2 L2.EV
variable {K:dq}
def top(i:Nat):Stmt:=PySem.Challenge.pw_planestacks_k15_roots_weighed.main.body.getD i (.Pass ⟨0,0,0,0⟩)
abbrev gJ:Stmt:=top 1
abbrev LY:fw:=["thing"]
def k8:aP LY ["thing"] (ai gJ):=jR (by decide)
abbrev m5:Stmt:=top 7
abbrev qP:fw:=["number"]
def sV:aP qP ["number"] (ai m5):=jR (by decide)
abbrev fT:Stmt:=top 8
abbrev im:fw:=["a", "b"]
def jS:aP im ["a", "b"] (ai fT):=jR (by decide)
abbrev sk:Stmt:=top 10
abbrev wH:fw:=["a", "b"]
def xh:aP wH ["a", "b"] (ai sk):=jR (by decide)
abbrev iw:Stmt:=top 12
abbrev kq:fw:=["parts", "nought", "many"]
def l8:aP kq ["parts", "nought"] (ai iw):=jR (by decide)
abbrev pc:Stmt:=top 13
abbrev ub:fw:=["numbers"]
def u7:aP ub ["numbers"] (ai pc):=jR (by decide)
abbrev jd:Stmt:=top 14
abbrev lD:fw:=["f"]
def nT:aP lD ["f"] (ai jd):=jR (by decide)
abbrev iF:Stmt:=top 15
abbrev mI:fw:=["f", "g", "numbers", "j", "one", "k", "other"]
def oS:aP mI ["f", "g"] (ai iF):=jR (by decide)
abbrev sj:Stmt:=top 16
abbrev wF:fw:=["f"]
def xg:aP wF ["f"] (ai sj):=jR (by decide)
abbrev m7:Stmt:=top 17
abbrev qR:fw:=["f", "shared", "number"]
def sX:aP qR ["f"] (ai m7):=jR (by decide)
abbrev fM:Stmt:=top 18
abbrev jF:fw:=["numbers", "at", "top", "bottom", "value", "scale", "number"]
def lM:aP jF ["numbers", "at"] (ai fM):=jR (by decide)
abbrev gr:Stmt:=top 19
abbrev iY:fw:=["f", "at"]
def kL:aP iY ["f", "at"] (ai gr):=jR (by decide)
abbrev jU:Stmt:=top 21
abbrev mH:fw:=["rest", "g", "shared"]
def oR:aP mH ["rest", "g"] (ai jU):=jR (by decide)
abbrev kO:Stmt:=top 22
abbrev qS:fw:=["f", "g", "quotient", "rest", "up", "down", "shift", "power", "number"]
def sY:aP qS ["f", "g"] (ai kO):=jR (by decide)
abbrev m6:Stmt:=top 23
abbrev qQ:fw:=["f", "g"]
def sW:aP qQ ["f", "g"] (ai m6):=jR (by decide)
abbrev k9:Stmt:=top 25
abbrev oD:fw:=["f", "g", "chain", "ahead", "last"]
def qZ:aP oD ["f", "g"] (ai k9):=jR (by decide)
abbrev iy:Stmt:=top 26
abbrev kr:fw:=["f", "at", "falls"]
def ma:aP kr ["f", "at"] (ai iy):=jR (by decide)
abbrev gS:Stmt:=top 27
abbrev lE:fw:=["chain", "at", "signs"]
def nU:aP lE ["chain", "at"] (ai gS):=jR (by decide)
abbrev df:Stmt:=top 28
abbrev Lx:fw:=["f", "low", "high", "end"]
def fL:aP Lx ["f", "low", "high"] (ai df):=jR (by decide)
abbrev cg:Stmt:=top 29
abbrev Lw:fw:=["f", "low", "high"]
def fh:aP Lw ["f", "low", "high"] (ai cg):=jR (by decide)
abbrev dG:Stmt:=top 30
abbrev Ly:fw:=["f", "g", "low", "high", "chain", "first"]
def fS:aP Ly ["f", "g", "low", "high"] (ai dG):=jR (by decide)
abbrev jZ:Stmt:=top 32
abbrev mP:fw:=["_law_script", "_law_k", "_law_state", "_law_cell_here"]
def oZ:aP mP ["_law_script", "_law_k"] (ai jZ):=jR (by decide)
abbrev gW:Stmt:=top 33
abbrev jI:fw:=["_law_cell_here", "_law_many", "_law_found", "_law_state", "_law_digits", "_law_k"]
def lP:aP jI ["_law_cell_here", "_law_many"] (ai gW):=jR (by decide)
abbrev li:Stmt:=top 34
abbrev oF:fw:=["_law_top", "_law_bottom", "_law_high", "_law_low_here"]
def q8:aP oF ["_law_top", "_law_bottom"] (ai li):=jR (by decide)
abbrev iG:Stmt:=top 35
abbrev mJ:fw:=["_law_parts", "_law_found"]
def oU:aP mJ ["_law_parts"] (ai iG):=jR (by decide)
abbrev jf:Stmt:=top 36
abbrev lF:fw:=["_law_one", "_law_other_here", "_law_found", "_law_i", "_law_j"]
def nV:aP lF ["_law_one", "_law_other_here"] (ai jf):=jR (by decide)
abbrev gu:Stmt:=top 37
abbrev iZ:fw:=["_law_xs", "_law_most", "_law_size"]
def kM:aP iZ ["_law_xs", "_law_most"] (ai gu):=jR (by decide)
abbrev gU:Stmt:=top 38
abbrev jH:fw:=["_law_xs", "_law_found", "_law_k", "_law_factor_here", "_law_again"]
def lO:aP jH ["_law_xs"] (ai gU):=jR (by decide)
abbrev lb:Stmt:=top 39
abbrev oE:fw:=["_law_cell_here", "_law_most", "_law_xs", "_law_way"]
def q0:aP oE ["_law_cell_here", "_law_most"] (ai lb):=jR (by decide)
abbrev fU:Stmt:=top 40
abbrev io:fw:=["_law_f", "_law_at", "_law_total", "_law_k", "_law_part", "_law_turn", "_law_bottom"]
def jT:aP io ["_law_f", "_law_at"] (ai fU):=jR (by decide)
abbrev jW:Stmt:=top 41
abbrev mL:fw:=["_law_x"]
def oW:aP mL ["_law_x"] (ai jW):=jR (by decide)
abbrev fF:Stmt:=top 42
abbrev hG:fw:=["_law_x", "_law_y"]
def jy:aP hG ["_law_x", "_law_y"] (ai fF):=jR (by decide)
abbrev iB:Stmt:=top 43
abbrev kx:fw:=["_law_root"]
def mh:aP kx ["_law_root"] (ai iB):=jR (by decide)
abbrev lj:Stmt:=top 44
abbrev oG:fw:=["_law_root"]
def q9:aP oG ["_law_root"] (ai lj):=jR (by decide)
abbrev gT:Stmt:=top 47
abbrev jG:fw:=["_law_f", "_law_root", "_law_plain", "_law_more", "_law_one", "_law_step"]
def lN:aP jG ["_law_f", "_law_root"] (ai gT):=jR (by decide)
abbrev fz:Stmt:=top 48
abbrev gC:fw:=["_law_at", "_law_root", "_law_plain", "_law_more"]
def ja:aP gC ["_law_at", "_law_root"] (ai fz):=jR (by decide)
abbrev iA:Stmt:=top 49
abbrev kw:fw:=["_law_xs", "_law_groups_here", "_law_k", "_law_root", "_law_twice"]
def mf:aP kw ["_law_xs"] (ai iA):=jR (by decide)
abbrev jX:Stmt:=top 50
abbrev mM:fw:=["_law_groups_here", "_law_x", "_law_f", "_law_root", "_law_often", "_law_again"]
def oX:aP mM ["_law_groups_here", "_law_x"] (ai jX):=jR (by decide)
abbrev iz:Stmt:=top 51
abbrev ku:fw:=["_law_groups_here", "_law_found", "_law_root", "_law_often", "_law_one"]
def me:aP ku ["_law_groups_here"] (ai iz):=jR (by decide)
abbrev gV:Stmt:=top 52
abbrev lG:fw:=["_law_cell_here", "_law_xs", "_law_roots", "_law_g"]
def nW:aP lG ["_law_cell_here", "_law_xs", "_law_roots"] (ai gV):=jR (by decide)
abbrev gv:Stmt:=top 53
abbrev i6:fw:=["_law_xs", "_law_roots", "_law_plain", "_law_end", "_law_other_here"]
def kN:aP i6 ["_law_xs", "_law_roots"] (ai gv):=jR (by decide)
abbrev jV:Stmt:=top 54
abbrev mK:fw:=["_law_f", "_law_g", "_law_low_here", "_law_high", "_law_caught", "_law_found", "e"]
def oV:aP mK ["_law_f", "_law_g", "_law_low_here", "_law_high"] (ai jV):=jR (by decide)
abbrev jY:Stmt:=top 55
abbrev mO:fw:=["_law_xs", "_law_roots", "_law_ends_here", "_law_k", "_law_end", "_law_low_here", "_law_high"]
def oY:aP mO ["_law_xs", "_law_roots"] (ai jY):=jR (by decide)
abbrev sZ:Stmt:=top 56
abbrev DJ:fw:=["_law_script", "_law_xs", "_law_groups_here", "_law_f", "_law_roots", "_law_cell_here", "_law_ys", "_law_g", "_law_low_here", "_law_high", "_law_due", "_law_root", "_law_above", "_law_found"]
def FT:aP DJ ["_law_script"] (ai sZ):=jR (by decide)
def gl(f:aI):Nat:=f.foldl (fun g x=>Nat.gcd g x.natAbs) 0
def v7(f:aI)(x:Int):gl (f++[x])=Nat.gcd (gl f) x.natAbs:=by unfold gl;rw[kF];rfl
def fZ(ds:cQ)(d:D):Prop:=∃a b:Int,ds=[.int a,.int b]/\d=.int ((Nat.gcd a.natAbs b.natAbs:Nat):Int)
def og:∀ds d,fZ ds d->ds.length=2:=by rintro _ _ ⟨a,b,rfl,_⟩;rfl
def qH(h:DefX P w K mg base k im (ai fT) X)(MQ:mg "abs"=none):
  Go X im fT fZ:=by
 rintro ds d ⟨a,b,rfl,rfl⟩
 have t:=h.at'
 haveI:=h.Mg
 have bl:=h.bt MQ
 show Lr X [.val (.int a),.val (.int b)] _ _
 refine ao (rd t 0 1 (ox t bl (ac t 0)) (ox t bl (ac t 1)) (by decide)) ?_
 refine ao (mZ t (tQ (fun a b=>[.val (.int (a:Int)),.val (.int (b:Int))]) (fun a b=>?_) (fun a b hb=>?_) _ a.natAbs b.natAbs (az _))) (aD (bC (ac t 0)))
 ·refine Lu.eq (G8 (ac t 1)) ?_
  by_cases hb:b=0
  ·subst hb;rfl
  ·rw[aH (by lia)];simpa using hb
 ·exact aD (rd t 0 1 (ac t 1) (Lq.eq (aW (i:=(a:Int)) (j:=(b:Int)) (ac t 0) (ac t 1) (by lia)) rfl) (by decide))
def lI(ds:cQ)(d:D):Prop:=∃f:aI,ds=[av f]/\f.length<1000/\d=av (f.map fun x=>-x)
def tI:∀ds d,lI ds d->ds.length=1:=by rintro _ _ ⟨a,rfl,_⟩;rfl
def gH{n:Nat}(h:n<1000):n<sizeLine:=Nat.lt_trans h (by decide)
def wt(h:DefX P w K mg base k lD (ai jd) X)(LM:mg "tuple"=none):
  Go X lD jd lI:=by
 rintro ds d ⟨f,rfl,hf,rfl⟩
 have t:=h.at'
 haveI:=h.Mg
 have bl:=h.bt LM
 show Lr X [.val (av f)] _ _
 refine aD (bC (kW t bl (MD.eq (LQ.toQ (iC (rs:=(f.map D.int).map fun d=>match d with | .int i=>.int (-i) | d=>d) t ["f", "number"] (Dw (by decide)) (mB (ac t 0)) (by rw[ah];exact gH hf) fun X' cx=>?_)) ?_)))
 ·have t':=cx.at'
  refine LO.all (fun d=>[.val (av f),.val d]) _ _ _ (fun d hd=>c9 t' 1) (fun d hd e he=>c9 t' 1) fun d hd=>?_
  obtain⟨i,_,rfl⟩:=List.mem_map.mp hd
  exact ge (ac t' 1 rfl)
 ·rw[iP,iP];rfl
def qr(f:aI):aI:=f.map fun x=>x.fdiv (gl f:Int)
def qV(ds:cQ)(d:D):Prop:=∃f:aI,ds=[av f]/\f.length<1000/\(f≠[]->gl f≠0)/\d=av (qr f)
def xH:∀ds d,qV ds d->ds.length=1:=by rintro _ _ ⟨a,rfl,_⟩;rfl
def aL(xs:aI):Int:=(xs.getLast?).getD 0
def qh{i:Nat}{α:Type}{xs:List α}{x:α}(h:xs[i]?=some x):xs.take (i+1)=xs.take i++[x]:=by
 rw[kD,h];rfl
def BH(h:DefX P w K mg base k qR (ai m7) X)(LM:mg "tuple"=none)(c1:Callee X "common_divisor" fZ):
  Go X qR m7 qV:=by
 rintro ds d ⟨f,rfl,hf,hg,rfl⟩
 have t:=h.at'
 haveI:=h.Mg
 have bl:=h.bt LM
 show Lr X [.val (av f),.un,.un] _ _
 refine ao (bE t 1 ag) ?_
 refine ao (ρ':=[.val (av f),.val (.int (gl f:Int)),.un]) (fC t (mB (ac t 0)) ?_) ?_
 ·refine LB.LJ (fun i=>[.val (av f),.val (.int (gl (f.take i):Int)),.un]) (fun j d hj=>?_) rfl ?_
  rotate_left
  ·rw[ah,eE]
  ·rw[List.getElem?_map] at hj
   cases e:f[j]? with
   |none=>rw[e] at hj;cases hj
   |some x=>
    rw[e] at hj;cases hj
    refine⟨_,bj t 2,Lr.weak (aD (bE t 1 (ax t c1 (ae (ac t 2) (ae (ac t 1) ak)) ⟨x,_,rfl,rfl⟩))) ?_⟩
    rw[qh e,v7,ug]
    exact .keep (.keep (.forget .nil))
 ·refine aD (bC (kW t bl (MD.eq (LQ.toQ (iC (rs:=(f.map D.int).map fun d=>match d with | .int i=>.int (i.fdiv (gl f:Int)) | d=>d) t ["f", "shared", "", "number"] (Dw (by decide)) (mB (ac t 0)) (by rw[ah];exact gH hf) fun X' cx=>?_)) ?_)))
  ·have t':=cx.at'
   refine LO.all (fun d=>[.val (av f),.val (.int (gl f:Int)),.un,.val d]) _ _ _ (fun d hd=>c9 t' 3) (fun d hd e he=>c9 t' 3) fun d hd=>?_
   obtain⟨i,hi,rfl⟩:=List.mem_map.mp hd
   have h0:=hg (List.ne_nil_of_mem hi)
   exact tS t' (ac t' 3 rfl) (ac t' 1 rfl) (show(gl f:Int)≠0 by lia)
  ·unfold qr;rw[iP,iP];rfl
def iK{xs:aI}(h:xs≠[]):pU (xs.map D.int) (-1)=some (.int (aL xs)):=by
 rcases eu xs with e | ⟨ys,y,e⟩
 ·exact absurd e h
 ·subst e
  have q:=DE (ys.map D.int) (.int y)
  rw[fB,bG,List.map_singleton,q]
  simp[aL]
def xD(f:aI):(qr f).length=f.length:=ah _
def t5(s:Int)(xs:aI):Int:=xs.foldl (fun s x=>(s*69621+x)%2147483647) s
def rn(ns:aI)(j:Int):Int:=if j<ns.length then ns.getD j.toNat 0 else t5 (48271*(j*j+7*j+11)%2147483647) (bZ ns none (some 3))
def mV(ds:cQ)(d:D):Prop:=∃(ns:aI) (j:Int),ds=[.MG ns,.int j]/\0<=j/\j<1000/\d=.int (rn ns j)
def uH:∀ds d,mV ds d->ds.length=2:=by rintro _ _ ⟨a,b,rfl,_⟩;rfl
def HA(s0:Int):Nat->Int
 |0=>s0
 |i+1=>(HA s0 i*(HA s0 i%65521+40487)+7*(i:Int)+5)%1999999973
def Hc(d0:Int):Nat->Int
 |0=>d0
 |i+1=>Hc d0 i / 1000000
def GU(s0 d0:Int)(i:Nat):Int:=if Hc d0 i > 0 then Hc d0 i%1000000 else HA s0 (i+1)
def oQ(c:Int):Int:=(c%1999999973+31)*765432101%1999999973
def nE(c:Int):Int:=if c<0\/c ≥ 10 ^ 18 then c.natAbs else 0
def aU(c:Int)(n:Nat):aI:=(List.range n).map (GU (oQ c) (nE c))
def jq(c:Int)(n:Nat):(aU c n).length=n:=by simp[aU]
def hV(ds:cQ)(d:D):Prop:=∃(c:Int) (n:Nat),ds=[.int c,.int n]/\n<1000/\d=bn (aU c n)
def qy:∀ds d,hV ds d->ds.length=2:=by rintro _ _ ⟨a,b,rfl,_⟩;rfl
def eM{i:Nat}(h:(cZ 0 n)[i]?=some d):i<n/\d=.int (i:Int):=by
 unfold cZ at h
 rw[List.getElem?_map] at h
 by_cases hi:i<n
 ·rw[List.getElem?_range hi] at h
  cases h
  exact⟨hi,by show D.int (0+(i:Int))=_;rw[Int.zero_add]⟩
 ·rw[List.getElem?_eq_none (by simpa using hi)] at h;cases h
def ym(h:DefX P w K mg base k mP (ai jZ) X)(LK:mg "len"=none):
  Go X mP jZ mV:=by
 rintro ds d ⟨ns,j,rfl,h0,h1,rfl⟩
 have t:=h.at'
 haveI:=h.Mg
 have bl:=h.bt LK
 show Lr X [.val (.MG ns),.val (.int j),.un,.un] _ _
 by_cases hj:j<ns.length
 ·refine fO (fy (Lu.eq (tT (ac t 1) (eC t bl (Lq.qs (ac t 0)))) ?_) (aD (bC (aJ (Lq.qs (ac t 0)) (ac t 1) ?_))))
  ·rw[ah];exact aH hj
  ·have hn:j.toNat<ns.length:=by lia
   rw[nv h0 rfl hn]
   unfold rn
   rw[aB hj,List.getD_eq_getElem?_getD,List.getElem?_eq_getElem hn];rfl
 ·refine ao (dr (Lu.eq (tT (ac t 1) (eC t bl (Lq.qs (ac t 0)))) ?_) bR) ?_
  ·rw[ah];exact ap hj
  refine ao (bE t 2 (aW (aS ag (bO (bO (aS (ac t 1) (ac t 1) (br (by lia) (by lia))) (aS ag (ac t 1) (br (by decide) (by decide)))) ag) (br (by decide) (by decide))) ag (by decide))) ?_
  refine ao (ρ':=[.val (.MG ns),.val (.int j),.val (.int (rn ns j)),.un]) (fC t (iV (Lq.eq (LQ.Mi (fW (Lq.qs (ac t 0)) eO (eI ag))) (by rw[eD]))) ?_) (aD (bC (ac t 2)))
  refine LB.LJ (fun i=>[.val (.MG ns),.val (.int j),.val (.int (t5 (48271*(j*j+7*j+11)%2147483647) ((bZ ns none (some 3)).take i))),.un]) (fun i d hi=>?_) rfl ?_
  ·rw[List.getElem?_map] at hi
   cases e:(bZ ns none (some 3))[i]? with
   |none=>rw[e] at hi;cases hi
   |some x=>
    rw[e] at hi;cases hi
    refine⟨_,bj t 3,Lr.weak (aD (bE t 2 (aW (bO (aS (ac t 2) ag (ek (by decide) (by decide))) (ac t 3)) ag (by decide)))) ?_⟩
    have e2:t5 (48271*(j*j+7*j+11)%2147483647) ((bZ ns none (some 3)).take (i+1))=(t5 (48271*(j*j+7*j+11)%2147483647) ((bZ ns none (some 3)).take i)*69621+x)%2147483647:=by
     rw[qh e];unfold t5;rw[kF];rfl
    rw[e2]
    exact .keep (.keep (.keep (.forget .nil)))
  ·rw[ah,eE]
   unfold rn;rw[ay hj]
def ua(h:DefX P w K mg base k jI (ai gW) X)(Lz:mg "range"=none)(MQ:mg "abs"=none)(MP:mg "int"=none):
  Go X jI gW hV:=by
 rintro ds d ⟨c,n,rfl,hn,rfl⟩
 have t:=h.at'
 haveI:=h.Mg
 have b1:=h.bt Lz
 have b2:=h.bt MQ
 have b3:=h.bt MP
 show Lr X [.val (.int c),.val (.int n),.un,.un,.un,.un] _ _
 refine ao (kl t 2 (dZ ak)) ?_
 refine ao (bE t 3 (aW (aS (bO (aW (ac t 0) ag (by decide)) ag) ag (ek (by decide) (by decide))) ag (by decide))) ?_
 refine ao (bE t 4 ag) ?_
 refine ao (ρ':=[.val (.int c),.val (.int n),.own [],.val (.int (oQ c)),.val (.int (nE c)),.un]) ?_ ?_
 ·by_cases h1:c<0
  ·refine fy (Ms.toT (yX (Lu.eq (tT (ac t 0) ag) (aH h1)))) (Lr.eq (aD (bE t 4 (ox t b2 (ac t 0)))) ?_)
   have e:nE c=(c.natAbs:Int):=by unfold nE;rw[aB (.inl h1)]
   rw[e];rfl
  ·by_cases h2:c ≥ 10 ^ 18
   ·refine fy (Ms.toT (ot (Lu.eq (tT (ac t 0) ag) (ap h1)) (qA (Lu.eq (pL (ac t 0) (De ag ag ⟨by decide,by decide,by decide⟩)) (aH h2))))) (Lr.eq (aD (bE t 4 (ox t b2 (ac t 0)))) ?_)
    have e:nE c=(c.natAbs:Int):=by unfold nE;rw[aB (.inr h2)]
    rw[e];rfl
   ·refine dr (Ms.toT (ot (Lu.eq (tT (ac t 0) ag) (ap h1)) (qA (Lu.eq (pL (ac t 0) (De ag ag ⟨by decide,by decide,by decide⟩)) (ap h2))))) (Lr.eq bR ?_)
    have e:nE c=0:=by unfold nE;rw[ay (by rintro(z | z);exact h1 z;exact h2 z)]
    rw[e];rfl
 refine ao (fC t (eQ t b1 (ac t 1) (by lia) (by lia)) (LB.LJ (ρ':=[.val (.int c),.val (.int n),.own ((aU c n).map D.int),.val (.int (HA (oQ c) n)),.val (.int (Hc (nE c) n)),.un])
  (fun i=>[.val (.int c),.val (.int n),.own ((aU c i).map D.int),.val (.int (HA (oQ c) i)),.val (.int (Hc (nE c) i)),.un]) (fun i d hi=>?_) rfl ?_)) (fX 2 rfl (aD (bC (ac t 2))))
 ·obtain⟨Ox,rfl⟩:=eM hi
  have Nr:i<n:=by simpa using Ox
  refine⟨_,bj t 5,Lr.weak (ao (bE t 3 (aW (bO (bO (aS (ac t 3) (bO (aW (ac t 3) ag (by decide)) ag) (ek (by lia) (by lia))) (aS ag (ac t 5) (br (by decide) (by decide)))) ag) ag (by decide)))
   (ao (kP t 2 rfl (d:=.int (GU (oQ c) (nE c) i)) (aJ (LQ.toQ (dZ (ae (ac t 3) (ae (aW (ac t 4) ag (by decide)) ak)))) (sB t b3 (Dh (ac t 4) ag)) ?_) ?_)
   (aD (bE t 4 (lA t (ac t 4) ag (by decide)))))) ?_⟩
  ·by_cases hd:0<Hc (nE c) i
   ·have e:GU (oQ c) (nE c) i=Hc (nE c) i%1000000:=by unfold GU;rw[aB hd]
    rw[e,aH hd];rfl
   ·have e:GU (oQ c) (nE c) i=HA (oQ c) (i+1):=by unfold GU;rw[ay hd]
    rw[e,ap hd];rfl
  ·rw[ah,jq];exact gH (by lia)
  ·have e:aU c (i+1)=aU c i++[GU (oQ c) (nE c) i]:=by
    unfold aU;rw[uj,bG];rfl
   rw[e,bG]
   exact .keep (.keep (.keep (.keep (.keep (.forget .nil)))))
 ·have e:(cZ 0 (n:Int).toNat).length=n:=by simp[cZ]
  rw[e]
def di(xs:aI):aI:=(xs.reverse.dropWhile (· == 0)).reverse
def jn(xs:aI):di (xs++[0])=di xs:=by simp[di]
def mY{a:Int}(xs:aI)(h:a≠0):di (xs++[a])=xs++[a]:=by simp[di,h]
def gP(xs:aI):(di xs).length<=xs.length:=by
 unfold di
 rw[dW]
 have:=(Kt (l:=xs.reverse) (p:=fun x=>x==0)).length_le
 rw[dW] at this
 exact this
def D1(xs:aI):di xs=[]\/∃ys a,di xs=ys++[a]/\a≠0:=by
 induction h:xs.length generalizing xs with
 |zero=>left;rw[cz h];rfl
 |succ n ih=>
  rcases eu xs with e | ⟨ys,y,e⟩
  ·subst e;left;rfl
  ·rw[fB] at e
   subst e
   by_cases hy:y=0
   ·subst hy;rw[jn];exact ih ys (by simpa using h)
   ·right;exact⟨ys,y,mY ys hy,hy⟩
def AZ(R:aI->eU)(h1:Lu X (R []) c false)(h2:∀ys a,(ys++[a]).length<1000->Lu X (R (ys++[a])) c (decide (a=0)))(h3:∀ys a,Lr X (R (ys++[a])) body (.nx (R ys))):
  ∀(n:Nat) (ys:aI),ys.length=n->ys.length<1000->∃m,qM X c body m (R ys) (.nx (R (di ys))):=by
 intro n
 induction n with
 |zero=>intro ys h _;rw[cz h];exact⟨0,.stop h1⟩
 |succ n ih=>
  intro ys h hl
  rcases eu ys with e | ⟨zs,a,e⟩
  ·subst e;exact⟨0,.stop h1⟩
  ·rw[fB] at e
   subst e
   by_cases ha:a=0
   ·subst ha
    rw[jn]
    have hz:zs.length=n:=by simpa using h
    obtain⟨m,q⟩:=ih zs hz (by lia)
    exact⟨m+1,.step (Lu.eq (h2 zs 0 hl) rfl) (h3 zs 0) q⟩
   ·rw[mY zs ha]
    exact⟨0,.stop (Lu.eq (h2 zs a hl) (ap ha))⟩
def iL(ds:cQ)(d:D):Prop:=∃xs:aI,(ds=[bn xs]\/ds=[av xs])/\xs.length<1000/\d=av (di xs)
def uC:∀ds d,iL ds d->ds.length=1:=by rintro _ _ ⟨a,rfl | rfl,_⟩<;>rfl
def nX(f g:aI)(i:Nat)(acc:aI):Nat->aI
 |0=>acc
 |j+1=>(nX f g i acc j).set (i+j) ((nX f g i acc j).getD (i+j) 0+f.getD i 0*g.getD j 0)
def iH(f g:aI):Nat->aI
 |0=>List.replicate (f.length+g.length) 0
 |i+1=>nX f g i (iH f g i) g.length
def lw(f g:aI)(i:Nat)(acc:aI):∀j,(nX f g i acc j).length=acc.length
 |0=>rfl
 |j+1=>by rw[nX,ck,lw]
def kS(f g:aI):∀i,(iH f g i).length=f.length+g.length
 |0=>by rw[iH,dH]
 |i+1=>by rw[iH,lw,kS]
def aX(f g:aI):aI:=di (iH f g f.length)
def jx(f g:aI):(aX f g).length<=f.length+g.length:=by
 have:=gP (iH f g f.length)
 rw[kS] at this
 exact this
def gb(ds:cQ)(d:D):Prop:=∃f g:aI,ds=[av f,av g]/\f.length<100/\g.length<100/\(∀y∈g,-(2 ^ 63)<y/\y<2 ^ 63)/\d=av (aX f g)
def tK:∀ds d,gb ds d->ds.length=2:=by rintro _ _ ⟨a,b,rfl,_⟩;rfl
def pG{xs:aI}{j:Nat}(h:j<xs.length):xs.getD j 0=xs[j]:=by rw[List.getD_eq_getElem?_getD,List.getElem?_eq_getElem h];rfl
def dv{xs:aI}{n:Nat}(h:n<xs.length):pU (xs.map D.int) (n:Int)=some (.int (xs.getD n 0)):=by
 rw[nv (by lia) (p8 n) h,pG h]
def yg(h:DefX P w K mg base k mJ (ai iG) X)(NA:mg "list"=none)(LM:mg "tuple"=none)(LK:mg "len"=none):
  Go X mJ iG iL:=by
 rintro ds d ⟨xs,e,hl,rfl⟩
 have t:=h.at'
 haveI:=h.Mg
 have b1:=h.bt NA
 have b2:=h.bt LM
 have b3:=h.bt LK
 have key:∀q:D,Lr X [.val q,.own (xs.map D.int)] (bX iG).tail (.rt (av (di xs))):=by
  intro q
  refine ao (mZ t (AZ (fun ys=>[.val q,.own (ys.map D.int)]) ?_ (fun ys a hy=>?_) (fun ys a=>?_) _ xs rfl hl)) (aD (bC (kW t b2 (ou t 1 rfl))))
  ·exact Ms.toT (ng (iU t (MD.p (ou t 1 rfl)) (Lq.p (LQ.Mi (dZ ak))) (ic []) (ic []) (by have:=AE [] [];exact c8 not this)))
  ·refine Ms.toT (j9 (iU t (MD.p (ou t 1 rfl)) (Lq.p (LQ.Mi (dZ ak))) (ic (ys++[a])) (ic []) (by have:=AE (ys++[a]) [];rw[ap (by simp)] at this;exact c8 not this)) (ni (fm (aJ (d:=.int a) (ou t 1 rfl) (dz (eC t b3 (ou t 1 rfl)) ag) ?_) ag)))
   rw[ah,nv (n:=ys.length) (by simp) (by simp) (by simp)]
   simp
  ·refine Lr.eq (aD (Fp t 1 rfl (by simp))) ?_
   rw[bG]
   have e:(ys.map D.int++[a].map D.int).dropLast=ys.map D.int:=by simp
   rw[e];rfl
 rcases e with rfl | rfl
 ·show Lr X [.val (bn xs),.un] _ _
  exact ao (kl t 1 (wg t b1 (Lq.ql (ac t 0)))) (key _)
 ·show Lr X [.val (av xs),.un] _ _
  exact ao (kl t 1 (wg t b1 (Lq.qt (ac t 0)))) (key _)
def wv(h:DefX P w K mg base k lF (ai jf) X)(Lz:mg "range"=none)(LK:mg "len"=none)(c1:Callee X "_law_trim" iL):
  Go X lF jf gb:=by
 rintro ds d ⟨f,g,rfl,hf,hg,hb,rfl⟩
 have t:=h.at'
 haveI:=h.Mg
 have b1:=h.bt Lz
 have b2:=h.bt LK
 show Lr X [.val (av f),.val (av g),.un,.un,.un] _ _
 refine ao (kl (xs:=(List.replicate (f.length+g.length) 0).map D.int) t 2 (LQ.eq (zg (n:=(f.length:Int)+g.length) (LQ.Mi (dZ (ae ag ak))) (Lq.eq (bO (eC t b2 (Lq.qt (ac t 0))) (eC t b2 (Lq.qt (ac t 1)))) (by rw[ah,ah])) (by lia) (by lia) ?_) ?_)) ?_
 ·have e:((f.length:Int)+g.length).toNat=f.length+g.length:=by lia
  rw[e];have:=xE;simp;lia
 ·have e:((f.length:Int)+g.length).toNat=f.length+g.length:=by lia
  rw[e,td]
 refine ao (ρ':=[.val (av f),.val (av g),.own ((iH f g f.length).map D.int),.un,.un]) (fC t (eQ t b1 (eC t b2 (Lq.qt (ac t 0))) (by lia) (by rw[ah];lia)) (LB.LJ (fun i=>[.val (av f),.val (av g),.own ((iH f g i).map D.int),.un,.un]) (fun i d hi=>?_) rfl ?_)) ?_
 ·obtain⟨Ox,rfl⟩:=eM hi
  have Nr:i<f.length:=by simpa using Ox
  refine⟨_,bj t 3,Lr.weak (ρ1:=[.val (av f),.val (av g),.own ((iH f g (i+1)).map D.int),.val (.int i),.un]) (aD (fC t (eQ t b1 (eC t b2 (Lq.qt (ac t 1))) (by lia) (by rw[ah];lia))
   (LB.LJ (fun j=>[.val (av f),.val (av g),.own ((nX f g i (iH f g i) j).map D.int),.val (.int i),.un]) (fun j d hj=>?_) rfl ?_))) (.keep (.keep (.keep (.forget (.keep .nil)))))⟩
  ·obtain⟨ON,rfl⟩:=eM hj
   have Qa:j<g.length:=by simpa using ON
   have hl:(nX f g i (iH f g i) j).length=f.length+g.length:=by rw[lw,kS]
   have hy : -(2 ^ 63)<g.getD j 0/\g.getD j 0<2 ^ 63:=by rw[pG Qa];exact hb _ (rV _)
   have e1:((i:Int)+(j:Int))=((i+j:Nat):Int):=by lia
   refine⟨_,bj t 4,Lr.weak (aD (re t (bO (i:=(nX f g i (iH f g i) j).getD (i+j) 0) (aJ (ou t 2 rfl) (bO (ac t 3) (ac t 4)) ?_) (aS (i:=f.getD i 0) (j:=g.getD j 0) (aJ (Lq.qt (ac t 0)) (ac t 3) (dv Nr)) (aJ (Lq.qt (ac t 1)) (ac t 4) (dv Qa)) (ek (by lia) (by lia)))) (ER (j:=i+j) t 2 rfl (bO (ac t 3) (ac t 4)) ?_))) ?_⟩
   ·rw[e1];exact dv (by lia)
   ·rw[ah];exact v5 (by lia) (by lia) (by lia)
   ·rw[nX,Ks]
    exact .keep (.keep (.keep (.keep (.forget .nil))))
  ·have e:(cZ 0 ((g.map D.int).length:Int).toNat).length=g.length:=by simp[cZ]
   rw[e];rfl
 ·have e:(cZ 0 ((f.map D.int).length:Int).toNat).length=f.length:=by simp[cZ]
  rw[e]
 ·refine fX 2 rfl (aD (bC (ax t c1 (ae (ac t 2) ak) ⟨iH f g f.length,.inl rfl,by rw[kS];lia,rfl⟩)))
def i9(xs:aI):Int:=([9,3,1,1000]:aI).getD (xs.getD 0 0%4).toNat 0
def gQ(xs:aI)(most:Int):aI:=di ((bZ xs (some 2) (some (3+xs.getD 1 0%(most+1)))).map fun x=>x%(2*i9 xs+1)-i9 xs)
def qm(xs:aI):0<i9 xs/\i9 xs<=1000:=by
 unfold i9
 have h1:=fc (xs.getD 0 0) (show(4:Int)≠0 by decide)
 have h2:=dN (xs.getD 0 0) (show(0:Int)<4 by decide)
 generalize xs.getD 0 0%4=r at *
 have:r=0\/r=1\/r=2\/r=3:=by lia
 rcases this with rfl | rfl | rfl | rfl<;>decide
def fx(xs:aI)(most:Int):(gQ xs most).length<=xs.length:=by
 have h1:=gP ((bZ xs (some 2) (some (3+xs.getD 1 0%(most+1)))).map fun x=>x%(2*i9 xs+1)-i9 xs)
 have h2:=pS xs (some 2) (some (3+xs.getD 1 0%(most+1)))
 rw[ah] at h1
 exact aZ h1 h2
def pk{x:Int}(h:x∈di xs):x∈xs:=by
 unfold di at h
 rw[List.mem_reverse] at h
 have:=(Kt (l:=xs.reverse) (p:=fun x=>x==0)).mem h
 exact List.mem_reverse.mp this
def nR(xs:aI)(most:Int):∀y∈gQ xs most,-(2 ^ 63)<y/\y<2 ^ 63:=fun y hy=>by
 obtain⟨x,_,rfl⟩:=List.mem_map.mp (pk hy)
 obtain⟨h1,h2⟩:=qm xs
 have h3:=fc x (show(2*i9 xs+1:Int)≠0 by lia)
 have h4:=dN x (show(0:Int)<2*i9 xs+1 by lia)
 lia
def i7(ds:cQ)(d:D):Prop:=∃(xs:aI) (most:Int),ds=[bn xs,.int most]/\2<=xs.length/\xs.length<1000/\0<=most/\most<1000/\d=av (gQ xs most)
def pB:∀ds d,i7 ds d->ds.length=2:=by rintro _ _ ⟨a,b,rfl,_⟩;rfl
def tN(xs:aI):Int:=if xs.getD 0 0 / 3%2=1 then -1-xs.getD 0 0%3 else 1+xs.getD 0 0%3
def nD(xs:aI)(k:Nat):aI:=[xs.getD (2+2*k) 0%9-4,1+xs.getD (3+2*k) 0%3]
def tw(g:aI)(f:aI):Nat->aI
 |0=>f
 |n+1=>aX (tw g f n) g
def jw(xs:aI)(k:Nat):Nat:=(1+xs.getD (2+2*k) 0 / 9%2).toNat
def fV(xs:aI):Nat->aI
 |0=>[tN xs]
 |k+1=>tw (nD xs k) (fV xs k) (jw xs k)
def gX(xs:aI):aI:=fV xs (xs.getD 1 0%4).toNat
def yW(xs:aI)(k:Nat):∀y∈nD xs k,-(2 ^ 63)<y/\y<2 ^ 63:=fun y hy=>by
 unfold nD at hy
 rcases aC.mp hy with rfl | hy
 ·lia
 ·rcases aC.mp hy with rfl | hy
  ·lia
  ·cases hy
def qg(xs:aI)(k:Nat):jw xs k<=2:=by unfold jw;lia
def pf(g f:aI):∀n,(tw g f n).length<=f.length+n*g.length
 |0=>by simp[tw]
 |n+1=>by
  have h1:=jx (tw g f n) g
  have h2:=pf g f n
  rw[tw,ud]
  lia
def j6(xs:aI):∀k,(fV xs k).length<=1+4*k
 |0=>by simp[fV]
 |k+1=>by
  have h1:=pf (nD xs k) (fV xs k) (jw xs k)
  have h2:=j6 xs k
  have h3:=qg xs k
  have h4:(nD xs k).length=2:=rfl
  rw[h4] at h1
  rw[fV]
  lia
def j5(xs:aI):(gX xs).length<=13:=by
 have:=j6 xs (xs.getD 1 0%4).toNat
 unfold gX
 have h2:(xs.getD 1 0%4).toNat<=3:=by lia
 lia
def jL(ds:cQ)(d:D):Prop:=∃(xs:aI),ds=[bn xs]/\8<=xs.length/\xs.length<1000/\d=av (gX xs)
def qw:∀ds d,jL ds d->ds.length=1:=by rintro _ _ ⟨a,rfl,_⟩;rfl
def jO(c:Int)(most:Int):aI:=
 if (aU c 22).getD 0 0%5=0 then gX (bZ (aU c 22) (some 1) none)
 else if (aU c 22).getD 0 0%5=1 then aX (gX (bZ (aU c 22) (some 1) (some 5)++List.replicate 6 0)) (gQ (bZ (aU c 22) (some 12) none) 2)
 else if (aU c 22).getD 0 0%5=2 then aX (gQ (bZ (aU c 22) (some 1) none) 2) (gQ (bZ (aU c 22) (some 12) none) 2)
 else gQ (bZ (aU c 22) (some 1) none) most
def oJ(ds:cQ)(d:D):Prop:=∃(c most:Int),ds=[.int c,.int most]/\0<=most/\most<1000/\d=av (jO c most)
def vZ:∀ds d,oJ ds d->ds.length=2:=by rintro _ _ ⟨a,b,rfl,_⟩;rfl
def pR{xs:aI}(h:xs.length=22):(bZ xs (some 1) none).length=21:=by unfold bZ;rw[bw,dB,h];decide
def qE{xs:aI}(h:xs.length=22):(bZ xs (some 12) none).length=10:=by unfold bZ;rw[bw,dB,h];decide
def BA{xs:aI}(h:xs.length=22):(bZ xs (some 1) (some 5)).length=4:=by unfold bZ;rw[bw,dB,h];decide
def ec(f:aI):Prop:=f=[]\/∃ys a,f=ys++[a]/\a≠0
def Cm(c most:Int):(jO c most).length<100:=by
 have OA:(aU c 22).length=22:=jq c 22
 unfold jO
 split
 ·have:=j5 (bZ (aU c 22) (some 1) none);lia
 ·split
  ·have h1:=jx (gX (bZ (aU c 22) (some 1) (some 5)++List.replicate 6 0)) (gQ (bZ (aU c 22) (some 12) none) 2)
   have h2:=j5 (bZ (aU c 22) (some 1) (some 5)++List.replicate 6 0)
   have h3:=fx (bZ (aU c 22) (some 12) none) 2
   rw[qE OA] at h3
   lia
  ·split
   ·have h1:=jx (gQ (bZ (aU c 22) (some 1) none) 2) (gQ (bZ (aU c 22) (some 12) none) 2)
    have h2:=fx (bZ (aU c 22) (some 1) none) 2
    have h3:=fx (bZ (aU c 22) (some 12) none) 2
    rw[qE OA] at h3
    rw[pR OA] at h2
    lia
   ·have h2:=fx (bZ (aU c 22) (some 1) none) most
    rw[pR OA] at h2
    lia
def rM(h:DefX P w K mg base k iZ (ai gu) X)(c1:Callee X "_law_trim" iL):
  Go X iZ gu i7:=by
 rintro ds d ⟨xs,most,rfl,h2,hl,h0,h1,rfl⟩
 have t:=h.at'
 haveI:=h.Mg
 obtain⟨s1,s2⟩:=qm xs
 show Lr X [.val (bn xs),.val (.int most),.un] _ _
 refine ao (bE (d:=.int (i9 xs)) t 2 (aJ (LQ.toQ (dZ (ae ag (ae ag (ae ag (ae ag ak)))))) (aW (i:=xs.getD 0 0) (aJ (Lq.ql (ac t 0)) ag (dv (n:=0) (by lia))) ag (by decide)) ?_)) ?_
 ·exact E1 (xs:=[9,3,1,1000]) (by lia) (by show _<4;lia)
 ·refine aD (bC (ax t c1 (ae (d:=bn ((bZ xs (some 2) (some (3+xs.getD 1 0%(most+1)))).map fun x=>x%(2*i9 xs+1)-i9 xs)) (LQ.Mi (iC t ["_law_xs", "_law_most", "_law_size", "_law_x"] (Dw (by decide)) (iV (Lq.eq (LQ.Mi (fW (Lq.ql (ac t 0)) (eI ag) (eI (bO ag (aW (i:=xs.getD 1 0) (aJ (Lq.ql (ac t 0)) ag (dv (n:=1) (by lia))) (bO (ac t 1) ag) (by lia)))))) (by rw[eD]))) ?_ fun X' cx=>?_)) ak) ⟨_,.inl rfl,?_,rfl⟩))
  ·rw[ah];have:=pS xs (some 2) (some (3+xs.getD 1 0%(most+1)));exact gH (by lia)
  ·have t':=cx.at'
   exact LO.ints _ (fun x=>[.val (bn xs),.val (.int most),.val (.int (i9 xs)),.val (.int x)]) (fun d hd=>c9 t' 3) (fun d hd e he=>c9 t' 3) fun d hd=>
    dz (aW (ac t' 3 rfl) (bO (aS (i:=2) (j:=i9 xs) ag (ac t' 2 rfl) (br (by decide) (by decide))) ag) (by lia)) (ac t' 2 rfl)
  ·rw[ah];have:=pS xs (some 2) (some (3+xs.getD 1 0%(most+1)));lia
def t9(h:DefX P w K mg base k jH (ai gU) X)(Lz:mg "range"=none)(c1:Callee X "_law_times" gb):
  Go X jH gU jL:=by
 rintro ds d ⟨xs,rfl,h8,hl,rfl⟩
 have t:=h.at'
 haveI:=h.Mg
 have b1:=h.bt Lz
 show Lr X [.val (bn xs),.un,.un,.un,.un] _ _
 refine ao (bE t 1 (aV (ae (bO ag (aW (i:=xs.getD 0 0) (aJ (Lq.ql (ac t 0)) ag (dv (n:=0) (by lia))) ag (by decide))) ak))) ?_
 refine ao (ρ':=[.val (bn xs),.val (av [tN xs]),.un,.un,.un]) ?_ ?_
 ·by_cases hc:xs.getD 0 0 / 3%2=1
  ·refine fy (Lu.eq (fm (aW (lA (i:=xs.getD 0 0) t (aJ (Lq.ql (ac t 0)) ag (dv (n:=0) (by lia))) ag (by decide)) ag (by decide)) ag) (aH hc)) (Lr.eq (aD (bE t 1 (aV (ae (dz (ge ag) (aW (i:=xs.getD 0 0) (aJ (Lq.ql (ac t 0)) ag (dv (n:=0) (by lia))) ag (by decide))) ak)))) ?_)
   have e:tN xs=-1-xs.getD 0 0%3:=by unfold tN;rw[aB hc]
   rw[e];rfl
  ·refine dr (Lu.eq (fm (aW (lA (i:=xs.getD 0 0) t (aJ (Lq.ql (ac t 0)) ag (dv (n:=0) (by lia))) ag (by decide)) ag (by decide)) ag) (ap hc)) (Lr.eq bR ?_)
   have e:tN xs=1+xs.getD 0 0%3:=by unfold tN;rw[ay hc]
   rw[e];rfl
 refine ao (ρ':=[.val (bn xs),.val (av (gX xs)),.un,.un,.un]) (fC t (eQ t b1 (aW (i:=xs.getD 1 0) (aJ (Lq.ql (ac t 0)) ag (dv (n:=1) (by lia))) ag (by decide)) (by lia) (by lia)) (LB.LJ (fun i=>[.val (bn xs),.val (av (fV xs i)),.un,.un,.un]) (fun i d hi=>?_) rfl ?_)) (aD (bC (ac t 1)))
 ·obtain⟨Ox,rfl⟩:=eM hi
  have Nr:i<3:=by lia
  have p1:=j6 xs i
  have p2:=qg xs i
  refine⟨_,bj t 2,Lr.weak (ρ1:=[.val (bn xs),.val (av (fV xs (i+1))),.val (.int i),.val (av (nD xs i)),.un]) (ao (bE t 3 (Lq.eq (d:=.tup [.int (xs.getD (2+2*i) 0%9-4),.int (1+xs.getD (3+2*i) 0%3)]) (aV (ae (dz (aW (i:=xs.getD (2+2*i) 0) (aJ (Lq.ql (ac t 0)) (bO ag (aS ag (ac t 2) (br (by decide) (by decide)))) ?_) ag (by decide)) ag) (ae (bO ag (aW (i:=xs.getD (3+2*i) 0) (aJ (Lq.ql (ac t 0)) (bO ag (aS ag (ac t 2) (br (by decide) (by decide)))) ?_) ag (by decide))) ak))) rfl)) (aD (fC t (Nd.eq (eQ t b1 (bO ag (aW (lA (i:=xs.getD (2+2*i) 0) t (aJ (Lq.ql (ac t 0)) (bO ag (aS ag (ac t 2) (br (by decide) (by decide)))) ?_) ag (by decide)) ag (by decide))) (by lia) (by lia)) (show _=cZ 0 (jw xs i) from rfl))
   (LB.LJ (fun n=>[.val (bn xs),.val (av (tw (nD xs i) (fV xs i) n)),.val (.int i),.val (av (nD xs i)),.un]) (fun n d hn=>?_) rfl ?_)))) (.keep (.keep (.forget (.forget (.keep .nil)))))⟩
  ·rw[show(2+2*(i:Int))=((2+2*i:Nat):Int) by lia];exact dv (by lia)
  ·rw[show(3+2*(i:Int))=((3+2*i:Nat):Int) by lia];exact dv (by lia)
  ·rw[show(2+2*(i:Int))=((2+2*i:Nat):Int) by lia];exact dv (by lia)
  ·obtain⟨RA,rfl⟩:=eM hn
   have p3:=pf (nD xs i) (fV xs i) n
   have p4:(nD xs i).length=2:=rfl
   refine⟨_,bj t 4,Lr.weak (aD (bE t 1 (ax t c1 (ae (ac t 1) (ae (ac t 3) ak)) ⟨_,_,rfl,by rw[p4] at p3;lia,by rw[p4];decide,yW xs i,rfl⟩))) (.keep (.keep (.keep (.keep (.forget .nil)))))⟩
  ·have e:(cZ 0 (jw xs i)).length=jw xs i:=by simp[cZ]
   rw[e];rfl
 ·have e:(cZ 0 (xs.getD 1 0%4).toNat).length=(xs.getD 1 0%4).toNat:=by simp[cZ]
  rw[e];rfl
def B7(xs:aI):xs.take (di xs).length=di xs:=by
 induction h:xs.length generalizing xs with
 |zero=>rw[cz h];rfl
 |succ n ih=>
  rcases eu xs with e | ⟨ys,y,e⟩
  ·subst e;rfl
  ·rw[fB] at e
   subst e
   by_cases hy:y=0
   ·subst hy
    rw[jn]
    have q:=ih ys (by simpa using h)
    have l:=gP ys
    rw[List.take_append_of_le_length l];exact q
   ·rw[mY ys hy,eE]
def xU(R:Nat->eU)(xs:aI)(h1:Lu X (R 0) c false)(h2:∀m (h:m<xs.length),Lu X (R (m+1)) c (decide (xs[m]=0)))(h3:∀m,Lr X (R (m+1)) body (.nx (R m))):
  ∀m,m<=xs.length->∃n,qM X c body n (R m) (.nx (R (di (xs.take m)).length))
 |0,_=>⟨0,.stop h1⟩
 |m+1,hm=>by
  have Mj:m<xs.length:=hm
  have e:xs.take (m+1)=xs.take m++[xs[m]]:=qh (List.getElem?_eq_getElem Mj)
  by_cases hz:xs[m]=0
  ·obtain⟨n,q⟩:=xU R xs h1 h2 h3 m (by lia)
   refine⟨n+1,.step (Lu.eq (h2 m Mj) (aH hz)) (h3 m) ?_⟩
   rw[e,hz,jn];exact q
  ·refine⟨0,?_⟩
   rw[e,mY _ hz]
   have el:(xs.take m++[xs[m]]).length=m+1:=by rw[<-e,bw];lia
   rw[el]
   exact .stop (Lu.eq (h2 m Mj) (ap hz))
def ky(ds:cQ)(d:D):Prop:=∃xs:aI,ds=[bn xs,.int 0]/\xs.length<1000/\d=av (di xs)
def rC:∀ds d,ky ds d->ds.length=2:=by rintro _ _ ⟨a,rfl,_⟩;rfl
def pX(ds:cQ)(d:D):Prop:=∃xs:aI,ds=[bn xs]/\xs.length<1000/\d=av (di xs)
def yS:∀ds d,pX ds d->ds.length=1:=by rintro _ _ ⟨a,rfl,_⟩;rfl
def bz(f:aI):aI:=(List.range (f.length-1)).map fun(i:Nat)=>(1+(i:Int))*f.getD (1+i) 0
def wK(ds:cQ)(d:D):Prop:=∃f:aI,ds=[av f]/\f.length<1000/\d=av (bz f)
def Bm:∀ds d,wK ds d->ds.length=1:=by rintro _ _ ⟨a,rfl,_⟩;rfl
def uN(h:DefX P w K mg base k kq (ai iw) X)(LK:mg "len"=none)(LM:mg "tuple"=none):
  Go X kq iw ky:=by
 rintro ds d ⟨xs,rfl,hl,rfl⟩
 have t:=h.at'
 haveI:=h.Mg
 have b1:=h.bt LK
 have b2:=h.bt LM
 show Lr X [.val (bn xs),.val (.int 0),.un] _ _
 refine ao (bE t 2 (Lq.eq (eC t b1 (Lq.ql (ac t 0))) (by rw[ah]))) ?_
 refine ao (mZ t (xU (fun m=>[.val (bn xs),.val (.int 0),.val (.int (m:Int))]) xs ?_ (fun m hm=>?_) (fun m=>?_) xs.length (az _))) (aD (bC (Lq.eq (kW t b2 (LQ.toQ (fW (Lq.ql (ac t 0)) eO (eI (ac t 2))))) ?_)))
 ·exact Ms.toT (ng (Lu.eq (AD (ac t 2) ag) rfl))
 ·refine Ms.toT (j9 (Lu.eq (AD (ac t 2) ag) (aH (by lia))) (ni (fm (aJ (Lq.ql (ac t 0)) (dz (ac t 2) ag) ?_) (ac t 1))))
  exact nv (by lia) (by lia) hm
 ·refine Lr.eq (aD (Ci t 2 rfl ag)) ?_
  have e:((m+1:Nat):Int)-1=(m:Int):=by lia
  show Out.nx [_,_,.val (.int (((m+1:Nat):Int)-1))]=_
  rw[e]
 ·rw[eE,eD]
  have e:bZ xs none (some ((di xs).length:Int))=di xs:=by
   have l:=gP xs
   unfold bZ
   have e1:HT.LC xs.length 0 none=0:=by simp[HT.LC]
   have e2:HT.LC xs.length xs.length (some ((di xs).length:Int))=(di xs).length:=by
    simp only[HT.LC]
    split<;>lia
   rw[e1,e2,oN,BQ]
   exact B7 xs
  rw[e]
def DB(h:DefX P w K mg base k ub (ai pc) X)(c1:Callee X "without_end" ky):
  Go X ub pc pX:=by
 rintro ds d ⟨xs,rfl,hl,rfl⟩
 have t:=h.at'
 show Lr X [.val (bn xs)] _ _
 exact aD (bC (ax t c1 (ae (ac t 0) (ae ag ak)) ⟨xs,rfl,hl,rfl⟩))
def EX(h:DefX P w K mg base k wF (ai sj) X)(LM:mg "tuple"=none)(Lz:mg "range"=none)(LK:mg "len"=none):
  Go X wF sj wK:=by
 rintro ds d ⟨f,rfl,hf,rfl⟩
 have t:=h.at'
 have b1:=h.bt LM
 have b2:=h.bt Lz
 have b3:=h.bt LK
 show Lr X [.val (av f)] _ _
 refine aD (bC (Lq.eq (kW t b1 (LQ.toQ (iC (rs:=(List.range (f.length-1)).map fun(i:Nat)=>D.int ((1+(i:Int))*f.getD (1+i) 0)) t ["f", "power"] (Dw (by decide)) (Nd.eq (vq t b2 ag (eC t b3 (Lq.qt (ac t 0))) (by rw[ah];lia)) (show _=cZ 1 (f.length-1) by rw[ah];congr 1;lia)) (by simp[cZ];exact gH (by lia)) fun X' cx=>?_))) (by show D.tup _=D.tup _;unfold bz;rw[iP];rfl)))
 exact LO.gen (fun(i:Nat)=>D.int (1+(i:Int))) _ (fun(i:Nat)=>[.val (av f),.val (.int (1+(i:Int)))]) _ _ (fun x hx=>c9 cx.at' 1) (fun x hx y hy=>c9 cx.at' 1) fun x hx=>by
  have NF:=List.mem_range.mp hx
  exact aS (ac cx.at' 1 rfl) (aJ (Lq.qt (ac cx.at' 0 rfl)) (ac cx.at' 1 rfl) (by rw[show(1+(x:Int))=((1+x:Nat):Int) by lia];exact dv (by lia))) (br (by lia) (by lia))
def lU(f g:aI):Nat->aI
 |0=>List.replicate (f.length+g.length-1) 0
 |i+1=>nX f g i (lU f g i) g.length
def mn(f g:aI):∀i,(lU f g i).length=f.length+g.length-1
 |0=>by rw[lU,dH]
 |i+1=>by rw[lU,lw,mn]
def xL(f g:aI)(i:Nat)(acc:aI)(z:Int):∀j,i+j<=acc.length->nX f g i (acc++[z]) j=nX f g i acc j++[z]
 |0,_=>rfl
 |j+1,h=>by
  have ih:=xL f g i acc z j (by lia)
  have hl:i+j<(nX f g i acc j).length:=by rw[lw];lia
  rw[nX,nX,ih,List.set_append_left _ _ hl]
  have e:(nX f g i acc j++[z]).getD (i+j) 0=(nX f g i acc j).getD (i+j) 0:=by
   rw[List.getD_eq_getElem?_getD,List.getD_eq_getElem?_getD,List.getElem?_append_left hl]
  rw[e]
def vi(f g:aI)(hf:f≠[])(hg:g≠[]):∀i,i<=f.length->iH f g i=lU f g i++[0]
 |0,_=>by
  have h1:=List.length_pos_iff.mpr hf
  rw[iH,lU,show f.length+g.length=(f.length+g.length-1)+1 by lia,wN]
  rfl
 |i+1,h=>by
  have h1:=List.length_pos_iff.mpr hf
  rw[iH,lU,vi f g hf hg i (by lia),xL]
  rw[mn];lia
def sI{f g:aI}(hf:f≠[])(hg:g≠[]):di (lU f g f.length)=aX f g:=by
 unfold aX;rw[vi f g hf hg _ (az _),jn]
def qc:∀n,di (List.replicate n (0:Int))=[]
 |0=>rfl
 |n+1=>by rw[wN,jn,qc]
def u4(g:aI):aX [] g=[]:=by
 unfold aX;rw[uo,iH];exact qc _
def xv(f:aI):∀i,iH f [] i=List.replicate f.length 0
 |0=>rfl
 |i+1=>by rw[iH,uo,nX,xv]
def sJ(f:aI):aX f []=[]:=by unfold aX;rw[xv];exact qc _
def mT(ds:cQ)(d:D):Prop:=∃f g:aI,ds=[av f,av g]/\f.length<100/\g.length<100/\(∀y∈g,-(2 ^ 63)<y/\y<2 ^ 63)/\d=av (aX f g)
def uB:∀ds d,mT ds d->ds.length=2:=by rintro _ _ ⟨a,b,rfl,_⟩;rfl
def yf(h:DefX P w K mg base k mI (ai iF) X)(Mm:mg "enumerate"=none)(LK:mg "len"=none)(c1:Callee X "row_of" pX):
  Go X mI iF mT:=by
 rintro ds d ⟨f,g,rfl,hf,hg,hb,rfl⟩
 have t:=h.at'
 haveI:=h.Mg
 have b1:uT X (ai iF) "enumerate" (.type "enumerate"):=zm (by rw[h.Na];exact Mm) rfl (by decide)
 have b2:=h.bt LK
 show Lr X [.val (av f),.val (av g),.un,.un,.un,.un,.un] _ _
 by_cases h1:f=[]
 ·refine fO (fy (Ms.toT (yX (ij t (Lq.p (ac t 0)) (Lq.p (d:=av []) (aV ak)) (bb _) (bb _) (by rw[fY,h1];rfl)))) (aD (bC (Lq.eq (d:=.tup []) (aV ak) ?_))))
  rw[h1,u4];rfl
 by_cases h2:g=[]
 ·refine fO (fy (Ms.toT (ot (ij t (Lq.p (ac t 0)) (Lq.p (d:=av []) (aV ak)) (bb _) (bb _) (by rw[fY,ap h1])) (qA (ij t (Lq.p (ac t 1)) (Lq.p (d:=av []) (aV ak)) (bb _) (bb _) (by rw[fY,h2];rfl))))) (aD (bC (Lq.eq (d:=.tup []) (aV ak) ?_))))
  rw[h2,sJ];rfl
 have lf:=List.length_pos_iff.mpr h1
 have lg:=List.length_pos_iff.mpr h2
 refine ao (dr (Ms.toT (ot (ij t (Lq.p (ac t 0)) (Lq.p (d:=av []) (aV ak)) (bb _) (bb _) (by rw[fY,ap h1])) (qA (ij t (Lq.p (ac t 1)) (Lq.p (d:=av []) (aV ak)) (bb _) (bb _) (by rw[fY,ap h2]))))) bR) ?_
 have en:((f.length:Int)+g.length-1).toNat=f.length+g.length-1:=by lia
 refine ao (kl (xs:=(lU f g 0).map D.int) t 2 (LQ.eq (zg (n:=(f.length:Int)+g.length-1) (LQ.Mi (dZ (ae ag ak))) (Lq.eq (dz (bO (eC t b2 (Lq.qt (ac t 0))) (eC t b2 (Lq.qt (ac t 1)))) ag) (by rw[ah,ah])) (by lia) (by lia) (by rw[en];have:=xE;simp;lia)) (by rw[en,td];rfl))) ?_
 refine ao (ρ':=[.val (av f),.val (av g),.own ((lU f g f.length).map D.int),.un,.un,.un,.un]) (fC t (wl t b1 (ac t 0)) (LB.LJ (fun i=>[.val (av f),.val (av g),.own ((lU f g i).map D.int),.un,.un,.un,.un]) (fun i d hi=>?_) rfl ?_)) ?_
 ·obtain⟨e,he,rfl⟩:=nk hi
  rw[List.getElem?_map] at he
  cases hx:f[i]? with
  |none=>rw[hx] at he;cases he
  |some x=>
  rw[hx] at he;cases he
  have Nr:i<f.length:=(List.getElem?_eq_some_iff.mp hx).1
  have ex:f.getD i 0=x:=by rw[List.getD_eq_getElem?_getD,hx];rfl
  refine⟨_,wm t 3 4,Lr.weak (ρ1:=[.val (av f),.val (av g),.own ((lU f g (i+1)).map D.int),.val (.int i),.val (.int x),.un,.un]) (aD (fC t (wl t b1 (ac t 1))
   (LB.LJ (fun j=>[.val (av f),.val (av g),.own ((nX f g i (lU f g i) j).map D.int),.val (.int i),.val (.int x),.un,.un]) (fun j d hj=>?_) rfl ?_))) (.keep (.keep (.keep (.forget (.forget (.keep (.keep .nil)))))))⟩
  ·obtain⟨e,he,rfl⟩:=nk hj
   rw[List.getElem?_map] at he
   cases hy:g[j]? with
   |none=>rw[hy] at he;cases he
   |some y=>
   rw[hy] at he;cases he
   have Qa:j<g.length:=(List.getElem?_eq_some_iff.mp hy).1
   have ey:g.getD j 0=y:=by rw[List.getD_eq_getElem?_getD,hy];rfl
   have Uc:=hb y (List.mem_of_getElem? hy)
   have hl:(nX f g i (lU f g i) j).length=f.length+g.length-1:=by rw[lw,mn]
   have Mj:i+j<(nX f g i (lU f g i) j).length:=by lia
   refine⟨_,wm t 5 6,Lr.weak (aD (u8 (j:=i+j) (u:=(nX f g i (lU f g i) j).getD (i+j) 0) t 2 CV rfl (bO (ac t 3) (ac t 5)) ?_ ?_ (aS (ac t 4) (ac t 6) (ek (by lia) (by lia))) trivial)) ?_⟩
   ·rw[ah];exact v5 (by lia) (by lia) (by lia)
   ·rw[List.getElem?_map,List.getD_eq_getElem?_getD,List.getElem?_eq_getElem Mj];rfl
   ·rw[nX,Ks,ex,ey]
    exact .keep (.keep (.keep (.keep (.keep (.forget (.forget .nil))))))
  ·rw[nj,ah];rfl
 ·rw[nj,ah]
 ·refine fX 2 rfl (aD (bC (Lq.eq (ax t c1 (ae (ac t 2) ak) ⟨lU f g f.length,rfl,by rw[mn];lia,rfl⟩) ?_)))
  rw[sI h1 h2]
def BD(M:Nat)(f:aI):Prop:=∀x∈f,x.natAbs<=M
def BD.mono{M':Nat}(h:BD M f)(q:M<=M'):BD M' f:=fun x hx=>aZ (h x hx) q
def BD.trim(h:BD M f):BD M (di f):=fun x hx=>h x (pk hx)
def BD.get(h:BD M f)(i:Nat):(f.getD i 0).natAbs<=M:=by
 rw[List.getD_eq_getElem?_getD]
 cases e:f[i]? with
 |none=>exact gy _
 |some x=>exact h x (List.mem_of_getElem? e)
def CW(hf:BD A f)(hg:BD B g)(i:Nat)(acc:aI)(ha:BD M acc):∀(j:Nat) (p:Nat),((nX f g i acc j).getD p 0).natAbs<=(if i<=p/\p<i+j then M+A*B else M)
 |0,p=>by rw[nX,ay (by lia)];exact ha.get p
 |j+1,p=>by
  have ih:=CW hf hg i acc ha j
  rw[nX]
  by_cases hp:p=i+j
  ·subst hp
   rw[aB (by lia),List.getD_eq_getElem?_getD,List.getElem?_set_self']
   have h1:=ih (i+j)
   rw[ay (by lia)] at h1
   have h2:=bu (f.getD i 0) (g.getD j 0)
   have h3:=gn (hf.get i) (hg.get j)
   have h4:=BU ((nX f g i acc j).getD (i+j) 0) (f.getD i 0*g.getD j 0)
   cases(nX f g i acc j)[i+j]? with
   |none=>exact gy _
   |some z=>
    show((nX f g i acc j).getD (i+j) 0+f.getD i 0*g.getD j 0).natAbs<=_
    rw[h2] at h4
    lia
  ·rw[List.getD_eq_getElem?_getD,List.getElem?_set_ne (ft hp),<-List.getD_eq_getElem?_getD]
   have h1:=ih p
   by_cases hq:i<=p/\p<i+j
   ·rw[aB hq] at h1;rw[aB (by lia)];exact h1
   ·rw[ay hq] at h1;rw[ay (by lia)];exact h1
def BD.of_get{M:Nat}{f:aI}(h:∀p,(f.getD p 0).natAbs<=M):BD M f:=fun x hx=>by
 obtain⟨i,hi,e⟩:=List.getElem_of_mem hx
 have:=h i
 rw[pG hi,e] at this
 exact this
def Af(hf:BD A f)(hg:BD B g):∀i,BD (i*(A*B)) (iH f g i)
 |0=>fun x hx=>by
  rw[iH] at hx
  rw[(List.mem_replicate.mp hx).2];exact gy _
 |i+1=>by
  refine BD.of_get fun p=>?_
  rw[iH]
  have:=CW hf hg i (iH f g i) (Af hf hg i) g.length p
  rw[ud]
  split at this<;>lia
def kH(hf:BD A f)(hg:BD B g):BD (f.length*(A*B)) (aX f g):=(Af hf hg f.length).trim
def G3(xs:aI)(k:Nat):BD 4 (nD xs k):=fun y hy=>by
 unfold nD at hy
 rcases aC.mp hy with rfl | hy
 ·lia
 ·rcases aC.mp hy with rfl | hy
  ·lia
  ·cases hy
def Ac(xs:aI)(k:Nat)(hf:BD A f)(hl:f.length<=9):∀n,n<=2->BD (A*52 ^ n) (tw (nD xs k) f n)
 |0,_=>by simpa [tw] using hf
 |n+1,hn=>by
  have h1:=Ac xs k hf hl n (by lia)
  have h2:=pf (nD xs k) f n
  have h3:(nD xs k).length=2:=rfl
  rw[h3] at h2
  rw[tw]
  refine(kH h1 (G3 xs k)).mono ?_
  have h4:(tw (nD xs k) f n).length<=13:=by lia
  have h5:=gn h4 (az (A*52 ^ n*4))
  rw[ue]
  have h6:13*(A*52 ^ n*4)=A*(52 ^ n*52):=by
   rw[<-IZ A]
   lia
  lia
def tz(xs:aI):∀k,k<=3->BD (3*2704 ^ k) (fV xs k)
 |0,_=>fun y hy=>by
  rw[fV] at hy
  rw[cJ.mp hy]
  unfold tN;split<;>lia
 |k+1,hk=>by
  have h1:=tz xs k (by lia)
  have h2:=j6 xs k
  have h3:=qg xs k
  rw[fV]
  refine(Ac xs k h1 (by lia) (jw xs k) h3).mono ?_
  rw[ue,<-IZ]
  refine gn (az _) ?_
  have h4:jw xs k=0\/jw xs k=1\/jw xs k=2:=by lia
  rcases h4 with e | e | e<;>rw[e]<;>decide
def tx(xs:aI):BD 60000000000 (gX xs):=by
 unfold gX
 have h:(xs.getD 1 0%4).toNat<=3:=by lia
 refine(tz xs _ h).mono ?_
 generalize (xs.getD 1 0%4).toNat=n at h
 have:n=0\/n=1\/n=2\/n=3:=by lia
 rcases this with rfl | rfl | rfl | rfl<;>decide
def kZ(xs:aI)(most:Int):BD 1000 (gQ xs most):=fun y hy=>by
 obtain⟨x,_,rfl⟩:=List.mem_map.mp (pk hy)
 obtain⟨h1,h2⟩:=qm xs
 have h3:=fc x (show(2*i9 xs+1:Int)≠0 by lia)
 have h4:=dN x (show(0:Int)<2*i9 xs+1 by lia)
 lia
def D8(c most:Int):BD 1000000000000000 (jO c most):=by
 unfold jO
 split
 ·exact(tx _).mono (by decide)
 ·split
  ·refine(kH (tx _) (kZ _ _)).mono ?_
   have:=j5 (bZ (aU c 22) (some 1) (some 5)++List.replicate 6 0)
   lia
  ·split
   ·refine(kH (kZ _ _) (kZ _ _)).mono ?_
    have h2:=fx (bZ (aU c 22) (some 1) none) 2
    rw[pR (jq c 22)] at h2
    lia
   ·exact(kZ _ _).mono (by decide)
def C0{S:aI}(h:ec S)(M3:S≠[]):gl S≠0:=by
 rcases h with e | ⟨ys,a,e,ha⟩
 ·exact absurd e M3
 ·subst e
  rw[v7]
  intro z
  have:=(Nat.gcd_eq_zero_iff.mp z).2
  lia
end My
namespace My
open PySem L2 L2.EV PyProof.Rows
variable {K:dq}
def em(q:Rat):D:=av [q.num,(q.den:Int)]
def AN{x:Int}(h:x.natAbs<2 ^ k):Builtin.Int.intBits x<=k:=by
 unfold Builtin.Int.intBits
 split
 ·exact gy _
 ·rename_i h0
  have:x.natAbs≠0:=by
   intro z
   apply h0
   simp at z ⊢
   lia
  exact(Nat.log2_lt this).mpr h
def fk{x y:Int}{k:Nat}(hk:k<=1000000)(hx:x.natAbs<2 ^ k)(hy:y.natAbs<2 ^ k):IntMulOk x y:=
 .of_bits (aZ (AN hx) (aZ hk (by decide))) (aZ (AN hy) (aZ hk (by decide)))
def fb(k:Nat)(q:Rat):Prop:=q.num.natAbs<2 ^ k/\q.den<2 ^ k
def Bv{a b:Int}(hb:b≠0):(b.sign:Int)=if b<0 then -1 else 1:=by
 split
 ·rename_i h;exact aN h
 ·exact aY (by lia)
def yV{a b:Int}(hb:b≠0):let g:Int:=((Nat.gcd a.natAbs b.natAbs:Nat):Int)
  let s:Int:=if b<0 then -g else g
  s≠0/\a.fdiv s=(Rat.divInt a b).num/\b.fdiv s=((Rat.divInt a b).den:Int):=by
 intro g s
 have hg:0<Nat.gcd a.natAbs b.natAbs:=jj _ (by lia)
 have Yu:(0:Int)<g:=by show(0:Int)<((Nat.gcd a.natAbs b.natAbs:Nat):Int);lia
 have da:g ∣ a:=Int.natAbs_dvd_natAbs.mp (by show(Int.natAbs ((Nat.gcd a.natAbs b.natAbs:Nat):Int)) ∣ _;rw[cK];exact lL _ _)
 have db:g ∣ b:=Int.natAbs_dvd_natAbs.mp (by show(Int.natAbs ((Nat.gcd a.natAbs b.natAbs:Nat):Int)) ∣ _;rw[cK];exact ia _ _)
 obtain⟨c,hc⟩:=da
 obtain⟨d,hd⟩:=db
 have e1:(Rat.divInt a b).num=b.sign*a / g:=by
  rw[Rat.num_divInt]
  show _=b.sign*a / ((Nat.gcd a.natAbs b.natAbs:Nat):Int)
  rw[ug];rfl
 have e2:((Rat.divInt a b).den:Int)=(b.natAbs:Int) / g:=by
  rw[Rat.den_divInt,ay hb]
  show((b.natAbs / Nat.gcd b.natAbs a.natAbs:Nat):Int)=(b.natAbs:Int) / ((Nat.gcd a.natAbs b.natAbs:Nat):Int)
  rw[ug];exact Int.natCast_ediv _ _
 have PJ:g≠0:=by lia
 rw[e1,e2]
 by_cases hn:b<0
 ·have hs:s=-g:=aB hn
  have sg:b.sign=-1:=aN hn
  have ab:(b.natAbs:Int)=-b:=by lia
  rw[hs,sg,ab]
  refine⟨by lia,?_,?_⟩
  ·rw[hc,show g*c=(-g)*(-c) by rw[Ff],bA _ (by lia),show -1*(-g * -c)=g*(-c) by rw[Ff,Ld,Int.neg_one_mul],jk _ PJ]
  ·rw[hd,show -(g*d)=g*(-d) by rw[Ld],jk _ PJ,show g*d=(-g)*(-d) by rw[Ff],bA _ (by lia)]
 ·have hs:s=g:=ay hn
  have sg:b.sign=1:=aY (by lia)
  have ab:(b.natAbs:Int)=b:=by lia
  rw[hs,sg,ab,wP]
  refine⟨PJ,?_,?_⟩
  ·rw[hc,bA _ PJ,jk _ PJ]
  ·rw[hd,bA _ PJ,jk _ PJ]
def sF(ds:cQ)(d:D):Prop:=∃(p q:Rat) (k:Nat),ds=[em p,em q]/\fb k p/\fb k q/\k<=1000000/\d=.bl (decide (p<q))
def Bo:∀ds d,sF ds d->ds.length=2:=by rintro _ _ ⟨p,q,k,rfl,_⟩;rfl
def iq(ds:cQ)(d:D):Prop:=∃a b:Int,ds=[.int a,.int b]/\b≠0/\d=em (Rat.divInt a b)
def v0:∀ds d,iq ds d->ds.length=2:=by rintro _ _ ⟨a,b,rfl,_⟩;rfl
def EH{xs:aI}{j:Nat}(h:j<xs.length):xs.getD j 0=xs[j]:=by rw[List.getD_eq_getElem?_getD,List.getElem?_eq_getElem h];rfl
def IG{xs:aI}{n:Nat}(h:n<xs.length):pU (xs.map D.int) (n:Int)=some (.int (xs.getD n 0)):=by
 rw[nv (by lia) (p8 n) h,EH h]
def oz(p:Rat):(p.den:Int)≠0:=by have:=p.den_nz;lia
def Nv(p:Rat):pU ([p.num,(p.den:Int)].map D.int) 0=some (.int p.num):=rfl
def yv(p:Rat):pU ([p.num,(p.den:Int)].map D.int) 1=some (.int (p.den:Int)):=rfl
def nu{b:Int}(hb:b≠0):(Rat.divInt a b).num.natAbs<=a.natAbs/\(Rat.divInt a b).den<=b.natAbs:=by
 constructor
 ·rw[Rat.num_divInt]
  refine aZ (Int.natAbs_ediv_le_natAbs _ _) ?_
  rw[bu,Bv (a:=a) hb]
  split<;>simp
 ·rw[Rat.den_divInt,ay hb]
  exact Nat.div_le_self _ _
def tv(k:Nat):0<2 ^ k:=l6 (by decide)
def lm{x y:Nat}(hx:x<2 ^ a)(hy:y<2 ^ b):x*y<2 ^ (a+b):=by
 rw[K8]
 exact bU (dU x (nM hy)) (FK hx (tv b))
def EY(h:DefX P w K mg base k wH (ai sk) X):
  Go X wH sk sF:=by
 rintro ds d ⟨p,q,n,rfl,hp,hq,hn,rfl⟩
 have t:=h.at'
 show Lr X [.val (em p),.val (em q)] _ _
 refine aD (bC (Lq.eq (Aw (aS (aJ (Lq.qt (ac t 0)) ag (Nv p)) (aJ (Lq.qt (ac t 1)) ag (yv q)) (fk hn hp.1 (by rw[cK];exact hq.2))) (aS (aJ (Lq.qt (ac t 1)) ag (Nv q)) (aJ (Lq.qt (ac t 0)) ag (yv p)) (fk hn hq.1 (by rw[cK];exact hp.2)))) ?_))
 congr 1
 exact decide_eq_decide.mpr (Rat.lt_iff p q).symm
def zp(h:DefX P w K mg base k oF (ai li) X)(MQ:mg "abs"=none):
  Go X oF li iq:=by
 rintro ds d ⟨a,b,rfl,hb,rfl⟩
 have t:=h.at'
 haveI:=h.Mg
 have bl:=h.bt MQ
 obtain⟨h0,h1,h2⟩:=yV (a:=a) hb
 show Lr X [.val (.int a),.val (.int b),.un,.un] _ _
 refine ao (rd t 2 3 (ox t bl (ac t 0)) (ox t bl (ac t 1)) (by decide)) ?_
 refine ao (mZ t (tQ (fun x y=>[.val (.int a),.val (.int b),.val (.int (x:Int)),.val (.int (y:Int))]) (fun x y=>?_) (fun x y hy=>?_) _ a.natAbs b.natAbs (az _))) ?_
 ·refine Lu.eq (AD (ac t 3) ag) ?_
  by_cases hy:y=0
  ·subst hy;rfl
  ·rw[aH (by lia)];simp;lia
 ·exact aD (rd t 2 3 (ac t 3) (Lq.eq (aW (i:=(x:Int)) (j:=(y:Int)) (ac t 2) (ac t 3) (by lia)) rfl) (by decide))
 refine ao (ρ':=[.val (.int a),.val (.int b),.val (.int (if b<0 then -((Nat.gcd a.natAbs b.natAbs:Nat):Int) else ((Nat.gcd a.natAbs b.natAbs:Nat):Int))),.val (.int 0)]) ?_ ?_
 ·by_cases hn:b<0
  ·refine fy (Lu.eq (tT (ac t 1) ag) (aH hn)) (Lr.eq (aD (bE t 2 (dz ag (ac t 2)))) ?_)
   rw[aB hn,Int.zero_sub];rfl
  ·refine dr (Lu.eq (tT (ac t 1) ag) (ap hn)) (Lr.eq bR ?_)
   rw[ay hn];rfl
 ·refine aD (bC (Lq.eq (aV (ae (tS t (ac t 0) (ac t 2) h0) (ae (tS t (ac t 1) (ac t 2) h0) ak))) ?_))
  rw[h1,h2];rfl
def rX(g:aI)(a:Int):Int:=((aL g).natAbs:Int).fdiv ((Nat.gcd a.natAbs (aL g).natAbs:Nat):Int)
def vt(g:aI)(a:Int):Int:=((aL g).sign*a).fdiv ((Nat.gcd a.natAbs (aL g).natAbs:Nat):Int)
def w8(g:aI)(n:Nat)(S:Nat->Int):Nat->Int:=fun i=>rX g (S n)*S i-(if n+1-g.length<=i then vt g (S n)*g.getD (i-(n+1-g.length)) 0 else 0)
def B3{g:aI}(hl:aL g≠0)(a:Int):∃c:Int,0<c/\aL g*aL g=c*rX g a/\a*aL g=c*vt g a:=by
 have hh:0<Nat.gcd a.natAbs (aL g).natAbs:=jj _ (by lia)
 obtain⟨u,hu⟩:=ia a.natAbs (aL g).natAbs
 obtain⟨v,hv⟩:=lL a.natAbs (aL g).natAbs
 unfold rX vt
 generalize Nat.gcd a.natAbs (aL g).natAbs=h at hh hu hv
 generalize aL g=l at hl hu
 have e1:((l.natAbs:Nat):Int).fdiv (h:Int)=(u:Int):=by
  rw[hu,ju,bA _ (by lia)]
 have e2:(l.sign*a).fdiv (h:Int)=l.sign*(a.sign*(v:Int)):=by
  have e:a=a.sign*((h:Int)*(v:Int)):=by
   rw[<-ju,<-hv];exact(nA a).symm
  have:l.sign*a=(h:Int)*(l.sign*(a.sign*(v:Int))):=by
   conv=>lhs;rw[e]
   grind
  rw[this,bA _ (by lia)]
 rw[e1,e2]
 have el:l=l.sign*((h:Int)*(u:Int)):=by
  rw[<-ju,<-hu];exact(nA l).symm
 have ea:a=a.sign*((h:Int)*(v:Int)):=by
  rw[<-ju,<-hv];exact(nA a).symm
 have es:l.sign*l.sign=1:=by
  rcases Int.lt_or_lt_of_ne hl with z | z
  ·rw[aN z];rfl
  ·rw[aY z];rfl
 have Ym:0<u:=by
  rcases Nat.eq_zero_or_pos u with z | z
  ·subst z;lia
  ·exact z
 refine⟨(h:Int)*((h:Int)*(u:Int)),Lc (by lia) (Lc (by lia) (by lia)),?_,?_⟩
 ·generalize hs:l.sign=s at el es
  rw[el]
  calc s*((h:Int)*u)*(s*((h:Int)*u))=(s*s)*(((h:Int)*u)*((h:Int)*u)):=by grind
   _=_:=by rw[es];grind
 ·generalize hs:l.sign=s at el es
  generalize ht:a.sign=r at ea
  rw[el,ea];grind
def FN{g:aI}(hl:aL g≠0)(a:Int):rX g a*a-vt g a*aL g=0:=by
 obtain⟨c,hc,e1,e2⟩:=B3 hl a
 have:c*(rX g a*a-vt g a*aL g)=0:=by
  have h1:c*(rX g a*a)=a*aL g*aL g:=by rw[<-yA,<-e1];grind
  have h2:c*(vt g a*aL g)=a*aL g*aL g:=by rw[<-yA,<-e2]
  rw[DZ,h1,h2];lia
 rcases Int.mul_eq_zero.mp this with z | z
 ·lia
 ·exact z
def qz{g:aI}{i:Nat}(h:g.length<=i):g.getD i 0=0:=by rw[List.getD_eq_getElem?_getD,List.getElem?_eq_none h];rfl
def jr{g:aI}(h:g≠[]):g.getD (g.length-1) 0=aL g:=by
 rcases eu g with e | ⟨ys,y,e⟩
 ·exact absurd e h
 ·subst e;simp[aL,List.getD_eq_getElem?_getD]
def Cg(xs:aI)(j:Nat)(v:Int)(p:Nat):(xs.set j v).getD p 0=if p=j/\j<xs.length then v else xs.getD p 0:=by
 rw[List.getD_eq_getElem?_getD,List.getElem?_set,List.getD_eq_getElem?_getD]
 by_cases h:j=p
 ·subst h
  by_cases h2:j<xs.length
  ·rw[aB rfl,aB h2,aB ⟨rfl,h2⟩];rfl
  ·rw[aB rfl,ay h2,ay (by lia),List.getElem?_eq_none (by lia)]
 ·rw[ay h,ay (by lia)]
def A0(xs:aI)(i:Nat):(di xs).getD i 0=xs.getD i 0:=by
 have key:∀ys:aI,∀i,(ys.dropWhile (· == 0)).reverse.getD i 0=ys.reverse.getD i 0:=by
  intro ys
  induction ys with
  |nil=>intro i;rfl
  |cons y ys ih=>
   intro i
   by_cases hy:y=0
   ·subst hy
    have:((0:Int)::ys).dropWhile (· == 0)=ys.dropWhile (· == 0):=by simp[List.dropWhile]
    rw[this,ih i,kE]
    rw[List.getD_eq_getElem?_getD,List.getD_eq_getElem?_getD]
    by_cases hi:i<ys.reverse.length
    ·rw[List.getElem?_append_left hi]
    ·rw[List.getElem?_append_right (by lia),List.getElem?_eq_none (by lia)]
     cases z:i-ys.reverse.length with
     |zero=>rfl
     |succ n=>rfl
   ·have:(y::ys).dropWhile (· == 0)=y::ys:=by rw[List.dropWhile_cons_of_neg (by simpa using hy)]
    rw[this]
 have:=key xs.reverse i
 rw[List.reverse_reverse] at this
 exact this
def qf(xs:aI):ec (di xs):=D1 xs
def CJ{φ:Int->Int}(h0:φ 0=0)(f:aI)(i:Nat):(f.map φ).getD i 0=φ (f.getD i 0):=by
 rw[List.getD_eq_getElem?_getD,List.getElem?_map,List.getD_eq_getElem?_getD]
 cases f[i]? with
 |none=>exact h0.symm
 |some x=>rfl
def D7{c:Int}(h:ec f)(hc:c≠0):ec (f.map fun x=>c*x):=by
 rcases h with e | ⟨ys,a,e,ha⟩
 ·left;subst e;rfl
 ·right;subst e
  exact⟨ys.map fun x=>c*x,c*a,by rw[bG];rfl,Int.mul_ne_zero hc ha⟩
def kI(g:aI)(s:Nat)(dn:Int)(r:aI):Nat->aI
 |0=>r
 |i+1=>(kI g s dn r i).set (s+i) ((kI g s dn r i).getD (s+i) 0-dn*g.getD i 0)
def jp(g:aI)(s:Nat)(dn:Int)(r:aI):∀i,(kI g s dn r i).length=r.length
 |0=>rfl
 |i+1=>by rw[kI,ck,jp]
def qj(g:aI)(s:Nat)(dn:Int)(r:aI):∀(p i:Nat),s+i<=r.length->(kI g s dn r i).getD p 0=r.getD p 0-(if s<=p/\p-s<i then dn*g.getD (p-s) 0 else 0)
 |p,0,_=>by rw[ay (by lia),Int.sub_zero];rfl
 |p,i+1,h=>by
  show((kI g s dn r i).set (s+i) _).getD p 0=_
  rw[Cg,jp]
  by_cases e:p=s+i
  ·subst e
   rw[aB ⟨rfl,by lia⟩,qj g s dn r (s+i) i (by lia),ay (by lia),aB (by lia),show s+i-s=i by lia]
   lia
  ·rw[ay (by lia),qj g s dn r p i (by lia)]
   by_cases z:s<=p/\p-s<i
   ·rw[aB z,aB (by lia)]
   ·rw[ay z,ay (by lia)]
def eY(g r:aI):aI:=(kI g (r.length-g.length) (vt g (aL r)) (r.map fun x=>rX g (aL r)*x) g.length).dropLast
def jD(g:aI):Nat->aI->aI
 |0,r=>r
 |n+1,r=>if n+1<g.length then r else jD g n (eY g r)
def vQ(g:aI):Nat->aI->aI->aI
 |0,q,_=>q
 |n+1,q,r=>if n+1<g.length then q else vQ g n (vt g (aL r)::q.map fun x=>rX g (aL r)*x) (eY g r)
def gz(g r:aI):(eY g r).length=r.length-1:=by unfold eY;rw[Lb,jp,ah]
def uL(xs:aI)(p:Nat):xs.dropLast.getD p 0=if p<xs.length-1 then xs.getD p 0 else 0:=by
 rw[List.getD_eq_getElem?_getD,List.getElem?_dropLast,List.getD_eq_getElem?_getD]
 split<;>rfl
def pE{g:aI}(hl:aL g≠0):g≠[]:=fun z=>by subst z;exact hl rfl
def sK{g r:aI}{n:Nat}(hl:aL g≠0)(hr:r.length=n+1)(hg:g.length<=n+1):(fun p=>(eY g r).getD p 0)=w8 g n fun p=>r.getD p 0:=by
 funext p
 have hp:=List.length_pos_iff.mpr (pE hl)
 have SA:r≠[]:=fun z=>by subst z;simp at hr
 have e1:r.getD n 0=aL r:=by have:=jr SA;rwa [hr] at this
 unfold eY w8
 simp only[]
 rw[uL,jp,ah,hr,qj _ _ _ _ _ _ (by rw[ah];lia),CJ (φ:=fun x=>rX g (aL r)*x) (nP _),e1]
 rcases Nat.lt_trichotomy p n with z | z | z
 ·rw[aB (by lia)]
  by_cases y:n+1-g.length<=p
  ·rw[aB ⟨y,by lia⟩,aB y]
  ·rw[ay (by lia),ay y]
 ·subst z
  rw[ay (by lia),aB (by lia),show p-(p+1-g.length)=g.length-1 by lia,jr (pE hl),e1]
  exact(FN hl _).symm
 ·rw[ay (by lia),aB (by lia),qz (g:=r) (i:=p) (by lia),qz (g:=g) (by lia)]
  grind
def pN(g:aI):∀(n:Nat) (r:aI),r.length=n->(jD g n r).length<=n
 |0,r,h=>by rw[jD];lia
 |n+1,r,h=>by
  unfold jD
  split
  ·lia
  ·have:=pN g n (eY g r) (by rw[gz];lia);lia
def xk(g:aI):∀(n:Nat) (q r:aI),(vQ g n q r).length<=n+q.length
 |0,q,r=>by rw[vQ];lia
 |n+1,q,r=>by
  unfold vQ
  split
  ·lia
  ·have:=xk g n (vt g (aL r)::q.map fun x=>rX g (aL r)*x) (eY g r)
   simp at this;lia
def bF(f g:aI):aI:=qr (di (jD g f.length f))
def kY(ds:cQ)(d:D):Prop:=∃a:Int,ds=[.int a]/\d=.int a.sign
def xF:∀ds d,kY ds d->ds.length=1:=by rintro _ _ ⟨a,rfl,_⟩;rfl
def mS(ds:cQ)(d:D):Prop:=∃r g:aI,ds=[bn r,av g]/\r≠[]/\aL g≠0/\d=.tup [.int (rX g (aL r)),.int (vt g (aL r))]
def uA:∀ds d,mS ds d->ds.length=2:=by rintro _ _ ⟨a,b,rfl,_⟩;rfl
def BB(k:Nat)(f:aI):Prop:=∀x∈f,x.natAbs<2 ^ k
def rq(f g:aI):Prop:=f.length<200/\g.length<200/\aL g≠0/\∃a b,BB a f/\BB b g/\a+(f.length+1-g.length)*(2*b+1)+b<=1000000
def qW(ds:cQ)(d:D):Prop:=∃f g:aI,ds=[av f,av g]/\rq f g/\d=.tup [av (di (vQ g f.length [] f)),av (di (jD g f.length f))]
def xI:∀ds d,qW ds d->ds.length=2:=by rintro _ _ ⟨a,b,rfl,_⟩;rfl
def qU(ds:cQ)(d:D):Prop:=∃f g:aI,ds=[av f,av g]/\rq f g/\d=av (bF f g)
def xG:∀ds d,qU ds d->ds.length=2:=by rintro _ _ ⟨a,b,rfl,_⟩;rfl
def BB.mono{j:Nat}(h:BB k f)(q:k<=j):BB j f:=fun x hx=>aE (h x hx) (bB (by decide) q)
def BB.get(h:BB k f)(i:Nat):(f.getD i 0).natAbs<2 ^ k:=by
 by_cases hi:i<f.length
 ·rw[pG hi];exact h _ (rV _)
 ·rw[qz (by lia)];exact l6 (by decide)
def BB.of_get{f:aI}(h:∀p,(f.getD p 0).natAbs<2 ^ k):BB k f:=fun x hx=>by
 obtain⟨i,hi,rfl⟩:=List.mem_iff_getElem.mp hx
 have:=h i
 rwa [pG hi] at this
def BB.last(h:BB k f):(aL f).natAbs<2 ^ k:=by
 by_cases hf:f=[]
 ·subst hf;exact l6 (by decide)
 ·rw[<-jr hf];exact h.get _
def BB.trim(h:BB k f):BB k (di f):=fun x hx=>h x (pk hx)
def GH{x y:Int}(hx:x.natAbs<2 ^ p)(hy:y.natAbs<2 ^ q)(hp:p<=1000000)(hq:q<=1000000):IntMulOk x y:=
 fk (k:=max p q) (by lia) (aE hx (bB (by decide) (by lia))) (aE hy (bB (by decide) (by lia)))
def km{x y:Int}(hx:x.natAbs<2 ^ p)(hy:y.natAbs<2 ^ q):(x*y).natAbs<2 ^ (p+q):=by
 rw[bu];exact lm hx hy
def uy{x y:Int}(hx:x.natAbs<2 ^ p)(hy:y.natAbs<2 ^ p):(x-y).natAbs<2 ^ (p+1):=by
 rw[ue];lia
def vF{g:aI}(hl:aL g≠0)(a:Int):(rX g a).natAbs<=(aL g).natAbs/\(vt g a).natAbs<=a.natAbs:=by
 have hh:0<Nat.gcd a.natAbs (aL g).natAbs:=jj _ (by lia)
 obtain⟨u,hu⟩:=ia a.natAbs (aL g).natAbs
 obtain⟨v,hv⟩:=lL a.natAbs (aL g).natAbs
 unfold rX vt
 generalize Nat.gcd a.natAbs (aL g).natAbs=h at hh hu hv
 generalize aL g=l at hl hu
 have e1:((l.natAbs:Nat):Int).fdiv (h:Int)=(u:Int):=by
  rw[hu,ju,bA _ (by lia)]
 have e2:(l.sign*a).fdiv (h:Int)=l.sign*(a.sign*(v:Int)):=by
  have e:a=a.sign*((h:Int)*(v:Int)):=by
   rw[<-ju,<-hv];exact(nA a).symm
  have:l.sign*a=(h:Int)*(l.sign*(a.sign*(v:Int))):=by
   conv=>lhs;rw[e]
   grind
  rw[this,bA _ (by lia)]
 rw[e1,e2,bu,bu,cK,cK]
 have s1:∀z:Int,z.sign.natAbs<=1:=fun z=>by
  rcases ib z 0 with y | y | y
  ·rw[aN y];decide
  ·rw[y];decide
  ·rw[aY y];decide
 have u1:u<=h*u:=uf u hh
 have v1:v<=h*v:=uf v hh
 have v2:a.sign.natAbs*v<=1*v:=cy v (s1 a)
 have v3:l.sign.natAbs*(a.sign.natAbs*v)<=1*(a.sign.natAbs*v):=cy _ (s1 l)
 lia
def u6{g r:aI}{n:Nat}(hl:aL g≠0)(hr:r.length=n+1)(hg:g.length<=n+1)(hb:BB b g)(hc:BB c r):BB (c+b+1) (eY g r):=by
 refine BB.of_get fun p=>?_
 rw[show(eY g r).getD p 0=w8 g n (fun p=>r.getD p 0) p from Hw (sK hl hr hg) p]
 unfold w8
 simp only[]
 obtain⟨u1,u2⟩:=vF hl (r.getD n 0)
 have h1:(rX g (r.getD n 0)).natAbs<2 ^ b:=bU u1 hb.last
 have h2:(vt g (r.getD n 0)).natAbs<2 ^ c:=bU u2 (hc.get n)
 have h3:=km h1 (hc.get p)
 rw[Kq b c] at h3
 refine uy h3 ?_
 split
 ·exact km h2 (hb.get _)
 ·exact l6 (by decide)
def AH{g:aI}(hl:aL g≠0)(hb:BB b g):∀(n c:Nat) (r:aI),r.length=n->BB c r->BB (c+(n+1-g.length)*(b+1)) (jD g n r)
 |0,c,r,hr,hc=>hc.mono (DR _ _)
 |n+1,c,r,hr,hc=>by
  unfold jD
  by_cases h:n+1<g.length
  ·rw[aB h];exact hc.mono (DR _ _)
  ·rw[ay h]
   have ih:=AH hl hb n (c+b+1) (eY g r) (by rw[gz];lia) (u6 hl hr (by lia) hb hc)
   refine ih.mono ?_
   rw[show n+1+1-g.length=(n+1-g.length)+1 by lia,ud]
   lia
def GK(h:BB k f):BB k (qr f):=fun x hx=>by
 unfold qr at hx
 obtain⟨y,hy,rfl⟩:=List.mem_map.mp hx
 have h1:=h y hy
 by_cases z:(gl f:Int)=0
 ·rw[z,Int.fdiv_zero];exact l6 (by decide)
 ·refine bU ?_ h1
  have hd:(gl f:Int) ∣ y:=by
   have key:∀(f:aI) (a:Nat),(f.foldl (fun g x=>Nat.gcd g x.natAbs) a ∣ a)/\∀x∈f,f.foldl (fun g x=>Nat.gcd g x.natAbs) a ∣ x.natAbs:=by
    intro f
    induction f with
    |nil=>intro a;exact⟨Nat.dvd_refl a,fun x hx=>by cases hx⟩
    |cons y f ih=>
     intro a
     obtain⟨h1,h2⟩:=ih (Nat.gcd a y.natAbs)
     refine⟨yy h1 (lL _ _),fun x hx=>?_⟩
     rcases aC.mp hx with rfl | hx
     ·exact yy h1 (ia _ _)
     ·exact h2 x hx
   exact Int.ofNat_dvd_left.mpr ((key f 0).2 _ hy)
  obtain⟨q,hq⟩:=hd
  rw[hq,bA _ z,bu]
  exact uf _ (by lia)
def vM{g:aI}(hl:aL g≠0)(ha:BB a f)(hb:BB b g):BB (a+(f.length+1-g.length)*(b+1)) (bF f g):=GK (AH hl hb f.length a f rfl ha).trim
def xR(g:aI)(R:aI->aI->eU)(hl:aL g≠0)(hb:BB b g)(h1:∀q r,r.length<200->Lu X (R q r) c (decide (g.length<=r.length)))(h2:∀q r e,q.length+r.length<200->g.length<=r.length->r≠[]->BB e r->BB e q->e+(2*b+1)+b<=1000000->Lr X (R q r) body (.nx (R (vt g (aL r)::q.map fun x=>rX g (aL r)*x) (eY g r)))):
  ∀(n:Nat) (q r:aI) (e:Nat),r.length=n->q.length+r.length<200->BB e r->BB e q->e+(n+1-g.length)*(2*b+1)+b<=1000000->∃m,qM X c body m (R q r) (.nx (R (vQ g n q r) (jD g n r)))
 |0,q,r,e,hr,hq,_,_,_=>⟨0,.stop (Lu.eq (h1 q r (by lia)) (ap (by have:=List.length_pos_iff.mpr (pE hl);lia)))⟩
 |n+1,q,r,e,hr,hq,er,eq,eb=>by
  unfold vQ jD
  by_cases h:n+1<g.length
  ·rw[aB h,aB h]
   exact⟨0,.stop (Lu.eq (h1 q r (by lia)) (ap (by lia)))⟩
  ·rw[ay h,ay h]
   rw[show n+1+1-g.length=(n+1-g.length)+1 by lia,ud] at eb
   generalize hk:(n+1-g.length)*(2*b+1)=kk at eb
   have RO:BB (e+(2*b+1)) (eY g r):=(u6 hl hr (by lia) hb er).mono (by lia)
   obtain⟨u1,u2⟩:=vF hl (aL r)
   have Xx:BB (e+(2*b+1)) (vt g (aL r)::q.map fun x=>rX g (aL r)*x):=by
    intro x hx
    rcases aC.mp hx with rfl | hx
    ·exact bU u2 (aE er.last (bB (by decide) (by lia)))
    ·obtain⟨y,hy,rfl⟩:=List.mem_map.mp hx
     exact aE (km (bU u1 hb.last) (eq y hy)) (bB (by decide) (by lia))
   obtain⟨m,w⟩:=xR g R hl hb h1 h2 n (vt g (aL r)::q.map fun x=>rX g (aL r)*x) (eY g r) (e+(2*b+1)) (by rw[gz];lia) (by rw[gz,dC,ah];lia) RO Xx (by rw[hk];lia)
   exact⟨m+1,.step (Lu.eq (h1 q r (by lia)) (aH (by lia))) (h2 q r e hq (by lia) (fun z=>by subst z;simp at hr) er eq (by lia)) w⟩
def BF(h:DefX P w K mg base k qP (ai m5) X):
  Go X qP m5 kY:=by
 rintro ds d ⟨a,rfl,rfl⟩
 have t:=h.at'
 show Lr X [.val (.int a)] _ _
 refine aD (bC (Lq.eq (EK (Dh (ac t 0) ag) (Aw (ac t 0) ag)) ?_))
 rcases ib a 0 with z | z | z
 ·rw[aH z,ap (by lia),aN z];rfl
 ·subst z;rfl
 ·rw[ap (show ¬a<0 by lia),aH z,aY z];rfl
def ye(h:DefX P w K mg base k mH (ai jU) X)(MQ:mg "abs"=none)(cG:Callee X "common_divisor" fZ)(cS:Callee X "sign_of" kY):
  Go X mH jU mS:=by
 rintro ds d ⟨r,g,rfl,hr,hl,rfl⟩
 have t:=h.at'
 haveI:=h.Mg
 have b1:=h.bt MQ
 have hg:=pE hl
 have hh:0<Nat.gcd (aL r).natAbs (aL g).natAbs:=jj _ (by lia)
 show Lr X [.val (bn r),.val (av g),.un] _ _
 refine ao (bE t 2 (ax t cG (ae (aJ (Lq.ql (ac t 0)) (ge ag) (iK hr)) (ae (aJ (Lq.qt (ac t 1)) (ge ag) (iK hg)) ak)) ⟨_,_,rfl,rfl⟩)) ?_
 refine aD (bC (aV (ae (tS t (ox t b1 (aJ (Lq.qt (ac t 1)) (ge ag) (iK hg))) (ac t 2) (by lia)) (ae (tS t (aS (ax t cS (ae (aJ (Lq.qt (ac t 1)) (ge ag) (iK hg)) ak) ⟨_,rfl,rfl⟩) (aJ (Lq.ql (ac t 0)) (ge ag) (iK hr)) ?_) (ac t 2) (by lia)) ak))))
 have:(aL g).sign=-1\/(aL g).sign=0\/(aL g).sign=1:=by
  rcases ib (aL g) 0 with z | z | z
  ·left;exact aN z
  ·right;left;rw[z];rfl
  ·right;right;exact aY z
 exact br (by lia) (by lia)
def BI(h:DefX P w K mg base k qS (ai kO) X)(NA:mg "list"=none)(LK:mg "len"=none)(Mm:mg "enumerate"=none)(cS:Callee X "step_down" mS)(cR:Callee X "row_of" pX):
  Go X qS kO qW:=by
 rintro ds d ⟨f,g,rfl,⟨hf,Yt,hl,a,b,ha,hb,Mn⟩,rfl⟩
 have t:=h.at'
 haveI:=h.Mg
 have b1:uT X (ai kO) "enumerate" (.type "enumerate"):=zm (by rw[h.Na];exact Mm) rfl (by decide)
 have b2:=h.bt LK
 have b3:=h.bt NA
 have hg:=pE hl
 show Lr X [.val (av f),.val (av g),.un,.un,.un,.un,.un,.un,.un] _ _
 refine ao (dr (ij t (Lq.p (ac t 1)) (Lq.p (d:=av []) (aV ak)) (bb _) (bb _) (by rw[fY,ap hg])) bR) ?_
 refine ao (rd t 2 3 (LQ.Mi (dZ ak)) (LQ.Mi (wg t b3 (Lq.qt (ac t 0)))) (by decide)) ?_
 refine ao (ρ':=[.val (av f),.val (av g),.val (bn (vQ g f.length [] f)),.val (bn (jD g f.length f)),.un,.un,.un,.un,.un]) (mZ t (xR g (b:=b) (hl:=hl) (hb:=hb) (fun q r=>[.val (av f),.val (av g),.val (bn q),.val (bn r),.un,.un,.un,.un,.un]) (fun q r hr=>?_) (fun q r e hq hr M3 er eq ee=>?_) f.length [] f a rfl (by simpa using hf) ha (fun x hx=>by cases hx) Mn)) ?_
 ·refine Lu.eq (pL (eC t b2 (Lq.ql (ac t 3))) (eC t b2 (Lq.qt (ac t 1)))) ?_
  rw[ah,ah]
  by_cases z:g.length<=r.length
  ·rw[aH z,aH (by lia)]
  ·rw[ap z,ap (by lia)]
 ·obtain⟨Vy,O6⟩:=vF hl (aL r)
  have us:=bU Vy hb.last
  have UG:=bU O6 er.last
  generalize hu:rX g (aL r)=u at us
  generalize hd:vt g (aL r)=dn at UG
  refine Lr.weak (ρ1:=[.val (av f),.val (av g),.val (bn (dn::q.map fun x=>u*x)),.val (bn (eY g r)),.val (.int u),.val (.int dn),.val (.int ((r.length-g.length:Nat):Int)),.un,.un]) ?_ (.keep (.keep (.keep (.keep (.forget (.forget (.forget (.keep (.keep .nil)))))))))
  refine ao (re t (d:=.tup [.int u,.int dn]) (ax t cS (ae (ac t 3) (ae (ac t 1) ak)) ⟨r,g,rfl,M3,hl,by rw[hu,hd]⟩) (mC t (dL (bj t 4) (dL (bj t 5) jg)))) ?_
  refine ao (bE t 6 (Lq.eq (dz (eC t b2 (Lq.ql (ac t 3))) (eC t b2 (Lq.qt (ac t 1)))) (show _=D.int ((r.length-g.length:Nat):Int) by rw[ah,ah];congr 1;lia))) ?_
  refine ao (A5 (rs:=(r.map fun x=>u*x).map D.int) t 3 ["f", "g", "quotient", "rest", "up", "down", "shift", "power", "", "number"] (Dw (by decide)) (iV (ac t 3)) (by rw[ah];exact gH (by lia)) fun X' cx=>?_) ?_
  ·have t':=cx.at'
   exact LO.ints (fun x=>u*x) (fun x=>[.val (av f),.val (av g),.val (bn q),.val (bn r),.val (.int u),.val (.int dn),.val (.int ((r.length-g.length:Nat):Int)),.un,.un,.val (.int x)]) (fun d hd=>c9 t' 9) (fun d hd e he=>c9 t' 9) fun d hd=>
    aS (ac t' 4 rfl) (ac t' 9 rfl) (GH us (er d hd) (by lia) (by lia))
  refine ao (ρ':=[.val (av f),.val (av g),.val (bn q),.own ((kI g (r.length-g.length) dn (r.map fun x=>u*x) g.length).map D.int),.val (.int u),.val (.int dn),.val (.int ((r.length-g.length:Nat):Int)),.un,.un]) (fC t (wl t b1 (ac t 1)) (LB.LJ (fun i=>[.val (av f),.val (av g),.val (bn q),.own ((kI g (r.length-g.length) dn (r.map fun x=>u*x) i).map D.int),.val (.int u),.val (.int dn),.val (.int ((r.length-g.length:Nat):Int)),.un,.un]) (fun i d hi=>?_) rfl ?_)) ?_
  ·obtain⟨e',he,rfl⟩:=nk hi
   rw[List.getElem?_map] at he
   cases hy:g[i]? with
   |none=>rw[hy] at he;cases he
   |some y=>
   rw[hy] at he;cases he
   have Nr:i<g.length:=(List.getElem?_eq_some_iff.mp hy).1
   have ey:g.getD i 0=y:=by rw[List.getD_eq_getElem?_getD,hy];rfl
   have Uc:=hb y (List.mem_of_getElem? hy)
   have hlen:(kI g (r.length-g.length) dn (r.map fun x=>u*x) i).length=r.length:=by rw[jp,ah]
   have Mj:r.length-g.length+i<(kI g (r.length-g.length) dn (r.map fun x=>u*x) i).length:=by lia
   refine⟨_,wm t 7 8,Lr.weak (aD (u8 (j:=r.length-g.length+i) (u:=(kI g (r.length-g.length) dn (r.map fun x=>u*x) i).getD (r.length-g.length+i) 0) t 3 xK rfl (bO (ac t 6) (ac t 7)) ?_ ?_ (aS (ac t 5) (ac t 8) (GH UG Uc (by lia) (by lia))) trivial)) ?_⟩
   ·rw[ah];exact v5 (by lia) (by lia) (by lia)
   ·rw[List.getElem?_map,List.getD_eq_getElem?_getD,List.getElem?_eq_getElem Mj];rfl
   ·rw[kI,Ks,ey]
    exact .keep (.keep (.keep (.keep (.keep (.keep (.keep (.forget (.forget .nil))))))))
  ·rw[nj,ah]
  refine ao (ρ':=[.val (av f),.val (av g),.val (bn q),.own ((eY g r).map D.int),.val (.int u),.val (.int dn),.val (.int ((r.length-g.length:Nat):Int)),.un,.un]) (Mt.eq (Fp t 3 rfl (fun z=>M3 (cz (by have:=c8 List.length z;rw[ah,jp,ah] at this;exact this)))) ?_) ?_
  ·unfold eY
   rw[List.map_dropLast,hu,hd];rfl
  refine ao (bE t 2 (Lq.eq (LQ.Mi (wj (LQ.Mi (dZ (ae (ac t 5) ak))) (Lq.eq (d':=bn (q.map fun x=>u*x)) (LQ.Mi (iC t ["f", "g", "quotient", "rest", "up", "down", "shift", "power", "", "number"] (Dw (by decide)) (iV (ac t 2)) (by rw[ah];exact gH (by lia)) fun X' cx=>?_)) rfl) ?_)) (show _=bn (dn::q.map fun x=>u*x) from rfl))) (fX 3 rfl bR)
  ·have t':=cx.at'
   exact LO.ints (fun x=>u*x) (fun x=>[.val (av f),.val (av g),.val (bn q),.own ((eY g r).map D.int),.val (.int u),.val (.int dn),.val (.int ((r.length-g.length:Nat):Int)),.un,.un,.val (.int x)]) (fun d hd=>c9 t' 9) (fun d hd e he=>c9 t' 9) fun d hd=>
    aS (ac t' 4 rfl) (ac t' 9 rfl) (GH us (eq d hd) (by lia) (by lia))
  ·have:=xE
   rw[ah,ah]
   show 1+q.length<=_
   lia
 ·have l1:=xk g f.length [] f
  have l2:=pN g f.length f rfl
  exact aD (bC (aV (ae (ax t cR (ae (ac t 2) ak) ⟨vQ g f.length [] f,rfl,by simp at l1;lia,rfl⟩) (ae (ax t cR (ae (ac t 3) ak) ⟨jD g f.length f,rfl,by lia,rfl⟩) ak))))
def BG(h:DefX P w K mg base k qQ (ai m6) X)(cL:Callee X "put_low" qV)(cD:Callee X "divided" qW):
  Go X qQ m6 qU:=by
 rintro ds d ⟨f,g,rfl,LA,rfl⟩
 have t:=h.at'
 have l2:=pN g f.length f rfl
 have l3:=gP (jD g f.length f)
 have l4:=LA.1
 show Lr X [.val (av f),.val (av g)] _ _
 exact aD (bC (ax t cL (ae (aJ (d:=av (di (jD g f.length f))) (Lq.qt (ax t cD (ae (ac t 0) (ae (ac t 1) ak)) ⟨f,g,rfl,LA,rfl⟩)) ag rfl) ak) ⟨di (jD g f.length f),rfl,by lia,C0 (qf _),rfl⟩))
def CL(h:ec f)(M3:f≠[]):aL (qr f)≠0:=by
 rcases h with e | ⟨ys,a,e,ha⟩
 ·exact absurd e M3
 ·subst e
  have hd:((gl (ys++[a]):Nat):Int) ∣ a:=by rw[v7];exact Int.ofNat_dvd_left.mpr (ia _ _)
  have hg:((gl (ys++[a]):Nat):Int)≠0:=by
   have:=C0 (S:=ys++[a]) (.inr ⟨ys,a,rfl,ha⟩) (by simp)
   lia
  unfold qr
  rw[bG]
  obtain⟨k,hk⟩:=hd
  generalize ((gl (ys++[a]):Nat):Int)=G at hk hg
  have:aL (List.map (fun x=>x.fdiv G) ys++List.map (fun x=>x.fdiv G) [a])=a.fdiv G:=by simp[aL]
  rw[this,hk,bA _ hg]
  intro z
  rw[z,nP] at hk
  exact ha hk
def Io(h:ec f):ec (qr f):=by
 by_cases M3:f=[]
 ·subst M3;exact .inl rfl
 ·right
  have h0:=CL h M3
  rcases eu (qr f) with e | ⟨ys,y,e⟩
  ·exfalso;apply M3;apply cz;rw[<-xD,e];rfl
  ·rw[fB] at e
   refine⟨ys,y,e,?_⟩
   rw[e] at h0
   simpa [aL] using h0
def mj(f g:aI):ec (bF f g):=Io (qf _)
def tX{g:aI}:∀(n:Nat) (r:aI),r.length=n->g≠[]->(jD g n r).length<g.length\/(jD g n r).length<g.length
 |0,r,hr,hg=>.inl (by show r.length<_;have:=List.length_pos_iff.mpr hg;lia)
 |n+1,r,hr,hg=>by
  unfold jD
  by_cases h:n+1<g.length
  ·rw[aB h];exact .inl (by lia)
  ·rw[ay h];exact tX n _ (by rw[gz];lia) hg
def kQ{g:aI}(hg:g≠[]):(bF f g).length<g.length:=by
 unfold bF
 rw[xD]
 have h1:=gP (jD g f.length f)
 have h2:=tX (g:=g) f.length f rfl hg
 lia
def dP(h:ec g)(hg:g≠[]):aL g≠0:=by
 rcases h with e | ⟨ys,a,e,ha⟩
 ·exact absurd e hg
 ·subst e;simpa [aL] using ha
def qY(f g:aI):(aX f g).length<=f.length+g.length-1:=by
 by_cases hf:f=[]
 ·subst hf;rw[u4];exact gy _
 by_cases hg:g=[]
 ·subst hg;rw[sJ];exact gy _
 rw[<-sI hf hg]
 have:=gP (lU f g f.length)
 rw[mn] at this
 exact this
def mX(h:BD M f)(hk:M<2 ^ k):BB k f:=fun x hx=>bU (h x hx) hk
def xt(l:Nat):Nat:=[322172,133448,55276,22896,9484,3928,1628,672,284,104].getD l 104
def Nw(f g:aI):Prop:=ec f/\ec g/\f.length<=9/\∃A B,BB A f/\BB B g/\((A+1<=104/\B+1<=104/\g.length<=9)\/(A+1<=xt f.length/\B+1<=xt (f.length-1)/\g.length<f.length))
def Kx:∀lf,lf<10->∀l,l<lf->1<=l->xt lf+(lf+1-l)*(2*xt (lf-1))+xt (lf-1)<=1000000/\xt lf+(lf+1-l)*xt (lf-1)<=xt (l-1)/\xt (lf-1)<=xt l:=by decide
def Kw:∀lf,lf<10->∀l,l<10->1<=l->104+(lf+1-l)*104<=xt (l-1)/\104<=xt l/\104+(lf+1-l)*208+104<=1000000:=by decide
def Nw.div(h:Nw f g)(hg:g≠[]):rq f g:=by
 obtain⟨rf,rg,lf,A,B,hA,hB,hc⟩:=h
 have lg:=dP rg hg
 have gp:=List.length_pos_iff.mpr hg
 rcases hc with⟨a,b,l9⟩ | ⟨a,b,ll⟩
 ·have:=Kw f.length (by lia) g.length (by lia) gp
  have m:=dU (f.length+1-g.length) (show 2*B+1<=208 by lia)
  exact⟨by lia,by lia,lg,A,B,hA,hB,by lia⟩
 ·have:=Kx f.length (by lia) g.length ll gp
  have m:=dU (f.length+1-g.length) (show 2*B+1<=2*xt (f.length-1) by lia)
  exact⟨by lia,by lia,lg,A,B,hA,hB,by lia⟩
def Nw.next(h:Nw f g)(hg:g≠[]):Nw g (bF f g):=by
 obtain⟨rf,rg,lf,A,B,hA,hB,hc⟩:=h
 have lg:=dP rg hg
 have gp:=List.length_pos_iff.mpr hg
 have hr:=kQ (f:=f) hg
 have rb:=vM lg hA hB
 rcases hc with⟨a,b,l9⟩ | ⟨a,b,ll⟩
 ·have:=Kw f.length (by lia) g.length (by lia) gp
  have m:=dU (f.length+1-g.length) (show B+1<=104 by lia)
  exact⟨rg,mj f g,by lia,B,_,hB,rb,.inr ⟨by lia,by lia,hr⟩⟩
 ·have:=Kx f.length (by lia) g.length ll gp
  have m:=dU (f.length+1-g.length) b
  exact⟨rg,mj f g,by lia,B,_,hB,rb,.inr ⟨by lia,by lia,hr⟩⟩
def Nw.start(rf:ec f)(rg:ec g)(lf:f.length<=9)(lg:g.length<=9)(hf:BB 103 f)(hg:BB 103 g):Nw f g:=⟨rf,rg,lf,103,103,hf,hg,.inl ⟨by decide,by decide,lg⟩⟩
def A2(t b:Int):aI->Int
 |[]=>0
 |c::s=>A2 t b s*t+c*b ^ s.length
def Ab{b:Int}(hb:b.natAbs<2 ^ h)(i:Nat):(b ^ i).natAbs<=2 ^ (h*i):=by
 rw[Int.natAbs_pow,Nat.pow_mul]
 exact Nat.pow_le_pow_left (nM hb) i
def sr{b:Int}{K:Nat}(hb:b.natAbs<2 ^ h)(i:Nat)(hK:h*i<K):(b ^ i).natAbs<2 ^ K:=
 bU (Ab hb i) (Nat.pow_lt_pow_right (by decide) hK)
def Ca{t b:Int}(ht:t.natAbs<2 ^ h)(hb:b.natAbs<2 ^ h):∀(s:aI),(∀x∈s,x.natAbs<2 ^ m)->(A2 t b s).natAbs<2 ^ (m+(h+1)*s.length)
 |[],_=>by show(0:Int).natAbs<_;exact tv _
 |c::s,hs=>by
  have ih:=Ca ht hb s fun x hx=>hs x (aj _ hx)
  have hc:=hs c aT
  show(A2 t b s*t+c*b ^ s.length).natAbs<2 ^ (m+(h+1)*(s.length+1))
  have e1:=lm ih ht
  have e2:c.natAbs*(b ^ s.length).natAbs<2 ^ (m+h*s.length):=by
   rw[K8]
   exact bU (dU _ (Ab hb s.length)) (FK hc (tv _))
  have e0:(h+1)*s.length=h*s.length+s.length:=by rw[Nat.add_mul,Nat.one_mul]
  have e3:2 ^ (m+h*s.length)<=2 ^ (m+(h+1)*s.length+h):=bB (by decide) (by lia)
  have e4:2 ^ (m+(h+1)*(s.length+1))=2 ^ (m+(h+1)*s.length+h)+2 ^ (m+(h+1)*s.length+h):=by
   rw[show m+(h+1)*(s.length+1)=m+(h+1)*s.length+h+1 by rw[Nat.mul_add];lia,ue];lia
  have e5:=BU (A2 t b s*t) (c*b ^ s.length)
  rw[bu,bu] at e5
  lia
structure NY(f:aI)(q:Rat):Prop where
 len:f.length<=12
 bd:∀x∈f,x.natAbs<2 ^ 330000
 fr:fb 100 q
def NY.den{q:Rat}(v:NY f q):((q.den:Int)).natAbs<2 ^ 100:=by rw[cK];exact v.fr.2
def NY.sv{q:Rat}(v:NY f q):(A2 q.num q.den f).natAbs<2 ^ 340000:=
 aE (Ca v.fr.1 v.den f v.bd) (bB (by decide) (by have:=v.len;lia))
def NY.drop{q:Rat}(v:NY f q)(n:Nat):NY (f.drop n) q:=⟨by rw[dB];have:=v.len;lia,fun x hx=>v.bd x (List.mem_of_mem_drop hx),v.fr⟩
def nQ{x:Nat}{k:Nat}(h:x<2 ^ j)(hk:j<=k):x<2 ^ k:=aE h (bB (by decide) hk)
def jJ(ds:cQ)(d:D):Prop:=∃(f:aI) (q:Rat),ds=[av f,em q]/\NY f q/\d=.int (A2 q.num q.den f)
def qu:∀ds d,jJ ds d->ds.length=2:=by rintro _ _ ⟨f,q,rfl,_⟩;rfl
def dy(f:aI):aI:=f.map fun x=>-x
def kT(f:aI):(dy f).length=f.length:=ah _
def tG(h:ec f):ec (dy f):=by
 have e:dy f=f.map fun x=>(-1)*x:=yt fun x _=>by lia
 rw[e];exact D7 h (by decide)
def yP(h:BB k f):BB k (dy f):=fun x hx=>by
 obtain⟨y,hy,rfl⟩:=List.mem_map.mp hx
 rw[Int.natAbs_neg];exact h y hy
def Nw.neg(h:Nw f g):Nw f (dy g):=by
 obtain⟨rf,rg,lf,A,B,hA,hB,hc⟩:=h
 exact⟨rf,tG rg,lf,A,B,hA,yP hB,by rw[kT];exact hc⟩
def CB(f:aI):Prop:=f≠[]/\f.length<=12/\BB 330000 f
def KO:∀l,xt l<=322172:=fun l=>by
 rcases Nat.lt_or_ge l 10 with h | h
 ·have:∀l,l<10->xt l<=322172:=by decide
  exact this l h
 ·unfold xt
  rw[List.getD_eq_getElem?_getD,List.getElem?_eq_none (by simpa using h)]
  decide
def Nw.Vl(h:Nw f g)(hg:g≠[]):CB g:=by
 obtain⟨rf,rg,lf,A,B,hA,hB,hc⟩:=h
 have:=KO (f.length-1)
 rcases hc with⟨a,b,l⟩ | ⟨a,b,l⟩
 ·exact⟨hg,by lia,hB.mono (by lia)⟩
 ·exact⟨hg,by lia,hB.mono (by lia)⟩
def cf:Nat->aI->aI->List aI
 |0,_,_=>[]
 |n+1,a,l=>if l=[] then [] else l::cf n l (dy (bF a l))
def fA(f g:aI):List aI:=f::cf (g.length+1) f g
def pF:Nat->aI->aI->aI
 |0,a,_=>a
 |n+1,a,l=>if l=[] then a else pF n l (dy (bF a l))
def t4:∀(n:Nat) (a l:aI),Nw a l->∀x∈cf n a l,CB x
 |0,a,l,_,x,hx=>by cases hx
 |n+1,a,l,h,x,hx=>by
  unfold cf at hx
  by_cases hl:l=[]
  ·rw[aB hl] at hx;cases hx
  ·rw[ay hl] at hx
   rcases aC.mp hx with rfl | hx
   ·exact h.Vl hl
   ·exact t4 n l _ (h.next hl).neg x hx
def rm:∀(n:Nat) (a l:aI),(cf n a l).length<=n
 |0,a,l=>az _
 |n+1,a,l=>by
  unfold cf
  split
  ·exact gy _
  ·have:=rm n l (dy (bF a l));simp;lia
def oA(R:List aI->aI->aI->eU)(h1:∀dn a l,Lu X (R dn a l) c (!decide (l=[])))(h2:∀dn a l,l≠[]->rq a l->l.length<=12->dn.length<100->Lr X (R dn a l) body (.nx (R (dn++[l]) l (dy (bF a l))))):
  ∀(n:Nat) (dn:List aI) (a l:aI),l.length<n->Nw a l->dn.length+n<100->∃m,qM X c body m (R dn a l) (.nx (R (dn++cf n a l) (pF n a l) []))
 |0,dn,a,l,hn,_,_=>by lia
 |n+1,dn,a,l,hn,hi,hd=>by
  unfold cf pF
  by_cases hl:l=[]
  ·subst hl
   rw[aB rfl,aB rfl,jt]
   exact⟨0,.stop (Lu.eq (h1 dn a []) rfl)⟩
  ·rw[ay hl,ay hl]
   have hr:=kQ (f:=a) hl
   obtain⟨m,w⟩:=oA R h1 h2 n (dn++[l]) l (dy (bF a l)) (by rw[kT];lia) (hi.next hl).neg (by simp;lia)
   rw[p7,List.singleton_append] at w
   exact⟨m+1,.step (Lu.eq (h1 dn a l) (by rw[ap hl];rfl)) (h2 dn a l hl (hi.div hl) (hi.Vl hl).2.1 (by lia)) w⟩
structure Lg(f g:aI):Prop where
 rf:ec f
 rg:ec g
 lf:f.length<=9
 l1:10<=g.length
 l2:g.length<=12
 bf:BB 43 f
 bg:BB 103 g
def Ea(f g:aI):(bF f g).length<=f.length:=by
 unfold bF qr
 rw[ah]
 exact aZ (gP _) (pN g f.length f rfl)
def Lg.ne(h:Lg f g):g≠[]:=fun z=>by have:=h.l1;rw[z] at this;simp at this
def Lg.div(h:Lg f g):rq f g:=by
 have:=h.lf;have:=h.l1;have:=h.l2
 refine⟨by lia,by lia,dP h.rg h.ne,43,103,h.bf,h.bg,?_⟩
 rw[show f.length+1-g.length=0 by lia];lia
def Lg.b1(h:Lg f g):BB 43 (dy (bF f g)):=by
 have:=h.lf;have:=h.l1
 have r:=vM (dP h.rg h.ne) h.bf h.bg
 rw[show f.length+1-g.length=0 by lia] at r
 exact yP r
def Lg.Ob(h:Lg f g):(dy (bF f g)).length<=9:=by
 rw[kT];have:=Ea f g;have:=h.lf;lia
def Lg.To(h:Lg f g)(hn:dy (bF f g)≠[]):rq g (dy (bF f g)):=by
 have:=h.l2;have:=h.Ob
 refine⟨by lia,by lia,dP (tG (mj f g)) hn,103,43,h.bg,h.b1,?_⟩
 have:(g.length+1-(dy (bF f g)).length)*(2*43+1)<=13*87:=gn (by lia) (by lia)
 lia
def KN:∀l,l<10->1<=l->104+(13-l)*44<=xt (l-1)/\44<=xt l:=by decide
def Lg.sin(h:Lg f g)(hn:dy (bF f g)≠[]):Nw (dy (bF f g)) (dy (bF g (dy (bF f g)))):=by
 have l9:=h.Ob
 have gp:=List.length_pos_iff.mpr hn
 have l2:=h.l2
 have rb:=vM (dP (tG (mj f g)) hn) h.bg h.b1
 have x:=KN (dy (bF f g)).length (by lia) gp
 have m:=cy 44 (show g.length+1-(dy (bF f g)).length<=13-(dy (bF f g)).length by lia)
 refine⟨tG (mj f g),tG (mj _ _),l9,43,_,h.b1,yP rb,.inr ⟨by lia,by lia,?_⟩⟩
 rw[kT];exact kQ hn
def Ip(h:Lg f g):∀n,∀x∈cf (n+2) f g,CB x:=by
 intro n x hx
 have hg:=h.ne
 unfold cf at hx
 rw[ay hg] at hx
 rcases aC.mp hx with rfl | hx
 ·exact⟨hg,h.l2,h.bg.mono (by decide)⟩
 ·unfold cf at hx
  by_cases hn:dy (bF f g)=[]
  ·rw[aB hn] at hx;cases hx
  ·rw[ay hn] at hx
   rcases aC.mp hx with rfl | hx
   ·exact⟨hn,by have:=h.Ob;lia,h.b1.mono (by decide)⟩
   ·exact t4 n _ _ (h.sin hn) x hx
def xY{a l:aI}(R:List aI->aI->aI->eU)(h1:∀dn a l,Lu X (R dn a l) c (!decide (l=[])))(h2:∀dn a l,l≠[]->rq a l->l.length<=12->dn.length<100->Lr X (R dn a l) body (.nx (R (dn++[l]) l (dy (bF a l)))))(dn:List aI)(hi:Lg a l)(n:Nat)(hn:9<=n)(hd:dn.length+n+2<100):
  ∃m,qM X c body m (R dn a l) (.nx (R (dn++cf (n+2) a l) (pF (n+2) a l) [])):=by
 have hl:=hi.ne
 unfold cf pF
 rw[ay hl,ay hl]
 have s1:=h2 dn a l hl hi.div hi.l2 (by lia)
 by_cases hm:dy (bF a l)=[]
 ·refine⟨1,.step (Lu.eq (h1 dn a l) (by rw[ap hl];rfl)) s1 ?_⟩
  rw[hm]
  exact .stop (Lu.eq (h1 _ _ []) rfl)
 ·have s2:=h2 (dn++[l]) l (dy (bF a l)) hm (hi.To hm) (by have:=hi.Ob;lia) (by simp;lia)
  have hr:=kQ (f:=l) hm
  have l9:=hi.Ob
  obtain⟨m,w⟩:=oA R h1 h2 n (dn++[l]++[dy (bF a l)]) (dy (bF a l)) (dy (bF l (dy (bF a l)))) (by rw[kT];lia) (hi.sin hm) (by simp;lia)
  refine⟨m+2,.step (Lu.eq (h1 dn a l) (by rw[ap hl];rfl)) s1 (.step (Lu.eq (h1 _ _ _) (by rw[ap hm];rfl)) s2 ?_)⟩
  have e:dn++(l::cf (n+1) l (dy (bF a l)))=dn++[l]++[dy (bF a l)]++cf n (dy (bF a l)) (dy (bF l (dy (bF a l)))):=by
   show dn++(l::(if dy (bF a l)=[] then [] else dy (bF a l)::cf n (dy (bF a l)) (dy (bF l (dy (bF a l))))))=_
   rw[ay hm];simp
  have e2:pF (n+1) l (dy (bF a l))=pF n (dy (bF a l)) (dy (bF l (dy (bF a l)))):=by
   show(if dy (bF a l)=[] then l else _)=_
   rw[ay hm]
  rw[e,e2];exact w
def Np(f g:aI):Prop:=(Nw f g/\g.length<=9)\/Lg f g
def Np.Qu(h:Np f g):f.length<=9/\g.length<=12:=by
 rcases h with⟨h,l⟩ | h
 ·exact⟨h.2.2.1,by lia⟩
 ·exact⟨h.lf,h.l2⟩
def xZ{a l:aI}(R:List aI->aI->aI->eU)(h1:∀dn a l,Lu X (R dn a l) c (!decide (l=[])))(h2:∀dn a l,l≠[]->rq a l->l.length<=12->dn.length<100->Lr X (R dn a l) body (.nx (R (dn++[l]) l (dy (bF a l)))))(dn:List aI)(hi:Np a l)(hd:dn.length<50):
  ∃m,qM X c body m (R dn a l) (.nx (R (dn++cf (l.length+1) a l) (pF (l.length+1) a l) [])):=by
 rcases hi with⟨hi,l9⟩ | hi
 ·exact oA R h1 h2 (l.length+1) dn a l (by lia) hi (by lia)
 ·have:=hi.l1;have:=hi.l2
  obtain⟨n,hn⟩:∃n,l.length+1=n+2:=⟨l.length-1,by lia⟩
  rw[hn];exact xY R h1 h2 dn hi n (by lia) (by lia)
def Np.Yd(h:Np f g):∀x∈cf (g.length+1) f g,CB x:=by
 rcases h with⟨h,_⟩ | h
 ·exact t4 _ _ _ h
 ·have:=h.l1
  obtain⟨n,hn⟩:∃n,g.length+1=n+2:=⟨g.length-1,by lia⟩
  rw[hn];exact Ip h n
def lK(ds:cQ)(d:D):Prop:=∃i:Int,ds=[.int i]/\d=.int i
def tM:∀ds d,lK ds d->ds.length=1:=by rintro _ _ ⟨a,rfl,_⟩;rfl
def mR(ds:cQ)(d:D):Prop:=∃f:aI,ds=[av f]/\f.length<1000/\d=av f
def uz:∀ds d,mR ds d->ds.length=1:=by rintro _ _ ⟨a,rfl,_⟩;rfl
def oI(ds:cQ)(d:D):Prop:=∃f g:aI,ds=[av f,av g]/\f≠[]/\Np f g/\d=.lst ((fA f g).map av)
def vY:∀ds d,oI ds d->ds.length=2:=by rintro _ _ ⟨a,b,rfl,_⟩;rfl
def fj(f:aI):Int:=if f.length%2=0 then -(aL f).sign else (aL f).sign
def rZ(f:aI):Int:=(aL f).sign
def sU(q:Rat)(f:aI):Int:=(A2 q.num q.den f).sign
inductive zV:D->(aI->Int)->Prop where
 |low:zV (.str "low") fj
 |high:zV (.str "high") rZ
 |fr (q:Rat):fb 100 q->zV (em q) (sU q)
def fE(ds:cQ)(d:D):Prop:=∃(f:aI) (q:Rat),ds=[av f,em q]/\NY f q/\d=.int (sU q f)
def pA:∀ds d,fE ds d->ds.length=2:=by rintro _ _ ⟨f,q,rfl,_⟩;rfl
def kz(ds:cQ)(d:D):Prop:=∃(f:aI) (at':D) (s:aI->Int),ds=[av f,at']/\zV at' s/\CB f/\d=.int (s f)
def rD:∀ds d,kz ds d->ds.length=2:=by rintro _ _ ⟨f,q,s,rfl,_⟩;rfl
def wQ(ch:List aI)(s:aI->Int):aI:=(ch.map s).filter fun x=>!decide (x=0)
def EU(xs:aI):Nat:=((List.range (xs.length-1)).filter fun i=>!decide (xs.getD i 0=xs.getD (1+i) 0)).length
def lJ(ds:cQ)(d:D):Prop:=∃(ch:List aI) (at':D) (s:aI->Int),ds=[.lst (ch.map av),at']/\zV at' s/\(∀f∈ch,CB f)/\ch.length<100/\d=.int (EU (wQ ch s):Nat)
def tJ:∀ds d,lJ ds d->ds.length=2:=by rintro _ _ ⟨f,q,s,rfl,_⟩;rfl
def LO.OQ{α:Type}(g f:α->D)(p:α->Bool)(R:α->eU):∀(xs:List α) (ρ:eU),(∀x∈xs,ME X ρ tg (g x) (R x))->(∀x∈xs,∀y∈xs,ME X (R x) tg (g y) (R y))->(∀x∈xs,Lu X (R x) c (p x))->(∀x∈xs,Lq X (R x) elt (f x))->LO X tg elt [c] (xs.map g) ρ ((xs.filter p).map f)
 |[],ρ,_,_,_,_=>.nil
 |x::xs,ρ,h1,h2,h3,h4=>by
  have ih:=LO.OQ g f p R xs (R x) (fun y hy=>h2 x (aT ..) y (aj _ hy)) (fun y hy z hz=>h2 y (aj _ hy) z (aj _ hz)) (fun y hy=>h3 y (aj _ hy)) (fun y hy=>h4 y (aj _ hy))
  have g1:=h1 x (aT ..)
  have g3:=h3 x (aT ..)
  cases hp:p x with
  |true=>
   rw[List.filter_cons_of_pos hp]
   exact .take g1 (.inr ⟨c,rfl,by rw[hp] at g3;exact g3⟩) (h4 x (aT ..)) ih
  |false=>
   rw[List.filter_cons_of_neg (by rw[hp];exact aF)]
   exact .skip g1 rfl (by rw[hp] at g3;exact g3) ih
def wx(h:DefX P w K mg base k LY (ai gJ) X)(LG:mg "isinstance"=none)(LM:mg "tuple"=none):
  ∀ds d,lK ds d->Lr X (ds.map Sl.val++List.replicate (LY.length-ds.length) Sl.un) (bX gJ) (.rt d):=by
 rintro ds d ⟨i,rfl,rfl⟩
 have t:=h.at'
 have bl:=h.bt LM
 have b2:=h.bt LG
 show Lr X [.val (.int i)] _ _
 exact aD (bC (tR (lT (v9 (d:=.int i) t b2 bl (ac t 0) rfl)) (ac t 0)))
def yd(h:DefX P w K mg base k LY (ai gJ) X)(LG:mg "isinstance"=none)(LM:mg "tuple"=none)(c0:Callee X "told_anew" lK):
  Go X LY gJ mR:=by
 rintro ds d ⟨f,rfl,hf,rfl⟩
 have t:=h.at'
 have bl:=h.bt LM
 have b2:=h.bt LG
 show Lr X [.val (av f)] _ _
 refine aD (bC (wa (lT (v9 (d:=av f) t b2 bl (ac t 0) rfl)) (Lq.eq (kW t bl (LQ.toQ (iC (rs:=(f.map fun x=>x).map D.int) t ["thing", "part"] (Dw (by decide)) (mB (ac t 0)) (by rw[ah];exact gH hf) fun X' cx=>?_))) (by rw[List.map_id']))))
 have t':=cx.at'
 exact LO.ints (fun x=>x) (fun x=>[.val (av f),.val (.int x)]) (fun d hd=>c9 t' 1) (fun d hd e he=>c9 t' 1) fun d hd=>ax t' (cx.callee c0) (ae (ac t' 1 rfl) ak) ⟨d,rfl,rfl⟩
def zn(h:DefX P w K mg base k oD (ai k9) X)(cS:Callee X "told_anew" mR)(cO:Callee X "other_sign" lI)(cR:Callee X "rest_of" qU):
  Go X oD k9 oI:=by
 rintro ds d ⟨f,g,rfl,hf,hi,rfl⟩
 have t:=h.at'
 haveI:=h.Mg
 obtain⟨lf,hg⟩:=hi.Qu
 show Lr X [.val (av f),.val (av g),.un,.un,.un] _ _
 refine ao (dr (ij t (Lq.p (ac t 0)) (Lq.p (d:=av []) (aV ak)) (bb _) (bb _) (by rw[fY,ap hf])) bR) ?_
 refine ao (kl t 2 (xs:=[f].map av) (dZ (ae (ax t cS (ae (ac t 0) ak) ⟨f,rfl,by lia,rfl⟩) ak))) ?_
 refine ao (rd t 3 4 (ac t 0) (ax t cS (ae (ac t 1) ak) ⟨g,rfl,by lia,rfl⟩) (by decide)) ?_
 refine ao (ρ':=[.val (av f),.val (av g),.own (([f]++cf (g.length+1) f g).map av),.val (av (pF (g.length+1) f g)),.val (av [])]) (mZ t (xZ (X:=X) (fun dn a l=>[.val (av f),.val (av g),.own (dn.map av),.val (av a),.val (av l)]) (fun dn a l=>?_) (fun dn a l hl hs Sq hd=>?_) [f] hi (by simp))) (fX 2 rfl (aD (bC (ac t 2))))
 ·exact iU t (Lq.p (ac t 4)) (Lq.p (d:=av []) (aV ak)) (bb _) (bb _) (by rw[fY])
 ·refine ao (kP t 2 rfl (ac t 4) (by rw[ah];exact gH (by lia))) (Lr.eq (aD (rd t 3 4 (ac t 4) (ax t cO (ae (ax t cR (ae (ac t 3) (ae (ac t 4) ak)) ⟨a,l,rfl,hs,rfl⟩) ak) ⟨bF a l,rfl,by have:=kQ (f:=a) hl;lia,rfl⟩) (by decide))) (by rw[bG];rfl))
def t6(h:DefX P w K mg base k jF (ai fM) X)(Nz:mg "reversed"=none):
  Go X jF fM jJ:=by
 rintro ds d ⟨f,q,rfl,v,rfl⟩
 have t:=h.at'
 haveI:=h.Mg
 have bl:uT X (ai fM) "reversed" (.type "reversed"):=zm (by rw[h.Na];exact Nz) (v:=by decide)
 show Lr X [.val (av f),.val (em q),.un,.un,.un,.un,.un] _ _
 refine ao (re t (ac t 1) (mC (ds:=[.int q.num,.int (q.den:Int)]) t (dL (bj t 2) (dL (bj t 3) jg)))) ?_
 refine ao (re t (aV (ae ag (ae ag ak))) (mC (ds:=[.int 0,.int 1]) t (dL (bj t 4) (dL (bj t 5) jg)))) ?_
 have hb:=v.den
 refine ao (ρ':=[.val (av f),.val (em q),.val (.int q.num),.val (.int (q.den:Int)),.val (.int (A2 q.num q.den f)),.val (.int ((q.den:Int) ^ f.length)),.un]) (fC t (Ha t bl (ac t 0)) (LB.LJ (fun i=>[.val (av f),.val (em q),.val (.int q.num),.val (.int (q.den:Int)),.val (.int (A2 q.num q.den (f.drop (f.length-i)))),.val (.int ((q.den:Int) ^ i)),.un]) (fun i d hi=>?_) ?_ ?_)) (aD (bC (ac t 4)))
 ·rw[<-List.map_reverse,List.getElem?_map] at hi
  cases e:f.reverse[i]? with
  |none=>rw[e] at hi;cases hi
  |some c=>
   rw[e] at hi;cases hi
   obtain⟨Mj,hc⟩:=yL e
   have hlen:=v.len
   have hd:f.drop (f.length-(i+1))=c::f.drop (f.length-i):=by
    have h1:f.length-(i+1)<f.length:=by lia
    rw[iR h1]
    have h3:f[f.length-(i+1)]?=some c:=by rw[show f.length-(i+1)=f.length-1-i by lia];exact hc
    have h2:f[f.length-(i+1)]=c:=(List.getElem?_eq_some_iff.mp h3).2
    rw[h2,show f.length-(i+1)+1=f.length-i by lia]
   have WR:(f.drop (f.length-i)).length=i:=by rw[dB];lia
   have W6:c.natAbs<2 ^ 330000:=v.bd c (List.mem_of_getElem? hc)
   have Uh:((q.den:Int) ^ i).natAbs<2 ^ 340000:=sr hb i (by lia)
   refine⟨_,bj t 6,Lr.weak (ao (bE t 4 (bO (aS (ac t 4) (ac t 2) (fk (k:=340000) (by decide) (v.drop _).sv (nQ v.fr.1 (by decide)))) (aS (ac t 6) (ac t 5) (fk (k:=340000) (by decide) (nQ W6 (by decide)) Uh)))) (aD (Cj t 5 rfl (ac t 3) (fk (k:=340000) (by decide) Uh (nQ hb (by decide)))))) ?_⟩
   rw[hd]
   show MB _ [.val (av f),.val (em q),.val (.int q.num),.val (.int (q.den:Int)),.val (.int (A2 q.num q.den (f.drop (f.length-i))*q.num+c*(q.den:Int) ^ (f.drop (f.length-i)).length)),.val (.int ((q.den:Int) ^ (i+1))),.un]
   rw[WR,BS]
   exact .keep (.keep (.keep (.keep (.keep (.keep (.forget .nil))))))
 ·rw[BQ,List.drop_length,BR];rfl
 ·rw[dW,ah,Nat.sub_self,oN]
def rL(h:DefX P w K mg base k iY (ai gr) X)(cS:Callee X "sign_of" kY)(cV:Callee X "scaled_value" jJ):
  Go X iY gr fE:=by
 rintro ds d ⟨f,q,rfl,v,rfl⟩
 have t:=h.at'
 show Lr X [.val (av f),.val (em q)] _ _
 exact aD (bC (ax t cS (ae (ax t cV (ae (ac t 0) (ae (ac t 1) ak)) ⟨f,q,rfl,v,rfl⟩) ak) ⟨_,rfl,rfl⟩))
def uO(h:DefX P w K mg base k kr (ai iy) X)(LK:mg "len"=none)(cV:Callee X "sign_of_value" fE)(cS:Callee X "sign_of" kY):
  Go X kr iy kz:=by
 rintro ds d ⟨f,at',s,rfl,ha,⟨hf,hl,hb⟩,rfl⟩
 have t:=h.at'
 haveI:=h.Mg
 have b1:=h.bt LK
 show Lr X [.val (av f),.val at',.un] _ _
 cases ha with
 |low=>
  refine ao (dr (Ms.toT (ng (iU t (Lq.p (d:=.str "low") (ac t 1)) (Lq.p (d:=.str "low") dk) (by decide) (by decide) (by decide)))) bR) ?_
  refine ao (dr (ij t (Lq.p (ac t 0)) (Lq.p (d:=av []) (aV ak)) (bb _) (bb _) (by rw[fY,ap hf])) bR) ?_
  refine ao (bE t 2 (d:=.bl (decide (f.length%2=0))) (Az (wb t (Lq.p (d:=.str "low") (ac t 1)) (Lq.p (d:=.str "low") dk) (by decide) (by decide) (by decide)) (zd (Lq.eq (Dj t (aW (i:=(f.length:Int)) (Lq.eq (eC t b1 (Lq.qt (ac t 0))) (by rw[ah])) ag (by decide)) ag) (by congr 1;exact decide_eq_decide.mpr (by lia)))))) ?_
  unfold fj
  by_cases e:f.length%2=0
  ·rw[aB e,aH e]
   exact aD (bC (wa (lT (ac t 2)) (ge (ax t cS (ae (aJ (Lq.qt (ac t 0)) (ge ag) (iK hf)) ak) ⟨_,rfl,rfl⟩))))
  ·rw[ay e,ap e]
   exact aD (bC (tR (lT (ac t 2)) (ax t cS (ae (aJ (Lq.qt (ac t 0)) (ge ag) (iK hf)) ak) ⟨_,rfl,rfl⟩)))
 |high=>
  refine ao (dr (Ms.toT (j9 (iU t (Lq.p (d:=.str "high") (ac t 1)) (Lq.p (d:=.str "low") dk) (by decide) (by decide) (by decide)) (ni (iU t (Lq.p (d:=.str "high") (ac t 1)) (Lq.p (d:=.str "high") dk) (by decide) (by decide) (by decide))))) bR) ?_
  refine ao (dr (ij t (Lq.p (ac t 0)) (Lq.p (d:=av []) (aV ak)) (bb _) (bb _) (by rw[fY,ap hf])) bR) ?_
  refine ao (bE t 2 (d:=.bl false) (AA (wb t (Lq.p (d:=.str "high") (ac t 1)) (Lq.p (d:=.str "low") dk) (by decide) (by decide) (by decide)))) ?_
  exact aD (bC (tR (lT (ac t 2)) (ax t cS (ae (aJ (Lq.qt (ac t 0)) (ge ag) (iK hf)) ak) ⟨_,rfl,rfl⟩)))
 |fr q hq=>
  refine fO (fy (Ms.toT (j9 (iU t (Lq.p (d:=em q) (ac t 1)) (Lq.p (d:=.str "low") dk) (bb _) (by decide) rfl) (ni (iU t (Lq.p (d:=em q) (ac t 1)) (Lq.p (d:=.str "high") dk) (bb _) (by decide) rfl)))) (aD (bC (ax t cV (ae (ac t 0) (ae (ac t 1) ak)) ⟨f,q,rfl,⟨hl,hb,hq⟩,rfl⟩))))
def wu(h:DefX P w K mg base k lE (ai gS) X)(LK:mg "len"=none)(Lz:mg "range"=none)(cT:Callee X "sign_toward" kz):
  Go X lE gS lJ:=by
 rintro ds d ⟨ch,at',s,rfl,ha,hc,hl,rfl⟩
 have t:=h.at'
 haveI:=h.Mg
 have b1:=h.bt LK
 have b2:=h.bt Lz
 show Lr X [.val (.lst (ch.map av)),.val at',.un] _ _
 refine ao (kl t 2 (iC (rs:=(wQ ch s).map D.int) t ["chain", "at", "signs", "sign"] (Dw (by decide)) (ds:=(ch.map s).map D.int) (iV (LQ.Mi (iC t ["chain", "at", "signs", "f"] (Dw (by decide)) (iV (ac t 0)) (by rw[ah];exact gH (by lia)) fun X' cx=>?_))) (by rw[ah,ah];exact gH (by lia)) fun X' cx=>?_) (hs:=(B9 (show X.env.scope=(dE (ai gS)).scope from t.eS)).trans rfl)) ?_
 ·have t':=cx.at'
  rw[iP]
  exact LO.gen av (fun f=>D.int (s f)) (fun f=>[.val (.lst (ch.map av)),.val at',.un,.val (av f)]) ch _ (fun d hd=>c9 t' 3) (fun d hd e he=>c9 t' 3) fun d hd=>ax t' (cx.callee cT) (ae (ac t' 3 rfl) (ae (ac t' 1 rfl) ak)) ⟨d,at',s,rfl,ha,hc d hd,rfl⟩
 ·have t':=cx.at'
  exact LO.OQ D.int D.int (fun x=>!decide (x=0)) (fun x=>[.val (.lst (ch.map av)),.val at',.un,.val (.int x)]) (ch.map s) _ (fun d hd=>c9 t' 3) (fun d hd e he=>c9 t' 3) (fun d hd=>ze (ac t' 3 rfl) ag) fun d hd=>ac t' 3 rfl
 refine fX 2 rfl ?_
 have sl:(wQ ch s).length<=ch.length:=by unfold wQ;exact aZ (List.length_filter_le _ _) (by rw[ah];exact az _)
 generalize wQ ch s=xs at sl
 refine aD (bC (Lq.eq (eC t b1 (LQ.toQ (iC (rs:=((List.range (xs.length-1)).filter fun i=>!decide (xs.getD i 0=xs.getD (1+i) 0)).map fun(i:Nat)=>D.int (1+(i:Int))) t ["chain", "at", "signs", "k"] (Dw (by decide)) (Nd.eq (vq t b2 ag (eC t b1 (Lq.ql (ac t 2))) (by rw[ah];lia)) (show _=cZ 1 (xs.length-1) by rw[ah];congr 1;lia)) (by simp[cZ];exact gH (by lia)) fun X' cx=>?_))) (by rw[ah];rfl)))
 have t':=cx.at'
 exact LO.OQ (fun(i:Nat)=>D.int (1+(i:Int))) _ (fun i=>!decide (xs.getD i 0=xs.getD (1+i) 0)) (fun(i:Nat)=>[.val (.lst (ch.map av)),.val at',.val (bn xs),.val (.int (1+(i:Int)))]) _ _ (fun x hx=>c9 t' 3) (fun x hx y hy=>c9 t' 3) (fun x hx=>by
  have NF:=List.mem_range.mp hx
  refine ze (aJ (Lq.ql (ac t' 2 rfl)) (dz (ac t' 3 rfl) ag) ?_) (aJ (Lq.ql (ac t' 2 rfl)) (ac t' 3 rfl) ?_)
  ·rw[show(1+(x:Int)-1)=((x:Nat):Int) by lia];exact dv (by lia)
  ·rw[show(1+(x:Int))=((1+x:Nat):Int) by lia];exact dv (by lia)) fun x hx=>ac t' 3 rfl
def ei(f:aI)(q:Rat):Nat->Rat
 |0=>0
 |i+1=>ei f q i+(f.getD i 0:Rat)*q ^ i
def aG:aI->Rat->Rat
 |[],_=>0
 |c::f,q=>(c:Rat)+q*aG f q
def vf(c:Int)(f:aI)(q:Rat):∀i,ei (c::f) q (i+1)=(c:Rat)+q*ei f q i
 |0=>by
  show 0+(c:Rat)*q ^ 0=(c:Rat)+q*0
  rw[fI];grind
 |i+1=>by
  have ih:=vf c f q i
  show ei (c::f) q (i+1)+(f.getD i 0:Rat)*q ^ (i+1)=_
  rw[ih]
  show _=(c:Rat)+q*(ei f q i+(f.getD i 0:Rat)*q ^ i)
  rw[dh];grind
def kR:∀(f:aI) (q:Rat),ei f q f.length=aG f q
 |[],q=>rfl
 |c::f,q=>by
  show ei (c::f) q (f.length+1)=(c:Rat)+q*aG f q
  rw[vf,kR]
def ve(f:aI)(q:Rat):∀n,ei f q (f.length+n)=ei f q f.length
 |0=>rfl
 |n+1=>by
  show ei f q (f.length+n)+(f.getD (f.length+n) 0:Rat)*q ^ (f.length+n)=_
  rw[ve f q n]
  have:f.getD (f.length+n) 0=0:=by rw[List.getD_eq_getElem?_getD,List.getElem?_eq_none (by lia)];rfl
  rw[this]
  show ei f q f.length+(0:Rat)*q ^ (f.length+n)=_
  grind
def j0{f:aI}{n:Nat}{q:Rat}(h:f.length<=n):ei f q n=aG f q:=by
 rw[<-kR,show n=f.length+(n-f.length) by lia,ve]
def tq{f g:aI}{q:Rat}:∀{n:Nat},(∀i,i<n->f.getD i 0=g.getD i 0)->ei f q n=ei g q n
 |0,_=>rfl
 |n+1,h=>by
  show ei f q n+_=ei g q n+_
  rw[tq (n:=n) fun i hi=>h i (by lia),h n (by lia)]
def zc{f g:aI}{q:Rat}(h:∀i,f.getD i 0=g.getD i 0):aG f q=aG g q:=by
 rw[<-j0 (f:=f) (n:=max f.length g.length) (by lia),<-j0 (f:=g) (n:=max f.length g.length) (by lia)]
 exact tq fun i _=>h i
def vo(xs:aI)(q:Rat):aG (di xs) q=aG xs q:=zc (A0 xs)
def xl{f:aI}{p:Nat}{q:Rat}(hp:p<f.length):∀n,ei (f.set p v) q n=ei f q n+(if p<n then ((v:Rat)-(f.getD p 0:Rat))*q ^ p else 0)
 |0=>by show(0:Rat)=0+_;rw[ay (by lia)];grind
 |n+1=>by
  show ei (f.set p v) q n+((f.set p v).getD n 0:Rat)*q ^ n=(ei f q n+(f.getD n 0:Rat)*q ^ n)+_
  rw[xl hp n]
  by_cases h:p=n
  ·subst h
   have e:(f.set p v).getD p 0=v:=by rw[List.getD_eq_getElem?_getD,List.getElem?_set_self hp];rfl
   rw[e,ay (by lia),aB (by lia)]
   grind
  ·have e:(f.set p v).getD n 0=f.getD n 0:=by rw[List.getD_eq_getElem?_getD,List.getElem?_set_ne h,List.getD_eq_getElem?_getD]
   rw[e]
   by_cases h2:p<n
   ·rw[aB h2,aB (by lia)];grind
   ·rw[ay h2,ay (by lia)];grind
def xm{n:Nat}(f g:aI)(q:Rat)(i:Nat)(acc:aI):∀j,i+j<=acc.length->i+j<=n->ei (nX f g i acc j) q n=ei acc q n+(f.getD i 0:Rat)*q ^ i*ei g q j
 |0,_,_=>by
  show ei acc q n=ei acc q n+(f.getD i 0:Rat)*q ^ i*0
  grind
 |j+1,h1,h2=>by
  show ei ((nX f g i acc j).set (i+j) _) q n=ei acc q n+(f.getD i 0:Rat)*q ^ i*(ei g q j+(g.getD j 0:Rat)*q ^ j)
  rw[xl (by rw[lw];lia),aB (by lia),xm f g q i acc j (by lia) (by lia),e8,aq]
  have e:q ^ (i+j)=q ^ i*q ^ j:=by
   clear h1 h2
   induction j with
   |zero=>rw[Kp,fI,DY]
   |succ j ih=>rw[<-Ja,dh,dh,ih,IY]
  rw[e];grind
def vb(q:Rat)(m:Nat):∀n,ei (List.replicate m 0) q n=0
 |0=>rfl
 |n+1=>by
  show ei (List.replicate m 0) q n+((List.replicate m (0:Int)).getD n 0:Rat)*q ^ n=0
  have e:(List.replicate m (0:Int)).getD n 0=0:=by
   rw[List.getD_eq_getElem?_getD,List.getElem?_replicate]
   split<;>rfl
  rw[vb q m n,e]
  show(0:Rat)+0*q ^ n=0
  grind
def vd(f g:aI)(q:Rat):∀i,i<=f.length->ei (iH f g i) q (f.length+g.length)=ei f q i*ei g q g.length
 |0,_=>by
  show ei (List.replicate _ 0) q _=0*_
  rw[vb];grind
 |i+1,h=>by
  show ei (nX f g i (iH f g i) g.length) q _=(ei f q i+(f.getD i 0:Rat)*q ^ i)*_
  rw[xm f g q i (iH f g i) g.length (by rw[kS];lia) (by lia),vd f g q i (by lia)]
  grind
def lx(f g:aI)(q:Rat):aG (aX f g) q=aG f q*aG g q:=by
 unfold aX
 rw[vo,<-j0 (n:=f.length+g.length) (by rw[kS];exact az _),vd f g q f.length (az _),kR,kR]
def w5(t b:Int)(q:Rat)(hq:(t:Rat)=q*(b:Rat)):∀f:aI,(A2 t b f:Rat)*(b:Rat)=aG f q*(b:Rat) ^ f.length
 |[]=>by show(0:Rat)*_=0*_;grind
 |c::s=>by
  have ih:=w5 t b q hq s
  show((A2 t b s*t+c*b ^ s.length:Int):Rat)*(b:Rat)=((c:Rat)+q*aG s q)*(b:Rat) ^ (s.length+1)
  rw[e8,aq,aq,ui,dh,hq]
  have e:(A2 t b s:Rat)*(q*(b:Rat))*(b:Rat)=aG s q*(b:Rat) ^ s.length*q*(b:Rat):=by rw[<-ih];grind
  grind
def zh{x y:Int}{r:Rat}(hy:y≠0)(h:(x:Rat)=r*(y:Rat)):Rat.divInt x y=r:=by
 have Sv:(y:Rat)≠0:=fun z=>hy (Rat.intCast_eq_zero_iff.mp z)
 rw[BP,h,Rat.mul_div_cancel Sv]
def gY(q:Rat):(q.num:Rat)=q*((q.den:Int):Rat):=by
 have h:=Rat.num_divInt_den q
 have hd:((q.den:Int):Rat)≠0:=fun z=>oz q (Rat.intCast_eq_zero_iff.mp z)
 rw[BP] at h
 have h2:(q.num:Rat) / ((q.den:Int):Rat)*((q.den:Int):Rat)=q*((q.den:Int):Rat):=c8 (· * ((q.den:Int):Rat)) h
 rw[Rat.div_mul_cancel hd] at h2
 exact h2
def AV(f:aI)(t b:Int):Nat->Int
 |0=>0
 |k+1=>AV f t b k+f.getD k 0*t ^ k*b ^ (f.length-1-k)
def w4(f:aI)(t b:Int)(q:Rat)(hq:(t:Rat)=q*(b:Rat)):∀k,k<=f.length->(AV f t b k:Rat)=ei f q k*(b:Rat) ^ (f.length-1)
 |0,_=>by show(0:Rat)=0*_;grind
 |k+1,h=>by
  have ih:=w4 f t b q hq k (by lia)
  show((AV f t b k+f.getD k 0*t ^ k*b ^ (f.length-1-k):Int):Rat)=(ei f q k+(f.getD k 0:Rat)*q ^ k)*(b:Rat) ^ (f.length-1)
  rw[e8,aq,aq,ui,ui,ih,hq]
  have e1:∀m:Nat,(q*(b:Rat)) ^ m=q ^ m*(b:Rat) ^ m:=by
   intro m
   induction m with
   |zero=>rw[fI,fI,fI];grind
   |succ m ih=>rw[dh,dh,dh,ih];grind
  have e2:∀m n:Nat,(b:Rat) ^ (m+n)=(b:Rat) ^ m*(b:Rat) ^ n:=by
   intro m n
   induction n with
   |zero=>rw[Kp,fI,DY]
   |succ n ih=>rw[<-Ja,dh,dh,ih,IY]
  have e3:(b:Rat) ^ (f.length-1)=(b:Rat) ^ k*(b:Rat) ^ (f.length-1-k):=by rw[<-e2];congr 1;lia
  rw[e1,e3];grind
def Bp(q:Rat)(f:aI):Rat.divInt (AV f q.num q.den f.length) ((q.den:Int) ^ (f.length-1))=aG f q:=by
 have hd:(q.den:Int)≠0:=oz q
 refine zh (Int.pow_ne_zero hd) ?_
 rw[w4 f q.num q.den q (gY q) f.length (az _),kR,ui]
end My
namespace My
variable {K:dq}
def sg(x:Rat):Int:=if 0<x then 1 else if x<0 then -1 else 0
def dI{x:Rat}(h:0<x):sg x=1:=by unfold sg;rw[aB h]
def gA{x:Rat}(h:x<0):sg x=-1:=by unfold sg;rw[ay (by grind),aB h]
def jc:sg 0=0:=by unfold sg;rw[ay (by grind),ay (by grind)]
def cq(x:Rat):(0<x/\sg x=1)\/(x<0/\sg x=-1)\/(x=0/\sg x=0):=by
 by_cases h:0<x
 ·exact .inl ⟨h,dI h⟩
 ·by_cases h2:x<0
  ·exact .inr (.inl ⟨h2,gA h2⟩)
  ·have:x=0:=by grind
   exact .inr (.inr ⟨this,by rw[this];exact jc⟩)
def dX(x y:Rat):sg (x*y)=sg x*sg y:=by
 rcases cq x with⟨h,e⟩ | ⟨h,e⟩ | ⟨h,e⟩<;>rcases cq y with⟨k,f⟩ | ⟨k,f⟩ | ⟨k,f⟩<;>rw[e,f]
 ·rw[dI (aM h k)];rfl
 ·rw[gA (by have:=aM h (show 0 < -y by grind);grind)];rfl
 ·rw[k,BO,jc];rfl
 ·rw[gA (by have:=aM (show 0 < -x by grind) k;grind)];rfl
 ·rw[dI (by have:=aM (show 0 < -x by grind) (show 0 < -y by grind);grind)];rfl
 ·rw[k,BO,jc];rfl
 all_goals rw[h,nL,jc];simp
def n8{q r Q m:Rat}(h1 : -Q<=q)(h2:q<=Q)(h3 : -m<=r)(h4:r<=m): -(Q*m)<=q*r/\q*r<=Q*m:=by
 have a:=aA (show 0<=Q-q by grind) (show 0<=m-r by grind)
 have b:=aA (show 0<=Q+q by grind) (show 0<=m+r by grind)
 have c:=aA (show 0<=Q-q by grind) (show 0<=m+r by grind)
 have d:=aA (show 0<=Q+q by grind) (show 0<=m-r by grind)
 grind
def iS{M u:Rat}(hM:0<=M)(hu:0<u):∃d:Rat,0<d/\M*d<=u:=by
 refine⟨u / (M+1),?_,?_⟩
 ·have:0<(M+1)⁻¹:=Rat.inv_pos.mpr (by grind)
  have:=aM hu this
  rw[K7];exact this
 ·have h:u / (M+1)*(M+1)=u:=by grind
  have:0<u / (M+1):=by
   have:0<(M+1)⁻¹:=Rat.inv_pos.mpr (by grind)
   have:=aM hu this
   rw[K7];exact this
  grind
def bM{M a b:Rat}(hM:0<=M)(h:a<=b):M*a<=M*b:=by
 have:=aA hM (show 0<=b-a by grind);grind
section
variable {A B:Rat}
def LI(A B:Rat)(f:Rat->Rat):Prop:=∃M:Rat,0<=M/\(∀x,A<=x->x<=B->-M<=f x/\f x<=M)/\∀x y,A<=x->y<=B->x<=y->-(M*(y-x))<=f y-f x/\f y-f x<=M*(y-x)
def LI.congr{f g:Rat->Rat}(h:LI A B f)(e:∀x,g x=f x):LI A B g:=by
 have:g=f:=funext e
 rw[this];exact h
def LI.const(c:Rat):LI A B fun _=>c:=by
 by_cases h:0<=c
 ·exact⟨c,h,fun x _ _=>by grind,fun x y _ _ k=>by have:=bM h (show 0<=y-x by grind);grind⟩
 ·exact⟨-c,by grind,fun x _ _=>by grind,fun x y _ _ k=>by have:=bM (show 0 <= -c by grind) (show 0<=y-x by grind);grind⟩
def LI.id:LI A B fun x=>x:=by
 by_cases h:A<=B
 ·refine⟨1+(B-A)+(if 0<=A then A else -A),?_,fun x hx hy=>?_,fun x y h1 h2 k=>?_⟩
  ·split<;>grind
  ·split<;>grind
  ·have hN:0<=(B-A)+(if 0<=A then A else -A):=by split<;>grind
   have:=aA hN (show 0<=y-x by grind)
   constructor<;>grind
 ·exact⟨0,by grind,fun x _ _=>by grind,fun x y _ _ _=>by grind⟩
def LI.add{f g:Rat->Rat}(hf:LI A B f)(hg:LI A B g):LI A B fun x=>f x+g x:=by
 obtain⟨M,m0,m1,m2⟩:=hf
 obtain⟨N,n0,n1,n2⟩:=hg
 refine⟨M+N,by grind,fun x hx hy=>?_,fun x y hx hy k=>?_⟩
 ·have:=m1 x hx hy;have:=n1 x hx hy;grind
 ·have:=m2 x y hx hy k;have:=n2 x y hx hy k;grind
def LI.mul{f g:Rat->Rat}(hf:LI A B f)(hg:LI A B g):LI A B fun x=>f x*g x:=by
 obtain⟨M,m0,m1,m2⟩:=hf
 obtain⟨N,n0,n1,n2⟩:=hg
 have p0:=aA m0 n0
 refine⟨M*N+M*N,by grind,fun x hx hy=>?_,fun x y hx hy k=>?_⟩
 ·have a:=m1 x hx hy;have b:=n1 x hx hy
  have:=n8 a.1 a.2 b.1 b.2
  grind
 ·have a:=m1 y (by grind) hy;have b:=n1 x hx (by grind)
  have c:=m2 x y hx hy k;have d:=n2 x y hx hy k
  have e1:=n8 a.1 a.2 d.1 d.2
  have e2:=n8 b.1 b.2 c.1 c.2
  have e:f y*g y-f x*g x=f y*(g y-g x)+g x*(f y-f x):=by grind
  rw[e]
  have e3:M*(N*(y-x))=M*N*(y-x):=by grind
  have e4:N*(M*(y-x))=M*N*(y-x):=by grind
  constructor<;>grind
def LI.smul{f:Rat->Rat}(c:Rat)(hf:LI A B f):LI A B fun x=>c*f x:=(LI.const c).mul hf
def LI.sub{f g:Rat->Rat}(hf:LI A B f)(hg:LI A B g):LI A B fun x=>f x-g x:=(hf.add (hg.smul (-1))).congr fun x=>by grind
inductive NP(A B:Rat):List (Rat->Rat)->Prop
 |two {r0:Rat->Rat} {c:Rat} (h:LI A B r0) (hc:c≠0):NP A B [r0,fun _=>c]
 |more {q r0 r1 r2:Rat->Rat} {rs:List (Rat->Rat)} {al be:Rat} (hq:LI A B q) (ha:0<al) (hb:0<be) (he:∀x,al*r0 x=q x*r1 x-be*r2 x) (h:NP A B (r1::r2::rs)):NP A B (r0::r1::r2::rs)
def NP.NC{r0 r1:Rat->Rat}{rs:List (Rat->Rat)}:NP A B (r0::r1::rs)->LI A B r0/\LI A B r1:=by
 intro h
 generalize e:r0::r1::rs=l at h
 induction h generalizing r0 r1 rs with
 |two h hc=>cases e;exact⟨h,.const _⟩
 |@more q Yh Yg Yf Qn al be hq ha hb he h ih=>
  cases e
  obtain⟨i1,i2⟩:=ih rfl
  exact⟨(((hq.mul i1).sub (i2.smul be)).smul al⁻¹).congr fun x=>by have:=he x;grind,i1⟩
def Ul:aI->Int
 |a::b::l=>(1-a*b)+Ul (b::l)
 |_=>0
def oP(rs:List (Rat->Rat))(x:Rat):aI:=rs.map fun r=>sg (r x)
def IV:aI->Prop
 |a::b::c::l=>(b=0->a=-c/\a≠0)/\IV (b::c::l)
 |[a,b]=>b≠0
 |[a]=>a≠0
 |[]=>True
def iI{a b:Rat}(ha:0<a)(hb:0<b):∃d:Rat,0<d/\d<=a/\d<=b:=by
 by_cases h:a<=b
 ·exact⟨a,ha,by grind,h⟩
 ·exact⟨b,hb,by grind,by grind⟩
def GG{al be Q m m1 x0 x1 x2 q t:Rat}(hb:0<be)(bm:0<be*m1)(ha:0<al)(hQ:0<=Q)(RB:m<=t)(Qw:(al+Q)*t<=be*m1 / 2)(q1 : -Q<=q)(q2:q<=Q)(he:al*x0=q*x1-be*x2)(h0 : -m<=x0/\x0<=m)(h1 : -m<=x1/\x1<=m): -m1<=x2/\x2<=m1:=by
 have a2:=n8 q1 q2 h1.1 h1.2
 have a3:=n8 (q:=al) (Q:=al) (by grind) (by grind) h0.1 h0.2
 have a5:(al+Q)*m<=be*m1 / 2:=by have:=bM (show 0<=al+Q by grind) RB;grind
 have b1:be*x2<be*m1:=by grind
 have b2 : -(be*m1)<be*x2:=by grind
 clear he h0 h1 a2 a3 a5 Qw RB
 constructor
 ·refine Rat.not_lt.mp fun z=>?_
  have:=aM hb (show 0 < -m1-x2 by grind);grind
 ·refine Rat.not_lt.mp fun z=>?_
  have:=aM hb (show 0<x2-m1 by grind);grind
def EB{al be Q m u q a0 b0 a1 a2:Rat}(ha:0<al)(hb:0<be)(hm:0<m)(e5:Q*u<=al*m / 2)(q1 : -Q<=q)(q2:q<=Q)(he:al*a0=q*a1-be*a2)(h1 : -u<=a1/\a1<=u)(n0 : -m<=a0/\a0<=m->False)(k1 : -(m / 2)<=b0-a0)(k2:b0-a0<=m / 2):sg b0=- sg a2:=by
 have a3:=n8 q1 q2 h1.1 h1.2
 have am:=aM ha hm
 by_cases p:m<a0
 ·have q1:0<b0:=by grind
  have q2:al*m<al*a0:=by have:=aM ha (show 0<a0-m by grind);grind
  have q3:be*a2<0:=by grind
  have q4:a2<0:=Rat.not_le.mp fun z=>by have:=aA (aQ hb) z;grind
  rw[dI q1,gA q4];rfl
 ·have p':a0 < -m:=Rat.not_le.mp fun z=>n0 ⟨z,by grind⟩
  have q1:b0<0:=by grind
  have q2:al*a0 < -(al*m):=by have:=aM ha (show 0 < -m-a0 by grind);grind
  have q3:0<be*a2:=by grind
  have q4:0<a2:=Rat.not_le.mp fun z=>by have:=aA (aQ hb) (show 0 <= -a2 by grind);grind
  rw[gA q1,dI q4]
def yH{a b u:Rat}(c:sg b≠sg a)(h1 : -u<=b-a)(h2:b-a<=u): -u<=a/\a<=u:=by
 rcases cq a with⟨h,e⟩ | ⟨h,e⟩ | ⟨h,e⟩<;>rcases cq b with⟨k,f⟩ | ⟨k,f⟩ | ⟨k,f⟩<;>grind
def NP.step{l:List (Rat->Rat)}(h:NP A B l):∀{r0 r1:Rat->Rat} {rs:List (Rat->Rat)},l=r0::r1::rs ->
  ∃m d:Rat,0<m/\0<d/\(∀x,A<=x->x<=B->(-m<=r0 x/\r0 x<=m)->(-m<=r1 x/\r1 x<=m)->False) /\
   (∀a b,A<=a->b<=B->a<=b->b-a<=d->Ul (oP l a)-Ul (oP l b)=(sg (r0 b)-sg (r0 a))*sg (r1 a)):=by
 induction h with
 |@two r0 c h hc=>
  intro _ _ _ e;cases e
  refine⟨(if 0<c then c else -c) / 2,1,by split<;>grind,by grind,fun x _ _ _ k=>?_,fun a b _ _ _ _=>?_⟩
  ·split at k<;>grind
  ·simp only[oP,List.map,Ul];grind
 |@more q r0 r1 r2 rs al be hq ha hb he h ih=>
  intro _ _ _ e;cases e
  have lp:=(NP.more hq ha hb he h).NC
  obtain⟨m1,d1,RC,O4,T8,TN⟩:=ih rfl
  obtain⟨Q,Q0,Q1,_⟩:=hq
  obtain⟨M0,z0,_,l0⟩:=lp.1
  obtain⟨M1,z1,_,l1⟩:=lp.2
  have bm:=aM hb RC
  obtain⟨t,ht,Qw⟩:=iS (M:=al+Q) (u:=be*m1 / 2) (by grind) (by grind)
  obtain⟨m,hm,Uo,RB⟩:=iI RC ht
  have nb:∀x,A<=x->x<=B->(-m<=r0 x/\r0 x<=m)->(-m<=r1 x/\r1 x<=m)->False:=fun x hx hy h0 h1=>
   T8 x hx hy ⟨by grind,by grind⟩ (GG hb bm ha Q0 RB Qw (Q1 x hx hy).1 (Q1 x hx hy).2 (he x) h0 h1)
  have am:=aM ha hm
  obtain⟨u',WD,Sx⟩:=iS (M:=Q) (u:=al*m / 2) Q0 (by grind)
  obtain⟨u,hu,WB,Yl⟩:=iI WD hm
  have WC:Q*u<=al*m / 2:=aw (bM Q0 WB) Sx
  obtain⟨d2,hd2,QM⟩:=iS (M:=M1) (u:=u) z1 hu
  obtain⟨d6,W3,W2⟩:=iS (M:=M0) (u:=m / 2) z0 (by grind)
  obtain⟨d',QO,e1,e2⟩:=iI O4 hd2
  obtain⟨d,hd,e3,e4⟩:=iI QO W3
  refine⟨m,d,hm,hd,nb,fun a b hA hB Mn O3=>?_⟩
  have s1:=TN a b hA hB Mn (by grind)
  have Nu:a<=B:=aw Mn hB
  show(1-sg (r0 a)*sg (r1 a))+Ul (oP (r1::r2::rs) a)-((1-sg (r0 b)*sg (r1 b))+Ul (oP (r1::r2::rs) b))=_
  have key:(sg (r1 b)-sg (r1 a))*(sg (r0 b)+sg (r2 a))=0:=by
   by_cases c:sg (r1 b)=sg (r1 a)
   ·rw[c];simp
   ·have k1:=l1 a b hA hB Mn
    have k2:M1*(b-a)<=u:=aw (bM z1 (show b-a<=d2 by grind)) QM
    have sm:=yH c (aw (Rat.neg_le_neg k2) k1.1) (aw k1.2 k2)
    have k4:=l0 a b hA hB Mn
    have k5:M0*(b-a)<=m / 2:=aw (bM z0 (show b-a<=d6 by grind)) W2
    have a1:=Q1 a hA Nu
    rw[EB ha hb hm WC a1.1 a1.2 (he a) sm (fun z=>nb a hA Nu z ⟨by grind,by grind⟩) (aw (Rat.neg_le_neg k5) k4.1) (aw k4.2 k5)]
    rw[Int.add_left_neg,nP]
  clear nb T8 TN l0 l1 Q1 he h lp
  grind
end
end My
namespace My
variable {K:dq}
section
variable {A B:Rat}
def JX(Z:List Rat):∀{u v:Rat},u<v->∃u' v':Rat,u<=u'/\u'<v'/\v'<=v/\∀z∈Z,z<=u'\/v'<=z:=by
 induction Z with
 |nil=>intro u v h;exact⟨u,v,by grind,h,by grind,fun z hz=>nomatch hz⟩
 |cons z Z ih=>
  intro u v h
  obtain⟨u',v',h1,h2,h3,h4⟩:=ih h
  by_cases c:z<=u'\/v'<=z
  ·exact⟨u',v',h1,h2,h3,fun y hy=>by rcases aC.mp hy with rfl | hy;exact c;exact h4 y hy⟩
  ·have c1:u'<z:=Rat.not_le.mp fun k=>c (.inl k)
   have c2:z<v':=Rat.not_le.mp fun k=>c (.inr k)
   exact⟨z,v',by grind,c2,h3,fun y hy=>by
    rcases aC.mp hy with rfl | hy
    ·exact .inl (by grind)
    ·rcases h4 y hy with k | k
     ·exact .inl (by grind)
     ·exact .inr k⟩
def EW(Z:List Rat){u v:Rat}(h:u<v):∃x:Rat,u<x/\x<v/\x∉Z:=by
 obtain⟨u',v',h1,h2,h3,h4⟩:=JX Z h
 refine⟨(u'+v') / 2,by grind,by grind,fun hx=>?_⟩
 rcases h4 _ hx with k | k<;>grind
def J6(x:Rat):∃n:Nat,x<=(n:Rat):=by
 refine⟨x.ceil.toNat,?_⟩
 have h1:=Rat.le_ceil (x:=x)
 have h2:(x.ceil:Rat)<=((x.ceil.toNat:Int):Rat):=Rat.intCast_le_intCast.mpr (by lia)
 rw[Rat.intCast_natCast] at h2
 exact aw h1 h2
def Ih(Z:List Rat)(P:Rat->Int){d:Rat}(hd:0<d)(st:∀a b,A<=a->b<=B->a<=b->b-a<=d->a∉Z->b∉Z->P a=P b):
  ∀(n:Nat) (a b:Rat),A<=a->b<=B->a<=b->b-a<=(n:Rat)*(d / 2)->a∉Z->b∉Z->P a=P b:=by
 intro n
 induction n with
 |zero=>intro a b h1 h2 h3 h4 h5 h6;exact st a b h1 h2 h3 (by have:((0:Nat):Rat)=0:=rfl;grind) h5 h6
 |succ n ih=>
  intro a b h1 h2 h3 h4 h5 h6
  by_cases c:b-a<=d
  ·exact st a b h1 h2 h3 c h5 h6
  ·obtain⟨x,x1,x2,x3⟩:=EW Z (u:=b-d) (v:=b-d / 2) (by grind)
   rw[<-st x b (by grind) h2 (by grind) (by grind) x3 h6]
   refine ih a x h1 (by grind) (by grind) ?_ h5 x3
   rw[Fc] at h4
   have:((1:Nat):Rat)=1:=rfl
   grind
def Ig(Z:List Rat)(P:Rat->Int){d:Rat}(hd:0<d)(st:∀a b,A<=a->b<=B->a<=b->b-a<=d->a∉Z->b∉Z->P a=P b)(a b:Rat)(hA:A<=a)(hB:b<=B)(Mn:a<=b)(ha:a∉Z)(hb:b∉Z):P a=P b:=by
 obtain⟨n,hn⟩:=J6 ((b-a) / (d / 2))
 refine Ih Z P hd st n a b hA hB Mn ?_ ha hb
 have h:=cm hn (show 0<=d / 2 by grind)
 have e:(b-a) / (d / 2)*(d / 2)=b-a:=by grind
 rw[e] at h;exact h
def AM:aI->Nat
 |a::b::l=>(if a=b then 0 else 1)+AM (b::l)
 |_=>0
def DH:∀(a:Int) (l:aI),(∀x∈a::l,x=1\/x=-1\/x=0)->IV (a::l)->a≠0->Ul (a::l)=2*(AM ((a::l).filter fun x=>!decide (x=0)):Nat)
 |a,[],hv,h,ha=>by simp[Ul,AM,ha]
 |a,[b],hv,h,ha=>by
  have hb:b≠0:=h
  have h1:=hv a (by simp)
  have h2:=hv b (by simp)
  simp only[Ul,List.filter,ha,hb,decide_false,Bool.not_false,AM]
  rcases h1 with rfl | rfl | rfl<;>rcases h2 with rfl | rfl | rfl<;>simp_all
 |a,b::c::l,hv,h,ha=>by
  have h1:=hv a (by simp)
  have h2:=hv b (by simp)
  by_cases hb:b=0
  ·obtain⟨e,_⟩:=h.1 hb
   have hc:c≠0:=by lia
   have ih:=DH c l (fun x hx=>hv x (aj _ (aj _ hx))) (by
    have:=h.2
    cases l with
    |nil=>exact this
    |cons d l=>exact this.2) hc
   show(1-a*b)+((1-b*c)+Ul (c::l))=_
   rw[ih,hb]
   simp only[List.filter,ha,hc,decide_true,decide_false,yB,Bool.not_false,AM]
   rw[ay (by lia)]
   lia
  ·have ih:=DH b (c::l) (fun x hx=>hv x (aj _ hx)) h.2 hb
   show(1-a*b)+Ul (b::c::l)=_
   rw[ih]
   have e:((b::c::l).filter fun x=>!decide (x=0))=b::((c::l).filter fun x=>!decide (x=0)):=by simp[List.filter,hb]
   have e2:((a::b::c::l).filter fun x=>!decide (x=0))=a::b::((c::l).filter fun x=>!decide (x=0)):=by simp[List.filter,hb,ha]
   rw[e,e2]
   simp only[AM]
   rcases h1 with rfl | rfl | rfl<;>rcases h2 with rfl | rfl | rfl<;>simp_all<;>lia
def NP.alt{l:List (Rat->Rat)}(h:NP A B l){x:Rat}(hx:A<=x)(hy:x<=B):IV (oP l x):=by
 induction h with
 |@two r0 c h hc=>
  show sg c≠0
  rcases cq c with⟨h,e⟩ | ⟨h,e⟩ | ⟨h,e⟩<;>grind
 |@more q r0 r1 r2 rs al be hq ha hb he h ih=>
  refine⟨fun e=>?_,ih⟩
  obtain⟨m,d,hm,hd,nb,_⟩:=h.step rfl
  have z1:r1 x=0:=by
   have e':sg (r1 x)=0:=e
   rcases cq (r1 x) with⟨h,e⟩ | ⟨h,e⟩ | ⟨h,e⟩<;>grind
  have n2:r2 x≠0:=fun z=>nb x hx hy ⟨by grind,by grind⟩ ⟨by grind,by grind⟩
  have k:=he x
  rw[z1] at k
  show sg (r0 x)=-sg (r2 x)/\sg (r0 x)≠0
  rcases cq (r2 x) with⟨h,e⟩ | ⟨h,e⟩ | ⟨h,e⟩
  ·have p:=aM hb h
   have:r0 x<0:=Rat.not_le.mp fun z=>by have:=aA (aQ ha) z;grind
   rw[e,gA this];decide
  ·have p:=aM hb (show 0 < -(r2 x) by grind)
   have:0<r0 x:=Rat.not_le.mp fun z=>by have:=aA (aQ ha) (show 0 <= -(r0 x) by grind);grind
   rw[e,dI this];decide
  ·exact absurd h n2
end
end My
namespace My
variable {K:dq}
def ab(x:Rat):Rat:=if 0<=x then x else -x
def aO(x:Rat):(0<=x/\ab x=x)\/(x<0/\ab x=-x):=by unfold ab;split<;>grind
def de(x:Rat):0<=ab x:=by rcases aO x with h | h<;>grind
def qK{x:Rat}(h:x≠0):0<ab x:=by rcases aO x with h | h<;>grind
def LL{x m:Rat}:ab x<=m ↔ -m<=x/\x<=m:=by rcases aO x with h | h<;>grind
def bP(x y:Rat):ab (x*y)=ab x*ab y:=by
 rcases aO x with⟨h,e⟩ | ⟨h,e⟩<;>rcases aO y with⟨k,f⟩ | ⟨k,f⟩<;>rw[e,f]
 ·have:=aA h k;rcases aO (x*y) with h | h<;>grind
 ·have:=aA h (show 0 <= -y by grind);rcases aO (x*y) with h | h<;>grind
 ·have:=aA (show 0 <= -x by grind) k;rcases aO (x*y) with h | h<;>grind
 ·have:=aA (show 0 <= -x by grind) (show 0 <= -y by grind);rcases aO (x*y) with h | h<;>grind
def lC(x y:Rat):ab (x+y)<=ab x+ab y:=by
 rcases aO x with h | h<;>rcases aO y with k | k<;>rcases aO (x+y) with z | z<;>grind
def eZ{k a b:Rat}(hk:0<k)(h:k*a<=k*b):a<=b:=
 Rat.not_lt.mp fun z=>by have:=aM hk (show 0<a-b by grind);grind
structure nK where
 q:Rat->Rat
 side:Rat->Prop
 J:Rat->Int
 gm:Int
section
variable {A B:Rat}{Z:List Rat}{F G:Rat->Rat}
structure wC(A B:Rat)(Z:List Rat)(F G:Rat->Rat)(p:nK):Prop where
 NC:LI A B p.q
 side:∃d e:Rat,0<d/\0<e/\∀a b,A<=a->b<=B->a<=b->b-a<=d->ab (p.q a)<=e->p.side a->p.side b
 Ss:∀e:Rat,0<e->∃d:Rat,0<d/\∀a b,A<=a->b<=B->a<=b->b-a<=d->p.J a≠p.J b->ab (p.q a)<=e/\p.side a
 near:(∀C:Rat,0<C->∃e:Rat,0<e/\∀x,A<=x->x<=B->x∉Z->ab (p.q x)<=e->p.side x->C*ab (F x)<=ab (G x)/\sg (F x*G x)=p.gm*p.J x) \/
  (p.gm=0/\∃C e:Rat,0<C/\0<e/\∀x,A<=x->x<=B->x∉Z->ab (p.q x)<=e->p.side x->ab (G x)<=C*ab (F x))
def LI.bd{f:Rat->Rat}(h:LI A B f):∃M:Rat,0<M/\∀x,A<=x->x<=B->ab (f x)<=M:=by
 obtain⟨M,m0,m1,_⟩:=h
 exact⟨M+1,by grind,fun x hx hy=>by have:=m1 x hx hy;exact LL.mpr ⟨by grind,by grind⟩⟩
def LI.near{f:Rat->Rat}(h:LI A B f){e:Rat}(he:0<e):∃d:Rat,0<d/\∀a b,A<=a->b<=B->a<=b->b-a<=d->ab (f b-f a)<=e:=by
 obtain⟨M,m0,_,m2⟩:=h
 obtain⟨d,hd,h2⟩:=iS m0 he
 refine⟨d,hd,fun a b hA hB Mn k=>?_⟩
 have a1:=m2 a b hA hB Mn
 have a2:=bM m0 k
 exact LL.mpr ⟨by grind,by grind⟩
def r8{a b e:Rat}(h:ab (b-a)<=e)(k:e<ab a):sg b=sg a:=by
 have h':=LL.mp h
 rcases aO a with⟨z,e1⟩ | ⟨z,e1⟩
 ·rw[dI (show 0<a by grind),dI (show 0<b by grind)]
 ·rw[gA z,gA (show b<0 by grind)]
variable {r0 r1:Rat->Rat}{dd:Rat->Rat}
def A7{m:Rat}(hm:0<m)(nb:∀x,A<=x->x<=B->(-m<=r0 x/\r0 x<=m)->(-m<=r1 x/\r1 x<=m)->False)(l0:LI A B r0)(l1:LI A B r1)(e0:∀x,dd x*r0 x=F x)(e1:∀x,dd x*r1 x=G x)(nz:∀x,A<=x->x<=B->x∉Z->F x≠0)(p:nK)(ok:wC A B Z F G p):
  ∃e d:Rat,0<e/\0<d/\∀a b,A<=a->b<=B->a<=b->b-a<=d->a∉Z->b∉Z->ab (p.q a)<=e->p.side a->(sg (r0 b)-sg (r0 a))*sg (r1 a)=p.gm*(p.J b-p.J a):=by
 rcases ok.near with nr | ⟨g0,C,e,hC,he,nr⟩
 ·obtain⟨M,hM,b1⟩:=l1.bd
  obtain⟨d1,O4,k1⟩:=l1.near (e:=m / 2) (by grind)
  obtain⟨e,he,nr⟩:=nr (M / m) (by rw[K7];exact aM hM (Rat.inv_pos.mpr hm))
  have Yy:M / m*m=M:=by grind
  obtain⟨ds,es,N4,SY,Qz⟩:=ok.side
  obtain⟨d2,hd2,k2⟩:=ok.NC.near (e:=e / 2) (by grind)
  obtain⟨e',Pz,z1,z2⟩:=iI (show 0<e / 2 by grind) SY
  obtain⟨d3,QM,y1,y2⟩:=iI O4 hd2
  obtain⟨d,hd,y3,y4⟩:=iI QM N4
  refine⟨e',d,Pz,hd,fun a b hA hB Mn O3 za zb qa sa=>?_⟩
  have Uv:A<=b:=aw hA Mn
  have Nu:a<=B:=aw Mn hB
  have qb:ab (p.q b)<=e:=by
   have:=k2 a b hA hB Mn (by grind)
   have t:=lC (p.q a) (p.q b-p.q a)
   have e9:p.q a+(p.q b-p.q a)=p.q b:=by grind
   rw[e9] at t;grind
  have sb:=Qz a b hA hB Mn (by grind) (by grind) sa
  obtain⟨a1,a2⟩:=nr a hA Nu za (by grind) sa
  obtain⟨_,b2⟩:=nr b Uv hB zb qb sb
  have wQ:∀x,A<=x->x<=B->x∉Z->sg (r0 x)*sg (r1 x)=sg (F x*G x):=by
   intro x hx hy zx
   have n:=nz x hx hy zx
   rw[<-dX,<-e0 x,<-e1 x]
   have nd:dd x≠0:=fun z=>n (by rw[<-e0 x,z,nL])
   rw[show dd x*r0 x*(dd x*r1 x)=(dd x*dd x)*(r0 x*r1 x) by grind,dX (dd x*dd x),dX (dd x) (dd x)]
   rcases cq (dd x) with⟨h,e⟩ | ⟨h,e⟩ | ⟨h,e⟩
   ·rw[e];simp
   ·rw[e];simp
   ·exact absurd h nd
  have Pa:ab (r0 a)<=m:=by
   have n:=nz a hA Nu za
   have nd:dd a≠0:=fun z=>n (by rw[<-e0 a,z,nL])
   rw[<-e0 a,<-e1 a,bP,bP] at a1
   have pd:=qK nd
   have h1:M / m*ab (r0 a)<=ab (r1 a):=eZ pd (by grind)
   have h2:=b1 a hA Nu
   have:M*ab (r0 a)<=M*m:=by
    have h3:=bM (aQ hm) (aw h1 h2)
    have h4:m*(M / m*ab (r0 a))=M*ab (r0 a):=by grind
    grind
   exact eZ hM this
  have XG:m<ab (r1 a):=Rat.not_le.mp fun z=>nb a hA Nu (LL.mp Pa) (LL.mp z)
  have s1:sg (r1 b)=sg (r1 a):=r8 (k1 a b hA hB Mn (by grind)) (by grind)
  have ea:=wQ a hA Nu za
  have eb:=wQ b Uv hB zb
  rw[a2] at ea;rw[b2,s1] at eb
  rw[Int.sub_mul,eb,ea,DZ]
 ·-- no change at all
  have hinv:0<C⁻¹:=Rat.inv_pos.mpr hC
  obtain⟨m',Ow,z1,z2⟩:=iI hm (show 0<m*C⁻¹ by exact aM hm hinv)
  obtain⟨d,hd,k⟩:=l0.near (e:=m' / 2) (by grind)
  refine⟨e,d,he,hd,fun a b hA hB Mn O3 za zb qa sa=>?_⟩
  have Nu:a<=B:=aw Mn hB
  have a1:=nr a hA Nu za qa sa
  have n:=nz a hA Nu za
  have nd:dd a≠0:=fun z=>n (by rw[<-e0 a,z,nL])
  rw[<-e0 a,<-e1 a,bP,bP] at a1
  have pd:=qK nd
  have h1:ab (r1 a)<=C*ab (r0 a):=eZ pd (by grind)
  have Tt:m' / 2<ab (r0 a):=Rat.not_le.mp fun z=>by
   refine nb a hA Nu (LL.mp (by grind)) (LL.mp ?_)
   have h2:=bM (aQ hC) (show ab (r0 a)<=m*C⁻¹ by grind)
   have h3:C*(m*C⁻¹)=m:=by grind
   grind
  rw[r8 (k a b hA hB Mn O3) Tt,g0];simp
def nZ(rs:List nK)(x:Rat):Int:=(rs.map fun p=>p.gm*p.J x).sum
def xw{a b e:Rat}:∀(rs:List nK),(∀p∈rs,p.J a≠p.J b->ab (p.q a)<=e/\p.side a)->rs.Pairwise (fun p q=>¬((ab (p.q a)<=e/\p.side a)/\(ab (q.q a)<=e/\q.side a))) ->
  (∃p∈rs,(ab (p.q a)<=e/\p.side a)/\nZ rs b-nZ rs a=p.gm*(p.J b-p.J a))\/((∀p∈rs,¬(ab (p.q a)<=e/\p.side a))/\nZ rs b-nZ rs a=0)
 |[],_,_=>.inr ⟨(fun p hp=>nomatch hp),rfl⟩
 |p::rs,h,pw=>by
  obtain⟨p1,p2⟩:=List.pairwise_cons.mp pw
  have ih:=xw rs (fun q hq=>h q (aj _ hq)) p2
  have es:∀x,nZ (p::rs) x=p.gm*p.J x+nZ rs x:=fun x=>by simp[nZ]
  rw[es,es]
  by_cases c:ab (p.q a)<=e/\p.side a
  ·left
   refine⟨p,by simp,c,?_⟩
   rcases ih with⟨q,hq,k,_⟩ | ⟨_,k⟩
   ·exact absurd ⟨c,k⟩ (p1 q hq)
   ·rw[DZ];lia
  ·have e1:p.J a=p.J b:=p6 fun z=>c (h p (by simp) z)
   rw[e1]
   rcases ih with⟨q,hq,k,k2⟩ | ⟨k,k2⟩
   ·exact .inl ⟨q,aj _ hq,k,by rw[<-k2];lia⟩
   ·refine .inr ⟨fun q hq=>?_,by lia⟩
    rcases aC.mp hq with rfl | hq
    ·exact c
    ·exact k q hq
def xp{α:Type}(P:α->Rat->Prop)(mono:∀x e e',e'<=e->P x e->P x e'):∀l:List α,(∀x∈l,∃e:Rat,0<e/\P x e)->∃e:Rat,0<e/\∀x∈l,P x e
 |[],_=>⟨1,by grind,fun x hx=>nomatch hx⟩
 |x::l,h=>by
  obtain⟨e1,h1,p1⟩:=h x (by simp)
  obtain⟨e2,h2,p2⟩:=xp P mono l fun y hy=>h y (aj _ hy)
  obtain⟨e,he,k1,k2⟩:=iI h1 h2
  refine⟨e,he,fun y hy=>?_⟩
  rcases aC.mp hy with rfl | hy
  ·exact mono _ _ _ k1 p1
  ·exact mono _ _ _ k2 (p2 y hy)
def Rh(A B:Rat)(p q:nK)(e:Rat):Prop:=∀x,A<=x->x<=B->ab (p.q x)<=e->p.side x->ab (q.q x)<=e->q.side x->False
def Rh.mono{p q:nK}{e e':Rat}(h:e'<=e)(k:Rh A B p q e):Rh A B p q e':=fun x hx hy a b c d=>k x hx hy (aw a h) b (aw c h) d
def vC(A B:Rat)(p q:nK):Prop:=∃e:Rat,0<e/\Rh A B p q e
def BJ(rs:List nK)(h:rs.Pairwise (vC A B)):∃e:Rat,0<e/\∀e',e'<=e->∀x,A<=x->x<=B->rs.Pairwise (fun p q=>¬((ab (p.q x)<=e'/\p.side x)/\(ab (q.q x)<=e'/\q.side x))):=by
 induction rs with
 |nil=>exact⟨1,by grind,fun _ _ _ _ _=>.nil⟩
 |cons p rs ih=>
  obtain⟨h1,h2⟩:=List.pairwise_cons.mp h
  obtain⟨e1,OP,k1⟩:=ih h2
  obtain⟨e2,Of,k2⟩:=xp (Rh A B p) (fun q e e' h k=>k.mono h) rs h1
  obtain⟨e,he,z1,z2⟩:=iI OP Of
  refine⟨e,he,fun e' h' x hx hy=>List.pairwise_cons.mpr ⟨fun q hq k=>?_,k1 e' (aw h' z1) x hx hy⟩⟩
  exact k2 q hq x hx hy (aw k.1.1 (aw h' z2)) k.1.2 (aw k.2.1 (aw h' z2)) k.2.2
def Bj{rs:List (Rat->Rat)}(ch:NP A B (r0::r1::rs))(ld:LI A B dd)(e0:∀x,dd x*r0 x=F x)(e1:∀x,dd x*r1 x=G x)(nz:∀x,A<=x->x<=B->x∉Z->F x≠0)(ps:List nK)(ok:∀p∈ps,wC A B Z F G p)(pw:ps.Pairwise (vC A B))(away:∀e:Rat,0<e->∃c:Rat,0<c/\∀x,A<=x->x<=B->(∀p∈ps,¬(ab (p.q x)<=e/\p.side x))->c<=ab (F x)):
  ∃d:Rat,0<d/\∀a b,A<=a->b<=B->a<=b->b-a<=d->a∉Z->b∉Z->Ul (oP (r0::r1::rs) a)+nZ ps a=Ul (oP (r0::r1::rs) b)+nZ ps b:=by
 obtain⟨m,d0,hm,QN,nb,st⟩:=ch.step rfl
 obtain⟨l0,l1⟩:=ch.NC
 obtain⟨XC,OP,k1⟩:=xp (fun(p:nK) e=>∃d:Rat,0<d/\∀a b,A<=a->b<=B->a<=b->b-a<=d->a∉Z->b∉Z->ab (p.q a)<=e->p.side a->(sg (r0 b)-sg (r0 a))*sg (r1 a)=p.gm*(p.J b-p.J a))
  (fun p e e' h ⟨d,hd,k⟩=>⟨d,hd,fun a b x1 x2 x3 x4 x5 x6 x7 x8=>k a b x1 x2 x3 x4 x5 x6 (aw x7 h) x8⟩) ps
  (fun p hp=>by obtain⟨e,d,he,hd,k⟩:=A7 hm nb l0 l1 e0 e1 nz p (ok p hp);exact⟨e,he,d,hd,k⟩)
 obtain⟨e2,Of,k2⟩:=BJ ps pw
 obtain⟨e,he,z1,z2⟩:=iI OP Of
 obtain⟨d1,O4,k3⟩:=xp (fun(p:nK) d=>∀a b,A<=a->b<=B->a<=b->b-a<=d->a∉Z->b∉Z->ab (p.q a)<=e->p.side a->(sg (r0 b)-sg (r0 a))*sg (r1 a)=p.gm*(p.J b-p.J a))
  (fun p d d' h k a b x1 x2 x3 x4=>k a b x1 x2 x3 (aw x4 h)) ps
  (fun p hp=>by obtain⟨d,hd,k⟩:=k1 p hp;exact⟨d,hd,fun a b x1 x2 x3 x4 x5 x6 x7 x8=>k a b x1 x2 x3 x4 x5 x6 (by grind) x8⟩)
 obtain⟨d2,hd2,k4⟩:=xp (fun(p:nK) d=>∀a b,A<=a->b<=B->a<=b->b-a<=d->p.J a≠p.J b->ab (p.q a)<=e/\p.side a) (fun p d d' h k a b x1 x2 x3 x4=>k a b x1 x2 x3 (aw x4 h)) ps
  (fun p hp=>(ok p hp).Ss e he)
 obtain⟨c,hc,k5⟩:=away e he
 obtain⟨D,hD,k6⟩:=ld.bd
 obtain⟨d3,QM,k7⟩:=l0.near (e:=c*D⁻¹ / 2) (by have:=aM hc (Rat.inv_pos.mpr hD);grind)
 obtain⟨d4,W5,y1,y2⟩:=iI QN O4
 obtain⟨d5,W4,y3,y4⟩:=iI hd2 QM
 obtain⟨d,hd,y5,y6⟩:=iI W5 W4
 refine⟨d,hd,fun a b hA hB Mn O3 za zb=>?_⟩
 have Nu:a<=B:=aw Mn hB
 have s:=st a b hA hB Mn (by grind)
 rcases xw (a:=a) (b:=b) (e:=e) ps (fun p hp=>k4 p hp a b hA hB Mn (by grind)) (k2 e z2 a hA Nu) with⟨p,hp,⟨n1,n2⟩,q⟩ | ⟨n,q⟩
 ·have:=k3 p hp a b hA hB Mn (by grind) za zb n1 n2
  rw[this] at s;lia
 ·have h1:=k5 a hA Nu n
  have h2:=k6 a hA Nu
  have big:c*D⁻¹ / 2<ab (r0 a):=Rat.not_le.mp fun z=>by
   rw[<-e0 a,bP] at h1
   have h3:=bM (de (dd a)) z
   have cp:=aM hc (Rat.inv_pos.mpr hD)
   have h4:=bM (show 0<=c*D⁻¹ / 2 by grind) h2
   have h5:c*D⁻¹ / 2*D=c / 2:=by grind
   grind
  have:=r8 (k7 a b hA hB Mn (by grind)) big
  rw[this] at s
  simp at s;lia
def HY{rs:List (Rat->Rat)}(ch:NP A B (r0::r1::rs))(ld:LI A B dd)(e0:∀x,dd x*r0 x=F x)(e1:∀x,dd x*r1 x=G x)(nz:∀x,A<=x->x<=B->x∉Z->F x≠0)(ps:List nK)(ok:∀p∈ps,wC A B Z F G p)(pw:ps.Pairwise (vC A B))(away:∀e:Rat,0<e->∃c:Rat,0<c/\∀x,A<=x->x<=B->(∀p∈ps,¬(ab (p.q x)<=e/\p.side x))->c<=ab (F x)){a b:Rat}(hA:A<=a)(hB:b<=B)(Mn:a<=b)(ha:a∉Z)(hb:b∉Z):Ul (oP (r0::r1::rs) a)+nZ ps a=Ul (oP (r0::r1::rs) b)+nZ ps b:=by
 obtain⟨d,hd,st⟩:=Bj ch ld e0 e1 nz ps ok pw away
 exact Ig Z (fun x=>Ul (oP (r0::r1::rs) x)+nZ ps x) hd st a b hA hB Mn ha hb
end
end My
namespace My
variable {K:dq}
section
variable {A B:Rat}{Z:List Rat}
structure NO where
 q:Rat->Rat
 s:Rat->Rat
def dO:List NO->Rat->Rat
 |[],_=>1
 |p::l,x=>p.q x*dO l x
def jb:List NO->Rat->Rat
 |[],_=>0
 |p::l,x=>p.s x*dO l x+p.q x*jb l x
def Off(A B:Rat)(q p:Rat->Rat):Prop:=∃e c:Rat,0<e/\0<c/\∀x,A<=x->x<=B->ab (q x)<=e->c<=ab (p x)
def Off.MO{q p s t:Rat->Rat}{r:Rat}(hs:LI A B s)(ht:LI A B t)(hr:r≠0)(h:∀x,s x*q x+t x*p x=r):Off A B q p:=by
 obtain⟨S,hS,b1⟩:=hs.bd
 obtain⟨T,hT,b2⟩:=ht.bd
 have pr:=qK hr
 obtain⟨e,he,k⟩:=iS (M:=S) (u:=ab r / 2) (aQ hS) (by grind)
 obtain⟨c,hc,k2⟩:=iS (M:=T) (u:=ab r / 4) (aQ hT) (by grind)
 refine⟨e,c,he,hc,fun x hx hy z=>Rat.not_lt.mp fun w=>?_⟩
 have a1:=lC (s x*q x) (t x*p x)
 rw[h x,bP,bP] at a1
 have a2:=aA (show 0<=S-ab (s x) by have:=b1 x hx hy;grind) (de (q x))
 have a3:=bM (aQ hS) z
 have a4:=aA (show 0<=T-ab (t x) by have:=b2 x hx hy;grind) (de (p x))
 have a5:=bM (aQ hT) (aQ w)
 grind
def Off.mul{q p r:Rat->Rat}(h1:Off A B q p)(h2:Off A B q r):Off A B q fun x=>p x*r x:=by
 obtain⟨e1,c1,OP,NK,k1⟩:=h1
 obtain⟨e2,c2,Of,Oz,k2⟩:=h2
 obtain⟨e,he,z1,z2⟩:=iI OP Of
 refine⟨e,c1*c2,he,aM NK Oz,fun x hx hy z=>?_⟩
 have a:=k1 x hx hy (aw z z1)
 have b:=k2 x hx hy (aw z z2)
 rw[bP]
 have:=aA (show 0<=ab (p x)-c1 by grind) (show 0<=c2 by grind)
 have:=aA (show 0<=ab (p x) by grind) (show 0<=ab (r x)-c2 by grind)
 grind
def Cc(k:NO)(lk:LI A B k.q/\LI A B k.s):∀l:List NO,(∀p∈l,LI A B p.q/\LI A B p.s)->(∀p∈l,p=k\/Off A B k.q p.q) ->
  ∃(n:Nat) (h h':Rat->Rat),LI A B h/\LI A B h'/\(∀x,dO l x=k.q x ^ n*h x)/\(∀x,k.q x*jb l x=((n:Rat)*k.s x*h x+k.q x*h' x)*k.q x ^ n)/\Off A B k.q h/\(k∈l->1<=n)
 |[],_,_=>⟨0,fun _=>1,fun _=>0,.const 1,.const 0,fun x=>by simp[dO],fun x=>by
   have:((0:Nat):Rat)=0:=rfl
   simp only[jb,fI];grind,⟨1,1,by grind,by grind,fun x _ _ _=>by show(1:Rat)<=ab 1;decide⟩,fun z=>nomatch z⟩
 |p::l,NC,of=>by
  obtain⟨n,h,h',l1,l2,e1,e2,o,hn⟩:=Cc k lk l (fun p hp=>NC p (aj _ hp)) (fun p hp=>of p (aj _ hp))
  by_cases c:p=k
  ·subst c
   refine⟨n+1,h,h',l1,l2,fun x=>?_,fun x=>?_,o,fun _=>by lia⟩
   ·show p.q x*dO l x=_
    rw[e1,dh];grind
   ·show p.q x*(p.s x*dO l x+p.q x*jb l x)=_
    have:=e2 x
    rw[e1,dh,Fc]
    have e:((1:Nat):Rat)=1:=rfl
    grind
  ·have o1:=(of p (by simp)).resolve_left c
   have lp:=NC p (by simp)
   refine⟨n,fun x=>p.q x*h x,fun x=>p.s x*h x+p.q x*h' x,lp.1.mul l1,(lp.2.mul l1).add (lp.1.mul l2),fun x=>?_,fun x=>?_,o1.mul o,fun z=>?_⟩
   ·show p.q x*dO l x=_
    rw[e1];grind
   ·show k.q x*(p.s x*dO l x+p.q x*jb l x)=_
    have:=e2 x
    rw[e1];grind
   ·rcases aC.mp z with z | z
    ·exact absurd z.symm c
    ·exact hn z
def vh:∀(l:List NO) (e:Rat),0<e->∃c:Rat,0<c/\∀x,(∀p∈l,e<=ab (p.q x))->c<=ab (dO l x)
 |[],_,_=>⟨1,by grind,fun x _=>by show(1:Rat)<=ab 1;decide⟩
 |p::l,e,he=>by
  obtain⟨c,hc,k⟩:=vh l e he
  refine⟨e*c,aM he hc,fun x h=>?_⟩
  have a:=h p (by simp)
  have b:=k x fun p hp=>h p (aj _ hp)
  show e*c<=ab (p.q x*dO l x)
  rw[bP]
  have:=aA (show 0<=ab (p.q x)-e by grind) (show 0<=c by grind)
  have:=aA (show 0<=ab (p.q x) by grind) (show 0<=ab (dO l x)-c by grind)
  grind
end
end My
namespace My
variable {K:dq}
section
variable {A B:Rat}{Z:List Rat}
def DG(x y:Rat):ab x-ab y<=ab (x+y):=by
 rcases aO x with h | h<;>rcases aO y with k | k<;>rcases aO (x+y) with z | z<;>grind
def Cf{x y:Rat}(h:ab y<ab x):sg (x+y)=sg x:=r8 (a:=x) (e:=ab y) (by rw[show x+y-x=y by grind];exact dF) h
def dY{a b c d:Rat}(ha:0<=a)(hc:0<=c)(h1:a<=b)(h2:c<=d):a*c<=b*d:=by
 have:=aA (show 0<=b-a by grind) (show 0<=d by grind)
 have:=aA ha (show 0<=d-c by grind)
 grind
def z9{x:Rat}(h:x≠0):sg x*sg x=1:=by
 rcases cq x with⟨_,e⟩ | ⟨_,e⟩ | ⟨z,e⟩
 ·rw[e];rfl
 ·rw[e];rfl
 ·exact absurd z h
def CF{q s h h' g k R F S Mc n C e H H' K R0 s0 h0:Rat}(n1:1<=n)(hk:0<Mc)(hH:0<H)(hR:0<R0)(hs:0<s0)(hh:0<h0)(hC:0<C)(bq:ab q<=e)(bH:ab h<=H)(Qe:ab h'<=H')(bK:ab k<=K)(lR:R0<=ab R)(ls:s0<=ab s)(lh:h0<=ab h)(i1:q*h*S=(n*s*h+q*h')*F)(i2:Mc*g=q*k+R)(z1:e*H'<=s0*h0 / 4)(z2:e*K<=R0 / 4)(z3:C*Mc*H*e<=R0*(s0*h0) / 4)(nF:F≠0)(nq:q≠0):
    C*ab F<=ab (S*g)/\sg (F*(S*g))=sg R*(sg q*sg s):=by
  have e0:0<=e:=aw (de q) bq
  have sh:=dY (aQ hs) (aQ hh) ls lh
  have m1:s0*h0<=ab (n*s*h):=by
    rw[bP,bP]
    have en:ab n=n:=by rcases aO n with x | x<;>grind
    rw[en]
    have:=dY (show(0:Rat)<=1 by grind) (aA (aQ hs) (aQ hh)) n1 sh
    grind
  have m2:ab (q*h')<=s0*h0 / 4:=by
    rw[bP];exact aw (dY (de q) (de h') bq Qe) z1
  have sp:=aM hs hh
  have m3:s0*h0 / 2<=ab (n*s*h+q*h'):=by have:=DG (n*s*h) (q*h');grind
  have m4:sg (n*s*h+q*h')=sg s*sg h:=by
    rw[Cf (by grind),dX,dX,dI (show 0<n by grind)];simp
  have g2:ab (q*k)<=R0 / 4:=by rw[bP];exact aw (dY (de q) (de k) bq bK) z2
  have g3:R0 / 2<=Mc*ab g:=by
    have t:=DG R (q*k)
    rw[show R+q*k=Mc*g by grind,bP Mc g] at t
    have:ab Mc=Mc:=by rcases aO Mc with x | x<;>grind
    grind
  have g4:sg g=sg R:=by
    have t:sg (Mc*g)=sg R:=by rw[i2,show q*k+R=R+q*k by grind];exact Cf (by grind)
    rw[dX,dI hk] at t;simpa using t
  constructor
  · -- TV
    have j:ab q*ab h*ab (S*g)=ab (n*s*h+q*h')*ab F*ab g:=by
      rw[<-bP,<-bP,<-bP,<-bP];congr 1;grind
    have j2:R0*(s0*h0) / 4*ab F<=Mc*(ab q*ab h*ab (S*g)):=by
      rw[j]
      have a:=dY (show 0<=R0 / 2 by grind) (show 0<=s0*h0 / 2 by grind) g3 m3
      have b:=cm a (de F)
      grind
    have j3:Mc*(ab q*ab h*ab (S*g))<=Mc*(e*H*ab (S*g)):=by
      have a:=dY (de q) (de h) bq bH
      have b:=cm a (de (S*g))
      exact bM (aQ hk) b
    have j4:=cm z3 (de F)
    have ep:0<e:=by have:=qK nq;grind
    have kp:=aM (aM hk hH) ep
    refine eZ kp ?_
    grind
  · have f1:=z9 nF
    have f2:=z9 nq
    have nh:h≠0:=fun z=>by
                                   rw[z] at lh;have:ab 0=0:=by decide
                                   grind
    have f3:=z9 nh
    have t:sg (q*h*(F*(S*g)))=sg (g*(n*s*h+q*h')*(F*F)):=by congr 1;grind
    rw[dX,dX,dX (g*_),dX g,dX F F,f1,m4,g4] at t
    have t2:sg q*sg h*(sg q*sg h*sg (F*(S*g)))=sg q*sg h*(sg R*(sg s*sg h)*1):=by rw[t]
    have:sg q*sg h*(sg q*sg h*sg (F*(S*g)))=(sg q*sg q)*(sg h*sg h)*sg (F*(S*g)):=by grind
    rw[this,f2,f3] at t2
    have:sg q*sg h*(sg R*(sg s*sg h)*1)=sg R*(sg q*sg s)*(sg h*sg h):=by grind
    rw[this,f3] at t2
    simpa using t2
def Bf{q s h h' g k F S Mc n H H' K Q Sm h0:Rat}(n0:0<=n)(hk:0<Mc)(hh:0<h0)(bq:ab q<=Q)(bs:ab s<=Sm)(bH:ab h<=H)(Qe:ab h'<=H')(bK:ab k<=K)(lh:h0<=ab h)(i1:q*h*S=(n*s*h+q*h')*F)(i2:Mc*g=q*k)(nq:q≠0):Mc*h0*ab (S*g)<=K*(n*Sm*H+Q*H')*ab F:=by
 have j:Mc*h*(S*g)=k*(n*s*h+q*h')*F:=by
  have:q*(Mc*h*(S*g)-k*(n*s*h+q*h')*F)=0:=by
   have a:q*(Mc*h*(S*g))=(q*h*S)*(Mc*g):=by grind
   rw[show q*(Mc*h*(S*g)-k*(n*s*h+q*h')*F)=q*(Mc*h*(S*g))-q*(k*(n*s*h+q*h')*F) by grind,a,i1,i2];grind
  rcases Rat.mul_eq_zero.mp this with z | z
  ·exact absurd z nq
  ·grind
 have j2:Mc*ab h*ab (S*g)=ab k*ab (n*s*h+q*h')*ab F:=by
  have:ab Mc=Mc:=by rcases aO Mc with x | x<;>grind
  rw[<-bP k,<-bP (k*_),<-j,bP (Mc*h),bP Mc,this]
 have m:ab (n*s*h+q*h')<=n*Sm*H+Q*H':=by
  have t:=lC (n*s*h) (q*h')
  rw[bP,bP,bP q] at t
  have en:ab n=n:=by rcases aO n with x | x<;>grind
  rw[en] at t
  have a:=dY (de q) (de h') bq Qe
  have b:=dY (de s) (de h) bs bH
  have c:=bM n0 b
  grind
 have a:=cm (dY (de k) (de _) bK m) (de F)
 have b:Mc*h0*ab (S*g)<=Mc*ab h*ab (S*g):=cm (bM (aQ hk) lh) (de _)
 grind
end
end My
namespace My
variable {K:dq}
section
variable {A B:Rat}{Z:List Rat}
def Kl(A B:Rat)(q:Rat->Rat)(side:Rat->Prop)(g:Rat->Rat)(gm:Int):Prop:=
 ∃(Mc:Rat) (k R:Rat->Rat),0<Mc/\LI A B k/\(∀x,Mc*g x=q x*k x+R x) /\
  ((∃e R0:Rat,0<e/\0<R0/\∀x,A<=x->x<=B->ab (q x)<=e->side x->R0<=ab (R x)/\sg (R x)=gm)\/(gm=0/\∀x,R x=0))
def u9{l:List NO}{k:NO}{g:Rat->Rat}{p:nK}(hk:k∈l)(hp:p.q=k.q)(NC:∀p∈l,LI A B p.q/\LI A B p.s)(off:∀p∈l,p=k\/Off A B k.q p.q)(VD:∃e s0:Rat,0<e/\0<s0/\∀x,A<=x->x<=B->ab (k.q x)<=e->s0<=ab (k.s x))(hJ:∃e:Rat,0<e/\∀x,A<=x->x<=B->ab (k.q x)<=e->p.side x->p.J x=sg (k.q x)*sg (k.s x))(nz:∀x,A<=x->x<=B->x∉Z->k.q x≠0/\dO l x≠0)(hg:Kl A B k.q p.side g p.gm):
  (∀C:Rat,0<C->∃e:Rat,0<e/\∀x,A<=x->x<=B->x∉Z->ab (p.q x)<=e->p.side x->C*ab (dO l x)<=ab (jb l x*g x)/\sg (dO l x*(jb l x*g x))=p.gm*p.J x) \/
  (p.gm=0/\∃C e:Rat,0<C/\0<e/\∀x,A<=x->x<=B->x∉Z->ab (p.q x)<=e->p.side x->ab (jb l x*g x)<=C*ab (dO l x)):=by
 have lk:=NC k hk
 obtain⟨n,h,h',lh,Sn,f1,f2,⟨eo,h0,OO,RF,T2⟩,hn⟩:=Cc k lk l NC off
 have n1:(1:Rat)<=n:=by
  have:=hn hk
  have:((1:Nat):Rat)<=(n:Rat):=Rat.natCast_le_natCast.mpr this
  exact this
 have i1:∀x,k.q x*h x*jb l x=((n:Rat)*k.s x*h x+k.q x*h' x)*dO l x:=fun x=>by
  have a:=f2 x
  rw[f1 x]
  have:k.q x*h x*jb l x=h x*(k.q x*jb l x):=by grind
  rw[this,a];grind
 obtain⟨H,hH,bH⟩:=lh.bd
 obtain⟨H',S8,Qe⟩:=Sn.bd
 obtain⟨Mc,kk,R,OM,Wt,gi,gc⟩:=hg
 obtain⟨K,hK,bK⟩:=Wt.bd
 rw[hp]
 rcases gc with⟨eR,R0,W0,Ut,gR⟩ | ⟨g0,gR⟩
 ·left
  intro C hC
  obtain⟨es,s0,SY,P0,sl⟩:=VD
  obtain⟨ej,WZ,jl⟩:=hJ
  have sp:=aM P0 RF
  obtain⟨t1,WG,u1⟩:=iS (M:=H') (u:=s0*h0 / 4) (aQ S8) (by grind)
  obtain⟨t2,Qw,u2⟩:=iS (M:=K) (u:=R0 / 4) (aQ hK) (by grind)
  have rp:=aM Ut sp
  have Vd:=aM (aM hC OM) hH
  obtain⟨t3,WE,u3⟩:=iS (M:=C*Mc*H) (u:=R0*(s0*h0) / 4) (aQ Vd) (by grind)
  obtain⟨a1,Xg,y1,y2⟩:=iI WG Qw
  obtain⟨a2,Xf,y3,y4⟩:=iI WE OO
  obtain⟨a3,Xe,y5,y6⟩:=iI W0 SY
  obtain⟨a4,Xd,y7,y8⟩:=iI Xg Xf
  obtain⟨a5,Xc,y9,Vo⟩:=iI Xe WZ
  obtain⟨e,he,Ri,R1⟩:=iI Xd Xc
  refine⟨e,he,fun x hx hy zx qx sx=>?_⟩
  obtain⟨nq,nF⟩:=nz x hx hy zx
  have c1:e<=t1:=aw Ri (aw y7 y1)
  have c2:e<=t2:=aw Ri (aw y7 y2)
  have c3:e<=t3:=aw Ri (aw y8 y3)
  have c4:e<=eo:=aw Ri (aw y8 y4)
  have c5:e<=eR:=aw R1 (aw y9 y5)
  have c6:e<=es:=aw R1 (aw y9 y6)
  have c7:e<=ej:=aw R1 Vo
  obtain⟨lR,sR⟩:=gR x hx hy (aw qx c5) sx
  have r:=CF n1 OM hH Ut P0 RF hC qx (bH x hx hy) (Qe x hx hy) (bK x hx hy) lR (sl x hx hy (aw qx c6)) (T2 x hx hy (aw qx c4)) (i1 x) (gi x)
   (by have:=bM (aQ S8) c1;rw[Rat.mul_comm e];exact aw this u1) (by have:=bM (aQ hK) c2;rw[Rat.mul_comm e];exact aw this u2)
   (aw (bM (aQ Vd) c3) u3) nF nq
  refine⟨r.1,?_⟩
  rw[r.2,sR,jl x hx hy (aw qx c7) sx]
 ·right
  refine⟨g0,?_⟩
  obtain⟨Q,hQ,bQ⟩:=lk.1.bd
  obtain⟨S,hS,bS⟩:=lk.2.bd
  have np:0<(n:Rat):=by grind
  have p1:0<K*((n:Rat)*S*H+Q*H'):=by
   have a:=aM (aM np hS) hH
   have b:=aM hQ S8
   exact aM hK (by grind)
  have p2:=aM OM RF
  refine⟨K*((n:Rat)*S*H+Q*H')*(Mc*h0)⁻¹,eo,aM p1 (Rat.inv_pos.mpr p2),OO,fun x hx hy zx qx sx=>?_⟩
  obtain⟨nq,nF⟩:=nz x hx hy zx
  have r:=Bf (aQ np) OM RF (bQ x hx hy) (bS x hx hy) (bH x hx hy) (Qe x hx hy) (bK x hx hy) (T2 x hx hy qx) (i1 x) (by rw[gi x,gR x,Rat.add_zero]) nq
  refine eZ p2 ?_
  have e:Mc*h0*(K*((n:Rat)*S*H+Q*H')*(Mc*h0)⁻¹*ab (dO l x))=K*((n:Rat)*S*H+Q*H')*ab (dO l x)*(Mc*h0*(Mc*h0)⁻¹):=by grind
  rw[e,Rat.mul_inv_cancel _ (by grind),DY]
  exact r
end
end My
namespace My
open PySem L2 L2.EV
variable {K:dq}
def my{A B:Rat}:∀f:aI,LI A B (aG f)
 |[]=>(LI.const 0).congr fun x=>rfl
 |c::f=>((LI.const (c:Rat)).add (LI.id.mul (my f))).congr fun x=>rfl
def qB:aI->Rat->Rat
 |[],_=>0
 |c::f,x=>aG f x+x*qB f x
def OC(φ:Rat->Rat)(x D:Rat):Prop:=∃M:Rat,0<=M/\∀t,0<=t->t<=1->ab (φ (x+t)-φ x-t*D)<=M*(t*t)
def OC.bd{φ:Rat->Rat}{x D:Rat}(h:OC φ x D):∃M:Rat,0<=M/\∀t,0<=t->t<=1->ab (φ (x+t)-φ x)<=M*t:=by
 obtain⟨M,m0,h⟩:=h
 refine⟨M+ab D,by have:=de D;grind,fun t t0 t1=>?_⟩
 have a:=h t t0 t1
 have b:=lC (φ (x+t)-φ x-t*D) (t*D)
 rw[show φ (x+t)-φ x-t*D+t*D=φ (x+t)-φ x by grind,bP] at b
 have c:ab t=t:=by rcases aO t with z | z<;>grind
 have d:=aA m0 (aA t0 (show 0<=1-t by grind))
 grind
def OC.mul{φ ψ:Rat->Rat}{x D E:Rat}(h:OC φ x D)(k:OC ψ x E):OC (fun x=>φ x*ψ x) x (D*ψ x+φ x*E):=by
 obtain⟨M1,b0,hb⟩:=h.bd
 obtain⟨N1,c0,kb⟩:=k.bd
 obtain⟨M,m0,h⟩:=h
 obtain⟨N,n0,k⟩:=k
 refine⟨M*ab (ψ x)+ab (φ x)*N+M1*N1,?_,fun t t0 t1=>?_⟩
 ·have:=aA m0 (de (ψ x));have:=aA (de (φ x)) n0;have:=aA b0 c0;grind
 ·have e:φ (x+t)*ψ (x+t)-φ x*ψ x-t*(D*ψ x+φ x*E)=((φ (x+t)-φ x-t*D)*ψ x+φ x*(ψ (x+t)-ψ x-t*E))+(φ (x+t)-φ x)*(ψ (x+t)-ψ x):=by grind
  rw[e]
  have a1:=lC ((φ (x+t)-φ x-t*D)*ψ x+φ x*(ψ (x+t)-ψ x-t*E)) ((φ (x+t)-φ x)*(ψ (x+t)-ψ x))
  have a2:=lC ((φ (x+t)-φ x-t*D)*ψ x) (φ x*(ψ (x+t)-ψ x-t*E))
  rw[bP _ (ψ x),bP (φ x)] at a2
  rw[bP (φ (x+t)-φ x)] at a1
  have b1:=cm (h t t0 t1) (de (ψ x))
  have b2:=bM (de (φ x)) (k t t0 t1)
  have b3:=dY (de _) (de _) (hb t t0 t1) (kb t t0 t1)
  grind
def OC.unique{φ:Rat->Rat}{x D E:Rat}(h:OC φ x D)(k:OC φ x E):D=E:=by
 obtain⟨M,m0,h⟩:=h
 obtain⟨N,n0,k⟩:=k
 refine p6 fun ne=>?_
 have pd:=qK (show D-E≠0 from fun z=>ne (by grind))
 obtain⟨t',WH,u⟩:=iS (M:=M+N) (u:=ab (D-E) / 2) (by grind) (by grind)
 obtain⟨t,ht,z1,z2⟩:=iI WH (show(0:Rat)<1 by grind)
 have a:=h t (aQ ht) z2
 have b:=k t (aQ ht) z2
 have c:=lC (φ (x+t)-φ x-t*E) (-(φ (x+t)-φ x-t*D))
 rw[show φ (x+t)-φ x-t*E + -(φ (x+t)-φ x-t*D)=t*(D-E) by grind,bP] at c
 have d:ab (-(φ (x+t)-φ x-t*D))=ab (φ (x+t)-φ x-t*D):=by
  rw[show -(φ (x+t)-φ x-t*D)=(-1)*(φ (x+t)-φ x-t*D) by grind,bP,show ab (-1)=1 by decide,l5]
 have e:ab t=t:=by rcases aO t with z | z<;>grind
 rw[d,e] at c
 have f:t*ab (D-E)<=t*((M+N)*t):=by grind
 have g:=eZ ht f
 have i:=bM (show 0<=M+N by grind) z1
 grind
def pP(x:Rat):∀f:aI,OC (aG f) x (qB f x)
 |[]=>⟨0,by grind,fun t _ _=>by show ab (0-0-t*0)<=0*(t*t);rw[show(0:Rat)-0-t*0=0 by grind,show ab 0=0 by decide];grind⟩
 |c::f=>by
  have ih:=pP x f
  obtain⟨N,n0,nb⟩:=ih.bd
  obtain⟨M,m0,h⟩:=ih
  refine⟨ab x*M+N,by have:=aA (de x) m0;grind,fun t t0 t1=>?_⟩
  show ab (((c:Rat)+(x+t)*aG f (x+t))-((c:Rat)+x*aG f x)-t*(aG f x+x*qB f x))<=_
  rw[show((c:Rat)+(x+t)*aG f (x+t))-((c:Rat)+x*aG f x)-t*(aG f x+x*qB f x)=x*(aG f (x+t)-aG f x-t*qB f x)+t*(aG f (x+t)-aG f x) by grind]
  have a:=lC (x*(aG f (x+t)-aG f x-t*qB f x)) (t*(aG f (x+t)-aG f x))
  rw[bP x,bP t] at a
  have e:ab t=t:=by rcases aO t with z | z<;>grind
  rw[e] at a
  have b:=bM (de x) (h t t0 t1)
  have d:=bM t0 (nb t t0 t1)
  grind
def By(f g:aI)(x:Rat):qB (aX f g) x=qB f x*aG g x+aG f x*qB g x:=by
 have a:=pP x (aX f g)
 have b:=(pP x f).mul (pP x g)
 have e:(fun x=>aG f x*aG g x)=aG (aX f g):=funext fun x=>(lx f g x).symm
 rw[e] at b
 exact a.unique b
def sO(c:Int)(f:aI)(i:Nat):(bz (c::f)).getD i 0=(1+(i:Int))*f.getD i 0:=by
 unfold bz
 rw[List.getD_eq_getElem?_getD,List.getElem?_map]
 by_cases h:i<(c::f).length-1
 ·rw[List.getElem?_range h]
  show(1+(i:Int))*(c::f).getD (1+i) 0=_
  rw[Kq 1 i];rfl
 ·rw[List.getElem?_eq_none (by simp at h ⊢;lia)]
  have:f.getD i 0=0:=by rw[List.getD_eq_getElem?_getD,List.getElem?_eq_none (by simp at h;lia)];rfl
  rw[this];simp
def vE(f:aI)(q:Rat):Nat->Rat
 |0=>0
 |i+1=>vE f q i+((1+(i:Rat))*(f.getD i 0:Rat))*q ^ i
def uY(c:Int)(f:aI)(q:Rat):∀n,vE (c::f) q (n+1)=ei (c::f) q (n+1)+q*vE f q n
 |0=>by
  have:((0:Nat):Rat)=0:=rfl
  show 0+((1+((0:Nat):Rat))*(c:Rat))*q ^ 0=(0+(c:Rat)*q ^ 0)+q*0
  rw[this];grind
 |n+1=>by
  have ih:=uY c f q n
  show vE (c::f) q (n+1)+((1+((n+1:Nat):Rat))*(f.getD n 0:Rat))*q ^ (n+1)=(ei (c::f) q (n+1)+(f.getD n 0:Rat)*q ^ (n+1))+q*(vE f q n+((1+(n:Rat))*(f.getD n 0:Rat))*q ^ n)
  rw[ih,dh,Fc]
  have:((1:Nat):Rat)=1:=rfl
  grind
def wZ:∀(f:aI) (q:Rat) (n:Nat),f.length<=n->vE f q n=aG f q+q*qB f q
 |[],q,n,_=>by
  have:∀n,vE [] q n=0:=fun n=>by
   induction n with
   |zero=>rfl
   |succ n ih=>show vE [] q n+((1+(n:Rat))*((0:Int):Rat))*q ^ n=0;rw[ih];have:((0:Int):Rat)=0:=rfl;grind
  rw[this];show(0:Rat)=0+q*0;grind
 |c::f,q,0,h=>by simp at h
 |c::f,q,n+1,h=>by
  rw[uY,j0 h,wZ f q n (by simp at h;lia)];rfl
def tm(c:Int)(f:aI)(q:Rat):∀n,ei (bz (c::f)) q n=vE f q n
 |0=>rfl
 |n+1=>by
  show ei (bz (c::f)) q n+((bz (c::f)).getD n 0:Rat)*q ^ n=_
  rw[tm c f q n,sO,aq,e8];rfl
def yY:∀(f:aI) (x:Rat),aG (bz f) x=qB f x
 |[],x=>rfl
 |c::f,x=>by
  have hl:(bz (c::f)).length=f.length:=by unfold bz;simp
  rw[<-j0 (f:=bz (c::f)) (n:=f.length) (by lia),tm,wZ _ _ _ (az _)];rfl
def vc{g r s:aI}{sh:Nat}{up dn:Int}{x:Rat}(h:∀i,s.getD i 0=up*r.getD i 0-(if sh<=i then dn*g.getD (i-sh) 0 else 0)):
  ∀n,ei s x n=(up:Rat)*ei r x n-(dn:Rat)*x ^ sh*(if sh<=n then ei g x (n-sh) else 0)
 |0=>by
  show(0:Rat)=(up:Rat)*0-(dn:Rat)*x ^ sh*_
  split
  ·rw[Nat.zero_sub];show(0:Rat)=(up:Rat)*0-(dn:Rat)*x ^ sh*0;grind
  ·grind
 |n+1=>by
  show ei s x n+(s.getD n 0:Rat)*x ^ n=(up:Rat)*(ei r x n+(r.getD n 0:Rat)*x ^ n)-_
  rw[vc h n,h n,bx,aq]
  by_cases c:sh<=n
  ·have pw:x ^ n=x ^ sh*x ^ (n-sh):=by
    have e2:∀m k:Nat,x ^ (m+k)=x ^ m*x ^ k:=by
     intro m k
     induction k with
     |zero=>rw[Kp,fI,DY]
     |succ k ih=>rw[<-Ja,dh,dh,ih,IY]
    rw[<-e2];congr 1;lia
   rw[aB c,aB c,aB (by lia),show n+1-sh=(n-sh)+1 by lia,aq]
   show _=_-(dn:Rat)*x ^ sh*(ei g x (n-sh)+(g.getD (n-sh) 0:Rat)*x ^ (n-sh))
   rw[pw];grind
  ·rw[ay c,ay c]
   by_cases c2:sh<=n+1
   ·rw[aB c2,show n+1-sh=0 by lia]
    show _=_-(dn:Rat)*x ^ sh*0
    have:((0:Int):Rat)=0:=rfl
    grind
   ·rw[ay c2];have:((0:Int):Rat)=0:=rfl
    grind
def FO{g:aI}(hl:aL g≠0)(a:Int):0<rX g a:=by
 obtain⟨c,hc,e,_⟩:=B3 hl a
 have h:0<aL g*aL g:=by
  rcases gF hl with z | z
  ·have:=Int.mul_pos_of_neg_of_neg z z;exact this
  ·exact Lc z z
 rw[e] at h
 by_cases z:0<rX g a
 ·exact z
 ·have:=Hz (Int.le_of_lt hc) (show 0 <= -(rX g a) by lia)
  rw[Ld] at this;lia
def LI.pow{A B:Rat}:∀n:Nat,LI A B fun x=>x ^ n
 |0=>(LI.const 1).congr fun x=>fI x
 |n+1=>((LI.pow n).mul LI.id).congr fun x=>dh x n
def DK(f:Rat->Rat):Prop:=∀A B,LI A B f
def Bw{g r:aI}{n:Nat}(hl:aL g≠0)(hr:r.length=n+1)(hg:g.length<=n+1)(x:Rat):
  aG (eY g r) x=(rX g (aL r):Rat)*aG r x-(vt g (aL r):Rat)*x ^ (n+1-g.length)*aG g x:=by
 have e:=sK hl hr hg
 have SA:r≠[]:=fun z=>by subst z;simp at hr
 have e1:r.getD n 0=aL r:=by have:=jr SA;rwa [hr] at this
 have h:∀i,(eY g r).getD i 0=rX g (aL r)*r.getD i 0-(if n+1-g.length<=i then vt g (aL r)*g.getD (i-(n+1-g.length)) 0 else 0):=fun i=>by
  have:=Hw e i
  simp only[w8,e1] at this
  exact this
 have k:=vc (x:=x) h (n+1)
 rw[aB (by lia),j0 (by rw[gz];lia),j0 (by lia),j0 (by lia)] at k
 exact k
def Ds{g:aI}(hl:aL g≠0):∀(n:Nat) (r:aI),r.length=n->∃(al:Rat) (q:Rat->Rat),0<al/\DK q/\∀x,al*aG r x=q x*aG g x+aG (jD g n r) x
 |0,r,_=>⟨1,fun _=>0,by grind,fun _ _=>.const 0,fun x=>by show 1*aG r x=0*aG g x+aG r x;grind⟩
 |n+1,r,hr=>by
  unfold jD
  by_cases h:n+1<g.length
  ·rw[aB h];exact⟨1,fun _=>0,by grind,fun _ _=>.const 0,fun x=>by show 1*aG r x=0*aG g x+aG r x;grind⟩
  ·rw[ay h]
   obtain⟨al,q,ha,lq,e⟩:=Ds hl n (eY g r) (by rw[gz];lia)
   refine⟨al*(rX g (aL r):Rat),fun x=>q x+al*(vt g (aL r):Rat)*x ^ (n+1-g.length),aM ha (Rat.intCast_pos.mpr (FO hl _)),fun A B=>(lq A B).add ((LI.pow _).smul _),fun x=>?_⟩
   have k:=Bw hl hr (by lia) x
   have:=e x
   rw[k] at this
   grind
def C3(f:aI):∀x∈f,(gl f:Int) ∣ x:=by
 have key:∀(f:aI) (a:Nat),(f.foldl (fun g x=>Nat.gcd g x.natAbs) a ∣ a)/\∀x∈f,f.foldl (fun g x=>Nat.gcd g x.natAbs) a ∣ x.natAbs:=by
  intro f
  induction f with
  |nil=>intro a;exact⟨Nat.dvd_refl _,fun x hx=>nomatch hx⟩
  |cons y f ih=>
   intro a
   obtain⟨h1,h2⟩:=ih (Nat.gcd a y.natAbs)
   refine⟨yy h1 (lL _ _),fun x hx=>?_⟩
   rcases aC.mp hx with rfl | hx
   ·exact yy h1 (ia _ _)
   ·exact h2 x hx
 intro x hx
 exact Int.ofNat_dvd_left.mpr ((key f 0).2 x hx)
def ly{c:Rat}{φ:Int->Int}:∀f:aI,(∀x∈f,(x:Rat)=c*(φ x:Rat))->∀q:Rat,aG f q=c*aG (f.map φ) q
 |[],_,q=>by show(0:Rat)=c*0;grind
 |x::f,h,q=>by
  show(x:Rat)+q*aG f q=c*((φ x:Rat)+q*aG (f.map φ) q)
  rw[h x (by simp),ly f (fun y hy=>h y (aj _ hy)) q];grind
def Dd(f:aI):∃c:Rat,0<c/\∀x,aG f x=c*aG (qr f) x:=by
 by_cases h:gl f=0
 ·refine⟨1,by grind,fun x=>ly f (fun y hy=>?_) x⟩
  have d:=C3 f y hy
  rw[h] at d
  have:y=0:=Int.zero_dvd.mp d
  subst this;rw[h,show Int.fdiv 0 ((0:Nat):Int)=0 from rfl,l5]
 ·refine⟨((gl f:Int):Rat),Rat.intCast_pos.mpr (by lia),fun x=>ly f (fun y hy=>?_) x⟩
  obtain⟨k,hk⟩:=C3 f y hy
  rw[hk,bA _ (by lia),aq]
def Db(f:aI)(x:Rat):aG (dy f) x=-aG f x:=by
 have:=ly (c:=-1) (φ:=fun x=>-x) f (fun y _=>by rw[Fd];grind) x
 unfold dy;grind
def Eb{g:aI}(f:aI)(hl:aL g≠0):∃(al be:Rat) (q:Rat->Rat),0<al/\0<be/\DK q/\∀x,al*aG f x=q x*aG g x-be*aG (dy (bF f g)) x:=by
 obtain⟨al,q,ha,lq,e⟩:=Ds hl f.length f rfl
 obtain⟨c,hc,k⟩:=Dd (di (jD g f.length f))
 refine⟨al,c,q,ha,hc,lq,fun x=>?_⟩
 have h:=e x
 have h2:=k x
 rw[vo] at h2
 rw[Db]
 show _=_-c * -aG (qr (di (jD g f.length f))) x
 grind
inductive Lv(dd:Rat->Rat):List aI->List (Rat->Rat)->Prop
 |nil:Lv dd [] []
 |cons {p:aI} {r:Rat->Rat} {ps:List aI} {rs:List (Rat->Rat)} (h:∀x,dd x*r x=aG p x) (t:Lv dd ps rs):Lv dd (p::ps) (r::rs)
def x9{A B:Rat}:∀(n:Nat) (a l:aI),ec l->l≠[]->l.length<n->∃(dd r0 r1:Rat->Rat) (rs:List (Rat->Rat)),DK dd/\NP A B (r0::r1::rs)/\Lv dd (a::cf n a l) (r0::r1::rs)
 |0,_,_,_,_,h=>absurd h (by lia)
 |n+1,a,l,ro,hl,hn=>by
  have la:=dP ro hl
  obtain⟨al,be,q,ha,hb,lq,e⟩:=Eb a la
  show ∃dd r0 r1 rs,_/\_/\Lv dd (a::if l=[] then [] else l::cf n l (dy (bF a l))) _
  rw[ay hl]
  by_cases z:dy (bF a l)=[]
  ·have zz:cf n l (dy (bF a l))=[]:=by rw[z];cases n<;>rfl
   rw[zz]
   refine⟨aG l,fun x=>al⁻¹*q x,fun _=>1,[],fun A B=>my l,.two ((lq A B).smul _) (by grind),.cons (fun x=>?_) (.cons (fun x=>by grind) .nil)⟩
   have:=e x
   rw[z] at this
   have e0:aG [] x=0:=rfl
   rw[e0] at this
   grind
  ·obtain⟨dd,r0,r1,rs,ld,ch,sm⟩:=x9 n l (dy (bF a l)) (tG (mj a l)) z (by rw[kT];have:=kQ (f:=a) hl;lia)
   cases sm with
   |cons h0 t=>
    have WX:∀x,dd x*r1 x=aG (dy (bF a l)) x:=by
     cases n with
     |zero=>simp[cf] at t;exact nomatch t
     |succ n=>
      have e9:cf (n+1) l (dy (bF a l))=dy (bF a l)::cf n (dy (bF a l)) (dy (bF l (dy (bF a l)))):=by
       show(if dy (bF a l)=[] then [] else _)=_
       rw[ay z]
      rw[e9] at t
      cases t with
      |cons h1 _=>exact h1
    refine⟨dd,fun x=>al⁻¹*(q x*r0 x-be*r1 x),r0,r1::rs,ld,.more (lq A B) ha hb (fun x=>by grind) ch,.cons (fun x=>?_) (.cons h0 t)⟩
    have k:=e x
    rw[<-h0 x,<-WX x] at k
    grind
inductive Rt
 |q (a b:Int)
 |s (u e D:Int)
structure Nl(D:Int):Prop where
 two:2<=D
 no:∀P M:Int,P*P=M*M*D->M=0
structure MC(A B:Rat)(r:Rt):Prop where
 NR:∀a b,r=.q a b->0<b
 Mo:∀u e D,r=.s u e D->Nl D/\(e=1\/e=-1)
def bY:Rt->aI
 |.q a b=>[0-a,b]
 |.s u _ D=>[u*u-D,0-2*u,1]
def jN(f:aI):NO:=⟨aG f,qB f⟩
def gO(u D:Int):aI->Int×Int
 |[]=>(0,0)
 |c::f=>(c+u*(gO u D f).1+(gO u D f).2*D,(gO u D f).1+u*(gO u D f).2)
def iT(P M D:Int):Int:=if 0<=P.sign*M.sign then (P.sign+M.sign).sign else P.sign*(P*P-M*M*D).sign
def yU(g:aI):Rt->Int
 |.q a b=>sg (aG g ((a:Rat) / (b:Rat)))
 |.s u e D=>iT (gO u D g).1 (e*(gO u D g).2) D
def qd(u D:Int)(x:Rat):Rat:=(x-u)*(x-u)-D
def fN(g:aI)(r:Rt):nK:=match r with
 |.q a b=>⟨fun x=>(b:Rat)*x-a,fun _=>True,fun x=>sg ((b:Rat)*x-a),yU g r⟩
 |.s u e D=>⟨qd u D,fun x=>0<(e:Rat)*(x-u),fun x=>if 0<(e:Rat)*(x-u) then e*sg (qd u D x) else -e,yU g r⟩
def GW:((0:Int):Rat)=0:=rfl
def JU:((1:Int):Rat)=1:=rfl
def JT:((2:Int):Rat)=2:=rfl
def y0(a b:Int)(x:Rat):aG (bY (.q a b)) x=(b:Rat)*x-a:=by
 show((0-a:Int):Rat)+x*((b:Rat)+x*0)=_
 rw[bx,GW];grind
def FF(a b:Int)(x:Rat):qB (bY (.q a b)) x=(b:Rat):=by
 show((b:Rat)+x*0)+x*(0+x*0)=_
 grind
def yZ(u e D:Int)(x:Rat):aG (bY (.s u e D)) x=qd u D x:=by
 show((u*u-D:Int):Rat)+x*(((0-2*u:Int):Rat)+x*(((1:Int):Rat)+x*0))=_
 unfold qd
 rw[bx,bx,aq,aq,GW,JU,JT];grind
def FE(u e D:Int)(x:Rat):qB (bY (.s u e D)) x=2*(x-u):=by
 show(((0-2*u:Int):Rat)+x*(((1:Int):Rat)+x*0))+x*((((1:Int):Rat)+x*0)+x*(0+x*0))=_
 rw[bx,aq,GW,JU,JT];grind
def AB{A B:Rat}:∀f:aI,LI A B (qB f)
 |[]=>(LI.const 0).congr fun x=>rfl
 |c::f=>((my f).add (LI.id.mul (AB f))).congr fun x=>rfl
def qo{A B:Rat}(u D:Int):LI A B (qd u D):=(my (bY (.s u 1 D))).congr fun x=>(yZ u 1 D x).symm
def lS(a b:Int):(jN (bY (.q a b))).q=fun x=>(b:Rat)*x-a:=funext (y0 a b)
def iJ(u e D:Int):(jN (bY (.s u e D))).q=qd u D:=funext (yZ u e D)
def n4(g:aI)(r:Rt):(fN g r).q=(jN (bY r)).q:=by
 cases r with
 |q a b=>exact(lS a b).symm
 |s u e D=>exact(iJ u e D).symm
def AG(p:Rat):∀f:aI,∃k:Rat->Rat,DK k/\∀x,aG f x=(x-p)*k x+aG f p
 |[]=>⟨fun _=>0,fun _ _=>.const 0,fun x=>by show(0:Rat)=(x-p)*0+0;grind⟩
 |c::f=>by
  obtain⟨k,lk,e⟩:=AG p f
  refine⟨fun x=>x*k x+aG f p,fun A B=>(LI.id.mul (lk A B)).add (.const _),fun x=>?_⟩
  show(c:Rat)+x*aG f x=(x-p)*(x*k x+aG f p)+((c:Rat)+p*aG f p)
  have:=e x;grind
def xQ(u D:Int):∀f:aI,∃k:Rat->Rat,DK k/\∀x,aG f x=qd u D x*k x+(((gO u D f).1:Rat)+((gO u D f).2:Rat)*(x-u))
 |[]=>⟨fun _=>0,fun _ _=>.const 0,fun x=>by show(0:Rat)=qd u D x*0+(((0:Int):Rat)+((0:Int):Rat)*(x-u));rw[GW];grind⟩
 |c::f=>by
  obtain⟨k,lk,e⟩:=xQ u D f
  refine⟨fun x=>x*k x+((gO u D f).2:Rat),fun A B=>(LI.id.mul (lk A B)).add (.const _),fun x=>?_⟩
  show(c:Rat)+x*aG f x=qd u D x*(x*k x+((gO u D f).2:Rat))+(((c+u*(gO u D f).1+(gO u D f).2*D:Int):Rat)+(((gO u D f).1+u*(gO u D f).2:Int):Rat)*(x-u))
  have h:=e x
  rw[e8,e8,e8,aq,aq,aq]
  unfold qd at h ⊢
  rw[h];grind
section
variable {A B:Rat}
def Iw{b:Int}(g:aI)(hb:0<b):Kl A B (jN (bY (.q a b))).q (fun _=>True) (aG g) (yU g (.q a b)):=by
 obtain⟨k,lk,e⟩:=AG ((a:Rat) / (b:Rat)) g
 have pb:0<(b:Rat):=Rat.intCast_pos.mpr hb
 refine⟨1,fun x=>(b:Rat)⁻¹*k x,fun _=>aG g ((a:Rat) / (b:Rat)),by grind,(lk A B).smul _,fun x=>?_,?_⟩
 ·rw[lS]
  have:=e x
  show 1*aG g x=((b:Rat)*x-a)*((b:Rat)⁻¹*k x)+_
  have e2:((b:Rat)*x-a)*((b:Rat)⁻¹*k x)=(x-(a:Rat) / (b:Rat))*k x:=by grind
  rw[e2,l5];exact this
 ·by_cases z:aG g ((a:Rat) / (b:Rat))=0
  ·refine .inr ⟨?_,fun _=>z⟩
   show sg _=0
   rw[z];exact jc
  ·exact .inl ⟨1,ab (aG g ((a:Rat) / (b:Rat))),by grind,qK z,fun x _ _ _ _=>⟨dF,rfl⟩⟩
def kj(n:Int):sg (n:Rat)=n.sign:=by
 rcases ib n 0 with h | h | h
 ·rw[gA (Rat.intCast_neg_iff.mpr h),aN h]
 ·subst h;exact jc
 ·rw[dI (Rat.intCast_pos.mpr h),aY h]
def Em{P M D:Int}(hD:Nl D){K:Rat}(hK:0<K):(P=0/\M=0)\/∃e R0:Rat,0<e/\0<R0/\∀t q:Rat,t*t=q+D->0<t->t<=K->ab q<=e->R0<=ab ((P:Rat)+M*t)/\sg ((P:Rat)+M*t)=iT P M D:=by
 have one:∀n:Int,n≠0->1<=ab (n:Rat):=fun n hn=>by
  rcases gF hn with z | z
  ·have:(n:Rat)<=((-1:Int):Rat):=Rat.intCast_le_intCast.mpr (by lia)
   have e:((-1:Int):Rat)=-1:=rfl
   rcases aO (n:Rat) with k | k<;>grind
  ·have:((1:Int):Rat)<=(n:Rat):=Rat.intCast_le_intCast.mpr (by lia)
   rcases aO (n:Rat) with k | k<;>grind
 have d2:(2:Rat)<=(D:Rat):=by have:((2:Int):Rat)<=(D:Rat):=Rat.intCast_le_intCast.mpr hD.two;exact this
 have VA:∀t q:Rat,t*t=q+D->0<t->ab q<=1->1<=t:=fun t q h h0 hq=>by
  have:=(LL.mp hq).1
  refine Rat.not_lt.mp fun z=>?_
  have:=aM h0 (show 0<1-t by grind)
  grind
 by_cases hP:P=0
 ·by_cases hM:M=0
  ·exact .inl ⟨hP,hM⟩
  ·right
   subst hP
   refine⟨1,1,by grind,by grind,fun t q h h0 hk hq=>?_⟩
   have t1:=VA t q h h0 hq
   have e:((0:Int):Rat)+M*t=M*t:=by rw[GW];grind
   rw[e,bP,dX,kj,dI h0]
   have et:ab t=t:=by rcases aO t with k | k<;>grind
   rw[et]
   refine⟨by have:=dY (show(0:Rat)<=1 by grind) (show(0:Rat)<=1 by grind) (one M hM) t1;grind,?_⟩
   unfold iT;simp
 ·right
  have RK:P.sign=1\/P.sign=-1:=by
   rcases gF hP with z | z
   ·exact .inr (aN z)
   ·exact .inl (aY z)
  by_cases hM:M=0
  ·subst hM
   refine⟨1,1,by grind,by grind,fun t q h h0 hk hq=>?_⟩
   have e:(P:Rat)+((0:Int):Rat)*t=P:=by rw[GW];grind
   rw[e,kj]
   refine⟨one P hP,?_⟩
   unfold iT
   rcases RK with z | z<;>rw[z]<;>rfl
  ·have Xl:M.sign=1\/M.sign=-1:=by
    rcases gF hM with z | z
    ·exact .inr (aN z)
    ·exact .inl (aY z)
   have sP:=kj P
   have sM:=kj M
   by_cases c:P.sign=M.sign
   ·refine⟨1,1,by grind,by grind,fun t q h h0 hk hq=>?_⟩
    have VF:sg ((M:Rat)*t)=M.sign:=by rw[dX,sM,dI h0];simp
    have r1:=one P hP
    constructor
    ·rcases aO (P:Rat) with k | k<;>rcases aO ((M:Rat)*t) with k2 | k2<;>rcases aO ((P:Rat)+M*t) with k3 | k3<;>rcases cq (P:Rat) with z | z | z<;>rcases cq ((M:Rat)*t) with y | y | y<;>grind
    ·have:sg ((P:Rat)+M*t)=P.sign:=by
      rcases cq (P:Rat) with z | z | z<;>rcases cq ((M:Rat)*t) with y | y | y<;>rcases cq ((P:Rat)+M*t) with w | w | w<;>grind
     rw[this];unfold iT;rw[<-c]
     rcases RK with z | z<;>rw[z]<;>rfl
   ·-- unlike
    have nN:P*P-M*M*D≠0:=fun z=>hM (hD.no P M (by lia))
    have rN:=one _ nN
    have eN:((P*P-M*M*D:Int):Rat)=(P:Rat)*P-M*M*D:=by rw[bx,aq,aq,aq]
    obtain⟨e1,OP,u1⟩:=iS (M:=(M:Rat)*M) (u:=1 / 2) (by rcases aO (M:Rat) with k | k;exact aA k.1 k.1;have:=aA (show 0 <= -(M:Rat) by grind) (show 0 <= -(M:Rat) by grind);grind) (by grind)
    have kp:0<ab (P:Rat)+ab (M:Rat)*K:=by have a:=one P hP;have b:=aA (de (M:Rat)) (aQ hK);grind
    refine⟨e1,(ab (P:Rat)+ab (M:Rat)*K)⁻¹ / 2,OP,by have:=Rat.inv_pos.mpr kp;grind,fun t q h h0 hk hq=>?_⟩
    have et:ab t=t:=by rcases aO t with k | k<;>grind
    have mm:ab ((M:Rat)*M*q)<=1 / 2:=by
     rw[bP]
     have e3:ab ((M:Rat)*M)=(M:Rat)*M:=by rcases aO ((M:Rat)*M) with k | k;exact k.2;exfalso;rcases aO (M:Rat) with j | j;have:=aA j.1 j.1;grind;have:=aA (show 0 <= -(M:Rat) by grind) (show 0 <= -(M:Rat) by grind);grind
     rw[e3]
     refine aw (bM ?_ hq) u1
     rw[<-e3];exact de _
    have prod:((P:Rat)+M*t)*((P:Rat)-M*t)=((P*P-M*M*D:Int):Rat) + -((M:Rat)*M*q):=by
     rw[eN]
     have:(M:Rat)*t*(M*t)=M*M*(q+D):=by rw[<-h];grind
     grind
    have an:ab (-((M:Rat)*M*q))=ab ((M:Rat)*M*q):=by rw[show -((M:Rat)*M*q)=(-1)*((M:Rat)*M*q) by grind,bP,show ab (-1)=1 by decide,l5]
    have p1:1 / 2<=ab ((P:Rat)+M*t)*ab ((P:Rat)-M*t):=by
     rw[<-bP,prod]
     have:=DG ((P*P-M*M*D:Int):Rat) (-((M:Rat)*M*q))
     grind
    have p2:sg ((P:Rat)+M*t)*sg ((P:Rat)-M*t)=(P*P-M*M*D).sign:=by
     rw[<-dX,prod,Cf (by grind),kj]
    have VF:sg ((M:Rat)*t)=M.sign:=by rw[dX,sM,dI h0];simp
    have p3:sg ((P:Rat)-M*t)=P.sign:=by
     rcases cq (P:Rat) with z | z | z<;>rcases cq ((M:Rat)*t) with y | y | y<;>rcases cq ((P:Rat)-M*t) with w | w | w<;>grind
    have p4:ab ((P:Rat)-M*t)<=ab (P:Rat)+ab (M:Rat)*K:=by
     have a:=lC (P:Rat) (-(M*t))
     have b:ab (-((M:Rat)*t))=ab (M:Rat)*t:=by rw[show -((M:Rat)*t)=(-1)*(M*t) by grind,bP,show ab (-1)=1 by decide,l5,bP,et]
     have c:=bM (de (M:Rat)) hk
     rw[b] at a
     rw[show(P:Rat)-M*t=P + -(M*t) by grind];grind
    constructor
    ·refine eZ kp ?_
     have a:=bM (de ((P:Rat)+M*t)) p4
     have b:(ab (P:Rat)+ab (M:Rat)*K)*((ab (P:Rat)+ab (M:Rat)*K)⁻¹ / 2)=1 / 2:=by grind
     rw[b];grind
    ·rw[p3] at p2
     unfold iT
     have ns:¬0<=P.sign*M.sign:=by
      rcases RK with z | z<;>rcases Xl with y | y<;>rw[z,y] at c ⊢ <;> simp_all
     rw[ay ns,<-p2]
     rcases RK with z | z<;>rw[z]<;>simp
end
section
variable {A B:Rat}
def fH{e:Int}(h:e=1\/e=-1):((e:Rat)=1/\e=1)\/((e:Rat)=-1/\e=-1):=by
 rcases h with rfl | rfl
 ·exact .inl ⟨rfl,rfl⟩
 ·exact .inr ⟨rfl,rfl⟩
def ee{e:Int}(h:e=1\/e=-1):(e:Rat)*e=1:=by rcases fH h with⟨h,_⟩ | ⟨h,_⟩<;>rw[h]<;>grind
def G0{e D:Int}(g:aI)(hD:Nl D)(he:e=1\/e=-1):Kl A B (jN (bY (.s u e D))).q (fun x=>0<(e:Rat)*(x-u)) (aG g) (yU g (.s u e D)):=by
 obtain⟨k,lk,h⟩:=xQ u D g
 have e2:=ee he
 obtain⟨K,hK,bK⟩:=(LI.sub (A:=A) (B:=B) LI.id (.const (u:Rat))).bd
 have key:∀x,((gO u D g).2:Rat)*(x-u)=((e*(gO u D g).2:Int):Rat)*((e:Rat)*(x-u)):=fun x=>by
  rw[aq]
  have:((e:Rat)*(gO u D g).2)*((e:Rat)*(x-u))=((e:Rat)*e)*((gO u D g).2*(x-u)):=by grind
  rw[this,e2,l5]
 refine⟨1,k,fun x=>((gO u D g).1:Rat)+((gO u D g).2:Rat)*(x-u),by grind,lk A B,fun x=>by rw[l5,iJ];exact h x,?_⟩
 rcases Em (P:=(gO u D g).1) (M:=e*(gO u D g).2) hD hK with⟨p0,m0⟩ | ⟨η,R0,hη,hR,n⟩
 ·refine .inr ⟨?_,fun x=>?_⟩
  ·show iT _ _ _=0
   rw[p0,m0];rfl
  ·show((gO u D g).1:Rat)+((gO u D g).2:Rat)*(x-u)=0
   rw[key x,p0,m0,GW];grind
 ·refine .inl ⟨η,R0,hη,hR,fun x hx hy hq hs=>?_⟩
  show R0<=ab (((gO u D g).1:Rat)+((gO u D g).2:Rat)*(x-u))/\sg (((gO u D g).1:Rat)+((gO u D g).2:Rat)*(x-u))=iT (gO u D g).1 (e*(gO u D g).2) D
  rw[key x]
  rw[iJ] at hq
  refine n ((e:Rat)*(x-u)) (qd u D x) ?_ hs ?_ hq
  ·have:(e:Rat)*(x-u)*((e:Rat)*(x-u))=((e:Rat)*e)*((x-u)*(x-u)):=by grind
   rw[this,e2];unfold qd;grind
  ·have b:=LL.mp (bK x hx hy)
   rcases fH he with⟨h,_⟩ | ⟨h,_⟩<;>rw[h]<;>grind
def GE{a b a' b':Int}(h:a*b'≠a'*b):Off A B (jN (bY (.q a b))).q (jN (bY (.q a' b'))).q:=by
 refine Off.MO (s:=fun _=>(b':Rat)) (t:=fun _=>-(b:Rat)) (r:=((a'*b-a*b':Int):Rat)) (.const _) (.const _) (fun z=>?_) fun x=>?_
 ·have:=Rat.intCast_eq_zero_iff.mp z;lia
 ·rw[lS,lS,bx,aq,aq];grind
def Cb{D:Int}{w b:Int}(hD:Nl D)(hb:b≠0):((w*w-b*b*D:Int):Rat)≠0:=fun z=>by
 have:=Rat.intCast_eq_zero_iff.mp z
 exact hb (hD.no w b (Int.sub_eq_zero.mp this))
def Cp(a b u D:Int)(x:Rat):(b:Rat)*b*qd u D x-(((b:Rat)*x-a)+2*((a:Rat)-b*u))*((b:Rat)*x-a)=(((a-b*u)*(a-b*u)-b*b*D:Int):Rat):=by
 rw[bx,aq,aq,aq,bx,aq]
 unfold qd;grind
def sA(a b:Int):LI A B fun x=>(b:Rat)*x-a:=(LI.id.smul _).sub (.const _)
def GD{b D:Int}(hb:0<b)(hD:Nl D):Off A B (jN (bY (.q a b))).q (jN (bY (.s u e D))).q:=by
 refine Off.MO (s:=fun x=>-(((b:Rat)*x-a)+2*((a:Rat)-b*u))) (t:=fun _=>(b:Rat)*b) (r:=(((a-b*u)*(a-b*u)-b*b*D:Int):Rat)) ((((sA a b).add (.const (2*((a:Rat)-b*u)))).smul (-1)).congr fun x=>by grind) (.const _) (Cb hD (by lia)) fun x=>?_
 rw[lS,iJ,<-Cp a b u D x];grind
def GC{b D:Int}(hb:0<b)(hD:Nl D):Off A B (jN (bY (.s u e D))).q (jN (bY (.q a b))).q:=by
 refine Off.MO (s:=fun _=>(b:Rat)*b) (t:=fun x=>-(((b:Rat)*x-a)+2*((a:Rat)-b*u))) (r:=(((a-b*u)*(a-b*u)-b*b*D:Int):Rat)) (.const _) ((((sA a b).add (.const (2*((a:Rat)-b*u)))).smul (-1)).congr fun x=>by grind) (Cb hD (by lia)) fun x=>?_
 rw[lS,iJ,<-Cp a b u D x];grind
def CD{u D u' D':Int}(hD:Nl D)(h:u≠u'\/D≠D'):Off A B (jN (bY (.s u e D))).q (jN (bY (.s u' e' D'))).q:=by
 by_cases c:u=u'
 ·have hd:D≠D':=h.resolve_left fun z=>z c
  subst c
  refine Off.MO (s:=fun _=>1) (t:=fun _=>-1) (r:=((D'-D:Int):Rat)) (.const _) (.const _) (fun z=>?_) fun x=>?_
  ·have:=Rat.intCast_eq_zero_iff.mp z;lia
  ·rw[iJ,iJ,bx];unfold qd;grind
 ·-- Sa difference is a line a root of TC is none of Sa first
  have id:=fun x=>Cp (D-D'+u'*u'-u*u) (2*(u'-u)) u D x
  have el:∀x:Rat,((2*(u'-u):Int):Rat)*x-((D-D'+u'*u'-u*u:Int):Rat)=qd u D x-qd u' D' x:=fun x=>by
   rw[aq,bx,bx,e8,bx,aq,aq,JT]
   unfold qd;grind
  refine Off.MO (s:=fun x=>((2*(u'-u):Int):Rat)*((2*(u'-u):Int):Rat)-((qd u D x-qd u' D' x)+2*(((D-D'+u'*u'-u*u:Int):Rat)-((2*(u'-u):Int):Rat)*u))) (t:=fun x=>(qd u D x-qd u' D' x)+2*(((D-D'+u'*u'-u*u:Int):Rat)-((2*(u'-u):Int):Rat)*u))
   (r:=_) ((LI.const _).sub (((qo u D).sub (qo u' D')).add (.const _))) (((qo u D).sub (qo u' D')).add (.const _)) (Cb (w:=(D-D'+u'*u'-u*u)-2*(u'-u)*u) (b:=2*(u'-u)) hD (by lia)) fun x=>?_
  rw[iJ,iJ]
  have:=id x
  rw[el x] at this
  grind
def Off.apart{p q:nK}(h:Off A B p.q q.q):vC A B p q:=by
 obtain⟨e,c,he,hc,k⟩:=h
 obtain⟨d,hd,z1,z2⟩:=iI he (show 0<c / 2 by grind)
 refine⟨d,hd,fun x hx hy a _ b _=>?_⟩
 have:=k x hx hy (aw a z1)
 grind
def Al(f:aI):LI A B (jN f).q/\LI A B (jN f).s:=⟨my f,AB f⟩
def Fs(u D:Int)(x:Rat):(x-u)*(x-u)=qd u D x+D:=by unfold qd;grind
def xT{D:Int}(h:Nl D):(2:Rat)<=(D:Rat):=by have:((2:Int):Rat)<=(D:Rat):=Rat.intCast_le_intCast.mpr h.two;exact this
def Fl{D:Int}(hD:Nl D){x:Rat}(h:ab (qd u D x)<=1):1<=ab (x-u):=by
 have a:=Fs u D x
 have b:=xT hD
 have c:=(LL.mp h).1
 have d:ab (x-u)*ab (x-u)=qd u D x+D:=by
  rw[<-bP,a];rcases aO (qd u D x+D) with z | z<;>grind
 refine Rat.not_lt.mp fun z=>?_
 have e:=aA (de (x-u)) (show 0<=1-ab (x-u) by grind)
 grind
def D9(g:aI){l:List NO}{Z:List Rat}(r:Rt)(ok:MC A B r)(hk:jN (bY r)∈l)(NC:∀p∈l,LI A B p.q/\LI A B p.s)(off:∀p∈l,p=jN (bY r)\/Off A B (jN (bY r)).q p.q)(nz:∀x,A<=x->x<=B->x∉Z->(jN (bY r)).q x≠0/\dO l x≠0):wC A B Z (dO l) (fun x=>jb l x*aG g x) (fN g r):=by
 cases r with
 |q a b=>
  have hb:=ok.NR a b rfl
  have pb:0<(b:Rat):=Rat.intCast_pos.mpr hb
  have TZ:1<=(b:Rat):=by have:((1:Int):Rat)<=(b:Rat):=Rat.intCast_le_intCast.mpr (by lia);exact this
  refine⟨sA a b,⟨1,1,by grind,by grind,fun _ _ _ _ _ _ _ _=>trivial⟩,fun e he=>?_,?_⟩
  ·obtain⟨d,hd,k⟩:=(sA (A:=A) (B:=B) a b).near he
   refine⟨d,hd,fun x y hx hy Rx O3 ne=>⟨LL.mpr ?_,trivial⟩⟩
   have:=LL.mp (k x y hx hy Rx O3)
   exact yH (fun z=>ne z.symm) this.1 this.2
  ·refine u9 (k:=jN (bY (.q a b))) hk (n4 g _) NC off ⟨1,1,by grind,by grind,fun x _ _ _=>?_⟩ ⟨1,by grind,fun x _ _ _ _=>?_⟩ nz (Iw g hb)
   ·show 1<=ab (qB (bY (.q a b)) x)
    rw[FF];rcases aO (b:Rat) with z | z<;>grind
   ·show sg ((b:Rat)*x-a)=sg (aG (bY (.q a b)) x)*sg (qB (bY (.q a b)) x)
    rw[y0,FF,dI pb,l7]
 |s u e D=>
  obtain⟨hD,he⟩:=ok.Mo u e D rfl
  refine⟨qo u D,⟨1 / 2,1,by grind,by grind,fun x y hx hy Rx hd hq hs=>?_⟩,fun η hη=>?_,?_⟩
  ·have t:=Fl hD hq
   show 0<(e:Rat)*(y-u)
   have Po:0<(e:Rat)*(x-u):=hs
   rcases fH he with⟨h,_⟩ | ⟨h,_⟩<;>rw[h] at Po ⊢ <;> rcases aO (x-u) with z | z<;>grind
  ·obtain⟨d',QO,k⟩:=(qo (A:=A) (B:=B) u D).near hη
   obtain⟨d,hd,z1,z2⟩:=iI QO (show(0:Rat)<1 by grind)
   refine⟨d,hd,fun x y hx hy Rx O3 ne=>?_⟩
   have kk:=LL.mp (k x y hx hy Rx (aw O3 z1))
   have d2:=xT hD
   have gH:∀z:Rat,-1<=z-u->z-u<=1->qd u D z<0:=fun z h1 h2=>by
    have a:=n8 h1 h2 h1 h2
    unfold qd;grind
   have ne':(if 0<(e:Rat)*(x-u) then e*sg (qd u D x) else -e)≠(if 0<(e:Rat)*(y-u) then e*sg (qd u D y) else -e):=ne
   show ab (qd u D x)<=η/\0<(e:Rat)*(x-u)
   by_cases sx:0<(e:Rat)*(x-u)
   ·refine⟨?_,sx⟩
    rw[aB sx] at ne'
    by_cases sy:0<(e:Rat)*(y-u)
    ·rw[aB sy] at ne'
     exact LL.mpr (yH (fun z=>ne' (by rw[z])) kk.1 kk.2)
    ·exfalso
     rw[ay sy] at ne'
     have:qd u D x<0:=by
      rcases fH he with⟨h,_⟩ | ⟨h,_⟩<;>rw[h] at sx sy<;>exact gH x (by grind) (by grind)
     rw[gA this] at ne';lia
   ·exfalso
    rw[ay sx] at ne'
    by_cases sy:0<(e:Rat)*(y-u)
    ·rw[aB sy] at ne'
     have:qd u D y<0:=by
      rcases fH he with⟨h,_⟩ | ⟨h,_⟩<;>rw[h] at sx sy<;>exact gH y (by grind) (by grind)
     rw[gA this] at ne';lia
    ·rw[ay sy] at ne';exact ne' rfl
  ·refine u9 (k:=jN (bY (.s u e D))) hk (n4 g _) NC off ⟨1,2,by grind,by grind,fun x _ _ hq=>?_⟩ ⟨1,by grind,fun x _ _ hq hs=>?_⟩ nz (G0 g hD he)
   ·show 2<=ab (qB (bY (.s u e D)) x)
    rw[iJ] at hq
    rw[FE,bP,show ab 2=2 by decide]
    have:=Fl hD hq;grind
   ·show(if 0<(e:Rat)*(x-u) then e*sg (qd u D x) else -e)=sg (aG (bY (.s u e D)) x)*sg (qB (bY (.s u e D)) x)
    have Po:0<(e:Rat)*(x-u):=hs
    rw[aB Po,yZ,FE,dX 2,dI (show(0:Rat)<2 by grind)]
    rcases fH he with⟨h,h2⟩ | ⟨h,h2⟩<;>rw[h] at Po
    ·rw[dI (show 0<x-u by grind),h2];simp
    ·rw[gA (show x-u<0 by grind),h2];simp
end
def bN(c:aI)(l:List Rt):aI:=l.foldl (fun f r=>aX f (bY r)) c
def jB(l:List Rt):List NO:=l.map fun r=>jN (bY r)
def ig:∀(l:List Rt) (c:aI) (x:Rat),aG (bN c l) x=aG c x*dO (jB l) x/\qB (bN c l) x=qB c x*dO (jB l) x+aG c x*jb (jB l) x
 |[],c,x=>by
  show aG c x=aG c x*1/\qB c x=qB c x*1+aG c x*0
  grind
 |r::l,c,x=>by
  have ih:=ig l (aX c (bY r)) x
  rw[lx,By] at ih
  show aG (bN (aX c (bY r)) l) x=aG c x*(aG (bY r) x*dO (jB l) x)/\qB (bN (aX c (bY r)) l) x=qB c x*(aG (bY r) x*dO (jB l) x)+aG c x*(qB (bY r) x*dO (jB l) x+aG (bY r) x*jb (jB l) x)
  rw[ih.1,ih.2];grind
def L9(c:aI):Prop:=∃c0:Rat,0<c0/\∀x,c0<=ab (aG c x)
structure BK(l roots:List Rt):Prop where
 ok:∀r∈l,MC 0 0 r
 OR:∀r∈roots,MC 0 0 r/\∃r'∈l,bY r'=bY r
 q:∀a b,Rt.q a b∈l->Rt.q a b∈roots
 s:∀u e D,Rt.s u e D∈l->Rt.s u 1 D∈roots/\Rt.s u (-1) D∈roots
 unlike:roots.Pairwise (· ≠ ·)
 red:∀a b a' b',Rt.q a b∈roots->Rt.q a' b'∈roots->a*b'=a'*b->a=a'/\b=b'
def zq:Rt->Option Rat
 |.q a b=>some ((a:Rat) / (b:Rat))
 |.s _ _ _=>none
def wV(roots:List Rt):List Rat:=roots.filterMap zq
def MC.any{A B A' B':Rat}{r:Rt}(h:MC A B r):MC A' B' r:=⟨h.NR,h.Mo⟩
section
variable {A B:Rat}{l roots:List Rt}
def Nl.rat{D:Int}(h:Nl D)(u:Int)(x:Rat):qd u D x≠0:=fun z=>by
 have e:=Fs u D x
 rw[z] at e
 have f:=gY x
 have d:((x.den:Int):Rat)≠0:=fun z=>oz x (Rat.intCast_eq_zero_iff.mp z)
 have k:((x.num-u*x.den:Int):Rat)=(x-u)*((x.den:Int):Rat):=by rw[bx,aq,f];grind
 have k2:(((x.num-u*x.den)*(x.num-u*x.den):Int):Rat)=(((x.den:Int)*x.den*D:Int):Rat):=by
  rw[aq,k,aq,aq]
  have:(x-u)*((x.den:Int):Rat)*((x-u)*((x.den:Int):Rat))=((x-u)*(x-u))*((x.den:Int):Rat)*((x.den:Int):Rat):=by grind
  rw[this,e];grind
 exact oz x (h.no _ _ (Rat.intCast_inj.mp k2))
def C7{r:Rt}(ok:MC A B r){x:Rat}(h:∀a b,r=.q a b->x≠(a:Rat) / (b:Rat)):(jN (bY r)).q x≠0:=by
 cases r with
 |q a b=>
  rw[lS]
  have hb:0<(b:Rat):=Rat.intCast_pos.mpr (ok.NR a b rfl)
  intro z
  apply h a b rfl
  grind
 |s u e D=>rw[iJ];exact(ok.Mo u e D rfl).1.rat u x
def vS:∀l:List NO,∀x,(∀p∈l,p.q x≠0)->dO l x≠0
 |[],x,_=>by show(1:Rat)≠0;grind
 |p::l,x,h=>fun z=>by
  rcases Rat.mul_eq_zero.mp z with z | z
  ·exact h p (by simp) z
  ·exact vS l x (fun q hq=>h q (aj _ hq)) z
def L9.ne(h:L9 c)(x:Rat):aG c x≠0:=fun z=>by
 obtain⟨c0,hc,k⟩:=h
 have:=k x
 rw[z,show ab 0=0 by decide] at this;grind
def L9.off(h:L9 c)(q:Rat->Rat):Off A B q (jN c).q:=by
 obtain⟨c0,hc,k⟩:=h
 exact⟨1,c0,by grind,hc,fun x _ _ _=>k x⟩
def As(M:BK l roots){r r':Rt}(hr:r∈roots)(N2:r'∈l):jN (bY r')=jN (bY r)\/Off A B (jN (bY r)).q (jN (bY r')).q:=by
 have o1:=(M.OR r hr).1
 have o2:=M.ok r' N2
 cases r with
 |q a b=>
  cases r' with
  |q a' b'=>
   by_cases c:a*b'=a'*b
   ·obtain⟨rfl,rfl⟩:=M.red a b a' b' hr (M.q a' b' N2) c
    exact .inl rfl
   ·exact .inr (GE c)
  |s u e D=>exact .inr (GD (o1.NR a b rfl) (o2.Mo u e D rfl).1)
 |s u e D=>
  cases r' with
  |q a b=>exact .inr (GC (o2.NR a b rfl) (o1.Mo u e D rfl).1)
  |s u' e' D'=>
   by_cases c:u=u'/\D=D'
   ·obtain⟨rfl,rfl⟩:=c;exact .inl rfl
   ·exact .inr (CD (o1.Mo u e D rfl).1 (by lia))
def xi(M:BK l roots)(g:aI):(roots.map (fN g)).Pairwise (vC A B):=by
 rw[List.pairwise_map]
 refine List.Pairwise.imp_of_mem ?_ M.unlike
 intro r r' hr N2 ne
 obtain⟨o2,r2,WK,e2⟩:=M.OR r' N2
 rcases As (A:=A) (B:=B) M hr WK with z | z
 ·-- Sa same factor: unlike TX
  have o1:=(M.OR r hr).1
  cases r with
  |q a b=>
   exfalso
   cases r' with
   |q a' b'=>
    rw[e2] at z
    by_cases c:a*b'=a'*b
    ·obtain⟨rfl,rfl⟩:=M.red a b a' b' hr N2 c;exact ne rfl
    ·-- one function,unlike roots
     have h1:=Hw (c8 NO.q z) ((a:Rat) / (b:Rat))
     rw[lS,lS] at h1
     have hb:0<(b:Rat):=Rat.intCast_pos.mpr (o1.NR a b rfl)
     have h2:(b':Rat)*a=(a':Rat)*b:=by
      have e1:(b:Rat)*((a:Rat) / (b:Rat))=a:=by grind
      simp only at h1
      rw[e1] at h1
      grind
     rw[<-aq,<-aq] at h2
     have:=Rat.intCast_inj.mp h2
     exact c (by rw[Int.mul_comm];lia)
   |s u e D=>
    rw[e2] at z
    have h1:=Hw (c8 NO.q z) ((a:Rat) / (b:Rat))
    rw[lS,iJ] at h1
    have hb:0<(b:Rat):=Rat.intCast_pos.mpr (o1.NR a b rfl)
    exact(o2.Mo u e D rfl).1.rat u _ (by rw[h1];grind)
  |s u e D=>
   cases r' with
   |q a b=>
    exfalso
    rw[e2] at z
    have h1:=Hw (c8 NO.q z) ((a:Rat) / (b:Rat))
    rw[lS,iJ] at h1
    have hb:0<(b:Rat):=Rat.intCast_pos.mpr (o2.NR a b rfl)
    exact(o1.Mo u e D rfl).1.rat u _ (by rw[<-h1];grind)
   |s u' e' D'=>
    by_cases c:u=u'/\D=D'
    ·obtain⟨rfl,rfl⟩:=c
     have he:=(o1.Mo u e D rfl).2
     have Pz:=(o2.Mo u e' D rfl).2
     have Yj:e≠e':=fun z=>ne (by rw[z])
     refine⟨1,by grind,fun x _ _ _ s1 _ s2=>?_⟩
     have VH:0<(e:Rat)*(x-u):=s1
     have VG:0<(e':Rat)*(x-u):=s2
     rcases fH he with⟨h,h2⟩ | ⟨h,h2⟩<;>rcases fH Pz with⟨k,k2⟩ | ⟨k,k2⟩<;>rw[h] at VH<;>rw[k] at VG<;>grind
    ·exact Off.apart (p:=fN g (.s u e D)) (q:=fN g (.s u' e' D')) (by rw[n4,n4];exact CD (o1.Mo u e D rfl).1 (by lia))
 ·refine Off.apart (p:=fN g r) (q:=fN g r') ?_
  rw[n4,n4,<-e2];exact z
def Bk(M:BK l roots)(hc:L9 c)(g:aI)(e:Rat)(he:0<e):∃d:Rat,0<d/\∀x,A<=x->x<=B->(∀p∈roots.map (fN g),¬(ab (p.q x)<=e/\p.side x))->d<=ab (dO (jN c::jB l) x):=by
 obtain⟨c0,RJ,k⟩:=hc
 obtain⟨e1,OP,z1,z2⟩:=iI he RJ
 obtain⟨e2,Of,z3,z4⟩:=iI OP (show(0:Rat)<1 by grind)
 obtain⟨d,hd,h⟩:=vh (jN c::jB l) e2 Of
 refine⟨d,hd,fun x _ _ Xv=>h x fun p hp=>?_⟩
 rcases aC.mp hp with rfl | hp
 ·exact aw (aw z3 z2) (k x)
 ·obtain⟨r,hr,rfl⟩:=List.mem_map.mp hp
  have big:∀r'∈roots,(fN g r').q=(jN (bY r)).q->(fN g r').side x->e2<=ab ((jN (bY r)).q x):=fun r' h1 h2 h3=>by
   have:=Xv _ (List.mem_map.mpr ⟨r',h1,rfl⟩)
   rw[h2] at this
   have lt:e<ab ((jN (bY r)).q x):=Rat.not_le.mp fun z=>this ⟨z,h3⟩
   grind
  cases r with
  |q a b=>exact big _ (M.q a b hr) (n4 g _) trivial
  |s u e' D=>
   obtain⟨s1,s2⟩:=M.s u e' D hr
   rcases cq (x-u) with⟨h,_⟩ | ⟨h,_⟩ | ⟨h,_⟩
   ·exact big _ s1 (by rw[iJ];rfl) (by show 0<((1:Int):Rat)*(x-u);rw[JU];grind)
   ·exact big _ s2 (by rw[iJ];rfl) (by show 0<((-1:Int):Rat)*(x-u);have:((-1:Int):Rat)=-1:=rfl;grind)
   ·have d2:=xT ((M.ok _ hr).Mo u e' D rfl).1
    rw[iJ]
    have:qd u D x=-(D:Rat):=by unfold qd;rw[h];grind
    rw[this]
    rcases aO (-(D:Rat)) with w | w<;>grind
end
def wR(x:Rat)(p:aI):Int:=sg (aG p x)
section
variable {A B:Rat}{l roots:List Rt}
def yK{dd:Rat->Rat}{ps:List aI}{rs:List (Rat->Rat)}(h:Lv dd ps rs){x:Rat}(hx:dd x≠0):ps.map (wR x)=(oP rs x).map fun z=>sg (dd x)*z:=by
 induction h with
 |nil=>rfl
 |cons h t ih=>
  show sg (aG _ x)::_=sg (dd x)*sg _::_
  rw[<-h x,dX]
  congr 1
def FH{s:Int}(hs:s*s=1):∀l:aI,Ul (l.map fun z=>s*z)=Ul l
 |[]=>rfl
 |[a]=>rfl
 |a::b::l=>by
  show(1-s*a*(s*b))+Ul ((b::l).map fun z=>s*z)=(1-a*b)+Ul (b::l)
  rw[FH hs (b::l),show s*a*(s*b)=(s*s)*(a*b) by grind,hs];grind
def DP{s:Int}(hs:s=1\/s=-1):∀l:aI,IV l->IV (l.map fun z=>s*z)
 |[],_=>trivial
 |[a],h=>by have h':a≠0:=h;show s*a≠0;rcases hs with rfl | rfl<;>lia
 |[a,b],h=>by have h':b≠0:=h;show s*b≠0;rcases hs with rfl | rfl<;>lia
 |a::b::d::l,h=>by
  refine⟨fun z=>?_,DP hs (b::d::l) h.2⟩
  have k:=h.1
  have z':s*b=0:=z
  show s*a=-(s*d)/\s*a≠0
  rcases hs with rfl | rfl<;>constructor<;>lia
def xb{x:Rat}(h:x≠0):sg x=1\/sg x=-1:=by
 rcases cq x with⟨_,e⟩ | ⟨_,e⟩ | ⟨z,_⟩
 ·exact .inl e
 ·exact .inr e
 ·exact absurd z h
def yJ(x:Rat):sg x=1\/sg x=-1\/sg x=0:=by
 rcases cq x with⟨_,e⟩ | ⟨_,e⟩ | ⟨_,e⟩<;>simp[e]
def ya{x:Rat}(hA:A<=x)(hB:x<=B){dd r0 r1:Rat->Rat}{rs:List (Rat->Rat)}{ps:List aI}(ch:NP A B (r0::r1::rs))(sm:Lv dd (p::ps) (r0::r1::rs))(hp:aG p x≠0):
  2*(AM (((p::ps).map (wR x)).filter fun z=>!decide (z=0)):Nat)=Ul (oP (r0::r1::rs) x):=by
 have nd:dd x≠0:=fun z=>hp (by cases sm with | cons h t=>rw[<-h x,z,nL])
 have e:=yK sm nd
 have alt:=DP (xb nd) _ (ch.alt hA hB)
 have ul:=FH (s:=sg (dd x)) (z9 nd) (oP (r0::r1::rs) x)
 rw[<-e] at alt ul
 rw[<-ul]
 exact(DH _ _ (fun z hz=>by
  rw[<-dQ] at hz
  obtain⟨q,_,rfl⟩:=List.mem_map.mp hz
  exact yJ _) alt (by
   show sg (aG p x)≠0
   rcases xb hp with z | z<;>rw[z]<;>decide)).symm
def A3(g:aI)(roots:List Rt)(x:Rat):Int:=nZ (roots.map (fN g)) x
def En{g:aI}(M:BK l roots)(hc:L9 c)(hl:aX (bz (bN c l)) g≠[])(ro:ec (aX (bz (bN c l)) g)){a b:Rat}(Mn:a<=b)(ha:a∉wV roots)(hb:b∉wV roots):
  2*(AM (((fA (bN c l) (aX (bz (bN c l)) g)).map (wR a)).filter fun z=>!decide (z=0)):Nat)+A3 g roots a =
  2*(AM (((fA (bN c l) (aX (bz (bN c l)) g)).map (wR b)).filter fun z=>!decide (z=0)):Nat)+A3 g roots b:=by
 obtain⟨dd,r0,r1,rs,ld,ch,sm⟩:=x9 (A:=a) (B:=b) ((aX (bz (bN c l)) g).length+1) (bN c l) (aX (bz (bN c l)) g) ro hl (by lia)
 have eF:∀x,aG (bN c l) x=dO (jN c::jB l) x:=fun x=>(ig l c x).1
 have eS:∀x,qB (bN c l) x=jb (jN c::jB l) x:=fun x=>(ig l c x).2
 have nq:∀x,x∉wV roots->∀r∈l,(jN (bY r)).q x≠0:=fun x hx r hr=>C7 (M.ok r hr) fun a b e z=>hx (by
  subst e
  exact dM.mpr ⟨.q a b,M.q a b hr,by rw[z];rfl⟩)
 have Ru:∀x,x∉wV roots->dO (jN c::jB l) x≠0:=fun x hx=>vS _ x fun p hp=>by
  rcases aC.mp hp with rfl | hp
  ·exact hc.ne x
  ·obtain⟨r,hr,rfl⟩:=List.mem_map.mp hp
   exact nq x hx r hr
 have e0:∀x,dd x*r0 x=dO (jN c::jB l) x:=fun x=>by
  rw[<-eF];cases sm with | cons h t=>exact h x
 have e1:∀x,dd x*r1 x=jb (jN c::jB l) x*aG g x:=fun x=>by
  have TQ:=sm
  rw[show cf ((aX (bz (bN c l)) g).length+1) (bN c l) (aX (bz (bN c l)) g)=aX (bz (bN c l)) g::cf (aX (bz (bN c l)) g).length (aX (bz (bN c l)) g) (dy (bF (bN c l) (aX (bz (bN c l)) g))) by
   show(if _ then _ else _)=_
   rw[ay hl]] at TQ
  cases TQ with
  |cons _ t=>
   cases t with
   |cons h _=>rw[h x,lx,yY,eS]
 have NC:∀p∈jN c::jB l,LI a b p.q/\LI a b p.s:=fun p hp=>by
  rcases aC.mp hp with rfl | hp
  ·exact Al c
  ·obtain⟨r,hr,rfl⟩:=List.mem_map.mp hp
   exact Al _
 have off:∀r∈roots,∀p∈jN c::jB l,p=jN (bY r)\/Off a b (jN (bY r)).q p.q:=fun r hr p hp=>by
  rcases aC.mp hp with rfl | hp
  ·exact .inr (hc.off _)
  ·obtain⟨r',N2,rfl⟩:=List.mem_map.mp hp
   exact As M hr N2
 have st:=HY (A:=a) (B:=b) (Z:=wV roots) ch (ld a b) e0 e1 (fun x _ _ hx=>Ru x hx) (roots.map (fN g)) (fun p hp=>by
   obtain⟨r,hr,rfl⟩:=List.mem_map.mp hp
   obtain⟨o,r',N2,er⟩:=M.OR r hr
   refine D9 g r o.any (aj _ (List.mem_map.mpr ⟨r',N2,by rw[er]⟩)) NC (off r hr) fun x _ _ hx=>⟨?_,Ru x hx⟩
   rw[<-er];exact nq x hx r' N2) (xi M g) (fun e he=>Bk M hc g e he) (dF) (dF) Mn ha hb
 have c1:=ya (dF) Mn ch sm (by rw[eF];exact Ru a ha)
 have c2:=ya Mn (dF) ch sm (by rw[eF];exact Ru b hb)
 show 2*(AM (((bN c l::cf _ _ _).map (wR a)).filter _):Nat)+nZ _ a=2*(AM (((bN c l::cf _ _ _).map (wR b)).filter _):Nat)+nZ _ b
 rw[c1,c2];exact st
end
def sD:∀xs:aI,EU xs=AM xs
 |[]=>rfl
 |[a]=>rfl
 |a::b::l=>by
  have ih:=sD (b::l)
  show EU (a::b::l)=(if a=b then 0 else 1)+AM (b::l)
  rw[<-ih]
  unfold EU
  show((List.range (l.length+1)).filter _).length=_+((List.range l.length).filter _).length
  rw[List.range_succ_eq_map,List.filter_cons,List.filter_map,]
  have e:((fun i=>!decide ((a::b::l).getD i 0=(a::b::l).getD (1+i) 0)) ∘ Nat.succ)=fun i=>!decide ((b::l).getD i 0=(b::l).getD (1+i) 0):=by
   funext i
   show(!decide ((a::b::l).getD (i+1) 0=(a::b::l).getD (1+(i+1)) 0))=_
   rw[show 1+(i+1)=(1+i)+1 by lia];rfl
  rw[e]
  by_cases h:a=b
  ·rw[aB h,ay (by show ¬(!decide (a=b))=true;simp[h]),ah];lia
  ·rw[ay h,aB (by show(!decide (a=b))=true;simp[h]),dC,ah];lia
def rY(q:Rat)(f:aI):sU q f=wR q f:=by
 unfold sU wR
 have h:=w5 q.num q.den q (gY q) f
 have pd:0<((q.den:Int):Rat):=Rat.intCast_pos.mpr (by have:=q.den_pos;lia)
 have pp:∀n:Nat,0<((q.den:Int):Rat) ^ n:=fun n=>by
  induction n with
  |zero=>rw[fI];grind
  |succ n ih=>rw[dh];exact aM ih pd
 have e:=c8 sg h
 rw[dX,dX,dI pd,dI (pp _),l7,l7,kj] at e
 exact e
def Ce{n:Int}(h:n≠0):(n.sign=1/\0<n)\/(n.sign=-1/\n<0):=by
 rcases gF h with z | z
 ·exact .inr ⟨aN z,z⟩
 ·exact .inl ⟨aY z,z⟩
def pH:∀f:aI,f≠[]->aL f≠0->∃X:Rat,0<X/\∀x,X<=x->1<=((aL f).sign:Rat)*aG f x
 |[],h,_=>absurd rfl h
 |[c],_,hl=>by
  have hc:c≠0:=hl
  refine⟨1,by grind,fun x _=>?_⟩
  show 1<=((c.sign:Int):Rat)*((c:Rat)+x*0)
  rw[show(c:Rat)+x*0=(c:Rat) by grind,<-aq]
  have:((1:Int):Rat)<=((c.sign*c:Int):Rat):=Rat.intCast_le_intCast.mpr (by rcases Ce hc with⟨z,y⟩ | ⟨z,y⟩<;>rw[z]<;>lia)
  exact this
 |c::d::f,_,hl=>by
  have e:aL (c::d::f)=aL (d::f):=by unfold aL;simp
  rw[e] at hl ⊢
  obtain⟨X,hX,h⟩:=pH (d::f) (by simp) hl
  have nn:=de (((aL (d::f)).sign:Rat)*(c:Rat))
  refine⟨X+1+ab (((aL (d::f)).sign:Rat)*(c:Rat)),by grind,fun x hx=>?_⟩
  have k:=h x (by grind)
  show 1<=((aL (d::f)).sign:Rat)*((c:Rat)+x*aG (d::f) x)
  rw[show((aL (d::f)).sign:Rat)*((c:Rat)+x*aG (d::f) x)=((aL (d::f)).sign:Rat)*(c:Rat)+x*(((aL (d::f)).sign:Rat)*aG (d::f) x) by grind]
  have m:=bM (show 0<=x by grind) k
  have:=(LL.mp (show ab (((aL (d::f)).sign:Rat)*(c:Rat))<=ab (((aL (d::f)).sign:Rat)*(c:Rat)) from dF)).1
  grind
def Ar:∀f:aI,f≠[]->aL f≠0->∃X:Rat,0<X/\∀x,X<=x->1<=((fj f:Int):Rat)*aG f (-x)
 |[],h,_=>absurd rfl h
 |[c],_,hl=>by
  have hc:c≠0:=hl
  refine⟨1,by grind,fun x _=>?_⟩
  show 1<=((c.sign:Int):Rat)*((c:Rat) + -x*0)
  rw[show(c:Rat) + -x*0=(c:Rat) by grind,<-aq]
  have:((1:Int):Rat)<=((c.sign*c:Int):Rat):=Rat.intCast_le_intCast.mpr (by rcases Ce hc with⟨z,y⟩ | ⟨z,y⟩<;>rw[z]<;>lia)
  exact this
 |c::d::f,_,hl=>by
  have e:aL (c::d::f)=aL (d::f):=by unfold aL;simp
  have e2:fj (c::d::f)=-fj (d::f):=by
   unfold fj
   rw[e]
   show(if (f.length+2)%2=0 then _ else _)=-(if (f.length+1)%2=0 then _ else _)
   by_cases z:(f.length+2)%2=0
   ·rw[aB z,ay (by lia)]
   ·rw[ay z,aB (by lia),Int.neg_neg]
  rw[e] at hl
  rw[e2,Fd]
  obtain⟨X,hX,h⟩:=Ar (d::f) (by simp) hl
  have nn:=de ((fj (d::f):Rat)*(c:Rat))
  refine⟨X+1+ab ((fj (d::f):Rat)*(c:Rat)),by grind,fun x hx=>?_⟩
  have k:=h x (by grind)
  show 1 <= -(fj (d::f):Rat)*((c:Rat) + -x*aG (d::f) (-x))
  rw[show -(fj (d::f):Rat)*((c:Rat) + -x*aG (d::f) (-x))=-((fj (d::f):Rat)*(c:Rat))+x*((fj (d::f):Rat)*aG (d::f) (-x)) by grind]
  have m:=bM (show 0<=x by grind) k
  have:=(LL.mp (show ab ((fj (d::f):Rat)*(c:Rat))<=ab ((fj (d::f):Rat)*(c:Rat)) from dF)).2
  grind
def sS{s:Int}{v:Rat}(hs:s=1\/s=-1)(h:1<=(s:Rat)*v):sg v=s:=by
 rcases fH hs with⟨e,e2⟩ | ⟨e,e2⟩<;>rw[e] at h<;>rw[e2]
 ·exact dI (by grind)
 ·exact gA (by grind)
def z8{n:Int}(h:n≠0):n.sign=1\/n.sign=-1:=by
 rcases gF h with z | z
 ·exact .inr (aN z)
 ·exact .inl (aY z)
def GJ{f:aI}(h:aL f≠0):fj f=1\/fj f=-1:=by
 unfold fj
 rcases z8 h with z | z<;>split<;>rw[z]<;>simp
def Cv{α:Type}(P:α->Rat->Prop):∀l:List α,(∀a∈l,∃X:Rat,0<X/\∀x,X<=x->P a x)->∃X:Rat,0<X/\∀x,X<=x->∀a∈l,P a x
 |[],_=>⟨1,by grind,fun x _ a h=>nomatch h⟩
 |a::l,h=>by
  obtain⟨X,hX,k⟩:=h a (by simp)
  obtain⟨Y,hY,j⟩:=Cv P l fun b hb=>h b (aj _ hb)
  refine⟨X+Y,by grind,fun x hx b hb=>?_⟩
  rcases aC.mp hb with rfl | hb
  ·exact k x (by grind)
  ·exact j x (by grind) b hb
def C6(ch:List aI)(h:∀p∈ch,p≠[]/\aL p≠0):∃X:Rat,0<X/\∀x,X<=x->∀p∈ch,wR x p=rZ p/\wR (-x) p=fj p:=by
 refine Cv (fun p x=>wR x p=rZ p/\wR (-x) p=fj p) ch fun p hp=>?_
 obtain⟨h1,h2⟩:=h p hp
 obtain⟨X,hX,k⟩:=pH p h1 h2
 obtain⟨Y,hY,j⟩:=Ar p h1 h2
 exact⟨X+Y,by grind,fun x hx=>⟨sS (z8 h2) (k x (by grind)),sS (GJ h2) (j x (by grind))⟩⟩
def JR(r:Rt)(x:Rat):Int:=(fN [] r).J x
def Hn(a b:Int)(x:Rat):JR (.q a b) x=sg ((b:Rat)*x-a):=rfl
def BL(u e D:Int)(x:Rat):JR (.s u e D) x=if 0<(e:Rat)*(x-u) then e*sg (qd u D x) else -e:=rfl
def Hq(g:aI)(r:Rt)(x:Rat):(fN g r).J x=JR r x:=by cases r<;>rfl
def GZ(g:aI)(r:Rt):(fN g r).gm=yU g r:=by cases r<;>rfl
def Ho{A B:Rat}{r:Rt}(ok:MC A B r):∃X:Rat,0<X/\∀x,X<=x->JR r x=1/\JR r (-x)=-1:=by
 cases r with
 |q a b=>
  have hb:=ok.NR a b rfl
  have TZ:1<=(b:Rat):=by have:((1:Int):Rat)<=(b:Rat):=Rat.intCast_le_intCast.mpr (by lia);exact this
  have nn:=de (a:Rat)
  have aa:=LL.mp (show ab (a:Rat)<=ab (a:Rat) from dF)
  refine⟨ab (a:Rat)+1,by grind,fun x hx=>?_⟩
  have m:=aA (show 0<=(b:Rat)-1 by grind) (show 0<=x by grind)
  rw[Hn,Hn]
  exact⟨dI (by grind),gA (by grind)⟩
 |s u e D=>
  obtain⟨hD,he⟩:=ok.Mo u e D rfl
  have d2:=xT hD
  have nn:=de (u:Rat)
  have uu:=LL.mp (show ab (u:Rat)<=ab (u:Rat) from dF)
  refine⟨ab (u:Rat)+D+1,by grind,fun x hx=>?_⟩
  have p1:0<qd u D x:=by
   have:=dY (show(0:Rat)<=D by grind) (show(0:Rat)<=D by grind) (show(D:Rat)<=x-u by grind) (show(D:Rat)<=x-u by grind)
   have:=aA (show(0:Rat)<=D by grind) (show(0:Rat)<=D-2 by grind)
   unfold qd;grind
  have p2:0<qd u D (-x):=by
   have:=dY (show(0:Rat)<=D by grind) (show(0:Rat)<=D by grind) (show(D:Rat)<=x+u by grind) (show(D:Rat)<=x+u by grind)
   have:=aA (show(0:Rat)<=D by grind) (show(0:Rat)<=D-2 by grind)
   unfold qd;grind
  rw[BL,BL,dI p1,dI p2]
  rcases fH he with⟨h,h2⟩ | ⟨h,h2⟩<;>rw[h,h2]
  ·rw[aB (by grind),ay (by grind)];decide
  ·rw[ay (by grind),aB (by grind)];decide
def vL{x y:Rat}(h:x<=y):sg x<=sg y:=by
 rcases cq x with⟨a,e⟩ | ⟨a,e⟩ | ⟨a,e⟩<;>rcases cq y with⟨b,f⟩ | ⟨b,f⟩ | ⟨b,f⟩<;>rw[e,f]<;>first | lia | (exfalso;grind)
def E8{A B:Rat}{r:Rt}(ok:MC A B r){x y:Rat}(h:x<=y):JR r x<=JR r y:=by
 cases r with
 |q a b=>
  have hb:0<(b:Rat):=Rat.intCast_pos.mpr (ok.NR a b rfl)
  have:=bM (aQ hb) h
  exact vL (by grind)
 |s u e D=>
  obtain⟨hD,he⟩:=ok.Mo u e D rfl
  rw[BL,BL]
  have v1:=yJ (qd u D x)
  have v2:=yJ (qd u D y)
  rcases fH he with⟨h1,h2⟩ | ⟨h1,h2⟩<;>rw[h1,h2]
  ·by_cases c:0<(1:Rat)*(x-u)
   ·rw[aB c,aB (by grind)]
    have:qd u D x<=qd u D y:=by
     have:=dY (show 0<=x-u by grind) (show 0<=x-u by grind) (show x-u<=y-u by grind) (show x-u<=y-u by grind)
     unfold qd;grind
    have:=vL this;lia
   ·rw[ay c];split<;>lia
  ·by_cases c:0<(-1:Rat)*(y-u)
   ·rw[aB c,aB (by grind)]
    have:qd u D y<=qd u D x:=by
     have:=dY (show 0<=u-y by grind) (show 0<=u-y by grind) (show u-y<=u-x by grind) (show u-y<=u-x by grind)
     unfold qd;grind
    have:=vL this;lia
   ·rw[ay c];split<;>lia
def FI{A B:Rat}{r:Rt}(ok:MC A B r){x:Rat}(h:∀a b,r=.q a b->x≠(a:Rat) / (b:Rat)):JR r x=1\/JR r x=-1:=by
 cases r with
 |q a b=>
  have hb:0<(b:Rat):=Rat.intCast_pos.mpr (ok.NR a b rfl)
  exact xb (fun z=>h a b rfl (by grind))
 |s u e D=>
  obtain⟨hD,he⟩:=ok.Mo u e D rfl
  rw[BL]
  rcases xb (hD.rat u x) with z | z<;>split<;>rcases he with rfl | rfl<;>simp[z]
def sL:Option Rat->aI->Int
 |none=>fj
 |some q=>sU q
def sH:Option Rat->aI->Int
 |none=>rZ
 |some q=>sU q
def DV(lo:Option Rat)(r:Rt):Bool:=match lo with
 |none=>true
 |some q=>decide (JR r q<0)
def DU(hi:Option Rat)(r:Rt):Bool:=match hi with
 |none=>true
 |some q=>decide (0<JR r q)
def lB(g:aI)(roots:List Rt)(lo hi:Option Rat):Int:=(roots.map fun r=>if DV lo r&&DU hi r then yU g r else 0).sum
def xX:∀(n:Nat) (a l:aI),ec l->∀p∈cf n a l,p≠[]/\aL p≠0
 |0,_,_,_,p,hp=>nomatch hp
 |n+1,a,l,ro,p,hp=>by
  unfold cf at hp
  by_cases h:l=[]
  ·rw[aB h] at hp;exact nomatch hp
  ·rw[ay h] at hp
   rcases aC.mp hp with rfl | hp
   ·exact⟨h,dP ro h⟩
   ·exact xX n l _ (tG (mj a l)) p hp
def Au{r:Rt}{A B:Rat}(ok:MC A B r)(t:Rat):∃X:Rat,0<X/\∀x,X<=x->t<=ab ((jN (bY r)).q x):=by
 have tt:=LL.mp (show ab t<=ab t from dF)
 have tn:=de t
 cases r with
 |q a b=>
  have hb:=ok.NR a b rfl
  have TZ:1<=(b:Rat):=by have:((1:Int):Rat)<=(b:Rat):=Rat.intCast_le_intCast.mpr (by lia);exact this
  have nn:=de (a:Rat)
  have aa:=LL.mp (show ab (a:Rat)<=ab (a:Rat) from dF)
  refine⟨ab (a:Rat)+ab t+1,by grind,fun x hx=>?_⟩
  have m:=aA (show 0<=(b:Rat)-1 by grind) (show 0<=x by grind)
  rw[lS]
  show t<=ab ((b:Rat)*x-a)
  rcases aO ((b:Rat)*x-a) with z | z<;>grind
 |s u e D=>
  obtain⟨hD,_⟩:=ok.Mo u e D rfl
  have d2:=xT hD
  have nn:=de (u:Rat)
  have uu:=LL.mp (show ab (u:Rat)<=ab (u:Rat) from dF)
  refine⟨ab (u:Rat)+D+ab t+1,by grind,fun x hx=>?_⟩
  rw[iJ]
  have a1:=dY (show(0:Rat)<=1 by grind) (show(0:Rat)<=D+ab t by grind) (show(1:Rat)<=x-u by grind) (show(D:Rat)+ab t<=x-u by grind)
  have a2:t<=qd u D x:=by unfold qd;grind
  rcases aO (qd u D x) with z | z<;>grind
def tu:∀l:List Rt,(∀r∈l,MC 0 0 r)->∃X:Rat,0<X/\∀x,X<=x->1<=ab (dO (jB l) x)
 |[],_=>⟨1,by grind,fun x _=>by show(1:Rat)<=ab 1;decide⟩
 |r::l,h=>by
  obtain⟨X,hX,k⟩:=tu l fun r hr=>h r (aj _ hr)
  obtain⟨Y,hY,j⟩:=Au (h r (by simp)) 1
  refine⟨X+Y,by grind,fun x hx=>?_⟩
  show 1<=ab ((jN (bY r)).q x*dO (jB l) x)
  rw[bP]
  have:=dY (show(0:Rat)<=1 by grind) (show(0:Rat)<=1 by grind) (j x (by grind)) (k x (by grind))
  grind
def CK{l:List Rt}(hc:L9 c)(ok:∀r∈l,MC 0 0 r)(hl:l≠[]):2<=(bN c l).length:=by
 cases l with
 |nil=>exact absurd rfl hl
 |cons r l=>
  obtain⟨c0,RJ,k⟩:=hc
  obtain⟨X,hX,j⟩:=tu l fun r hr=>ok r (aj _ hr)
  have big:∀t:Rat,0<t->∃x,t<=ab (aG (bN c (r::l)) x):=fun t ht=>by
   obtain⟨Y,hY,i⟩:=Au (ok r (by simp)) (t*c0⁻¹)
   refine⟨X+Y,?_⟩
   rw[(ig (r::l) c _).1]
   show t<=ab (aG c (X+Y)*((jN (bY r)).q (X+Y)*dO (jB l) (X+Y)))
   rw[bP,bP]
   have tc:=aM ht (Rat.inv_pos.mpr RJ)
   have a:=dY (aQ tc) (show(0:Rat)<=1 by grind) (i (X+Y) (by grind)) (j (X+Y) (by grind))
   have b:=dY (aQ RJ) (show 0<=t*c0⁻¹*1 by grind) (k (X+Y)) a
   have e:c0*(t*c0⁻¹*1)=t:=by grind
   rw[e] at b;exact b
  match e:bN c (r::l) with
  |[]=>
   obtain⟨x,hx⟩:=big 1 (by grind)
   rw[e] at hx
   have:ab (aG [] x)=0:=by show ab 0=0;decide
   grind
  |[v]=>
   obtain⟨x,hx⟩:=big (ab (v:Rat)+1) (by have:=de (v:Rat);grind)
   rw[e] at hx
   have:aG [v] x=(v:Rat):=by show(v:Rat)+x*0=v;grind
   rw[this] at hx;grind
  |_::_::_=>simp
def yI{f:aI}(h:2<=f.length)(hl:aL f≠0):bz f≠[]/\aL (bz f)≠0:=by
 match f,h with
 |c::d::f,_=>
  have len:(bz (c::d::f)).length=f.length+1:=by unfold bz;simp
  have ne:bz (c::d::f)≠[]:=fun z=>by rw[z] at len;simp at len
  refine⟨ne,?_⟩
  have g:=jr ne
  rw[len,sO] at g
  have g2:=jr (g:=d::f) (by simp)
  rw[<-g]
  have e:aL (c::d::f)=aL (d::f):=by unfold aL;simp
  rw[e,<-g2] at hl
  exact Int.mul_ne_zero (by lia) hl
def A1{f g:aI}(hf:f≠[])(lf:aL f≠0)(hg:g≠[])(lg:aL g≠0):aX f g≠[]:=fun z=>by
 obtain⟨X,hX,k⟩:=pH f hf lf
 obtain⟨Y,hY,j⟩:=pH g hg lg
 have a:=k (X+Y) (by grind)
 have b:=j (X+Y) (by grind)
 have e:=lx f g (X+Y)
 rw[z] at e
 have e':(0:Rat)=aG f (X+Y)*aG g (X+Y):=e
 rcases Rat.mul_eq_zero.mp e'.symm with w | w
 ·rw[w] at a;grind
 ·rw[w] at b;grind
def w6{α:Type}(f:α->Int):∀l:List α,(∀a∈l,f a=0)->(l.map f).sum=0
 |[],_=>rfl
 |a::l,h=>by
  rw[dQ,yz,h a (by simp),w6 f l fun b hb=>h b (aj _ hb)];rfl
def z7{a b:Rat}{lo hi:Option Rat}:∀l:List Rt,(∀r∈l,JR r b-JR r a=2*(if DV lo r&&DU hi r then 1 else 0))->A3 g l b-A3 g l a=2*lB g l lo hi
 |[],_=>rfl
 |r::l,h=>by
  have ih:=z7 (g:=g) l fun r hr=>h r (aj _ hr)
  have k:=h r (by simp)
  have es:∀x,A3 g (r::l) x=yU g r*JR r x+A3 g l x:=fun x=>by
   show((fN g r).gm*(fN g r).J x::_).sum=_
   rw[yz,Hq,GZ];rfl
  have ed:lB g (r::l) lo hi=(if DV lo r&&DU hi r then yU g r else 0)+lB g l lo hi:=by unfold lB;rw[dQ,yz]
  rw[es,es,ed]
  have:yU g r*JR r b-yU g r*JR r a=2*(if DV lo r&&DU hi r then yU g r else 0):=by
   rw[<-DZ,k]
   split<;>grind
  lia
def GY(r:Rt):yU [] r=0:=by
 cases r with
 |q a b=>exact jc
 |s u e D=>show iT 0 (e*0) D=0;rw[nP];rfl
def BZ{l roots:List Rt}(M:BK l roots)(hc:L9 c)(rf:ec (bN c l))(hf:bN c l≠[])(rg:ec g){lo hi:Option Rat}(QD:∀q,lo=some q->q∉wV roots)(WW:∀q,hi=some q->q∉wV roots)(Mj:∀p q,lo=some p->hi=some q->p<=q):
  ((EU (wQ (fA (bN c l) (aX (bz (bN c l)) g)) (sL lo)):Nat):Int)-(EU (wQ (fA (bN c l) (aX (bz (bN c l)) g)) (sH hi)):Nat)=lB g roots lo hi:=by
 have ro:ec (aX (bz (bN c l)) g):=qf _
 by_cases hn:aX (bz (bN c l)) g=[]
 ·-- a chain of one row
  have one:∀s,EU (wQ (fA (bN c l) (aX (bz (bN c l)) g)) s)=0:=fun s=>by
   rw[hn]
   have:fA (bN c l) []=[bN c l]:=rfl
   rw[this,sD]
   unfold wQ
   show AM ([s (bN c l)].filter _)=0
   rw[List.filter_cons];split<;>rfl
  rw[one,one]
  symm
  by_cases zl:l=[]
  ·subst zl
   have:roots=[]:=by
    cases roots with
    |nil=>rfl
    |cons r rs=>obtain⟨_,r',h,_⟩:=M.OR r (by simp);exact nomatch h
   subst this;rfl
  ·have s:=yI (CK hc M.ok zl) (dP rf hf)
   have hg:g=[]:=p6 fun z=>A1 s.1 s.2 z (dP rg z) hn
   subst hg
   exact w6 _ _ fun r _=>by rw[GY];split<;>rfl
 ·-- Sa points
  obtain⟨X,hX,k⟩:=C6 (fA (bN c l) (aX (bz (bN c l)) g)) fun p hp=>by
   rcases aC.mp hp with rfl | hp
   ·exact⟨hf,dP rf hf⟩
   ·exact xX _ _ _ ro p hp
  obtain⟨Y,hY,j⟩:=Cv (fun r x=>JR r x=1/\JR r (-x)=-1) roots fun r hr=>Ho (M.OR r hr).1
  have zz:∀q,(∀r∈roots,JR r q=1\/JR r q=-1)->q∉wV roots:=fun q h z=>by
   obtain⟨r,hr,e⟩:=dM.mp z
   cases r with
   |q a b=>
    have e':(a:Rat) / (b:Rat)=q:=by simpa [zq] using e
    have hb:0<(b:Rat):=Rat.intCast_pos.mpr ((M.OR _ hr).1.NR a b rfl)
    have:JR (.q a b) q=0:=by rw[Hn,<-e',show(b:Rat)*((a:Rat) / b)-a=0 by grind];exact jc
    rcases h _ hr with w | w<;>rw[this] at w<;>cases w
   |s u e2 D=>cases e
  have ends:∃a b:Rat,a<=b/\a∉wV roots/\b∉wV roots/\(∀p∈fA (bN c l) (aX (bz (bN c l)) g),sL lo p=wR a p/\sH hi p=wR b p)/\(∀r∈roots,(DV lo r=decide (JR r a<0))/\(DU hi r=decide (0<JR r b))):=by
   have Sk:∀t:Rat,∃a,(lo=none->a <= -t)/\(∀q,lo=some q->a=q)/\a∉wV roots/\(∀p∈fA (bN c l) (aX (bz (bN c l)) g),sL lo p=wR a p)/\(∀r∈roots,DV lo r=decide (JR r a<0)):=fun t=>by
    cases lo with
    |some q=>exact⟨q,(fun z=>nomatch z),fun p z=>(bc z),QD q rfl,fun p _=>rY q p,fun r _=>rfl⟩
    |none=>
     have nt:=de t
     have Wq:=(LL.mp (show ab t<=ab t from dF)).2
     refine⟨-(X+Y+ab t),fun _=>by grind,(fun q z=>nomatch z),zz _ fun r hr=>.inr (j _ (by grind) r hr).2,fun p hp=>(k _ (by grind) p hp).2.symm,fun r hr=>?_⟩
     rw[(j _ (by grind) r hr).2];rfl
   have QG:∀t:Rat,∃b,(hi=none->t<=b)/\(∀q,hi=some q->b=q)/\b∉wV roots/\(∀p∈fA (bN c l) (aX (bz (bN c l)) g),sH hi p=wR b p)/\(∀r∈roots,DU hi r=decide (0<JR r b)):=fun t=>by
    cases hi with
    |some q=>exact⟨q,(fun z=>nomatch z),fun p z=>(bc z),WW q rfl,fun p _=>rY q p,fun r _=>rfl⟩
    |none=>
     have nt:=de t
     have Wq:=(LL.mp (show ab t<=ab t from dF)).2
     refine⟨X+Y+ab t,fun _=>by grind,(fun q z=>nomatch z),zz _ fun r hr=>.inl (j _ (by grind) r hr).1,fun p hp=>(k _ (by grind) p hp).1.symm,fun r hr=>?_⟩
     rw[(j _ (by grind) r hr).1];rfl
   obtain⟨b,b1,b2,b3,b4,b5⟩:=QG (match lo with | none=>0 | some q=>q)
   obtain⟨a,a1,a2,a3,a4,a5⟩:=Sk (-b)
   refine⟨a,b,?_,a3,b3,fun p hp=>⟨a4 p hp,b4 p hp⟩,fun r hr=>⟨a5 r hr,b5 r hr⟩⟩
   cases lo with
   |none=>have:=a1 rfl;grind
   |some p=>
    rw[a2 p rfl]
    cases hi with
    |none=>exact b1 rfl
    |some q=>rw[b2 q rfl];exact Mj p q rfl rfl
  obtain⟨a,b,Mn,za,zb,Qk,je⟩:=ends
  have main:=En (g:=g) M hc hn ro Mn za zb
  have e1:wQ (fA (bN c l) (aX (bz (bN c l)) g)) (sL lo)=((fA (bN c l) (aX (bz (bN c l)) g)).map (wR a)).filter fun z=>!decide (z=0):=by
   unfold wQ;rw[yt fun p hp=>(Qk p hp).1]
  have e2:wQ (fA (bN c l) (aX (bz (bN c l)) g)) (sH hi)=((fA (bN c l) (aX (bz (bN c l)) g)).map (wR b)).filter fun z=>!decide (z=0):=by
   unfold wQ;rw[yt fun p hp=>(Qk p hp).2]
  rw[e1,e2,sD,sD]
  have nr:∀x,x∉wV roots->∀r∈roots,∀a b,r=.q a b->x≠(a:Rat) / (b:Rat):=fun x hx r hr a b e z=>hx (by subst e;exact dM.mpr ⟨.q a b,hr,by rw[z];rfl⟩)
  have s2:=z7 (g:=g) (a:=a) (b:=b) (lo:=lo) (hi:=hi) roots fun r hr=>by
   obtain⟨j1,j2⟩:=je r hr
   rw[j1,j2]
   have o:=(M.OR r hr).1
   have p1:=FI o (nr a za r hr)
   have p2:=FI o (nr b zb r hr)
   have p3:=E8 o Mn
   rcases p1 with z | z<;>rcases p2 with w | w<;>rw[z,w] at p3 ⊢ <;> first | rfl | (exfalso;lia)
  lia
end My
namespace My
open PySem L2 L2.EV PyProof.Rows
variable {K:dq}
def kg(ds:cQ)(d:D):Prop:=∃a:Int,ds=[.int a]/\d=.int a.sign
def uE:∀ds d,kg ds d->ds.length=1:=by rintro _ _ ⟨a,rfl,_⟩;rfl
def vJ(z:Int): -1<=z.sign/\z.sign<=1:=by
 rcases ib z 0 with y | y | y
 ·rw[aN y];decide
 ·rw[y];decide
 ·rw[aY y];decide
structure PQ(f:aI)(q:Rat):Prop where
 len:f.length<=200
 bd:∀x∈f,x.natAbs<2 ^ 110
 fr:fb 100 q
def PQ.den{q:Rat}(v:PQ f q):((q.den:Int)).natAbs<2 ^ 100:=by rw[cK];exact v.fr.2
def ip(ds:cQ)(d:D):Prop:=∃(f:aI) (q:Rat),ds=[av f,em q]/\PQ f q/\d=em (aG f q)
def oh:∀ds d,ip ds d->ds.length=2:=by rintro _ _ ⟨f,q,rfl,_⟩;rfl
def zo(h:DefX P w K mg base k oE (ai lb) X)(c1:Callee X "_law_numbers" hV)(c2:Callee X "_law_some_row" i7)(c3:Callee X "_law_planted" jL)(c4:Callee X "_law_times" gb):
  Go X oE lb oJ:=by
 rintro ds d ⟨c,most,rfl,h0,h1,rfl⟩
 have t:=h.at'
 haveI:=h.Mg
 have OA:(aU c 22).length=22:=jq c 22
 have l1:=pR OA
 have l2:=qE OA
 have l3:=BA OA
 show Lr X [.val (.int c),.val (.int most),.un,.un] _ _
 refine ao (bE t 2 (ax t c1 (ae (ac t 0) (ae ag ak)) ⟨c,22,rfl,by decide,rfl⟩)) ?_
 refine ao (bE t 3 (aW (i:=(aU c 22).getD 0 0) (aJ (Lq.ql (ac t 2)) ag (dv (n:=0) (by lia))) ag (by decide))) ?_
 have r1:ec []:=.inl rfl
 by_cases w0:(aU c 22).getD 0 0%5=0
 ·refine fO (fy (Lu.eq (fm (ac t 3) ag) (aH w0)) (aD (bC (Lq.eq (ax t c3 (ae (Lq.eq (LQ.Mi (fW (Lq.ql (ac t 2)) (eI ag) eO)) (by rw[eD])) ak) ⟨bZ (aU c 22) (some 1) none,rfl,by lia,by lia,rfl⟩) ?_))))
  unfold jO;rw[aB w0]
 refine ao (dr (Lu.eq (fm (ac t 3) ag) (ap w0)) bR) ?_
 by_cases w1:(aU c 22).getD 0 0%5=1
 ·refine fO (fy (Lu.eq (fm (ac t 3) ag) (aH w1)) (aD (bC (Lq.eq (ax t c4 (ae (ax t c3 (ae (Lq.eq (d':=bn (bZ (aU c 22) (some 1) (some 5)++List.replicate 6 0)) (LQ.Mi (wj (Lq.eq (LQ.Mi (fW (Lq.ql (ac t 2)) (eI ag) (eI ag))) (by rw[eD])) (Lq.eq (LQ.Mi (zg (n:=6) (LQ.Mi (dZ (ae ag ak))) ag (by decide) (by decide) (by decide))) (by rw[td])) ?_)) (by show D.lst _=D.lst (List.map D.int (_++_));rw[bG];rfl)) ak) ⟨_,rfl,?_,?_,rfl⟩) (ae (ax t c2 (ae (Lq.eq (LQ.Mi (fW (Lq.ql (ac t 2)) (eI ag) eO)) (by rw[eD])) (ae ag ak)) ⟨bZ (aU c 22) (some 12) none,2,rfl,by lia,by lia,by decide,by decide,rfl⟩) ak)) ⟨_,_,rfl,?_,?_,nR _ _,rfl⟩) ?_))))
  ·have:=xE;simp[l3];lia
  ·rw[bV,l3,dH];decide
  ·rw[bV,l3,dH];decide
  ·have:=j5 (bZ (aU c 22) (some 1) (some 5)++List.replicate 6 0);lia
  ·have:=fx (bZ (aU c 22) (some 12) none) 2;lia
  ·unfold jO;rw[ay w0,aB w1]
 refine ao (dr (Lu.eq (fm (ac t 3) ag) (ap w1)) bR) ?_
 by_cases w2:(aU c 22).getD 0 0%5=2
 ·refine fO (fy (Lu.eq (fm (ac t 3) ag) (aH w2)) (aD (bC (Lq.eq (ax t c4 (ae (ax t c2 (ae (Lq.eq (LQ.Mi (fW (Lq.ql (ac t 2)) (eI ag) eO)) (by rw[eD])) (ae ag ak)) ⟨bZ (aU c 22) (some 1) none,2,rfl,by lia,by lia,by decide,by decide,rfl⟩) (ae (ax t c2 (ae (Lq.eq (LQ.Mi (fW (Lq.ql (ac t 2)) (eI ag) eO)) (by rw[eD])) (ae ag ak)) ⟨bZ (aU c 22) (some 12) none,2,rfl,by lia,by lia,by decide,by decide,rfl⟩) ak)) ⟨_,_,rfl,?_,?_,nR _ _,rfl⟩) ?_))))
  ·have:=fx (bZ (aU c 22) (some 1) none) 2;lia
  ·have:=fx (bZ (aU c 22) (some 12) none) 2;lia
  ·unfold jO;rw[ay w0,ay w1,aB w2]
 refine ao (dr (Lu.eq (fm (ac t 3) ag) (ap w2)) bR) ?_
 refine aD (bC (Lq.eq (ax t c2 (ae (Lq.eq (LQ.Mi (fW (Lq.ql (ac t 2)) (eI ag) eO)) (by rw[eD])) (ae (ac t 1) ak)) ⟨bZ (aU c 22) (some 1) none,most,rfl,by lia,by lia,h0,h1,rfl⟩) ?_))
 unfold jO;rw[ay w0,ay w1,ay w2]
def yi(h:DefX P w K mg base k mL (ai jW) X)(MP:mg "int"=none):
  Go X mL jW kg:=by
 rintro ds d ⟨a,rfl,rfl⟩
 have t:=h.at'
 have b1:=h.bt MP
 show Lr X [.val (.int a)] _ _
 refine aD (bC (Lq.eq (dz (sB t b1 (Dh (ac t 0) ag)) (sB t b1 (Aw (ac t 0) ag))) ?_))
 rcases ib a 0 with z | z | z
 ·rw[aH z,ap (by lia),aN z];rfl
 ·subst z;rfl
 ·rw[ap (show ¬a<0 by lia),aH z,aY z];rfl
def qI(h:DefX P w K mg base k io (ai fU) X)(Lz:mg "range"=none)(LK:mg "len"=none)(cL:Callee X "_law_low" iq):
  Go X io fU ip:=by
 rintro ds d ⟨f,q,rfl,v,rfl⟩
 have t:=h.at'
 haveI:=h.Mg
 have b1:=h.bt Lz
 have b2:=h.bt LK
 have hl:=v.len
 have hb:=v.den
 show Lr X [.val (av f),.val (em q),.un,.un,.un,.un,.un] _ _
 refine ao (bE t 2 ag) ?_
 refine ao (ρ':=[.val (av f),.val (em q),.val (.int (AV f q.num q.den f.length)),.un,.un,.un,.un]) (fC t (eQ t b1 (eC t b2 (Lq.qt (ac t 0))) (by rw[ah];lia) (by rw[ah];lia)) (LB.LJ (fun i=>[.val (av f),.val (em q),.val (.int (AV f q.num q.den i)),.un,.un,.un,.un]) (fun i d hi=>?_) rfl ?_)) ?_
 ·obtain⟨Ox,rfl⟩:=eM hi
  have Nr:i<f.length:=by simpa using Ox
  have hc:(f.getD i 0).natAbs<2 ^ 110:=by
   rw[List.getD_eq_getElem?_getD,List.getElem?_eq_getElem Nr]
   exact v.bd _ (rV Nr)
  have Vj:∀j,j<=200->(f.getD i 0*q.num ^ j).natAbs<2 ^ 25000:=fun j hj=>by
   rw[bu]
   exact nQ (lm hc (sr v.fr.1 j (K:=20001) (by lia))) (by decide)
  have X1:∀j,j<=200->(f.getD i 0*q.num ^ i*(q.den:Int) ^ j).natAbs<2 ^ 60000:=fun j hj=>by
   rw[bu]
   exact nQ (lm (Vj i (by lia)) (sr hb j (K:=20001) (by lia))) (by decide)
  refine⟨_,bj t 3,Lr.weak (ρ1:=[.val (av f),.val (em q),.val (.int (AV f q.num q.den (i+1))),.val (.int i),.val (.int (f.getD i 0*q.num ^ i*(q.den:Int) ^ (f.length-1-i))),.un,.un]) (ao (bE t 4 (aJ (Lq.qt (ac t 0)) (ac t 3) (IG (by lia))))
   (ao (ρ':=[.val (av f),.val (em q),.val (.int (AV f q.num q.den i)),.val (.int i),.val (.int (f.getD i 0*q.num ^ i)),.un,.un]) (fC t (eQ t b1 (ac t 3) (by lia) (by lia)) (LB.LJ (fun j=>[.val (av f),.val (em q),.val (.int (AV f q.num q.den i)),.val (.int i),.val (.int (f.getD i 0*q.num ^ j)),.un,.un]) (fun j d hj=>?_) ?_ ?_))
   (ao (ρ':=[.val (av f),.val (em q),.val (.int (AV f q.num q.den i)),.val (.int i),.val (.int (f.getD i 0*q.num ^ i*(q.den:Int) ^ (f.length-1-i))),.un,.un]) (fC t (eQ (j:=((f.length-1-i:Nat):Int)) t b1 (Lq.eq (dz (dz (eC t b2 (Lq.qt (ac t 0))) ag) (ac t 3)) (by rw[ah];congr 1;lia)) (by lia) (by lia)) (LB.LJ (fun j=>[.val (av f),.val (em q),.val (.int (AV f q.num q.den i)),.val (.int i),.val (.int (f.getD i 0*q.num ^ i*(q.den:Int) ^ j)),.un,.un]) (fun j d hj=>?_) ?_ ?_))
   (aD (bE t 2 (bO (ac t 2) (ac t 4))))))) (.keep (.keep (.keep (.forget (.forget (.forget (.forget .nil)))))))⟩
  ·obtain⟨ON,rfl⟩:=eM hj
   have Qa:j<i:=by simpa using ON
   refine⟨_,bj t 5,Lr.weak (aD (bE t 4 (aS (ac t 4) (aJ (Lq.qt (ac t 1)) ag (Nv q)) (fk (k:=100000) (by decide) (nQ (Vj j (by lia)) (by decide)) (nQ v.fr.1 (by decide)))))) ?_⟩
   rw[BS,<-yA]
   exact .keep (.keep (.keep (.keep (.keep (.forget (.keep .nil))))))
  ·rw[BR,l7];rfl
  ·have e:(cZ 0 (i:Int).toNat).length=i:=by simp[cZ]
   rw[e]
  ·obtain⟨ON,rfl⟩:=eM hj
   have Qa:j<f.length-1-i:=by simpa using ON
   refine⟨_,bj t 5,Lr.weak (aD (bE t 4 (aS (ac t 4) (aJ (Lq.qt (ac t 1)) ag (yv q)) (fk (k:=100000) (by decide) (nQ (X1 j (by lia)) (by decide)) (nQ hb (by decide)))))) ?_⟩
   rw[BS,<-yA]
   exact .keep (.keep (.keep (.keep (.keep (.forget (.keep .nil))))))
  ·rw[BR,l7]
  ·have e:(cZ 0 ((f.length-1-i:Nat):Int).toNat).length=f.length-1-i:=by simp[cZ]
   rw[e]
 ·have e:(cZ 0 ((((f.map D.int).length:Nat)):Int).toNat).length=f.length:=by simp[cZ]
  rw[e]
 refine ao (bE t 6 ag) ?_
 refine ao (ρ':=[.val (av f),.val (em q),.val (.int (AV f q.num q.den f.length)),.un,.un,.un,.val (.int ((q.den:Int) ^ (f.length-1)))]) (fC t (eQ t b1 (dz (eC t b2 (Lq.qt (ac t 0))) ag) (by rw[ah];lia) (by rw[ah];lia)) (LB.LJ (fun j=>[.val (av f),.val (em q),.val (.int (AV f q.num q.den f.length)),.un,.un,.un,.val (.int ((q.den:Int) ^ j))]) (fun j d hj=>?_) (by rw[BR];rfl) ?_)) ?_
 ·obtain⟨ON,rfl⟩:=eM hj
  have Qa:j<200:=by
   have:j<(((f.map D.int).length:Int)-1).toNat:=ON
   rw[ah] at this
   lia
  refine⟨_,bj t 5,Lr.weak (aD (bE t 6 (aS (ac t 6) (aJ (Lq.qt (ac t 1)) ag (yv q)) (fk (k:=30000) (by decide) (sr hb j (by lia)) (nQ hb (by decide)))))) ?_⟩
  rw[BS]
  exact .keep (.keep (.keep (.keep (.keep (.forget (.keep .nil))))))
 ·have e:(cZ 0 (((f.map D.int).length:Int)-1).toNat).length=f.length-1:=by simp[cZ]
  rw[e]
 ·refine aD (bC (ax t cL (ae (ac t 2) (ae (ac t 6) ak)) ⟨_,_,rfl,Int.pow_ne_zero (oz q),by rw[Bp]⟩))
inductive Ro
 |q (r:Rat)
 |s (u e D:Int)
def Ro.rt:Ro->Rt
 |.q r=>.q r.num r.den
 |.s u e D=>.s u e D
def eJ:Ro->D
 |.q r=>.tup [.str "q",em r]
 |.s u e D=>.tup [.str "s",.int u,.int e,.int D]
structure Mr(r:Ro):Prop where
 q:∀p,r=.q p->p.num.natAbs<=9/\p.den<=3
 s:∀u e D,r=.s u e D->u.natAbs<=3/\(e=1\/e=-1)/\D∈[2,3,5,6,7,8,10,(12:Int)]
def dList:aI:=[2,3,5,6,7,8,10,12]
def mi(x y:Int):Ro:=if x%2=0 then .q (Rat.divInt (x / 2%19-9) (1+y%3)) else .s (x / 2%7-3) (1-2*(y%2)) (dList.getD (y / 2%8).toNat 0)
def hU(ds:cQ)(d:D):Prop:=∃x y:Int,ds=[.int x,.int y]/\d=eJ (mi x y)
def nC:∀ds d,hU ds d->ds.length=2:=by rintro _ _ ⟨a,b,rfl,_⟩;rfl
def iD(ds:cQ)(d:D):Prop:=∃r:Ro,ds=[eJ r]/\Mr r/\d=av (bY r.rt)
def rG:∀ds d,iD ds d->ds.length=1:=by rintro _ _ ⟨a,rfl,_⟩;rfl
def ik:Ro->List Ro
 |.q r=>[.q r]
 |.s u e D=>[.s u e D,.s u (0-e) D]
def oK(ds:cQ)(d:D):Prop:=∃r:Ro,ds=[eJ r]/\d=.lst ((ik r).map eJ)
def v4:∀ds d,oK ds d->ds.length=1:=by rintro _ _ ⟨a,rfl,_⟩;rfl
def pT(h:DefX P w K mg base k hG (ai fF) X)(cL:Callee X "_law_low" iq):
  Go X hG fF hU:=by
 rintro ds d ⟨x,y,rfl,rfl⟩
 have t:=h.at'
 haveI:=h.Mg
 show Lr X [.val (.int x),.val (.int y)] _ _
 by_cases c:x%2=0
 ·refine fO (fy (Lu.eq (fm (aW (ac t 0) ag (by decide)) ag) (aH c)) (aD (bC (Lq.eq (aV (ae dk (ae (ax t cL (ae (dz (aW (lA t (ac t 0) ag (by decide)) ag (by decide)) ag) (ae (bO ag (aW (ac t 1) ag (by decide))) ak)) ⟨_,_,rfl,by lia,rfl⟩) ak))) ?_))))
  unfold mi;rw[aB c];rfl
 refine ao (dr (Lu.eq (fm (aW (ac t 0) ag (by decide)) ag) (ap c)) bR) ?_
 have hi:(y / 2%8).toNat<dList.length:=by show _<8;lia
 refine aD (bC (Lq.eq (aV (ae dk (ae (dz (aW (lA t (ac t 0) ag (by decide)) ag (by decide)) ag) (ae (dz ag (aS ag (aW (ac t 1) ag (by decide)) (br (by decide) (by decide)))) (ae (aJ (xs:=dList.map D.int) (i:=y / 2%8) (LQ.toQ (dZ (ae ag (ae ag (ae ag (ae ag (ae ag (ae ag (ae ag (ae ag ak)))))))))) (aW (lA t (ac t 1) ag (by decide)) ag (by decide)) (d:=.int (dList.getD (y / 2%8).toNat 0)) ?_) ak))))) ?_))
 ·have:=dv hi
  rwa [show(((y / 2%8).toNat:Nat):Int)=y / 2%8 by lia] at this
 ·unfold mi;rw[ay c];rfl
def uR(h:DefX P w K mg base k kx (ai iB) X):
  Go X kx iB iD:=by
 rintro ds d ⟨r,rfl,ok,rfl⟩
 have t:=h.at'
 haveI:=h.Mg
 show Lr X [.val (eJ r)] _ _
 cases r with
 |q r=>
  refine fO (fy (Lu.eq (ko t (aJ (Lq.qt (ac t 0)) ag rfl) dk (by decide)) rfl) (aD (bC (aV (ae (dz ag (aJ (Lq.qt (aJ (Lq.qt (ac t 0)) ag rfl)) ag rfl)) (ae (aJ (Lq.qt (aJ (Lq.qt (ac t 0)) ag rfl)) ag rfl) ak))))))
 |s u e D=>
  have hu:=(ok.s u e D rfl).1
  refine ao (dr (Lu.eq (ko t (aJ (Lq.qt (ac t 0)) ag rfl) dk (by decide)) rfl) bR) ?_
  exact aD (bC (aV (ae (dz (aS (aJ (Lq.qt (ac t 0)) ag rfl) (aJ (Lq.qt (ac t 0)) ag rfl) (br (by lia) (by lia))) (aJ (Lq.qt (ac t 0)) ag rfl)) (ae (dz ag (aS ag (aJ (Lq.qt (ac t 0)) ag rfl) (br (by decide) (by decide)))) (ae ag ak)))))
def zr(h:DefX P w K mg base k oG (ai lj) X):
  Go X oG lj oK:=by
 rintro ds d ⟨r,rfl,rfl⟩
 have t:=h.at'
 haveI:=h.Mg
 show Lr X [.val (eJ r)] _ _
 cases r with
 |q r=>
  exact fO (fy (Lu.eq (ko t (aJ (Lq.qt (ac t 0)) ag rfl) dk (by decide)) rfl) (aD (bC (LQ.Mi (dZ (ae (ac t 0) ak))))))
 |s u e D=>
  refine ao (dr (Lu.eq (ko t (aJ (Lq.qt (ac t 0)) ag rfl) dk (by decide)) rfl) bR) ?_
  exact aD (bC (LQ.Mi (dZ (ae (ac t 0) (ae (aV (ae dk (ae (aJ (Lq.qt (ac t 0)) ag rfl) (ae (dz ag (aJ (Lq.qt (ac t 0)) ag rfl)) (ae (aJ (Lq.qt (ac t 0)) ag rfl) ak))))) ak)))))
def GF(r:Rat):r.num.sign=sg r:=by
 have h:=gY r
 have pd:0<((r.den:Int):Rat):=Rat.intCast_pos.mpr (by have:=r.den_pos;lia)
 have e:=c8 sg h
 rw[dX,dI pd,l7,kj] at e
 exact e
def tj(r:Rat):((r.num:Int):Rat) / (((r.den:Nat):Int):Rat)=r:=by
 have h:=gY r
 have pd:0<((r.den:Int):Rat):=Rat.intCast_pos.mpr (by have:=r.den_pos;lia)
 grind
def Fv(u D:Int)(hu:u.natAbs<=3)(hD:D.natAbs<=12):∀f:aI,(∀x∈f,x.natAbs<2 ^ 64)->(gO u D f).1.natAbs<2 ^ (64+4*f.length)/\(gO u D f).2.natAbs<2 ^ (64+4*f.length)
 |[],_=>⟨by show(0:Int).natAbs<_;exact l6 (by decide),by show(0:Int).natAbs<_;exact l6 (by decide)⟩
 |c::f,h=>by
  obtain⟨i1,i2⟩:=Fv u D hu hD f fun x hx=>h x (aj _ hx)
  have hc:=h c (by simp)
  have e:2 ^ (64+4*(c::f).length)=16*2 ^ (64+4*f.length):=by
   rw[dC,show 64+4*(f.length+1)=64+4*f.length+4 by lia,K8];lia
  have p0:2 ^ 64<=2 ^ (64+4*f.length):=bB (by decide) (by lia)
  rw[e]
  generalize 2 ^ (64+4*f.length)=W at *
  show(c+u*(gO u D f).1+(gO u D f).2*D).natAbs<_/\((gO u D f).1+u*(gO u D f).2).natAbs<_
  generalize (gO u D f).1=p at *
  generalize (gO u D f).2=m at *
  have a1:(u*p).natAbs<=3*p.natAbs:=by rw[bu];exact cy _ hu
  have a2:(u*m).natAbs<=3*m.natAbs:=by rw[bu];exact cy _ hu
  have a3:(m*D).natAbs<=m.natAbs*12:=by rw[bu];exact dU _ hD
  generalize 2 ^ 64=V at *
  generalize u*p=up at *
  generalize u*m=um at *
  generalize m*D=mD at *
  lia
def jK(ds:cQ)(d:D):Prop:=∃(f:aI) (r:Ro),ds=[av f,eJ r]/\Mr r/\f.length<=100/\(∀x∈f,x.natAbs<2 ^ 64)/\d=.int (yU f r.rt)
def qv:∀ds d,jK ds d->ds.length=2:=by rintro _ _ ⟨f,q,rfl,_⟩;rfl
def gE(ds:cQ)(d:D):Prop:=∃(p:Rat) (r:Ro),ds=[em p,eJ r]/\Mr r/\fb 30 p/\d=.int (JR r.rt p)
def mv:∀ds d,gE ds d->ds.length=2:=by rintro _ _ ⟨f,q,rfl,_⟩;rfl
def DO{D:Int}(h:D∈[2,3,5,6,7,8,10,(12:Int)]):2<=D/\D<=12:=by
 simp at h;lia
def DM(p r:Rat):(p.num*(r.den:Int)-r.num*(p.den:Int)).sign=JR (Ro.rt (.q r)) p:=by
 show _=sg ((((r.den:Nat):Int):Rat)*p-r.num)
 have h:=gY p
 have pd:0<((p.den:Int):Rat):=Rat.intCast_pos.mpr (by have:=p.den_pos;lia)
 rw[<-kj,bx,aq,aq,h,show p*((p.den:Int):Rat)*((r.den:Int):Rat)-(r.num:Rat)*((p.den:Int):Rat)=((p.den:Int):Rat)*(((r.den:Int):Rat)*p-r.num) by grind,dX,dI pd,wP]
def DL{u e D:Int}(p:Rat)(he:e=1\/e=-1):(if 0<=(p.num-u*p.den)*(0-e*p.den) then ((p.num-u*p.den).sign+(0-e*(p.den:Int)).sign).sign else (p.num-u*p.den).sign*((p.num-u*p.den)*(p.num-u*p.den)-(0-e*p.den)*(0-e*p.den)*D).sign)=JR (.s u e D) p:=by
 rw[BL]
 have h:=gY p
 have VR:0<(p.den:Int):=by have:=p.den_pos;lia
 have pd:0<((p.den:Int):Rat):=Rat.intCast_pos.mpr VR
 have e1:((p.num-u*p.den:Int):Rat)=((p.den:Int):Rat)*(p-u):=by rw[bx,aq,h];grind
 have s1:(p.num-u*p.den).sign=sg (p-u):=by rw[<-kj,e1,dX,dI pd,wP]
 have e2:(((p.num-u*p.den)*(p.num-u*p.den)-(0-e*p.den)*(0-e*p.den)*D:Int):Rat)=((p.den:Int):Rat)*((p.den:Int):Rat)*qd u D p:=by
  rw[bx,aq,e1,aq,aq,bx,aq]
  have:=ee he
  have e0:((0:Int):Rat)=0:=rfl
  unfold qd
  have e3:(((0:Int):Rat)-(e:Rat)*((p.den:Int):Rat))*(((0:Int):Rat)-(e:Rat)*((p.den:Int):Rat))=((e:Rat)*e)*((p.den:Int):Rat)*((p.den:Int):Rat):=by rw[e0];grind
  rw[e3,this];grind
 have s2:((p.num-u*p.den)*(p.num-u*p.den)-(0-e*p.den)*(0-e*p.den)*D).sign=sg (qd u D p):=by rw[<-kj,e2,dX,dX,dI pd,wP,wP]
 have s3:(0-e*(p.den:Int)).sign=-e:=by
  rcases he with rfl | rfl
  ·exact aN (by lia)
  ·exact aY (by lia)
 have c0:(0<=(p.num-u*p.den)*(0-e*(p.den:Int))) ↔ ¬(0<(e:Rat)*(p-u)):=by
  have k:0<=(p.num-u*p.den)*(0-e*(p.den:Int)) ↔ 0<=((p.num-u*p.den).sign*(0-e*(p.den:Int)).sign):=by
   rw[<-Int.sign_mul];exact Int.sign_nonneg_iff.symm
  rw[k,s1,s3]
  rcases fH he with⟨a,b⟩ | ⟨a,b⟩<;>rw[a,b]<;>rcases cq (p-u) with⟨z,y⟩ | ⟨z,y⟩ | ⟨z,y⟩<;>rw[y]<;>constructor<;>intro w<;>first | lia | grind
 by_cases c:0<(e:Rat)*(p-u)
 ·rw[aB c,ay (fun z=>c0.mp z c),s1,s2]
  rcases fH he with⟨a,b⟩ | ⟨a,b⟩<;>rw[a] at c<;>rw[b]
  ·rw[dI (by grind)]
  ·rw[gA (by grind)]
 ·rw[ay c,aB (c0.mpr c),s1,s3]
  rcases fH he with⟨a,b⟩ | ⟨a,b⟩<;>rw[a] at c<;>rw[b]<;>rcases cq (p-u) with⟨z,y⟩ | ⟨z,y⟩ | ⟨z,y⟩<;>rw[y]<;>first | rfl | (exfalso;grind)
def t7(h:DefX P w K mg base k jG (ai gT) X)(cS:Callee X "_law_sign" kg)(cV:Callee X "_law_row_value" ip):
  Go X jG gT jK:=by
 rintro ds d ⟨f,r,rfl,ok,hl,hb,rfl⟩
 have t:=h.at'
 haveI:=h.Mg
 show Lr X [.val (av f),.val (eJ r),.un,.un,.un,.un] _ _
 cases r with
 |q r=>
  obtain⟨o1,o2⟩:=ok.q r rfl
  refine fO (fy (Lu.eq (ko t (aJ (Lq.qt (ac t 1)) ag rfl) dk (by decide)) rfl) (aD (bC (Lq.eq (ax t cS (ae (aJ (Lq.qt (ax t cV (ae (ac t 0) (ae (aJ (Lq.qt (ac t 1)) ag rfl) ak)) ⟨f,r,rfl,⟨by lia,fun x hx=>aE (hb x hx) (bB (by decide) (by decide)),bU o1 (by decide),bU o2 (by decide)⟩,rfl⟩)) ag (Nv _)) ak) ⟨_,rfl,rfl⟩) ?_))))
  show D.int (aG f r).num.sign=D.int (sg (aG f (((r.num:Int):Rat) / (((r.den:Nat):Int):Rat))))
  rw[GF,tj]
 |s u e D=>
  obtain⟨hu,he,hD⟩:=ok.s u e D rfl
  have Xm:=DO hD
  have Xz:e*e=1:=by rcases he with rfl | rfl<;>rfl
  refine ao (dr (Lu.eq (ko t (aJ (Lq.qt (ac t 1)) ag rfl) dk (by decide)) rfl) bR) ?_
  refine ao (re t (aV (ae ag (ae ag ak))) (mC (ds:=[.int 0,.int 0]) t (dL (bj t 2) (dL (bj t 3) jg)))) ?_
  refine ao (ρ':=[.val (av f),.val (eJ (.s u e D)),.val (.int (gO u D f).1),.val (.int (e*(gO u D f).2)),.un,.un]) (fC t (mB (G4 (Lq.qt (ac t 0)) (ge ag))) (LB.LJ (fun i=>[.val (av f),.val (eJ (.s u e D)),.val (.int (gO u D (f.drop (f.length-i))).1),.val (.int (e*(gO u D (f.drop (f.length-i))).2)),.un,.un]) (fun i d hi=>?_) ?_ ?_)) ?_
  ·rw[<-List.map_reverse,List.getElem?_map] at hi
   cases e9:f.reverse[i]? with
   |none=>rw[e9] at hi;cases hi
   |some c=>
    rw[e9] at hi;cases hi
    obtain⟨Mj,hc⟩:=yL e9
    have hd:f.drop (f.length-(i+1))=c::f.drop (f.length-i):=by
     have h1:f.length-(i+1)<f.length:=by lia
     rw[iR h1]
     have h3:f[f.length-(i+1)]?=some c:=by rw[show f.length-(i+1)=f.length-1-i by lia];exact hc
     have h2:f[f.length-(i+1)]=c:=(List.getElem?_eq_some_iff.mp h3).2
     rw[h2,show f.length-(i+1)+1=f.length-i by lia]
    rw[hd]
    generalize f.drop (f.length-i)=g
    have se : -(2 ^ 64)<e/\e<2 ^ 64:=by rcases he with rfl | rfl<;>decide
    refine⟨_,bj t 4,Lr.weak (ao (bE t 5 (bO (aS (ac t 2) (aJ (Lq.qt (ac t 1)) ag rfl) (ek se.1 se.2)) (aS (ac t 3) (aJ (Lq.qt (ac t 1)) ag rfl) (ek (by lia) (by lia))))) (ao (bE t 2 (bO (bO (aS (ac t 2) (aJ (Lq.qt (ac t 1)) ag rfl) (ek (by lia) (by lia))) (aS (aS (ac t 3) (aJ (Lq.qt (ac t 1)) ag rfl) (ek se.1 se.2)) (aJ (Lq.qt (ac t 1)) ag rfl) (ek (by lia) (by lia)))) (ac t 4))) (aD (bE t 3 (ac t 5))))) ?_⟩
    have q1:(gO u D (c::g)).1=(gO u D g).1*u+e*(gO u D g).2*e*D+c:=by
     show c+u*(gO u D g).1+(gO u D g).2*D=_
     rw[show e*(gO u D g).2*e*D=(e*e)*((gO u D g).2*D) by grind,Xz];grind
    have q2:e*(gO u D (c::g)).2=(gO u D g).1*e+e*(gO u D g).2*u:=by
     show e*((gO u D g).1+u*(gO u D g).2)=_
     grind
    rw[q1,q2]
    exact .keep (.keep (.keep (.keep (.forget (.forget .nil)))))
  ·rw[BQ,List.drop_length]
   show _=_
   simp[gO]
  ·rw[dW,ah,Nat.sub_self,oN]
  have bd:=Fv u D hu (by lia) f hb
  have l1:2 ^ (64+4*f.length)<=2 ^ 500:=bB (by decide) (by lia)
  have b1:=aE bd.1 l1
  have b2:(e*(gO u D f).2).natAbs<2 ^ 500:=by
   rw[bu]
   have:e.natAbs=1:=by rcases he with rfl | rfl<;>rfl
   rw[this,Nat.one_mul];exact aE bd.2 l1
  clear bd l1
  show Lr X _ _ (.rt (.int (iT (gO u D f).1 (e*(gO u D f).2) D)))
  generalize (gO u D f).1=p at *
  generalize e*(gO u D f).2=m at *
  have sp:=vJ p
  have sm:=vJ m
  by_cases c:0<=p.sign*m.sign
  ·refine fO (fy (Lu.eq (pL (aS (ax t cS (ae (ac t 2) ak) ⟨_,rfl,rfl⟩) (ax t cS (ae (ac t 3) ak) ⟨_,rfl,rfl⟩) (br (by lia) (by lia))) ag) (aH c)) (aD (bC (Lq.eq (ax t cS (ae (bO (ax t cS (ae (ac t 2) ak) ⟨_,rfl,rfl⟩) (ax t cS (ae (ac t 3) ak) ⟨_,rfl,rfl⟩)) ak) ⟨_,rfl,rfl⟩) ?_))))
   unfold iT;rw[aB c]
  ·refine ao (dr (Lu.eq (pL (aS (ax t cS (ae (ac t 2) ak) ⟨_,rfl,rfl⟩) (ax t cS (ae (ac t 3) ak) ⟨_,rfl,rfl⟩) (br (by lia) (by lia))) ag) (ap c)) bR) ?_
   refine aD (bC (Lq.eq (aS (ax t cS (ae (ac t 2) ak) ⟨_,rfl,rfl⟩) (ax t cS (ae (dz (aS (ac t 2) (ac t 2) (fk (k:=500) (by decide) b1 b1)) (aS (aS (ac t 3) (ac t 3) (fk (k:=500) (by decide) b2 b2)) (aJ (Lq.qt (ac t 1)) ag rfl) (ek (by lia) (by lia)))) ak) ⟨_,rfl,rfl⟩) (br (by lia) (by lia))) ?_))
   unfold iT;rw[ay c]
def oC(h:DefX P w K mg base k gC (ai fz) X)(cS:Callee X "_law_sign" kg):
  Go X gC fz gE:=by
 rintro ds d ⟨p,r,rfl,ok,hp,rfl⟩
 have t:=h.at'
 haveI:=h.Mg
 have Yp:p.num.natAbs<2 ^ 30:=hp.1
 have Ui:p.den<2 ^ 30:=hp.2
 show Lr X [.val (em p),.val (eJ r),.un,.un] _ _
 cases r with
 |q r=>
  obtain⟨o1,o2⟩:=ok.q r rfl
  refine fO (fy (Lu.eq (ko t (aJ (Lq.qt (ac t 1)) ag rfl) dk (by decide)) rfl) (aD (bC (Lq.eq (ax t cS (ae (dz (aS (aJ (Lq.qt (ac (d:=em p) t 0 rfl)) ag (Nv p)) (aJ (Lq.qt (aJ (Lq.qt (ac t 1)) ag rfl)) ag (yv r)) (br (by lia) (by lia))) (aS (aJ (Lq.qt (aJ (Lq.qt (ac t 1)) ag rfl)) ag (Nv r)) (aJ (Lq.qt (ac (d:=em p) t 0 rfl)) ag (yv p)) (br (by lia) (by lia)))) ak) ⟨_,rfl,rfl⟩) ?_))))
  rw[DM]
 |s u e D=>
  obtain⟨hu,he,hD⟩:=ok.s u e D rfl
  have Xm:=DO hD
  have se : -(2 ^ 64)<e/\e<2 ^ 64:=by rcases he with rfl | rfl<;>decide
  refine ao (dr (Lu.eq (ko t (aJ (Lq.qt (ac t 1)) ag rfl) dk (by decide)) rfl) bR) ?_
  refine ao (rd t 2 3 (dz (aJ (Lq.qt (ac (d:=em p) t 0 rfl)) ag (Nv p)) (aS (aJ (Lq.qt (ac t 1)) ag rfl) (aJ (Lq.qt (ac (d:=em p) t 0 rfl)) ag (yv p)) (br (by lia) (by lia)))) (dz ag (aS (aJ (Lq.qt (ac t 1)) ag rfl) (aJ (Lq.qt (ac (d:=em p) t 0 rfl)) ag (yv p)) (br se.1 se.2))) (by decide)) ?_
  show Lr X [.val (em p),.val (eJ (.s u e D)),.val (.int (p.num-u*p.den)),.val (.int (0-e*p.den))] _ _
  have key:=DL p (u:=u) (D:=D) he
  have b1:(p.num-u*p.den).natAbs<2 ^ 40:=by
   have:(u*(p.den:Int)).natAbs<=3*p.den:=by rw[bu,cK];exact cy _ hu
   generalize u*(p.den:Int)=z at *
   lia
  have b2:(0-e*(p.den:Int)).natAbs<2 ^ 40:=by rcases he with rfl | rfl<;>lia
  show Lr X _ _ (.rt (.int (JR (.s u e D) p)))
  rw[<-key]
  generalize p.num-u*p.den=a at *
  generalize 0-e*(p.den:Int)=b at *
  have sp:=vJ a
  have Rp:∀x y:Int,x.natAbs<2 ^ 40->IntMulOk x y:=fun x y hx=>br (by lia) (by lia)
  by_cases c:0<=a*b
  ·rw[aB c]
   exact fO (fy (Lu.eq (pL (aS (ac t 2) (ac t 3) (Rp _ _ b1)) ag) (aH c)) (aD (bC (ax t cS (ae (bO (ax t cS (ae (ac t 2) ak) ⟨_,rfl,rfl⟩) (ax t cS (ae (ac t 3) ak) ⟨_,rfl,rfl⟩)) ak) ⟨_,rfl,rfl⟩))))
  ·rw[ay c]
   refine ao (dr (Lu.eq (pL (aS (ac t 2) (ac t 3) (Rp _ _ b1)) ag) (ap c)) bR) ?_
   exact aD (bC (aS (ax t cS (ae (ac t 2) ak) ⟨_,rfl,rfl⟩) (ax t cS (ae (dz (aS (ac t 2) (ac t 2) (Rp _ _ b1)) (aS (aS (ac t 3) (ac t 3) (Rp _ _ b2)) (aJ (Lq.qt (ac t 1)) ag rfl) (ek (by lia) (by lia)))) ak) ⟨_,rfl,rfl⟩) (br (by lia) (by lia))))
end My
namespace L2.EV
open PySem PySem.Spec PyProof.Rows
variable {K:dq}{ds:cQ}
def AC{r:Bool}(t:At X N sc)(ha:Lq X ρ a d)(hb:MD X ρ b true xs)(sp:(iE d).canLay0=true)(sd:(iE d).depth<=62)(sq:PyData.canLayAll0 (LD xs)=true)(he:(!(LD xs).any fun y=>PyData.eqv y (iE d))=r)(hm:behindInMarks .NotIn b=false:=by rfl):Lu X ρ (.Compare a [.NotIn] [b] pos) r:=
 .of (m8 (Co t sp sd sq) bW bW hm) fun B F H σ Q k q=>AU (Lq.p ha) (MD.p hb) k fun x y F' H' x' rx ry=>⟨rx,ry,r,by rw[he],q F' H' x'⟩
end L2.EV
namespace My
open PySem L2 L2.EV PyProof.Rows
variable {K:dq}
def BV:Ro->Ro->Bool
 |.q r,.q r'=>decide (r.num=r'.num)&&decide ((r.den:Int)=r'.den)
 |.s u e D,.s u' e' D'=>decide (u=u')&&(decide (e=e')&&decide (D=D'))
 |_,_=>false
def so(a b:Ro):BV a b=true ↔ a=b:=by
 cases a with
 |q r=>
  cases b with
  |q r'=>
   simp only[BV,cn,BN,Ro.q.injEq]
   constructor
   ·rintro⟨h1,h2⟩;exact Rat.ext h1 (by lia)
   ·rintro rfl;exact⟨rfl,rfl⟩
  |s u e D=>simp[BV]
 |s u e D=>
  cases b with
  |q r=>simp[BV]
  |s u' e' D'=>simp[BV]
def G9(a b:Ro):PyData.eqv (iE (eJ a)) (iE (eJ b))=BV a b:=by
 cases a<;>cases b<;>simp[eJ,iE,LD,PyData.eqv,PyData.eqvAll,BV,em,av]
 all_goals first | decide | rfl
def om(a:Ro):(iE (eJ a)).canLay0=true:=by
 cases a<;>simp[eJ,iE,LD,PyData.canLay0,PyData.canLayAll0,em,av]<;>decide
def jE(a:Ro):(iE (eJ a)).depth<=62:=by
 cases a<;>simp[eJ,iE,LD,PyData.depth,PyData.depthAll,em,av]
def j7:∀l:List Ro,PyData.canLayAll0 (LD (l.map eJ))=true
 |[]=>rfl
 |a::l=>by
  show((iE (eJ a)).canLay0&&PyData.canLayAll0 (LD (l.map eJ)))=true
  rw[om,j7 l];rfl
def wz(r:Ro):∀l:List Ro,((LD (l.map eJ)).any fun y=>PyData.eqv y (iE (eJ r)))=l.any fun a=>BV a r
 |[]=>rfl
 |a::l=>by
  show(PyData.eqv (iE (eJ a)) (iE (eJ r))||_)=(BV a r||_)
  rw[G9]
  congr 1
  exact wz r l
abbrev Gr:=Ro×Int
def v6(g:Gr):D:=.tup [eJ g.1,.int g.2]
def EE:Ro->Bool
 |.q _=>true
 |.s _ _ _=>false
def CZ(xs:aI)(k:Nat):Gr:=(mi (xs.getD (3*k+1) 0) (xs.getD (3*k+2) 0),1+(if EE (mi (xs.getD (3*k+1) 0) (xs.getD (3*k+2) 0))&&decide (xs.getD (3*k+3) 0%3=1) then 1 else 0))
def nc(xs:aI):List Gr:=(List.range (xs.getD 0 0%4).toNat).map (CZ xs)
def kB(ds:cQ)(d:D):Prop:=∃xs:aI,ds=[bn xs]/\10<=xs.length/\xs.length<1000/\d=.lst ((nc xs).map v6)
def rF:∀ds d,kB ds d->ds.length=1:=by rintro _ _ ⟨a,rfl,_⟩;rfl
def cL:List aI:=[[1],[2],[-1],[-3],[1,0,1],[-2,0,-1],[1,1,1],[1]]
def cF(x:Int):aI:=cL.getD (x%8).toNat []
def bI(gs:List Gr):List Rt:=gs.flatMap fun g=>List.replicate g.2.toNat g.1.rt
structure yq(gs:List Gr):Prop where
 len:gs.length<=3
 ok:∀g∈gs,Mr g.1/\1<=g.2/\g.2<=2
def mU(ds:cQ)(d:D):Prop:=∃(gs:List Gr) (x:Int),ds=[.lst (gs.map v6),.int x]/\yq gs/\d=av (bN (cF x) (bI gs))
def uF:∀ds d,mU ds d->ds.length=2:=by rintro _ _ ⟨a,b,rfl,_⟩;rfl
def gL(l:List Ro)(r:Ro):List Ro:=if l.any (fun a=>BV a r) then l else l++[r]
def cj(gs:List Gr):List Ro:=gs.foldl (fun l g=>(ik g.1).foldl gL l) []
def kA(ds:cQ)(d:D):Prop:=∃gs:List Gr,ds=[.lst (gs.map v6)]/\yq gs/\d=.lst ((cj gs).map eJ)
def rE:∀ds d,kA ds d->ds.length=1:=by rintro _ _ ⟨a,rfl,_⟩;rfl
def Cn(x y:Int):Mr (mi x y):=by
 unfold mi
 by_cases c:x%2=0
 ·rw[aB c]
  refine⟨fun p e=>?_,fun u e D z=>by cases z⟩
  cases e
  have hb:(1+y%3)≠0:=by lia
  have d1:=nu (a:=x / 2%19-9) hb
  lia
 ·rw[ay c]
  refine⟨fun p e=>(by cases e),fun u e D z=>?_⟩
  cases z
  refine⟨by lia,by lia,?_⟩
  have:(y / 2%8).toNat<8:=by lia
  generalize (y / 2%8).toNat=n at this
  have:n=0\/n=1\/n=2\/n=3\/n=4\/n=5\/n=6\/n=7:=by lia
  rcases this with rfl | rfl | rfl | rfl | rfl | rfl | rfl | rfl<;>decide
def Bt(xs:aI):yq (nc xs):=by
 refine⟨by unfold nc;simp;lia,fun g hg=>?_⟩
 obtain⟨k,_,rfl⟩:=List.mem_map.mp hg
 refine⟨Cn _ _,?_⟩
 unfold CZ
 simp only
 split<;>lia
def DC{xs:aI}{i:Int}{n:Nat}(e:i=(n:Int))(h:n<xs.length):pU (xs.map D.int) i=some (.int (xs.getD n 0)):=by subst e;exact dv h
def pI(r:Rt):(bY r).length<=3:=by cases r<;>simp[bY]
def Bg(c:aI)(l:List Rt)(r:Rt):bN c (l++[r])=aX (bN c l) (bY r):=by unfold bN;rw[kF];rfl
def CH(c:aI):∀l:List Rt,(bN c l).length<=c.length+3*l.length:=by
 intro l
 induction l generalizing c with
 |nil=>exact az _
 |cons r l ih=>
  have:=ih (aX c (bY r))
  have h1:=jx c (bY r)
  have h2:=pI r
  show(bN (aX c (bY r)) l).length<=_
  rw[dC];lia
def Av{r:Ro}(ok:Mr r):∀y∈bY r.rt,-(2 ^ 63)<y/\y<2 ^ 63:=by
 cases r with
 |q r=>
  obtain⟨h1,h2⟩:=ok.q r rfl
  intro y hy
  simp only[Ro.rt,bY,aC,iO,BM] at hy
  lia
 |s u e D=>
  obtain⟨h1,h2,h3⟩:=ok.s u e D rfl
  have h4:=DO h3
  have h5:(u*u).natAbs<=9:=by rw[bu];have:=gn h1 h1;lia
  intro y hy
  simp only[Ro.rt,bY,aC,iO,BM] at hy
  generalize u*u=uu at *
  lia
def xM(gs:List Gr)(g:Gr):bI (gs++[g])=bI gs++List.replicate g.2.toNat g.1.rt:=by unfold bI;rw[List.flatMap_append];simp
def oq:∀gs:List Gr,(∀g∈gs,g.2<=2)->(bI gs).length<=2*gs.length
 |[],_=>az _
 |g::gs,h=>by
  have:=oq gs fun g hg=>h g (aj _ hg)
  have h1:=h g (by simp)
  show(List.replicate g.2.toNat g.1.rt++bI gs).length<=_
  rw[bV,dH,dC];lia
def DA(x:Int):(cF x).length<=3:=by
 unfold cF
 generalize (x%8).toNat=n
 by_cases h:n<8
 ·have:n=0\/n=1\/n=2\/n=3\/n=4\/n=5\/n=6\/n=7:=by lia
  rcases this with rfl | rfl | rfl | rfl | rfl | rfl | rfl | rfl<;>decide
 ·rw[List.getD_eq_getElem?_getD,List.getElem?_eq_none (by show 8<=n;lia)];decide
def yn(r:Ro):(ik r).length<=2:=by cases r<;>simp[ik]
def DF(l:List Ro)(r:Ro):(gL l r).length<=l.length+1:=by unfold gL;split<;>simp
def qJ:∀(rs l:List Ro),(rs.foldl gL l).length<=l.length+rs.length
 |[],l=>az _
 |r::rs,l=>by
  have h1:=qJ rs (gL l r)
  have h2:=DF l r
  show(rs.foldl gL (gL l r)).length<=_
  rw[dC];lia
def vG:∀(gs:List Gr) (l:List Ro),(gs.foldl (fun l g=>(ik g.1).foldl gL l) l).length<=l.length+2*gs.length
 |[],l=>az _
 |g::gs,l=>by
  have h1:=vG gs ((ik g.1).foldl gL l)
  have h2:=qJ (ik g.1) l
  have h3:=yn g.1
  show(gs.foldl _ ((ik g.1).foldl gL l)).length<=_
  rw[dC];lia
def uQ(h:DefX P w K mg base k kw (ai iA) X)(Lz:mg "range"=none)(MP:mg "int"=none)(cR:Callee X "_law_root_drawn" hU):
  Go X kw iA kB:=by
 rintro ds d ⟨xs,rfl,Yz,hl,rfl⟩
 have t:=h.at'
 haveI:=h.Mg
 have b1:=h.bt Lz
 have b2:=h.bt MP
 show Lr X [.val (bn xs),.un,.un,.un,.un] _ _
 refine ao (kl t 1 (xs:=[]) (dZ ak)) ?_
 have e4:((xs.getD 0 0%4).toNat:Int)=xs.getD 0 0%4:=by lia
 refine ao (ρ':=[.val (bn xs),.own ((nc xs).map v6),.un,.un,.un]) (fC t (eQ t b1 (aW (i:=xs.getD 0 0) (aJ (Lq.ql (ac t 0)) ag (dv (n:=0) (by lia))) ag (by decide)) (by lia) (by lia)) (LB.LJ (fun i=>[.val (bn xs),.own (((List.range i).map (CZ xs)).map v6),.un,.un,.un]) (fun i d hi=>?_) rfl ?_)) (fX 1 rfl (aD (bC (ac t 1))))
 ·obtain⟨Ox,rfl⟩:=eM hi
  have Nr:i<4:=by simp at Ox;lia
  have Px:i<=2:=by lia
  have e1:∀m:Nat,m<=3->3*i+m<xs.length:=fun m hm=>by lia
  have ix:∀m:Nat,m<=3->pU (xs.map D.int) (3*(i:Int)+(m:Int))=some (.int (xs.getD (3*i+m) 0)):=fun m hm=>DC (by lia) (e1 m hm)
  refine⟨_,bj t 2,Lr.weak (ao (bE t 3 (d:=eJ (mi (xs.getD (3*i+1) 0) (xs.getD (3*i+2) 0))) (ax t cR (ae (aJ (Lq.ql (ac t 0)) (bO (aS ag (ac t 2) (br (by decide) (by decide))) ag) (ix 1 (by decide))) (ae (aJ (Lq.ql (ac t 0)) (bO (aS ag (ac t 2) (br (by decide) (by decide))) ag) (ix 2 (by decide))) ak)) ⟨_,_,rfl,rfl⟩)) (ao (bE t 4 (d:=.int (if EE (mi (xs.getD (3*i+1) 0) (xs.getD (3*i+2) 0))&&decide (xs.getD (3*i+3) 0%3=1) then 1 else 0)) (sB t b2 (EO (u:=EE (mi (xs.getD (3*i+1) 0) (xs.getD (3*i+2) 0))) ?_ (fun _=>Dj t (aW (i:=xs.getD (3*i+3) 0) (aJ (Lq.ql (ac t 0)) (bO (aS ag (ac t 2) (br (by decide) (by decide))) ag) (ix 3 (by decide))) ag (by decide)) ag)))) (aD (kP t 1 rfl (aV (ae (ac t 3) (ae (bO ag (ac t 4)) ak))) (by rw[ah,ah,List.length_range];exact gH (by lia)))))) ?_⟩
  ·generalize mi (xs.getD (3*i+1) 0) (xs.getD (3*i+2) 0)=r
   cases r with
   |q r=>exact Lq.eq (Di t (aJ (Lq.qt (ac (d:=eJ (.q r)) t 3 rfl)) ag rfl) dk (by decide)) (by rfl)
   |s u e D=>exact Lq.eq (Di t (aJ (Lq.qt (ac (d:=eJ (.s u e D)) t 3 rfl)) ag rfl) dk (by decide)) (by rfl)
  ·show MB _ [.val (bn xs),.own (((List.range (i+1)).map (CZ xs)).map v6),.un,.un,.un]
   rw[uj,bG,bG]
   exact .keep (.keep (.forget (.forget (.forget .nil))))
 ·have e:(cZ 0 (xs.getD 0 0%4).toNat).length=(xs.getD 0 0%4).toNat:=by simp[cZ]
  rw[e];rfl
def yj(h:DefX P w K mg base k mM (ai jX) X)(Lz:mg "range"=none)(cT:Callee X "_law_times" gb)(Ts:Callee X "_law_factor" iD):
  Go X mM jX mU:=by
 rintro ds d ⟨gs,x,rfl,ok,rfl⟩
 have t:=h.at'
 haveI:=h.Mg
 have b1:=h.bt Lz
 show Lr X [.val (.lst (gs.map v6)),.val (.int x),.un,.un,.un,.un] _ _
 have hx:(x%8).toNat<8:=by lia
 have ce:(cL.map av)[(x%8).toNat]?=some (av (cF x)):=by
  rw[List.getElem?_map,List.getElem?_eq_getElem (show(x%8).toNat<cL.length from hx)]
  unfold cF
  rw[List.getD_eq_getElem?_getD,List.getElem?_eq_getElem (show(x%8).toNat<cL.length from hx)];rfl
 refine ao (bE t 2 (d:=av (cF x)) (aJ (xs:=cL.map av) (i:=x%8) (LQ.toQ (dZ (ae (aV (ae ag ak)) (ae (aV (ae ag ak)) (ae (aV (ae (ge ag) ak)) (ae (aV (ae (ge ag) ak)) (ae (aV (ae ag (ae ag (ae ag ak)))) (ae (aV (ae (ge ag) (ae ag (ae (ge ag) ak)))) (ae (aV (ae ag (ae ag (ae ag ak)))) (ae (aV (ae ag ak)) ak)))))))))) (aW (ac t 1) ag (by decide)) (by have:=zt (xs:=cL.map av) (x%8).toNat ce;rwa [show(((x%8).toNat:Nat):Int)=x%8 by lia] at this))) ?_
 have lc:=DA x
 refine ao (ρ':=[.val (.lst (gs.map v6)),.val (.int x),.val (av (bN (cF x) (bI gs))),.un,.un,.un]) (fC t (iV (ac t 0)) (LB.LJ (fun i=>[.val (.lst (gs.map v6)),.val (.int x),.val (av (bN (cF x) (bI (gs.take i)))),.un,.un,.un]) (fun i d hi=>?_) ?_ ?_)) (aD (bC (ac t 2)))
 ·rw[List.getElem?_map] at hi
  cases eg:gs[i]? with
  |none=>rw[eg] at hi;cases hi
  |some g=>
   rw[eg] at hi;cases hi
   obtain⟨Mj,ZJ⟩:=List.getElem?_eq_some_iff.mp eg
   obtain⟨Uy,g1,g2⟩:=ok.ok g (List.mem_of_getElem? eg)
   have hn:=ok.len
   have ex:bI (gs.take (i+1))=bI (gs.take i)++List.replicate g.2.toNat g.1.rt:=by
    rw[kD,eg];exact xM _ _
   have el:=oq (gs.take i) fun g hg=>(ok.ok g (K9 hg)).2.2
   rw[bw] at el
   rw[ex]
   refine⟨_,mC (ds:=[eJ g.1,.int g.2]) t (dL (bj t 3) (dL (bj t 4) jg)),Lr.weak (aD (fC t (eQ t b1 (ac t 4) (by lia) (by lia)) (LB.LJ (fun j=>[.val (.lst (gs.map v6)),.val (.int x),.val (av (bN (cF x) (bI (gs.take i)++List.replicate j g.1.rt))),.val (eJ g.1),.val (.int g.2),.un]) (fun j d hj=>?_) ?_ rfl))) ?_⟩
   ·obtain⟨ON,rfl⟩:=eM hj
    have Ys:j<2:=by simp at ON;lia
    refine⟨_,bj t 5,Lr.weak (aD (bE t 2 (ax t cT (ae (ac t 2) (ae (ax t Ts (ae (ac t 3) ak) ⟨g.1,rfl,Uy,rfl⟩) ak)) ⟨_,_,rfl,?_,?_,Av Uy,rfl⟩))) ?_⟩
    ·have:=CH (cF x) (bI (gs.take i)++List.replicate j g.1.rt)
     rw[bV,dH] at this;lia
    ·have:=pI g.1.rt;lia
    ·rw[wN,<-p7,Bg]
     exact .keep (.keep (.keep (.keep (.keep (.forget .nil)))))
   ·simp
   ·have e:(cZ 0 g.2.toNat).length=g.2.toNat:=by simp[cZ]
    rw[e]
    exact .keep (.keep (.keep (.forget (.forget (.forget .nil)))))
 ·rfl
 ·rw[ah,eE]
def uP(h:DefX P w K mg base k ku (ai iz) X)(cA:Callee X "_law_all" oK):
  Go X ku iz kA:=by
 rintro ds d ⟨gs,rfl,ok,rfl⟩
 have t:=h.at'
 haveI:=h.Mg
 show Lr X [.val (.lst (gs.map v6)),.un,.un,.un,.un] _ _
 refine ao (kl t 1 (xs:=[]) (dZ ak)) ?_
 refine ao (ρ':=[.val (.lst (gs.map v6)),.own ((cj gs).map eJ),.un,.un,.un]) (fC t (iV (ac t 0)) (LB.LJ (fun i=>[.val (.lst (gs.map v6)),.own ((cj (gs.take i)).map eJ),.un,.un,.un]) (fun i d hi=>?_) rfl ?_)) (fX 1 rfl (aD (bC (ac t 1))))
 ·rw[List.getElem?_map] at hi
  cases eg:gs[i]? with
  |none=>rw[eg] at hi;cases hi
  |some g=>
   rw[eg] at hi;cases hi
   have hn:=ok.len
   have ex:cj (gs.take (i+1))=(ik g.1).foldl gL (cj (gs.take i)):=by
    rw[kD,eg];unfold cj;rw[kF];rfl
   have ul:=vG (gs.take i) []
   rw[bw] at ul
   have Ye:(cj (gs.take i)).length<=6:=aZ ul (by simp;lia)
   rw[ex]
   refine⟨_,mC (ds:=[eJ g.1,.int g.2]) t (dL (bj t 2) (dL (bj t 3) jg)),Lr.weak (aD (fC t (iV (ax t cA (ae (ac t 2) ak) ⟨g.1,rfl,rfl⟩)) (LB.LJ (fun j=>[.val (.lst (gs.map v6)),.own ((((ik g.1).take j).foldl gL (cj (gs.take i))).map eJ),.val (eJ g.1),.val (.int g.2),.un]) (fun j d hj=>?_) rfl rfl))) ?_⟩
   ·rw[List.getElem?_map] at hj
    cases er:(ik g.1)[j]? with
    |none=>rw[er] at hj;cases hj
    |some r=>
     rw[er] at hj;cases hj
     have e2:((ik g.1).take (j+1)).foldl gL (cj (gs.take i))=gL (((ik g.1).take j).foldl gL (cj (gs.take i))) r:=by
      rw[kD,er,kF];rfl
     have l2:=qJ ((ik g.1).take j) (cj (gs.take i))
     rw[bw] at l2
     have l3:=yn g.1
     rw[e2]
     generalize ((ik g.1).take j).foldl gL (cj (gs.take i))=fd at *
     by_cases c:(fd.any fun a=>BV a r)=true
     ·refine⟨_,bj t 4,Lr.weak (aD (dr (Dl (d:=eJ r) t (ac t 4) 1 rfl (om r) (jE r) (j7 fd) (by rw[wz,c];rfl)) bR)) ?_⟩
      unfold gL;rw[aB c]
      exact .keep (.keep (.keep (.keep (.forget .nil))))
     ·refine⟨_,bj t 4,Lr.weak (aD (fy (Dl (d:=eJ r) t (ac t 4) 1 rfl (om r) (jE r) (j7 fd) (by rw[wz];simpa using c)) (aD (kP t 1 rfl (ac t 4) (by rw[ah];exact gH (by lia)))))) ?_⟩
      unfold gL;rw[ay c,bG]
      exact .keep (.keep (.keep (.keep (.forget .nil))))
   ·rw[ah,eE]
    exact .keep (.keep (.forget (.forget (.forget .nil))))
 ·rw[ah,eE]
def dm:Option Rat->D
 |none=>.LH
 |some q=>em q
structure uc(f:aI)(p:Rat):Prop where
 v:NY f p
 nz:sU p f≠0
structure wJ(f:aI)(lo hi:Option Rat):Prop where
 lt:∀p q,lo=some p->hi=some q->p<q
 lo:∀p,lo=some p->uc f p
 hi:∀p,hi=some p->uc f p
inductive ki(f:aI):Option Rat->Option Rat->Prop where
 |order {p q:Rat}:¬p<q->fb 100 p->fb 100 q->ki f (some p) (some q)
 |low {p:Rat} {hi:Option Rat}:NY f p->sU p f=0->(∀q,hi=some q->p<q/\fb 100 q)->ki f (some p) hi
 |high {q:Rat}:NY f q->sU q f=0->ki f none (some q)
def gj(ds:cQ)(d:D):Prop:=∃(f:aI) (lo hi:Option Rat),ds=[av f,dm lo,dm hi]/\wJ f lo hi/\d=.LH
def lW:∀ds d,gj ds d->ds.length=3:=by rintro _ _ ⟨f,a,b,rfl,_⟩;rfl
def gf(ds:cQ):Prop:=∃(f:aI) (lo hi:Option Rat),ds=[av f,dm lo,dm hi]/\ki f lo hi
def ln:∀ds,gf ds->ds.length=3:=by rintro _ ⟨f,a,b,rfl,_⟩;rfl
def gD(ds:cQ)(d:D):Prop:=∃(f:aI) (lo hi:Option Rat),ds=[av f,dm lo,dm hi]/\f≠[]/\wJ f lo hi/\d=.LH
def mr:∀ds d,gD ds d->ds.length=3:=by rintro _ _ ⟨f,a,b,rfl,_⟩;rfl
def gB(ds:cQ):Prop:=∃(f:aI) (lo hi:Option Rat),ds=[av f,dm lo,dm hi]/\f≠[]/\ki f lo hi
def lV:∀ds,gB ds->ds.length=3:=by rintro _ ⟨f,a,b,rfl,_⟩;rfl
def gh(ds:cQ):Prop:=∃(lo hi:Option Rat),ds=[av [],dm lo,dm hi]
def lv:∀ds,gh ds->ds.length=3:=by rintro _ ⟨a,b,rfl⟩;rfl
def Ao(f g:aI):aI:=aX (bz f) g
def yD(f g:aI)(lo hi:Option Rat):Int:=((EU (wQ (fA f (Ao f g)) (sL lo)):Nat):Int)-(EU (wQ (fA f (Ao f g)) (sH hi)):Nat)
def gw(ds:cQ)(d:D):Prop:=∃(f g:aI) (lo hi:Option Rat),ds=[av f,av g,dm lo,dm hi]/\f≠[]/\wJ f lo hi/\Np f (Ao f g)/\BB 300 f/\g.length<100/\(∀y∈g,-(2 ^ 63)<y/\y<2 ^ 63)/\d=.int (yD f g lo hi)
def pq:∀ds d,gw ds d->ds.length=4:=by rintro _ _ ⟨f,g,a,b,rfl,_⟩;rfl
def iW(ds:cQ):Prop:=∃(f g:aI) (lo hi:Option Rat),ds=[av f,av g,dm lo,dm hi]/\f≠[]/\ki f lo hi
def n9:∀ds,iW ds->ds.length=4:=by rintro _ ⟨f,g,a,b,rfl,_⟩;rfl
def il(ds:cQ):Prop:=∃(g:aI) (lo hi:Option Rat),ds=[av [],av g,dm lo,dm hi]
def nB:∀ds,il ds->ds.length=4:=by rintro _ ⟨g,a,b,rfl⟩;rfl
def KA:Option Rat->D
 |none=>.str "low"
 |some q=>em q
def KC:Option Rat->D
 |none=>.str "high"
 |some q=>em q
def Hi{lo:Option Rat}(h:∀p,lo=some p->uc f p):zV (KA lo) (sL lo):=by
 cases lo with
 |none=>exact .low
 |some p=>exact .fr p (h p rfl).v.fr
def EZ{hi:Option Rat}(h:∀p,hi=some p->uc f p):zV (KC hi) (sH hi):=by
 cases hi with
 |none=>exact .high
 |some p=>exact .fr p (h p rfl).v.fr
def G7(lo:Option Rat)(hc:Lu X ρ c (tO (dm lo)))(ha:Lq X ρ a (.str "low"))(hb:Lq X ρ b (dm lo)):Lq X ρ (.IfExp c a b pos) (KA lo):=by
 cases lo with
 |none=>exact wa hc ha
 |some p=>exact tR hc hb
def EL(hi:Option Rat)(hc:Lu X ρ c (tO (dm hi)))(ha:Lq X ρ a (.str "high"))(hb:Lq X ρ b (dm hi)):Lq X ρ (.IfExp c a b pos) (KC hi):=by
 cases hi with
 |none=>exact wa hc ha
 |some p=>exact tR hc hb
def nI(h:DefX P w K mg base k Lx (ai df) X)(cB:Callee X "below" sF)(cV:Callee X "sign_of_value" fE):
  ∀ds d,gj ds d->Lr X (ds.map Sl.val++List.replicate (Lx.length-ds.length) Sl.un) (bX df) (.rt d)\/(d=.LH/\∃ρ',Lr X (ds.map Sl.val++List.replicate (Lx.length-ds.length) Sl.un) (bX df) (.nx ρ')):=by
 rintro ds d ⟨f,lo,hi,rfl,ok,rfl⟩
 have t:=h.at'
 haveI:=h.Mg
 refine .inr ⟨rfl,[.val (av f),.val (dm lo),.val (dm hi),.val (dm hi)],?_⟩
 show Lr X [.val (av f),.val (dm lo),.val (dm hi),.un] _ _
 have turn:∀(e:Option Rat) (z:Sl),(∀p,e=some p->uc f p)->∀{c:Expr} {b:List Stmt} {pos:Pos},(Lu X [.val (av f),.val (dm lo),.val (dm hi),.val (dm e)] c false)->Lr X [.val (av f),.val (dm lo),.val (dm hi),.val (dm e)] [.If c b [] pos] (.nx [.val (av f),.val (dm lo),.val (dm hi),.val (dm e)]):=fun e z he c b pos hc=>aD (dr hc bR)
 refine ao (dr (Lu.eq (ka (dJ (ac t 1)) (fun _=>dJ (ac t 2)) (w:=false) (fun a b=>?_)) (by simp)) bR) ?_
 ·cases lo with
  |none=>cases a
  |some p=>
   cases hi with
   |none=>cases b
   |some q=>exact Lu.eq (we (lT (ax t cB (ae (ac t 1) (ae (ac t 2) ak)) ⟨p,q,100,rfl,(ok.lo p rfl).v.fr,(ok.hi q rfl).v.fr,by decide,rfl⟩))) (by rw[aH (ok.lt p q rfl rfl)];rfl)
 have test:∀e:Option Rat,(∀p,e=some p->uc f p)->∀{a b:Expr} {pos:Pos},Lu X [.val (av f),.val (dm lo),.val (dm hi),.val (dm e)] a (!tO (dm e))->(∀p,e=some p->Lu X [.val (av f),.val (dm lo),.val (dm hi),.val (em p)] b (decide (sU p f=0)))->Lu X [.val (av f),.val (dm lo),.val (dm hi),.val (dm e)] (.BoolOp .And [a,b] pos) false:=by
  intro e he a b pos ha hb
  cases e with
  |none=>exact Lu.eq (kc (v:=false) ha (fun z=>by cases z)) rfl
  |some p=>exact Lu.eq (kc ha (fun _=>hb p rfl)) (by rw[ap (he p rfl).nz];simp)
 refine aD (fC t (mB (aV (ae (ac t 1) (ae (ac t 2) ak)))) (.cons (bj t 3) (aD (dr (test lo ok.lo (dJ (ac t 3)) (fun p e=>fm (ax t cV (ae (ac t 0) (ae (ac (d:=em p) t 3 rfl) ak)) ⟨f,p,rfl,(ok.lo p e).v,rfl⟩) ag)) bR)) (.cons (bj t 3) (aD (dr (test hi ok.hi (dJ (ac t 3)) (fun p e=>fm (ax t cV (ae (ac t 0) (ae (ac (d:=em p) t 3 rfl) ak)) ⟨f,p,rfl,(ok.hi p e).v,rfl⟩) ag)) bR)) .nil)))
def mE(h:DefX P w K mg base k Lx (ai df) X)(cB:Callee X "below" sF)(cV:Callee X "sign_of_value" fE)(O:OwnCls "NoEnds" C vB vN mg base):
  ∀ds,gf ds->∃ρ',FG X (ds.map Sl.val++List.replicate (Lx.length-ds.length) Sl.un) (bX df) C ρ':=by
 rintro ds ⟨f,lo,hi,rfl,bad⟩
 have t:=h.at'
 haveI:=h.Mg
 have O':OwnCls "NoEnds" C vB vN X.mg X.base:=by rw[h.Na,h.MT];exact O
 cases bad with
 |@order p q nl f1 f2=>
  refine⟨[.val (av f),.val (em p),.val (em q),.un],HJ ?_⟩
  show mF X true [.val (av f),.val (em p),.val (em q),.un] _ _ _
  exact fR (zX t (Lu.eq (ka (dJ (ac t 1)) (fun _=>dJ (ac t 2)) (fun _ _=>we (lT (ax t cB (ae (ac t 1) (ae (ac t 2) ak)) ⟨p,q,100,rfl,f1,f2,by decide,rfl⟩)))) (by rw[ap nl];rfl)) (fR (rW t O' dk)))
 |@low p hi v z lt=>
  refine⟨[.val (av f),.val (em p),.val (dm hi),.val (em p)],?_⟩
  show FG X [.val (av f),.val (em p),.val (dm hi),.un] _ _ _
  refine wX t (dr (Lu.eq (ka (dJ (ac t 1)) (fun _=>dJ (ac t 2)) (w:=false) (fun a b=>?_)) (by simp)) bR) (wY (BY t (mB (aV (ae (ac t 1) (ae (ac t 2) ak)))) (.here (bj t 3) (fR (zX t (Lu.eq (kc (dJ (ac t 3)) (fun _=>fm (ax t cV (ae (ac t 0) (ae (ac (d:=em p) t 3 rfl) ak)) ⟨f,p,rfl,v,rfl⟩) ag)) (by rw[aH z];rfl)) (fR (rW t O' dk)))))))
  cases hi with
  |none=>cases b
  |some q=>exact Lu.eq (we (lT (ax t cB (ae (ac t 1) (ae (ac t 2) ak)) ⟨p,q,100,rfl,v.fr,(lt q rfl).2,by decide,rfl⟩))) (by rw[aH (lt q rfl).1];rfl)
 |@high q v z=>
  refine⟨[.val (av f),.val .LH,.val (em q),.val (em q)],?_⟩
  show FG X [.val (av f),.val .LH,.val (em q),.un] _ _ _
  refine wX t (dr (Lu.eq (ka (v:=false) (w:=false) (dJ (ac t 1)) (fun a=>by cases a) (fun a=>by cases a)) rfl) bR) (wY (BY t (mB (aV (ae (ac t 1) (ae (ac t 2) ak)))) (.next (bj t 3) (aD (dr (Lu.eq (kc (v:=false) (dJ (ac t 3)) (fun a=>by cases a)) rfl) bR)) (.here (bj t 3) (fR (zX t (Lu.eq (kc (dJ (ac t 3)) (fun _=>fm (ax t cV (ae (ac t 0) (ae (ac (d:=em q) t 3 rfl) ak)) ⟨f,q,rfl,v,rfl⟩) ag)) (by rw[aH z];rfl)) (fR (rW t O' dk))))))))
def oB(h:DefX P w K mg base k Lw (ai cg) X)(cW:Callee X "refuse_wrong_ends" gj):
  ∀ds d,gD ds d->Lr X (ds.map Sl.val++List.replicate (Lw.length-ds.length) Sl.un) (bX cg) (.rt d)\/(d=.LH/\∃ρ',Lr X (ds.map Sl.val++List.replicate (Lw.length-ds.length) Sl.un) (bX cg) (.nx ρ')):=by
 rintro ds d ⟨f,lo,hi,rfl,hf,ok,rfl⟩
 have t:=h.at'
 haveI:=h.Mg
 refine .inr ⟨rfl,[.val (av f),.val (dm lo),.val (dm hi)],?_⟩
 show Lr X [.val (av f),.val (dm lo),.val (dm hi)] _ _
 exact ao (dr (ij t (Lq.p (ac t 0)) (Lq.p (d:=av []) (aV ak)) (bb _) (bb _) (by rw[fY,ap hf])) bR) (aD (Ch (ax t cW (ae (ac t 0) (ae (ac t 1) (ae (ac t 2) ak))) ⟨f,lo,hi,rfl,ok,rfl⟩)))
def nH(h:DefX P w K mg base k Lw (ai cg) X)(cX:ke X "refuse_wrong_ends" C gf):
  ∀ds,gB ds->∃ρ',mF X true (ds.map Sl.val++List.replicate (Lw.length-ds.length) Sl.un) (bX cg) C ρ':=by
 rintro ds ⟨f,lo,hi,rfl,hf,bad⟩
 have t:=h.at'
 refine⟨[.val (av f),.val (dm lo),.val (dm hi)],?_⟩
 show mF X true [.val (av f),.val (dm lo),.val (dm hi)] _ _ _
 exact D0 t (dr (ij t (Lq.p (ac t 0)) (Lq.p (d:=av []) (aV ak)) (bb _) (bb _) (by rw[fY,ap hf])) bR) (fR (yC (sG t cX (ae (ac t 0) (ae (ac t 1) (ae (ac t 2) ak))) ⟨f,lo,hi,rfl,bad⟩)))
def nG(h:DefX P w K mg base k Lw (ai cg) X)(O:OwnCls "NoRow" C vB vN mg base):
  ∀ds,gh ds->∃ρ',mF X true (ds.map Sl.val++List.replicate (Lw.length-ds.length) Sl.un) (bX cg) C ρ':=by
 rintro ds ⟨lo,hi,rfl⟩
 have t:=h.at'
 have O':OwnCls "NoRow" C vB vN X.mg X.base:=by rw[h.Na,h.MT];exact O
 refine⟨[.val (av []),.val (dm lo),.val (dm hi)],?_⟩
 show mF X true [.val (av []),.val (dm lo),.val (dm hi)] _ _ _
 exact fR (zX t (ij t (Lq.p (d:=av []) (ac t 0)) (Lq.p (d:=av []) (aV ak)) (bb _) (bb _) (by rw[fY];rfl)) (fR (rW t O' dk)))
def qG(h:DefX P w K mg base k Ly (ai dG) X)(cX:ke X "refuse_uncounted" C gB):
  ∀ds,iW ds->∃ρ',mF X true (ds.map Sl.val++List.replicate (Ly.length-ds.length) Sl.un) (bX dG) C ρ':=by
 rintro ds ⟨f,g,lo,hi,rfl,hf,bad⟩
 have t:=h.at'
 refine⟨[.val (av f),.val (av g),.val (dm lo),.val (dm hi),.un,.un],?_⟩
 show mF X true [.val (av f),.val (av g),.val (dm lo),.val (dm hi),.un,.un] _ _ _
 exact fR (yC (sG t cX (ae (ac t 0) (ae (ac t 2) (ae (ac t 3) ak))) ⟨f,lo,hi,rfl,hf,bad⟩))
def qF(h:DefX P w K mg base k Ly (ai dG) X)(cX:ke X "refuse_uncounted" C gh):
  ∀ds,il ds->∃ρ',mF X true (ds.map Sl.val++List.replicate (Ly.length-ds.length) Sl.un) (bX dG) C ρ':=by
 rintro ds ⟨g,lo,hi,rfl⟩
 have t:=h.at'
 refine⟨[.val (av []),.val (av g),.val (dm lo),.val (dm hi),.un,.un],?_⟩
 show mF X true [.val (av []),.val (av g),.val (dm lo),.val (dm hi),.un,.un] _ _ _
 exact fR (yC (sG t cX (ae (ac t 0) (ae (ac t 2) (ae (ac t 3) ak))) ⟨lo,hi,rfl⟩))
def rK(h:DefX P w K mg base k Ly (ai dG) X)(cU:Callee X "refuse_uncounted" gD)(cC:Callee X "chain_of" oI)(cA:Callee X "changes_at" lJ)(cT:Callee X "row_times" mT)(cS:Callee X "slope" wK):
  Go X Ly dG gw:=by
 rintro ds d ⟨f,g,lo,hi,rfl,hf,ok,ci,bf,lg,hg,rfl⟩
 have t:=h.at'
 haveI:=h.Mg
 obtain⟨l9,Sq⟩:=ci.Qu
 have sl:(bz f).length<100:=by unfold bz;simp;lia
 have cb:∀x∈fA f (Ao f g),CB x:=fun x hx=>by
  rcases aC.mp hx with rfl | hx
  ·exact⟨hf,by lia,bf.mono (by decide)⟩
  ·exact ci.Yd x hx
 have cl:(fA f (Ao f g)).length<100:=by
  have:=rm ((Ao f g).length+1) f (Ao f g)
  show(cf _ _ _).length+1<100
  lia
 show Lr X [.val (av f),.val (av g),.val (dm lo),.val (dm hi),.un,.un] _ _
 refine ao (Ch (ax t cU (ae (ac t 0) (ae (ac t 2) (ae (ac t 3) ak))) ⟨f,lo,hi,rfl,hf,ok,rfl⟩)) ?_
 refine ao (bE t 4 (ax t cC (ae (ac t 0) (ae (ax t cT (ae (ax t cS (ae (ac t 0) ak) ⟨f,rfl,by lia,rfl⟩) (ae (ac t 1) ak)) ⟨_,_,rfl,sl,lg,hg,rfl⟩) ak)) ⟨f,Ao f g,rfl,hf,ci,rfl⟩)) ?_
 refine ao (bE t 5 (ax t cA (ae (ac t 4) (ae (G7 lo (wf (ac t 2)) dk (ac t 2)) ak)) ⟨_,_,_,rfl,Hi ok.lo,cb,cl,rfl⟩)) ?_
 exact aD (bC (dz (ac t 5) (ax t cA (ae (ac t 4) (ae (EL hi (wf (ac t 3)) dk (ac t 3)) ak)) ⟨_,_,_,rfl,EZ ok.hi,cb,cl,rfl⟩)))
def vv:∀l:List Ro,PyData.depthAll (LD (l.map eJ))<=62
 |[]=>by simp[LD,PyData.depthAll]
 |a::l=>by
  have h1:=jE a
  have h2:=vv l
  show PyData.depthAll (iE (eJ a)::LD (l.map eJ))<=62
  simp only[PyData.depthAll];lia
def sT(l:List Ro):SeqAt.shaped (iE (.lst (l.map eJ)))=true:=by
 show(PyData.canLay0 (iE (.lst (l.map eJ)))&&decide (PyData.depth (iE (.lst (l.map eJ)))<=64))=true
 rw[cn]
 refine⟨?_,aH ?_⟩
 ·show PyData.canLay0 (.list (LD (l.map eJ)))=true
  simp only[PyData.canLay0];exact j7 l
 ·show PyData.depth (.list (LD (l.map eJ)))<=64
  have:=vv l
  simp only[PyData.depth];lia
def rj(l:List Ro):(iE (.lst (l.map eJ))).eqv (iE (.lst []))=l.isEmpty:=by
 cases l<;>simp[iE,LD,PyData.eqv,PyData.eqvAll]
def C4{n:Nat}{α:Type}{l:List α}(h:n<l.length)(d:α):l[n]?=some (l.getD n d):=by rw[List.getD_eq_getElem?_getD,List.getElem?_eq_getElem h];rfl
def Dv(xs:aI)(n:Nat):bZ xs none (some (n:Int))=xs.take n:=by
 unfold bZ
 have e1:HT.LC xs.length 0 none=0:=rfl
 have e2:HT.LC xs.length xs.length (some (n:Int))=min n xs.length:=by unfold HT.LC;simp;lia
 rw[e1,e2,oN,BQ]
 by_cases h:n<=xs.length
 ·rw[Nat.min_eq_left h]
 ·rw[Nat.min_eq_right (by lia),eE,Kr (by lia)]
def ph(c:Int)(xs:aI)(roots:List Ro):aI:=
 di ((if roots≠[]/\xs.getD 0 0%3=1 then aX ((jO c 2).take 3) (bY (roots.getD (xs.getD 1 0%(roots.length:Int)).toNat (.q 0)).rt) else jO c 2).take 5)
def jh(ds:cQ)(d:D):Prop:=∃(c:Int) (xs:aI) (roots:List Ro),ds=[.int c,bn xs,.lst (roots.map eJ)]/\2<=xs.length/\xs.length<1000/\(∀r∈roots,Mr r)/\roots.length<=100/\d=av (ph c xs roots)
def tL:∀ds d,jh ds d->ds.length=3:=by rintro _ _ ⟨a,b,c,rfl,_⟩;rfl
def pM(xs:aI)(k:Nat):Rat:=Rat.divInt (xs.getD (2*k) 0%41-20) (1+xs.getD (2*k+1) 0%4)
def kn(roots:List Ro)(q:Rat):Bool:=roots.any fun a=>BV a (.q q)
def gK(xs:aI)(roots:List Ro)(k:Nat):Option Rat:=if xs.getD (2*k) 0%5=0\/kn roots (pM xs k)=true then none else some (pM xs k)
def fG(xs:aI)(roots:List Ro):Option Rat×Option Rat:=(gK xs roots 0,match gK xs roots 0,gK xs roots 1 with
 |some p,some q=>if q.num*p.den<=p.num*q.den then none else some q
 |_,b=>b)
def kh(ds:cQ)(d:D):Prop:=∃(xs:aI) (roots:List Ro),ds=[bn xs,.lst (roots.map eJ)]/\4<=xs.length/\xs.length<1000/\d=.tup [dm (fG xs roots).1,dm (fG xs roots).2]
def uG:∀ds d,kh ds d->ds.length=2:=by rintro _ _ ⟨a,b,rfl,_⟩;rfl
def HC:Ro->Option Rat
 |.q r=>some r
 |.s _ _ _=>none
def eL(xs:aI)(roots:List Ro):List Rat:=roots.filterMap HC++[Rat.divInt (xs.getD 2 0%41-20) (1+xs.getD 3 0%4)]
def jP(xs:aI)(roots:List Ro):Rat:=(eL xs roots).getD (xs.getD 0 0%((eL xs roots).length:Int)).toNat 0
def rJ(xs:aI)(roots:List Ro):Option Rat×Option Rat:=
 if kn roots (jP xs roots)=false then
  (if xs.getD 1 0%2=0 then (some (jP xs roots),some (jP xs roots)) else (some (jP xs roots),some (Rat.divInt ((jP xs roots).num-(1+xs.getD 1 0%9)*(jP xs roots).den) (jP xs roots).den)))
 else if xs.getD 1 0%4=0 then (some (jP xs roots),none) else if xs.getD 1 0%4=1 then (none,some (jP xs roots))
 else if xs.getD 1 0%4=2 then (some (jP xs roots),some (Rat.divInt ((jP xs roots).num+(1+xs.getD 1 0%9)*(jP xs roots).den) (jP xs roots).den)) else (some (jP xs roots),some (jP xs roots))
def gx(ds:cQ)(d:D):Prop:=∃(xs:aI) (roots:List Ro),ds=[bn xs,.lst (roots.map eJ)]/\4<=xs.length/\xs.length<1000/\(∀r∈roots,Mr r)/\roots.length<=100/\d=.tup [dm (rJ xs roots).1,dm (rJ xs roots).2]
def pC:∀ds d,gx ds d->ds.length=2:=by rintro _ _ ⟨a,b,rfl,_⟩;rfl
def D6:Ro->D
 |.q r=>em r
 |.s u _ _=>.int u
def si:∀l:List Ro,(l.filter EE).map D6=(l.filterMap HC).map em
 |[]=>rfl
 |.q r::l=>by
  show em r::(l.filter EE).map D6=em r::(l.filterMap HC).map em
  rw[si l]
 |.s u e D::l=>si l
def AF(xs:aI)(k:Nat):(pM xs k).num.natAbs<=20/\(pM xs k).den<=4:=by
 have hb:1+xs.getD (2*k+1) 0%4≠0:=by lia
 have:=nu (a:=xs.getD (2*k) 0%41-20) hb
 unfold pM;lia
def xo{xs:aI}{roots:List Ro}(ok:∀r∈roots,Mr r):∀q∈eL xs roots,q.num.natAbs<=20/\q.den<=4:=by
 intro q hq
 rcases uk.mp hq with h | h
 ·obtain⟨r,hr,e⟩:=dM.mp h
  cases r with
  |q p=>
   have e':p=q:=by simpa [HC] using e
   subst e'
   have:=(ok _ hr).q p rfl;lia
  |s u e2 D=>cases e
 ·rw[cJ] at h
  subst h
  have hb:1+xs.getD 3 0%4≠0:=by lia
  have:=nu (a:=xs.getD 2 0%41-20) hb
  lia
def AQ(xs:aI)(roots:List Ro):jP xs roots∈eL xs roots:=by
 have hl:0<(eL xs roots).length:=by unfold eL;simp
 have h1:=fc (xs.getD 0 0) (show((eL xs roots).length:Int)≠0 by lia)
 have h2:=dN (xs.getD 0 0) (show 0<((eL xs roots).length:Int) by lia)
 unfold jP
 rw[List.getD_eq_getElem?_getD,List.getElem?_eq_getElem (by lia)]
 exact rV _
def ww(h:DefX P w K mg base k lG (ai gV) X)(LK:mg "len"=none)(cR:Callee X "_law_row" oJ)(cT:Callee X "_law_trim" iL)(cM:Callee X "_law_times" gb)(Ts:Callee X "_law_factor" iD):
  Go X lG gV jh:=by
 rintro ds d ⟨c,xs,roots,rfl,h2,hl,ok,hr,rfl⟩
 have t:=h.at'
 haveI:=h.Mg
 have b1:=h.bt LK
 show Lr X [.val (.int c),.val (bn xs),.val (.lst (roots.map eJ)),.un] _ _
 refine ao (bE t 3 (ax t cR (ae (ac t 0) (ae ag ak)) ⟨c,2,rfl,by decide,by decide,rfl⟩)) ?_
 have lr:=Cm c 2
 have fin:∀g:aI,g.length<500->Lr X [.val (.int c),.val (bn xs),.val (.lst (roots.map eJ)),.val (av g)] ((bX gV).drop 2) (.rt (av (di (g.take 5)))):=by
  intro g hg
  refine aD (bC (ax t cT (ae (d:=av (g.take 5)) (Lq.eq (Ax (ac t 3) eO (eI ag)) (by show D.tup (tZ (g.map D.int) none (some 5))=av (g.take 5);rw[eD,show(5:Int)=((5:Nat):Int) from rfl,Dv])) ak) ⟨g.take 5,.inr rfl,by rw[bw];lia,rfl⟩))
 have TJ:∀{b:Bool},(decide (roots≠[]/\xs.getD 0 0%3=1))=b->∀{e1 e2:Expr} {pos:Pos},Lu X [.val (.int c),.val (bn xs),.val (.lst (roots.map eJ)),.val (av (jO c 2))] e1 (!roots.isEmpty)->Lu X [.val (.int c),.val (bn xs),.val (.lst (roots.map eJ)),.val (av (jO c 2))] e2 (decide (xs.getD 0 0%3=1))->Lu X [.val (.int c),.val (bn xs),.val (.lst (roots.map eJ)),.val (av (jO c 2))] (.BoolOp .And [e1,e2] pos) b:=by
  intro b hb e1 e2 pos h1 h2
  refine Lu.eq (kc h1 (fun _=>h2)) ?_
  rw[<-hb]
  cases roots<;>simp
 by_cases cc:roots≠[]/\xs.getD 0 0%3=1
 ·have SD:0<roots.length:=List.length_pos_iff.mpr cc.1
  have m1:=fc (xs.getD 1 0) (show(roots.length:Int)≠0 by lia)
  have m2:=dN (xs.getD 1 0) (show 0<(roots.length:Int) by lia)
  have lt:(xs.getD 1 0%(roots.length:Int)).toNat<roots.length:=by lia
  have eg:roots[(xs.getD 1 0%(roots.length:Int)).toNat]?=some (roots.getD (xs.getD 1 0%(roots.length:Int)).toNat (.q 0)):=C4 lt (.q 0)
  have T1:=ok _ (List.mem_of_getElem? eg)
  refine ao (fy (TJ (aH cc) (iU t (Lq.p (ac t 2)) (Lq.p (LQ.Mi (dZ ak))) (sT roots) (ic []) (by rw[rj])) (fm (aW (i:=xs.getD 0 0) (aJ (Lq.ql (ac t 1)) ag (dv (n:=0) (by lia))) ag (by decide)) ag)) (aD (bE t 3 (d:=av (aX ((jO c 2).take 3) (bY (roots.getD (xs.getD 1 0%(roots.length:Int)).toNat (.q 0)).rt))) (ax t cM (ae (d:=av ((jO c 2).take 3)) (Lq.eq (Ax (ac t 3) eO (eI ag)) (by show D.tup (tZ ((jO c 2).map D.int) none (some 3))=av ((jO c 2).take 3);rw[eD,show(3:Int)=((3:Nat):Int) from rfl,Dv])) (ae (ax t Ts (ae (aJ (d:=eJ (roots.getD (xs.getD 1 0%(roots.length:Int)).toNat (.q 0))) (Lq.ql (ac t 2)) (aW (i:=xs.getD 1 0) (aJ (Lq.ql (ac t 1)) ag (dv (n:=1) (by lia))) (eC t b1 (Lq.ql (ac t 2))) (by rw[ah];lia)) ?_) ak) ⟨_,rfl,T1,rfl⟩) ak)) ⟨_,_,rfl,by rw[bw];lia,by have:=pI (roots.getD (xs.getD 1 0%(roots.length:Int)).toNat (.q 0)).rt;lia,Av T1,rfl⟩)))) ?_
  ·rw[ah]
   have:=zt (xs:=roots.map eJ) (d:=eJ (roots.getD (xs.getD 1 0%(roots.length:Int)).toNat (.q 0))) (xs.getD 1 0%(roots.length:Int)).toNat (by rw[List.getElem?_map,eg];rfl)
   rwa [show(((xs.getD 1 0%(roots.length:Int)).toNat:Nat):Int)=xs.getD 1 0%(roots.length:Int) by lia] at this
  ·have e:ph c xs roots=di ((aX ((jO c 2).take 3) (bY (roots.getD (xs.getD 1 0%(roots.length:Int)).toNat (.q 0)).rt)).take 5):=by unfold ph;rw[aB cc]
   rw[e]
   refine fin _ ?_
   have l1:=jx ((jO c 2).take 3) (bY (roots.getD (xs.getD 1 0%(roots.length:Int)).toNat (.q 0)).rt)
   have l2:=pI (roots.getD (xs.getD 1 0%(roots.length:Int)).toNat (.q 0)).rt
   rw[bw] at l1
   lia
 ·refine ao (dr (TJ (ap cc) (iU t (Lq.p (ac t 2)) (Lq.p (LQ.Mi (dZ ak))) (sT roots) (ic []) (by rw[rj])) (fm (aW (i:=xs.getD 0 0) (aJ (Lq.ql (ac t 1)) ag (dv (n:=0) (by lia))) ag (by decide)) ag)) bR) ?_
  have e:ph c xs roots=di ((jO c 2).take 5):=by unfold ph;rw[ay cc]
  rw[e]
  exact fin _ (by lia)
def Ij{b:Bool}{p:Prop}[Decidable p](c:p\/b=true):(decide p||b)=true:=by
 rcases c with c | c
 ·rw[aH c];rfl
 ·rw[c,Bool.or_true]
def sE(q:Rat)(roots:List Ro):((LD (roots.map eJ)).any fun y=>PyData.eqv y (iE (eJ (.q q))))=kn roots q:=wz (.q q) roots
def yk(h:DefX P w K mg base k mO (ai jY) X)(Lz:mg "range"=none)(cL:Callee X "_law_low" iq):
  Go X mO jY kh:=by
 rintro ds d ⟨xs,roots,rfl,h4,hl,rfl⟩
 have t:=h.at'
 haveI:=h.Mg
 have b1:=h.bt Lz
 show Lr X [.val (bn xs),.val (.lst (roots.map eJ)),.un,.un,.un,.un,.un] _ _
 refine ao (kl t 2 (xs:=[]) (dZ ak)) ?_
 refine ao (ρ':=[.val (bn xs),.val (.lst (roots.map eJ)),.own (((List.range 2).map (gK xs roots)).map dm),.un,.un,.un,.un]) (fC t (eQ t b1 ag (by decide) (by decide)) (LB.LJ (fun i=>[.val (bn xs),.val (.lst (roots.map eJ)),.own (((List.range i).map (gK xs roots)).map dm),.un,.un,.un,.un]) (fun i d hi=>?_) rfl rfl)) ?_
 ·obtain⟨Ox,rfl⟩:=eM hi
  have Px:i<2:=by simpa using Ox
  have i1:pU (xs.map D.int) (2*(i:Int))=some (.int (xs.getD (2*i) 0)):=DC (by lia) (by lia)
  have i2:pU (xs.map D.int) (2*(i:Int)+1)=some (.int (xs.getD (2*i+1) 0)):=DC (by lia) (by lia)
  have lz:(((List.range i).map (gK xs roots)).map dm).length<sizeLine:=by rw[ah,ah,List.length_range];exact gH (by lia)
  have wk:∀e:Option Rat,gK xs roots i=e->MB [.val (bn xs),.val (.lst (roots.map eJ)),.own (((List.range i).map (gK xs roots)).map dm++[dm e]),.val (.int (i:Int)),.val (dm e),.un,.un] [.val (bn xs),.val (.lst (roots.map eJ)),.own (((List.range (i+1)).map (gK xs roots)).map dm),.un,.un,.un,.un]:=by
   intro e he
   subst he
   rw[uj,bG,bG]
   exact .keep (.keep (.keep (.forget (.forget (.keep (.keep .nil))))))
  by_cases c:xs.getD (2*i) 0%5=0\/kn roots (pM xs i)=true
  ·refine⟨_,bj t 3,Lr.weak (ao (bE t 4 (d:=em (pM xs i)) (ax t cL (ae (dz (aW (i:=xs.getD (2*i) 0) (aJ (Lq.ql (ac t 0)) (aS ag (ac t 3) (br (by decide) (by decide))) i1) ag (by decide)) ag) (ae (bO ag (aW (i:=xs.getD (2*i+1) 0) (aJ (Lq.ql (ac t 0)) (bO (aS ag (ac t 3) (br (by decide) (by decide))) ag) i2) ag (by decide))) ak)) ⟨_,_,rfl,by lia,rfl⟩)) (ao (fy (Lu.eq (wc (fm (aW (i:=xs.getD (2*i) 0) (aJ (Lq.ql (ac t 0)) (aS ag (ac t 3) (br (by decide) (by decide))) i1) ag (by decide)) ag) (fun _=>Dm (d:=eJ (.q (pM xs i))) (r:=kn roots (pM xs i)) t (aV (ae dk (ae (ac t 4) ak))) (Lq.ql (ac t 1)) (om _) (jE _) (j7 _) (sE _ _))) (Ij c)) (aD (bE t 4 jC))) (aD (kP t 2 rfl (ac t 4) lz)))) (wk none (by unfold gK;rw[aB c]))⟩
  ·refine⟨_,bj t 3,Lr.weak (ao (bE t 4 (d:=em (pM xs i)) (ax t cL (ae (dz (aW (i:=xs.getD (2*i) 0) (aJ (Lq.ql (ac t 0)) (aS ag (ac t 3) (br (by decide) (by decide))) i1) ag (by decide)) ag) (ae (bO ag (aW (i:=xs.getD (2*i+1) 0) (aJ (Lq.ql (ac t 0)) (bO (aS ag (ac t 3) (br (by decide) (by decide))) ag) i2) ag (by decide))) ak)) ⟨_,_,rfl,by lia,rfl⟩)) (ao (dr (Lu.eq (wc (fm (aW (i:=xs.getD (2*i) 0) (aJ (Lq.ql (ac t 0)) (aS ag (ac t 3) (br (by decide) (by decide))) i1) ag (by decide)) ag) (fun _=>Dm (d:=eJ (.q (pM xs i))) (r:=kn roots (pM xs i)) t (aV (ae dk (ae (ac t 4) ak))) (Lq.ql (ac t 1)) (om _) (jE _) (j7 _) (sE _ _))) (by rw[ap (fun z=>c (.inl z)),Bool.eq_false_iff.mpr (fun z=>c (.inr z))];rfl)) bR) (aD (kP t 2 rfl (ac t 4) lz)))) (wk (some (pM xs i)) (by unfold gK;rw[ay c]))⟩
 refine fX 2 rfl ?_
 show Lr X [.val (bn xs),.val (.lst (roots.map eJ)),.val (.lst [dm (gK xs roots 0),dm (gK xs roots 1)]),.un,.un,.un,.un] _ _
 refine ao (re t (ac t 2) (Hb (ds:=[dm (gK xs roots 0),dm (gK xs roots 1)]) t (dL (bj t 5) (dL (bj t 6) jg)))) ?_
 show Lr X [.val (bn xs),.val (.lst (roots.map eJ)),.val (.lst [dm (gK xs roots 0),dm (gK xs roots 1)]),.un,.un,.val (dm (gK xs roots 0)),.val (dm (gK xs roots 1))] _ _
 have bd:∀i p,gK xs roots i=some p->p.num.natAbs<=20/\p.den<=4:=fun i p e=>by
  unfold gK at e
  split at e
  ·cases e
  ·cases e;exact AF xs i
 unfold fG
 cases e0:gK xs roots 0 with
 |none=>
  exact ao (dr (Lu.eq (ka (v:=false) (w:=false) (dJ (ac t 5)) (fun a=>by cases a) (fun a=>by cases a)) rfl) bR) (aD (bC (aV (ae (ac t 5) (ae (ac t 6) ak)))))
 |some p=>
  cases e1:gK xs roots 1 with
  |none=>
   exact ao (dr (Lu.eq (ka (w:=false) (dJ (ac t 5)) (fun _=>dJ (ac t 6)) (fun _ a=>by cases a)) rfl) bR) (aD (bC (aV (ae (ac t 5) (ae (ac t 6) ak)))))
  |some q=>
   have bp:=bd 0 p e0
   have bq:=bd 1 q e1
   have test:∀{e:Expr} {pos:Pos},Lu X [.val (bn xs),.val (.lst (roots.map eJ)),.val (.lst [dm (some p),dm (some q)]),.un,.un,.val (dm (some p)),.val (dm (some q))] e (decide (q.num*p.den<=p.num*q.den))->True:=fun _=>trivial
   by_cases c:q.num*(p.den:Int)<=p.num*q.den
   ·refine ao (fy (Lu.eq (ka (dJ (ac t 5)) (fun _=>dJ (ac t 6)) (fun _ _=>pL (aS (aJ (Lq.qt (ac (d:=em p) t 5 rfl)) ag (Nv p)) (aJ (Lq.qt (ac (d:=em q) t 6 rfl)) ag (yv q)) (br (by lia) (by lia))) (aS (aJ (Lq.qt (ac (d:=em q) t 6 rfl)) ag (Nv q)) (aJ (Lq.qt (ac (d:=em p) t 5 rfl)) ag (yv p)) (br (by lia) (by lia))))) (by rw[aH c];rfl)) (aD (bE t 6 jC))) ?_
    refine Lr.eq (aD (bC (aV (ae (ac t 5) (ae (ac t 6) ak))))) ?_
    simp only[aB c]<;>rfl
   ·refine ao (dr (Lu.eq (ka (dJ (ac t 5)) (fun _=>dJ (ac t 6)) (fun _ _=>pL (aS (aJ (Lq.qt (ac (d:=em p) t 5 rfl)) ag (Nv p)) (aJ (Lq.qt (ac (d:=em q) t 6 rfl)) ag (yv q)) (br (by lia) (by lia))) (aS (aJ (Lq.qt (ac (d:=em q) t 6 rfl)) ag (Nv q)) (aJ (Lq.qt (ac (d:=em p) t 5 rfl)) ag (yv p)) (br (by lia) (by lia))))) (by rw[ap c];rfl)) bR) ?_
    refine Lr.eq (aD (bC (aV (ae (ac t 5) (ae (ac t 6) ak))))) ?_
    simp only[ay c]<;>rfl
def jv:Bool->D
 |true=>.tup [.bl true,.bl false,.bl true]
 |false=>.tup [.bl false,.bl true,.bl true]
def fP(ds:cQ)(d:D):Prop:=∃(f g:aI) (lo hi:Option Rat),ds=[av f,av g,dm lo,dm hi] /\
 ((gw ds d/\d=.int (yD f g lo hi))\/(f≠[]/\ki f lo hi/\d=jv true)\/(f=[]/\d=jv false))
def uD:∀ds d,fP ds d->ds.length=4:=by rintro _ _ ⟨f,g,a,b,rfl,_⟩;rfl
def Hh{x:Int}:pU [d,e] (x%2)=some (if x%2=0 then d else e):=by
 by_cases h:x%2=0
 ·rw[aB h,h];rfl
 ·rw[ay h,show x%2=1 by lia];rfl
def E2{x:Int}:pU [d,e,f,g] (x%4)=some (if x%4=0 then d else if x%4=1 then e else if x%4=2 then f else g):=by
 by_cases h:x%4=0
 ·rw[aB h,h];rfl
 ·rw[ay h]
  by_cases h1:x%4=1
  ·rw[aB h1,h1];rfl
  ·rw[ay h1]
   by_cases h2:x%4=2
   ·rw[aB h2,h2];rfl
   ·rw[ay h2,show x%4=3 by lia];rfl
def rO(h:DefX P w K mg base k i6 (ai gv) X)(LK:mg "len"=none)(cL:Callee X "_law_low" iq):
  Go X i6 gv gx:=by
 rintro ds d ⟨xs,roots,rfl,h4,hl,ok,hr,rfl⟩
 have t:=h.at'
 haveI:=h.Mg
 have b1:=h.bt LK
 show Lr X [.val (bn xs),.val (.lst (roots.map eJ)),.un,.un,.un] _ _
 have lp:(eL xs roots).length<=101:=by
  unfold eL
  have:=Jb HC roots
  rw[bV];simp;lia
 have Yk:0<(eL xs roots).length:=by unfold eL;simp
 refine ao (bE t 2 (d:=.lst ((eL xs roots).map em)) (Lq.eq (LQ.Mi (wj (LQ.Mi (iC (rs:=(roots.filter EE).map D6) t ["_law_xs", "_law_roots", "_law_plain", "_law_end", "_law_other_here", "_law_root"] (Dw (by decide)) (iV (ac t 1)) (by rw[ah];exact gH (by lia)) fun X' cx=>?_)) (LQ.Mi (dZ (ae (ax t cL (ae (dz (aW (i:=xs.getD 2 0) (aJ (Lq.ql (ac t 0)) ag (dv (n:=2) (by lia))) ag (by decide)) ag) (ae (bO ag (aW (i:=xs.getD 3 0) (aJ (Lq.ql (ac t 0)) ag (dv (n:=3) (by lia))) ag (by decide))) ak)) ⟨_,_,rfl,by lia,rfl⟩) ak))) ?_)) ?_)) ?_
 ·have t':=cx.at'
  exact LO.OQ eJ D6 EE (fun r=>[.val (bn xs),.val (.lst (roots.map eJ)),.un,.un,.un,.val (eJ r)]) roots _ (fun d hd=>c9 t' 5) (fun d hd e he=>c9 t' 5) (fun r hr=>by
   cases r with
   |q p=>exact Lu.eq (ko t' (aJ (Lq.qt (ac (d:=eJ (.q p)) t' 5 rfl)) ag rfl) dk (by decide)) rfl
   |s u e D=>exact Lu.eq (ko t' (aJ (Lq.qt (ac (d:=eJ (.s u e D)) t' 5 rfl)) ag rfl) dk (by decide)) rfl) fun r hr=>by
   cases r with
   |q p=>exact aJ (Lq.qt (ac (d:=eJ (.q p)) t' 5 rfl)) ag rfl
   |s u e D=>exact aJ (Lq.qt (ac (d:=eJ (.s u e D)) t' 5 rfl)) ag rfl
 ·rw[si,ah]
  have:=Jb HC roots
  exact nM (gH (by simp;lia))
 ·rw[si];unfold eL;rw[bG];rfl
 have m1:=fc (xs.getD 0 0) (show((eL xs roots).length:Int)≠0 by lia)
 have m2:=dN (xs.getD 0 0) (show 0<((eL xs roots).length:Int) by lia)
 have eg:(eL xs roots)[(xs.getD 0 0%((eL xs roots).length:Int)).toNat]?=some (jP xs roots):=C4 (by lia) 0
 refine ao (bE t 3 (d:=em (jP xs roots)) (aJ (Lq.ql (ac t 2)) (aW (i:=xs.getD 0 0) (aJ (Lq.ql (ac t 0)) ag (dv (n:=0) (by lia))) (eC t b1 (Lq.ql (ac t 2))) (by rw[ah];lia)) ?_)) ?_
 ·rw[ah]
  have:=zt (xs:=(eL xs roots).map em) (d:=em (jP xs roots)) (xs.getD 0 0%((eL xs roots).length:Int)).toNat (by rw[List.getElem?_map,eg];rfl)
  rwa [show(((xs.getD 0 0%((eL xs roots).length:Int)).toNat:Nat):Int)=xs.getD 0 0%((eL xs roots).length:Int) by lia] at this
 have bd:=xo ok _ (AQ xs roots)
 unfold rJ
 generalize jP xs roots=q at *
 have TY:(q.den:Int)≠0:=oz q
 have mk:IntMulOk (1+xs.getD 1 0%9) (q.den:Int):=ek (by lia) (by lia)
 by_cases c:kn roots q=false
 ·rw[aB c]
  refine fO (fy (AC (d:=eJ (.q q)) (r:=true) t (aV (ae dk (ae (ac t 3) ak))) (Lq.ql (ac t 1)) (om _) (jE _) (j7 _) (by rw[sE,c];rfl)) (aD (bC (Lq.eq (aJ (xs:=[.tup [em q,em q],.tup [em q,em (Rat.divInt (q.num-(1+xs.getD 1 0%9)*q.den) q.den)]]) (LQ.toQ (dZ (ae (aV (ae (ac t 3) (ae (ac t 3) ak))) (ae (aV (ae (ac t 3) (ae (ax t cL (ae (dz (aJ (Lq.qt (ac (d:=em q) t 3 rfl)) ag (Nv q)) (aS (bO ag (aW (i:=xs.getD 1 0) (aJ (Lq.ql (ac t 0)) ag (dv (n:=1) (by lia))) ag (by decide))) (aJ (Lq.qt (ac (d:=em q) t 3 rfl)) ag (yv q)) mk)) (ae (aJ (Lq.qt (ac (d:=em q) t 3 rfl)) ag (yv q)) ak)) ⟨_,_,rfl,TY,rfl⟩) ak))) ak)))) (aW (i:=xs.getD 1 0) (aJ (Lq.ql (ac t 0)) ag (dv (n:=1) (by lia))) ag (by decide)) Hh) ?_))))
  split<;>rfl
 ·rw[ay c]
  have c':kn roots q=true:=by cases z:kn roots q<;>simp_all
  refine ao (dr (AC (d:=eJ (.q q)) (r:=false) t (aV (ae dk (ae (ac t 3) ak))) (Lq.ql (ac t 1)) (om _) (jE _) (j7 _) (by rw[sE,c'];rfl)) bR) ?_
  refine ao (bE t 4 (d:=em (Rat.divInt (q.num+(1+xs.getD 1 0%9)*q.den) q.den)) (ax t cL (ae (bO (aJ (Lq.qt (ac (d:=em q) t 3 rfl)) ag (Nv q)) (aS (bO ag (aW (i:=xs.getD 1 0) (aJ (Lq.ql (ac t 0)) ag (dv (n:=1) (by lia))) ag (by decide))) (aJ (Lq.qt (ac (d:=em q) t 3 rfl)) ag (yv q)) mk)) (ae (aJ (Lq.qt (ac (d:=em q) t 3 rfl)) ag (yv q)) ak)) ⟨_,_,rfl,TY,rfl⟩)) ?_
  refine aD (bC (Lq.eq (aJ (xs:=[.tup [em q,.LH],.tup [.LH,em q],.tup [em q,em (Rat.divInt (q.num+(1+xs.getD 1 0%9)*q.den) q.den)],.tup [em q,em q]]) (LQ.toQ (dZ (ae (aV (ae (ac t 3) (ae jC ak))) (ae (aV (ae jC (ae (ac t 3) ak))) (ae (aV (ae (ac t 3) (ae (ac t 4) ak))) (ae (aV (ae (ac t 3) (ae (ac t 3) ak))) ak)))))) (aW (i:=xs.getD 1 0) (aJ (Lq.ql (ac t 0)) ag (dv (n:=1) (by lia))) ag (by decide)) E2) ?_))
  split
  ·rfl
  ·split
   ·rfl
   ·split<;>rfl
def yh(h:DefX P w K mg base k mK (ai jV) X)(LG:mg "isinstance"=none)(Mf:mg "ValueError"=none)(R4:qL K C1)(R3:qL K C2)(n1:mg "NoEnds"=some (.ref C1))(n2:mg "NoRow"=some (.ref C2))(VQ:PySem.W.kitOne K (.ref C1) (.ref C1)=some true)(VP:PySem.W.kitOne K (.ref C1) (.ref C2)=some false)(VO:PySem.W.kitOne K (.ref C1) (.type "ValueError")=some true)(VN:PySem.W.kitOne K (.ref C2) (.ref C1)=some false)(VM:PySem.W.kitOne K (.ref C2) (.ref C2)=some true)(VL:PySem.W.kitOne K (.ref C2) (.type "ValueError")=some true)(cW:Callee X "weigh_between" gw)(cX:ke X "weigh_between" C1 iW)(cY:ke X "weigh_between" C2 il)(O:OwnCls "StackError" Dc vB vN mg base)(RC:PySem.W.mroIn K C1 (.ref Dc)=some true)(Uo:PySem.W.mroIn K C2 (.ref Dc)=some true):
  Go X mK jV fP:=by
 rintro ds d ⟨f,g,lo,hi,rfl,hc⟩
 have t:=h.at'
 haveI:=h.Mg
 have O':OwnCls "StackError" Dc vB vN X.mg X.base:=by rw[h.Na,h.MT];exact O
 have b1:=h.bt LG
 have b2:=h.bt Mf
 show Lr X [.val (av f),.val (av g),.val (dm lo),.val (dm hi),.un,.un,.un] _ _
 refine ao (bE t 4 jC) (ao (bE t 5 jC) ?_)
 show Lr X [.val (av f),.val (av g),.val (dm lo),.val (dm hi),.val .LH,.val .LH,.un] _ _
 have args:∀{e:Sl},True:=trivial
 rcases hc with⟨cw,rfl⟩ | ⟨hf,bad,rfl⟩ | ⟨rfl,rfl⟩
 ·refine ao (H0 t (aD (bE t 5 (ax t cW (ae (ac t 0) (ae (ac t 1) (ae (ac t 2) (ae (ac t 3) ak)))) cw)))) ?_
  exact ao (dr (Lu.eq (dJ (ac t 4)) rfl) bR) (aD (bC (ac t 5)))
 ·have Ow:PySem.W.mroIn X.K C1 (.ref Dc)=some true:=by rw[h.k'];exact RC
  refine ao (ρ':=[.val (av f),.val (av g),.val (dm lo),.val (dm hi),.val (jv true),.val .LH,.un]) (Aa (o:=fun ea=>.nx [.val (av f),.val (av g),.val (dm lo),.val (dm hi),.val (jv true),.val .LH,.val (.Nb C1 ea)]) t h.O0 6 (fR (Fj (sG t cX (ae (ac t 0) (ae (ac t 1) (ae (ac t 2) (ae (ac t 3) ak)))) ⟨f,g,lo,hi,rfl,hf,bad⟩))) O' Ow (fun ea=>aD (Fg (t.L3 ea) (fun x=>h.Mg.fn x) 4 (aV (ae (vD (t.L3 ea) ⟨b1.g,b1.m,b1.v,b1.n,b1.d⟩ (by rw[show(Cx.L3 X ea).K=K from h.k'];exact R4) (by rw[show(Cx.L3 X ea).mg=mg from h.Na];exact n1) (Lq.soft (p9 (t.L3 ea) 6 rfl)) (by rw[show(Cx.L3 X ea).K=K from h.k'];exact VQ)) (ae (vD (t.L3 ea) ⟨b1.g,b1.m,b1.v,b1.n,b1.d⟩ (by rw[show(Cx.L3 X ea).K=K from h.k'];exact R4) (by rw[show(Cx.L3 X ea).mg=mg from h.Na];exact n2) (Lq.soft (p9 (t.L3 ea) 6 rfl)) (by rw[show(Cx.L3 X ea).K=K from h.k'];exact VP)) (ae (BW (t.L3 ea) ⟨b1.g,b1.m,b1.v,b1.n,b1.d⟩ (by rw[show(Cx.L3 X ea).K=K from h.k'];exact R4) ⟨b2.g,b2.m,b2.v,b2.n,b2.d⟩ (Lq.soft (p9 (t.L3 ea) 6 rfl)) (by rw[show(Cx.L3 X ea).K=K from h.k'];exact VO)) ak)))))) (ho:=fun ea B F E q=>q)) ?_
  exact fO (fy (Lu.eq (dJ (ac t 4)) rfl) (aD (bC (ac t 4))))
 ·have Ow:PySem.W.mroIn X.K C2 (.ref Dc)=some true:=by rw[h.k'];exact Uo
  refine ao (ρ':=[.val (av []),.val (av g),.val (dm lo),.val (dm hi),.val (jv false),.val .LH,.un]) (Aa (o:=fun ea=>.nx [.val (av []),.val (av g),.val (dm lo),.val (dm hi),.val (jv false),.val .LH,.val (.Nb C2 ea)]) t h.O0 6 (fR (Fj (sG t cY (ae (ac t 0) (ae (ac t 1) (ae (ac t 2) (ae (ac t 3) ak)))) ⟨g,lo,hi,rfl⟩))) O' Ow (fun ea=>aD (Fg (t.L3 ea) (fun x=>h.Mg.fn x) 4 (aV (ae (vD (t.L3 ea) ⟨b1.g,b1.m,b1.v,b1.n,b1.d⟩ (by rw[show(Cx.L3 X ea).K=K from h.k'];exact R3) (by rw[show(Cx.L3 X ea).mg=mg from h.Na];exact n1) (Lq.soft (p9 (t.L3 ea) 6 rfl)) (by rw[show(Cx.L3 X ea).K=K from h.k'];exact VN)) (ae (vD (t.L3 ea) ⟨b1.g,b1.m,b1.v,b1.n,b1.d⟩ (by rw[show(Cx.L3 X ea).K=K from h.k'];exact R3) (by rw[show(Cx.L3 X ea).mg=mg from h.Na];exact n2) (Lq.soft (p9 (t.L3 ea) 6 rfl)) (by rw[show(Cx.L3 X ea).K=K from h.k'];exact VM)) (ae (BW (t.L3 ea) ⟨b1.g,b1.m,b1.v,b1.n,b1.d⟩ (by rw[show(Cx.L3 X ea).K=K from h.k'];exact R3) ⟨b2.g,b2.m,b2.v,b2.n,b2.d⟩ (Lq.soft (p9 (t.L3 ea) 6 rfl)) (by rw[show(Cx.L3 X ea).K=K from h.k'];exact VL)) ak)))))) (ho:=fun ea B F E q=>q)) ?_
  exact fO (fy (Lu.eq (dJ (ac t 4)) rfl) (aD (bC (ac t 4))))
def pO{p E:Int}(hp:1<p)(sq:∀x:Int,p ∣ x*x->p ∣ x)(co:∀y:Int,p ∣ y*E->p ∣ y):∀(n:Nat) (P M:Int),M.natAbs<=n->P*P=M*M*(p*E)->M=0:=by
 intro n
 induction n with
 |zero=>intro P M h _;lia
 |succ n ih=>
  intro P M h e
  obtain⟨a,ha⟩:=sq P ⟨M*M*E,by rw[e];grind⟩
  have e2:p*(a*a)=M*M*E:=by
   have:p*(p*(a*a))=p*(M*M*E):=by rw[ha] at e;grind
   exact HI (by lia) this
  obtain⟨b,hb⟩:=sq M (co _ ⟨a*a,e2.symm⟩)
  have e3:a*a=b*b*(p*E):=by
   have:p*(a*a)=p*(b*b*(p*E)):=by rw[e2,hb];grind
   exact HI (by lia) this
  by_cases z:b=0
  ·rw[hb,z,nP]
  ·have S3:b.natAbs<=n:=by
    have:M.natAbs=p.natAbs*b.natAbs:=by rw[hb,bu]
    have Ui:2<=p.natAbs:=by lia
    have Yw:1<=b.natAbs:=by lia
    have:=cy b.natAbs Ui
    lia
   rw[hb,ih a b S3 e3,nP]
def sN{p:Int}(hp:p=2\/p=3\/p=5\/p=7)(x:Int)(h:p ∣ x*x):p ∣ x:=by
 obtain⟨m,hm⟩:=h
 have e:=Int.mul_ediv_add_emod x p
 have key:∀r:Int,x%p=r->x*x=p*(p*(x / p)*(x / p)+2*(x / p)*r)+r*r:=fun r hr=>by
  rw[hr] at e
  have:x=p*(x / p)+r:=e.symm
  generalize x / p=y at this
  subst this;grind
 refine Int.dvd_of_emod_eq_zero ?_
 have k:=key (x%p) rfl
 rw[hm] at k
 generalize p*(x / p)*(x / p)+2*(x / p)*(x%p)=w at k
 have h0:=fc x (show p≠0 by lia)
 have h1:=dN x (show 0<p by lia)
 generalize x%p=r at k h0 h1
 rcases hp with rfl | rfl | rfl | rfl
 ·have:r=0\/r=1:=by lia
  rcases this with rfl | rfl<;>lia
 ·have:r=0\/r=1\/r=2:=by lia
  rcases this with rfl | rfl | rfl<;>lia
 ·have:r=0\/r=1\/r=2\/r=3\/r=4:=by lia
  rcases this with rfl | rfl | rfl | rfl | rfl<;>lia
 ·have:r=0\/r=1\/r=2\/r=3\/r=4\/r=5\/r=6:=by lia
  rcases this with rfl | rfl | rfl | rfl | rfl | rfl | rfl<;>lia
def Km{D:Int}(h:D∈[2,3,5,6,7,8,10,(12:Int)]):Nl D:=by
 refine⟨(DO h).1,fun P M e=>?_⟩
 have two:∀E:Int,(∀y:Int,(2:Int) ∣ y*E->(2:Int) ∣ y)->∀P M:Int,P*P=M*M*(2*E)->M=0:=fun E hE P M e=>pO (by decide) (sN (by simp)) hE M.natAbs P M (az _) e
 simp only[aC,iO,BM] at h
 rcases h with rfl | rfl | rfl | rfl | rfl | rfl | rfl | rfl
 ·exact two 1 (fun y h=>by lia) P M e
 ·exact pO (p:=3) (E:=1) (by decide) (sN (by simp)) (fun y h=>by lia) M.natAbs P M (az _) e
 ·exact pO (p:=5) (E:=1) (by decide) (sN (by simp)) (fun y h=>by lia) M.natAbs P M (az _) e
 ·exact two 3 (fun y h=>by lia) P M e
 ·exact pO (p:=7) (E:=1) (by decide) (sN (by simp)) (fun y h=>by lia) M.natAbs P M (az _) e
 ·have:=two 1 (fun y h=>by lia) P (2*M) (by rw[e];grind)
  lia
 ·exact two 5 (fun y h=>by lia) P M e
 ·exact pO (p:=3) (E:=4) (by decide) (sN (by simp)) (fun y h=>by lia) M.natAbs P M (az _) e
def Mr.rt{r:Ro}(h:Mr r){A B:Rat}:MC A B r.rt:=by
 cases r with
 |q p=>exact⟨fun a b e=>(by cases e;have:=p.den_pos;lia),fun u e D z=>(by cases z)⟩
 |s u e D=>exact⟨fun a b z=>(by cases z),fun u' e' D' z=>by cases z;exact⟨Km (h.s u e D rfl).2.2,(h.s u e D rfl).2.1⟩⟩
def FW{a b:Ro}(h:a.rt=b.rt):a=b:=by
 cases a with
 |q r=>
  cases b with
  |q r'=>
   simp only[Ro.rt,Rt.q.injEq] at h
   rw[Rat.ext h.1 (by lia)]
  |s u e D=>cases h
 |s u e D=>
  cases b with
  |q r=>cases h
  |s u' e' D'=>cases h;rfl
def CI{l:List Ro}{r x:Ro}:x∈gL l r ↔ x∈l\/x=r:=by
 unfold gL
 split
 ·rename_i h
  obtain⟨a,ha,e⟩:=DS.mp h
  have:a=r:=(so a r).mp e
  subst this
  constructor
  ·exact .inl
  ·rintro(h | rfl)
   ·exact h
   ·exact ha
 ·rw[uk,cJ]
def vk{x:Ro}:∀(rs l:List Ro),x∈rs.foldl gL l ↔ x∈l\/x∈rs
 |[],l=>by simp
 |r::rs,l=>by
  show x∈rs.foldl gL (gL l r) ↔ _
  rw[vk rs,CI,aC,or_assoc]
def xB{x:Ro}:∀(gs:List Gr) (l:List Ro),x∈gs.foldl (fun l g=>(ik g.1).foldl gL l) l ↔ x∈l\/∃g∈gs,x∈ik g.1
 |[],l=>by simp
 |g::gs,l=>by
  show x∈gs.foldl _ ((ik g.1).foldl gL l) ↔ _
  rw[xB gs,vk,or_assoc]
  simp
def m9{x:Ro}(gs:List Gr):x∈cj gs ↔ ∃g∈gs,x∈ik g.1:=by
 unfold cj
 rw[xB];simp
def E5{l:List Ro}{r:Ro}(h:l.Pairwise (· ≠ ·)):(gL l r).Pairwise (· ≠ ·):=by
 unfold gL
 split
 ·exact h
 ·rename_i hn
  rw[List.pairwise_append]
  refine⟨h,List.pairwise_singleton _ _,fun a ha b hb e=>?_⟩
  rw[cJ] at hb
  subst hb;subst e
  exact hn (DS.mpr ⟨a,ha,(so a a).mpr rfl⟩)
def yo:∀(rs l:List Ro),l.Pairwise (· ≠ ·)->(rs.foldl gL l).Pairwise (· ≠ ·)
 |[],l,h=>h
 |r::rs,l,h=>yo rs (gL l r) (E5 h)
def zY:∀(gs:List Gr) (l:List Ro),l.Pairwise (· ≠ ·)->(gs.foldl (fun l g=>(ik g.1).foldl gL l) l).Pairwise (· ≠ ·)
 |[],l,h=>h
 |g::gs,l,h=>zY gs _ (yo _ _ h)
def wB{r x:Ro}(h:Mr r)(hx:x∈ik r):Mr x/\bY x.rt=bY r.rt:=by
 cases r with
 |q p=>simp only[ik,cJ] at hx;subst hx;exact⟨h,rfl⟩
 |s u e D=>
  obtain⟨h1,h2,h3⟩:=h.s u e D rfl
  simp only[ik,aC,iO,BM] at hx
  rcases hx with rfl | rfl
  ·exact⟨h,rfl⟩
  ·exact⟨⟨fun p z=>(by cases z),fun u' e' D' z=>(by cases z;exact⟨h1,by lia,h3⟩)⟩,rfl⟩
def B4{gs:List Gr}(h:yq gs):∀r∈cj gs,Mr r:=fun r hr=>by
 obtain⟨g,hg,hx⟩:=(m9 gs).mp hr
 exact(wB (h.ok g hg).1 hx).1
def LV{gs:List Gr}{r:Rt}:r∈bI gs ↔ ∃g∈gs,0<g.2.toNat/\r=g.1.rt:=by
 unfold bI
 rw[List.mem_flatMap]
 constructor
 ·rintro⟨g,hg,hr⟩
  obtain⟨h1,h2⟩:=List.mem_replicate.mp hr
  exact⟨g,hg,by lia,h2⟩
 ·rintro⟨g,hg,h1,rfl⟩
  exact⟨g,hg,List.mem_replicate.mpr ⟨by lia,rfl⟩⟩
def pe(gs:List Gr):List Rt:=(cj gs).map Ro.rt
def vX{gs:List Gr}(h:yq gs):BK (bI gs) (pe gs) where
 ok r hr:=by
  obtain⟨g,hg,_,rfl⟩:=LV.mp hr
  exact(h.ok g hg).1.rt
 OR r hr:=by
  obtain⟨x,hx,rfl⟩:=List.mem_map.mp hr
  obtain⟨g,hg,Wx⟩:=(m9 gs).mp hx
  obtain⟨o,e⟩:=wB (h.ok g hg).1 Wx
  exact⟨o.rt,g.1.rt,LV.mpr ⟨g,hg,by have:=(h.ok g hg).2.1;lia,rfl⟩,e.symm⟩
 q a b hr:=by
  obtain⟨g,hg,_,e⟩:=LV.mp hr
  refine List.mem_map.mpr ⟨g.1,(m9 gs).mpr ⟨g,hg,?_⟩,e.symm⟩
  cases z:g.1 with
  |q r=>simp[ik]
  |s u e D=>simp[ik]
 s u e D hr:=by
  obtain⟨g,hg,_,e2⟩:=LV.mp hr
  obtain⟨g1,g2⟩:=g
  cases g1 with
  |q r=>cases e2
  |s u' e' D'=>
   cases e2
   obtain⟨_,he,_⟩:=(h.ok _ hg).1.s u e D rfl
   have m1:Rt.s u e D∈pe gs:=List.mem_map.mpr ⟨.s u e D,(m9 gs).mpr ⟨_,hg,by simp[ik]⟩,rfl⟩
   have m2:Rt.s u (0-e) D∈pe gs:=List.mem_map.mpr ⟨.s u (0-e) D,(m9 gs).mpr ⟨_,hg,by simp[ik]⟩,rfl⟩
   rcases he with rfl | rfl
   ·exact⟨m1,m2⟩
   ·exact⟨m2,m1⟩
 unlike:=by
  unfold pe
  rw[List.pairwise_map]
  exact(zY gs [] .nil).imp fun ne e=>ne (FW e)
 red a b a' b' h1 h2 e:=by
  obtain⟨x,_,ex⟩:=List.mem_map.mp h1
  obtain⟨y,_,ey⟩:=List.mem_map.mp h2
  cases x with
  |s u e D=>cases ex
  |q r=>
   cases y with
   |s u e D=>cases ey
   |q r'=>
    cases ex;cases ey
    have:r=r':=by
     rw[<-tj r,<-tj r']
     have p1:0<((r.den:Int):Rat):=Rat.intCast_pos.mpr (by have:=r.den_pos;lia)
     have p2:0<((r'.den:Int):Rat):=Rat.intCast_pos.mpr (by have:=r'.den_pos;lia)
     have e':(r.num:Rat)*((r'.den:Int):Rat)=(r'.num:Rat)*((r.den:Int):Rat):=by rw[<-aq,<-aq,e]
     grind
    subst this;exact⟨rfl,rfl⟩
def Ni{roots:List Ro}{q:Rat}:kn roots q=true ↔ Ro.q q∈roots:=by
 unfold kn
 rw[DS]
 constructor
 ·rintro⟨a,ha,e⟩;rw[(so a _).mp e] at ha;exact ha
 ·intro h;exact⟨_,h,(so _ _).mpr rfl⟩
def Fh{gs:List Gr}{q:Rat}:q∈wV (pe gs) ↔ kn (cj gs) q=true:=by
 rw[Ni]
 unfold wV pe
 rw[dM]
 constructor
 ·rintro⟨r,hr,e⟩
  obtain⟨x,hx,rfl⟩:=List.mem_map.mp hr
  cases x with
  |s u e D=>cases e
  |q p=>
   have:p=q:=by
    have e':((p.num:Int):Rat) / (((p.den:Nat):Int):Rat)=q:=by simpa [zq,Ro.rt] using e
    rw[tj] at e';exact e'
   subst this;exact hx
 ·intro h
  refine⟨Rt.q q.num q.den,List.mem_map.mpr ⟨.q q,h,rfl⟩,?_⟩
  show some _=some q
  rw[tj]
def vg:∀(l:List Rt) (x:Rat) (r:Rt),r∈l->aG (bY r) x=0->dO (jB l) x=0
 |[],_,_,h,_=>nomatch h
 |r'::l,x,r,h,e=>by
  show aG (bY r') x*dO (jB l) x=0
  rcases aC.mp h with rfl | h
  ·rw[e,nL]
  ·rw[vg l x r h e,BO]
def A6{gs:List Gr}(ok:yq gs)(c:aI){q:Rat}(h:kn (cj gs) q=true):aG (bN c (bI gs)) q=0:=by
 obtain⟨g,hg,hx⟩:=(m9 gs).mp (Ni.mp h)
 obtain⟨_,e⟩:=wB (ok.ok g hg).1 hx
 rw[(ig (bI gs) c q).1,vg (bI gs) q g.1.rt (LV.mpr ⟨g,hg,by have:=(ok.ok g hg).2.1;lia,rfl⟩) (by
  rw[<-e]
  show aG (bY (.q q.num q.den)) q=0
  rw[y0]
  have:=gY q
  rw[this];grind),BO]
def Ex{gs:List Gr}(ok:yq gs)(hc:L9 c){q:Rat}(h:kn (cj gs) q=false):aG (bN c (bI gs)) q≠0:=by
 have M:=vX ok
 have hz:q∉wV (pe gs):=fun z=>by rw[Fh] at z;rw[z] at h;cases h
 rw[(ig (bI gs) c q).1]
 intro z
 rcases Rat.mul_eq_zero.mp z with z | z
 ·exact hc.ne q z
 ·refine vS (jB (bI gs)) q (fun p hp=>?_) z
  obtain⟨r,hr,rfl⟩:=List.mem_map.mp hp
  exact C7 (M.ok r hr) fun a b e z=>hz (by subst e;exact dM.mpr ⟨.q a b,M.q a b hr,by rw[z];rfl⟩)
def wr(x:Int):cF x=[1]\/cF x=[2]\/cF x=[-1]\/cF x=[-3]\/cF x=[1,0,1]\/cF x=[-2,0,-1]\/cF x=[1,1,1]:=by
 unfold cF
 have h:(x%8).toNat<8:=by lia
 generalize (x%8).toNat=n at h
 have:n=0\/n=1\/n=2\/n=3\/n=4\/n=5\/n=6\/n=7:=by lia
 rcases this with rfl | rfl | rfl | rfl | rfl | rfl | rfl | rfl<;>simp[cL]
def Fm(x:Rat):0<=x*x:=by
 rcases aO x with h | h
 ·exact aA h.1 h.1
 ·have:=aA (show 0 <= -x by grind) (show 0 <= -x by grind);grind
def Dz(x:Int):L9 (cF x):=by
 have i1:((1:Int):Rat)=1:=rfl
 have i2:((2:Int):Rat)=2:=rfl
 have i3:((-1:Int):Rat)=-1:=rfl
 have i4:((-3:Int):Rat)=-3:=rfl
 have i5:((-2:Int):Rat)=-2:=rfl
 have i0:((0:Int):Rat)=0:=rfl
 refine⟨1 / 2,by grind,fun y=>?_⟩
 have s:=Fm y
 have s2:=Fm (2*y+1)
 rcases wr x with e | e | e | e | e | e | e<;>rw[e]<;>simp only[aG,i0,i1,i2,i3,i4,i5]
 ·rcases aO (1+y*0) with z | z<;>grind
 ·rcases aO (2+y*0) with z | z<;>grind
 ·rcases aO (-1+y*0) with z | z<;>grind
 ·rcases aO (-3+y*0) with z | z<;>grind
 ·rcases aO (1+y*(0+y*(1+y*0))) with z | z<;>grind
 ·rcases aO (-2+y*(0+y*(-1+y*0))) with z | z<;>grind
 ·rcases aO (1+y*(1+y*(1+y*0))) with z | z<;>grind
def J4(x:Int):ec (cF x):=by
 rcases wr x with e | e | e | e | e | e | e<;>rw[e]
 ·exact .inr ⟨[],1,rfl,by decide⟩
 ·exact .inr ⟨[],2,rfl,by decide⟩
 ·exact .inr ⟨[],-1,rfl,by decide⟩
 ·exact .inr ⟨[],-3,rfl,by decide⟩
 ·exact .inr ⟨[1,0],1,rfl,by decide⟩
 ·exact .inr ⟨[-2,0],-1,rfl,by decide⟩
 ·exact .inr ⟨[1,1],1,rfl,by decide⟩
def J5(x:Int):BD 3 (cF x):=by
 intro y hy
 rcases wr x with e | e | e | e | e | e | e<;>rw[e] at hy<;>simp at hy<;>lia
def Ai:∀(l:List Rt) (c:aI),ec c->ec (bN c l)
 |[],c,h=>h
 |r::l,c,_=>Ai l (aX c (bY r)) (qf _)
def dg:Rt->Nat
 |.q _ _=>1
 |.s _ _ _=>2
def EJ(r:Rt):(bY r).length=dg r+1:=by cases r<;>rfl
def CG:∀(l:List Rt) (c:aI) (A:Nat),(∀r∈l,BD 12 (bY r))->BD A c->c.length+(l.map dg).sum<=9->(bN c l).length<=9/\BD (A*96 ^ l.length) (bN c l)
 |[],c,A,_,h,hl=>⟨by show c.length<=9;simpa using hl,by show BD (A*96 ^ 0) c;simpa using h⟩
 |r::l,c,A,hr,h,hl=>by
  have h1:=qY c (bY r)
  rw[EJ] at h1
  rw[dQ,yz] at hl
  have d1:1<=dg r:=by cases r<;>simp[dg]
  have b:=kH h (hr r (by simp))
  have b2:BD (A*96) (aX c (bY r)):=b.mono (by
   have:c.length*(A*12)<=8*(A*12):=cy _ (by lia)
   lia)
  have ih:=CG l (aX c (bY r)) (A*96) (fun r N2=>hr r (aj _ N2)) b2 (by lia)
  refine⟨ih.1,ih.2.mono ?_⟩
  rw[dC,ue,IZ,Nat.mul_comm 96]
  exact az _
def C8{r:Ro}(ok:Mr r):BD 12 (bY r.rt):=by
 cases r with
 |q r=>
  obtain⟨h1,h2⟩:=ok.q r rfl
  intro y hy
  simp only[Ro.rt,bY,aC,iO,BM] at hy
  lia
 |s u e D=>
  obtain⟨h1,h2,h3⟩:=ok.s u e D rfl
  have h4:=DO h3
  have h5:(u*u).natAbs<=9:=by rw[bu];have:=gn h1 h1;lia
  have h6:0<=u*u:=by rcases Int.le_total 0 u with z | z;exact Hz z z;have:=Hz (show 0 <= -u by lia) (show 0 <= -u by lia);grind
  intro y hy
  simp only[Ro.rt,bY,aC,iO,BM] at hy
  generalize u*u=uu at *
  lia
structure FJ(gs:List Gr):Prop where
 ok:yq gs
 one:∀g∈gs,EE g.1=false->g.2=1
def K1(xs:aI):FJ (nc xs):=by
 refine⟨Bt xs,fun g hg h=>?_⟩
 obtain⟨k,_,rfl⟩:=List.mem_map.mp hg
 unfold CZ at h ⊢
 simp only at h ⊢
 rw[h];rfl
def Dt:∀gs:List Gr,(∀g∈gs,g.2<=2/\(EE g.1=false->g.2=1))->((bI gs).map dg).sum<=2*gs.length
 |[],_=>az _
 |g::gs,h=>by
  have ih:=Dt gs fun g hg=>h g (aj _ hg)
  obtain⟨h1,h2⟩:=h g (by simp)
  show((List.replicate g.2.toNat g.1.rt++bI gs).map dg).sum<=_
  rw[bG,List.sum_append,List.map_replicate,List.sum_replicate_nat,dC]
  have:g.2.toNat*dg g.1.rt<=2:=by
   cases e:g.1 with
   |q r=>show g.2.toNat*1<=2;lia
   |s u e2 D=>rw[e] at h2;show g.2.toNat*2<=2;have:=h2 rfl;lia
  lia
def C9{gs:List Gr}(h:FJ gs)(x:Int):(bN (cF x) (bI gs)).length<=9/\BD 2348273369088 (bN (cF x) (bI gs))/\ec (bN (cF x) (bI gs))/\bN (cF x) (bI gs)≠[]:=by
 have l3:=h.ok.len
 have s:=Dt gs fun g hg=>⟨(h.ok.ok g hg).2.2,h.one g hg⟩
 have cl:=DA x
 have el:=oq gs fun g hg=>(h.ok.ok g hg).2.2
 obtain⟨a,b⟩:=CG (bI gs) (cF x) 3 (fun r hr=>by
  obtain⟨g,hg,_,rfl⟩:=LV.mp hr
  exact C8 (h.ok.ok g hg).1) (J5 x) (by lia)
 refine⟨a,b.mono ?_,Ai _ _ (J4 x),fun z=>?_⟩
 ·have:96 ^ (bI gs).length<=96 ^ 6:=bB (by decide) (by lia)
  have e:3*96 ^ 6=2348273369088:=by decide
  have:=dU 3 this
  lia
 ·obtain⟨X,hX,k⟩:=tu (bI gs) (vX h.ok).ok
  have e:=(ig (bI gs) (cF x) X).1
  rw[z] at e
  have e':(0:Rat)=aG (cF x) X*dO (jB (bI gs)) X:=e
  rcases Rat.mul_eq_zero.mp e'.symm with w | w
  ·exact(Dz x).ne X w
  ·have:=k X (dF)
   rw[w,show ab 0=0 by decide] at this
   grind
def Cd(h:BD M f)(hl:f.length<=9):BD (8*M) (bz f):=by
 intro y hy
 unfold bz at hy
 obtain⟨i,hi,rfl⟩:=List.mem_map.mp hy
 have Nr:=List.mem_range.mp hi
 have:=h.get (1+i)
 rw[bu]
 have h1:(1+(i:Int)).natAbs<=8:=by lia
 exact gn h1 this
def zZ(h:BD M f)(n:Nat):BD M (f.take n):=fun y hy=>h y (K9 hy)
def Ix{roots:List Ro}(ok:∀r∈roots,Mr r)(c:Int)(xs:aI):(ph c xs roots).length<=5/\BD 36000000000000000 (ph c xs roots)/\ec (ph c xs roots):=by
 unfold ph
 refine⟨?_,?_,qf _⟩
 ·exact aZ (gP _) (by rw[bw];lia)
 ·refine BD.trim (zZ ?_ 5)
  have rb:=D8 c 2
  split
  ·rename_i cc
   have SD:0<roots.length:=List.length_pos_iff.mpr cc.1
   have m1:=fc (xs.getD 1 0) (show(roots.length:Int)≠0 by lia)
   have m2:=dN (xs.getD 1 0) (show 0<(roots.length:Int) by lia)
   have eg:=C4 (l:=roots) (n:=(xs.getD 1 0%(roots.length:Int)).toNat) (by lia) (.q 0)
   have b:=kH (zZ rb 3) (C8 (ok _ (List.mem_of_getElem? eg)))
   refine b.mono ?_
   have:((jO c 2).take 3).length<=3:=by rw[bw];lia
   have:=cy (1000000000000000*12) this
   lia
  ·exact rb.mono (by decide)
def IE{g:aI}(rf:ec f)(lf:f.length<=9)(bf:BD 2348273369088 f)(lg:g.length<=5)(bg:BD 36000000000000000 g)(hf:f≠[]):Np f (Ao f g):=by
 have ls:(bz f).length<=8:=by unfold bz;simp;lia
 have b:=kH (Cd bf lf) bg
 have b2:BD (8*(8*2348273369088*36000000000000000)) (Ao f g):=b.mono (cy _ ls)
 have lh:=qY (bz f) g
 have rh:ec (Ao f g):=qf _
 have Q8:(2:Nat) ^ 103=10141204801825835211973625643008:=by decide
 have Q7:(2:Nat) ^ 43=8796093022208:=by decide
 have bh:BB 103 (Ao f g):=mX b2 (by rw[Q8];decide)
 have Sn:(Ao f g).length<=12:=by show(aX (bz f) g).length<=12;lia
 by_cases h9:(Ao f g).length<=9
 ·exact .inl ⟨.start rf rh lf h9 (mX bf (by rw[Q8];decide)) bh,h9⟩
 ·exact .inr ⟨rf,rh,lf,by lia,Sn,mX bf (by rw[Q7];decide),bh⟩
def kU{k:Nat}{p:Rat}(hk:10<=k)(h1:p.num.natAbs<=1000)(h2:p.den<=1000):fb k p:=by
 have:(2:Nat) ^ 10<=2 ^ k:=bB (by decide) hk
 have e:(2:Nat) ^ 10=1024:=by decide
 exact⟨by lia,by lia⟩
def HL{gs:List Gr}(h:FJ gs)(x:Int){p:Rat}(h1:p.num.natAbs<=1000)(h2:p.den<=1000):NY (bN (cF x) (bI gs)) p:=by
 obtain⟨l,b,_,_⟩:=C9 h x
 have Q7:(2:Nat) ^ 43=8796093022208:=by decide
 exact⟨by lia,(mX (k:=43) b (by rw[Q7];decide)).mono (by decide),kU (by decide) h1 h2⟩
def Dp{gs:List Gr}(h:FJ gs)(x:Int){p:Rat}(hq:kn (cj gs) p=false)(h1:p.num.natAbs<=1000)(h2:p.den<=1000):uc (bN (cF x) (bI gs)) p:=by
 refine⟨HL h x h1 h2,fun z=>?_⟩
 rw[rY] at z
 have n:=Ex h.ok (Dz x) hq
 have z':sg (aG (bN (cF x) (bI gs)) p)=0:=z
 rcases xb n with y | y<;>rw[y] at z'<;>cases z'
def Do{gs:List Gr}(h:FJ gs)(x:Int){p:Rat}(hq:kn (cj gs) p=true):sU p (bN (cF x) (bI gs))=0:=by
 rw[rY]
 show sg (aG (bN (cF x) (bI gs)) p)=0
 rw[A6 h.ok _ hq];exact jc
def kX{k:Nat}{roots:List Ro}{p:Rat}(e:gK xs roots k=some p):kn roots p=false/\p.num.natAbs<=20/\p.den<=4:=by
 unfold gK at e
 split at e
 ·cases e
 ·rename_i c
  cases e
  refine⟨?_,AF xs k⟩
  cases z:kn roots (pM xs k)
  ·rfl
  ·exact absurd (.inr z) c
def qD{roots:List Ro}:(∀p,(fG xs roots).1=some p->gK xs roots 0=some p)/\(∀q,(fG xs roots).2=some q->gK xs roots 1=some q)/\(∀p q,(fG xs roots).1=some p->(fG xs roots).2=some q->p<q):=by
 unfold fG
 cases e0:gK xs roots 0 with
 |none=>exact⟨fun p z=>(by cases z),fun q z=>z,fun p q z=>(by cases z)⟩
 |some p=>
  cases e1:gK xs roots 1 with
  |none=>exact⟨fun p z=>z,fun q z=>z,fun p q _ z=>(by cases z)⟩
  |some q=>
   by_cases c:q.num*(p.den:Int)<=p.num*q.den
   ·simp only[aB c];exact⟨fun p z=>z,fun q z=>(by cases z),fun p q _ z=>(by cases z)⟩
   ·simp only[ay c]
    refine⟨fun p z=>z,fun q z=>z,fun p' q' z1 z2=>?_⟩
    cases z1;cases z2
    rw[Rat.lt_iff];lia
def EQ{gs:List Gr}(h:FJ gs)(x:Int)(xs:aI):wJ (bN (cF x) (bI gs)) (fG xs (cj gs)).1 (fG xs (cj gs)).2:=by
 obtain⟨s1,s2,s3⟩:=qD (xs:=xs) (roots:=cj gs)
 refine⟨s3,fun p e=>?_,fun p e=>?_⟩
 ·obtain⟨a,b,c⟩:=kX (s1 p e);exact Dp h x a (by lia) (by lia)
 ·obtain⟨a,b,c⟩:=kX (s2 p e);exact Dp h x a (by lia) (by lia)
def w9(e:Rat)(j:Int):Rat.divInt (e.num+j*e.den) e.den=e+j:=by
 have pd:0<((e.den:Int):Rat):=Rat.intCast_pos.mpr (by have:=e.den_pos;lia)
 rw[BP,e8,aq,gY e];grind
def xa{j:Int}{e:Rat}(h1:e.num.natAbs<=20)(h2:e.den<=4)(hj:j.natAbs<=9):(Rat.divInt (e.num+j*e.den) e.den).num.natAbs<=1000/\(Rat.divInt (e.num+j*e.den) e.den).den<=1000:=by
 have:=nu (a:=e.num+j*e.den) (oz e)
 have h3:(j*(e.den:Int)).natAbs<=9*4:=by rw[bu,cK];exact gn hj h2
 have h4:=BU e.num (j*e.den)
 rw[cK] at this
 lia
def Hg{gs:List Gr}(h:FJ gs)(x:Int)(xs:aI):ki (bN (cF x) (bI gs)) (rJ xs (cj gs)).1 (rJ xs (cj gs)).2:=by
 obtain⟨b1,b2⟩:=xo (xs:=xs) (B4 h.ok) _ (AQ xs (cj gs))
 unfold rJ
 generalize jP xs (cj gs)=e at *
 have f1:fb 100 e:=kU (by decide) (by lia) (by lia)
 have hk:1<=1+xs.getD 1 0%9/\1+xs.getD 1 0%9<=9:=by lia
 generalize 1+xs.getD 1 0%9=j at hk
 have pj:(1:Rat)<=(j:Rat):=by have:((1:Int):Rat)<=(j:Rat):=Rat.intCast_le_intCast.mpr hk.1;exact this
 by_cases c:kn (cj gs) e=false
 ·rw[aB c]
  split
  ·exact .order (by grind) f1 f1
  ·have e1:e.num-j*(e.den:Int)=e.num+(-j)*e.den:=by grind
   rw[e1]
   obtain⟨a,b⟩:=xa (j:=-j) b1 b2 (by lia)
   refine .order ?_ f1 (kU (by decide) a b)
   rw[w9,Fd];grind
 ·rw[ay c]
  have c':kn (cj gs) e=true:=by cases z:kn (cj gs) e<;>simp_all
  have v:=HL h x (p:=e) (by lia) (by lia)
  have z:=Do h x c'
  split
  ·exact .low v z fun q hq=>by cases hq
  ·split
   ·exact .high v z
   ·split
    ·refine .low v z fun q hq=>?_
     cases hq
     obtain⟨a,b⟩:=xa (j:=j) b1 b2 (by lia)
     refine⟨?_,kU (by decide) a b⟩
     rw[w9];grind
    ·exact .order (by grind) f1 f1
def AT{gs:List Gr}(h:FJ gs)(x:Int)(xs:aI)(rg:ec g):yD (bN (cF x) (bI gs)) g (fG xs (cj gs)).1 (fG xs (cj gs)).2=lB g (pe gs) (fG xs (cj gs)).1 (fG xs (cj gs)).2:=by
 obtain⟨_,_,rf,nf⟩:=C9 h x
 obtain⟨s1,s2,s3⟩:=qD (xs:=xs) (roots:=cj gs)
 have nz:∀{k:Nat} {p:Rat},gK xs (cj gs) k=some p->p∉wV (pe gs):=fun {k p} e z=>by
  rw[Fh] at z
  rw[(kX e).1] at z;cases z
 exact BZ (vX h.ok) (Dz x) rf nf rg (fun q e=>nz (s1 q e)) (fun q e=>nz (s2 q e)) fun p q e1 e2=>aQ (s3 p q e1 e2)
def tY(xs:aI)(n:Nat)(h:n<=xs.length):(bZ xs (some (n:Int)) none).length=xs.length-n:=by
 unfold bZ
 have e1:HT.LC xs.length 0 (some (n:Int))=n:=by unfold HT.LC;simp;split<;>lia
 have e2:HT.LC xs.length xs.length none=xs.length:=rfl
 rw[e1,e2,bw,dB];lia
def Dq(g:aI)(l:List Rt)(r:Rt)(lo hi:Option Rat):lB g (l++[r]) lo hi=lB g l lo hi+(if DV lo r&&DU hi r then yU g r else 0):=by unfold lB;rw[bG,List.sum_append];simp
def xO(lo:Option Rat)(r:Rt)(ha:Lq X ρ a (dm lo))(h2:∀p,lo=some p->Lq X ρ e2 (.int (JR r p))):
  Lq X ρ (.BoolOp .Or [.Compare a [.Is] [.Constant .none j p4] p1,.Compare e2 [.Lt] [.Constant (.int 0) j2 p5] p2] p3) (.bl (DV lo r)):=by
 cases lo with
 |none=>exact Lq.eq (Df (v:=true) (Dg ha) (fun z=>by cases z)) rfl
 |some p=>exact Lq.eq (Df (Dg ha) (fun _=>Aw (h2 p rfl) ag)) rfl
def Dn(hi:Option Rat)(r:Rt)(ha:Lq X ρ a (dm hi))(h2:∀p,hi=some p->Lq X ρ e2 (.int (JR r p))):
  Lu X ρ (.BoolOp .Or [.Compare a [.Is] [.Constant .none j p4] p1,.Compare e2 [.Gt] [.Constant (.int 0) j2 p5] p2] p3) (DU hi r):=by
 cases hi with
 |none=>exact Lu.eq (wc (v:=true) (wf ha) (fun z=>by cases z)) rfl
 |some p=>exact Lu.eq (wc (wf ha) (fun _=>AD (h2 p rfl) ag)) rfl
def gI(b:Bool):SeqAt.shaped (iE (jv b))=true:=by cases b<;>decide
def tU(b:Bool):(iE (jv b)).eqv (iE (jv b))=true:=by cases b<;>decide
def vA(ds:cQ)(d:D):Prop:=∃(ns:aI),ds=[.MG ns]/\ns.length<=63/\d=.bl true
def EA:∀ds d,vA ds d->ds.length=1:=by rintro _ _ ⟨a,rfl,_⟩;rfl
def CO(ns:aI)(h:ns.length<=63):vA [.MG ns] (.bl true):=⟨ns,rfl,h,rfl⟩
def IF(h:DefX P w K mg base k DJ (ai sZ) X)(LG:mg "isinstance"=none)(Pf:mg "bool"=none)(MP:mg "int"=none)(cN:Callee X "_law_numbers" hV)(cG:Callee X "_law_groups" kB)(cM:Callee X "_law_made" mU)(cU:Callee X "_law_unlike" kA)(cC:Callee X "_law_cell" mV)(cO:Callee X "_law_other" jh)(cE:Callee X "_law_ends" kh)(cT:Callee X "_law_told" fP)(cB:Callee X "_law_bad_ends" gx)(cP:Callee X "_law_point_order" gE)(cS:Callee X "_law_sign_at" jK):
  Go X DJ sZ vA:=by
 rintro ds d ⟨ns,rfl,hn,rfl⟩
 have t:=h.at'
 haveI:=h.Mg
 have b1:=h.bt LG
 have b2:=h.bt Pf
 have b3:=h.bt MP
 show Lr X [.val (.MG ns),.un,.un,.un,.un,.un,.un,.un,.un,.un,.un,.un,.un,.un] _ _
 refine ao (bE t 1 (ax t cN (ae (ax t cC (ae (ac t 0) (ae ag ak)) ⟨ns,0,rfl,by decide,by decide,rfl⟩) (ae ag ak)) ⟨rn ns 0,12,rfl,by decide,rfl⟩)) ?_
 have Sq:(aU (rn ns 0) 12).length=12:=jq _ 12
 generalize aU (rn ns 0) 12=xs at Sq
 have G:=K1 xs
 refine ao (bE t 2 (ax t cG (ae (ac t 1) ak) ⟨xs,rfl,by lia,by lia,rfl⟩)) ?_
 generalize nc xs=gs at G
 refine ao (bE t 3 (ax t cM (ae (ac t 2) (ae (aJ (Lq.ql (ac t 1)) ag (dv (n:=11) (by lia))) ak)) ⟨gs,xs.getD 11 0,rfl,G.ok,rfl⟩)) ?_
 refine ao (bE t 4 (ax t cU (ae (ac t 2) ak) ⟨gs,rfl,G.ok,rfl⟩)) ?_
 generalize hx:xs.getD 11 0=x
 obtain⟨lf,bf,rf,nf⟩:=C9 G x
 have Rm:=B4 G.ok
 have lu:(cj gs).length<=100:=by
  have h1:=vG gs []
  have h2:=G.ok.len
  exact aZ h1 (by simp;lia)
 have hz:=pS ns (some 2) (some 9)
 show Lr X [.val (.MG ns),.val (bn xs),.val (.lst (gs.map v6)),.val (av (bN (cF x) (bI gs))),.val (.lst ((cj gs).map eJ)),.un,.un,.un,.un,.un,.un,.un,.un,.un] _ _
 refine ao (fC t (ds:=(rn ns 1::bZ ns (some 2) (some 9)).map D.int) (iV (Lq.eq (LQ.Mi (wj (LQ.Mi (dZ (ae (ax t cC (ae (ac t 0) (ae ag ak)) ⟨ns,1,rfl,by decide,by decide,rfl⟩) ak))) (Lq.eq (LQ.Mi (fW (Lq.qs (ac t 0)) (eI ag) (eI ag))) (by rw[eD])) ?_)) rfl)) (LB.same _ _ fun d hd=>?_)) ?_
 ·have:=xE;simp;lia
 ·obtain⟨c,_,rfl⟩:=List.mem_map.mp hd
  have Wu:(aU c 34).length=34:=jq _ 34
  have RU:=tY (aU c 34) 24 (by lia)
  have RT:=tY (aU c 34) 26 (by lia)
  have RS:=tY (aU c 34) 30 (by lia)
  rw[Wu] at RU RT RS
  refine⟨_,bj t 5,Lr.weak (ρ1:=[.val (.MG ns),.val (bn xs),.val (.lst (gs.map v6)),.val (av (bN (cF x) (bI gs))),.val (.lst ((cj gs).map eJ)),.val (.int c),.val (bn (aU c 34)),.val (av (ph c (bZ (aU c 34) (some 24) none) (cj gs))),.val (dm (rJ (bZ (aU c 34) (some 30) none) (cj gs)).1),.val (dm (rJ (bZ (aU c 34) (some 30) none) (cj gs)).2),.val (.int (lB (ph c (bZ (aU c 34) (some 24) none) (cj gs)) (pe gs) (fG (bZ (aU c 34) (some 26) none) (cj gs)).1 (fG (bZ (aU c 34) (some 26) none) (cj gs)).2)),.un,.un,.val (.int (lB (ph c (bZ (aU c 34) (some 24) none) (cj gs)) (pe gs) (fG (bZ (aU c 34) (some 26) none) (cj gs)).1 (fG (bZ (aU c 34) (some 26) none) (cj gs)).2))]) ?_ (.keep (.keep (.keep (.keep (.keep (.forget (.forget (.forget (.forget (.forget (.forget (.keep (.keep (.forget .nil))))))))))))))⟩
  obtain⟨lg,bg,rg⟩:=Ix Rm c (bZ (aU c 34) (some 24) none)
  have S7:jh [.int c,bn (bZ (aU c 34) (some 24) none),.lst ((cj gs).map eJ)] (av (ph c (bZ (aU c 34) (some 24) none) (cj gs))):=⟨c,_,cj gs,rfl,by rw[show((24:Int))=((24:Nat):Int) from rfl,RU];decide,by rw[show((24:Int))=((24:Nat):Int) from rfl,RU];decide,Rm,lu,rfl⟩
  have QS:kh [bn (bZ (aU c 34) (some 26) none),.lst ((cj gs).map eJ)] (.tup [dm (fG (bZ (aU c 34) (some 26) none) (cj gs)).1,dm (fG (bZ (aU c 34) (some 26) none) (cj gs)).2]):=⟨_,cj gs,rfl,by rw[show((26:Int))=((26:Nat):Int) from rfl,RT];decide,by rw[show((26:Int))=((26:Nat):Int) from rfl,RT];decide,rfl⟩
  have Tc:gx [bn (bZ (aU c 34) (some 30) none),.lst ((cj gs).map eJ)] (.tup [dm (rJ (bZ (aU c 34) (some 30) none) (cj gs)).1,dm (rJ (bZ (aU c 34) (some 30) none) (cj gs)).2]):=⟨_,cj gs,rfl,by rw[show((30:Int))=((30:Nat):Int) from rfl,RS];decide,by rw[show((30:Int))=((30:Nat):Int) from rfl,RS];decide,Rm,lu,rfl⟩
  have Xy:=EQ G x (bZ (aU c 34) (some 26) none)
  have XF:=Hg G x (bZ (aU c 34) (some 30) none)
  have wd:=AT G x (bZ (aU c 34) (some 26) none) rg
  have es:=qD (xs:=bZ (aU c 34) (some 26) none) (roots:=cj gs)
  have eb:(∀p,(fG (bZ (aU c 34) (some 26) none) (cj gs)).1=some p->fb 30 p)/\(∀p,(fG (bZ (aU c 34) (some 26) none) (cj gs)).2=some p->fb 30 p):=
   ⟨fun p e=>by obtain⟨_,a,b⟩:=kX (es.1 p e);exact kU (by decide) (by lia) (by lia),fun p e=>by obtain⟨_,a,b⟩:=kX (es.2.1 p e);exact kU (by decide) (by lia) (by lia)⟩
  have ci:=IE rf lf bf lg bg nf
  have Q7:(2:Nat) ^ 43=8796093022208:=by decide
  have Tu:BB 43 (bN (cF x) (bI gs)):=mX bf (by rw[Q7];decide)
  clear es RU RT RS
  generalize ph c (bZ (aU c 34) (some 24) none) (cj gs)=g at *
  generalize (fG (bZ (aU c 34) (some 26) none) (cj gs)).1=lo at *
  generalize (fG (bZ (aU c 34) (some 26) none) (cj gs)).2=hi at *
  generalize (rJ (bZ (aU c 34) (some 30) none) (cj gs)).1=Qt at *
  generalize (rJ (bZ (aU c 34) (some 30) none) (cj gs)).2=Px at *
  have Xq:∀y∈g,-(2 ^ 63)<y/\y<2 ^ 63:=fun y hy=>by have:=bg y hy;lia
  have Xp:∀y∈g,y.natAbs<2 ^ 64:=fun y hy=>by have:=bg y hy;lia
  have Xk:fP [av (bN (cF x) (bI gs)),av g,dm lo,dm hi] (.int (lB g (pe gs) lo hi)):=⟨_,g,lo,hi,rfl,.inl ⟨⟨_,g,lo,hi,rfl,nf,Xy,ci,Tu.mono (by decide),by lia,Xq,by rw[<-wd]⟩,by rw[<-wd]⟩⟩
  have S5:fP [av (bN (cF x) (bI gs)),av g,dm Qt,dm Px] (jv true):=⟨_,g,Qt,Px,rfl,.inr (.inl ⟨nf,XF,rfl⟩)⟩
  have Xj:fP [av [],av g,dm Qt,dm Px] (jv false):=⟨_,g,Qt,Px,rfl,.inr (.inr ⟨rfl,rfl⟩)⟩
  generalize bN (cF x) (bI gs)=f at *
  refine ao (bE t 6 (ax t cN (ae (ac t 5) (ae ag ak)) ⟨c,34,rfl,by decide,rfl⟩)) ?_
  refine ao (bE t 7 (ax t cO (ae (ac t 5) (ae (Lq.eq (LQ.Mi (fW (Lq.ql (ac t 6)) (eI ag) eO)) (by rw[eD])) (ae (ac t 4) ak))) S7)) ?_
  refine ao (re t (ax t cE (ae (Lq.eq (LQ.Mi (fW (Lq.ql (ac t 6)) (eI ag) eO)) (by rw[eD])) (ae (ac t 4) ak)) QS) (mC (ds:=[dm lo,dm hi]) t (dL (bj t 8) (dL (bj t 9) jg)))) ?_
  refine ao (bE t 10 ag) ?_
  show Lr X [.val (.MG ns),.val (bn xs),.val (.lst (gs.map v6)),.val (av f),.val (.lst ((cj gs).map eJ)),.val (.int c),.val (bn (aU c 34)),.val (av g),.val (dm lo),.val (dm hi),.val (.int 0),.un,.un,.un] _ _
  refine ao (ρ':=[.val (.MG ns),.val (bn xs),.val (.lst (gs.map v6)),.val (av f),.val (.lst ((cj gs).map eJ)),.val (.int c),.val (bn (aU c 34)),.val (av g),.val (dm lo),.val (dm hi),.val (.int (lB g (pe gs) lo hi)),.un,.un,.un]) (fC t (iV (ac t 4)) (LB.LJ (fun i=>[.val (.MG ns),.val (bn xs),.val (.lst (gs.map v6)),.val (av f),.val (.lst ((cj gs).map eJ)),.val (.int c),.val (bn (aU c 34)),.val (av g),.val (dm lo),.val (dm hi),.val (.int (lB g (((cj gs).take i).map Ro.rt) lo hi)),.un,.un,.un]) (fun i d Nr=>?_) rfl ?_)) ?_
  ·rw[List.getElem?_map] at Nr
   cases er:(cj gs)[i]? with
   |none=>rw[er] at Nr;cases Nr
   |some r=>
    rw[er] at Nr;cases Nr
    have ro:=Rm r (List.mem_of_getElem? er)
    have sn:lB g (((cj gs).take (i+1)).map Ro.rt) lo hi=lB g (((cj gs).take i).map Ro.rt) lo hi+(if DV lo r.rt&&DU hi r.rt then yU g r.rt else 0):=by
     rw[kD,er]
     show lB g (((cj gs).take i++[r]).map Ro.rt) lo hi=_
     rw[bG];exact Dq g _ r.rt lo hi
    rw[sn]
    generalize lB g (((cj gs).take i).map Ro.rt) lo hi=Tn
    by_cases cc:(DV lo r.rt&&DU hi r.rt)=true
    ·rw[aB cc]
     refine⟨_,bj t 11,Lr.weak (ao (bE t 12 (xO lo r.rt (ac t 8) (fun p e=>ax t cP (ae (d:=em p) (Lq.eq (ac t 8) (by rw[e];rfl)) (ae (ac t 11) ak)) ⟨p,r,rfl,ro,eb.1 p e,rfl⟩))) (aD (fy (Lu.eq (kc (lT (ac t 12)) (fun _=>Dn hi r.rt (ac t 9) (fun p e=>ax t cP (ae (d:=em p) (Lq.eq (ac t 9) (by rw[e];rfl)) (ae (ac t 11) ak)) ⟨p,r,rfl,ro,eb.2 p e,rfl⟩))) cc) (aD (bE t 10 (bO (ac t 10) (ax t cS (ae (ac t 7) (ae (ac t 11) ak)) ⟨g,r,rfl,ro,by lia,Xp,rfl⟩))))))) (.keep (.keep (.keep (.keep (.keep (.keep (.keep (.keep (.keep (.keep (.keep (.forget (.forget (.keep .nil))))))))))))))⟩
    ·rw[ay cc,Int.add_zero]
     refine⟨_,bj t 11,Lr.weak (ao (bE t 12 (xO lo r.rt (ac t 8) (fun p e=>ax t cP (ae (d:=em p) (Lq.eq (ac t 8) (by rw[e];rfl)) (ae (ac t 11) ak)) ⟨p,r,rfl,ro,eb.1 p e,rfl⟩))) (aD (dr (Lu.eq (kc (lT (ac t 12)) (fun _=>Dn hi r.rt (ac t 9) (fun p e=>ax t cP (ae (d:=em p) (Lq.eq (ac t 9) (by rw[e];rfl)) (ae (ac t 11) ak)) ⟨p,r,rfl,ro,eb.2 p e,rfl⟩))) (by simpa using cc)) bR))) (.keep (.keep (.keep (.keep (.keep (.keep (.keep (.keep (.keep (.keep (.keep (.forget (.forget (.keep .nil))))))))))))))⟩
  ·rw[ah,eE];rfl
  refine ao (bE t 13 (ax t cT (ae (ac t 3) (ae (ac t 7) (ae (ac t 8) (ae (ac t 9) ak)))) Xk)) ?_
  generalize lB g (pe gs) lo hi=Tn
  refine ao (dr (Ms.toT (ot (Lu.eq (we (lT (v9 (d:=.int Tn) t b1 b3 (ac t 13) rfl))) rfl) (ot (lT (v9 (d:=.int Tn) t b1 b2 (ac t 13) rfl)) (qA (Lu.eq (ze (ac t 13) (ac t 10)) (by rw[aH rfl];rfl)))))) bR) ?_
  refine ao (re t (ax t cB (ae (Lq.eq (LQ.Mi (fW (Lq.ql (ac t 6)) (eI ag) eO)) (by rw[eD])) (ae (ac t 4) ak)) Tc) (mC (ds:=[dm Qt,dm Px]) t (dL (bj t 8) (dL (bj t 9) jg)))) ?_
  refine ao (dr (iU t (Lq.p (ax t cT (ae (ac t 3) (ae (ac t 7) (ae (ac t 8) (ae (ac t 9) ak)))) S5)) (Lq.p (d:=jv true) (aV (ae pJ (ae pJ (ae pJ ak))))) (gI _) (gI _) (by rw[tU];rfl)) bR) ?_
  exact aD (dr (iU t (Lq.p (ax t cT (ae (d:=av []) (aV ak) (ae (ac t 7) (ae (ac t 8) (ae (ac t 9) ak)))) Xj)) (Lq.p (d:=jv false) (aV (ae pJ (ae pJ (ae pJ ak))))) (gI _) (gI _) (by rw[tU];rfl)) bR)
 ·have Xi:fP [av [],av [1],dm none,dm none] (jv false):=⟨_,[1],none,none,rfl,.inr (.inr ⟨rfl,rfl⟩)⟩
  exact aD (bC (wb t (Lq.p (ax t cT (ae (d:=av []) (aV ak) (ae (d:=av [1]) (aV (ae ag ak)) (ae jC (ae jC ak)))) Xi)) (Lq.p (d:=jv false) (aV (ae pJ (ae pJ (ae pJ ak))))) (gI _) (gI _) (tU _)))
set_option maxHeartbeats 4000000 in
def all_mk{K:dq}{l:PySem.W.OpenLaw}(ht:l.prog.given.tree=none)(X:K.In h)(G:h.Ns mainGlobals mg)(WY:mg "law"=some (.ref fa))(d1:Kd K "told_anew" gJ f1 g1)(d2:Kd K "sign_of" m5 f2 g2)(d3:Kd K "common_divisor" fT f3 g3)(d4:Kd K "below" sk f4 g4)(d5:Kd K "without_end" iw f5 g5)(d6:Kd K "row_of" pc f6 g6)(d7:Kd K "other_sign" jd f7 g7)(d8:Kd K "row_times" iF f8 g8)(d9:Kd K "slope" sj f9 g9)(Vc:Kd K "put_low" m7 UE Y9)(Vb:Kd K "scaled_value" fM UD Y8)(Va:Kd K "sign_of_value" gr ZI Y7)(U9:Kd K "step_down" jU ZH Y6)(U8:Kd K "divided" kO ZG Y5)(U7:Kd K "rest_of" m6 ZF Y4)(U6:Kd K "chain_of" k9 ZE Y3)(U5:Kd K "sign_toward" iy ZD Y2)(U4:Kd K "changes_at" gS ZC Y1)(Tr:Kd K "refuse_wrong_ends" df ZA Y0)(RQ:Kd K "refuse_uncounted" cg Zz YZ)(RP:Kd K "weigh_between" dG Zy YY)(U3:Kd K "_law_cell" jZ Zx YX)(U2:Kd K "_law_numbers" gW Zw YW)(U1:Kd K "_law_low" li Zv YV)(U0:Kd K "_law_trim" iG Zu YU)(UZ:Kd K "_law_times" jf Zt YT)(UY:Kd K "_law_some_row" gu Zs YS)(UX:Kd K "_law_planted" gU Zr YR)(UW:Kd K "_law_row" lb Zq YQ)(UU:Kd K "_law_row_value" fU Zp YO)(UT:Kd K "_law_sign" jW Zo YN)(US:Kd K "_law_root_drawn" fF Zn YM)(UR:Kd K "_law_factor" iB Zm YL)(UQ:Kd K "_law_all" lj Zl YK)(UP:Kd K "_law_sign_at" gT Zk YJ)(UO:Kd K "_law_point_order" fz Zj YI)(UN:Kd K "_law_groups" iA Zi YH)(UM:Kd K "_law_made" jX Zh YG)(UL:Kd K "_law_unlike" iz Zg YF)(UK:Kd K "_law_other" gV Zf YE)(UJ:Kd K "_law_bad_ends" gv Ze YD)(UI:Kd K "_law_told" jV Zd YC)(UH:Kd K "_law_ends" jY Zc YB)(Tq:Kd K "law" sZ Zb YA)(zA:PySem.W.nsIn K mainGlobals "isinstance"=some none)(zB:PySem.W.nsIn K mainGlobals "tuple"=some none)(zC:PySem.W.nsIn K mainGlobals "abs"=some none)(zD:PySem.W.nsIn K mainGlobals "len"=some none)(zE:PySem.W.nsIn K mainGlobals "enumerate"=some none)(zF:PySem.W.nsIn K mainGlobals "range"=some none)(zG:PySem.W.nsIn K mainGlobals "reversed"=some none)(zH:PySem.W.nsIn K mainGlobals "list"=some none)(zI:PySem.W.nsIn K mainGlobals "int"=some none)(M4:PySem.W.nsIn K mainGlobals "ValueError"=some none)(zJ:PySem.W.nsIn K mainGlobals "bool"=some none)(Nj:PySem.W.nsIn K mainGlobals "NoEnds"=some (some (.ref LN)))(q_NoEnds:PySem.W.excIn K LN vB vN=true)(NL:PySem.W.nsIn K mainGlobals "NoRow"=some (some (.ref LR)))(q_NoRow:PySem.W.excIn K LR vB vN=true)(M6:PySem.W.nsIn K mainGlobals "StackError"=some (some (.ref LW)))(q_StackError:PySem.W.excIn K LW vB vN=true)(N9:PySem.W.mroIn K LN (.ref LW)=some true)(OI:PySem.W.mroIn K LR (.ref LW)=some true)(t_NoEnds_NoEnds:PySem.W.kitOne K (.ref LN) (.ref LN)=some true)(t_NoEnds_NoRow:PySem.W.kitOne K (.ref LN) (.ref LR)=some false)(t_NoEnds_V:PySem.W.kitOne K (.ref LN) (.type "ValueError")=some true)(t_NoRow_NoEnds:PySem.W.kitOne K (.ref LR) (.ref LN)=some false)(t_NoRow_NoRow:PySem.W.kitOne K (.ref LR) (.ref LR)=some true)(t_NoRow_V:PySem.W.kitOne K (.ref LR) (.type "ValueError")=some true)(x_NoEnds:qL K LN)(x_NoRow:qL K LR)
  : ∃fd:FuncData,(∀(s:Shared) (v:Value),BindsTo s fd ⟨[v],[]⟩ [("_law_script",v)])/\∀base:Heap,K.In base->base.Ns mainGlobals mg->lX l.prog w K mg base AS 8 fa fd ["_law_script"] (Fo K vA):=by
 have e:=WY.symm.trans (fu X G Tq.a)
 cases e
 have zK:=cI X G zA
 have zL:=cI X G zB
 have zM:=cI X G zC
 have zN:=cI X G zD
 have zO:=cI X G zE
 have zP:=cI X G zF
 have zQ:=cI X G zG
 have zR:=cI X G zH
 have zS:=cI X G zI
 have Mf:=cI X G M4
 have zT:=cI X G zJ
 have b1:=d1.b1 X G k8
 have b2:=d2.b1 X G sV
 have b3:=d3.b2 X G jS
 have b4:=d4.b2 X G xh
 have b5:=d5.b2 X G l8
 have b6:=d6.b1 X G u7
 have b7:=d7.b1 X G nT
 have b8:=d8.b2 X G oS
 have b9:=d9.b1 X G xg
 have X9:=Vc.b1 X G sX
 have X8:=Vb.b2 X G lM
 have Tz:=Va.b2 X G kL
 have X7:=U9.b2 X G oR
 have X6:=U8.b2 X G sY
 have X5:=U7.b2 X G sW
 have X4:=U6.b2 X G qZ
 have X3:=U5.b2 X G ma
 have X2:=U4.b2 X G nU
 have Vi:=Tr.b3 X G fL
 have Tx:=RQ.b3 X G fh
 have Tw:=RP.b4 X G fS
 have X0:=U3.b2 X G oZ
 have Vh:=U2.b2 X G lP
 have RW:=U1.b2 X G q8
 have Tv:=U0.b1 X G oU
 have RV:=UZ.b2 X G nV
 have XZ:=UY.b2 X G kM
 have XY:=UX.b1 X G lO
 have XX:=UW.b2 X G q0
 have XW:=UU.b2 X G jT
 have Vg:=UT.b1 X G oW
 have XU:=US.b2 X G jy
 have Vf:=UR.b1 X G mh
 have XT:=UQ.b1 X G q9
 have XS:=UP.b2 X G lN
 have XR:=UO.b2 X G ja
 have XQ:=UN.b1 X G mf
 have XO:=UM.b2 X G oX
 have XN:=UL.b1 X G me
 have XM:=UK.b3 X G nW
 have XJ:=UJ.b2 X G kN
 have XI:=UI.b4 X G oV
 have XH:=UH.b2 X G oY
 obtain⟨_,_,kV,dc,pm,an,cd,ct,_,rfl,_,_⟩:=Tq.F.ex
 refine⟨PySem.W.fnOf "law" "law" (gZ sZ) (bX sZ) (ai sZ) .none kV dc pm an cd ct,fun s v=>.of_eq rfl,fun base KB _=>?_⟩
 have Ot:OwnCls "NoEnds" LN vB vN mg base:=vU KB (fu X G Nj) q_NoEnds
 have OY:OwnCls "NoRow" LR vB vN mg base:=vU KB (fu X G NL) q_NoRow
 have M9:OwnCls "StackError" LW vB vN mg base:=vU KB (fu X G M6) q_StackError
 have f_:=@Iz l.prog ht w K mg base
 have UC:=@G2 l.prog ht w K mg base
 have p1:=f_ (k:=0) d1.F k8 tM fun _ Z=>wx Z zK zL
 have o1:=f_ (k:=1) d1.F k8 uz fun _ Z=>yd Z zK zL  (Z.ca p1 b1)
 have o2:=f_ (k:=0) d2.F sV xF fun _ Z=>BF Z
 have o3:=f_ (k:=0) d3.F jS og fun _ Z=>qH Z zM
 have o4:=f_ (k:=0) d4.F xh Bo fun _ Z=>EY Z
 have o5:=f_ (k:=0) d5.F l8 rC fun _ Z=>uN Z zN zL
 have o6:=f_ (k:=1) d6.F u7 yS fun _ Z=>DB Z  (Z.ca o5 b5)
 have o7:=f_ (k:=0) d7.F nT tI fun _ Z=>wt Z zL
 have o8:=f_ (k:=2) d8.F oS uB fun _ Z=>yf Z zO zN (Z.ca o6 b6)
 have o9:=f_ (k:=0) d9.F xg Bm fun _ Z=>EX Z zL zP zN
 have Wo:=f_ (k:=1) Vc.F sX xH fun _ Z=>BH Z zL (Z.ca o3 b3)
 have Wn:=f_ (k:=0) Vb.F lM qu fun _ Z=>t6 Z zQ
 have Sg:=f_ (k:=1) Va.F kL pA fun _ Z=>rL Z  (Z.ca o2 b2) (Z.ca Wn X8)
 have Wm:=f_ (k:=1) U9.F oR uA fun _ Z=>ye Z zM (Z.ca o3 b3) (Z.ca o2 b2)
 have Wl:=f_ (k:=2) U8.F sY xI fun _ Z=>BI Z zR zN zO (Z.ca Wm X7) (Z.ca o6 b6)
 have Wk:=f_ (k:=3) U7.F sW xG fun _ Z=>BG Z  (Z.ca Wo X9) (Z.ca Wl X6)
 have Wj:=f_ (k:=4) U6.F qZ vY fun _ Z=>zn Z  (Z.ca o1 b1) (Z.ca o7 b7) (Z.ca Wk X5)
 have Wi:=f_ (k:=2) U5.F ma rD fun _ Z=>uO Z zN (Z.ca Sg Tz) (Z.ca o2 b2)
 have Wh:=f_ (k:=3) U4.F nU tJ fun _ Z=>wu Z zN zP (Z.ca Wi X3)
 have Wg:=UC (k:=2) Tr.F fL lW fun _ Z=>nI Z  (Z.ca o4 b4) (Z.ca Sg Tz)
 have VW:=@EI l.prog ht w K mg base _ _ _ _ _ _ _ 2 _ _ Tr.F fL ln fun _ Z=>mE Z (Z.ca o4 b4) (Z.ca Sg Tz) Ot
 have Wf:=UC (k:=3) RQ.F fh mr fun _ Z=>oB Z  (Z.ca Wg Vi)
 have VV:=@v8 l.prog ht w K mg base _ _ _ _ _ _ _ 3 _ _ RQ.F fh lV fun _ Z=>nH Z (Z.Rf VW Vi)
 have VT:=@v8 l.prog ht w K mg base _ _ _ _ _ _ _ 3 _ _ RQ.F fh lv fun _ Z=>nG Z OY
 have We:=f_ (k:=5) RP.F fS pq fun _ Z=>rK Z  (Z.ca Wf Tx) (Z.ca Wj X4) (Z.ca Wh X2) (Z.ca o8 b8) (Z.ca o9 b9)
 have VU:=@v8 l.prog ht w K mg base _ _ _ _ _ _ _ 5 _ _ RP.F fS n9 fun _ Z=>qG Z (Z.Rf VV Tx)
 have VS:=@v8 l.prog ht w K mg base _ _ _ _ _ _ _ 5 _ _ RP.F fS nB fun _ Z=>qF Z (Z.Rf VT Tx)
 have Wd:=f_ (k:=0) U3.F oZ uH fun _ Z=>ym Z zN
 have T5:=f_ (k:=0) U2.F lP qy fun _ Z=>ua Z zP zM zS
 have Rr:=f_ (k:=0) U1.F q8 v0 fun _ Z=>zp Z zM
 have Sf:=f_ (k:=0) U0.F oU uC fun _ Z=>yg Z zR zL zN
 have Rq:=f_ (k:=1) UZ.F nV tK fun _ Z=>wv Z zP zN (Z.ca Sf Tv)
 have Wc:=f_ (k:=1) UY.F kM pB fun _ Z=>rM Z  (Z.ca Sf Tv)
 have Wb:=f_ (k:=2) UX.F lO qw fun _ Z=>t9 Z zP (Z.ca Rq RV)
 have Wa:=f_ (k:=3) UW.F q0 vZ fun _ Z=>zo Z  (Z.ca T5 Vh) (Z.ca Wc XZ) (Z.ca Wb XY) (Z.ca Rq RV)
 have V9:=f_ (k:=1) UU.F jT oh fun _ Z=>qI Z zP zN (Z.ca Rr RW)
 have T4:=f_ (k:=0) UT.F oW uE fun _ Z=>yi Z zS
 have V8:=f_ (k:=1) US.F jy nC fun _ Z=>pT Z  (Z.ca Rr RW)
 have T3:=f_ (k:=0) UR.F mh rG fun _ Z=>uR Z
 have V7:=f_ (k:=0) UQ.F q9 v4 fun _ Z=>zr Z
 have V6:=f_ (k:=2) UP.F lN qv fun _ Z=>t7 Z  (Z.ca T4 Vg) (Z.ca V9 XW)
 have V5:=f_ (k:=1) UO.F ja mv fun _ Z=>oC Z  (Z.ca T4 Vg)
 have V4:=f_ (k:=2) UN.F mf rF fun _ Z=>uQ Z zP zS (Z.ca V8 XU)
 have V3:=f_ (k:=2) UM.F oX uF fun _ Z=>yj Z zP (Z.ca Rq RV) (Z.ca T3 Vf)
 have V2:=f_ (k:=1) UL.F me rE fun _ Z=>uP Z  (Z.ca V7 XT)
 have V1:=f_ (k:=4) UK.F nW tL fun _ Z=>ww Z zN (Z.ca Wa XX) (Z.ca Sf Tv) (Z.ca Rq RV) (Z.ca T3 Vf)
 have V0:=f_ (k:=1) UJ.F kN pC fun _ Z=>rO Z zN (Z.ca Rr RW)
 have VZ:=f_ (k:=6) UI.F oV uD fun _ Z=>yh Z zK Mf x_NoEnds x_NoRow (fu X G Nj) (fu X G NL) t_NoEnds_NoEnds t_NoEnds_NoRow t_NoEnds_V t_NoRow_NoEnds t_NoRow_NoRow t_NoRow_V (Z.ca We Tw) (Z.Rf VU Tw) (Z.Rf VS Tw) M9 N9 OI
 have VY:=f_ (k:=1) UH.F oY uG fun _ Z=>yk Z zP (Z.ca Rr RW)
 exact f_ Tq.F FT EA fun _ Z=>IF Z zK zT zS (Z.ca T5 Vh) (Z.ca V4 XQ) (Z.ca V3 XO) (Z.ca V2 XN) (Z.ca Wd X0) (Z.ca V1 XM) (Z.ca VY XH) (Z.ca VZ XI) (Z.ca V0 XJ) (Z.ca V5 XR) (Z.ca V6 XS)
def walk{q:Program}{l:PySem.W.OpenLaw}{XP:(Str->Option Value)->Heap->Prop}{YP:World->Heap->Prop}{d:DefRec}{K:Params->dq}(hq:importsNone q=true)(hn:l.most=some 63)(QL:d.params.defaults=[])(hY:∀(w:World) (h:Heap),YP w h->(K w.params).In h)(F:∀(w:World) (mg:uh) (fa:Addr) (h:Heap),(K w.params).In h->h.Ns mainGlobals mg->mg d.name=some (.ref fa) ->
   ∃fd:FuncData,(∀(s:Shared) (u:Value),BindsTo s fd ⟨[u],[]⟩ [("_law_script",u)])/\∀base:Heap,(K w.params).In base->base.Ns mainGlobals mg->lX l.prog w (K w.params) mg base AS 8 fa fd ["_law_script"] (Fo (K w.params) vA)):
  PySem.W.WalkO q loose XP YP l.row.toRowW d [] (fun f vs=>PySem.call f vs):=
 L2.OE (n:=63) (k:=8) (x := "_law_script") (CX:=fun _=>AS) (sp:=fun w=>Fo (K w.params) vA) hq hn (by decide) QL ⟨rfl,by decide,by decide⟩ hY F (fun _ H a ns hl hO hS=>⟨H,[.MG ns],.bl true,.refl _,.cons (.MG hS) .nil,CO ns hl,fun v F' H' x r=>by cases r;rfl⟩) fun _ _ _ _ _ z=>z
end My
def PySem.W.Fast.tw2755066862725769385:PySem.Program:=PySem.Challenge.pw_planestacks_k15_roots_weighed
def PySem.W.Fast.te2755066862725769385:PySem.Challenge.pw_planestacks_k15_roots_weighed=PySem.W.Fast.tw2755066862725769385:=rfl
structure PySem.W.Fast:Prop where(tw4139916599597771218 tw3842314826901686857 tw16078107258511287872 tw14012863007299932820 tw6767497806414684193 tw716392824582886437 te3820834579835718910 tw10450094269916366485 tw7949692646448936947 tw16830543442252515074 tw2453717847685349145 tw17871594577614869503 tw14811683363222343190 tw18182282003655778419 tw10832247326340594554 tw17335170570084520900 tw1681785948064710238 tw2322254725520692704 tw2864235587586591744 tw2769209445661681973 tw5665581596155094688 tw17365197849618916255 tw16132642416482279956 tw2728876492024831157 tw17709143164515308512 tw9684513565354124119 tw2353319047548671461 tw5165804975579338786 tw15244461437719386184 tw4024140446434197376 tw16235860853818209697 tw10606413377585024778 tw2205284175016698283 tw10158221669702415604 tw10910587255462201151 tw15493079242920574903 tw14310707504316729497 tw18071779635291574043 tw10815785282121530789 tw883890710060922103 tw12002299463877173140 tw12793545746238003496 tw12533692170658424248 tw15871444718316854709 tw11158121289520541502 tw6043364286916252236 tw8862730988815780493 tw2991809411170604923 tw7973146440026342796 tw18418192377715215427 tw17046393605000957622 tw8761006101714947650 tw3557001811697759803 tw4470273611082144036 tw520813170163719772 tw7356904814541528849 tw11349175638671930593 tw1843715266774832243 tw8706681922898024642 tw16768209650222784739 tw5374812059403085100 tw10985318516961109951 tw15198628800929850538 tw12801903936133583474 tw14033040547909867638 tw12056678479883924980 tw2727155680782128511 tw7445307674877411917 tw6925627943089962052 tw4872958064570036773 tw18053616377020744701 tw9149227114263086662 tw760635688519264865 tw16101253312855597839 tw14636194421435934459 tw8691718833654542721 tw13578294983929068830 tw8294273589967693670 tw10691619298653203518 tw16497141512021407328 tw10938537482985220494 tw15108152367497750117 tw14685180806256041738 tw15431614605255275451 tw16344141048955136082 tw12507721642570989889 tw16415420700715016930 tw2337571671175574885 tw16306317676938518687 tw9428749587920864871 tw15744014403008073430 tw8358935527624831107 tw17555886557631803338 tw9494080827846634675 tw10857995082679050317 tw4598035115788865458 tw4250576289354227480 tw16754208601303364122 tw10881517152400568319 tw10947139504320499390 tw6571752901467162597 tw382479833780521107 tw17640132650772456101 tw16231989311724652504 tw3890162147110234216 tw4001688108672841003 tw2051729457087124875 tw14440071748923726363 tw1755860036090554219 tw1698148007664822839 tw7878201213123629394 tw14441693421227276077 tw11798228632959595135 tw14902055026763724074 tw81730467382809572 tw7564508396862183074 tw1507704089270662992 tw4029983145068288132 tw6937823266855755628 tw7578853586155868287 tw12369282065547211598 tw10315303347832177521 tw497063700345717734 tw17302682900484053096 tw179074912671265840 tw14836574716750770042 tw13231757485513734421 tw4644246494776876636 tw13064445897747920605 tw14889256798069436235 tw15573374965865251768 tw7026680545795421548 tw16823515740988456935 tw13695810165312118513 tw3209701168865097410 tw8378398399077499923 tw482619985618015886 tw15798616009627691365 tw9954311457431528407 tw9351106097506736154 tw4627658763344826744 tw7367218547634816534 tw5503932244851429913 tw16341732958631358351 tw3231387658548421112 tw12931626698149147110 tw14134935005511738931 tw4640045522708021445 tw16977059380092815742 tw2169103835921438459 tw14474026435084665887 tw18011068677752539479 tw4918949255686872997 tw13781017756159608393 tw8786680565091460877 tw13831205582292142047 tw13172820236922492741 tw5985743238876958858 tw11871537369400810355 tw2388463887478846541 tw9028974211234602800 tw5166670824046842922 tw8294135987317431154 tw12188539054017803500 tw16309602924601439296 tw3380456741312888989 tw3413615526091117420 tw8298938279425781010 tw2744644718061751572 tw4186709525345410748 tw6036702891643396871 tw9471949737923500562 tw11251615917065228049 tw93677492041849623 tw7055548907826922358 tw4452715221003779946 tw5945573396054251053 tw13469626770777559758 tw1771650370247970698 tw14304418728253290387 tw6286325700219170404 tw6741602788460085105 tw16721888083759863207 tw11709846910170828886 tw3938641502101862967 tw6688608432160115175 tw4327122516276028998 tw11249893448550208192 tw11526205977435213221 tw17445537656402883236 tw4017170680166259374 tw5449377763962216670 tw10407651353619577256 tw11013484258069439363 tw11017421721738988947 tw402322309232443915 tw13417306826235523317 tw3927103787509342955 tw18411448723595747299 tw16092491428609571966 tw16084988856327449198 tw9669715907204960890 tw15790041474995169349 tw16602535127365834442 tw4035259415860967942 tw9098200481130884545 tw12255136701929357523 tw3457546425687678674 tw12970172745070726077 tw4134651823627743364 tw4305025585983681802 tw10823599791455410448 tw5434331351896333068 tw12622176878092560326 tw13632644746554907280 tw7328304380309471434 tw8129761042559107453 tw12596564492669167214 tw12419087944501891413 tw3881260758115301307 tw7710258573720286449 tw8104673784117596053 tw466876424158978834 tw2606882284026692752 tw14258320861721456942 tw9761249211891854786 tw14441499544715969345 tw16667007884939361919 tw14497795717874679944 tw16018517515724072347 tw10918423859527053457 tw15711892614533910915 tw11956991444338158543 tw2092828880156382587 tw3107391843675669889 tw15767597421438258960 tw11251471430696803824 tw1643957912091229477 tw1138898010977102916 tw5859064187799967353 tw5529435624387495141 tw7532548249866104951 tw14374154770666130873 tw14903966158995627104 tw10484119435160256685 tw3491684032092805355 tw2431460419144979978 tw6958293197108867823 tw5628447292717573753 tw16787861428021762780 tw8120512304891783934 tw7645225061674317078 tw8294532277617539521 tw2021929181187508099 tw2419845262753685665 tw11716451062173509235 tw5455378093325786381 tw4256761921531346658 tw815860203934252904 tw7380578631874616165 tw2908764938127485107 tw17417298760321925259 tw6782354871480347677 tw18028881582763782252 tw6811414946418602003 tw2425180096428804113 tw3592296596793189019 tw18381057391309551396 tw2793372100201390017 tw15648362365306467338 tw15263248258116180590 tw11615308581579121145 tw6623399848736840826 tw12713456291296965306 tw11432358120707045252 tw14065010530530901800 tw3303408923678100981 tw9359859613599705088 tw17749456544706640431 tw17661129915898190795 tw3815939819906425285 tw6549401172102218738 tw7507161394334498882 tw3287307552934761691 tw17170854571876237382 tw11226669705754296321 tw1666392023429541849 tw4705748812139444981 tw7361380928949457114 tw982028548112648082 tw3396974128992013559 tw6705800076765876031 tw13617203724947019563 tw10468879308985800885 tw13385022461718907021 tw4341735628994962685 tw10136688499244455059 tw7438745355125302963 tw3416295270432843710 tw3867152568823430111 tw6673312837630033054 tw12524324767144555578 tw4466634628316515443 tw14386290920116616608 tw3953964538283335858 tw13391720995807700773 tw5799747693690616681 tw13314903650273117823 tw12693889720600298880 tw3615612184840300845 tw8149853280103587950 tw4277919313312096090 tw11691185142570398175 tw5747392659069970368 tw13892154900118465097:True)
open PySem PySem.W PyProof.Rows
set_option maxRecDepth 100000 in
set_option maxHeartbeats 0 in
theorem PySem.Challenge.cw_planestacks_k15_roots_weighed_holds : PySem.Challenge.rw_planestacks_k15_roots_weighed.Holds := by
 w_on; o_law; k_head; (case hw => w_witness2)
 k_fill
 refine My.walk (l := PySem.Challenge.rw_planestacks_k15_roots_weighed) (by decide +kernel) rfl rfl (fun w h Y => PySem.W.kIn_of Y) ?F
 case F =>
  intro w mg fa h KX G hmg
  refine' My.all_mk rfl KX G hmg ?_ ?_ ?_ ?_ ?_ ?_ ?_ ?_ ?_ ?_ ?_ ?_ ?_ ?_ ?_ ?_ ?_ ?_ ?_ ?_ ?_ ?_ ?_ ?_ ?_ ?_ ?_ ?_ ?_ ?_ ?_ ?_ ?_ ?_ ?_ ?_ ?_ ?_ ?_ ?_ ?_ ?_ ?_ ?_ ?_ ?_ ?_ ?_ ?_ ?_ ?_ ?_ ?_ ?_ ?_ ?_ ?q_NoEnds ?_ ?q_NoRow ?_ ?q_StackError ?_ ?_ ?t_NoEnds_NoEnds ?t_NoEnds_NoRow ?t_NoEnds_V ?t_NoRow_NoEnds ?t_NoRow_NoRow ?t_NoRow_V ?x_NoEnds ?x_NoRow
  all_goals try refine' L2.EV.kd ?_ ?_ ?_ ?_
  all_goals try k_is
  (case q_NoEnds => k_exc)
  (case q_NoRow => k_exc)
  (case q_StackError => k_exc)
  (case t_NoEnds_NoEnds => kit_is)
  (case t_NoEnds_NoRow => kit_is)
  (case t_NoEnds_V => kit_is)
  (case t_NoRow_NoEnds => kit_is)
  (case t_NoRow_NoRow => kit_is)
  (case t_NoRow_V => kit_is)
  (case x_NoEnds => refine' ⟨?x1, ?x2, ?x3, ?x4, ?x5⟩; (case x1 => k_is); (case x2 => k_is); (case x3 => k_is); (case x4 => k_is); (case x5 => k_is))
  (case x_NoRow => refine' ⟨?x1, ?x2, ?x3, ?x4, ?x5⟩; (case x1 => k_is); (case x2 => k_is); (case x3 => k_is); (case x4 => k_is); (case x5 => k_is))
