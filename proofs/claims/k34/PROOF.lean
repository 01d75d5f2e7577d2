import PyProof.Rows.All
import Wide.All
import OpenK.AllK
import Wide.FinOn
import Lean
import PyProof.EqAt
import PyProof.EqKinds
import PyProof.TupleCall
import PySem.Challenge.RW_planestacks_k34_sayings_read
set_option linter.all false
def ac:=@List.length_append
def ae:=@PySem.wpAny_bind
def ag:=@List.length_map
def aj:=@Nat.le_refl
def ak:=@decide_eq_false
def ao:=@PySem.wpAny_pure
def aq:=@if_neg
def ar:=@Nat.le_trans
def au:=@if_pos
def av:=@Bool.false_ne_true
def ay:=@decide_eq_true
def az:=@List.size_toArray
def aA:=@List.replicate_succ
def aB:=@List.eq_nil_of_length_eq_zero
def aE:=@List.mem_singleton
def aF:=@List.append_assoc
def aH:=@decide_eq_false_iff_not
def aJ:=@List.map_append
def aM:=@List.mem_cons
def aP:=@List.append_nil
def aQ:=@PySem.Heap.lt_size
def aT:=@List.map_cons
def aV:=@List.mem_cons_of_mem
def aW:=@List.length_dropLast
def ba:=@Int.toNat_natCast
def bc:=@List.length_cons
def be:=@Nat.zero_le
def bg:=@Nat.lt_of_lt_of_le
def bh:=@decide_eq_true_eq
def bi:=@Nat.ne_of_lt
def bj:=@List.flatten_cons
def bn:=@beq_eq_false_iff_ne
def bo:=@List.take_length
def bq:=@Nat.le_of_ble_eq_true
def bv:=@congrArg
def bx:=@Option.some.inj
def bG:=@PySem.W.mg_of
def bH:=@List.mem_append_right
def bI:=@List.length_singleton
def bJ:=@PySem.W.mg_none_of
def bK:=@List.mem_cons_self
def bM:=@List.length_set
def bP:=@List.take_of_length_le
def bV:=@PySem.F.plainAttrs_list
def bX:=@Array.length_toList
def bY:=@List.drop_eq_getElem_cons
def cf:=@PySem.wpAny_newObj_type
def cg:=@List.nodup_cons
def cp:=@PySem.wpAny_holding
def cq:=@PySem.W.kia_one
def cu:=@List.length_take
def cv:=@List.length_drop
def cy:=@List.eq_nil_or_concat
def cz:=@List.concat_eq_append
def cM:=@List.map_map
def cO:=@List.lookup_cons
def cZ:=@List.take_append_drop
def dD:=@Ne.symm
def dF:=@List.length_replicate
def dJ:=@Bool.and_eq_true
def dL:=@Nat.lt_irrefl
def dP:=@Nat.mul_le_mul
def dU:=@PySem.wpAny_call_entry
def dY:=@PySem.Heap.size_push
def eJ:=@PySem.wpAny_truthy_bool
def eL:=@Nat.lt_succ_self
def eV:=@Nat.lt_of_le_of_lt
def eY:=@List.take_zero
def fk:=@PySem.wpAny_field
def fw:=@Prod.ext
def fz:=@List.mem_of_mem_take
def fA:=@List.length_range
def fG:=@PyProof.Rows.slot_tuple_getitem
def fP:=@PySem.mem_of_lookup
def fQ:=@List.length_reverse
def fX:=@PySem.wpAny_of_eq
def fY:=@PySem.wpAny_dictEntries
def fZ:=@PySem.sizeLine_eq
def ga:=@List.not_mem_nil
def gb:=@List.getElem_mem
def gG:=@Int.zero_add
def gO:=@List.sum_append
def gP:=@List.length_nil
def ii:=@PySem.wpAny_typeNameOfWhole_keyiter
def ij:=@Nat.lt_succ_of_lt
def iF:=@PySem.wpAny_passesOwn
def iG:=@PySem.wpAny_loadPart'
def iH:=@PySem.F.slot_dict_keyiterator_next
def jc:=@List.take_append
def jd:=@List.drop_length
def jp:=@List.filterMap_cons
def jq:=@Int.toNat_of_nonneg
def jt:=@PyProof.Rows.subscriptTail_builtinR
def jI:=@PySem.F.type_list_append
def jJ:=@PySem.F.slot_list_append
def jK:=@PySem.F.slot_tuple_iterator_next
def jO:=@Int.natCast_add
def ku:=@List.map_replicate
def lH:=@Nat.succ_mul
def lJ:=@Nat.sub_self
def lK:=@Nat.lt_trans
def lL:=@Nat.le_of_lt
def lM:=@Nat.le_of_eq
def lN:=@List.reverse_cons
def lO:=@List.drop_eq_nil_of_le
def mj:=@PySem.wpAny_mono
def ml:=@PySem.call_meets
def mq:=@PySem.F.type_list_pop
def mr:=@PySem.F.slot_list_pop
def m9:=@beq_iff_eq
def nc:=@List.mem_reverse
def og:=@PySem.SeqAt.canLay_of_shaped
def oh:=@List.replicate_succ'
def oj:=@List.dropLast_concat
def qm:=@List.map_congr_left
def qx:=@PyProof.Rows.callWith_type1
def qy:=@Nat.pow_succ
def qz:=@Nat.ne_of_gt
def qP:=@PySem.wpAny_standAt
def rH:=@List.take_succ
def tI:=@List.foldl_append
def tJ:=@PySem.Heap.SameBut.update
def uv:=@Nat.add_assoc
def uw:=@Bool.or_false
def va:=@PySem.wpAny_pyIter_tuple
def vb:=@PySem.wpAny_Call_Name_kw
def vc:=@Nat.not_lt_of_le
def vd:=@Nat.min_le_right
def xS:=@PySem.F.plainAttrs_str
def xT:=@Nat.zero_add
def xU:=@List.dropWhile_sublist
def xX:=@List.range_succ
def xY:=@List.forIn_cons
def xZ:=@List.foldl_cons
def x8:=@Int.emod_nonneg
def x9:=@Bool.eq_iff_iff
def ya:=@Bool.decide_and
def zr:=@Bool.beq_eq_decide_eq
def B5:=@PySem.wpAny_isInstance
def B6:=@or_false
def B7:=@if_false
def B8:=@Nat.pow_le_pow_right
def B9:=@Nat.mul_le_mul_right
def Ca:=@List.drop_zero
def Cb:=@PySem.Heap.DictOfH.new
def Cc:=@Bool.and_false
def Ce:=@if_true
def Cf:=@eq_comm
def Dv:=@PySem.wpAny_typeOf
def Dw:=@Option.some_ne_none
def Dx:=@List.getElem_of_mem
def Dy:=@PySem.Calls.callWith_builtin
def DB:=@PySem.wpAny_execs_nil
def DC:=@PySem.wpAny_dictEpoch
def DE:=@List.cons.inj
def EU:=@Int.emod_lt_of_pos
def EW:=@Bool.false_eq_true
def Hj:=@PySem.wpAny_setField
def Hk:=@PySem.W.kitx_dict
def Hl:=@Nat.lt_or_ge
def Hm:=@List.map_nil
def Hr:=@List.replicate_append_replicate
def KH:=@beq_self_eq_true
def KI:=@Nat.and_two_pow_sub_one_eq_mod
def KJ:=@List.all_eq_true
def KQ:=@PySem.wpAny_attempt
def KR:=@List.take_append_of_le_length
def KS:=@Int.mul_add
def MF:=@PySem.typeIs_int
def MG:=@PySem.tupleKind_room_in1
def MH:=@List.of_mem_zip
def PF:=@PySem.wpAny_pyIter_list
def PH:=@PySem.seqIndex_neg
def PJ:=@PySem.codeAny_mono
def PL:=@Nat.length_toDigits_le_iff
def PM:=@List.drop_drop
def PN:=@Int.natAbs_mul
def P3:=@List.mem_or_eq_of_mem_set
def RJ:=@PySem.F.type_list_extend
def RK:=@PySem.F.slot_list_extend
def RL:=@PySem.F.args_tuple_mul_2
def RM:=@PySem.F.args_tuple_add_2
def RN:=@Int.mul_assoc
def RO:=@PySem.F.args_dict_keyiterator_next_1
def R6:=@PySem.wpAny_alloc
def R7:=@PySem.seqIndex_of
def R8:=@PySem.F.entry_tuple_mul
def R9:=@PySem.F.entry_tuple_add
def Sa:=@Int.eq_ofNat_of_zero_le
def Sb:=@PySem.F.entry_dict_keyiterator_next
def T2:=@PySem.wpAny_specialOf
def T3:=@PySem.W.cellsFrom_some
def T4:=@PySem.F.slot_tuple_mul
def T5:=@PySem.F.slot_tuple_add
def T6:=@PySem.F.slot_str_split
def T7:=@List.sum_replicate_nat
def T8:=@PySem.F.args_tuple_iterator_next_1
def Um:=@PyProof.Rows.assignInOrder_cons
def Uo:=@PyProof.Rows.Subscript_
def Up:=@PySem.F.slot_int_rmul
def Uq:=@PySem.F.slot_dict_get
def Ur:=@List.filterMap_append
def Us:=@List.dropLast_eq_take
def Ut:=@PySem.F.entry_tuple_iterator_next
def UL:=@PySem.typeIs_str
def UM:=@PySem.isSubtype_stop
def UN:=@Sum.inr.inj
def UO:=@Nat.pow_pos
def UP:=@List.mem_append_left
def UQ:=@PySem.F.slot_range_iterator_next
def UR:=@PySem.Calls.Name_function_global
def UW:=@PySem.wpAny_binaryOp_repeat_ref
def UX:=@PySem.W.shaped_ints
def UY:=@Nat.mul_le_mul_left
def UZ:=@List.length_flatten
local macro_rules|`(tactic|decide)=>`(tactic|decide +kernel)
abbrev qA(x:PySem.Str):Prop:=(x==("__debug__" : PySem.Str))=false
abbrev ve(sc:PySem.Scope)(x:PySem.Str):Prop:=sc.names.lookup x=some .globalImplicit
abbrev Cj(c:PySem.Pos)(es:List PySem.Expr)(E:PySem.Env):Prop:=((PySem.backTo c (PySem.starEach es E)).all (fun x=>!x.1)&&(PySem.backToKw c (PySem.keywordEach [] E)).all (fun x=>x.1.isSome)&&decide (es.length+([]:List PySem.Keyword).length+(if ([]:List PySem.Keyword).isEmpty then 0 else 1)<30))=true
abbrev Ci(e:PySem.Expr)(es:List PySem.Expr)(E:PySem.Env):Prop:=PySem.starEach (e::es) E=(false,PySem.eval e E)::PySem.starEach es E
abbrev rM(c:PySem.Pos)(es:List PySem.Expr)(E:PySem.Env):Prop:=(PySem.backTo c (PySem.starEach es E)).any (·.1)=false
abbrev bW:=PySem.W.Frag
abbrev aS:=List Int
abbrev bN:=List Nat
abbrev ce:=List PySem.Str
abbrev rL:=List PySem.Expr
abbrev fR:=List PySem.Value
abbrev gc:=List (PySem.Addr×PySem.Obj)
abbrev tG:=PySem.Value->PySem.Shared->Prop
abbrev ux:=PySem.Str->Option PySem.Value
set_option Elab.async false
set_option maxRecDepth 100000
namespace L2
open PySem PySem.Spec PyProof.Rows
variable {K:bW}
abbrev tz:=Sum Int Str
def Ax:tz->Value->Bool
 |.inl k,v=>Value.isInt k v
 |.inr x,v=>Value.isStrOf x v
def Ta(w:World):tz->Int
 |.inl k=>hashInt k
 |.inr x=>hashStr w x
def dA:∀{k:tz} {v:Value},Ax k v=true->(∃i t,k=Sum.inl i/\v=Value.int i t)\/(∃x t,k=Sum.inr x/\v=Value.str x t)
 |.inl i,v,h=>by
  obtain⟨t,e⟩:=Value.isInt_shape (k:=i) (v:=v) h
  exact .inl ⟨i,t,rfl,e⟩
 |.inr x,v,h=>by
  obtain⟨t,e⟩:=Value.isStrOf_shape (x:=x) (v:=v) h
  exact .inr ⟨x,t,rfl,e⟩
def qd(x:Str)(t:Tok):Ax (.inr x) (.str x t)=true:=by simp[Ax,Value.isStrOf]
def OK(a b:Int):decide ((Sum.inl a:tz)=Sum.inl b)=(a==b):=by
 by_cases e:a=b
 ·subst e;simp
 ·have h:¬(Sum.inl a:tz)=Sum.inl b:=fun q=>e (Sum.inl.inj q)
  rw[ak h]
  exact(bn.mpr e).symm
def OH(a b:Str):decide ((Sum.inr a:tz)=Sum.inr b)=decide (a=b):=by
 by_cases e:a=b
 ·subst e;simp
 ·have h:¬(Sum.inr a:tz)=Sum.inr b:=fun q=>e (UN q)
  rw[ak h,ak e]
def OJ(a:Int)(b:Str):decide ((Sum.inl a:tz)=Sum.inr b)=false:=ak (fun q=>nomatch q)
def OI(a:Str)(b:Int):decide ((Sum.inr a:tz)=Sum.inl b)=false:=ak (fun q=>nomatch q)
def gu(prog:Program)(w:World):PySem.KeyKind prog w tz where
 is:=Ax
 hash:=Ta w
 inj:=fun v a b ha hb=>by
  rcases dA ha with⟨i,t,rfl,rfl⟩ | ⟨x,t,rfl,rfl⟩
  ·rcases dA hb with⟨j,u,rfl,e⟩ | ⟨y,u,rfl,e⟩
   ·injection e with e1 _;rw[e1]
   ·exact nomatch e
  ·rcases dA hb with⟨j,u,rfl,e⟩ | ⟨y,u,rfl,e⟩
   ·exact nomatch e
   ·injection e with e1 _;rw[e1]
 byValue:=fun k v h=>by
  rcases dA h with⟨i,t,rfl,rfl⟩ | ⟨x,t,rfl,rfl⟩<;>rfl
 pyHash:=fun hv h=>by
  rcases dA hv with⟨i,t,rfl,rfl⟩ | ⟨x,t,rfl,rfl⟩
  ·exact wpAny_pyHash_int h
  ·exact wpAny_pyHash_str h
 eqBool:=fun hu hv h=>by
  rcases dA hu with⟨i,t,rfl,rfl⟩ | ⟨x,t,rfl,rfl⟩
  ·rcases dA hv with⟨j,u,rfl,rfl⟩ | ⟨y,u,rfl,rfl⟩
   ·rw[OK] at h;exact wpAny_eqBool_int h
   ·rw[OJ] at h;exact SeqAt.EqAt.int_str i t y u _ _ _ _ h
  ·rcases dA hv with⟨j,u,rfl,rfl⟩ | ⟨y,u,rfl,rfl⟩
   ·rw[OI] at h;exact SeqAt.EqAt.str_int x t j u _ _ _ _ h
   ·rw[OH] at h;exact wpAny_eqBool_str h
 «strs»:=fun k x t v h=>by
  rcases dA h with⟨i,u,rfl,e⟩ | ⟨y,u,rfl,e⟩
  ·exact nomatch e
  ·injection e with e1 _
   subst e1
   cases v<;>rfl
inductive V where
 |Vs | bl (b:Bool) | int (i:Int) | str (x:Str) | Yg (b:Array UInt8) | flt (b:UInt64) | ref (a:Addr) | ty (n:String)
 deriving DecidableEq
abbrev df:=List V
def RelV:V->Value->Prop
 |.Vs,u=>u=Value.none
 |.bl b,u=>u=Value.bool b
 |.int i,u=>∃t,u=Value.int i t
 |.str x,u=>∃t,u=Value.str x t
 |.Yg b,u=>∃t,u=Value.bytes b t
 |.flt b,u=>∃t,u=Value.float b t
 |.ref a,u=>u=Value.ref a
 |.ty n,u=>u=Value.type n
abbrev Vals:df->fR->Prop:=Paired RelV
def Vals.length(r:Vals xs us):xs.length=us.length:=Paired.length r
def Vals.get:∀{xs:df} {us:fR} {i:Nat} {x:V},Vals xs us->xs[i]?=some x->∃u,us[i]?=some u/\RelV x u
 |_,_,_,_,.nil,e=>by simp at e
 |_,_,0,_,.cons r _,e=>by simp at e;subst e;exact⟨_,rfl,r⟩
 |_,_,i+1,x,.cons _ t,e=>by
  obtain⟨u,h1,h2⟩:=Vals.get (i:=i) (x:=x) t (by simpa using e)
  exact⟨u,by simpa using h1,h2⟩
def Vals.set(r:RelV x u):∀{xs:df} {us:fR} (i:Nat),Vals xs us->Vals (xs.set i x) (us.set i u)
 |_,_,_,.nil=>.nil
 |_,_,0,.cons _ t=>.cons r t
 |_,_,i+1,.cons q t=>.cons q (Vals.set r i t)
def Vals.append:∀{xs ys:df} {us ws:fR},Vals xs us->Vals ys ws->Vals (xs++ys) (us++ws)
 |_,_,_,_,.nil,s=>s
 |_,_,_,_,.cons r t,s=>.cons r (Vals.append t s)
def Vals.take:∀{xs:df} {us:fR} (n:Nat),Vals xs us->Vals (xs.take n) (us.take n)
 |_,_,0,_=>.nil
 |_,_,_+1,.nil=>.nil
 |_,_,n+1,.cons r t=>.cons r (Vals.take n t)
def Vals.drop:∀{xs:df} {us:fR} (n:Nat),Vals xs us->Vals (xs.drop n) (us.drop n)
 |_,_,0,r=>r
 |_,_,_+1,.nil=>.nil
 |_,_,n+1,.cons _ t=>Vals.drop n t
def X6:Option V->Option Value->Prop
 |some v,some u=>RelV v u
 |none,none=>True
 |_,_=>False
def KV{κ:Type}:List (κ×V)->List (κ×Value)->Prop:=Paired fun(p:κ×V) (q:κ×Value)=>p.1=q.1/\RelV p.2 q.2
def kV:tz->V
 |.inl i=>.int i
 |.inr x=>.str x
inductive HO where
 |lst (xs:df)
 |tup (xs:df)
 |dK (kvs:List (tz×V)) | dT (kvs:List (List tz×V))
 |set (S:Int->Bool) (n:Nat)
 |ins (C dx:Addr) (fs:List (Str×V))
 |own (x:Addr)
 |xd (fs:List (Str×V))
 |met (f x:Addr)
 |rng (lo hi:Int)
 |WA (o:Obj) (u:HO)
 |Zb (ps:Array Value)
 |ext (φ:Heap->Prop)
abbrev Hp:=Addr->Option HO
def cE(H:Hp)(a:Addr)(o:HO):Hp:=fun b=>if b=a then some o else H b
def aG:cE H a o a=some o:=by unfold cE;rw[au rfl]
def aI{a b:Addr}(h:b≠a):cE H a o b=H b:=by unfold cE;rw[aq h]
def E1{u:HO}:cE (cE H a o) a u=cE H a u:=by
 funext b;unfold cE;split<;>rfl
def dv{H:Hp}{a b:Addr}(h:H a=some o)(h':H b=none):a≠b:=by
 intro e;subst e;rw[h] at h';cases h'
section
variable (P:Program)(w:World)
def Ve(H:Hp)(h:Heap)(a:Addr):HO->Prop
 |.lst xs=>xs.length<=sizeLine/\∃(its:fR) (n:Nat),Vals xs its/\h.get? a=some { cls:=.type "list",data:=.seq its.toArray n }
 |.tup xs=>xs.length<=sizeLine/\∃its:fR,Vals xs its/\IsTup h a its.toArray
 |.dK kvs=>kvs.length<=sizeLine/\(a==sysModules)=false/\∃vs,KV kvs vs/\h.DictOf (gu P w) a vs
 |.dT kvs=>kvs.length<=sizeLine/\(a==sysModules)=false/\∃xs:List (List tz×Addr×Value),
   Paired (fun(p:List tz×V) (q:List tz×Addr×Value)=>p.1=q.1/\H q.2.1=some (.tup (p.1.map kV))/\RelV p.2 q.2.2) kvs xs /\
   ∃o es ep,h.get? a=some o/\o.ExactDict/\o.data=.dict es ep/\es.toList=xs.map (entryOfKey (tupleKind (gu P w)))/\(xs.map (·.1)).Nodup
 |.set S n=>h.SetOf (intKind P w) a S n
 |.ins C dx fs=>H dx=some (.own a)/\fs.length<=1000/\dx≠a/\h.get? a=some (PySem.W.instObj C dx) /\
   ∃mA,h.Ns1 dx mA/\(∀f,X6 (fs.lookup f) (mA f))/\PySem.Within mA (fs.map (·.1))
 |.own _=>∃o,h.get? a=some o
 |.xd fs=>∃mA,h.Ns1 a mA/\∀f,X6 (fs.lookup f) (mA f)
 |.rng lo hi=>∃t u v,h.get? a=some { cls:=.type "range",data:=.fields #[.int lo t,.int hi u,.int 1 v] }
 |.WA o u=>h.get? a=some o/\Ve H h a u
 |.Zb ps=>h.get? a=some { cls:=.none,data:=.fields ps }
 |.met f x=>h.get? a=some (PySem.W.methodObj (.ref f) (.ref x))
 |.ext φ=>φ h/\(∃o,h.get? a=some o)/\∀h1 h2:Heap,φ h1->(∀o,h1.get? a=some o->h2.get? a=some o)->φ h2
def Xf(H:Hp)(h:Heap):Prop:=∀a o,H a=some o->Ve P w H h a o
end
def Ve.lt(x:Ve P w H h a o):a<h.objs.size:=by
 cases o with
 |lst xs=>obtain⟨_,_,_,_,e⟩:=x;exact aQ e
 |tup xs=>obtain⟨_,_,_,p⟩:=x;exact p.lt
 |dK kvs=>obtain⟨_,_,_,_,o,_,_,e,_⟩:=x;exact aQ e
 |dT kvs=>obtain⟨_,_,_,_,o,_,_,e,_⟩:=x;exact aQ e
 |set S n=>obtain⟨o,_,_,_,e,_⟩:=x;exact aQ e
 |ins C dx fs=>obtain⟨_,_,_,e,_⟩:=x;exact aQ e
 |own y=>obtain⟨_,e⟩:=x;exact aQ e
 |xd fs=>obtain⟨_,⟨_,_,_,e,_⟩,_⟩:=x;exact aQ e
 |rng lo hi=>obtain⟨_,_,_,e⟩:=x;exact aQ e
 |WA ob u=>obtain⟨e,_⟩:=x;exact aQ e
 |Zb ps=>exact aQ (show h.get? a=some _ from x)
 |met f y=>exact aQ (show h.get? a=some _ from x)
 |ext φ=>obtain⟨_,⟨_,e⟩,_⟩:=x;exact aQ e
def Paired.mapP{α β:Type}{F G:α->β->Prop}:∀{l₁:List α} {l₂:List β},Paired F l₁ l₂->(∀a b,F a b->G a b)->Paired G l₁ l₂
 |_,_,.nil,_=>.nil
 |_,_,.cons r t,f=>.cons (f _ _ r) (Paired.mapP t f)
def Ve.XW{H':Hp}{h':Heap}(x:Ve P w H h a o)(k:∀b u,(b=a\/H b=some (.own a))->h.get? b=some u->h'.get? b=some u)(ho:∀b,H b=some (.own a)->H' b=some (.own a))(ht:∀b xs,H b=some (.tup xs)->H' b=some (.tup xs)):Ve P w H' h' a o:=by
 induction o with
 |lst xs=>obtain⟨z,its,n,r,e⟩:=x;exact⟨z,its,n,r,k _ _ (.inl rfl) e⟩
 |tup xs=>obtain⟨z,its,r,ob,e,c⟩:=x;exact⟨z,its,r,ob,k _ _ (.inl rfl) e,c⟩
 |dK kvs=>obtain⟨z,y,vs,r,ob,es,ep,e,c⟩:=x;exact⟨z,y,vs,r,ob,es,ep,k _ _ (.inl rfl) e,c⟩
 |dT kvs=>
  obtain⟨z,y,xs,r,ob,es,ep,e,c⟩:=x
  exact⟨z,y,xs,Paired.mapP r fun p q z=>⟨z.1,ht _ _ z.2.1,z.2.2⟩,ob,es,ep,k _ _ (.inl rfl) e,c⟩
 |set S n=>obtain⟨ob,es,ep,t,e,c⟩:=x;exact⟨ob,es,ep,t,k _ _ (.inl rfl) e,c⟩
 |ins C dx fs=>
  obtain⟨d,z,ne,e,mA,⟨od,es,ep,e2,c⟩,r⟩:=x
  exact⟨ho _ d,z,ne,k _ _ (.inl rfl) e,mA,⟨od,es,ep,k _ _ (.inr d) e2,c⟩,r⟩
 |own y=>obtain⟨ob,e⟩:=x;exact⟨ob,k _ _ (.inl rfl) e⟩
 |xd fs=>obtain⟨mA,⟨od,es,ep,e,c⟩,r⟩:=x;exact⟨mA,⟨od,es,ep,k _ _ (.inl rfl) e,c⟩,r⟩
 |rng lo hi=>obtain⟨t,u,v,e⟩:=x;exact⟨t,u,v,k _ _ (.inl rfl) e⟩
 |WA ob u ih=>obtain⟨e,q⟩:=x;exact⟨k _ _ (.inl rfl) e,ih q⟩
 |Zb ps=>
  have e:h.get? a=some { cls:=.none,data:=.fields ps }:=x
  show h'.get? a=some { cls:=.none,data:=.fields ps }
  exact k a _ (.inl rfl) e
 |met f y=>
  have e:h.get? a=some (PySem.W.methodObj (.ref f) (.ref y)):=x
  show h'.get? a=some (PySem.W.methodObj (.ref f) (.ref y))
  exact k a _ (.inl rfl) e
 |ext φ=>obtain⟨p,⟨o,e⟩,st⟩:=x;exact⟨st _ _ p fun o q=>k _ _ (.inl rfl) q,⟨o,k _ _ (.inl rfl) e⟩,st⟩
def Xf.lt{a:Addr}(x:Xf P w H h)(e:H a=some o):a<h.objs.size:=(x a o e).lt
def Xf.fresh{a:Addr}(x:Xf P w H h)(e:h.objs.size<=a):H a=none:=by
 cases q:H a with
 |none=>rfl
 |some u=>exact absurd (bg (x.lt q) e) (dL _)
def Xf.kept{h':Heap}(x:Xf P w H h)(k:∀b u,h.get? b=some u->h'.get? b=some u):Xf P w H h':=fun a o e=>
 (x a o e).XW (fun b u _ q=>k b u q) (fun _ q=>q) fun _ _ q=>q
def Xf.laid{h':Heap}{a:Addr}(x:Xf P w H h)(k:∀b u,h.get? b=some u->h'.get? b=some u)(hp:h.objs.size<=a)(new:Ve P w (cE H a o) h' a o):Xf P w (cE H a o) h':=fun b u e=>by
 have hn:=x.fresh hp
 by_cases hb:b=a
 ·subst hb;rw[aG] at e;cases e;exact new
 ·rw[aI hb] at e
  exact(x b u e).XW (fun c v _ q=>k c v q) (fun c q=>by rw[aI (dv q hn)];exact q) fun c xs q=>by rw[aI (dv q hn)];exact q
def Rd(H:Hp)(a:Addr)(u:HO):Prop:=H a=some u\/∃o,H a=some (.WA o u)
def Rd.ok(r:Rd H a u)(x:Xf P w H h):Ve P w H h a u:=by
 rcases r with r | ⟨o,r⟩
 ·exact x a u r
 ·obtain⟨_,q⟩:=x a _ r
  exact q
def R0:Option HO->Prop
 |some (.lst _)=>True
 |some (.dK _)=>True
 |some (.dT _)=>True
 |some (.set _ _)=>True
 |some (.ins _ _ _)=>True
 |some (.ext _)=>True
 |_=>False
def Xf.write{h':Heap}{e:Addr}(ok:Xf P w H h)(mu:R0 (H x))(he:e=x\/H e=some (.own x))(k:∀b u,b≠e->h.get? b=some u->h'.get? b=some u)(heo:∃u,h'.get? e=some u)(new:Ve P w (cE H x o') h' x o'):Xf P w (cE H x o') h':=fun b u q=>by
 have Yk:∀c y,H c=some (.own y)->c≠x:=fun c y r z=>by subst z;rw[r] at mu;exact mu
 have ntup:∀c xs,H c=some (.tup xs)->c≠x:=fun c xs r z=>by subst z;rw[r] at mu;exact mu
 by_cases hb:b=x
 ·subst hb;rw[aG] at q;cases q;exact new
 ·rw[aI hb] at q
  by_cases hbe:b=e
  ·have q':H b=some (.own x):=by
    rcases he with z | z
    ·exact absurd (hbe.trans z) hb
    ·rw[hbe];exact z
   rw[q] at q';cases q'
   obtain⟨v,hv⟩:=heo
   exact⟨v,by rw[hbe];exact hv⟩
  ·refine(ok b u q).XW (fun c v hc r=>k c v ?_ r) (fun c r=>by rw[aI (Yk c b r)];exact r) fun c xs r=>by rw[aI (ntup c xs r)];exact r
   rcases hc with rfl | hc
   ·exact hbe
   ·rintro rfl
    rcases he with z | z
    ·exact Yk c b hc z
    ·rw[hc] at z;cases z;exact hb rfl
structure Un(fs ex:List Addr)(H H':Hp)(h h':Heap):Prop where
 keep:∀b o,h.get? b=some o->H b=none->b∉fs->b∉ex->h'.get? b=some o
 slot:∀b o,h.get? b=some o->H b=none->b∈fs->b∉ex->∃sl,h'.get? b=some { o with slots:=sl }
 free:∀b o,h.get? b=some o->H b=none->b∉ex->H' b=none
 there:∀b o,h.get? b=some o->b∉ex->∃o',h'.get? b=some o'
 Xu:∀b xs,H b=some (.tup xs)->H' b=some (.tup xs)
 Xd:∀b o u,H b=some (.WA o u)->H' b=some (.WA o u)
 Xv:∀b ps,H b=some (.Zb ps)->∃more,H' b=some (.Zb (ps++more))
def Un.any{b:Addr}(u:Un fs ex H H1 h h1)(q:h.get? b=some ob)(n:H b=none)(hx:b∉ex):∃sl,h1.get? b=some { ob with slots:=sl }:=by
 by_cases hb:b∈fs
 ·exact u.slot b ob q n hb hx
 ·exact⟨ob.slots,u.keep b ob q n hb hx⟩
def Un.kept{h:Heap}{h':Heap}(k:∀b u,h.get? b=some u->h'.get? b=some u):Un fs ex H H h h':=
 ⟨fun b ob q _ _ _=>k b ob q,fun b ob q _ _ _=>⟨ob.slots,k b ob q⟩,fun _ _ _ n _=>n,fun b ob q _=>⟨ob,k b ob q⟩,fun _ _ q=>q,fun _ _ _ q=>q,fun _ ps q=>⟨#[],by rw[q];simp⟩⟩
def Un.refl:Un fs ex H H h h:=Un.kept fun _ _ q=>q
def Un.laid{H:Hp}{h:Heap}{h':Heap}{a:Addr}(k:∀b u,h.get? b=some u->h'.get? b=some u)(hp:h.objs.size<=a)(hn:H a=none):Un fs ex H (cE H a o) h h' where
 keep:=fun b u q _ _ _=>k b u q
 slot:=fun b u q _ _ _=>⟨u.slots,k b u q⟩
 free:=fun b u q n _=>by rw[aI (bi (bg (aQ q) hp))];exact n
 there:=fun b u q _=>⟨u,k b u q⟩
 Xu:=fun b xs q=>by rw[aI (dv q hn)];exact q
 Xd:=fun b u xs q=>by rw[aI (dv q hn)];exact q
 Xv:=fun b ps q=>⟨#[],by rw[aI (dv q hn),q];simp⟩
def Un.write{H:Hp}{h:Heap}{h':Heap}{e:Addr}(mu:R0 (H x))(he:e=x\/H e=some (.own x))(k:∀b u,b≠e->h.get? b=some u->h'.get? b=some u)(heo:∃u,h'.get? e=some u):Un fs ex H (cE H x o) h h':=by
 have hx:∀b,H b=none->b≠x:=fun b n z=>by subst z;rw[n] at mu;exact mu
 have hb:∀b,H b=none->b≠e:=fun b n z=>by
  subst z
  rcases he with r | r
  ·exact hx b n r
  ·rw[n] at r;cases r
 have hm:∀b u,H b=some u->¬R0 (some u)->b≠x:=fun b u q nm z=>by subst z;rw[q] at mu;exact nm mu
 refine⟨fun b u q n _ _=>k b u (hb b n) q,fun b u q n _ _=>⟨u.slots,k b u (hb b n) q⟩,fun b u q n _=>by rw[aI (hx b n)];exact n,fun b u q _=>?_,
  fun b xs q=>by rw[aI (hm b _ q fun z=>z)];exact q,fun b u xs q=>by rw[aI (hm b _ q fun z=>z)];exact q,fun b ps q=>⟨#[],by rw[aI (hm b _ q fun z=>z),q];simp⟩⟩
 by_cases hbe:b=e
 ·subst hbe;exact heo
 ·exact⟨u,k b u hbe q⟩
def RQ(h:Heap)(H:Hp):List Addr:=(List.range h.objs.size).filter fun a=>(H a).isSome
def yz(h:Heap)(H:Hp):Heap:=PySem.W.hideAll h (RQ h H)
def GY(h:Heap)(H:Hp):(yz h H).objs.size=h.objs.size:=PySem.W.hideAll_size _ _
def Jx{h:Heap}{H:Hp}{b:Addr}(e:h.get? b=some o)(n:H b=none):(yz h H).get? b=some o:=
 PySem.W.hideAll_get _ e fun hm=>by
  have q:(H b).isSome=true:=(List.mem_filter.mp hm).2
  rw[n] at q;simp at q
def LL{b:Addr}(e:(yz h H).get? b=some o):h.get? b=some o/\H b=none:=by
 have e':h.get? b=some o:=PySem.W.of_hideAll (RQ h H) e
 refine⟨e',?_⟩
 cases q:H b with
 |none=>rfl
 |some x=>
  have hm:b∈RQ h H:=List.mem_filter.mpr ⟨List.mem_range.mpr (aQ e'),by simp[q]⟩
  have z:(yz h H).get? b=none:=PySem.W.hideAll_none (RQ h H) hm
  rw[z] at e;cases e
def MC(g h:Heap)(L:Addr):gc:=(List.range h.objs.size).filterMap fun a=>if a=L\/(g.get? a).isSome=true then none else (h.get? a).map fun o=>(a,o)
def bF(g h:Heap)(L d:Addr):gc:=(MC g h L).filter fun p=>decide (p.1≠d)
structure Mod(K:bW)(mg:ux)(base:Heap):Prop where
 Y0:K.In base
 glob:base.Ns mainGlobals mg
 blt:∃mb,base.Ns builtinsNs mb/\∀x:Str,x ≠ "__name__" -> mb x=bootBuiltins x
 nolimit:base.NoLimit
 seer:base.NoSeer
structure Cx where
 prog:Program
 w:World
 K:bW
 mg:Str->Option Value
 base:Heap
 A:Around
 N:ce
 s₀:Shared
 H₀:Hp
 env:Env
 outer:List Env
 stack:List Env
 ex:List Addr
 fn:Str->Bool
 calm:Bool
 pn:gc
 xe:Value->Shared->Prop
abbrev dZ(X:Cx){α:Type}(m:Sem α)(Q:α->Shared->Prop)(E:Value->Shared->Prop)(s:Shared):Prop:=wpAny (model X.prog X.w) X.A m Q E s
def mn(l:List Env):List Addr:=l.filterMap (·.frame)
abbrev Cx.fs(X:Cx):List Addr:=mn X.outer
def Rq(sc:Scope)(x:Str):Prop:=sc.names.lookup x=some .local\/sc.names.lookup x=some .cell\/sc.names.lookup x=some .free
def Pw(sc:Scope)(x:Str):Prop:=sc.names.lookup x=some .local\/sc.names.lookup x=some .cell
def TU(env:Env)(h:Heap)(m:ux)(x:Str)(u:Value):Prop:=
 (env.kindOf x=some .local/\m x=some u)\/((env.kindOf x=some .cell\/env.kindOf x=some .free)/\∃c,env.cells.lookup x=some c/\h.IsCell c (some u))
structure Cx.Ok(X:Cx):Prop where
 mod:Mod X.K X.mg X.base
 kind:X.env.scope.kind=.function
 glob:X.env.globals=mainGlobals
 blt:X.env.builtins=builtinsNs
 above:X.s₀.heap.objs.size<=X.env.locals
 inj:∀x y c,X.env.cells.lookup x=some c->X.env.cells.lookup y=some c->x=y
 has:∀x,(X.env.kindOf x=some .cell\/X.env.kindOf x=some .free)->∃c,X.env.cells.lookup x=some c
 cab:∀x c,X.fn x=true->X.env.cells.lookup x=some c->X.s₀.heap.objs.size<=c
 hd:X.calm=true->X.A.handled=none
 frames:X.A.frames=some X.stack
 V3:X.stack=X.outer\/(X.stack=X.env::X.outer/\X.env.frame=some X.env.locals)
 exf:∀b∈X.ex,b≠X.env.locals/\∀x c,X.env.cells.lookup x=some c->c≠b
 bs:∀b o,X.base.get? b=some o->X.s₀.heap.get? b=some o/\X.H₀ b=none
 Zy:X.base.objs.size<=X.s₀.heap.objs.size
 YE:∀b o,X.base.get? b=some o->b∉X.ex
 YO:∀b∈X.ex,b∉X.fs
 Xc:X.s₀.heap.FunFrames X.base X.outer
 frf:∀b∈X.fs,X.H₀ b=none
structure Inv(X:Cx)(pins:gc)(σ:List (Option V))(H:Hp)(s:Shared):Prop where
 ok:X.Ok
 os:s.os=X.s₀.os
 bare:AllBare s.gens
 base:Un X.fs X.ex X.H₀ H X.s₀.heap s.heap
 loc:∃m,s.heap.Ns X.env.locals m/\∀(i:Nat) (x:Str) (v:V),X.N[i]?=some x->σ[i]?=some (some v)->Rq X.env.scope x->∃u,RelV v u/\TU X.env s.heap m x u
 cell:∀x c,X.env.cells.lookup x=some c->∃v,s.heap.IsCell c v
 free:H X.env.locals=none
 Wv:∀x c,X.env.cells.lookup x=some c->H c=none
 pin:∀p∈X.pn++pins,s.heap.get? p.1=some p.2/\H p.1=none/\p.1≠X.env.locals/\p.1∉X.fs/\∀v,p.2.data ≠ .cell v
 Vl:Xf X.prog X.w H s.heap
 len:σ.length=X.N.length
section
variable {σ:List (Option V)}
def Cx.Ok.nofr{b:Addr}{X:Cx}(ok:X.Ok)(e:X.base.get? b=some o):b∉X.fs:=fun hb=>by
 have:=(ok.Xc.mem hb).1
 rw[e] at this;cases this
def Inv.bs(I:Inv X pins σ H s):∀b o,X.base.get? b=some o->s.heap.get? b=some o/\H b=none:=fun b o e=>
 ⟨I.base.keep b o (I.ok.bs b o e).1 (I.ok.bs b o e).2 (I.ok.nofr e) (I.ok.YE b o e),I.base.free b o (I.ok.bs b o e).1 (I.ok.bs b o e).2 (I.ok.YE b o e)⟩
def Inv.bk(I:Inv X pins σ H s):∀b o,X.base.get? b=some o->s.heap.get? b=some o:=fun b o e=>(I.bs b o e).1
def Inv.mod(I:Inv X pins σ H s):Mod X.K X.mg X.base:=I.ok.mod
def Inv.WM(I:Inv X pins σ H s):X.K.In s.heap:=I.ok.mod.Y0.keeps I.bk
def Inv.nolimit(I:Inv X pins σ H s):s.heap.NoLimit:=I.ok.mod.nolimit.keeps I.bk
def Inv.lt(I:Inv X pins σ H s):X.env.locals<s.heap.objs.size:=let ⟨_,hn,_⟩:=I.loc;hn.lt
def Inv.sz(I:Inv X pins σ H s):X.s₀.heap.objs.size<=s.heap.objs.size:=ar I.ok.above (lL I.lt)
def Inv.nofs{a:Addr}(I:Inv X pins σ H s)(h:s.heap.objs.size<=a):a∉X.fs:=fun hb=>by
 obtain⟨_,o,ho,_⟩:=I.ok.Xc.mem hb
 exact absurd (bg (aQ ho) (ar I.sz h)) (dL _)
def Inv.cne(I:Inv X pins σ H s):∀x c,X.env.cells.lookup x=some c->c≠X.env.locals:=fun x c e z=>by
 obtain⟨v,o,ho,hd⟩:=I.cell x c e
 obtain⟨m,⟨o',es,ep,Z3,Ye,_⟩,_⟩:=I.loc
 rw[z,Z3] at ho;cases ho;rw[Ye] at hd;cases hd
def Inv.Xc(I:Inv X pins σ H s):s.heap.FunFrames X.base X.outer:=by
 have all:∀(l:List Env),(∀b∈mn l,b∈X.fs)->X.s₀.heap.FunFrames X.base l->s.heap.FunFrames X.base l:=by
  intro l
  induction l with
  |nil=>intro _ _;trivial
  |cons env r ih=>
   intro hs hl
   obtain⟨hk,⟨L,o,hf,hn,ho,hd⟩,hr⟩:=hl
   have hL:L∈X.fs:=hs L (by unfold mn;rw[jp,hf];exact bK)
   obtain⟨sl,e⟩:=I.base.slot L o ho (I.ok.frf L hL) hL fun z=>I.ok.YO L z hL
   exact⟨hk,⟨L,_,hf,hn,e,hd⟩,ih (fun b hb=>hs b (by unfold mn;rw[jp,hf];exact aV _ hb)) hr⟩
 exact all X.outer (fun _ hb=>hb) I.ok.Xc
def Inv.stack(I:Inv X pins σ H s):s.heap.FunFrames X.base X.stack:=by
 rcases I.ok.V3 with e | ⟨e,hf⟩
 ·rw[e];exact I.Xc
 ·rw[e]
  obtain⟨m,hn,_⟩:=I.loc
  refine .cons (by rw[I.ok.kind];decide) hf hn ?_ I.Xc
  exact Heap.get?_none_of_le (ar I.ok.Zy I.ok.above)
def Inv.XU(I:Inv X pins σ H s):∀b∈mn X.stack,b∈X.env.locals::X.fs:=fun b hb=>by
 rcases I.ok.V3 with e | ⟨e,hf⟩
 ·rw[e] at hb;exact aV _ hb
 ·rw[e] at hb
  unfold mn at hb
  rw[jp,hf] at hb
  exact hb
def Inv.Ya(I:Inv X pins σ H s):∀b∈mn X.stack,H b=none:=fun b hb=>by
 rcases aM.mp (I.XU b hb) with e | hb
 ·rw[e];exact I.free
 ·obtain⟨_,o,ho,_⟩:=I.ok.Xc.mem hb
  exact I.base.free b o ho (I.ok.frf b hb) fun z=>I.ok.YO b z hb
def Inv.step{t':Nat}{ch:List Addr}{H':Hp}{h':Heap}{g':Array GenState}{d':Drawn}(I:Inv X pins σ H s)(Y3:∀b∈ch,(b∈X.ex\/X.s₀.heap.objs.size<=b)/\b≠X.env.locals/\(∀x c,X.env.cells.lookup x=some c->c≠b)/\∀p∈X.pn++pins,p.1≠b)(keep:∀b o,b≠X.env.locals->b∉X.fs->b∉ch->s.heap.get? b=some o->H b=none->h'.get? b=some o)(slot:∀b o,b≠X.env.locals->b∈X.fs->b∉ch->s.heap.get? b=some o->H b=none->∃sl,h'.get? b=some { o with slots:=sl })(free:∀b o,b∉ch->s.heap.get? b=some o->H b=none->H' b=none)(there:∀b o,b∉ch->s.heap.get? b=some o->∃o',h'.get? b=some o')(Xu:∀b xs,H b=some (.tup xs)->H' b=some (.tup xs))(Xd:∀b o u,H b=some (.WA o u)->H' b=some (.WA o u))(Xv:∀b ps,H b=some (.Zb ps)->∃more,H' b=some (.Zb (ps++more)))(ns:∀m,s.heap.Ns X.env.locals m->h'.Ns X.env.locals m)(Vl:Xf X.prog X.w H' h')(hg:AllBare g'):
  Inv X pins σ H' { s with heap:=h',gens:=g',drawn:=d',toks:=t' }:=by
 have neL:∀b o,X.s₀.heap.get? b=some o->b≠X.env.locals:=fun b o e=>bi (bg (aQ e) I.ok.above)
 have neC:∀b o,X.s₀.heap.get? b=some o->b∉X.ex->b∉ch:=fun b o e hx hb=>by
  rcases(Y3 b hb).1 with z | z
  ·exact hx z
  ·exact absurd (bg (aQ e) z) (dL _)
 have cellK:∀x c,X.env.cells.lookup x=some c->∀v,s.heap.IsCell c v->h'.IsCell c v:=fun x c e v ⟨o,ho,hd⟩=>by
  have nch:c∉ch:=fun z=>(Y3 c z).2.2.1 x c e rfl
  by_cases hc:c∈X.fs
  ·obtain⟨sl,q⟩:=slot c o (I.cne x c e) hc nch ho (I.Wv x c e)
   exact⟨_,q,hd⟩
  ·exact⟨o,keep c o (I.cne x c e) hc nch ho (I.Wv x c e),hd⟩
 refine⟨I.ok,I.os,hg,⟨fun b o e n hb hx=>?_,fun b o e n hb hx=>?_,fun b o e n hx=>?_,fun b o e hx=>?_,fun b xs e=>Xu b xs (I.base.Xu b xs e),fun b o xs e=>Xd b o xs (I.base.Xd b o xs e),fun b ps e=>?_⟩,?_,fun x c e=>?_,?_,fun x c e=>?_,fun p hp=>?_,Vl,I.len⟩
 ·exact keep b o (neL b o e) hb (neC b o e hx) (I.base.keep b o e n hb hx) (I.base.free b o e n hx)
 ·obtain⟨sl,e1⟩:=I.base.slot b o e n hb hx
  obtain⟨sl',e2⟩:=slot b _ (neL b o e) hb (neC b o e hx) e1 (I.base.free b o e n hx)
  exact⟨sl',e2⟩
 ·obtain⟨o',e1⟩:=I.base.there b o e hx
  exact free b o' (neC b o e hx) e1 (I.base.free b o e n hx)
 ·obtain⟨o',e1⟩:=I.base.there b o e hx
  exact there b o' (neC b o e hx) e1
 ·obtain⟨m1,e1⟩:=I.base.Xv b ps e
  obtain⟨m2,e2⟩:=Xv b _ e1
  exact⟨m1++m2,by rw[e2,Array.append_assoc]⟩
 ·obtain⟨m,hn,hl⟩:=I.loc
  refine⟨m,ns m hn,fun i x v e1 e2 e3=>?_⟩
  obtain⟨u,r,l⟩:=hl i x v e1 e2 e3
  refine⟨u,r,?_⟩
  rcases l with l | ⟨k,c,e,z⟩
  ·exact .inl l
  ·exact .inr ⟨k,c,e,cellK x c e _ z⟩
 ·obtain⟨v,z⟩:=I.cell x c e
  exact⟨v,cellK x c e v z⟩
 ·obtain⟨m,⟨o,_,_,ho,_⟩,_⟩:=I.loc
  exact free _ o (fun z=>(Y3 _ z).2.1 rfl) ho I.free
 ·obtain⟨v,o,ho,hd⟩:=I.cell x c e
  exact free c o (fun z=>(Y3 c z).2.2.1 x c e rfl) ho (I.Wv x c e)
 ·obtain⟨e,n,ne,nf,d⟩:=I.pin p hp
  have nch:p.1∉ch:=fun z=>(Y3 p.1 z).2.2.2 p hp rfl
  exact⟨keep p.1 p.2 ne nf nch e n,free p.1 p.2 nch e n,ne,nf,d⟩
def Inv.un{t':Nat}(I:Inv X pins σ H s)(u:Un X.fs [] H H' s.heap h')(Vl:Xf X.prog X.w H' h'):Inv X pins σ H' { s with heap:=h',toks:=t' }:=by
 obtain⟨m,⟨o,es,ep,ho,r⟩,_⟩:=id I.loc
 obtain⟨sl,hL⟩:=u.any ho I.free (by simp)
 exact I.step (g':=s.gens) (d':=s.drawn) (ch:=[]) (fun _ z=>nomatch z) (fun b o _ hb _ e n=>u.keep b o e n hb (by simp)) (fun b o _ hb _ e n=>u.slot b o e n hb (by simp)) (fun b o _ e n=>u.free b o e n (by simp)) (fun b o _ e=>u.there b o e (by simp)) u.Xu u.Xd u.Xv (fun m' hm=>by
  obtain⟨o',es',ep',Z3,r'⟩:=hm
  rw[ho] at Z3;cases Z3
  exact⟨_,es',ep',hL,r'⟩) Vl I.bare
def Inv.call{t':Nat}{g':Array GenState}{d':Drawn}(I:Inv X pins σ H s)(u:Un (mn X.stack) ch H H' s.heap h')(Vl:Xf X.prog X.w H' h')(hg:AllBare g')(Y3:∀b∈ch,(b∈X.ex\/X.s₀.heap.objs.size<=b)/\b≠X.env.locals/\(∀x c,X.env.cells.lookup x=some c->c≠b)/\∀p∈X.pn++pins,p.1≠b):
  Inv X pins σ H' { s with heap:=h',gens:=g',drawn:=d',toks:=t' }:=by
 obtain⟨m,⟨o,es,ep,ho,r⟩,_⟩:=id I.loc
 obtain⟨sl,hL⟩:=u.any ho I.free fun z=>(Y3 _ z).2.1 rfl
 exact I.step (ch:=ch) Y3 (fun b o hL hb hc e n=>u.keep b o e n (fun z=>(aM.mp (I.XU b z)).elim hL hb) hc) (fun b o _ _ hc e n=>u.any e n hc) (fun b o hc e n=>u.free b o e n hc) (fun b o hc e=>u.there b o e hc) u.Xu u.Xd u.Xv (fun m' hm=>by
  obtain⟨o',es',ep',Z3,r'⟩:=hm
  rw[ho] at Z3;cases Z3
  exact⟨_,es',ep',hL,r'⟩) Vl hg
def Inv.turned{t':Nat}{it:Addr}{h':Heap}(I:Inv X pins σ H s)(k:∀b o,b≠it->s.heap.get? b=some o->h'.get? b=some o)(hn:H it=none)(hL:it≠X.env.locals)(h1:it∈X.ex\/X.s₀.heap.objs.size<=it)(h2:∀x c,X.env.cells.lookup x=some c->c≠it)(h3:∀p∈X.pn++pins,p.1≠it):Inv X pins σ H { s with heap:=h',toks:=t' }:=by
 have nit:∀b u,H b=some u->b≠it:=fun b u e z=>by rw[z,hn] at e;cases e
 refine I.step (g':=s.gens) (d':=s.drawn) (ch:=[it]) (fun b hb=>?_) (fun b o _ _ hc e _=>k b o (fun z=>hc (by simp[z])) e) (fun b o _ _ hc e _=>⟨o.slots,k b o (fun z=>hc (by simp[z])) e⟩) (fun _ _ _ _ n=>n)
  (fun b o hc e=>⟨o,k b o (fun z=>hc (by simp[z])) e⟩) (fun _ _ e=>e) (fun _ _ _ e=>e) (fun b ps e=>⟨#[],by rw[e];simp⟩) (fun m hm=>?_) (fun b u e=>?_) I.bare
 ·have e:b=it:=by simpa using hb
  subst e
  exact⟨h1,hL,h2,h3⟩
 ·obtain⟨o,es,ep,ho,r⟩:=hm
  exact⟨o,es,ep,k _ o (dD hL) ho,r⟩
 ·refine(I.Vl b u e).XW (fun c v hc q=>k c v ?_ q) (fun _ q=>q) fun _ _ q=>q
  rcases hc with z | z
  ·rw[z];exact nit b u e
  ·exact nit c _ z
def Inv.tok(I:Inv X pins σ H s)(t:Nat):Inv X pins σ H { s with toks:=t }:=I.un (h':=s.heap) (t':=t) Un.refl I.Vl
def Inv.kept{t':Nat}{h':Heap}(I:Inv X pins σ H s)(k:∀b u,s.heap.get? b=some u->h'.get? b=some u):Inv X pins σ H { s with heap:=h',toks:=t' }:=I.un (Un.kept k) (I.Vl.kept k)
def Inv.laid{a:Addr}{t':Nat}{h':Heap}(I:Inv X pins σ H s)(k:∀b u,s.heap.get? b=some u->h'.get? b=some u)(hp:s.heap.objs.size<=a)(new:Ve X.prog X.w (cE H a o) h' a o):
  Inv X pins σ (cE H a o) { s with heap:=h',toks:=t' }:=I.un (Un.laid k hp (I.Vl.fresh hp)) (I.Vl.laid k hp new)
def Inv.write{e:Addr}{t':Nat}{h':Heap}(I:Inv X pins σ H s)(mu:R0 (H x))(he:e=x\/H e=some (.own x))(k:∀b u,b≠e->s.heap.get? b=some u->h'.get? b=some u)(heo:∃u,h'.get? e=some u)(new:Ve X.prog X.w (cE H x o) h' x o):Inv X pins σ (cE H x o) { s with heap:=h',toks:=t' }:=I.un (Un.write mu he k heo) (I.Vl.write mu he k heo new)
def Inv.Yb{VN:gc}(I:Inv X pins σ H s)(h:∀p∈VN,s.heap.get? p.1=some p.2/\H p.1=none/\p.1≠X.env.locals/\p.1∉X.fs/\∀v,p.2.data ≠ .cell v):Inv X VN σ H s:=
 ⟨I.ok,I.os,I.bare,I.base,I.loc,I.cell,I.free,I.Wv,fun p hp=>(List.mem_append.mp hp).elim (fun z=>I.pin p (UP _ z)) (h p),I.Vl,I.len⟩
def CJ{N:ce}{i j:Nat}(hN:N.Nodup)(a:N[i]?=some x)(b:N[j]?=some x):i=j:=by
 obtain⟨h1,e1⟩:=List.getElem?_eq_some_iff.mp a
 obtain⟨h2,e2⟩:=List.getElem?_eq_some_iff.mp b
 exact(List.getElem_inj hN).mp (e1.trans e2.symm)
def GE{i:Nat}{Q:Unit->Shared->Prop}(I:Inv X pins σ H s)(hN:X.N.Nodup)(hi:X.N[i]?=some x)(hx:Pw X.env.scope x)(r:RelV v u)(h:∀s',Inv X pins (σ.set i (some v)) H s'->(∃a,Heap.SameBut a s.heap s'.heap/\(a=X.env.locals\/X.env.cells.lookup x=some a))->Q () s')(hf:X.fn x=true\/X.env.scope.names.lookup x=some .local:=by first | exact .inl rfl | exact .inr rfl | assumption):wpAny M A (storeName X.env x u) Q E s:=by
 obtain⟨m,hn,hl⟩:=id I.loc
 have hcls:(X.env.scope.kind == .class||(X.env.scope.kind == .module&&X.env.locals != X.env.globals))=false:=by rw[I.ok.kind];rfl
 have hiσ:i<σ.length:=by rw[I.len];exact(List.getElem?_eq_some_iff.mp hi).1
 have cne:=I.cne
 have tracked:∀{a:Addr} {h':Heap},(∃o,s.heap.get? a=some o/\H a=none)->Heap.SameBut a s.heap h'->Xf X.prog X.w H h':=fun {a h'} ha hs b ob e=>by
  obtain⟨_,_,WN⟩:=ha
  refine(I.Vl b ob e).XW (fun c w' hc q=>(hs.2 c ?_).trans q) (fun _ q=>q) fun _ _ q=>q
  rintro rfl
  rcases hc with rfl | hc
  ·rw[WN] at e;cases e
  ·rw[WN] at hc;cases hc
 rcases hx with hk | hk
 ·refine wpAny_storeName_local hk hn (fun h' W0 hs=>?_) hcls
  obtain⟨oL,_,_,hoL,_⟩:=id hn
  refine h _ ⟨I.ok,I.os,I.bare,⟨fun b o e n hb hx=>?_,fun b o e n hb hx=>?_,I.base.free,fun b o e hx=>?_,I.base.Xu,I.base.Xd,I.base.Xv⟩,⟨_,W0,fun j y v' e1 e2 e3=>?_⟩,fun y c e=>?_,I.free,I.Wv,fun p hp=>?_,tracked ⟨oL,hoL,I.free⟩ hs,by simpa using I.len⟩ ⟨_,hs,.inl rfl⟩
  ·exact(hs.2 b (bi (bg (aQ e) I.ok.above))).trans (I.base.keep b o e n hb hx)
  ·obtain⟨sl,e1⟩:=I.base.slot b o e n hb hx
   exact⟨sl,(hs.2 b (bi (bg (aQ e) I.ok.above))).trans e1⟩
  ·obtain⟨o',e1⟩:=I.base.there b o e hx
   exact⟨o',(hs.2 b (bi (bg (aQ e) I.ok.above))).trans e1⟩
  ·by_cases hj:j=i
   ·subst hj
    rw[hi] at e1;cases e1
    rw[List.getElem?_set_self hiσ] at e2
    cases e2
    exact⟨u,r,.inl ⟨hk,by simp⟩⟩
   ·rw[List.getElem?_set_ne (dD hj)] at e2
    obtain⟨u',r',q⟩:=hl j y v' e1 e2 e3
    refine⟨u',r',?_⟩
    rcases q with⟨k,e⟩ | ⟨k,c,e,z⟩
    ·refine .inl ⟨k,?_⟩
     have:y≠x:=fun e=>hj (CJ hN e1 (e ▸ hi))
     simp[this,e]
    ·exact .inr ⟨k,c,e,z.sameBut hs (cne y c e)⟩
  ·obtain⟨w',z⟩:=I.cell y c e
   exact⟨w',z.sameBut hs (cne y c e)⟩
  ·obtain⟨e,n,ne,nf,d⟩:=I.pin p hp
   exact⟨(hs.2 p.1 ne).trans e,n,ne,nf,d⟩
 ·have hfn:X.fn x=true:=by
   rcases hf with z | z
   ·exact z
   ·rw[z] at hk;cases hk
  obtain⟨c,hc⟩:=I.ok.has x (.inl hk)
  obtain⟨w',z⟩:=I.cell x c hc
  refine wpAny_storeName_cell I.ok.kind hk hc z (fun h' XA hs=>?_)
  obtain⟨oc,hoc,hocd⟩:=id z
  refine h { s with heap:=h' } ⟨I.ok,I.os,I.bare,⟨fun b o e n hb hx=>?_,fun b o e n hb hx=>?_,I.base.free,fun b o e hx=>?_,I.base.Xu,I.base.Xd,I.base.Xv⟩,⟨m,hn.sameBut hs (dD (cne x c hc)),fun j y v' e1 e2 e3=>?_⟩,fun y c' e=>?_,I.free,I.Wv,fun p hp=>?_,tracked ⟨oc,hoc,I.Wv x c hc⟩ hs,by simpa using I.len⟩ ⟨c,hs,.inr hc⟩
  ·exact(hs.2 b (bi (bg (aQ e) (I.ok.cab x c hfn hc)))).trans (I.base.keep b o e n hb hx)
  ·obtain⟨sl,e1⟩:=I.base.slot b o e n hb hx
   exact⟨sl,(hs.2 b (bi (bg (aQ e) (I.ok.cab x c hfn hc)))).trans e1⟩
  ·obtain⟨o',e1⟩:=I.base.there b o e hx
   exact⟨o',(hs.2 b (bi (bg (aQ e) (I.ok.cab x c hfn hc)))).trans e1⟩
  ·by_cases hj:j=i
   ·subst hj
    rw[hi] at e1;cases e1
    rw[List.getElem?_set_self hiσ] at e2
    cases e2
    exact⟨u,r,.inr ⟨.inl hk,c,hc,XA⟩⟩
   ·rw[List.getElem?_set_ne (dD hj)] at e2
    obtain⟨u',r',q⟩:=hl j y v' e1 e2 e3
    refine⟨u',r',?_⟩
    rcases q with q | ⟨k,c',e,z'⟩
    ·exact .inl q
    ·refine .inr ⟨k,c',e,z'.sameBut hs ?_⟩
     rintro rfl
     exact hj (CJ hN e1 (I.ok.inj _ _ _ e hc ▸ hi))
  ·by_cases hcc:c'=c
   ·subst hcc;exact⟨_,XA⟩
   ·obtain⟨w2,z2⟩:=I.cell y c' e
    exact⟨w2,z2.sameBut hs hcc⟩
  ·obtain⟨e,n,ne,nf,d⟩:=I.pin p hp
   refine⟨(hs.2 p.1 ?_).trans e,n,ne,nf,d⟩
   intro q
   rw[q,hoc] at e
   have q':oc=p.2:=bx e
   exact d w' (by rw[<-q'];exact hocd)
def ou{i:Nat}{Q:Unit->Shared->Prop}(I:Inv X pins σ H s)(hN:X.N.Nodup)(hi:X.N[i]?=some x)(hx:Pw X.env.scope x)(r:RelV v u)(h:∀s',Inv X pins (σ.set i (some v)) H s'->Q () s')(hf:X.fn x=true\/X.env.scope.names.lookup x=some .local:=by first | exact .inl rfl | exact .inr rfl | assumption):wpAny M A (storeName X.env x u) Q E s:=
 GE I hN hi hx r (fun s' I' _=>h s' I') hf
def Inv.call'{s':Shared}(I:Inv X pins σ H s)(ho:s'.os=s.os)(u:Un (mn X.stack) ch H H' s.heap s'.heap)(Vl:Xf X.prog X.w H' s'.heap)(hg:AllBare s'.gens)(Y3:∀b∈ch,(b∈X.ex\/X.s₀.heap.objs.size<=b)/\b≠X.env.locals/\(∀x c,X.env.cells.lookup x=some c->c≠b)/\∀p∈X.pn++pins,p.1≠b):Inv X pins σ H' s':=by
 obtain⟨h',g',d',t',o'⟩:=s'
 have e:o'=s.os:=ho
 subst e
 exact I.call (g':=g') (t':=t') (d':=d') u Vl hg Y3
end
abbrev XK:=Value->Option Addr->Hp->Prop
abbrev St:=List (Option V)
abbrev VK:=V->Hp->Prop
abbrev TE:=St->Hp->VK->Prop
abbrev TT:=St->Hp->(Bool->Hp->Prop)->Prop
abbrev TA:=St->Hp->(df->Hp->Prop)->Prop
structure kC where
 nx:St->Hp->Prop
 rt:VK
 bk:St->Hp->Prop:=fun _ _=>False
 ct:St->Hp->Prop:=fun _ _=>False
abbrev TS:=kC->St->Hp->Prop
def EP(X:Cx)(pins:gc)(σ:St)(Q:VK)(u:Value)(s':Shared):Prop:=∃v H',Inv X pins σ H' s'/\RelV v u/\Q v H'
def TP(X:Cx)(pins:gc)(σ:St)(Q:Bool->Hp->Prop)(b:Bool)(s':Shared):Prop:=∃H',Inv X pins σ H' s'/\Q b H'
def AP(X:Cx)(pins:gc)(σ:St)(Q:df->Hp->Prop)(us:fR)(s':Shared):Prop:=∃vs H',Inv X pins σ H' s'/\Vals vs us/\Q vs H'
def SP(X:Cx)(pins:gc)(D:kC)(f:Flow)(s':Shared):Prop:=
 match f with
 |.next=>∃σ' H',Inv X pins σ' H' s'/\D.nx σ' H'
 |.brk=>∃σ' H',Inv X pins σ' H' s'/\D.bk σ' H'
 |.cont=>∃σ' H',Inv X pins σ' H' s'/\D.ct σ' H'
 |.ret u=>∃v σ' H',Inv X pins σ' H' s'/\RelV v u/\D.rt v H'
def PE(X:Cx)(e:Expr)(t:TE):Prop:=
 ∀(pins:gc) (s:Shared) (σ:St) (H:Hp) (Q:VK),Inv X pins σ H s->t σ H Q->dZ X (eval e X.env) (EP X pins σ Q) X.xe s
def PT(X:Cx)(e:Expr)(t:TT):Prop:=
 ∀(pins:gc) (s:Shared) (σ:St) (H:Hp) (Q:Bool->Hp->Prop),Inv X pins σ H s->t σ H Q->dZ X (isTrue e X.env (eval e X.env)) (TP X pins σ Q) X.xe s
def PW(X:Cx)(e:Expr)(t:TT):Prop:=
 ∀(whole:Sem Value) (pins:gc) (s:Shared) (σ:St) (H:Hp) (Q:Bool->Hp->Prop),Inv X pins σ H s->t σ H Q->dZ X (isTrue e X.env whole) (TP X pins σ Q) X.xe s
def PA(X:Cx)(es:rL)(t:TA):Prop:=
 ∀(pos:Pos) (pins:gc) (s:Shared) (σ:St) (H:Hp) (Q:df->Hp->Prop),Inv X pins σ H s->t σ H Q->dZ X (spliced (backTo pos (starEach es X.env))) (AP X pins σ Q) X.xe s
def PS(X:Cx)(st:Stmt)(t:TS):Prop:=
 ∀(pins:gc) (s:Shared) (σ:St) (H:Hp) (D:kC),Inv X pins σ H s->t D σ H->dZ X (exec st X.env) (SP X pins D) X.xe s
def X7(X:Cx)(st:List Stmt)(t:TS):Prop:=
 ∀(pins:gc) (s:Shared) (σ:St) (H:Hp) (D:kC),Inv X pins σ H s->t D σ H->dZ X (execs st X.env) (SP X pins D) X.xe s
def dk{α:Type}{t:Sem α}{Q Q':α->Shared->Prop}(h:wpAny M A t Q E s)(hQ:∀a s,Q a s->Q' a s):wpAny M A t Q' E s:=mj h hQ fun _ _ x=>x
section
def UT(ha:PE X a ta)(hb:PE X b tb){R:V->V->Hp->Prop}(I:Inv X pins σ H s)(h:ta σ H fun x H1=>tb σ H1 fun y H2=>R x y H2){α:Type}{Q:α->Shared->Prop}{f:Value->Value->Sem α}(hf:∀v u s2 x y H2,Inv X pins σ H2 s2->RelV x v->RelV y u->R x y H2->dZ X (f v u) Q X.xe s2):
  dZ X (eval a X.env) (fun v s₁=>dZ X (eval b X.env) (fun u s₂=>dZ X (f v u) Q X.xe s₂) X.xe s₁) X.xe s:=by
 refine dk (ha pins s σ H _ I h) fun v s1 ⟨x,H1,I1,r1,q1⟩=>?_
 refine dk (hb pins s1 σ H1 _ I1 q1) fun u s2 ⟨y,H2,I2,r2,q2⟩=>?_
 exact hf v u s2 x y H2 I2 r1 r2 q2
def Qg(i:Nat):TE:=fun σ H Q=>∃v,σ[i]?=some (some v)/\Q v H
def tC(v:V):TE:=fun _ H Q=>Q v H
def Od{i:Nat}{X:Cx}(hN:X.N[i]?=some x)(hv:Rq X.env.scope x)(hd:qA x:=by decide)(Zn:(x==("__classdict__" : Str))=false:=by decide):PE X (.Name x pos) (Qg i):=by
 intro pins s σ H Q I h
 obtain⟨v,e,h⟩:=h
 obtain⟨m,hn,hl⟩:=I.loc
 obtain⟨u,r,l⟩:=hl i x v hN e hv
 have fin:EP X pins σ Q u s:=⟨v,H,I,r,h⟩
 rcases l with⟨hk,hm⟩ | ⟨hk,c,hc,WO⟩
 ·exact wpAny_Name (wpAny_loadName_local I.ok.kind hk hn hm fin) hd
 ·rcases hk with hk | hk
  ·exact wpAny_Name (wpAny_loadName_cell I.ok.kind hk hc WO fin) hd
  ·exact wpAny_Name (wpAny_loadName_free I.ok.kind hk hc WO fin Zn) hd
def IP{i j pos}:PE X (.Constant (.int i) j pos) (tC (.int i)):=fun _ _ _ H _ I h=>wpAny_Constant_int ⟨.int i,H,I.tok _,⟨_,rfl⟩,h⟩
def QM{b j pos}:PE X (.Constant (.bool b) j pos) (tC (.bl b)):=fun _ _ _ H _ I h=>Constant_bool ⟨.bl b,H,I,rfl,h⟩
def D3{x j pos}:PE X (.Constant (.str x) j pos) (tC (.str x)):=fun _ _ _ H _ I h=>Calls.Constant_str ⟨.str x,H,I.tok _,⟨_,rfl⟩,h⟩
def Gl(X:Cx)(x:Str):Prop:=X.env.kindOf x=some .globalImplicit
def Bg{Q:tG}(I:Inv X pins σ H s)(hg:Gl X x)(hm:X.mg x=some u)(h:Q u s)(hd:qA x:=by decide):dZ X (eval (.Name x pos) X.env) Q E s:=
 UR I.ok.kind hg (Calls.loadGlobal_global (by rw[I.ok.glob];exact I.mod.glob.keeps I.bk) hm h) hd
def xi{Q:tG}(I:Inv X pins σ H s)(hg:Gl X x)(hm:X.mg x=none)(hv:bootBuiltins x=some u)(h:Q u s)(hn:x ≠ "__name__" := by decide)(hd:qA x:=by decide):dZ X (eval (.Name x pos) X.env) Q E s:=by
 obtain⟨mb,h1,h2⟩:=I.mod.blt
 exact UR I.ok.kind hg (Calls.loadGlobal_builtin (by rw[I.ok.glob];exact I.mod.glob.keeps I.bk) hm (by rw[I.ok.blt];exact h1.keeps I.bk) ((h2 x hn).trans hv) h) hd
def vq(hg:Gl X x)(hm:X.mg x=some u)(r:RelV v u)(hd:qA x:=by decide):PE X (.Name x pos) (tC v):=
 fun _ _ _ H _ I h=>Bg I hg hm ⟨v,H,I,r,h⟩ hd
def A3(hg:Gl X x)(hm:X.mg x=none)(hv:bootBuiltins x=some u)(r:RelV v u)(hn:x ≠ "__name__" := by decide)(hd:qA x:=by decide):PE X (.Name x pos) (tC v):=
 fun _ _ _ H _ I h=>xi I hg hm hv ⟨v,H,I,r,h⟩ hn hd
def PC(X:Cx)(op:CmpOp)(a b:Expr)(t:TE):Prop:=
 ∀(pins:gc) (s:Shared) (σ:St) (H:Hp) (Q:VK),Inv X pins σ H s->t σ H Q ->
  dZ X (eval a X.env) (fun v s₁=>dZ X (eval b X.env) (fun u s₂=>dZ X (compareOp op v u) (EP X pins σ Q) X.xe s₂) X.xe s₁) X.xe s
def cT(b:Expr){op:CmpOp}(h:op ≠ .In)(h2:op ≠ .NotIn):behindInMarks op b=false:=by
 have e1:(op==CmpOp.In)=false:=by cases op<;>first | rfl | exact absurd rfl h
 have e2:(op==CmpOp.NotIn)=false:=by cases op<;>first | rfl | exact absurd rfl h2
 cases b<;>simp[behindInMarks,e1,e2]
def tB(t:TE):TT:=fun σ H Q=>t σ H fun x H1=>∃c,x=.bl c/\Q c H1
def SR{op:CmpOp}(h:PC X op a b t)(h1:behindInMarks op b=false:=by first | exact cT _ (by decide) (by decide) | rfl):PT X (.Compare a [op] [b] pos) (tB t):=by
 intro pins s σ H Q I hw
 refine wpAny_isTrue_Compare1 (dk (h pins s σ H _ I hw) fun v s1 h1=>dk h1 fun u s2 h2=>dk h2 fun c s3 ⟨x,H1,I1,r1,q1⟩=>?_) h1
 obtain⟨d,rfl,q⟩:=q1
 cases r1
 exact eJ ⟨H1,I1,q⟩
def N8(h:PE X e t)(he:∀whole,isTrue e X.env whole=(do let v <-whole;standAt e.pos;holding [v] (truthy v)):=by intro _;rfl):PT X e (tB t):=by
 intro pins s σ H Q I hw
 refine isTrue_plain (dk (h pins s σ H _ I hw) fun v s1 ⟨x,H1,I1,r1,q1⟩=>?_) (he _)
 obtain⟨d,rfl,q⟩:=q1
 cases r1
 exact eJ ⟨H1,I1,q⟩
variable {tA tB':TT}{bF:rL}
def SD(t u:TT):TT:=fun σ H Q=>t σ H fun c H1=>if c=true then u σ H1 Q else Q false H1
def Uz(t u:TT):TT:=fun σ H Q=>t σ H fun c H1=>if c=true then Q true H1 else u σ H1 Q
def Ss(t:TT):TT:=fun σ H Q=>t σ H fun c H1=>Q (!c) H1
def Ls(ha:PT X a tA):PW X (.BoolOp .And [a] pos) tA:=by
 intro wh pins s σ H Q I h
 refine isTrue_and (dk (ha pins s σ H Q I h) fun c s1 e=>?_)
 cases c with
 |true=>exact isTrue_and_nil e
 |false=>exact e
def N7(ha:PT X a tA):PW X (.BoolOp .Or [a] pos) tA:=by
 intro wh pins s σ H Q I h
 refine isTrue_or (dk (ha pins s σ H Q I h) fun c s1 e=>?_)
 cases c with
 |false=>exact isTrue_or_nil e
 |true=>exact e
def IA(ha:PT X a tA)(hb:PW X (.BoolOp .And (b::bF) pos) tB'):PW X (.BoolOp .And (a::b::bF) pos) (SD tA tB'):=by
 intro wh pins s σ H Q I h
 refine isTrue_and (dk (ha pins s σ H _ I h) fun c s1 ⟨H1,I1,q1⟩=>?_)
 cases c with
 |true=>exact hb wh pins s1 σ H1 Q I1 q1
 |false=>exact⟨H1,I1,q1⟩
def MZ(ha:PT X a tA)(hb:PW X (.BoolOp .Or (b::bF) pos) tB'):PW X (.BoolOp .Or (a::b::bF) pos) (Uz tA tB'):=by
 intro wh pins s σ H Q I h
 refine isTrue_or (dk (ha pins s σ H _ I h) fun c s1 ⟨H1,I1,q1⟩=>?_)
 cases c with
 |true=>exact⟨H1,I1,q1⟩
 |false=>exact hb wh pins s1 σ H1 Q I1 q1
def N9(ha:PT X a tA):PT X (.UnaryOp .Not a pos) (Ss tA):=by
 intro pins s σ H Q I h
 exact isTrue_not (ha pins s σ H (fun c H1=>Q (!c) H1) I h)
def Qs(ta tb:TE):TE:=fun σ H Q=>ta σ H fun x H1=>∃c,x=.bl c/\if c=true then tb σ H1 Q else Q (.bl false) H1
def Sr(ta tb:TE):TE:=fun σ H Q=>ta σ H fun x H1=>∃c,x=.bl c/\if c=true then Q (.bl true) H1 else tb σ H1 Q
def Qk(ta:TE):TE:=fun σ H Q=>ta σ H fun x H1=>∃c,x=.bl c/\Q (.bl (!c)) H1
def Oe{op}(h:PE X a t):PE X (.BoolOp op [a] pos) t:=fun pins s σ H Q I hw=>BoolOp_one (h pins s σ H Q I hw)
def IQ(ha:PE X a ta)(hb:PE X (.BoolOp .And (b::bF) pos) tb):PE X (.BoolOp .And (a::b::bF) pos) (Qs ta tb):=by
 intro pins s σ H Q I h
 refine BoolOp_and (dk (ha pins s σ H _ I h) fun v s1 ⟨x,H1,I1,r1,q1⟩=>?_)
 obtain⟨c,rfl,q1⟩:=q1
 cases r1
 refine eJ ?_
 cases c with
 |true=>exact hb pins s1 σ H1 Q I1 q1
 |false=>exact⟨.bl false,H1,I1,rfl,q1⟩
def M1(ha:PE X a ta)(hb:PE X (.BoolOp .Or (b::bF) pos) tb):PE X (.BoolOp .Or (a::b::bF) pos) (Sr ta tb):=by
 intro pins s σ H Q I h
 refine BoolOp_or (dk (ha pins s σ H _ I h) fun v s1 ⟨x,H1,I1,r1,q1⟩=>?_)
 obtain⟨c,rfl,q1⟩:=q1
 cases r1
 refine eJ ?_
 cases c with
 |false=>exact hb pins s1 σ H1 Q I1 q1
 |true=>exact⟨.bl true,H1,I1,rfl,q1⟩
def Of(ha:PE X a ta):PE X (.UnaryOp .Not a pos) (Qk ta):=by
 intro pins s σ H Q I h
 refine UnaryOp_ (dk (ha pins s σ H _ I h) fun v s1 ⟨x,H1,I1,r1,q1⟩=>?_)
 obtain⟨c,rfl,q1⟩:=q1
 cases r1
 exact not_of (eJ ⟨.bl (!c),H1,I1,rfl,q1⟩)
def UA(t:TT)(ta tb:TE):TE:=fun σ H Q=>t σ H fun c H1=>if c=true then ta σ H1 Q else tb σ H1 Q
def sC(hc:PT X c tA)(ha:PE X a ta)(hb:PE X b tb):PE X (.IfExp c a b pos) (UA tA ta tb):=by
 intro pins s σ H Q I h
 refine wpAny_IfExp (dk (hc pins s σ H _ I h) fun d s1 ⟨H1,I1,q1⟩=>?_)
 cases d with
 |true=>exact ha pins s1 σ H1 Q I1 q1
 |false=>exact hb pins s1 σ H1 Q I1 q1
end
def VE(K:bW)(H:Hp)(a:Addr)(xs:df):Prop:=
 Rd H a (.lst xs) \/
  ∃(o:Obj) (its:Array Value) (n:Nat),K.lookup a=some o/\o.cls=.type "list" /\ o.dict=none/\o.data=.seq its n/\its.size<=sizeLine/\Vals xs its.toList
def VV(K:bW)(H:Hp)(a:Addr)(xs:df):Prop:=
 Rd H a (.tup xs) \/
  ∃(o:Obj) (its:Array Value) (n:Nat),K.lookup a=some o/\o.cls=.type "tuple" /\ o.data=.seq its n/\its.size<=sizeLine/\Vals xs its.toList
def TF:Value->Option V
 |.none=>some .Vs
 |.bool b=>some (.bl b)
 |.int i _=>some (.int i)
 |.str x _=>some (.str x)
 |.bytes b _=>some (.Yg b)
 |.float b _=>some (.flt b)
 |.ref a=>some (.ref a)
 |.type n=>some (.ty n)
 |_=>none
def RelV.abs(r:RelV x u):TF u=some x:=by
 cases x with
 |Vs=>cases r;rfl
 |bl _=>cases r;rfl
 |int _=>obtain⟨t,rfl⟩:=r;rfl
 |str _=>obtain⟨t,rfl⟩:=r;rfl
 |Yg _=>obtain⟨t,rfl⟩:=r;rfl
 |flt _=>obtain⟨t,rfl⟩:=r;rfl
 |ref _=>cases r;rfl
 |ty _=>cases r;rfl
def RelV.inj(r:RelV x u)(q:RelV y u):x=y:=bx (r.abs.symm.trans q.abs)
def Vals.inj:∀{xs ys:df} {us:fR},Vals xs us->Vals ys us->xs=ys
 |_,_,_,.nil,.nil=>rfl
 |_,_,_,.cons r t,.cons r' t'=>by rw[r.inj r',Vals.inj t t']
def VE.of{K:bW}{H:Hp}{a:Addr}(h:H a=some (.lst xs)):VE K H a xs:=.inl (.inl h)
def VV.of{K:bW}{H:Hp}{a:Addr}(h:H a=some (.tup xs)):VV K H a xs:=.inl (.inl h)
def Inv.list(I:Inv X pins σ H s)(h:VE X.K H a xs):∃its:fR,Vals xs its/\PlainL s.heap a its.toArray/\xs.length<=sizeLine:=by
 rcases h with h | ⟨o,its,n,hk,hc,hd,hs,hz,r⟩
 ·obtain⟨z,its,n,r,e⟩:=h.ok I.Vl
  exact⟨its,r,⟨_,n,e,rfl,rfl,rfl⟩,z⟩
 ·refine⟨its.toList,r,⟨o,n,I.WM a o hk,hc,hd,by simpa using hs⟩,?_⟩
  have e:=r.length
  simp only[bX] at e
  lia
def Inv.tuple(I:Inv X pins σ H s)(h:VV X.K H a xs):∃its:fR,Vals xs its/\IsTup s.heap a its.toArray/\xs.length<=sizeLine:=by
 rcases h with h | ⟨o,its,n,hk,hc,hs,hz,r⟩
 ·obtain⟨z,its,r,p⟩:=h.ok I.Vl
  exact⟨its,r,p,z⟩
 ·refine⟨its.toList,r,⟨o,I.WM a o hk,hc,n,by simpa using hs⟩,?_⟩
  have e:=r.length
  simp only[bX] at e
  lia
def Inv.YF(I:Inv X pins σ H s)(h:VE X.K H a xs)(h':VE X.K H a ys):xs=ys:=by
 obtain⟨its,r,⟨o,n,e,_,_,d⟩,_⟩:=I.list h
 obtain⟨its',r',⟨o',n',e',_,_,d'⟩,_⟩:=I.list h'
 rw[e] at e';cases e'
 rw[d] at d'
 injection d' with d1 _
 have:its=its':=by simpa using bv Array.toList d1
 subst this
 exact r.inj r'
def Inv.Xz(I:Inv X pins σ H s)(h:VV X.K H a xs)(h':VV X.K H a ys):xs=ys:=by
 obtain⟨its,r,⟨o,e,_,n,d⟩,_⟩:=I.tuple h
 obtain⟨its',r',⟨o',e',_,n',d'⟩,_⟩:=I.tuple h'
 rw[e] at e';cases e'
 rw[d] at d'
 injection d' with d1 _
 have:its=its':=by simpa using bv Array.toList d1
 subst this
 exact r.inj r'
abbrev Cx.Xt(X:Cx)(E:tG):Cx:={ X with xe:=E }
abbrev Cx.XC(X:Cx):Cx:=X.Xt fun _ _=>False
def Cx.Ok.Xt{X:Cx}(ok:X.Ok)(E:tG):(X.Xt E).Ok:=
 ⟨ok.mod,ok.kind,ok.glob,ok.blt,ok.above,ok.inj,ok.has,ok.cab,ok.hd,ok.frames,ok.V3,ok.exf,ok.bs,ok.Zy,ok.YE,ok.YO,ok.Xc,ok.frf⟩
def Cx.Ok.Wr{X:Cx}(ok:(X.Xt E).Ok):X.Ok:=
 ⟨ok.mod,ok.kind,ok.glob,ok.blt,ok.above,ok.inj,ok.has,ok.cab,ok.hd,ok.frames,ok.V3,ok.exf,ok.bs,ok.Zy,ok.YE,ok.YO,ok.Xc,ok.frf⟩
def Inv.Xt(I:Inv X pins σ H s)(E:tG):Inv (X.Xt E) pins σ H s:=⟨I.ok.Xt E,I.os,I.bare,I.base,I.loc,I.cell,I.free,I.Wv,I.pin,I.Vl,I.len⟩
def Inv.Wr{X:Cx}(I:Inv (X.Xt E) pins σ H s):Inv X pins σ H s:=⟨I.ok.Wr,I.os,I.bare,I.base,I.loc,I.cell,I.free,I.Wv,I.pin,I.Vl,I.len⟩
def SP.Wr{D:kC}{X:Cx}{f:Flow}(h:SP (X.Xt E) pins D f s'):SP X pins D f s':=by
 cases f with
 |next=>obtain⟨σ',H',I,q⟩:=h;exact⟨σ',H',I.Wr,q⟩
 |brk=>obtain⟨σ',H',I,q⟩:=h;exact⟨σ',H',I.Wr,q⟩
 |cont=>obtain⟨σ',H',I,q⟩:=h;exact⟨σ',H',I.Wr,q⟩
 |ret u=>obtain⟨v,σ',H',I,r,q⟩:=h;exact⟨v,σ',H',I.Wr,r,q⟩
def X7.XC{st:List Stmt}{X:Cx}(h:X7 X.XC st t):X7 X st t:=fun pins s σ H D I hw=>
 mj (h pins s σ H D (I.Xt _) hw) (fun _ _ q=>q.Wr) fun _ _ z=>False.elim z
section
variable {st:Stmt}{bF:List Stmt}
def Ql:TS:=fun D σ H=>D.nx σ H
def Sn(t u:TS):TS:=fun D σ H=>t { D with nx:=u D } σ H
def Lv:X7 X [] Ql:=fun _ _ σ H _ I h=>DB ⟨σ,H,I,h⟩
def fE(h1:PS X st t)(h2:X7 X bF u):X7 X (st::bF) (Sn t u):=by
 intro pins s σ H D I h
 refine wpAny_execs_cons (dk (h1 pins s σ H { D with nx:=u D } I h) fun f s1 q=>?_)
 cases f with
 |next=>
  obtain⟨σ',H',I',q⟩:=q
  exact h2 pins s1 σ' H' D I' q
 |ret v=>exact q
 |brk=>exact q
 |cont=>exact q
def qc(h1:PS X st t):X7 X [st] t:=by
 intro pins s σ H D I h
 refine wpAny_execs_cons (dk (h1 pins s σ H D I h) fun f s1 q=>?_)
 cases f with
 |next=>exact DB q
 |ret v=>exact q
 |brk=>exact q
 |cont=>exact q
def Inv.quiet(I:Inv X pins σ H s):interactive X.env=false:=by simp[interactive,I.ok.kind]
def Qn(te:TE):TS:=fun D σ H=>te σ H fun _ H1=>D.nx σ H1
def gZ{pos:Pos}(he:PE X e te)(hs:swapsWith e none pos.line X.env=pure false:=by rfl):PS X (.Expr e pos) (Qn te):=by
 intro pins s σ H D I h
 exact wpAny_Expr_any (dk (he pins s σ H _ I h) fun v s1 ⟨x,H1,I1,r1,q1⟩=>⟨σ,H1,I1,q1⟩) I.quiet hs
def So(te:TE):TS:=fun D σ H=>te σ H D.rt
def wH(he:PE X e te):PS X (.Return (some e) pos) (So te):=by
 intro pins s σ H D I h
 exact wpAny_Return_some (dk (he pins s σ H _ I h) fun v s1 ⟨x,H1,I1,r1,q1⟩=>⟨x,σ,H1,I1,r1,q1⟩)
def Qi:TS:=fun D _ H=>D.rt .Vs H
def Lw:PS X (.Return none pos) Qi:=fun _ _ σ H _ I h=>wpAny_Return_none ⟨.Vs,σ,H,I,rfl,h⟩
def Sw(c:TT)(t u:TS):TS:=fun D σ H=>c σ H fun b H1=>if b=true then t D σ H1 else u D σ H1
def uH{tc:TT}(hc:PT X c tc)(ha:X7 X a t)(hb:X7 X b u):PS X (.If c a b pos) (Sw tc t u):=by
 intro pins s σ H D I h
 refine wpAny_If (dk (hc pins s σ H _ I h) fun d s1 ⟨H1,I1,q1⟩=>?_)
 cases d with
 |true=>exact ha pins s1 σ H1 D I1 q1
 |false=>exact hb pins s1 σ H1 D I1 q1
end
abbrev TG:=V->St->Hp->(St->Hp->Prop)->Prop
abbrev MD:=df->St->Hp->(St->Hp->Prop)->Prop
def PG(X:Cx)(target:Expr)(t:TG):Prop:=
 ∀(pins:gc) (s:Shared) (σ:St) (H:Hp) (v:V) (u:Value) (Q:St->Hp->Prop),Inv X pins σ H s->RelV v u->t v σ H Q ->
  dZ X (assign target X.env u) (fun _ s'=>∃σ' H',Inv X pins σ' H' s'/\Q σ' H') X.xe s
def PZ(X:Cx)(ts:rL)(t:MD):Prop:=
 ∀(pins:gc) (s:Shared) (σ:St) (H:Hp) (vs:df) (us:fR) (Q:St->Hp->Prop),Inv X pins σ H s->Vals vs us->t vs σ H Q ->
  dZ X (assignInOrder ((assignEach ts X.env).map (·.2)) us) (fun _ s'=>∃σ' H',Inv X pins σ' H' s'/\Q σ' H') X.xe s
abbrev Hh:=V->V->V->Hp->(Hp->Prop)->Prop
def ME(X:Cx)(t:Hh):Prop:=
 ∀(pins:gc) (s:Shared) (σ:St) (H:Hp) (o i v:V) (ov iv u:Value) (Q:Hp->Prop),Inv X pins σ H s->RelV o ov->RelV i iv->RelV v u->t o i v H Q ->
  dZ X (setItem ov iv u) (fun _ s'=>∃H',Inv X pins σ H' s'/\Q H') X.xe s
abbrev Rs:=V->V->Hp->VK->Prop
def Rx(X:Cx)(op:Operator)(t:Rs):Prop:=
 ∀(pins:gc) (s:Shared) (σ:St) (H:Hp) (x y:V) (v u:Value) (Q:VK),Inv X pins σ H s->RelV x v->RelV y u->t x y H Q ->
  dZ X (inplaceOp op v u) (EP X pins σ Q) X.xe s
def Ng(i:Nat):TG:=fun v σ H Q=>Q (σ.set i (some v)) H
def vp{i:Nat}{X:Cx}(hN:X.N.Nodup)(hi:X.N[i]?=some x)(hx:Pw X.env.scope x)(hf:X.fn x=true\/X.env.scope.names.lookup x=some .local:=by first | exact .inl rfl | exact .inr rfl | assumption):PG X (.Name x pos) (Ng i):=by
 intro pins s σ H v u Q I r h
 exact wpAny_assign_Name (ou I hN hi hx r (fun s' I'=>⟨_,H,I',h⟩) hf)
def Tl:MD:=fun vs σ H Q=>vs=[]/\Q σ H
def Q4(t:TG)(u:MD):MD:=fun vs σ H Q=>∃v r,vs=v::r/\t v σ H fun σ' H'=>u r σ' H' Q
def Fz:PZ X [] Tl:=by
 intro pins s σ H vs us Q I r h
 obtain⟨e,h⟩:=h
 subst e
 cases r
 exact assignInOrder_nil ⟨σ,H,I,h⟩
def wP{u:MD}(h1:PG X e t)(h2:PZ X es u)(hs:(assignEach (e::es) X.env).map (·.2)=assign e X.env::(assignEach es X.env).map (·.2):=by rfl):PZ X (e::es) (Q4 t u):=by
 intro pins s σ H vs us Q I r h
 obtain⟨v,vr,e1,h⟩:=h
 subst e1
 cases r with
 |cons r rr=>
  rw[hs]
  refine Um (dk (h1 pins s σ H _ _ _ I r h) fun _ s1 ⟨σ1,H1,I1,q1⟩=>?_)
  exact h2 pins s1 σ1 H1 _ _ Q I1 rr q1
def Tj(K:bW)(n:Nat)(t:MD):TG:=fun v σ H Q=>∃a xs,v=.ref a/\VV K H a xs/\xs.length=n/\t xs σ H Q
def IL{n:Nat}{X:Cx}{t:MD}(hc:X.calm=true)(h:PZ X es t)(hn:(assignEach es X.env).length=n:=by rfl)(Z0:(assignEach es X.env).findIdx? (·.1)=none:=by rfl):PG X (.Tuple es k pos) (Tj X.K n t):=by
 intro pins s σ H v u Q I r hw
 obtain⟨a,xs,e1,hq,hl,hw⟩:=hw
 subst e1
 cases r
 obtain⟨its,rv,ht,hz⟩:=I.tuple hq
 refine assign_Tuple_tuple (I.ok.hd hc) ht (by simp[hn,<-hl,rv.length]) Z0 fun h' hx=>?_
 have I1:Inv X pins σ H { s with heap:=h' }:=I.kept (t':=s.toks) fun b o e=>hx b o (bi (aQ e)) e
 exact h pins _ σ H xs _ Q I1 (by simpa using rv) hw
def Tk(to ti:TE)(t:Hh):TG:=fun v σ H Q=>to σ H fun o H1=>ti σ H1 fun i H2=>t o i v H2 fun H3=>Q σ H3
def IM{t:Hh}(ho:PE X o to)(hi:PE X i ti)(hs:ME X t)(ha:∀v,assign (.Subscript o i pos) X.env v=(do
   let ov <-holding [v] (eval o X.env)
   let iv <-holding [v,ov] (eval i X.env)
   standAt pos
   holding [v,ov,iv] (setItem ov iv v)
   release [v,ov,iv] []):=by intro _;rfl):PG X (.Subscript o i pos) (Tk to ti t):=by
 intro pins s σ H v u Q I r h
 rw[ha]
 refine ae (cp (dk (ho pins s σ H _ I h) fun ov s1 ⟨x,H1,I1,r1,q1⟩=>?_))
 refine ae (cp (dk (hi pins s1 σ H1 _ I1 q1) fun iv s2 ⟨y,H2,I2,r2,q2⟩=>?_))
 refine ae (qP (ae (cp (dk (hs pins s2 σ H2 x y v ov iv u _ I2 r1 r2 r q2) fun _ s3 ⟨H3,I3,q3⟩=>?_))))
 exact wpAny_release ⟨σ,H3,I3,q3⟩
def Qr(te:TE)(g:TG):TS:=fun D σ H=>te σ H fun x H1=>g x σ H1 D.nx
def DW{pos:Pos}(he:PE X e te)(hg:PG X tg g)(hs:swapsWithSole [tg] e pos.line X.env=pure false:=by rfl)(hw:swappedStores [tg] e X.env=pure none:=by rfl)(h1:(assignEach [tg] X.env).map (·.2)=[assign tg X.env]:=by rfl):PS X (.Assign [tg] e pos) (Qr te g):=by
 intro pins s σ H D I h
 refine wpAny_Assign_stores (dk (he pins s σ H _ I h) fun v s1 ⟨x,H1,I1,r1,q1⟩=>?_) hs hw
 rw[h1]
 exact dk (hg pins s1 σ H1 x v _ I1 r1 q1) fun _ s2 q=>q
def oK{i:Nat}{X:Cx}{pos:Pos}(hN:X.N.Nodup)(hi:X.N[i]?=some x)(hx:Pw X.env.scope x)(he:PE X e te)(hs:swapsWith e (some (.Name x pos')) pos.line X.env=pure false:=by rfl)(hf:X.fn x=true\/X.env.scope.names.lookup x=some .local:=by first | exact .inl rfl | exact .inr rfl | assumption):
  PS X (.Assign [.Name x pos'] e pos) (Qr te (Ng i)):=by
 intro pins s σ H D I h
 refine wpAny_Assign_Name (dk (he pins s σ H _ I h) fun v s1 ⟨y,H1,I1,r1,q1⟩=>?_) hs
 exact ou I1 hN hi hx r1 (fun s2 I2=>⟨_,H1,I2,q1⟩) hf
def Sq(i j:Nat)(ta:TA):TS:=fun D σ H=>ta σ H fun vs H1=>∃v w,vs=[v,w]/\D.nx ((σ.set i (some v)).set j (some w)) H1
def IE{i j:Nat}{X:Cx}{pos:Pos}{kt k2 Zf}(hc:X.calm=true)(hN:X.N.Nodup)(hi:X.N[i]?=some x)(hj:X.N[j]?=some y)(hij:i≠j)(hx:X.env.scope.names.lookup x=some .local)(hy:X.env.scope.names.lookup y=some .local)(ha:PA X [a,b] ta)(hw:swappedStores [.Tuple [.Name x px,.Name y py] kt pt] (.Tuple [a,b] k2 Zf) X.env=pure (some [x,y]))(hs:swapsWithSole [.Tuple [.Name x px,.Name y py] kt pt] (.Tuple [a,b] k2 Zf) pos.line X.env=pure false:=by rfl):
  PS X (.Assign [.Tuple [.Name x px,.Name y py] kt pt] (.Tuple [a,b] k2 Zf) pos) (Sq i j ta):=by
 intro pins s σ H D I h
 rw[exec_Assign_arm]
 refine ae (qP ?_)
 rw[hs]
 refine ae (ao ?_)
 rw[aq (by decide)]
 refine ae (Tuple_ (dk (ha _ pins s σ H _ I h) fun us s1 ⟨vs,H1,I1,r1,q1⟩=>?_))
 obtain⟨v,w,e1,q1⟩:=q1
 subst e1
 obtain⟨u1,u2,rfl,rv,WH⟩:∃u1 u2,us=[u1,u2]/\RelV v u1/\RelV w u2:=by
  cases r1 with
  |cons p q=>
   cases q with
   |cons p' q'=>
    cases q'
    exact⟨_,_,rfl,p,p'⟩
 refine cf ?_ (by show 2<=sizeLine;decide)
 have I2:Inv X pins σ H1 { s1 with heap:=s1.heap.push { cls:=.type "tuple",data:=.seq [u1,u2].toArray } }:=I1.kept (t':=s1.toks) fun b o e=>Heap.get?_push_of_some _ e
 rw[hw]
 refine ae (ao ?_)
 show dZ X (do rule "assign.swapped-stores";let items <-unpackItems (.ref s1.heap.objs.size) 2 none;assignInOrder [fun v=>bindName X.env y v,fun v=>bindName X.env x v] items.reverse;pure Flow.next) _ _ _
 refine ae (wpAny_rule (ae (unpackItems_tuple (items:=#[u1,u2]) (I.ok.hd hc) (IsTup.new s1.heap _) fun h' Zh=>?_)))
 have I3:=I2.kept (h':=h') (t':=s1.toks) fun b o e=>Zh b o (bi (aQ e)) e
 show wpAny _ _ (assignInOrder [fun v=>bindName X.env y v,fun v=>bindName X.env x v] [u2,u1] >>= fun _=>pure Flow.next) _ _ _
 refine ae (Um (wpAny_bindName (ou I3 hN hj (.inl hy) WH (fun s2 I4=>?_) (.inr hy))))
 refine Um (wpAny_bindName (ou I4 hN hi (.inl hx) rv (fun s3 I5=>assignInOrder_nil (ao ?_)) (.inr hx)))
 rw[List.set_comm _ _ (dD hij)] at I5
 exact⟨_,H1,I5,q1⟩
def SA(i:Nat)(te:TE)(ti:Rs):TS:=fun D σ H=>∃x,σ[i]?=some (some x)/\te σ H fun y H1=>ti x y H1 fun z H2=>D.nx (σ.set i (some z)) H2
def IF{i:Nat}{X:Cx}{ti:Rs}(hN:X.N.Nodup)(hi:X.N[i]?=some x)(hx:Pw X.env.scope x)(he:PE X e te)(ho:Rx X op ti)(hf:X.fn x=true\/X.env.scope.names.lookup x=some .local:=by first | exact .inl rfl | exact .inr rfl | assumption):
  PS X (.AugAssign (.Name x pos') op e pos) (SA i te ti):=by
 intro pins s σ H D I h
 obtain⟨v,e1,h⟩:=h
 obtain⟨m,hn,hl⟩:=I.loc
 have vis:Rq X.env.scope x:=by rcases hx with k | k;exact .inl k;exact .inr (.inl k)
 obtain⟨u,r,l⟩:=hl i x v hi e1 vis
 refine wpAny_AugAssign_Name ?_
 have go:dZ X (eval e X.env) (fun w s₂=>dZ X (inplaceOp op u w) (fun r s₃=>dZ X (storeName X.env x r) (fun _=>SP X pins D .next) X.xe s₃) X.xe s₂) X.xe s:=by
  refine dk (he pins s σ H _ I h) fun w s1 ⟨y,H1,I1,r1,q1⟩=>?_
  refine dk (ho pins s1 σ H1 v y u w _ I1 r r1 q1) fun z s2 ⟨zv,H2,I2,r2,q2⟩=>?_
  exact ou I2 hN hi hx r2 (fun s3 I3=>⟨_,H2,I3,q2⟩) hf
 rcases l with⟨hk,hm⟩ | ⟨hk,c,hc,WO⟩
 ·exact wpAny_loadName_local I.ok.kind hk hn hm go
 ·rcases hk with hk | hk
  ·exact wpAny_loadName_cell I.ok.kind hk hc WO go
  ·rcases hx with k | k
   ·have:X.env.scope.names.lookup x=some .free:=hk
    rw[k] at this;cases this
   ·have:X.env.scope.names.lookup x=some .free:=hk
    rw[k] at this;cases this
def Qq(to ti te:TE)(Za:V->V->Hp->VK->Prop)(tip:Rs)(Y9:Hh):TS:=fun D σ H=>to σ H fun o H1=>ti σ H1 fun i H2=>Za o i H2 fun x H3=>te σ H3 fun y H4=>tip x y H4 fun z H5=>Y9 o i z H5 fun H6=>D.nx σ H6
def Ry(X:Cx)(t:V->V->Hp->VK->Prop):Prop:=
 ∀(pins:gc) (s:Shared) (σ:St) (H:Hp) (o i:V) (ov iv:Value) (Q:VK),Inv X pins σ H s->RelV o ov->RelV i iv->t o i H Q ->
  dZ X (getItem ov iv) (EP X pins σ Q) X.xe s
def Lx{Za:V->V->Hp->VK->Prop}{tip:Rs}{Y9:Hh}(ho:PE X o to)(hi:PE X i ti)(hg:Ry X Za)(he:PE X e te)(hp:Rx X op tip)(hs:ME X Y9)(ha:∀ov iv new,augStore i ov iv new=(do holding [new,ov,iv] (setItem ov iv new);release [new,ov,iv] [];pure .next):=by intros;rfl):PS X (.AugAssign (.Subscript o i tpos) op e pos) (Qq to ti te Za tip Y9):=by
 intro pins s σ H D I h
 refine wpAny_AugAssign_SubscriptAny (dk (ho pins s σ H _ I h) fun ov s1 ⟨x1,H1,I1,r1,q1⟩=>?_) ha
 refine dk (hi pins s1 σ H1 _ I1 q1) fun iv s2 ⟨x2,H2,I2,r2,q2⟩=>?_
 refine dk (hg pins s2 σ H2 x1 x2 ov iv _ I2 r1 r2 q2) fun old s3 ⟨x3,H3,I3,r3,q3⟩=>?_
 refine dk (he pins s3 σ H3 _ I3 q3) fun v s4 ⟨x4,H4,I4,r4,q4⟩=>?_
 refine dk (hp pins s4 σ H4 x3 x4 old v _ I4 r3 r4 q4) fun new s5 ⟨x5,H5,I5,r5,q5⟩=>?_
 exact dk (hs pins s5 σ H5 x1 x2 x5 ov iv new _ I5 r1 r2 r5 q5) fun _ s6 ⟨H6,I6,q6⟩=>⟨σ,H6,I6,q6⟩
def NN(c:TT)(tb:TS):TS:=fun D σ H=>∃W:Nat->St->Hp->Prop,(∃m,W m σ H)/\∀m σ H,W m σ H ->
 c σ H fun b H1=>if b=true then ∃N:St->Hp->Prop,(∀σ' H',N σ' H'->∃m',m'<m/\W m' σ' H')/\tb { D with nx:=N,ct:=N,bk:=D.nx } σ H1 else D.nx σ H1
def wF{X:Cx}{tc:TT}(hp:PassesOwn (model X.prog X.w) X.A X.env X.xe)(hc:PT X c tc)(hb:X7 X body tb):PS X (.While c body [] pos) (NN tc tb):=by
 intro pins s σ H D I h
 obtain⟨W,⟨m0,w0⟩,turn⟩:=h
 refine wpAny_While (codeAny_whileLoop (fun n s'=>∃σ' H',Inv X pins σ' H' s'/\W n σ' H') ?_ m0 ⟨σ,H,I,w0⟩)
 rintro n s1 ⟨σ1,H1,I1,w1⟩
 refine iF hp (dk (hc pins s1 σ1 H1 _ I1 (turn n σ1 H1 w1)) fun b s2 ⟨H2,I2,q2⟩=>?_)
 cases b with
 |true=>
  obtain⟨N,hN,q2⟩:=q2
  rw[au rfl]
  refine iF hp (dk (hb pins s2 σ1 H2 _ I2 q2) fun f s3 q3=>?_)
  cases f with
  |next=>
   obtain⟨σ3,H3,I3,n3⟩:=q3
   obtain⟨m',hm,w3⟩:=hN σ3 H3 n3
   exact⟨m',hm,σ3,H3,I3,w3⟩
  |cont=>
   obtain⟨σ3,H3,I3,n3⟩:=q3
   obtain⟨m',hm,w3⟩:=hN σ3 H3 n3
   exact⟨m',hm,σ3,H3,I3,w3⟩
  |brk=>exact q3
  |ret v=>exact q3
 |false=>
  rw[aq av]
  exact DB ⟨σ1,H2,I2,q2⟩
structure It where
 go:Nat->Hp->Prop
 yld:Nat->Hp->V->Hp->Prop
 stop:Nat->Hp->Prop
 hot:Prop
def Px(X:Cx):Prop:=∃(ea:Addr) (oe:Obj) (u:HO) (vs:Array Value),X.A.handled=some (.ref ea)/\X.H₀ ea=some (.WA oe u)/\oe.data=.fields vs/\vs[2]?=some .none
def tD(X:Cx)(pins:gc)(H:Hp)(b:Addr):Prop:=
 H b=none/\b≠X.env.locals/\b∉X.fs/\(b∈X.ex\/X.s₀.heap.objs.size<=b)/\(∀x c,X.env.cells.lookup x=some c->c≠b)/\∀p∈X.pn++pins,p.1≠b
def Inv.Ym{H':Hp}{b:Addr}(I:Inv X pins σ H s)(hb:s.heap.objs.size<=b)(hn:H' b=none):tD X pins H' b:=by
 refine⟨hn,qz (bg I.lt hb),I.nofs hb,.inr (ar I.sz hb),fun x c e z=>?_,fun p hp z=>?_⟩
 ·obtain⟨v,q⟩:=I.cell x c e
  exact absurd (bg q.lt (by rw[z];exact hb)) (dL _)
 ·exact absurd (bg (aQ (I.pin p hp).1) (by rw[z];exact hb)) (dL _)
structure B1(P:Program)(w:World)(K:bW)(tg:Expr)(J:It)(fp:List Addr)(it:Addr)(tn:Nat->Heap->Prop):Prop where
 mem:it∈fp
 obj:∀i h,tn i h->∀b∈fp,∃o,h.get? b=some o/\∀v,o.data ≠ .cell v
 keep:∀i h h',tn i h->(∀b∈fp,∀o,h.get? b=some o->h'.get? b=some o)->tn i h'
 item:∀(X:Cx),X.prog=P->X.w=w->X.K=K->(X.calm=true\/(J.hot/\Px X))->∀(i:Nat) (pins:gc) (s:Shared) (σ:St) (H:Hp) (E:tG),Inv X pins σ H s->(∀b∈fp,tD X pins H b)->tn i s.heap->J.go i H ->
  wpAny (model P w) X.A (pyNext (.ref it)) (fun r s1=>∃u,r=some u /\
   wpAny (model P w) X.A (letOwnedTupleGo tg (.ref it) u) (fun _ s2=>∃x H',Inv X pins σ H' s2/\RelV x u/\J.yld i H x H'/\tn (i+1) s2.heap/\∀b∈fp,H' b=none) E s1) E s
 done:∀(X:Cx),X.prog=P->X.w=w->X.K=K->(X.calm=true\/(J.hot/\Px X))->∀(i:Nat) (pins:gc) (s:Shared) (σ:St) (H:Hp) (E:tG),Inv X pins σ H s->(∀b∈fp,tD X pins H b)->tn i s.heap->J.stop i H ->
  wpAny (model P w) X.A (pyNext (.ref it)) (fun r s1=>r=none/\Inv X pins σ H s1) E s
 self:∀(A:Around) (i:Nat) (s:Shared) (Q:tG) (E:tG),tn i s.heap->Q (.ref it) s->wpAny (model P w) A (pyIter (.ref it)) Q E s
abbrev TI:=St->Hp->(It->Hp->Prop)->Prop
def RZ(X:Cx)(pins:gc)(σ:St)(tg:Expr)(R:It->Hp->Prop)(itv:Value)(s2:Shared):Prop:=
 ∃(it:Addr) (fp:List Addr) (tn:Nat->Heap->Prop) (J:It) (H':Hp),itv=.ref it/\Inv X pins σ H' s2/\B1 X.prog X.w X.K tg J fp it tn/\tn 0 s2.heap/\(∀b∈fp,tD X pins H' b)/\R J H'
def PI(X:Cx)(tg iter:Expr)(wi:TI):Prop:=
 ∀(pins:gc) (s:Shared) (σ:St) (H:Hp) (R:It->Hp->Prop),Inv X pins σ H s->wi σ H R ->
  dZ X (eval iter X.env) (fun v s1=>dZ X (pyIter v) (RZ X pins σ tg R) X.xe s1) X.xe s
def FT{s:Shared}{it:Addr}{Q:Unit->Shared->Prop}(ho:s.heap.get? it=some o)(hc:o.cls=.type n)(hd:o.data=.fields vs)(hn:["enumerate", "zip", "dict_itemiterator", "dict_reverseitemiterator", "odict_iterator", "itertools.zip_longest", "itertools.pairwise"].contains n=false)(hQ:Q () s):wpAny M A (letOwnedTupleGo tg (.ref it) u) Q E s:=by
 unfold letOwnedTupleGo
 cases tg<;>first
  |exact ao hQ
  |(cases u<;>first
    |exact ao hQ
    |(refine ae (wpAny_load ho ?_);rw[hc,hd];show wpAny M A (if (["enumerate", "zip", "dict_itemiterator", "dict_reverseitemiterator", "odict_iterator", "itertools.zip_longest", "itertools.pairwise"].contains n&&vs[0]?==some (rawInt _))=true then _ else _) Q E s;rw[aq (by intro h;rw[hn,Bool.false_and] at h;cases h)];exact ao hQ))
def TX(K:bW)(a:Addr):It:=
 ⟨fun i H=>∃xs x,VE K H a xs/\xs[i]?=some x,fun i H x H'=>H'=H/\∀xs,VE K H a xs->xs[i]?=some x,fun i H=>∃xs,VE K H a xs/\xs.length<=i,False⟩
def TV(K:bW)(a:Addr):It:=
 ⟨fun i H=>∃xs x,VV K H a xs/\xs[i]?=some x,fun i H x H'=>H'=H/\∀xs,VV K H a xs->xs[i]?=some x,fun i H=>∃xs,VV K H a xs/\xs.length<=i,False⟩
def R1(lo:Int)(n:Nat):It:=⟨fun i _=>i<n,fun i H x H'=>H'=H/\x=.int (lo+i),fun i _=>n<=i,True⟩
def Gy{K:bW}(a it:Addr):B1 P w K tg (TX K a) [it] it (fun i h=>h.IsListIter it a i) where
 mem:=by simp
 obj:=fun i h st b hb=>by
  have e:b=it:=by simpa using hb
  subst e
  obtain⟨o,e,c,d⟩:=st
  exact⟨o,e,fun v z=>by rw[d] at z;cases z⟩
 keep:=fun i h h' st k=>st.at fun o e=>k it (by simp) o e
 item:=by
  intro X hP hw hK hc i pins s σ H E I hf st hg
  subst hP hw hK
  replace hc:=hc.resolve_right fun z=>z.1
  obtain⟨xs,x,hq,hx⟩:=hg
  obtain⟨its,rv,p,hz⟩:=I.list hq
  obtain⟨u,hu,ru⟩:=rv.get hx
  obtain⟨f0,f1,f2,f3,f4,f5⟩:=hf it (by simp)
  refine wpAny_pyNext_list_item st p.isList (x:=u) (by simpa using hu) fun h' W5 sb=>?_
  have I1:Inv X pins σ H { s with heap:=h' }:=I.turned (t':=s.toks) (fun b o hb e=>(sb.2 b hb).trans e) f0 f1 f3 f4 f5
  obtain⟨o,e,c,d⟩:=id W5
  exact⟨u,rfl,FT (s:={ s with heap:=h' }) e c d (by decide) ⟨x,H,I1,ru,⟨rfl,fun ys hy=>by rw[I.YF hy hq];exact hx⟩,W5,fun b hb=>(hf b hb).1⟩⟩
 done:=by
  intro X hP hw hK hc i pins s σ H E I hf st hg
  subst hP hw hK
  replace hc:=hc.resolve_right fun z=>z.1
  obtain⟨xs,hq,hx⟩:=hg
  obtain⟨its,rv,p,hz⟩:=I.list hq
  obtain⟨f0,f1,f2,f3,f4,f5⟩:=hf it (by simp)
  have hl:=rv.length
  exact wpAny_pyNext_list_end (I.ok.hd hc) st p.isList (by simp;lia) fun h' eb=>⟨rfl,I.turned (t':=s.toks) (fun b o hb e=>eb b o hb e) f0 f1 f3 f4 f5⟩
 self:=fun _ _ _ _ _ st h=>wpAny_pyIter_listiter st h
def DF{K:bW}(a it:Addr):B1 P w K tg (TV K a) [it] it (fun i h=>h.IsTupleIter it a i) where
 mem:=by simp
 obj:=fun i h st b hb=>by
  have e:b=it:=by simpa using hb
  subst e
  obtain⟨o,e,c,d⟩:=st
  exact⟨o,e,fun v z=>by rw[d] at z;cases z⟩
 keep:=fun i h h' st k=>st.at fun o e=>k it (by simp) o e
 item:=by
  intro X hP hw hK hc i pins s σ H E I hf st hg
  subst hP hw hK
  replace hc:=hc.resolve_right fun z=>z.1
  obtain⟨xs,x,hq,hx⟩:=hg
  obtain⟨its,rv,p,hz⟩:=I.tuple hq
  obtain⟨u,hu,ru⟩:=rv.get hx
  obtain⟨f0,f1,f2,f3,f4,f5⟩:=hf it (by simp)
  refine wpAny_pyNext_tuple_item st (show s.heap.IsTuple a its.toArray from p) (x:=u) (by simpa using hu) fun h' W5 sb=>?_
  have I1:Inv X pins σ H { s with heap:=h' }:=I.turned (t':=s.toks) (fun b o hb e=>(sb.2 b hb).trans e) f0 f1 f3 f4 f5
  obtain⟨o,e,c,d⟩:=id W5
  exact⟨u,rfl,FT (s:={ s with heap:=h' }) e c d (by decide) ⟨x,H,I1,ru,⟨rfl,fun ys hy=>by rw[I.Xz hy hq];exact hx⟩,W5,fun b hb=>(hf b hb).1⟩⟩
 done:=by
  intro X hP hw hK hc i pins s σ H E I hf st hg
  subst hP hw hK
  replace hc:=hc.resolve_right fun z=>z.1
  obtain⟨xs,hq,hx⟩:=hg
  obtain⟨its,rv,p,hz⟩:=I.tuple hq
  obtain⟨f0,f1,f2,f3,f4,f5⟩:=hf it (by simp)
  have hl:=rv.length
  exact wpAny_pyNext_tuple_end (I.ok.hd hc) st (show s.heap.IsTuple a its.toArray from p) (by simp;lia) fun h' eb=>⟨rfl,I.turned (t':=s.toks) (fun b o hb e=>eb b o hb e) f0 f1 f3 f4 f5⟩
 self:=fun _ _ _ _ _ st h=>wpAny_pyIter_tupleiter st h
def y3:entryFor table "proto.unchain"=some Builtin.«proto.unchain»:=entryFor_of_tree (by kernel_rfl)
def yf{A:Around}{s:Shared}{step:Int}{Q:Option Value->Shared->Prop}(hh:A.handled=some (.ref ea))(he:s.heap.get? ea=some oe)(hd:oe.data=.fields vs)(h2:vs[2]?=some .none)(hit:IsRangeIter s.heap it x left step)(hleft:left<=0)(hQ:∀h',Heap.ExtBut it s.heap h'->Q none { s with heap:=h' }):wpAny (model prog w) A (pyNext (.ref it)) Q E s:=by
 have hT:s.TypeIs (.ref it) "range_iterator" := ⟨_,hit,rfl⟩
 unfold pyNext
 refine ae (KQ (wpAny_callSpecial?_slot (name:=Str.ofString "__next__") hT UQ (dU UQ hT F.entry_range_iterator_next ?_ (F.args_range_iterator_next_1 _))))
 show wpAny _ _ (field (.ref it) 0 >>= _) _ _ s
 refine ae (fk hit rfl (x:=rawInt x) rfl ?_)
 show wpAny _ _ (field (.ref it) 1 >>= _) _ _ s
 refine ae (fk hit rfl (x:=rawInt left) rfl ?_)
 show wpAny _ _ (field (.ref it) 2 >>= _) _ _ s
 refine ae (fk hit rfl (x:=rawInt step) rfl ?_)
 show wpAny _ _ (if left<=0 then _ else _) _ _ s
 rw[au hleft]
 refine ae (wpAny_rule (ae ?_))
 show wpAny _ _ (newExc (.type "StopIteration") [] >>= _) _ _ _
 refine ae ?_
 simp only[newExc,newTuple]
 refine ae (cf ?_ (by size_fits))
 refine ae (m:=firstArgMember _ _) (fX (a:=Value.none) (by first | rfl | (simp only[firstArgMember];rfl)) ?_)
 refine cf ?_ (by size_fits)
 have VH:ea<s.heap.objs.size:=aQ he
 simp only[raiseNew]
 refine ae (wpAny_handled ?_)
 rw[show A.in1.handled=some (.ref ea) from hh]
 dsimp only
 have ne:(Value.ref ea != Value.ref (s.heap.push { cls:=.type "tuple",data:=.seq ([]:fR).toArray }).objs.size)=true:=by
  rw[dY]
  have:ea≠s.heap.objs.size+1:=bi (ij VH)
  simp[this]
 rw[au ne]
 have he':((s.heap.push { cls:=.type "tuple",data:=.seq ([]:fR).toArray }).push { cls:=.type "StopIteration",data:=.fields (#[.ref s.heap.objs.size,.none,.none,.none,.bool false,Value.none]++ownMembersOf (.type "StopIteration") []) }).get? ea=some oe:=Heap.get?_push_of_some _ (Heap.get?_push_of_some _ he)
 refine ae (cp (wpAny_runValue (codeAny_builtin y3 ?_)))
 unfold Builtin.«proto.unchain»
 dsimp only
 refine ae (fk he' hd h2 ?_)
 rw[au (by decide)]
 refine ao ?_
 dsimp only
 refine ae ?_
 simp only[updateField]
 refine ae (wpAny_load (Heap.get?_push_size _ rfl) ?_)
 dsimp only
 rw[au (by rw[Array.size_append];show 2<6+_;lia)]
 refine wpAny_update (Heap.get?_push_size _ rfl) ?_
 refine wpAny_throw ?_
 refine ae (B5 (T := "StopIteration") (b:=true) ⟨_,Heap.get?_update_self _ (Heap.get?_push_size _ rfl) rfl,rfl⟩ UM ?_)
 refine ao (hQ _ fun b o hb q=>?_)
 have hb2:b<s.heap.objs.size:=aQ q
 rw[Heap.get?_update_other _ _ (by rw[dY];exact qz (ij hb2))]
 exact Heap.get?_push_of_some _ (Heap.get?_push_of_some _ q)
def DG{K:bW}(it:Addr)(lo:Int)(n:Nat):B1 P w K tg (R1 lo n) [it] it (fun i h=>IsRangeIter h it (lo+(i:Nat)*1) ((n:Int)-(i:Nat)) 1) where
 mem:=by simp
 obj:=fun i h st b hb=>by
  have e:b=it:=by simpa using hb
  subst e
  exact⟨_,st,fun v z=>by
   have z':Data.fields _=Data.cell v:=z
   cases z'⟩
 keep:=fun i h h' st k=>k it (by simp) _ st
 item:=by
  intro X hP hw hK hc i pins s σ H E I hf st hg
  subst hP hw hK
  obtain⟨f0,f1,f2,f3,f4,f5⟩:=hf it (by simp)
  refine wpAny_pyNext_range_item st (by have:i<n:=hg;lia) fun h' W5 sb=>?_
  have I1:Inv X pins σ H { s with heap:=h',toks:=s.toks+1 }:=I.turned (fun b o hb e=>(sb.2 b hb).trans e) f0 f1 f3 f4 f5
  have e1:lo+(i:Nat)*1+1=lo+((i+1:Nat):Int)*1:=by lia
  have e2:(n:Int)-(i:Nat)-1=(n:Int)-((i+1:Nat):Int):=by lia
  rw[e1,e2] at W5
  refine⟨_,rfl,FT (s:={ s with heap:=h',toks:=s.toks+1 }) (n := "range_iterator") W5 rfl rfl (by decide) ⟨.int (lo+i),H,I1,⟨s.toks,?_⟩,⟨rfl,rfl⟩,W5,fun b hb=>(hf b hb).1⟩⟩
  rw[Int.mul_one]
 done:=by
  intro X hP hw hK hc i pins s σ H E I hf st hg
  subst hP hw hK
  obtain⟨f0,f1,f2,f3,f4,f5⟩:=hf it (by simp)
  rcases hc with hc | ⟨_,ea,oe,u,vs,k1,k2,k3,k4⟩
  rotate_left
  ·obtain⟨ho,_⟩:=(show Ve X.prog X.w H s.heap ea (.WA oe u) from I.Vl ea _ (I.base.Xd ea oe u k2))
   exact yf k1 ho k3 k4 st (by have:n<=i:=hg;lia) fun h' eb=>⟨rfl,I.turned (t':=s.toks) (fun b o hb e=>eb b o hb e) f0 f1 f3 f4 f5⟩
  exact wpAny_pyNext_range_end (I.ok.hd hc) st (by have:n<=i:=hg;lia) fun h' eb=>⟨rfl,I.turned (t':=s.toks) (fun b o hb e=>eb b o hb e) f0 f1 f3 f4 f5⟩
 self:=fun _ _ _ _ _ st h=>wpAny_pyIter_rangeiter st h
def QZ(K:bW)(tl:TE):TI:=fun σ H R=>tl σ H fun x H1=>∃a,x=.ref a/\(∃xs,VE K H1 a xs)/\R (TX K a) H1
def Tf(K:bW)(tl:TE):TI:=fun σ H R=>tl σ H fun x H1=>∃a,x=.ref a/\(∃xs,VV K H1 a xs)/\R (TV K a) H1
def Fy(hl:PE X l tl):PI X tg l (QZ X.K tl):=by
 intro pins s σ H R I h
 refine dk (hl pins s σ H _ I h) fun v s1 ⟨x,H1,I1,r1,q1⟩=>?_
 obtain⟨a,e,⟨xs,hq⟩,q⟩:=q1
 subst e
 cases r1
 obtain⟨its,rv,p,hz⟩:=I1.list hq
 refine PF p.isList ?_
 refine⟨s1.heap.objs.size,[s1.heap.objs.size],_,_,H1,rfl,I1.kept (t':=s1.toks) fun b o e=>Heap.get?_push_of_some _ e,Gy a _,⟨_,Heap.get?_push_size _ rfl,rfl,rfl⟩,fun b hb=>?_,q⟩
 have e:b=s1.heap.objs.size:=by simpa using hb
 subst e
 exact I1.Ym (aj _) (I1.Vl.fresh (aj _))
def IJ(hl:PE X l tl):PI X tg l (Tf X.K tl):=by
 intro pins s σ H R I h
 refine dk (hl pins s σ H _ I h) fun v s1 ⟨x,H1,I1,r1,q1⟩=>?_
 obtain⟨a,e,⟨xs,hq⟩,q⟩:=q1
 subst e
 cases r1
 obtain⟨its,rv,p,hz⟩:=I1.tuple hq
 refine va (show s1.heap.IsTuple a its.toArray from p) ?_
 refine⟨s1.heap.objs.size,[s1.heap.objs.size],_,_,H1,rfl,I1.kept (t':=s1.toks) fun b o e=>Heap.get?_push_of_some _ e,DF a _,⟨_,Heap.get?_push_size _ rfl,rfl,rfl⟩,fun b hb=>?_,q⟩
 have e:b=s1.heap.objs.size:=by simpa using hb
 subst e
 exact I1.Ym (aj _) (I1.Vl.fresh (aj _))
def Iz{lo hi:Int}{tk:Nat}{R:It->Hp->Prop}(I:Inv X pins σ H s)(h1 : -(2 ^ 62)<=lo)(h2:lo<2 ^ 62)(h3 : -(2 ^ 62)<=hi)(h4:hi<2 ^ 62)(q:R (R1 lo (hi-lo).toNat) H):dZ X (pyIter (.ref s.heap.objs.size)) (RZ X pins σ tg R) E { s with heap:=s.heap.push { cls:=.type "range",data:=.fields #[.int lo t,.int hi u,.int 1 v] },toks:=tk }:=by
 refine wpAny_pyIter_range (IsRange.new ..) (small_one h1 h2 h3 h4) ?_
 have I1:Inv X pins σ H { s with heap:=s.heap.push { cls:=.type "range",data:=.fields #[.int lo t,.int hi u,.int 1 v] },toks:=tk }:=I.kept fun b o e=>Heap.get?_push_of_some _ e
 refine⟨(s.heap.push { cls:=.type "range",data:=.fields #[.int lo t,.int hi u,.int 1 v] }).objs.size,[(s.heap.push { cls:=.type "range",data:=.fields #[.int lo t,.int hi u,.int 1 v] }).objs.size],_,_,H,rfl,
  I1.kept (t':=tk) fun b o e=>Heap.get?_push_of_some _ e,DG _ lo (hi-lo).toNat,?_,fun b hb=>?_,q⟩
 ·have e1:lo+((0:Nat):Int)*1=lo:=by simp
  have e2:(((hi-lo).toNat:Nat):Int)-((0:Nat):Int)=Builtin.Range.rangeSize lo hi 1:=by rw[rangeSize_one];split<;>lia
  show IsRangeIter _ _ (lo+((0:Nat):Int)*1) ((((hi-lo).toNat:Nat):Int)-((0:Nat):Int)) 1
  rw[e1,e2]
  exact Heap.get?_push_size _ rfl
 ·have e:b=(s.heap.push { cls:=.type "range",data:=.fields #[.int lo t,.int hi u,.int 1 v] }).objs.size:=by simpa using hb
  subst e
  exact I1.Ym (aj _) (I1.Vl.fresh (aj _))
def QY(ta:TA):TI:=fun σ H R=>ta σ H fun vs H1=>∃j:Int,vs=[.int j]/\-(2 ^ 62)<=j/\j<2 ^ 62/\R (R1 0 j.toNat) H1
def An(hg:Gl X "range")(hm:X.mg "range"=none)(ha:PA X [a] ta)(hs:starEach [a] X.env=[(false,eval a X.env)]:=by rfl):PI X tg (.Call (.Name "range" p) [a] [] pos) (QY ta):=by
 intro pins s σ H R I h
 refine Call_ (xi I hg hm boot_range (qx (dk (ha pos pins s σ H _ I h) fun us s1 ⟨vs,H1,I1,r1,q1⟩=>?_) hs rfl))
 obtain⟨j,e,q1,q2,q⟩:=q1
 subst e
 cases r1 with
 |cons r rr=>
  cases rr
  obtain⟨t,rfl⟩:=r
  exact call_range_1 (Iz I1 (by lia) (by lia) q1 q2 (by simpa using q))
def Sx(wi:TI)(g:TG)(tb:TS):TS:=fun D σ H=>wi σ H fun J H1=>∃W:Nat->Nat->St->Hp->Prop,(∃m,W 0 m σ H1)/\∀i m σ H,W i m σ H ->
 (J.stop i H/\D.nx σ H)\/(J.go i H/\∃N:St->Hp->Prop,(∀σ' H',N σ' H'->∃m',m'<m/\W (i+1) m' σ' H')/\∀x H',J.yld i H x H'->g x σ H' fun σ2 H2=>tb { D with nx:=N,ct:=N,bk:=D.nx } σ2 H2)
def A2(fp:List Addr)(h:Heap):gc:=fp.filterMap fun b=>(h.get? b).map fun o=>(b,o)
def mJ{fp:List Addr}{h:Heap}{b:Addr}(hb:b∈fp)(e:h.get? b=some o):(b,o)∈A2 fp h:=List.mem_filterMap.mpr ⟨b,hb,by rw[e];rfl⟩
def GQ{p:Addr×Obj}(hp:p∈A2 fp h):p.1∈fp/\h.get? p.1=some p.2:=by
 obtain⟨b,hb,e⟩:=List.mem_filterMap.mp hp
 cases q:h.get? b with
 |none=>rw[q] at e;cases e
 |some o=>
  rw[q] at e
  have e':(b,o)=p:=bx e
  subst e'
  exact⟨hb,q⟩
def Inv.pinned{fp:List Addr}(I:Inv X pins σ H s)(hf:∀b∈fp,tD X pins H b)(ho:∀b∈fp,∃o,s.heap.get? b=some o/\∀v,o.data ≠ .cell v):Inv X (pins++A2 fp s.heap) σ H s:=
 I.Yb fun p hp=>(List.mem_append.mp hp).elim (fun z=>I.pin p (bH _ z)) fun z=>by
  obtain⟨hb,e⟩:=GQ z
  obtain⟨f0,f1,f2,_⟩:=hf p.1 hb
  obtain⟨o,e',d⟩:=ho p.1 hb
  rw[e] at e';cases e'
  exact⟨e,f0,f1,f2,d⟩
def Inv.WJ{pins pl:gc}(I:Inv X (pins++pl) σ H s):Inv X pins σ H s:=I.Yb fun p hp=>I.pin p (bH _ (UP _ hp))
def DU{X:Cx}(hp:PassesOwn (model X.prog X.w) X.A X.env X.xe)(hc:X.calm=true)(hi:PI X tg iter wi)(hg:PG X tg g)(hb:X7 X body tb)(hs:∀x,foldedSetIterable iter X.env x=pure x:=by intro _;rfl):PS X (.For tg iter body [] pos) (Sx wi g tb):=by
 intro pins s σ H D I h
 refine wpAny_For (dk (hi pins s σ H _ I h) fun v s1 h1=>dk h1 fun itv s2 h2=>?_) hs
 obtain⟨it,fp,tn,J,H2,e,I2,T,st2,f2,W,⟨m0,w0⟩,turn⟩:=h2
 subst e
 have stat:∀{H':Hp},(∀b∈fp,H' b=none)->∀b∈fp,tD X pins H' b:=fun hn b hb=>⟨hn b hb,(f2 b hb).2⟩
 refine codeAny_forLoop_any (fun n s'=>∃i σ' H',Inv X pins σ' H' s'/\tn i s'.heap/\(∀b∈fp,H' b=none)/\W i n σ' H') ?_ m0 ⟨0,σ,H2,I2,st2,fun b hb=>(f2 b hb).1,w0⟩
 rintro n s3 ⟨i,σ3,H3,I3,st3,fr3,w3⟩
 rcases turn i n σ3 H3 w3 with⟨stop,qn⟩ | ⟨go,N,hN,step⟩
 ·refine iF hp (dk (T.done X rfl rfl rfl (.inl hc) i pins s3 σ3 H3 X.xe I3 (stat fr3) st3 stop) fun r s4 ⟨hr,I4⟩=>?_)
  subst hr
  exact DB ⟨σ3,H3,I4,qn⟩
 ·refine iF hp (dk (T.item X rfl rfl rfl (.inl hc) i pins s3 σ3 H3 X.xe I3 (stat fr3) st3 go) fun r s4 ⟨u,hr,h4⟩=>?_)
  subst hr
  refine iF hp (dk h4 fun _ s5 ⟨x,H5,I5,r5,y5,ZM,fr5⟩=>?_)
  have I5':=I5.pinned (stat fr5) (T.obj _ _ ZM)
  refine iF hp (dk (hg _ s5 σ3 H5 x u _ I5' r5 (step x H5 y5)) fun _ s6 ⟨σ6,H6,I6,q6⟩=>?_)
  refine iF hp (dk (hb _ s6 σ6 H6 _ I6 q6) fun f s7 q7=>?_)
  have again:∀{σ7:St} {H7:Hp},Inv X (pins++A2 fp s5.heap) σ7 H7 s7->N σ7 H7->∃m,m<n/\∃i σ' H',Inv X pins σ' H' s7/\tn i s7.heap/\(∀b∈fp,H' b=none)/\W i m σ' H':=fun {σ7 H7} I7 n7=>by
   obtain⟨m',hm,w7⟩:=hN σ7 H7 n7
   refine⟨m',hm,i+1,σ7,H7,I7.WJ,T.keep _ _ _ ZM fun b hb o e=>(I7.pin (b,o) (bH _ (bH _ (mJ hb e)))).1,fun b hb=>?_,w7⟩
   obtain⟨o,e,d⟩:=T.obj _ _ ZM b hb
   exact(I7.pin (b,o) (bH _ (bH _ (mJ hb e)))).2.1
  cases f with
  |next=>obtain⟨σ7,H7,I7,n7⟩:=q7;exact again I7 n7
  |cont=>obtain⟨σ7,H7,I7,n7⟩:=q7;exact again I7 n7
  |brk=>obtain⟨σ7,H7,I7,q7⟩:=q7;exact⟨σ7,H7,I7.WJ,q7⟩
  |ret v=>obtain⟨x7,σ7,H7,I7,r7,q7⟩:=q7;exact⟨x7,σ7,H7,I7.WJ,r7,q7⟩
abbrev R2:=V->V->Hp->VK->Prop
def lP(X:Cx)(f:Value->Value->Sem Value)(r:R2):Prop:=
 ∀(pins:gc) (s:Shared) (σ:St) (H:Hp) (x y:V) (v u:Value) (Q:VK),Inv X pins σ H s->RelV x v->RelV y u->r x y H Q ->
  dZ X (f v u) (EP X pins σ Q) X.xe s
def TH(X:Cx)(f:Value->Sem Value)(r:V->Hp->VK->Prop):Prop:=
 ∀(pins:gc) (s:Shared) (σ:St) (H:Hp) (x:V) (v:Value) (Q:VK),Inv X pins σ H s->RelV x v->r x H Q ->
  dZ X (f v) (EP X pins σ Q) X.xe s
def gn(X:Cx)(f:Value)(r:df->Hp->VK->Prop):Prop:=
 ∀(pins:gc) (s:Shared) (σ:St) (H:Hp) (xs:df) (us:fR) (Q:VK),Inv X pins σ H s->Vals xs us->r xs H Q ->
  dZ X (call f us) (EP X pins σ Q) X.xe s
def TJ(X:Cx)(r:V->Hp->(Bool->Hp->Prop)->Prop):Prop:=
 ∀(pins:gc) (s:Shared) (σ:St) (H:Hp) (x:V) (v:Value) (Q:Bool->Hp->Prop),Inv X pins σ H s->RelV x v->r x H Q ->
  dZ X (truthy v) (TP X pins σ Q) X.xe s
def RS(r:R2)(ta tb:TE):TE:=fun σ H Q=>ta σ H fun x H1=>tb σ H1 fun y H2=>r x y H2 Q
def Ux(r:V->Hp->VK->Prop)(ta:TE):TE:=fun σ H Q=>ta σ H fun x H1=>r x H1 Q
def rI(C:Int->Int->Prop)(g:Int->Int->V):R2:=fun x y H Q=>∃i j,x=.int i/\y=.int j/\C i j/\Q (g i j) H
def KL(g:Int->Int->V):R2:=fun x y H Q=>∃i j,x=.int i/\y=.int j/\Q (g i j) H
def rU(g:Int->V):V->Hp->VK->Prop:=fun x H Q=>∃i,x=.int i/\Q (g i) H
def Pq(ha:PE X a ta)(hb:PE X b tb){R:V->V->Hp->Prop}(I:Inv X pins σ H s)(h:ta σ H fun x H1=>tb σ H1 fun y H2=>R x y H2){f:Value->Value->Sem Value}(hf:∀v u s2 x y H2,Inv X pins σ H2 s2->RelV x v->RelV y u->R x y H2->dZ X (f v u) Q X.xe s2):
  dZ X (eval a X.env) (fun v s₁=>dZ X (eval b X.env) (fun u s₂=>dZ X (f v u) Q X.xe s₂) X.xe s₁) X.xe s:=by
 refine dk (ha pins s σ H _ I h) fun v s1 ⟨x,H1,I1,r1,q1⟩=>?_
 refine dk (hb pins s1 σ H1 _ I1 q1) fun u s2 ⟨y,H2,I2,r2,q2⟩=>?_
 exact hf v u s2 x y H2 I2 r1 r2 q2
def l5{r:R2}(ho:lP X (binaryOp op) r)(ha:PE X a ta)(hb:PE X b tb):PE X (.BinOp a op b pos) (RS r ta tb):=by
 intro pins s σ H Q I h
 exact wpAny_BinOp (Pq ha hb I h fun v u s2 x y H2 I2 rx ry q=>ho pins s2 σ H2 x y v u Q I2 rx ry q)
def QL{op:UnaryOp}{r:V->Hp->VK->Prop}(ho:TH X (unaryOp op) r)(ha:PE X a ta):PE X (.UnaryOp op a pos) (Ux r ta):=by
 intro pins s σ H Q I h
 exact UnaryOp_ (dk (ha pins s σ H _ I h) fun v s1 ⟨x,H1,I1,r1,q1⟩=>ho pins s1 σ H1 x v Q I1 r1 q1)
def QO{f:Value->Value->Sem Value}{C:Int->Int->Prop}{g:Int->Int->Int}(rule:∀(i j:Int) (t u:Tok) (s:Shared) (Q:tG) (E:tG),C i j->Q (.int (g i j) s.toks) { s with toks:=s.toks+1 }->dZ X (f (.int i t) (.int j u)) Q E s):
  lP X f (rI C fun i j=>.int (g i j)):=by
 intro pins s σ H x y v u Q I rx ry h
 obtain⟨i,j,rfl,rfl,hc,q⟩:=h
 obtain⟨t,rfl⟩:=rx
 obtain⟨t',rfl⟩:=ry
 exact rule i j t t' s _ _ hc ⟨.int (g i j),H,I.tok _,⟨_,rfl⟩,q⟩
def Oq{f:Value->Value->Sem Value}{g:Int->Int->Int}(rule:∀(i j:Int) (t u:Tok) (s:Shared) (Q:tG) (E:tG),Q (.int (g i j) s.toks) { s with toks:=s.toks+1 }->dZ X (f (.int i t) (.int j u)) Q E s):
  lP X f (KL fun i j=>.int (g i j)):=by
 intro pins s σ H x y v u Q I rx ry h
 obtain⟨i,j,rfl,rfl,q⟩:=h
 obtain⟨t,rfl⟩:=rx
 obtain⟨t',rfl⟩:=ry
 exact rule i j t t' s _ _ ⟨.int (g i j),H,I.tok _,⟨_,rfl⟩,q⟩
def Os{f:Value->Value->Sem Value}{g:Int->Int->Bool}(rule:∀(i j:Int) (t u:Tok) (s:Shared) (Q:tG) (E:tG),Q (.bool (g i j)) s->dZ X (f (.int i t) (.int j u)) Q E s):
  lP X f (KL fun i j=>.bl (g i j)):=by
 intro pins s σ H x y v u Q I rx ry h
 obtain⟨i,j,rfl,rfl,q⟩:=h
 obtain⟨t,rfl⟩:=rx
 obtain⟨t',rfl⟩:=ry
 exact rule i j t t' s _ _ ⟨.bl (g i j),H,I,rfl,q⟩
def RH(i j:Int):Prop:=0<=j/\j<=1000000/\i.natAbs<2 ^ 64
def Oo:lP X (binaryOp .Add) (KL fun i j=>.int (i+j)):=Oq fun _ _ _ _ _ _ _ q=>add_int q
def Oh:lP X (binaryOp .Sub) (KL fun i j=>.int (i-j)):=Oq fun _ _ _ _ _ _ _ q=>sub_int q
def IS:lP X (binaryOp .Mod) (rI (fun _ j=>0<j) fun i j=>.int (i%j)):=QO fun i j _ _ _ _ _ hc q=>by
 have h1:(0:Int)<j:=hc
 exact mod_int' (by lia) (by rw[Int.fmod_eq_emod_of_nonneg i (by lia)];exact q)
def Oj:lP X (binaryOp .Pow) (rI RH fun i j=>.int (i ^ j.toNat)):=QO fun _ _ _ _ _ _ _ hc q=>pow_int_small hc.1 hc.2.1 hc.2.2 q
def On:lP X (binaryOp .BitAnd) (KL fun i j=>.int (Builtin.bitAnd i j)):=Oq fun _ _ _ _ _ _ _ q=>and_int q
def Uw{f:Value->Sem Value}{g:Int->Int}(rule:∀(i:Int) (t:Tok) (s:Shared) (Q:tG) (E:tG),Q (.int (g i) s.toks) { s with toks:=s.toks+1 }->dZ X (f (.int i t)) Q E s):
  TH X f (rU fun i=>.int (g i)):=by
 intro pins s σ H x v Q I rx h
 obtain⟨i,rfl,q⟩:=h
 obtain⟨t,rfl⟩:=rx
 exact rule i t s _ _ ⟨.int (g i),H,I.tok _,⟨_,rfl⟩,q⟩
def NF:TH X (unaryOp .USub) (rU fun i=>.int (-i)):=Uw fun _ _ _ _ _ q=>neg_int q
def Qz:V->V->Bool
 |.Vs,.Vs=>true | .Vs,.int _=>true | .int _,.Vs=>true | .Vs,.bl _=>true | .bl _,.Vs=>true | .Vs,.str _=>true | .str _,.Vs=>true
 |.int _,.int _=>true | .bl _,.bl _=>true | .str _,.str _=>true | .Yg _,.Yg _=>true
 |.int _,.str _=>true | .str _,.int _=>true | .bl _,.str _=>true | .str _,.bl _=>true
 |_,_=>false
def UE:R2:=fun x y H Q=>Qz x y=true/\Q (.bl (decide (x=y))) H
def UD:R2:=fun x y H Q=>Qz x y=true/\Q (.bl (!decide (x=y))) H
def sY{i:Int}:decide (V.int i=V.int j)=(i==j):=by
 rw[x9]
 simp
def J5{i:Bool}:decide (V.bl i=V.bl j)=(i==j):=by
 rw[x9]
 simp
def Gf{i:Str}:decide (V.str i=V.str j)=(i==j):=by
 rw[x9]
 simp
def Gg{i j:Array UInt8}:decide (V.Yg i=V.Yg j)=(i.toList==j.toList):=by
 rw[x9]
 cases i
 cases j
 simp
def cG{Q:VK}{k':Bool}(I:Inv X pins σ H s)(q:Q (.bl k) H)(e:k=k'):EP X pins σ Q (.bool k') s:=by
 subst e
 exact⟨.bl k,H,I,rfl,q⟩
def IU:lP X (compareOp .Eq) UE:=by
 intro pins s σ H x y v u Q I rx ry h
 obtain⟨hs,q⟩:=h
 cases x with
 |Vs=>
  cases rx
  cases y with
  |Vs=>cases ry;exact PySem.EqNone.eq_none_none (cG I q (by simp))
  |bl j=>cases ry;exact PySem.EqNone.eq_none_bool (cG I q (by simp))
  |int j=>obtain⟨t',rfl⟩:=ry;exact PySem.EqNone.eq_none_int (cG I q (by simp))
  |str j=>obtain⟨t',rfl⟩:=ry;exact PySem.EqNone.eq_none_str (cG I q (by simp))
  |_=>exact absurd (show false=true from hs) av
 |bl i=>
  cases rx
  cases y with
  |Vs=>cases ry;exact PySem.EqNone.eq_bool_none (cG I q (by simp))
  |bl j=>cases ry;exact eq_bool (cG I q J5)
  |str j=>obtain⟨t',rfl⟩:=ry;exact PySem.EqMixed.eq_bool_str (cG I q (by simp))
  |_=>exact absurd (show false=true from hs) av
 |int i=>
  obtain⟨t,rfl⟩:=rx
  cases y with
  |Vs=>cases ry;exact PySem.EqNone.eq_int_none (cG I q (by simp))
  |int j=>obtain⟨t',rfl⟩:=ry;exact eq_int (cG I q sY)
  |str j=>obtain⟨t',rfl⟩:=ry;exact PySem.EqMixed.eq_int_str (cG I q (by simp))
  |_=>exact absurd (show false=true from hs) av
 |str i=>
  obtain⟨t,rfl⟩:=rx
  cases y with
  |Vs=>cases ry;exact PySem.EqNone.eq_str_none (cG I q (by simp))
  |bl j=>cases ry;exact PySem.EqMixed.eq_str_bool (cG I q (by simp))
  |int j=>obtain⟨t',rfl⟩:=ry;exact PySem.EqMixed.eq_str_int (cG I q (by simp))
  |str j=>obtain⟨t',rfl⟩:=ry;exact eq_str (cG I q Gf)
  |_=>exact absurd (show false=true from hs) av
 |Yg i=>
  obtain⟨t,rfl⟩:=rx
  cases y with
  |Yg j=>obtain⟨t',rfl⟩:=ry;exact PySem.W.eq_bytes (cG I q Gg)
  |_=>exact absurd (show false=true from hs) av
 |_=>cases y<;>exact absurd (show false=true from hs) av
def M2:lP X (compareOp .NotEq) UD:=by
 intro pins s σ H x y v u Q I rx ry h
 obtain⟨hs,q⟩:=h
 cases x with
 |Vs=>
  cases rx
  cases y with
  |Vs=>cases ry;exact PySem.EqNone.ne_none_none (cG I q (by simp))
  |bl j=>cases ry;exact PySem.EqNone.ne_none_bool (cG I q (by simp))
  |int j=>obtain⟨t',rfl⟩:=ry;exact PySem.EqNone.ne_none_int (cG I q (by simp))
  |str j=>obtain⟨t',rfl⟩:=ry;exact PySem.EqNone.ne_none_str (cG I q (by simp))
  |_=>exact absurd (show false=true from hs) av
 |bl i=>
  cases rx
  cases y with
  |Vs=>cases ry;exact PySem.EqNone.ne_bool_none (cG I q (by simp))
  |bl j=>cases ry;exact ne_bool (cG I q (bv not J5))
  |str j=>obtain⟨t',rfl⟩:=ry;exact PySem.EqMixed.ne_bool_str (cG I q (by simp))
  |_=>exact absurd (show false=true from hs) av
 |int i=>
  obtain⟨t,rfl⟩:=rx
  cases y with
  |Vs=>cases ry;exact PySem.EqNone.ne_int_none (cG I q (by simp))
  |int j=>obtain⟨t',rfl⟩:=ry;exact ne_int (cG I q (bv not sY))
  |str j=>obtain⟨t',rfl⟩:=ry;exact PySem.EqMixed.ne_int_str (cG I q (by simp))
  |_=>exact absurd (show false=true from hs) av
 |str i=>
  obtain⟨t,rfl⟩:=rx
  cases y with
  |Vs=>cases ry;exact PySem.EqNone.ne_str_none (cG I q (by simp))
  |bl j=>cases ry;exact PySem.EqMixed.ne_str_bool (cG I q (by simp))
  |int j=>obtain⟨t',rfl⟩:=ry;exact PySem.EqMixed.ne_str_int (cG I q (by simp))
  |str j=>obtain⟨t',rfl⟩:=ry;exact ne_str (cG I q (bv not Gf))
  |_=>exact absurd (show false=true from hs) av
 |Yg i=>
  obtain⟨t,rfl⟩:=rx
  cases y with
  |Yg j=>obtain⟨t',rfl⟩:=ry;exact PySem.W.ne_bytes (cG I q (bv not Gg))
  |_=>exact absurd (show false=true from hs) av
 |_=>cases y<;>exact absurd (show false=true from hs) av
def M3:lP X (compareOp .Lt) (KL fun i j=>.bl (decide (i<j))):=Os fun _ _ _ _ _ _ _ q=>lt_int q
def IT:lP X (compareOp .Gt) (KL fun i j=>.bl (decide (j<i))):=Os fun _ _ _ _ _ _ _ q=>gt_int q
def QN:lP X (compareOp .GtE) (KL fun i j=>.bl (decide (j<=i))):=Os fun _ _ _ _ _ _ _ q=>ge_int q
def Ap:lP X (compareOp .In) (fun x y H Q=>∃i j,x=.str i/\y=.str j/\Q (.bl (!(Builtin.Str.occurrences j i 0 j.length 1).isEmpty)) H):=by
 intro pins s σ H x y v u Q I rx ry h
 obtain⟨i,j,rfl,rfl,q⟩:=h
 obtain⟨t,rfl⟩:=rx
 obtain⟨t',rfl⟩:=ry
 exact in_str (cG I q rfl)
def S5(b:Expr){op:CmpOp}(h:op ≠ .In:=by decide)(h2:op ≠ .NotIn:=by decide):behindInMarks op b=false:=by
 have e1:(op==CmpOp.In)=false:=by cases op<;>first | rfl | exact absurd rfl h
 have e2:(op==CmpOp.NotIn)=false:=by cases op<;>first | rfl | exact absurd rfl h2
 cases b<;>simp[behindInMarks,e1,e2]
def kX{op:CmpOp}{r:R2}(ho:lP X (compareOp op) r)(ha:PE X a ta)(hb:PE X b tb)(hm:behindInMarks op b=false):PE X (.Compare a [op] [b] pos) (RS r ta tb):=by
 intro pins s σ H Q I h
 exact wpAny_Compare1 (Pq ha hb I h fun v u s2 x y H2 I2 rx ry q=>ho pins s2 σ H2 x y v u Q I2 rx ry q) hm
def Qh(t:TE):TT:=fun σ H Q=>t σ H fun x H'=>∃k,x=.bl k/\Q k H'
def eg{op:CmpOp}{r:R2}(ho:lP X (compareOp op) r)(ha:PE X a ta)(hb:PE X b tb)(hm:behindInMarks op b=false):PT X (.Compare a [op] [b] pos) (Qh (RS r ta tb)):=by
 intro pins s σ H Q I h
 refine wpAny_isTrue_Compare1 (dk (ha pins s σ H _ I h) fun v s1 ⟨x,H1,I1,r1,q1⟩=>dk (hb pins s1 σ H1 _ I1 q1) fun u s2 ⟨y,H2,I2,r2,q2⟩=>
  dk (ho pins s2 σ H2 x y v u _ I2 r1 r2 q2) fun c s3 ⟨z,H3,I3,r3,k,e,q3⟩=>?_) hm
 subst e
 cases r3
 exact eJ ⟨H3,I3,q3⟩
def Rr(K:bW)(x:V)(H:Hp)(k:Bool):Prop:=
 match x with
 |.Vs=>k=false
 |.bl b=>k=b
 |.int i=>k=(i != 0)
 |.str y=>y.length<=sizeLine/\k=((y.length:Int) != 0)
 |.Yg y=>y.size<=sizeLine/\k=((y.size:Int) != 0)
 |.ref p=>(∃xs,VE K H p xs/\k = !xs.isEmpty)\/(∃xs,VV K H p xs/\k = !xs.isEmpty)\/∃kvs,H p=some (.dK kvs)/\k = !kvs.isEmpty
 |_=>False
def En{κ:Type}{kvs:List (κ×V)}{vs:List (κ×Value)}(r:KV kvs vs):(!vs.isEmpty) = !kvs.isEmpty:=by
 cases r<;>rfl
def xj(r:Vals xs its):(!its.toArray.isEmpty) = !xs.isEmpty:=by
 cases r<;>simp
def oU:(sizeLine:Nat)<2 ^ 63:=by rw[fZ];decide
def NI:TJ X (fun x H Q=>∃k,Rr X.K x H k/\Q k H):=by
 intro pins s σ H x v Q I rx h
 obtain⟨k,e,q⟩:=h
 have hl:=oU
 have hs:sizeLine=16777216:=fZ
 cases x with
 |Vs=>
  cases rx
  have e':k=false:=e
  subst e'
  exact truthy_none ⟨H,I,q⟩
 |bl b=>
  cases rx
  have e':k=b:=e
  subst e'
  exact eJ ⟨H,I,q⟩
 |int i=>
  obtain⟨t,rfl⟩:=rx
  have e':k=(i != 0):=e
  subst e'
  exact PySem.P.truthy_int ⟨H,I,q⟩
 |str y=>
  obtain⟨t,rfl⟩:=rx
  obtain⟨hy,e'⟩:y.length<=sizeLine/\k=((y.length:Int) != 0):=e
  subst e'
  exact PySem.P.truthy_str (by lia) ⟨H,I.tok _,q⟩
 |Yg y=>
  obtain⟨t,rfl⟩:=rx
  obtain⟨hy,e'⟩:y.size<=sizeLine/\k=((y.size:Int) != 0):=e
  subst e'
  exact PySem.W.truthy_bytes (by lia) ⟨H,I.tok _,q⟩
 |ref p=>
  cases rx
  have e':(∃xs,VE X.K H p xs/\k = !xs.isEmpty)\/(∃xs,VV X.K H p xs/\k = !xs.isEmpty)\/∃kvs,H p=some (.dK kvs)/\k = !kvs.isEmpty:=e
  rcases e' with⟨xs,hx,e'⟩ | ⟨xs,hx,e'⟩ | ⟨kvs,hx,e'⟩
  ·subst e'
   obtain⟨its,r,pl,hz⟩:=I.list hx
   have hlen:=r.length
   exact wpAny_truthy_list pl.isList (by simp only[az];lia) ⟨H,I.tok _,by rw[xj r];exact q⟩
  ·subst e'
   obtain⟨its,r,pl,hz⟩:=I.tuple hx
   have hlen:=r.length
   exact truthy_tuple pl (by simp only[az];lia) ⟨H,I.tok _,by rw[xj r];exact q⟩
  ·subst e'
   obtain⟨hz,hS,vs,r,m⟩:kvs.length<=sizeLine/\(p==sysModules)=false/\∃vs,KV kvs vs/\s.heap.DictOf (gu X.prog X.w) p vs:=I.Vl p _ hx
   have hlen:kvs.length=vs.length:=Paired.length r
   exact wpAny_truthy_dict hS m (by lia) ⟨H,I.tok _,by rw[En r];exact q⟩
 |_=>exact(show False from e).elim
def ID(ha:PE X a ta)(he:∀whole,isTrue a X.env whole=(do let v <-whole;standAt a.pos;holding [v] (truthy v))):
  PT X a (fun σ H Q=>ta σ H fun x H'=>∃k,Rr X.K x H' k/\Q k H'):=by
 intro pins s σ H Q I h
 exact isTrue_plain (dk (ha pins s σ H _ I h) fun v s1 ⟨x,H1,I1,r1,q1⟩=>NI pins s1 σ H1 x v Q I1 r1 q1) (he _)
def qV:lP X (binaryOp .Add) (fun x y H Q=>∃i j,x=.str i/\y=.str j/\i.length+j.length<=sizeLine/\Q (.str (i++j)) H):=by
 intro pins s σ H x y v u Q I rx ry h
 obtain⟨i,j,rfl,rfl,hz,q⟩:=h
 obtain⟨t,rfl⟩:=rx
 obtain⟨t',rfl⟩:=ry
 exact add_str (fun t' tk=>⟨.str (i++j),H,I.tok _,⟨_,rfl⟩,q⟩) hz
def CV:lP X (inplaceOp .Add) (fun x y H Q=>∃i j,x=.str i/\y=.str j/\i.length+j.length<=sizeLine/\Q (.str (i++j)) H):=by
 intro pins s σ H x y v u Q I rx ry h
 obtain⟨i,j,rfl,rfl,hz,q⟩:=h
 obtain⟨t,rfl⟩:=rx
 obtain⟨t',rfl⟩:=ry
 exact iadd_str (fun t' tk=>⟨.str (i++j),H,I.tok _,⟨_,rfl⟩,q⟩) hz
def iW(r:Vals [x] us):∃u,us=[u]/\RelV x u:=by
 cases r with
 |cons r1 r2=>cases r2;exact⟨_,rfl,r1⟩
def z6(r:Vals [x,y] us):∃u w',us=[u,w']/\RelV x u/\RelV y w':=by
 cases r with
 |cons r1 r2=>
  cases r2 with
  |cons r3 r4=>cases r4;exact⟨_,_,rfl,r1,r3⟩
def Kg:gn X (.builtin "abs") (fun xs H Q=>∃i,xs=[.int i]/\Q (.int (if i<0 then -i else i)) H):=by
 intro pins s σ H xs us Q I r h
 obtain⟨i,rfl,q⟩:=h
 obtain⟨u,rfl,t,rfl⟩:=iW r
 exact call_abs_int fun u tk=>⟨.int (if i<0 then -i else i),H,I.tok _,⟨_,rfl⟩,q⟩
def G8{X:Cx}(hc:X.calm=true):gn X (.builtin "max") (fun xs H Q=>∃i j,xs=[.int i,.int j]/\Q (.int (if j > i then j else i)) H):=by
 intro pins s σ H xs us Q I r h
 obtain⟨i,j,rfl,q⟩:=h
 obtain⟨u,w',rfl,⟨t,rfl⟩,⟨t',rfl⟩⟩:=z6 r
 refine max_two_ints (I.ok.hd hc) fun h' tk k=>⟨_,H,I.kept k,?_,q⟩
 by_cases hj:j > i
 ·rw[au hj,au hj];exact⟨_,rfl⟩
 ·rw[aq hj,aq hj];exact⟨_,rfl⟩
def G7{X:Cx}(hc:X.calm=true):gn X (.builtin "min") (fun xs H Q=>∃i j,xs=[.int i,.int j]/\Q (.int (if j<i then j else i)) H):=by
 intro pins s σ H xs us Q I r h
 obtain⟨i,j,rfl,q⟩:=h
 obtain⟨u,w',rfl,⟨t,rfl⟩,⟨t',rfl⟩⟩:=z6 r
 refine min_two_ints (I.ok.hd hc) fun h' tk k=>⟨_,H,I.kept k,?_,q⟩
 by_cases hj:j<i
 ·rw[au hj,au hj];exact⟨_,rfl⟩
 ·rw[aq hj,aq hj];exact⟨_,rfl⟩
def G9:gn X (.type "int") (fun xs H Q=>(∃i,xs=[.int i]/\Q (.int i) H)\/∃k,xs=[.bl k]/\Q (.int (if k then 1 else 0)) H):=by
 intro pins s σ H xs us Q I r h
 rcases h with⟨i,rfl,q⟩ | ⟨k,rfl,q⟩
 ·obtain⟨u,rfl,t,rfl⟩:=iW r
  exact call_int_int ⟨.int i,H,I,⟨_,rfl⟩,q⟩
 ·obtain⟨u,rfl,r1⟩:=iW r
  cases r1
  exact call_int_bool ⟨.int (if k then 1 else 0),H,I.tok _,⟨_,rfl⟩,q⟩
def BH:gn X (.type "str") (fun xs H Q=>∃i,xs=[.int i]/\i.natAbs.log2<1920/\Q (.str (toString i)) H):=by
 intro pins s σ H xs us Q I r h
 obtain⟨i,rfl,hz,q⟩:=h
 obtain⟨u,rfl,t,rfl⟩:=iW r
 exact PySem.P.str_of_int hz ⟨.str _,H,I.tok _,⟨_,rfl⟩,q⟩
structure Yq(h:Heap)(x dx C:Addr)(mA:ux):Prop where
 obj:h.get? x=some (PySem.W.instObj C dx)
 ns:h.Ns1 dx mA
 ne:dx≠x
def GT{h:Heap}(n:h.Ns1 dx mA):∃od,h.get? dx=some od/\∀name,PySem.W.lookIn name od=some (mA name):=by
 obtain⟨o,es,ep,ho,hd,hk,_,hm⟩:=n
 refine⟨o,ho,fun name=>?_⟩
 have e:=hm name
 unfold nsFind findBy at e
 rw[<-Array.find?_toList] at e
 unfold PySem.W.lookIn
 rw[hd]
 dsimp only
 split
 ·rename_i y q
  rw[q] at e
  exact bv some e
 ·rename_i q
  rw[q] at e
  have a:es.toList.any (·.refKey)=false:=by
   rw[List.any_eq_false]
   intro y hy
   obtain⟨z,t,hkey⟩:=hk y (Array.mem_toList_iff.mp hy)
   simp[DictEntry.refKey,hkey]
  have a':¬es.toList.any (·.refKey)=true:=by rw[a];exact av
  rw[aq a']
  exact bv some e
def Yq.look(I:Yq h x dx C mA):∃od,PySem.W.InstAt h x (PySem.W.instObj C dx) C (some od)/\∀name,PySem.W.lookIn name od=some (mA name):=
 let ⟨od,ho,hl⟩:=GT I.ns
 ⟨od,⟨I.obj,rfl,rfl,ho⟩,hl⟩
def LZ{Q:tG}{s:Shared}{name:Str}(X:K.In s.heap)(I:Yq s.heap x dx C mA)(hg:PySem.W.plainGet K C name=true)(hh:PySem.W.hasDictIn K C=true)(ha:PySem.W.findIn K (.ref C) name=some none)(hv:mA name=some v)(hv':PySem.W.handedIn v=true)(h:Q v { s with toks:=s.toks+1 }):
  wpAny (model prog w) A (getAttr (.ref x) name expr) Q E s:=by
 obtain⟨od,J,hl⟩:=I.look
 exact PySem.W.get_value X J (PySem.W.plainGet_of hg).1 (PySem.W.findObj_own hh ha rfl (by rw[hl,hv])) hv' h
def Le{s:Shared}{name:Str}{Q:Unit->Shared->Prop}(X:K.In s.heap)(I:Yq s.heap x dx C mA)(hs:PySem.W.findIn K (.ref C) "__setattr__"=some (some (.builtin "object.__setattr__")))(hp:PySem.W.plainOver K C=true)(ht:PySem.W.takerIn K C name=some none)(hh:PySem.W.hasDictIn K C=true)(hw:PySem.Within mA ns)(hsz:ns.length<=sizeLine)(h:∀h',Yq h' x dx C (fun y=>if y=name then some v else mA y)->Heap.SameBut dx s.heap h'->Q () { s with heap:=h',toks:=s.toks+2 }):
  wpAny (model prog w) A (setAttr (.ref x) name v) Q E s:=by
 obtain⟨od,J,hl⟩:=I.look
 refine PySem.W.set_plain X J hs (PySem.W.osa_open (s:={ s with toks:=s.toks+1 }) (r:=none) X J hp ht fun b=>?_)
 obtain⟨cd,hc,Ye⟩:=PySem.W.any_some hh
 have hx:s.heap.get? x=some ⟨.ref C,some dx,.plain,#[]⟩:=I.obj
 refine ae (ao (ae (ae (wpAny_loadPart hx (ae (PySem.W.Looks.here (s:={ s with toks:=s.toks+1 }) (PySem.W.looks_clsIn X hc) ?_))))))
 rw[Ye]
 refine ao (a:=some dx) (ae (ao (ae ?_)))
 refine wpAny_nsSet1 (s:={ s with toks:=s.toks+1 }) I.ns fun h' hn2 YI=>?_
 obtain⟨oD,esD,epD,hoD,hdD,hcD⟩:=hn2.count (PySem.Within.cons name v hw)
 refine ae (wpAny_lookBehind hoD (by rw[hdD];exact pastItsLine_dict (ar hcD (by rw[bc];lia))) ?_)
 exact ao (h _ ⟨(YI.2 _ (dD I.ne)).trans I.obj,hn2,I.ne⟩ YI)
def Jc{A:Around}{s:Shared}{C:Addr}{R:Result->Shared->Prop}{kw:List (Str×Value)}(X:K.In s.heap)(hm:PySem.W.makesIn K C=true)(hi:PySem.W.findIn K (.ref C) "__init__"=some (some (.ref f)))(hf:PySem.W.typeIn K (.ref f)=some (.type "function"))(h:codeAny (model prog w) (A.under (.builtin "type.__call__" ⟨.ref C::vs,kw⟩)) (.call (.ref f) ⟨.ref (s.heap.objs.size+1)::vs,kw⟩) (PySem.W.InitBack (s.heap.objs.size+1) R)
   { s with heap:=(s.heap.push PySem.W.emptyDict).push (PySem.W.instObj C s.heap.objs.size) }):
  codeAny (model prog w) A (.call (.ref C) ⟨vs,kw⟩) R s:=by
 obtain⟨hh,g,d,t,os⟩:=s
 exact PySem.W.make_core (PySem.W.makes_of X hm) (PySem.W.looks_findIn X hi) (fun self=>PySem.W.bind_fn X self hf) (.inl rfl) h
def mI(f:Str)(v:V):List (Str×V)->List (Str×V)
 |[]=>[(f,v)]
 |(g,x)::r=>if g=f then (g,v)::r else (g,x)::mI f v r
def uK(f g:Str)(v:V):∀fs:List (Str×V),(mI f v fs).lookup g=if g=f then some v else fs.lookup g
 |[]=>by
  show List.lookup g [(f,v)]=_
  by_cases h:g=f
  ·have hb:(g==f)=true:=m9.mpr h
   simp only[List.lookup,hb,au h]
  ·have hb:(g==f)=false:=bn.mpr h
   simp only[List.lookup,hb,aq h]
 |(k,x)::r=>by
  have ih:=uK f g v r
  rw[show mI f v ((k,x)::r)=(if k=f then (k,v)::r else (k,x)::mI f v r) from rfl]
  by_cases hk:k=f
  ·rw[au hk]
   by_cases h:g=k
   ·have hb:(g==k)=true:=m9.mpr h
    simp only[List.lookup,hb,au (h.trans hk)]
   ·have hb:(g==k)=false:=bn.mpr h
    simp only[List.lookup,hb,aq (fun e:g=f=>h (e.trans hk.symm))]
  ·rw[aq hk]
   by_cases h:g=k
   ·have hb:(g==k)=true:=m9.mpr h
    simp only[List.lookup,hb,aq (fun e:g=f=>hk (h.symm.trans e))]
   ·have hb:(g==k)=false:=bn.mpr h
    simp only[List.lookup,hb]
    exact ih
def t3(f:Str)(v:V):∀fs:List (Str×V),f∈(mI f v fs).map (·.1)/\∀g,g∈fs.map (·.1)->g∈(mI f v fs).map (·.1)
 |[]=>⟨by simp[mI],fun g h=>by simp at h⟩
 |(k,x)::r=>by
  obtain⟨i1,i2⟩:=t3 f v r
  rw[show mI f v ((k,x)::r)=(if k=f then (k,v)::r else (k,x)::mI f v r) from rfl]
  by_cases hk:k=f
  ·rw[au hk]
   subst hk
   exact⟨by simp,fun g h=>by simpa using h⟩
  ·rw[aq hk]
   refine⟨?_,fun g h=>?_⟩
   ·rw[aT]
    exact aV _ i1
   ·rw[aT] at h ⊢
    rcases aM.mp h with e | e
    ·exact aM.mpr (.inl e)
    ·exact aV _ (i2 g e)
def uL(f:Str)(v:V):∀fs:List (Str×V),(mI f v fs).length<=fs.length+1
 |[]=>by simp[mI]
 |(k,x)::r=>by
  have ih:=uL f v r
  rw[show mI f v ((k,x)::r)=(if k=f then (k,v)::r else (k,x)::mI f v r) from rfl]
  by_cases hk:k=f
  ·rw[au hk,bc,bc];lia
  ·rw[aq hk,bc,bc];lia
def X6.some_of{o:Option Value}(r:X6 (some v) o):∃u,o=some u/\RelV v u:=by
 cases o with
 |none=>exact(show False from r).elim
 |some u=>exact⟨u,rfl,r⟩
def G0(r:RelV v u):PySem.W.handedIn u=true:=by
 cases v with
 |Vs=>cases(show u=Value.none from r);rfl
 |bl b=>cases(show u=Value.bool b from r);rfl
 |int i=>obtain⟨t,e⟩:=(show ∃t,u=Value.int i t from r);cases e;rfl
 |str x=>obtain⟨t,e⟩:=(show ∃t,u=Value.str x t from r);cases e;rfl
 |Yg b=>obtain⟨t,e⟩:=(show ∃t,u=Value.bytes b t from r);cases e;rfl
 |flt b=>obtain⟨t,e⟩:=(show ∃t,u=Value.float b t from r);cases e;rfl
 |ref a=>cases(show u=Value.ref a from r);rfl
 |ty n=>cases(show u=Value.type n from r);rfl
section
variable {fs Xq:List (Str×V)}
def Bl{a:Addr}(Vl:Xf P w H h)(e:H a=some (.ins C dx fs)):∃mA,Yq h a dx C mA/\(∀f,X6 (fs.lookup f) (mA f))/\PySem.Within mA (fs.map (·.1))/\fs.length<=1000/\H dx=some (.own a):=by
 obtain⟨d,z,ne,ob,mA,n,r,q⟩:=(show Ve P w H h a (.ins C dx fs) from Vl a _ e)
 exact⟨mA,⟨ob,n,ne⟩,r,q,z,d⟩
end
structure Yy(K:bW)(C:Addr):Prop where
 pg:PySem.W.plainGet K C Str.empty=true
 hd:PySem.W.hasDictIn K C=true
 po:PySem.W.plainOver K C=true
 sa:PySem.W.findIn K (.ref C) "__setattr__"=some (some (.builtin "object.__setattr__"))
def Yy.get{K:bW}(c:Yy K C)(f:Str):PySem.W.plainGet K C f=true:=c.pg
def Vq(K:bW)(C:Addr)(f:Str):Prop:=PySem.W.findIn K (.ref C) f=some none
def Vq.taker{K:bW}(n:Vq K C f):PySem.W.takerIn K C f=some none:=by
 unfold PySem.W.takerIn
 rw[show PySem.W.findIn K (.ref C) f=some none from n]
 rfl
section
variable {fs:List (Str×V)}
def xl{Q:tG}{a:Addr}(I:Inv X pins σ H s)(e:H a=some (.ins C dx fs))(c:Yy X.K C)(n:Vq X.K C f)(l:fs.lookup f=some v)(h:∀u s',Inv X pins σ H s'->RelV v u->Q u s'):wpAny (model X.prog X.w) A (getAttr (.ref a) f b) Q E s:=by
 obtain⟨mA,O,r,_,_,_⟩:=Bl I.Vl e
 obtain⟨u,hu,ru⟩:=X6.some_of (v:=v) (o:=mA f) (by rw[<-l];exact r f)
 exact LZ I.WM O (c.get f) c.hd n hu (G0 ru) (h u _ (I.tok _) ru)
def wn{a:Addr}{Q:Unit->Shared->Prop}(I:Inv X pins σ H s)(e:H a=some (.ins C dx fs))(c:Yy X.K C)(n:Vq X.K C f)(hl:fs.length<1000)(ry:RelV y u)(h:∀s',Inv X pins σ (cE H a (.ins C dx (mI f y fs))) s'->Q () s'):wpAny (model X.prog X.w) A (setAttr (.ref a) f u) Q E s:=by
 obtain⟨mA,O,r,wi,_,ho⟩:=Bl I.Vl e
 have hz:(fs.map (·.1)).length<=sizeLine:=by rw[ag,fZ];lia
 refine Le I.WM O c.sa c.po n.taker c.hd wi hz fun h' O' sb=>h _ ?_
 have hd:∃o,h'.get? dx=some o:=let ⟨o,_,_,e',_⟩:=O'.ns;⟨o,e'⟩
 refine I.write (x:=a) (e:=dx) (by rw[e];exact True.intro) (.inr ho) (fun b q hb z=>(sb.2 b hb).trans z) hd ?_
 refine⟨by rw[aI O.ne];exact ho,?_,O.ne,O'.obj,_,O'.ns,fun g=>?_,fun g hg=>?_⟩
 ·have:=uL f y fs;lia
 ·show X6 ((mI f y fs).lookup g) (if g=f then some u else mA g)
  rw[uK]
  by_cases q:g=f
  ·rw[au q,au q];exact ry
  ·rw[aq q,aq q];exact r g
 ·by_cases q:g=f
  ·rw[q];exact(t3 f y fs).1
  ·refine(t3 f y fs).2 g (wi g fun z=>hg ?_)
   show(if g=f then some u else mA g)=none
   rw[aq q];exact z
def Inv.made(I:Inv X pins σ H s):Inv X pins σ (cE (cE H s.heap.objs.size (.own (s.heap.objs.size+1))) (s.heap.objs.size+1) (.ins C s.heap.objs.size []))
  { s with heap:=(s.heap.push PySem.W.emptyDict).push (PySem.W.instObj C s.heap.objs.size) }:=by
 have e1:(s.heap.push PySem.W.emptyDict).get? s.heap.objs.size=some PySem.W.emptyDict:=Heap.get?_push_size s.heap rfl
 have e2:((s.heap.push PySem.W.emptyDict).push (PySem.W.instObj C s.heap.objs.size)).get? (s.heap.objs.size+1)=some (PySem.W.instObj C s.heap.objs.size):=by
  have:=Heap.get?_push_size (s.heap.push PySem.W.emptyDict) (o:=PySem.W.instObj C s.heap.objs.size) rfl
  rwa [dY] at this
 have e3:(s.heap.push PySem.W.emptyDict).Ns s.heap.objs.size (fun _=>none):=⟨PySem.W.emptyDict,#[],_,e1,rfl,(fun e he=>absurd he (by simp)),fun _=>rfl⟩
 have I1:=I.laid (a:=s.heap.objs.size) (o:=.own (s.heap.objs.size+1)) (h':=s.heap.push PySem.W.emptyDict) (t':=s.toks) (fun b u q=>Heap.get?_push_of_some _ q) (aj _) ⟨_,e1⟩
 refine I1.laid (a:=s.heap.objs.size+1) (o:=.ins C s.heap.objs.size []) (t':=s.toks) (fun b u q=>Heap.get?_push_of_some _ q) (lM (dY _ _)) ?_
 have ne:s.heap.objs.size≠s.heap.objs.size+1:=bi (eL _)
 refine⟨by rw[aI ne,aG],be _,ne,e2,fun _=>none,(Heap.Ns1.of_empty e3).at fun o q=>Heap.get?_push_of_some _ q,fun _=>True.intro,fun y hy=>absurd rfl hy⟩
def MA{env:Env}(hb:attributeBase e f env (eval e env)=eval e env)(h:wpAny (model prog w) A (eval e env) (fun o s₁=>wpAny (model prog w) A (getAttr o f true) Q E s₁) E s):wpAny (model prog w) A (eval (.Attribute e f pos) env) Q E s:=
 Attribute_any_ h (by rw[arm_eval_Attribute,hb])
end
def Sy(K:bW)(ta:TE)(f:Str):TE:=fun σ H Q=>ta σ H fun x H1=>∃a C dx fs v,x=.ref a/\H1 a=some (.ins C dx fs)/\Yy K C/\Vq K C f/\fs.lookup f=some v/\Q v H1
def SF(K:bW)(ta tv:TE)(f:Str):TS:=fun D σ H=>tv σ H fun y H1=>ta σ H1 fun x H2=>∃a C dx fs,x=.ref a/\H2 a=some (.ins C dx fs)/\Yy K C/\Vq K C f/\fs.length<1000 /\
 D.nx σ (cE H2 a (.ins C dx (mI f y fs)))
def TZ(X:Cx)(op:Operator)(rd:V->V->Hp->VK->Prop):Prop:=
 ∀(pins:gc) (s:Shared) (σ:St) (H:Hp) (x y:V) (u v:Value) (Q:VK),Inv X pins σ H s->RelV x u->RelV y v->rd x y H Q->dZ X (inplaceOp op u v) (EP X pins σ Q) X.xe s
def Lf(K:bW)(ta tv:TE)(rd:V->V->Hp->VK->Prop)(f:Str):TS:=fun D σ H=>ta σ H fun x H1=>∃a C dx fs v,x=.ref a/\H1 a=some (.ins C dx fs)/\Yy K C/\Vq K C f/\fs.lookup f=some v /\
 tv σ H1 fun y H2=>rd v y H2 fun z H3=>∃dx' Xq,H3 a=some (.ins C dx' Xq)/\Xq.length<1000/\D.nx σ (cE H3 a (.ins C dx' (mI f z Xq)))
def wQ(he:PE X e ta)(hb:attributeBase e f X.env (eval e X.env)=eval e X.env):PE X (.Attribute e f pos) (Sy X.K ta f):=by
 intro pins s σ H Q I h
 refine MA hb (dk (he pins s σ H _ I h) fun u s1 ⟨x,H1,I1,rx,a,C,dx,fs,v,ex,ea,c,n,l,q⟩=>?_)
 subst ex
 obtain rfl:u=Value.ref a:=rx
 exact xl I1 ea c n l fun u' s2 I2 ru=>⟨v,H1,I2,ru,q⟩
def DV{pos:Pos}(ha:PE X o ta)(hv:PE X value tv)(hs:swapsWith value (some (.Attribute o f pos')) pos.line X.env=pure false):PS X (.Assign [.Attribute o f pos'] value pos) (SF X.K ta tv f):=by
 intro pins s σ H D I h
 refine plainObj_wpAny_Assign_Attribute (dk (hv pins s σ H _ I h) fun u s1 ⟨y,H1,I1,ry,q⟩=>dk (ha pins s1 σ H1 _ I1 q) fun ov s2 ⟨x,H2,I2,rx,a,C,dx,fs,ex,ea,c,n,l,q2⟩=>?_) hs
 subst ex
 obtain rfl:ov=Value.ref a:=rx
 exact wn I2 ea c n l ry fun s3 I3=>⟨σ,_,I3,q2⟩
def GK{rd:V->V->Hp->VK->Prop}(ha:PE X o ta)(hv:PE X value tv)(hop:TZ X op rd):PS X (.AugAssign (.Attribute o f tpos) op value pos) (Lf X.K ta tv rd f):=by
 intro pins s σ H D I h
 refine wpAny_AugAssign_AttributeAny (dk (ha pins s σ H _ I h) fun ov s1 ⟨x,H1,I1,rx,a,C,dx,fs,v,ex,ea,c,n,l,q⟩=>?_)
 subst ex
 obtain rfl:ov=Value.ref a:=rx
 refine xl I1 ea c n l fun u s2 I2 ru=>dk (hv pins s2 σ H1 _ I2 q) fun w3 s3 ⟨y,H2,I3,ry,q3⟩=>dk (hop pins s3 σ H2 v y u w3 _ I3 ru ry q3) fun w4 s4 ⟨z,H3,I4,rz,dx',Xq,ea',l',q4⟩=>?_
 exact wn I4 ea' c n l' rz fun s5 I5=>⟨σ,_,I5,q4⟩
def SQ:V->V->Hp->VK->Prop:=fun x y H Q=>∃i j,x=.int i/\y=.int j/\Q (.int (i+j)) H
inductive um(K:bW)(H:Hp):V->Value->Prop where
 |Vs:um K H .Vs (.type "NoneType")
 |bl (x:Bool):um K H (.bl x) (.type "bool")
 |int (i:Int):um K H (.int i) (.type "int")
 |str (x:Str):um K H (.str x) (.type "str")
 |flt (x:UInt64):um K H (.flt x) (.type "float")
 |lst {a:Addr} {xs:df} (e:H a=some (.lst xs)):um K H (.ref a) (.type "list")
 |WA {a:Addr} {o:Obj} {xs:df} (e:H a=some (.WA o (.lst xs))):um K H (.ref a) (.type "list")
 |tup {a:Addr} {xs:df} (e:H a=some (.tup xs)):um K H (.ref a) (.type "tuple")
 |dK {a:Addr} {kvs:List (tz×V)} (e:H a=some (.dK kvs)):um K H (.ref a) (.type "dict")
 |dT {a:Addr} {kvs:List (List tz×V)} (e:H a=some (.dT kvs)):um K H (.ref a) (.type "dict")
 |ins {a C dx:Addr} {fs:List (Str×V)} (e:H a=some (.ins C dx fs)) (cl:Yy K C) (ha:PySem.W.findIn K (.ref C) "__class__"=some (some (.builtin "object.__class__")))
   (hn:PySem.W.specialIn K (.builtin "object.__class__") "__get__"=some (some (.builtin "getset_descriptor.__get__"))) (htk:PySem.W.takesIn K (.builtin "object.__class__")=some true)
   (hm:PySem.W.mroIn K C (.type "object")=some true):um K H (.ref a) (.ref C)
def GV{Q:tG}{c:Value}(I:Inv X pins σ H s)(rx:RelV x u)(ty:um X.K H x t)(e:PySem.W.kitOne X.K t c=some b)(h:∀tk,Q (.bool b) { s with toks:=tk }):
  wpAny (model X.prog X.w) A (call (.builtin "isinstance") [u,c]) Q E s:=by
 cases ty with
 |Vs=>cases(show u=Value.none from rx);exact cq PySem.W.kitx_none I.WM True.intro e (fun z=>nomatch z) h
 |bl y=>cases(show u=Value.bool y from rx);exact cq PySem.W.kitx_bool I.WM True.intro e (fun z=>nomatch z) h
 |int i=>obtain⟨t,q⟩:=(show ∃t,u=Value.int i t from rx);cases q;exact cq PySem.W.kitx_int I.WM True.intro e (fun z=>nomatch z) h
 |str y=>obtain⟨t,q⟩:=(show ∃t,u=Value.str y t from rx);cases q;exact cq PySem.W.kitx_str I.WM True.intro e (fun z=>nomatch z) h
 |flt y=>obtain⟨t,q⟩:=(show ∃t,u=Value.float y t from rx);cases q;exact cq PySem.W.kitx_float I.WM True.intro e (fun z=>nomatch z) h
 |@lst a xs ea=>
  cases(show u=Value.ref a from rx)
  obtain⟨_,_,n,_,h1⟩:=(show Ve X.prog X.w H s.heap a (.lst xs) from I.Vl a _ ea)
  exact cq PySem.W.kitx_list I.WM ⟨_,h1,rfl⟩ e (fun z=>nomatch z) h
 |@WA a ob xs ea=>
  cases(show u=Value.ref a from rx)
  obtain⟨_,_,_,n,_,h1⟩:=(show Ve X.prog X.w H s.heap a (.WA ob (.lst xs)) from I.Vl a _ ea)
  exact cq PySem.W.kitx_list I.WM ⟨_,h1,rfl⟩ e (fun z=>nomatch z) h
 |@tup a xs ea=>
  cases(show u=Value.ref a from rx)
  obtain⟨_,_,_,p⟩:=(show Ve X.prog X.w H s.heap a (.tup xs) from I.Vl a _ ea)
  obtain⟨o,h1,h2,_⟩:=p
  exact cq PySem.W.kitx_tuple I.WM ⟨o,h1,h2⟩ e (fun z=>nomatch z) h
 |@dK a kvs ea=>
  cases(show u=Value.ref a from rx)
  obtain⟨_,_,vs,_,p⟩:=(show Ve X.prog X.w H s.heap a (.dK kvs) from I.Vl a _ ea)
  obtain⟨o,es,ep,h1,h2,_⟩:=p
  exact cq Hk I.WM ⟨o,h1,h2.1⟩ e (fun z=>nomatch z) h
 |@dT a kvs ea=>
  cases(show u=Value.ref a from rx)
  obtain⟨_,_,xs,_,o,es,ep,h1,h2,_⟩:=(show Ve X.prog X.w H s.heap a (.dT kvs) from I.Vl a _ ea)
  exact cq Hk I.WM ⟨o,h1,h2.1⟩ e (fun z=>nomatch z) h
 |@ins a C dx fs ea cl ha hn htk hm=>
  cases(show u=Value.ref a from rx)
  obtain⟨mA,O,_⟩:=Bl I.Vl ea
  obtain⟨od,J,_⟩:=O.look
  exact cq (PySem.W.kitx_own (cl.get _) cl.hd ha hn htk hm) I.WM J e (fun z=>nomatch z) h
structure Vz(k:Nat)(A:Around):Prop where
 hd:A.handled=none
 dp:A.depth+3*k+105<recursionLimit
 un:A.units+16*k+200<cLine
def Vz.mono{j:Nat}(r:Vz k A)(h:j<=k):Vz j A:=⟨r.hd,by have:=r.dp;lia,by have:=r.un;lia⟩
def Vz.deeper{k:Nat}(r:Vz (k+1) A)(env:Env):Vz k (A.deeper env):=
 ⟨r.hd,by have:=r.dp;show A.depth+1+3*k+105<_;lia,by have:=r.un;show A.units+3+16*k+200<_;lia⟩
def Ei{A:Around}{kw:List (Str×Value)}:(A.under (.builtin "type.__call__" ⟨.ref C::us,kw⟩)).depth=A.depth+1:=by
 first | rfl | simp[Around.under,Code.weight,Code.isCreation,Code.isGuard,Code.isCaller,Code.frames,Code.isFrame,guardIds]
def Eh{A:Around}{kw:List (Str×Value)}:(A.under (.builtin "type.__call__" ⟨.ref C::us,kw⟩)).units=A.units+1:=by
 first | rfl | simp[Around.under,Code.cUnits,Code.frames,Code.isFrame]
def Vz.make{k:Nat}(r:Vz (k+1) A)(C:Addr)(us:fR)(kw:List (Str×Value)):Vz k (A.under (.builtin "type.__call__" ⟨.ref C::us,kw⟩)):=
 ⟨r.hd,by have:=r.dp;rw[Ei];lia,by have:=r.un;rw[Eh];lia⟩
def Vz.WS(r:Vz k A):A.depth+100<recursionLimit:=by have:=r.dp;lia
def Vz.depth(r:Vz k A):A.depth<recursionLimit:=by have:=r.dp;lia
def Vz.units(r:Vz k A):A.units+64<cLine:=by have:=r.un;lia
def Su:TA:=fun _ H Q=>Q [] H
def Qo(ta:TE)(tr:TA):TA:=fun σ H Q=>ta σ H fun x H1=>tr σ H1 fun xs H2=>Q (x::xs) H2
def cK:PA X [] Su:=fun _ _ _ _ H Q I h=>Calls.spliced_nil ⟨[],H,I,.nil,h⟩
def bw(ha:PE X e te)(hr:PA X es t)(hs:Ci e es X.env:=by rfl):PA X (e::es) (Qo te t):=by
 intro pos pins s σ H Q I h
 rw[hs]
 show wpAny _ _ (spliced ((false,eval e X.env)::backTo pos (starEach es X.env))) _ _ s
 refine Calls.spliced_cons (dk (ha pins s σ H _ I h) fun u s1 ⟨x,H1,I1,r1,q1⟩=>?_)
 exact dk (hr pos pins s1 σ H1 _ I1 q1) fun us s2 ⟨xs,H2,I2,r2,q2⟩=>⟨x::xs,H2,I2,.cons r1 r2,q2⟩
def Sm(t:TA):TE:=fun σ H Q=>t σ H fun xs H1=>xs.length<=sizeLine/\∀p,H1 p=none->Q (.ref p) (cE H1 p (.tup xs))
def Sv(t:TA):TE:=fun σ H Q=>t σ H fun xs H1=>xs.length<=sizeLine/\∀p,H1 p=none->Q (.ref p) (cE H1 p (.lst xs))
def D2{x1}(h:PA X es t):PE X (.Tuple es x1 pos) (Sm t):=by
 intro pins s σ H Q I hq
 refine wpAny_Tuple_spliced (dk (h pos pins s σ H _ I hq) fun us s1 ⟨xs,H1,I1,r,z,q⟩=>⟨by rw[<-r.length];exact z,?_⟩)
 have hf:H1 s1.heap.objs.size=none:=I1.Vl.fresh (aj _)
 refine⟨.ref s1.heap.objs.size,cE H1 s1.heap.objs.size (.tup xs),I1.laid (t':=s1.toks) (fun b u e=>Heap.get?_push_of_some _ e) (aj _) ?_,rfl,q _ hf⟩
 exact⟨z,us,r,⟨_,Heap.get?_push_size _ rfl,rfl,_,rfl⟩⟩
def IN(h:PA X es t):PE X (.List es pos) (Sv t):=by
 intro pins s σ H Q I hq
 refine wpAny_List_spliced (dk (h pos pins s σ H _ I hq) fun us s1 ⟨xs,H1,I1,r,z,q⟩=>⟨by rw[<-r.length];exact z,?_⟩)
 have hf:H1 s1.heap.objs.size=none:=I1.Vl.fresh (aj _)
 refine⟨.ref s1.heap.objs.size,cE H1 s1.heap.objs.size (.lst xs),I1.laid (t':=s1.toks) (fun b u e=>Heap.get?_push_of_some _ e) (aj _) ?_,rfl,q _ hf⟩
 exact⟨z,us,0,r,Heap.get?_push_size _ rfl⟩
abbrev Sp:=df->Hp->VK->XK->Prop
abbrev P1:=List Env->Hp->Shared->XK->Value->Shared->Prop
structure X9(P:Program)(w:World)(K:bW)(mg:ux)(base:Heap)(A:Around)(outer:List Env)(s:Shared)(H:Hp):Prop where
 frames:A.frames=some outer
 mod:Mod K mg base
 bs:∀b o,base.get? b=some o->s.heap.get? b=some o/\H b=none
 Zy:base.objs.size<=s.heap.objs.size
 Xc:s.heap.FunFrames base outer
 frf:∀b∈mn outer,H b=none
 Vl:Xf P w H s.heap
 bare:AllBare s.gens
def CE(outer:List Env)(P:Program)(w:World)(H:Hp)(s:Shared)(Q:VK)(u:Value)(s':Shared):Prop:=
 ∃v H',s'.os=s.os/\AllBare s'.gens/\Un (mn outer) [] H H' s.heap s'.heap/\Xf P w H' s'.heap/\RelV v u/\Q v H'
def CR(CX:P1)(outer:List Env)(P:Program)(w:World)(H:Hp)(s:Shared)(Q:VK)(E:XK)(r:Result)(s':Shared):Prop:=
 match r with
 |.ok (.ret u)=>CE outer P w H s Q u s'
 |.ok _=>False
 |.error e=>CX outer H s E e s'
structure dO(P:Program)(w:World)(K:bW)(mg:ux)(base:Heap)(CX:P1)(k:Nat)(f:Addr)(fd:FuncData)(ps:ce)(sp:Sp):Prop where
 len:∀vs H Q E,sp vs H Q E->vs.length=ps.length
 run:∀(A:Around) (outer:List Env) (s:Shared) (H:Hp) (args:Args) (us:fR) (vs:df) (Q:VK) (E:XK),Vz k A->X9 P w K mg base A outer s H->BindsTo s fd args (ps.zip us)->Vals vs us->sp vs H Q E ->
  codeAny (model P w) A (.call (.ref f) args) (CR CX outer P w H s Q E) s
def X9.make{K:bW}{outer:List Env}(e:X9 P w K mg base A outer s H)(C:Addr)(us:fR)(kw:List (Str×Value)):
  X9 P w K mg base (A.under (.builtin "type.__call__" ⟨.ref C::us,kw⟩)) outer s H:=⟨by first | exact e.frames | (simpa [Around.under,Code.envs,Code.isFrame,pushEnvs] using e.frames),e.mod,e.bs,e.Zy,e.Xc,e.frf,e.Vl,e.bare⟩
def Inv.env0(I:Inv X pins σ H s):X9 X.prog X.w X.K X.mg X.base X.A X.stack s H:=
 ⟨I.ok.frames,I.ok.mod,I.bs,ar I.ok.Zy I.sz,I.stack,I.Ya,I.Vl,I.bare⟩
def Inv.after(I:Inv X pins σ H s)(h:CE X.stack X.prog X.w H s Q u s'):EP X pins σ Q u s':=by
 obtain⟨v,H',os,bare,un,Vl,r,q⟩:=h
 obtain⟨hh,g,d,t,os'⟩:=s'
 obtain rfl:os'=s.os:=os
 exact⟨v,H',I.call (h':=hh) (g':=g) (d':=d) (t':=t) (ch:=[]) un Vl bare (fun b z=>absurd z (by simp)),r,q⟩
def Qp(sp:Sp)(Yf:df)(E:XK)(t:TA):TE:=fun σ H Q=>t σ H fun vs H1=>sp (vs++Yf) H1 Q E
def Qm(C:Addr)(sp:Sp)(Yf:df)(E:XK)(t:TA):TE:=fun σ H Q=>t σ H fun vs H1=>∀x dx,H1 x=none->H1 dx=none->dx≠x ->
 sp (.ref x::(vs++Yf)) (cE (cE H1 dx (.own x)) x (.ins C dx [])) (fun v H2=>v=.Vs/\Q (.ref x) H2) E
def Binds(K:bW)(fd:FuncData)(ps:ce)(ds:fR):Prop:=
 ∀(s:Shared) (us:fR),K.In s.heap->(us++ds).length=ps.length->BindsTo s fd ⟨us,[]⟩ (ps.zip (us++ds))
def Binds.all{K:bW}{ps:ce}(h:∀us:fR,us.length=ps.length->bindArgs fd ⟨us,[]⟩=pure (ps.zip us)):Binds K fd ps []:=fun s us _ hl=>by
 rw[aP] at hl ⊢
 exact .of_eq (h us hl)
def fW(CX:P1)(X:Cx)(E:XK):Prop:=∀(pins:gc) (σ:St) (H:Hp) (s:Shared) (e:Value) (s':Shared),Inv X pins σ H s->CX X.stack H s E e s'->X.xe e s'
section
variable {ds:fR}{E:XK}
def N4{X:Cx}(F:dO X.prog X.w X.K X.mg X.base CX k f fd ps sp)(hr:Vz k X.A)(hb:Binds X.K fd ps ds)(hd:Vals Yf ds)(hx:fW CX X E)(I:Inv X pins σ H s)(r:Vals vs us)(h:sp (vs++Yf) H Q E):dZ X (call (.ref f) us) (EP X pins σ Q) X.xe s:=by
 have r2:Vals (vs++Yf) (us++ds):=r.append hd
 have hl:(us++ds).length=ps.length:=by rw[<-r2.length];exact F.len _ _ _ _ h
 refine wpAny_call (PJ (F.run X.A X.stack s H ⟨us,[]⟩ (us++ds) (vs++Yf) Q E hr I.env0 (hb s us I.WM hl) r2 h) fun r s' hq=>?_)
 cases r with
 |error e=>exact hx pins σ H s e s' I hq
 |ok fl=>
  cases fl with
  |ret u=>exact I.after hq
  |next=>exact False.elim hq
  |brk=>exact False.elim hq
  |cont=>exact False.elim hq
def iR{X:Cx}(F:dO X.prog X.w X.K X.mg X.base CX k f fd ps sp)(hr:Vz k X.A)(hg:Gl X x)(hm:X.mg x=some (.ref f))(hk:PySem.W.keepIn X.K (.ref f)=true)(hb:Binds X.K fd ps ds)(hd:Vals Yf ds)(hx:fW CX X E)(ha:PA X (e::es) t)(VW:qA x:=by decide)(he:Ci e es X.env:=by rfl)(WZ:rM pos es X.env:=by rfl):
  PE X (.Call (.Name x p) (e::es) [] pos) (Qp sp Yf E t):=by
 intro pins s σ H Q I h
 refine vb (Bg I hg hm ?_ VW)
 refine PySem.W.callWith_K (h₀:=X.base) I.ok.mod.Y0 hk (dk (ha pos pins s σ H _ I h) fun us s1 ⟨vs,H1,I1,r,q⟩=>⟨I1.WM,?_⟩) he WZ
 exact N4 F hr hb hd hx I1 r q
structure Mk(K:bW)(C f:Addr):Prop where
 makes:PySem.W.makesIn K C=true
 init:PySem.W.findIn K (.ref C) "__init__"=some (some (.ref f))
 fn:PySem.W.isFn K (.ref f)=true
 kp:PySem.W.keepIn K (.ref C)=true
def Ij{Q:VK}{X:Cx}(M:Mk X.K C f)(F:dO X.prog X.w X.K X.mg X.base CX k f fd ps sp)(hr:Vz (k+1) X.A)(hb:Binds X.K fd ps ds)(hd:Vals Yf ds)(hx:fW CX X E)(I:Inv X pins σ H s)(r:Vals vs us)(h:∀x dx,H x=none->H dx=none->dx≠x->sp (.ref x::(vs++Yf)) (cE (cE H dx (.own x)) x (.ins C dx [])) (fun v H2=>v=.Vs/\Q (.ref x) H2) E):
  dZ X (call (.ref C) us) (EP X pins σ Q) X.xe s:=by
 have hq:=h (s.heap.objs.size+1) s.heap.objs.size (I.Vl.fresh (Nat.le_succ _)) (I.Vl.fresh (aj _)) (bi (eL _))
 have I2:=Inv.made (C:=C) I
 have r2:Vals (V.ref (s.heap.objs.size+1)::(vs++Yf)) (Value.ref (s.heap.objs.size+1)::(us++ds)):=.cons rfl (r.append hd)
 have hl:(Value.ref (s.heap.objs.size+1)::us++ds).length=ps.length:=by
  have e:=r2.length
  rw[F.len _ _ _ _ hq] at e
  exact e.symm
 refine wpAny_call (Jc (f:=f) I.WM M.makes M.init (m9.mp M.fn) (PJ (F.run _ X.stack _ _ ⟨Value.ref (s.heap.objs.size+1)::us,[]⟩ (Value.ref (s.heap.objs.size+1)::(us++ds)) _ _ E (hr.make C us [])
  (I2.env0.make C us []) (hb _ (Value.ref (s.heap.objs.size+1)::us) I2.WM hl) r2 hq) fun r s' hq'=>?_))
 cases r with
 |error e=>exact hx pins σ _ _ e s' I2 hq'
 |ok fl=>
  cases fl with
  |ret u=>
   obtain⟨v,H',I3,rv,ev,q3⟩:=I2.after hq'
   subst ev
   exact⟨rv,⟨V.ref (s.heap.objs.size+1),H',I3,rfl,q3⟩⟩
  |next=>exact False.elim hq'
  |brk=>exact False.elim hq'
  |cont=>exact False.elim hq'
def LD{X:Cx}(M:Mk X.K C f)(F:dO X.prog X.w X.K X.mg X.base CX k f fd ps sp)(hr:Vz (k+1) X.A)(hg:Gl X x)(hm:X.mg x=some (.ref C))(hb:Binds X.K fd ps ds)(hd:Vals Yf ds)(hx:fW CX X E)(ha:PA X (e::es) t)(VW:qA x:=by decide)(he:Ci e es X.env:=by rfl)(WZ:rM pos es X.env:=by rfl):
  PE X (.Call (.Name x p) (e::es) [] pos) (Qm C sp Yf E t):=by
 intro pins s σ H Q I h
 refine vb (Bg I hg hm ?_ VW)
 refine PySem.W.callWith_K (h₀:=X.base) I.ok.mod.Y0 M.kp (dk (ha pos pins s σ H _ I h) fun us s1 ⟨vs,H1,I1,r,q⟩=>⟨I1.WM,?_⟩) he WZ
 exact Ij M F hr hb hd hx I1 r q
end
structure aK(N P:ce)(sc:Scope):Prop where
 kind:sc.kind=.function
 co:sc.isCoroutine=false
 gen:sc.isGenerator=false
 nd:N.Nodup
 pre:N.take P.length=P
 par:∀x∈P,sc.names.lookup x=some .local\/sc.names.lookup x=some .cell
 ZT:∀y∈sc.names,y.2 ≠ .free
def AD{kindOf:Str->Option NameKind}:∀{binds:List (Str×Value)} {m:ux},(∀v,(x,v)∉binds)->bindL kindOf binds m x=m x
 |[],_,_=>rfl
 |(n,v)::r,m,h=>by
  unfold bindL
  rw[AD fun w hw=>h w (aV _ hw)]
  split
  ·have:x≠n:=by rintro rfl;exact h v bK
   simp[this]
  ·rfl
def AF{kindOf:Str->Option NameKind}:∀{binds:List (Str×Value)} {m:ux},(∀v,(x,v)∉binds)->bindC kindOf binds m x=m x
 |[],_,_=>rfl
 |(n,v)::r,m,h=>by
  unfold bindC
  rw[AF fun w hw=>h w (aV _ hw)]
  split
  ·rfl
  ·have:x≠n:=by rintro rfl;exact h v bK
   simp[this]
def AE{kindOf:Str->Option NameKind}:∀{P:ce} {vs:fR} {i:Nat} {m:ux},P.Nodup->P[i]?=some x->vs[i]?=some v->kindOf x=some .local ->
  bindL kindOf (P.zip vs) m x=some v
 |[],_,_,_,_,h,_,_=>by simp at h
 |_::_,[],_,_,_,_,h,_=>by simp at h
 |p::P,w::vs,0,m,nd,h1,h2,hk=>by
  simp at h1 h2;subst h1;subst h2
  show bindL kindOf ((p,w)::P.zip vs) m p=_
  unfold bindL
  rw[AD fun v hv=>(cg.mp nd).1 (MH hv).1,au hk]
  simp
 |p::P,w::vs,i+1,m,nd,h1,h2,hk=>by
  show bindL kindOf ((p,w)::P.zip vs) m x=_
  unfold bindL
  exact AE (i:=i) (cg.mp nd).2 (by simpa using h1) (by simpa using h2) hk
def AG{kindOf:Str->Option NameKind}:∀{P:ce} {vs:fR} {i:Nat} {m:ux},P.Nodup->P[i]?=some x->vs[i]?=some v->kindOf x≠some .local ->
  bindC kindOf (P.zip vs) m x=some v
 |[],_,_,_,_,h,_,_=>by simp at h
 |_::_,[],_,_,_,_,h,_=>by simp at h
 |p::P,w::vs,0,m,nd,h1,h2,hk=>by
  simp at h1 h2;subst h1;subst h2
  show bindC kindOf ((p,w)::P.zip vs) m p=_
  unfold bindC
  rw[AF fun v hv=>(cg.mp nd).1 (MH hv).1,aq hk]
  simp
 |p::P,w::vs,i+1,m,nd,h1,h2,hk=>by
  show bindC kindOf ((p,w)::P.zip vs) m x=_
  unfold bindC
  exact AG (i:=i) (cg.mp nd).2 (by simpa using h1) (by simpa using h2) hk
def start(N:ce)(vs:df):St:=vs.map some++List.replicate (N.length-vs.length) none
def q8(CX:P1)(P:Program)(w:World)(K:bW)(mg:ux)(base:Heap)(N:ce)(qual:Str)(scope:Scope)(f:Addr)(cd:Value)(A:Around)(outer:List Env)(s:Shared)(H:Hp)(E:XK):Cx where
 prog:=P
 w:=w
 K:=K
 mg:=mg
 base:=base
 A:=A.deeper (envOfC qual scope s.heap.objs.size f cd)
 N:=N
 s₀:=s
 H₀:=H
 env:=envOfC qual scope s.heap.objs.size f cd
 outer:=outer
 stack:=envOfC qual scope s.heap.objs.size f cd::outer
 ex:=[]
 calm:=true
 fn:=fun _=>true
 pn:=[]
 xe:=fun e s'=>wpAny (model P w) (A.deeper (envOfC qual scope s.heap.objs.size f cd)) (leaving (envOfC qual scope s.heap.objs.size f cd) e) (fun _ XY=>CX outer H s E e XY) (fun e' XY=>CX outer H s E e' XY) s'
def C8{sc:Scope}{x:Str}(h:sc.names.lookup x=some .cell):∃c,(cellsFrom n sc.names []).lookup x=some c:=by
 have q:=T3 sc.names n [] (.inl h)
 exact Option.isSome_iff_exists.mp q
def GW{K:bW}{A:Around}{vs:df}{outer:List Env}{E:XK}(S:aK N ps scope)(hd:A.handled=none)(e0:X9 P w K mg base A outer s H)(hl:vs.length=ps.length)(r:Vals vs us)(x:InCallC s s.heap.objs.size (bindL (envOfC qual scope s.heap.objs.size f cd).kindOf (ps.zip us) fun _=>none) (cellsFrom (s.heap.objs.size+1) scope.names []) (bindC (envOfC qual scope s.heap.objs.size f cd).kindOf (ps.zip us) fun _=>none) s1):
  Inv (q8 CX P w K mg base N qual scope f cd A outer s H E) [] (start N vs) H s1:=by
 have WZ:ps.length<=N.length:=by have:=bv List.length S.pre;rw[cu] at this;lia
 obtain⟨h1,tk,rfl,hk⟩:=x.done
 have noA:∀b:Addr,b∉(q8 CX P w K mg base N qual scope f cd A outer s H E).ex:=fun b z=>absurd (show b∈([]:List Addr) from z) (by simp)
 refine⟨⟨e0.mod,S.kind,rfl,rfl,aj _,fun y z c h1 h2=>?_,fun y hy=>?_,fun y c _ h=>?_,fun _=>hd,Around.frames_deeper e0.frames,.inr ⟨rfl,rfl⟩,fun b z=>absurd z (noA b),e0.bs,e0.Zy,fun b _ _=>noA b,fun b z=>absurd z (noA b),e0.Xc,e0.frf⟩,
  rfl,e0.bare,Un.kept hk,⟨_,x.toInCall.ns,fun i y v h1 h2 h3=>?_⟩,fun y c h=>⟨_,x.cell y c h⟩,e0.Vl.fresh (aj _),fun y c h=>?_,fun p hp=>absurd (show p∈([]:gc) from hp) (by simp),e0.Vl.kept hk,?_⟩
 ·exact name_of_addr x.apart (fP h1) (fP h2)
 ·have hy:scope.names.lookup y=some .cell\/scope.names.lookup y=some .free:=hy
  rcases hy with hy | hy
  ·exact C8 hy
  ·exact absurd rfl (S.ZT _ (fP hy))
 ·exact lL (x.above y c (fP h))
 ·have hi:i<vs.length:=by
   unfold start at h2
   by_cases hi:i<vs.length
   ·exact hi
   ·rw[List.getElem?_append_right (by simpa using hi)] at h2
    rw[List.getElem?_replicate] at h2
    split at h2<;>cases h2
  have ha:vs[i]?=some v:=by
   unfold start at h2
   rw[List.getElem?_append_left (by simpa using hi),List.getElem?_map] at h2
   cases e:vs[i]? with
   |none=>rw[e] at h2;cases h2
   |some a=>rw[e] at h2;cases h2;rfl
  obtain⟨u,hu,rv⟩:=r.get ha
  have hp:ps[i]?=some y:=by
   rw[<-S.pre,List.getElem?_take_of_lt (by lia)];exact h1
  have ndP:ps.Nodup:=by rw[<-S.pre];exact S.nd.sublist (List.take_sublist _ _)
  refine⟨u,rv,?_⟩
  rcases S.par y (List.mem_of_getElem? hp) with k | k
  ·exact .inl ⟨k,AE ndP hp hu k⟩
  ·obtain⟨c,e⟩:=C8 (n:=s.heap.objs.size+1) k
   refine .inr ⟨.inl k,c,e,?_⟩
   have q:=x.cell y c e
   rw[AG ndP hp hu (by show scope.names.lookup y≠_;rw[k];decide)] at q
   exact q
 ·exact e0.Vl.fresh (lL (x.above y c (fP h)))
 ·unfold start
  show _=N.length
  rw[ac,ag,dF]
  lia
def Q5{K:bW}{f:Addr}{name qual:Str}{body:List Stmt}{scope:Scope}{dV kV doc pm VG ct:Value}{an:Option Addr}{sp:Sp}{params:Arguments}(lk:K.lookup f=some ⟨oc,od,.func (PySem.W.fnOf name qual params body scope dV kV doc pm an VG ct),ZQ⟩)(Zn:PySem.W.codeIn K VG qual=true)(S:aK N ps scope)(len:∀vs H Q E,sp vs H Q E->vs.length=ps.length)(YL:∀(A:Around) (outer:List Env) (s:Shared) (H:Hp) (vs:df) (Q:VK) (E:XK),Vz k (A.deeper (envOfC qual scope s.heap.objs.size f VG))->sp vs H Q E ->
   ∃t,X7 (q8 CX P w K mg base N qual scope f VG A outer s H E) body t/\t { nx:=fun _ H'=>Q .Vs H',rt:=Q } (start N vs) H):
  dO P w K mg base CX (k+1) f (PySem.W.fnOf name qual params body scope dV kV doc pm an VG ct) ps sp:=by
 refine⟨len,fun A outer s H args us vs Q E hr e0 hb r ZD=>?_⟩
 have hl:=len _ _ _ _ ZD
 have KX:K.In s.heap:=e0.mod.Y0.keeps fun b o e=>(e0.bs b o e).1
 have lim:s.heap.NoLimit:=e0.mod.nolimit.keeps fun b o e=>(e0.bs b o e).1
 have hkind:∀y∈ps.zip us,scope.names.lookup y.1=some .local\/(scope.names.lookup y.1=some .cell/\((cellsFrom (s.heap.objs.size+1) scope.names []).lookup y.1).isSome=true):=fun⟨n,v⟩ hy=>by
  rcases S.par n (MH hy).1 with q | q
  ·exact .inl q
  ·exact .inr ⟨q,T3 _ _ _ (.inl q)⟩
 refine codeAny_call_function hr.depth (KX _ _ lk) rfl S.co S.gen rfl (PySem.W.codeRec_of KX Zn) (hb _ _ _ _ ?_)
 refine wpAny_newFunctionEnv_cells S.kind hkind fun env he s1 x=>?_
 subst he
 refine⟨lim.keeps x.toInCall.keep,codeAny_func ?_⟩
 obtain⟨t,ht,hq⟩:=YL A outer s H vs Q E (hr.deeper _) ZD
 have I:Inv (q8 CX P w K mg base N qual scope f VG A outer s H E) [] (start N vs) H s1:=GW S hr.hd e0 hl r x
 refine mj (ht [] s1 (start N vs) H _ I hq) (fun fl s' hs=>?_) fun e s' hs=>hs
 have fin:∀{σ':St} {H':Hp} {v:V} {u:Value},Inv (q8 CX P w K mg base N qual scope f VG A outer s H E) [] σ' H' s'->RelV v u->Q v H'->CE outer P w H s Q u s':=
  fun {σ' H' v u} J rv q=>⟨v,H',J.os,J.bare,J.base,J.Vl,rv,q⟩
 cases fl with
 |ret u=>
  obtain⟨v,σ',H',J,rv,q⟩:=hs
  exact fin J rv q
 |next=>
  obtain⟨σ',H',J,q⟩:=hs
  exact fin (v:=V.Vs) (u:=Value.none) J rfl q
 |brk=>
  obtain⟨_,_,_,q⟩:=hs
  exact False.elim q
 |cont=>
  obtain⟨_,_,_,q⟩:=hs
  exact False.elim q
section
variable {id:String}{r:df->Hp->VK->Prop}
def Ub(r:df->Hp->VK->Prop)(t:TA):TE:=fun σ H Q=>t σ H fun vs H1=>r vs H1 Q
def jX(hc:gn X (.builtin id) r)(hg:Gl X x)(hm:X.mg x=none)(hv:bootBuiltins x=some (.builtin id))(ha:PA X (e::es) t)(hn:x ≠ "__name__" := by decide)(VW:qA x:=by decide)(he:Ci e es X.env:=by rfl)(WZ:rM pos es X.env:=by rfl):PE X (.Call (.Name x p) (e::es) [] pos) (Ub r t):=by
 intro pins s σ H Q I h
 refine vb (xi I hg hm hv ?_ hn VW)
 exact PyProof.Rows.callWith_builtin1 (dk (ha pos pins s σ H _ I h) fun us s1 ⟨vs,H1,I1,r1,q1⟩=>hc pins s1 σ H1 vs us Q I1 r1 q1) he WZ
def jM(hc:gn X (.type T) r)(hg:Gl X x)(hm:X.mg x=none)(hv:bootBuiltins x=some (.type T))(ha:PA X (e::es) t)(hn:x ≠ "__name__" := by decide)(VW:qA x:=by decide)(he:Ci e es X.env:=by rfl)(WZ:rM pos es X.env:=by rfl):PE X (.Call (.Name x p) (e::es) [] pos) (Ub r t):=by
 intro pins s σ H Q I h
 refine vb (xi I hg hm hv ?_ hn VW)
 exact qx (dk (ha pos pins s σ H _ I h) fun us s1 ⟨vs,H1,I1,r1,q1⟩=>hc pins s1 σ H1 vs us Q I1 r1 q1) he WZ
end
end L2
namespace HT
open PySem PyProof.Rows
variable {K:bW}
section
open PySem.SeqAt
open PySem.AutoSeq1 (wpAny_loadPart')
open PySem.MeetsSeq PySem.MeetsSeq2 PySem.MeetsSeq3
end
def Zs{vs ws:fR}{Q:tG}{s:Shared}(ht:IsTup s.heap t vs.toArray)(hb:IsTup s.heap b ws.toArray)(hv:vs≠[])(h1:ws=[]->Q (.ref t) s)(h2:ws≠[]->Q (.ref s.heap.objs.size) { s with heap:=s.heap.push { cls:=.type "tuple",data:=.seq (vs++ws).toArray } })(hsz:vs.length+ws.length<=sizeLine):wpAny (model prog w) A (binaryOp .Add (.ref t) (.ref b)) Q E s:=by
 obtain⟨⟨cls,dd,data,sl⟩,ho,hc,n,hd⟩:=id ht
 obtain⟨⟨cls2,dd2,data2,Wy⟩,ho2,hc2,n2,hd2⟩:=id hb
 simp only at hc hd hc2 hd2
 subst hc hd hc2 hd2
 have e:vs.toArray++ws.toArray=(vs++ws).toArray:=by simp
 by_cases hw:ws=[]
 ·exact concat_meets ⟨_,ho,rfl⟩ ⟨_,ho2,rfl⟩ noFill_tuple_add seq_tuple_add T5 R9 (RM _ _)
   (tuple_addW1 t b vs.toArray ws.toArray n n2 dd dd2 sl Wy (by simpa using hv) (by simp[hw])) ⟨ho,ho2,h1 hw⟩
 ·refine concat_meets ⟨_,ho,rfl⟩ ⟨_,ho2,rfl⟩ noFill_tuple_add seq_tuple_add T5 R9 (RM _ _)
   (tuple_addW2 t b vs.toArray ws.toArray n n2 dd dd2 sl Wy (by simpa using hv) (by simpa using hw) (by rw[az,az];exact hsz)) ⟨ho,ho2,?_⟩
  rw[e]
  exact h2 hw
def Vo(n d:Nat):Option Int->Nat
 |none=>d
 |some v=>if v<0 then (v+(n:Int)).toNat else min v.toNat n
def YB(n d:Nat):Vo n d none=d:=rfl
def Zc(n d k:Nat):Vo n d (some (k:Int))=min k n:=by
 show(if (k:Int)<0 then ((k:Int)+(n:Int)).toNat else min (k:Int).toNat n)=min k n
 rw[aq (by lia),ba]
def N2(n d:Nat)(hd:d<=n)(o:Option Int):Vo n d o<=n:=by
 cases o with
 |none=>exact hd
 |some v=>
  show(if v<0 then (v+(n:Int)).toNat else min v.toNat n)<=n
  by_cases hv:v<0
  ·rw[au hv];lia
  ·rw[aq hv];exact vd _ _
def Gj(v:Int)(n d:Nat):(if v<0 then max (v+(n:Int)) 0 else min v (n:Int))=((Vo n d (some v):Nat):Int):=by
 show(if v<0 then max (v+(n:Int)) 0 else min v (n:Int))=(((if v<0 then (v+(n:Int)).toNat else min v.toNat n):Nat):Int)
 by_cases hv:v<0
 ·simp only[au hv];lia
 ·simp only[aq hv];lia
def ER(lo hi:Option Int)(n:Nat):Builtin.Slice.sliceAdjust lo hi 1 (n:Int)=(((Vo n 0 lo:Nat):Int),((Vo n n hi:Nat):Int)):=by
 have h1:¬((1:Int)<0):=by lia
 unfold Builtin.Slice.sliceAdjust
 simp only[h1,B7]
 refine fw ?_ ?_
 ·cases lo with
  |none=>rfl
  |some v=>exact Gj v n 0
 ·cases hi with
  |none=>rfl
  |some v=>exact Gj v n n
def D0(i j:Nat):Builtin.Slice.slicePlaces (i:Int) (j:Int) 1=j-i:=by
 unfold Builtin.Slice.slicePlaces
 have h1:(1:Int) > 0:=by lia
 simp only[h1,Ce,Int.ediv_one]
 split<;>lia
def wm{o:Option Int}{Q:Option Int->Shared->Prop}(p:IsPart v o)(h:Q o s):wpAny (model prog w) A (Builtin.Slice.slicePartIndex v) Q E s:=by
 cases p with
 |none=>exact slicePart_none h
 |int i t=>exact slicePart_int h
def lU{s:Shared}{lo hi:Option Int}{Q:Int×Int×Nat->Shared->Prop}(hs:s.heap.IsSliceOf sl vl vu .none)(pl:IsPart vl lo)(pu:IsPart vu hi)(h:Q (((Vo n 0 lo:Nat):Int),1,Vo n n hi-Vo n 0 lo) s):wpAny (model prog w) A (Builtin.Slice.sliceApplied (.ref sl) (pure (n:Int))) Q E s:=by
 obtain⟨os,Y1,hcs,Z9⟩:=id hs
 unfold Builtin.Slice.sliceApplied Builtin.Slice.sliceFields
 refine ae (ae (fk Y1 Z9 (x:=vl) rfl (ae (fk Y1 Z9 (x:=vu) rfl (ae (fk Y1 Z9 (x:=.none) rfl (ao ?_)))))))
 refine ae (slicePart_none ?_)
 show wpAny _ _ (if ((1:Int)==0)=true then _ else _) _ _ s
 rw[aq (by decide)]
 refine ae (wm pl (ae (wm pu (ae (ao ?_)))))
 show wpAny _ _ (match Builtin.Slice.sliceAdjust lo hi 1 (n:Int) with | (lo,hi)=>pure (lo,(1:Int),Builtin.Slice.slicePlaces lo hi 1)) _ _ s
 rw[ER lo hi n]
 show wpAny _ _ (pure (((Vo n 0 lo:Nat):Int),(1:Int),Builtin.Slice.slicePlaces ((Vo n 0 lo:Nat):Int) ((Vo n n hi:Nat):Int) 1)) _ _ s
 rw[D0]
 exact ao h
def IH(xs:Array Value)(i k:Nat):((List.range k).filterMap fun(m:Nat)=>xs[((i:Int)+(m:Int)*1).toNat]?).toArray=((xs.toList.drop i).take k).toArray:=by
 have e:(fun(m:Nat)=>xs[((i:Int)+(m:Int)*1).toNat]?)=fun m=>xs[i+m]?:=by
  funext m
  have:((i:Int)+(m:Int)*1).toNat=i+m:=by lia
  rw[this]
 rw[e]
 have:=pick_run xs i k
 rw[List.filterMap_map] at this
 have e2:((fun x=>xs[x]?) ∘ fun x=>i+x)=fun m=>xs[i+m]?:=rfl
 rw[e2] at this
 rw[this]
def WQ{Q:tG}{s:Shared}{lo hi:Option Int}(ht:IsTup s.heap t items)(hs:s.heap.IsSliceOf sl vl vu .none)(pl:IsPart vl lo)(pu:IsPart vu hi)(hw:¬(Vo items.size 0 lo=0/\Vo items.size items.size hi=items.size))(h:Q (.ref s.heap.objs.size) { s with heap:=s.heap.push { cls:=.type "tuple",data:=.seq ((items.toList.drop (Vo items.size 0 lo)).take (Vo items.size items.size hi-Vo items.size 0 lo)).toArray } })(hsz:items.size<=sizeLine):wpAny (model prog w) A (getItem (.ref t) (.ref sl)) Q E s:=by
 have Yc:sizeOk (.seq ((items.toList.drop (Vo items.size 0 lo)).take (Vo items.size items.size hi-Vo items.size 0 lo)).toArray):=by
  show((items.toList.drop (Vo items.size 0 lo)).take (Vo items.size items.size hi-Vo items.size 0 lo)).toArray.size<=sizeLine
  rw[az,cu,cv,bX]
  lia
 have hj:Vo items.size items.size hi<=items.size:=N2 _ _ (aj _) hi
 obtain⟨os,Y1,hcs,Z9⟩:=id hs
 have hTs:s.TypeIs (.ref sl) "slice" := ⟨os,Y1,hcs⟩
 unfold getItem
 try with_reducible refine cp ?_
 first | refine ae (ao ?_) | skip
 refine ae (wpAny_sequenceKey ht.typeIs (by decide) ?_)
 refine ae (wpAny_callSpecial?_slot (name:=Str.ofString "__getitem__") ht.typeIs fG
  (dU fG ht.typeIs entry_tuple_getitem ?_ (args_tuple_getitem _ _)))
 show wpAny _ _ (Builtin.Tuple.tupleItemsOf (.ref t) >>= _) _ _ s
 refine ae (tupleItemsOf_ ht ?_)
 refine ae (Dv hTs ?_)
 rw[au (by decide)]
 refine ae (lU hs pl pu ?_)
 have Xh:¬((((Vo items.size 0 lo:Nat):Int)==0&&(1:Int)==1&&(Vo items.size items.size hi-Vo items.size 0 lo)==items.size)=true):=by
  intro q
  rw[dJ,dJ] at q
  have q1:((Vo items.size 0 lo:Nat):Int)=0:=eq_of_beq q.1.1
  have q2:Vo items.size items.size hi-Vo items.size 0 lo=items.size:=eq_of_beq q.2
  exact hw ⟨by lia,by lia⟩
 show wpAny _ _ (if (((Vo items.size 0 lo:Nat):Int)==0&&(1:Int)==1&&(Vo items.size items.size hi-Vo items.size 0 lo)==items.size)=true then _ else _) _ _ s
 rw[aq Xh,IH]
 first
  |exact ae (m:=Builtin.Tuple.tupleExact _) (cf (ao ⟨_,rfl,ao h⟩) Yc)
  |exact ae (m:=Builtin.Tuple.tupleExact _) (cf (ae (ao (ao ⟨_,rfl,ao h⟩))) Yc)
  |exact ae (ae (m:=Builtin.Tuple.tupleExact _) (cf (ao (ao ⟨_,rfl,ao h⟩)) Yc))
  |exact ae (ae (m:=Builtin.Tuple.tupleExact _) (cf (ao ⟨_,rfl,ao h⟩) Yc))
end HT
namespace L2
open PySem PySem.Spec PyProof.Rows
variable {K:bW}
abbrev TO:=St->Hp->(Option Int->Hp->Prop)->Prop
def PO(X:Cx)(e:Option Expr)(t:TO):Prop:=
 ∀(pins:gc) (s:Shared) (σ:St) (H:Hp) (Q:Option Int->Hp->Prop),Inv X pins σ H s->t σ H Q ->
  dZ X (evalPart e X.env) (fun u s'=>∃o H',Inv X pins σ H' s'/\IsPart u o/\Q o H') X.xe s
def K4:TO:=fun _ H Q=>Q none H
def Qj(t:TE):TO:=fun σ H Q=>t σ H fun x H1=>∃i,x=.int i/\Q (some i) H1
section
variable {lo hi:Option Expr}{tl th:TO}
def Lz:PO X none K4:=by
 intro pins s σ H Q I h
 rw[evalPart_none]
 exact ao ⟨none,H,I,.none,h⟩
def A1(h:PE X e te):PO X (some e) (Qj te):=by
 intro pins s σ H Q I hw
 rw[evalPart_some]
 refine dk (h pins s σ H _ I hw) fun u s1 ⟨x,H1,I1,r1,q1⟩=>?_
 obtain⟨i,rfl,q⟩:=q1
 obtain⟨t,rfl⟩:=r1
 exact⟨some i,H1,I1,.int i t,q⟩
def Rt(X:Cx)(r:V->Option Int->Option Int->Hp->VK->Prop):Prop:=
 ∀(pins:gc) (s:Shared) (σ:St) (H:Hp) (x:V) (v vl vu:Value) (lo hi:Option Int) (sl:Addr) (Q:VK),Inv X pins σ H s->RelV x v->s.heap.IsSliceOf sl vl vu .none->IsPart vl lo->IsPart vu hi->r x lo hi H Q ->
  ∃T id,typeLookup (.type T) "__getitem__"=pure (some (.builtin id))/\s.TypeIs v T/\dZ X (getItem v (.ref sl)) (EP X pins σ Q) X.xe s
def Uy(r:V->Option Int->Option Int->Hp->VK->Prop)(te:TE)(tl th:TO):TE:=fun σ H Q=>te σ H fun x H1=>tl σ H1 fun l H2=>th σ H2 fun u H3=>r x l u H3 Q
def sB{r:V->Option Int->Option Int->Hp->VK->Prop}(hr:Rt X r)(he:PE X e te)(hl:PO X lo tl)(hu:PO X hi th):PE X (.Subscript e (.Slice lo hi none p2) pos) (Uy r te tl th):=by
 intro pins s σ H Q I h
 refine Uo (dk (he pins s σ H _ I h) fun v s1 ⟨x,H1,I1,r1,q1⟩=>?_)
 refine wpAny_Slice (dk (hl pins s1 σ H1 _ I1 q1) fun vl s2 ⟨l,H2,I2,pl,q2⟩=>dk (hu pins s2 σ H2 _ I2 q2) fun vu s3 ⟨u,H3,I3,pu,q3⟩=>?_)
 rw[evalPart_none]
 refine ao ?_
 have I4:Inv X pins σ H3 { s3 with heap:=s3.heap.push { cls:=.type "slice",data:=.fields #[vl,vu,.none] } }:=I3.kept (t':=s3.toks) fun b ob q=>Heap.get?_push_of_some _ q
 obtain⟨T,id,hT,ht,hg⟩:=hr pins { s3 with heap:=s3.heap.push { cls:=.type "slice",data:=.fields #[vl,vu,.none] } } σ H3 x v vl vu l u s3.heap.objs.size Q I4 r1 (Heap.IsSliceOf.new ..) pl pu q3
 show dZ X (subscriptTail e (.Slice lo hi none p2) v (.ref s3.heap.objs.size)) (EP X pins σ Q) X.xe { s3 with heap:=s3.heap.push { cls:=.type "slice",data:=.fields #[vl,vu,.none] } }
 exact tail_any (ops:=[.ref s3.heap.objs.size,v]) ht hT hg (by with_unfolding_all rfl)
def C7(xs:df)(lo hi:Option Int):df:=(xs.drop (HT.Vo xs.length 0 lo)).take (HT.Vo xs.length xs.length hi-HT.Vo xs.length 0 lo)
def uM(xs:df)(lo hi:Option Int):(C7 xs lo hi).length<=xs.length:=by
 unfold C7
 rw[cu,cv]
 lia
def SI(K:bW):V->Option Int->Option Int->Hp->VK->Prop:=fun x lo hi H Q=>∃a xs,x=.ref a/\VV K H a xs /\
 ¬(HT.Vo xs.length 0 lo=0/\HT.Vo xs.length xs.length hi=xs.length)/\∀p,H p=none->Q (.ref p) (cE H p (.tup (C7 xs lo hi)))
def NW:Rt X (SI X.K):=by
 intro pins s σ H x v vl vu lo hi sl Q I rx hs pl pu h
 obtain⟨a,xs,rfl,hx,hw,q⟩:=h
 cases rx
 obtain⟨its,r,ht,hz⟩:=I.tuple hx
 have hlen:its.toArray.size=xs.length:=by rw[az];exact r.length.symm
 refine⟨"tuple",_,PyProof.Rows.slot_tuple_getitem.lookup,ht.typeIs,?_⟩
 refine HT.WQ ht hs pl pu (by rw[hlen];exact hw) ?_ (by rw[hlen];exact hz)
 rw[hlen]
 refine⟨.ref s.heap.objs.size,_,I.laid (t':=s.toks) (o:=.tup (C7 xs lo hi)) (fun b ob q=>Heap.get?_push_of_some _ q) (aj _) ?_,rfl,q _ (I.Vl.fresh (aj _))⟩
 exact⟨ar (uM xs lo hi) hz,_,(r.drop (HT.Vo xs.length 0 lo)).take (HT.Vo xs.length xs.length hi-HT.Vo xs.length 0 lo),IsTup.new _ _⟩
def QG(K:bW):R2:=fun x y H Q=>∃a b xs ys,x=.ref a/\y=.ref b/\VV K H a xs/\VV K H b ys/\xs≠[]/\xs.length+ys.length<=sizeLine /\
 (ys=[]->Q (.ref a) H)/\(ys≠[]->∀p,H p=none->Q (.ref p) (cE H p (.tup (xs++ys))))
def Vals.XD(r:Vals xs us):us=[] ↔ xs=[]:=by
 cases r with
 |nil=>simp
 |cons _ _=>simp
def FF:lP X (binaryOp .Add) (QG X.K):=by
 intro pins s σ H x y v u Q I rx ry h
 obtain⟨a,b,xs,ys,rfl,rfl,ha,hb,hx,hz,q1,q2⟩:=h
 cases rx
 cases ry
 obtain⟨its,r1,p1,_⟩:=I.tuple ha
 obtain⟨XN,r2,p2,_⟩:=I.tuple hb
 refine HT.Zs p1 p2 (fun z=>hx (r1.XD.mp z)) (fun z=>⟨.ref a,H,I,rfl,q1 (r2.XD.mp z)⟩) (fun z=>?_) (by rw[<-r1.length,<-r2.length];exact hz)
 refine⟨.ref s.heap.objs.size,_,I.laid (t':=s.toks) (o:=.tup (xs++ys)) (fun b ob q=>Heap.get?_push_of_some _ q) (aj _) ?_,rfl,q2 (fun w=>z (r2.XD.mpr w)) _ (I.Vl.fresh (aj _))⟩
 exact⟨by rw[ac];exact hz,_,r1.append r2,IsTup.new _ _⟩
end
def FS(n:Nat)(i:Int):Option Nat:=if 0<=i then (if i<n then some i.toNat else none) else if -(n:Int)<=i then some (i+n).toNat else none
def k7{α:Type}(xs:List α)(i:Int):Option α:=(FS xs.length i).bind fun j=>xs[j]?
def FR{i:Int}(h:FS n i=some j):seqIndex? i n=some j/\j<n/\-(n:Int)<=i/\i<n:=by
 unfold FS at h
 by_cases h0:0<=i
 ·rw[au h0] at h
  by_cases h1:i<n
  ·rw[au h1] at h
   have e:i.toNat=j:=bx h
   exact⟨by rw[R7 h0 h1,e],by lia,by lia,h1⟩
  ·rw[aq h1] at h;cases h
 ·rw[aq h0] at h
  by_cases h1 : -(n:Int)<=i
  ·rw[au h1] at h
   have e:(i+n).toNat=j:=bx h
   exact⟨by rw[PH (by lia) h1,e],by lia,h1,by lia⟩
  ·rw[aq h1] at h;cases h
def v6{i:Int}{α:Type}{xs:List α}{v:α}(h:k7 xs i=some v):∃j,seqIndex? i xs.length=some j/\xs[j]?=some v/\j<xs.length/\-(xs.length:Int)<=i/\i<xs.length:=by
 unfold k7 at h
 cases e:FS xs.length i with
 |none=>rw[e] at h;cases h
 |some j=>
  rw[e] at h
  obtain⟨h1,h2,h3,h4⟩:=FR e
  exact⟨j,h1,h,h2,h3,h4⟩
def ej{j:Nat}{α:Type}{xs:List α}{v:α}(h:xs[j]?=some v):k7 xs (j:Int)=some v:=by
 have hj:j<xs.length:=(List.getElem?_eq_some_iff.mp h).1
 have e:FS xs.length (j:Int)=some j:=by
  unfold FS
  rw[au (by lia),au (by lia)];simp
 unfold k7;rw[e];exact h
def k8(b:Expr):Prop:=∀o i,subscripted b false o i=operate [o,i] (getItem o i)
def RA(X:Cx)(r:R2):Prop:=
 ∀(value slice:Expr) (pins:gc) (s:Shared) (σ:St) (H:Hp) (x y:V) (v u:Value) (Q:VK),Inv X pins σ H s->RelV x v->RelV y u->r x y H Q ->
  subscripted slice false v u=operate [v,u] (getItem v u)->dZ X (subscriptTail value slice v u) (EP X pins σ Q) X.xe s
def Rz(X:Cx)(id:String)(r:V->df->Hp->VK->Prop):Prop:=
 ∀(pins:gc) (s:Shared) (σ:St) (H:Hp) (x:V) (xs:df) (v:Value) (us:fR) (Q:VK),Inv X pins σ H s->RelV x v->Vals xs us->r x xs H Q ->
  dZ X (call (.builtin id) (v::us)) (EP X pins σ Q) X.xe s
section
def CB{r:R2}(hr:RA X r)(ha:PE X a ta)(hb:PE X b tb)(hs:k8 b):PE X (.Subscript a b pos) (RS r ta tb):=by
 intro pins s σ H Q I h
 exact Uo (Pq ha hb I h fun v u s2 x y H2 I2 rx ry q=>hr a b pins s2 σ H2 x y v u Q I2 rx ry q (hs _ _))
def QF(K:bW):R2:=fun x y H Q=>∃p xs i v,x=.ref p/\y=.int i/\VE K H p xs/\k7 xs i=some v/\Q v H
def SM(K:bW):R2:=fun x y H Q=>∃p xs i v,x=.ref p/\y=.int i/\VV K H p xs/\k7 xs i=some v/\Q v H
def SN:R2:=fun x y H Q=>∃z i c,x=.str z/\y=.int i/\z.length<=sizeLine/\k7 z.cps.toList i=some c/\Q (.str ⟨#[c]⟩) H
def FQ:RA X (QF X.K):=by
 intro value slice pins s σ H x y v u Q I rx ry h hs
 obtain⟨p,xs,i,z,rfl,rfl,hq,he,q⟩:=h
 cases rx
 obtain⟨t,rfl⟩:=ry
 obtain⟨its,r,pl,hz⟩:=I.list hq
 obtain⟨j,h1,h2,h3,h4,h5⟩:=v6 he
 obtain⟨w,ew,WH⟩:=r.get h2
 have hl:=r.length
 have hn:=oU
 have fin:EP X pins σ Q w s:=⟨z,H,I,WH,q⟩
 by_cases h0:0<=i
 ·have hj:i.toNat=j:=by
   rw[R7 h0 h5] at h1
   exact bx h1
  exact item_listR pl.isList h0 (by lia) (by rw[hj];simpa using ew) fin hs
 ·have hj:(i+(its.toArray.size:Int)).toNat=j:=by
   rw[PH (by lia) h4] at h1
   rw[az,<-hl]
   exact bx h1
  exact jt (x:=w) pl.isList.typeIs slot_list_getitem.lookup
   (wpAny_getItem_list_neg (Q:=fun r s'=>r=w/\EP X pins σ Q r s') pl.isList (by lia) (by rw[az]<;>lia) (by lia) (by rw[hj];simpa using ew) ⟨rfl,fin⟩) hs
def OL:RA X (SM X.K):=by
 intro value slice pins s σ H x y v u Q I rx ry h hs
 obtain⟨p,xs,i,z,rfl,rfl,hq,he,q⟩:=h
 cases rx
 obtain⟨t,rfl⟩:=ry
 obtain⟨its,r,pl,hz⟩:=I.tuple hq
 obtain⟨j,h1,h2,h3,h4,h5⟩:=v6 he
 obtain⟨w,ew,WH⟩:=r.get h2
 have hl:=r.length
 have hn:=oU
 have fin:EP X pins σ Q w s:=⟨z,H,I,WH,q⟩
 exact jt (x:=w) pl.typeIs slot_tuple_getitem.lookup
  (getItem_tuple (j:=j) (Q:=fun r s'=>r=w/\EP X pins σ Q r s') pl (by lia) (by lia) (by rw[az,<-hl];exact h1) (by simpa using ew) ⟨rfl,fin⟩) hs
def OM:RA X SN:=by
 intro value slice pins s σ H x y v u Q I rx ry h hs
 obtain⟨z,i,c,rfl,rfl,hz,he,q⟩:=h
 obtain⟨t,rfl⟩:=rx
 obtain⟨t',rfl⟩:=ry
 obtain⟨j,h1,h2,h3,h4,h5⟩:=v6 he
 have hl:z.cps.toList.length=z.length:=by simp[Str.length]
 rw[hl] at h1 h4 h5
 have hn:=oU
 exact tail_any (UL s z t) slot_str_getitem.lookup (getItem_str (c:=c) (by
  have e1:decide (i < -(2 ^ 63:Int))=false:=ak (by lia)
  have e2:decide (i ≥ 2 ^ 63)=false:=ak (by lia)
  rw[e1,e2,uw]) (by rw[h1];simpa using h2) ⟨.str ⟨#[c]⟩,H,I.tok _,⟨_,rfl⟩,q⟩) hs
def Eg(its:fR)(n j:Nat)(u:Value):Obj.mapSeq (·.setIfInBounds j u) { cls:=.type "list",data:=.seq its.toArray n } = { cls:=.type "list",data:=.seq (its.set j u).toArray n }:=by
 simp[Obj.mapSeq]
def Inv.lst{p:Addr}(I:Inv X pins σ H s)(h:H p=some (.lst xs)):
  ∃(its:fR) (n:Nat),Vals xs its/\s.heap.get? p=some { cls:=.type "list",data:=.seq its.toArray n }/\xs.length<=sizeLine:=by
 obtain⟨z,its,n,r,e⟩:=I.Vl p _ h
 exact⟨its,n,r,e,z⟩
def Inv.ZW{p:Addr}{its its':fR}{f:Obj->Obj}(I:Inv X pins σ H s)(h:H p=some (.lst xs))(ho:s.heap.get? p=some { cls:=.type "list",data:=.seq its.toArray n })(hf:f { cls:=.type "list",data:=.seq its.toArray n } = { cls:=.type "list",data:=.seq its'.toArray n' })(r:Vals ys its')(hz:ys.length<=sizeLine)(t:Nat):
  Inv X pins σ (cE H p (.lst ys)) { s with heap:=s.heap.update p f,toks:=t }:=by
 have e:(s.heap.update p f).get? p=some { cls:=.type "list",data:=.seq its'.toArray n' }:=by
  rw[Heap.get?_update_self f ho (by rw[hf]<;>rfl),hf]
 refine I.write (x:=p) (e:=p) (by rw[h];trivial) (.inl rfl) (fun b u hb q=>(Heap.get?_update_other _ _ (dD hb)).trans q) ⟨_,e⟩ ?_
 exact⟨hz,its',n',r,e⟩
def QD:V->V->V->Hp->(Hp->Prop)->Prop:=fun o i v H Q=>∃p xs k j,o=.ref p/\i=.int k/\H p=some (.lst xs)/\FS xs.length k=some j/\Q (cE H p (.lst (xs.set j v)))
def Cs:ME X QD:=by
 intro pins s σ H o i v ov iv u Q I ro ri rv h
 obtain⟨p,xs,k,j,rfl,rfl,hp,hj,q⟩:=h
 cases ro
 obtain⟨t,rfl⟩:=ri
 obtain⟨its,n,r,ho,hz⟩:=I.lst hp
 obtain⟨h1,h2,h3,h4⟩:=FR hj
 have hl:=r.length
 have hn:=oU
 have I':Inv X pins σ (cE H p (.lst (xs.set j v))) { s with heap:=s.heap.update p (Obj.mapSeq (·.setIfInBounds j u)) }:=
  I.ZW hp ho (Eg its n j u) (r.set rv j) (by rw[bM];exact hz) s.toks
 by_cases h0:0<=k
 ·have hk:k.toNat=j:=by
   rw[R7 h0 h4] at h1
   exact bx h1
  exact PySem.W.ki_setAt ho h0 (by lia) (by rw[az,<-hl];exact h4) (by rw[hk];exact⟨_,I',q⟩)
 ·have hk:(k+(its.toArray.size:Int)).toNat=j:=by
   rw[PH (by lia) h3] at h1
   rw[az,<-hl]
   exact bx h1
  exact PySem.W.ki_setBack ho (by lia) (by rw[az,<-hl];exact h3) (by lia) (by rw[hk];exact⟨_,I',q⟩)
def AO(lo hi:Option Int)(n:Nat):(sliceBounds lo hi none n).1=((HT.Vo n 0 lo:Nat):Int)/\(sliceBounds lo hi none n).2.1=((HT.Vo n n hi:Nat):Int)/\(sliceBounds lo hi none n).2.2=1:=by
 refine⟨?_,?_,rfl⟩
 ·cases lo with
  |none=>simp[sliceBounds,HT.Vo]
  |some i=>
   simp only[sliceBounds,HT.Vo,Option.getD_none,show(1:Int) > 0 by decide,Ce]
   by_cases h:i<0
   ·simp only[h,Ce]<;>lia
   ·simp only[h,B7]<;>lia
 ·cases hi with
  |none=>simp[sliceBounds,HT.Vo]
  |some i=>
   simp only[sliceBounds,HT.Vo,Option.getD_none,show(1:Int) > 0 by decide,Ce]
   by_cases h:i<0
   ·simp only[h,Ce]<;>lia
   ·simp only[h,B7]<;>lia
def yd(its:fR)(lo hi:Option Int):slicePick its.toArray lo hi none=((its.drop (HT.Vo its.length 0 lo)).take (HT.Vo its.length its.length hi-HT.Vo its.length 0 lo)).toArray:=by
 obtain⟨h1,h2,h3⟩:=AO lo hi its.toArray.size
 unfold slicePick
 rw[h1,h2,h3]
 simp only[sliceRange_one,pick_run,az]<;>rfl
def SJ(K:bW):V->Option Int->Option Int->Hp->VK->Prop:=fun x lo hi H Q=>∃a xs,x=.ref a/\VE K H a xs/\∀p,H p=none->Q (.ref p) (cE H p (.lst (C7 xs lo hi)))
def Ld:Rt X (SJ X.K):=by
 intro pins s σ H x v vl vu lo hi sl Q I rx hs pl pu h
 obtain⟨a,xs,rfl,hx,q⟩:=h
 cases rx
 obtain⟨its,r,ht,hz⟩:=I.list hx
 have hlen:=r.length
 refine⟨"list",_,slot_list_getitem.lookup,ht.isList.typeIs,?_⟩
 refine wpAny_getItem_list_slice ht.isList hs pl pu .none (by simp) ?_ (by rw[az]<;>lia)
 rw[yd,<-hlen]
 refine⟨.ref s.heap.objs.size,_,I.laid (t':=s.toks) (o:=.lst (C7 xs lo hi)) (fun b ob q=>Heap.get?_push_of_some _ q) (aj _) ?_,rfl,q _ (I.Vl.fresh (aj _))⟩
 exact⟨ar (uM xs lo hi) hz,_,0,(r.drop (HT.Vo xs.length 0 lo)).take (HT.Vo xs.length xs.length hi-HT.Vo xs.length 0 lo),Heap.get?_push_size _ rfl⟩
def s9:gn X (.builtin "len") (fun xs H Q=>∃p ys,xs=[.ref p]/\(VE X.K H p ys\/VV X.K H p ys)/\Q (.int ys.length) H):=by
 intro pins s σ H xs us Q I r h
 obtain⟨p,ys,rfl,hq,q⟩:=h
 obtain⟨u,rfl,rx⟩:=iW r
 cases rx
 have hn:=oU
 rcases hq with hq | hq
 ·obtain⟨its,r',pl,hz⟩:=I.list hq
  have hlen:=r'.length
  exact Calls.call_len_list pl.isList (by simp only[az]<;>lia) ⟨.int ys.length,H,I.tok _,⟨s.toks+1,by rw[az,hlen]⟩,q⟩
 ·obtain⟨its,r',pl,hz⟩:=I.tuple hq
  have hlen:=r'.length
  exact len_tuple pl (by simp only[az]<;>lia) ⟨.int ys.length,H,I.tok _,⟨s.toks+1,by rw[az,hlen]⟩,q⟩
def BJ:gn X (.builtin "len") (fun xs H Q=>∃z,xs=[.str z]/\z.length<=sizeLine/\Q (.int z.length) H):=by
 intro pins s σ H xs us Q I r h
 obtain⟨z,rfl,hz,q⟩:=h
 obtain⟨u,rfl,t,rfl⟩:=iW r
 have hn:=oU
 exact len_str (by lia) ⟨.int z.length,H,I.tok _,⟨_,rfl⟩,q⟩
def BI:gn X (.type "list") (fun xs H Q=>∃p ys,xs=[.ref p]/\(VE X.K H p ys\/VV X.K H p ys)/\∀l,H l=none->Q (.ref l) (cE H l (.lst ys))):=by
 intro pins s σ H xs us Q I r h
 obtain⟨p,ys,rfl,hq,q⟩:=h
 obtain⟨u,rfl,rx⟩:=iW r
 cases rx
 have fin:∀(its:fR),Vals ys its->ys.length<=sizeLine->∀(h':Heap) (c':Nat),(∀b o',s.heap.get? b=some o'->h'.get? b=some o') ->
   h'.get? s.heap.objs.size=some { cls:=.type "list",dict:=none,data:=.seq its.toArray c',slots:=#[] }->EP X pins σ Q (.ref s.heap.objs.size) { s with heap:=h' }:=fun its r' hz h' c' kp e=>
  ⟨.ref s.heap.objs.size,_,I.laid (t':=s.toks) kp (aj _) (show Ve X.prog X.w _ h' _ (.lst ys) from⟨hz,its,c',r',e⟩),rfl,q _ (I.Vl.fresh (aj _))⟩
 rcases hq with hq | hq
 ·obtain⟨its,r',pl,hz⟩:=I.list hq
  have hlen:=r'.length
  obtain⟨o,ho,hc,n,hd⟩:=pl.isList
  exact call_list_seq p (.inl rfl) ho hc hd (fun h' c' kp e=>fin its r' hz h' c' kp e) (by simp only[az]<;>lia)
 ·obtain⟨its,r',pl,hz⟩:=I.tuple hq
  have hlen:=r'.length
  obtain⟨o,ho,hc,n,hd⟩:=pl
  exact call_list_seq p (.inr rfl) ho hc hd (fun h' c' kp e=>fin its r' hz h' c' kp e) (by simp only[az]<;>lia)
def y6:gn X (.type "tuple") (fun xs H Q=>∃p ys,xs=[.ref p]/\((VE X.K H p ys/\∀l,H l=none->Q (.ref l) (cE H l (.tup ys)))\/(VV X.K H p ys/\Q (.ref p) H))):=by
 intro pins s σ H xs us Q I r h
 obtain⟨p,ys,rfl,h⟩:=h
 obtain⟨u,rfl,rx⟩:=iW r
 cases rx
 rcases h with⟨hq,q⟩ | ⟨hq,q⟩
 ·obtain⟨its,r',pl,hz⟩:=I.list hq
  have hlen:=r'.length
  refine call_tuple_list pl.isList (fun h' kp=>?_) (by simp only[az]<;>lia)
  have I1:Inv X pins σ H { s with heap:=h' }:=I.kept (t':=s.toks) kp
  have I2:Inv X pins σ (cE H h'.objs.size (.tup ys)) { s with heap:=h'.push { cls:=.type "tuple",data:=.seq its.toArray } }:=
   I1.laid (t':=s.toks) (fun b o e=>Heap.get?_push_of_some _ e) (aj _) (show Ve X.prog X.w _ _ _ (.tup ys) from⟨hz,its,r',IsTup.new _ _⟩)
  exact⟨.ref h'.objs.size,_,I2,rfl,q _ (I1.Vl.fresh (aj _))⟩
 ·obtain⟨its,r',pl,hz⟩:=I.tuple hq
  exact call_tuple_same pl ⟨.ref p,H,I,rfl,q⟩
def Sj(K:bW)(T:String)(x:V)(H:Hp):Prop:=match x with
 |.str _=>T="str"
 |.int _=>T="int"
 |.ref p=>(T="list" /\ ∃xs,VE K H p xs)\/(T="tuple" /\ ∃o,K.lookup p=some o/\o.cls=.type "tuple" /\ o.dict=none) \/
   (T="dict" /\ ((∃kvs,H p=some (.dK kvs))\/∃kvs,H p=some (.dT kvs)))\/(T="set" /\ ∃S n,H p=some (.set S n))
 |_=>False
def HB(I:Inv X pins σ H s)(r:RelV x v)(ty:Sj X.K T x H):
  s.TypeIs v T/\∀a,v=.ref a->∃ob,s.heap.get? a=some ob/\ob.dict=none:=by
 cases x with
 |str z=>
  obtain⟨t,rfl⟩:=r
  cases(show T="str" from ty)
  exact⟨UL s z t,fun _ e=>nomatch e⟩
 |int i=>
  obtain⟨t,rfl⟩:=r
  cases(show T="int" from ty)
  exact⟨MF s i t,fun _ e=>nomatch e⟩
 |ref p=>
  cases r
  rcases ty with⟨rfl,xs,hq⟩ | ⟨rfl,o,hk,hc,hd⟩ | ⟨rfl,hk⟩ | ⟨rfl,S,n,hk⟩
  ·obtain⟨its,_,pl,_⟩:=I.list hq
   refine⟨pl.isList.typeIs,fun a e=>?_⟩
   cases e
   obtain⟨o,n,e,c,hd,_⟩:=pl
   exact⟨o,e,hd⟩
  ·refine⟨⟨o,I.WM p o hk,hc⟩,fun a e=>?_⟩
   cases e
   exact⟨o,I.WM _ o hk,hd⟩
  ·have z:∃o,s.heap.get? p=some o/\o.ExactDict:=by
    rcases hk with⟨kvs,hk⟩ | ⟨kvs,hk⟩
    ·obtain⟨_,_,_,_,o,_,_,e,ex,_⟩:=I.Vl p _ hk
     exact⟨o,e,ex⟩
    ·obtain⟨_,_,_,_,o,_,_,e,ex,_⟩:=I.Vl p _ hk
     exact⟨o,e,ex⟩
   obtain⟨o,e,ex⟩:=z
   refine⟨⟨o,e,ex.1⟩,fun a e2=>?_⟩
   cases e2
   exact⟨o,e,ex.2.1⟩
  ·obtain⟨o,_,_,_,e,ex,_⟩:=I.Vl p _ hk
   refine⟨⟨o,e,ex.1⟩,fun a e2=>?_⟩
   cases e2
   exact⟨o,e,ex.2.1⟩
 |_=>exact False.elim ty
def Sz(K:bW)(T:String)(r:V->df->Hp->VK->Prop)(to:TE):TE:=fun σ H Q=>to σ H fun x H1=>Sj K T x H1/\r x [] H1 Q
def UB(K:bW)(T:String)(r:V->df->Hp->VK->Prop)(to:TE)(t:TA):TE:=fun σ H Q=>to σ H fun x H1=>Sj K T x H1/\t σ H1 fun xs H2=>r x xs H2 Q
variable {id:String}{r:V->df->Hp->VK->Prop}
def wR{apos:Pos}{U7:Pos}(pa:PlainAttrs T)(slot:Slot T name id)(hty:typeOf (.builtin id)=pure (.type "method_descriptor"))(hm:Rz X id r)(ho:PE X o to)(Wu:attributeBase o name X.env (eval o X.env)=eval o X.env:=by rfl)(Vk:(apos.endLine==U7.line)=true:=by rfl):PE X (.Call (.Attribute o name apos) [] [] U7) (Sz X.K T r to):=by
 intro pins s σ H Q I h
 refine wpAny_Call_method0_late Wu Vk (dk (ho pins s σ H _ I h) fun v s1 ⟨x,H1,I1,r1,ty,q1⟩=>?_)
 obtain⟨h1,h2⟩:=HB I1 r1 ty
 exact⟨T,id,pa,slot,hty,h1,h2,Dy rfl (PySem.evalArgs_none (hm pins s1 σ H1 x [] v [] Q I1 r1 .nil q1))⟩
def uI{apos:Pos}(pa:PlainAttrs T)(slot:Slot T name id)(hty:typeOf (.builtin id)=pure (.type "method_descriptor"))(hm:Rz X id r)(ho:PE X o to)(ha:PA X (e::es) t)(Wu:attributeBase o name X.env (eval o X.env)=eval o X.env:=by rfl)(Wh:((backTo U7 (starEach (e::es) X.env)).all (fun x=>!x.1)&&(backToKw U7 (keywordEach [] X.env)).all (fun x=>x.1.isSome)
   && decide ((e::es).length+([]:List Keyword).length+(if ([]:List Keyword).isEmpty then 0 else 1)<30))=true:=by rfl)(Vk:(apos.endLine==U7.line)=true:=by rfl)(hs:Ci e es X.env:=by rfl)(X2:rM U7 es X.env:=by rfl):
  PE X (.Call (.Attribute o name apos) (e::es) [] U7) (UB X.K T r to t):=by
 intro pins s σ H Q I h
 refine wpAny_Call_method_late Wu Wh Vk rfl (dk (ho pins s σ H _ I h) fun v s1 ⟨x,H1,I1,r1,ty,q1⟩=>?_)
 obtain⟨h1,h2⟩:=HB I1 r1 ty
 refine⟨T,id,pa,slot,hty,h1,h2,?_⟩
 have hA:=ha U7 pins s1 σ H1 _ I1 q1
 rw[hs] at hA ⊢
 refine Dy (by show(false||(backTo U7 (starEach es X.env)).any (·.1))=false;rw[X2]<;>rfl) (Calls.evalArgs_plain ?_)
 exact dk hA fun us s2 ⟨vs,H2,I2,r2,q2⟩=>hm pins s2 σ H2 x vs v us Q I2 r1 r2 q2
end
def TQ(X:Cx)(id:String)(r:V->df->Hp->VK->Prop):Prop:=
 ∀(pins:gc) (s:Shared) (σ:St) (H:Hp) (x:V) (xs:df) (v:Value) (us:fR) (Q:VK),Inv X pins σ H s->RelV x v->Vals xs us->r x xs H Q ->
  dZ X (call (.builtin id) (v::us)) (EP X pins σ Q) X.xe s
def Vals.one:∀{x:V} {us:fR},Vals [x] us->∃u,us=[u]/\RelV x u
 |_,_,.cons r .nil=>⟨_,rfl,r⟩
def Vals.zero:∀{us:fR},Vals [] us->us=[]
 |_,.nil=>rfl
def Vals.dropLast(h:Vals xs us):Vals xs.dropLast us.dropLast:=by
 induction h with
 |nil=>exact .nil
 |cons r t ih=>
  cases t with
  |nil=>exact .nil
  |cons q t'=>exact .cons r ih
def Vals.reverse(h:Vals xs us):Vals xs.reverse us.reverse:=by
 induction h with
 |nil=>exact .nil
 |cons r t ih=>rw[lN,lN];exact Vals.append ih (.cons r .nil)
def Vals.rep(h:Vals xs us):∀k:Nat,Vals (List.replicate k xs).flatten (List.replicate k us).flatten
 |0=>.nil
 |k+1=>by
  rw[aA,aA,bj,bj]
  exact Vals.append h (Vals.rep h k)
def Ev{α:Type}(l:List α):l.eraseIdx (l.length-1)=l.dropLast:=by
 induction l with
 |nil=>rfl
 |cons a r ih=>
  cases r with
  |nil=>rfl
  |cons b r=>
   have e:(a::b::r).length-1=((b::r).length-1)+1:=by
    have h1:(a::b::r).length=r.length+2:=rfl
    have h2:(b::r).length=r.length+1:=rfl
    lia
   rw[e,List.eraseIdx_cons_succ,ih]
   all_goals rfl
def Ay(its:fR):∀(k:Nat) (acc:fR),
  List.foldl (fun x1 x2=>x1++x2) acc.toArray (List.replicate k its.toArray)=(acc++(List.replicate k its).flatten).toArray
 |0,acc=>by simp
 |k+1,acc=>by
  have e:acc.toArray++its.toArray=(acc++its).toArray:=by simp
  have e2:(acc++its)++(List.replicate k its).flatten=acc++(List.replicate (k+1) its).flatten:=by
   rw[aA,bj,aF]
  rw[<-e2,<-Ay its k (acc++its),<-e,aA,xZ]
def Inv.ZX{its its':fR}{t':Nat}{l:Addr}{f:Array Value->Array Value}(I:Inv X pins σ H s)(hH:H l=some (.lst xs))(e:s.heap.get? l=some { cls:=.type "list",data:=.seq its.toArray n })(hf:f its.toArray=its'.toArray)(hv:Vals ys its')(hz:ys.length<=sizeLine):
  Inv X pins σ (cE H l (.lst ys)) { s with heap:=s.heap.update l (Obj.mapSeq f),toks:=t' }:=by
 have q:=PySem.IsL.update e f
 rw[hf] at q
 refine I.write (x:=l) (e:=l) (by rw[hH];exact trivial) (.inl rfl) (fun b' u hb hu=>(Heap.get?_update_other s.heap (Obj.mapSeq f) (dD hb)).trans hu) ⟨_,q⟩ ?_
 exact⟨hz,its',_,hv,q⟩
def Inv.ZY{t':Nat}(I:Inv X pins σ H s)(hv:Vals ys its)(hz:ys.length<=sizeLine):
  Inv X pins σ (cE H s.heap.objs.size (.lst ys)) { s with heap:=s.heap.push { cls:=.type "list",data:=.seq its.toArray },toks:=t' }:=
 I.laid (fun _ _ q=>Heap.get?_push_of_some _ q) (aj _) ⟨hz,its,0,hv,Heap.get?_push_size _ rfl⟩
def Inv.fresh(I:Inv X pins σ H s):H s.heap.objs.size=none:=I.Vl.fresh (aj _)
def Inv.X0{l:Addr}(I:Inv X pins σ H s)(hH:H l=some (.lst xs)):xs.length<=sizeLine/\∃(its:fR) (n:Nat),Vals xs its/\xs.length=its.length/\s.heap.get? l=some { cls:=.type "list",data:=.seq its.toArray n }:=by
 obtain⟨z,its,n,r,e⟩:=I.Vl l _ hH
 exact⟨z,its,n,r,r.length,e⟩
def CI{n:Nat}(h:n<=sizeLine):Builtin.List.listTooLong n=false:=by
 unfold Builtin.List.listTooLong
 exact ak (by lia)
def Lq:V->df->Hp->VK->Prop:=fun x vs H Q=>∃l xs y,x=.ref l/\vs=[y]/\H l=some (.lst xs)/\xs.length<sizeLine/\Q .Vs (cE H l (.lst (xs++[y])))
def l8:TQ X "list.append" Lq:=by
 intro pins s σ H x vs v us Q I rx rv h
 obtain⟨l,xs,y,rfl,rfl,hH,hz,q⟩:=h
 cases rx
 obtain⟨u,rfl,ru⟩:=rv.one
 obtain⟨z,its,n,r,hl,e⟩:=I.X0 hH
 refine ml F.slot_list_append ⟨_,e,rfl⟩ F.entry_list_append (F.args_list_append_2 _ _) (PySem.list_append l its.toArray n u (by rw[az];lia)) ⟨e,?_⟩
 refine⟨.Vs,_,I.ZX (its':=its++[u]) hH e (by simp) (r.append (.cons ru .nil)) ?_,rfl,q⟩
 rw[ac,bI]
 lia
def Lp:V->df->Hp->VK->Prop:=fun x vs H Q=>∃l b xs zs,x=.ref l/\vs=[.ref b]/\H l=some (.lst xs)/\H b=some (.lst zs)/\xs.length+zs.length<=sizeLine/\Q .Vs (cE H l (.lst (xs++zs)))
def Au:TQ X "list.extend" Lp:=by
 intro pins s σ H x vs v us Q I rx rv h
 obtain⟨l,b,xs,zs,rfl,rfl,hH,hB,hz,q⟩:=h
 cases rx
 obtain⟨u,rfl,ru⟩:=rv.one
 cases ru
 obtain⟨z,its,n,r,hl,e⟩:=I.X0 hH
 obtain⟨z2,XN,n2,r2,hl2,e2⟩:=I.X0 hB
 have hsz:its.toArray.size+XN.toArray.size<=sizeLine:=by rw[az,az];lia
 have YK:¬(!its.toArray.isEmpty&&Builtin.List.listTooLong (its.toArray.size+XN.toArray.size))=true:=by
  rw[CI hsz,Cc]
  exact av
 refine ml F.slot_list_extend ⟨_,e,rfl⟩ F.entry_list_extend (F.args_list_extend_2 _ _)
  (AutoSeq1.list_extend_list_list_0 l its.toArray n b XN.toArray n2 YK (by rw[az];lia) (by lia)) ⟨e,e2,?_⟩
 refine⟨.Vs,_,I.ZX (its':=its++XN) hH e (by simp) (r.append r2) ?_,rfl,q⟩
 rw[ac]
 lia
def SL:V->df->Hp->VK->Prop:=fun x vs H Q=>∃l xs y,x=.ref l/\vs=[]/\H l=some (.lst xs)/\xs[xs.length-1]?=some y/\Q y (cE H l (.lst xs.dropLast))
def A6:TQ X "list.pop" SL:=by
 intro pins s σ H x vs v us Q I rx rv h
 obtain⟨l,xs,y,rfl,rfl,hH,hy,q⟩:=h
 cases rx
 have hus:=rv.zero
 subst hus
 obtain⟨z,its,n,r,hl,e⟩:=I.X0 hH
 obtain⟨u,hu,ru⟩:=r.get hy
 have hy':its.toArray[its.toArray.size-1]?=some u:=by
  show its.toArray[its.length-1]?=some u
  rw[<-Array.getElem?_toList,<-hl]
  exact hu
 refine ml F.slot_list_pop ⟨_,e,rfl⟩ F.entry_list_pop (F.args_list_pop_1 _) (MeetsSeq.list_pop_last l its.toArray n u hy' (by rw[az];lia)) ⟨e,?_⟩
 refine⟨y,_,I.ZX (its':=its.dropLast) hH e ?_ r.dropLast ?_,ru,q⟩
 ·show its.toArray.eraseIdxIfInBounds (its.toArray.size-1)=its.dropLast.toArray
  rw[az,List.eraseIdxIfInBounds_toArray,Ev]
 ·rw[aW]
  lia
def SO:R2:=fun x y H Q=>∃l b xs zs,x=.ref l/\y=.ref b/\H l=some (.lst xs)/\H b=some (.lst zs)/\xs.length+zs.length<=sizeLine/\∀p,H p=none->Q (.ref p) (cE H p (.lst (xs++zs)))
def Om:lP X (binaryOp .Add) SO:=by
 intro pins s σ H x y v u Q I rx ry h
 obtain⟨l,b,xs,zs,rfl,rfl,hH,hB,hz,q⟩:=h
 cases rx
 cases ry
 obtain⟨z,its,n,r,hl,e⟩:=I.X0 hH
 obtain⟨z2,XN,n2,r2,hl2,e2⟩:=I.X0 hB
 refine PySem.P.add_list e e2 ?_ (by rw[az,az];lia)
 have ea:its.toArray++XN.toArray=(its++XN).toArray:=by simp
 rw[ea]
 exact⟨.ref _,_,I.ZY (t':=s.toks) (r.append r2) (by rw[ac];lia),rfl,q _ I.fresh⟩
def SK:R2:=fun x y H Q=>∃l k xs,x=.ref l/\y=.int k/\H l=some (.lst xs)/\-(2 ^ 63)<=k/\k<2 ^ 63/\xs.length*k.toNat<=sizeLine /\
 ∀p,H p=none->Q (.ref p) (cE H p (.lst (List.replicate k.toNat xs).flatten))
def LP{α:Type}(xs:List α)(k:Nat):(List.replicate k xs).flatten.length=k*xs.length:=by
 induction k with
 |zero=>simp
 |succ k ih=>rw[aA,bj,ac,ih,lH,Nat.add_comm]
def Oi:lP X (binaryOp .Mult) SK:=by
 intro pins s σ H x y v u Q I rx ry h
 obtain⟨l,k,xs,rfl,rfl,hH,h1,h2,hz,q⟩:=h
 cases rx
 obtain⟨t,rfl⟩:=ry
 obtain⟨z,its,n,r,hl,e⟩:=I.X0 hH
 have hlen:its.toArray.size*k.toNat<=sizeLine:=by rw[az,<-hl];exact hz
 have hcap:¬its.toArray.size*k.toNat > (2 ^ 63-1) / 8:=by
  have:(sizeLine:Nat)<=(2 ^ 63-1) / 8:=by decide
  lia
 have Zk:¬(!Builtin.List.listFitsIndex k)=true:=by
  rw[fitsIndex_both h1 h2]
  exact av
 have YK:¬Builtin.List.listTooLong (its.toArray.size*k.toNat)=true:=by
  rw[CI hlen]
  exact av
 have Yl:List.foldl (fun x1 x2=>x1++x2) #[] (List.replicate (if its.toArray.isEmpty=true then 0 else k.toNat) its.toArray)=(List.replicate k.toNat its).flatten.toArray:=by
  have f0:∀m:Nat,List.foldl (fun x1 x2=>x1++x2) #[] (List.replicate m its.toArray)=(List.replicate m its).flatten.toArray:=fun m=>by
   have:=Ay its m []
   rw[List.nil_append] at this
   exact this
  rw[f0]
  cases its with
  |nil=>simp
  |cons a r'=>rw[aq (by simp)]
 refine UW (T := "list") (U := "int") (by decide) ⟨_,e,rfl⟩ (fun s'=>MF s' k t) noFill_list_mul F.fills_int_mul F.slot_int_rmul repeat_list F.slot_int_index.lookup
  (ml F.slot_int_rmul (MF s k t) F.entry_int_rmul (F.args_int_rmul_2 _ _) (int___rmul___int_list k t l its.toArray n)
   ⟨e,rfl,⟨_,e,rfl⟩,ml F.slot_list_mul ⟨_,e,rfl⟩ F.entry_list_mul (F.args_list_mul_2 _ _) (AutoListH.list___mul___list_int_3 l its.toArray n k t Zk hcap YK) ⟨e,?_⟩⟩)
 rw[Yl]
 exact⟨.ref _,_,I.ZY (t':=s.toks) (r.rep k.toNat) (by rw[LP,Nat.mul_comm];exact hz),rfl,q _ I.fresh⟩
end L2
namespace Att
open PySem PySem.W PySem.Calls PyProof.Rows
variable {K:bW}
def u4{P:Params}:∀(ns:aS) (vs:fR),WellAll P h vs (ns.map WData.int)->IntsAre vs ns:=by
 intro ns
 induction ns with
 |nil=>
  intro vs w
  rw[Hm] at w
  cases w
  exact .nil
 |cons n ns ih=>
  intro vs w
  rw[aT] at w
  cases w with
  |cons a b=>
   cases a
   exact .cons _ _ (ih _ b)
def GG{l:OpenLaw}(hn:l.most=some n){P:Params}{args:List WData}(Zj:l.row.toRowW.claim.pre args=true)(hwl:WellAll P h vals args):
  ∃a vs ns,vals=[Value.ref a]/\args=[WData.list (ns.map WData.int)]/\h.get? a=some { cls:=.type "list",data:=.seq vs.toArray }/\IntsAre vs ns/\ns.length<=n:=by
 have hsh:WShape.hasAll [] args [.list .int]=true:=(pre_splitW Zj).1
 have hc:l.pre.holds [] { args:=args }=true:=(pre_splitW Zj).2
 obtain⟨d,r,rfl,h1,h2⟩:=hasAllW_cons hsh
 obtain rfl:=hasAllW_nil h2
 obtain⟨xs,rfl,h3⟩:=hasW_list h1
 obtain⟨ns,rfl⟩:=items_int h3
 have hlen:ns.length<=n:=by
  unfold OpenLaw.pre at hc
  have h4:(WTm.not (.lt (.lit (.int (n:Int))) (.len (.arg 0)))).holds [] { args:=[.list (ns.map .int)] }=true:=by
   have h4:=(holds_andW hc).1
   rw[hn] at h4
   exact h4
  have h5:=condW_of h4 (w_not (w_lt w_lit (w_len_list (w_arg rfl))))
  rw[ag] at h5
  refine Nat.le_of_not_lt fun q=>?_
  have q':(n:Int)<((ns.length:Nat):Int):=by lia
  first
   |(rw[ay q'] at h5;exact absurd h5 (by decide))
   |(simp at h5;lia)
 cases hwl with
 |cons w1 w2=>
  cases w2
  cases w1 with
  |list ho Zo=>exact⟨_,_,ns,rfl,rfl,ho,u4 ns _ Zo,hlen⟩
def GM(l:OpenLaw)(args:List WData):l.row.toRowW.claim.post args (.bool true) args=true:=
 postW_of (r:=l.row.toRowW) (X:=(true==true))
  (show WShape.has [] (.bool true) .bool=true by first | rfl | decide | simp[WShape.has,WShape.arms,WShape.armsAll])
  (show(WTm.eq .res (.lit (.bool true))).value [] { args:=args,res:=some (.bool true),after:=args }=some (.bool (true==true)) from w_eq_bool (w_res rfl) w_lit) rfl
def XQ{l:OpenLaw}{XP:(Str->Option Value)->Heap->Prop}{YP:World->Heap->Prop}{d:DefRec}(hn:l.most=some n)(hdf:d.params.defaults=[])(call:∀(w:World) (s₀ s₁:Shared) (mg mb:ux) (fa:Addr) (o:Obj) (pm cd doc:Value) (a:Addr) (vs:fR) (ns:aS),
   Ground q loose [] XP w s₀ mg mb s₁.heap->YP w s₁.heap ->
   s₁.heap.get? fa=some o->o.data=.func (docDef d.name d.params d.body d.scope pm cd doc)->s₁.heap.CodeRec cd d.name->mg d.name=some (.ref fa) ->
   s₁.heap.get? a=some { cls:=.type "list",data:=.seq vs.toArray }->IntsAre vs ns->ns.length<=n->s₁.gens = #[] ->
   codeAny (model l.prog w) callerA (.call (.ref fa) ⟨[.ref a],[]⟩) (fun r s'=>r=.ok (.ret (.bool true))/\OldK s₁.heap s'.heap/\s'.os=s₁.os/\AllBare s'.gens) s₁):
  WalkO q loose XP YP l.row.toRowW d [] (fun f vs=>PySem.call f vs):=by
 intro w s₀ s₁ mg mb G Y fa o pm cd doc dV kV ho hd Zn hD hmg hg args vals as Zj hlay hrd hwl hlo
 obtain rfl:dV=.none:=Dflts.none hD hdf
 obtain rfl:kV=.none:=Dflts.noKw hD
 obtain⟨a,vs,ns,rfl,rfl,Z2,hints,hlen⟩:=GG hn Zj hwl
 refine enter_call (PJ (call w s₀ s₁ mg mb fa o pm cd doc a vs ns G Y ho (fd_plain hd) Zn hmg Z2 hints hlen hg) fun r s' hq=>?_)
 obtain⟨rfl,h2,h3,h4⟩:=hq
 exact⟨.inl ⟨.bool true,.bool true,[],rfl,fun _=>rfl,.bool true,GM l _,fun _=>⟨List.Pairwise.nil,fun _ hm=>(nomatch hm)⟩⟩,h2,h3,h4⟩
section
variable {K:Frag}
def S8(h:Heap)(L d:Addr):gc:=(List.range h.objs.size).filterMap fun a=>if a=L\/a=d then none else (h.get? a).map fun o=>(a,o)
end
end Att
namespace L2
open PySem PySem.Spec PyProof.Rows
variable {K:bW}
def z5:∀{vs:fR} {ns:aS},IntsAre vs ns->Vals (ns.map V.int) vs
 |_,_,.nil=>.nil
 |_,_,.cons n t h=>.cons ⟨t,rfl⟩ (z5 h)
def Pv(H:Hp):Prop:=∀b,H b=none\/∃o xs,H b=some (.WA o (.lst xs))
def Jo{K:bW}{a:Addr}{x:Str}{s₁:Shared}{vs:fR}(KX:K.In s₁.heap)(hns:s₁.heap.Ns mainGlobals mg)(hb:s₁.heap.Ns builtinsNs mb)(hbb:∀x:Str,x ≠ "__name__" -> mb x=bootBuiltins x)(hlim:s₁.heap.NoLimit)(Yd:s₁.heap.NoSeer)(hg:s₁.gens = #[])(ha:s₁.heap.get? a=some { cls:=.type "list",data:=.seq vs.toArray })(hi:IntsAre vs ns)(hl:ns.length<=sizeLine)(hr:Vz k callerA)(F:∀base:Heap,K.In base->base.Ns mainGlobals mg->dO P w K mg base CX k fa fd [x] sp)(hbind:∀(s:Shared) (u:Value),BindsTo s fd ⟨[u],[]⟩ [(x,u)])(ZD:∀H:Hp,Pv H->VE K H a (ns.map V.int)->sp [.ref a] H (fun v _=>v=.bl true) fun _ _ _=>False)(hCX:∀H e s',CX [] H s₁ (fun _ _ _=>False) e s'->False):
  codeAny (model P w) callerA (.call (.ref fa) ⟨[.ref a],[]⟩) (fun r s'=>r=.ok (.ret (.bool true))/\OldK s₁.heap s'.heap/\s'.os=s₁.os/\AllBare s'.gens) s₁:=by
 have rv:=z5 hi
 have lenV:=hi.length
 have core:∀H:Hp,Pv H->VE K H a (ns.map V.int)->Xf P w H s₁.heap->(∀b,H b≠none->b=a)->(H a≠none->K.lookup a=none) ->
   codeAny (model P w) callerA (.call (.ref fa) ⟨[.ref a],[]⟩) (fun r s'=>r=.ok (.ret (.bool true))/\OldK s₁.heap s'.heap/\s'.os=s₁.os/\AllBare s'.gens) s₁:=by
  intro H hO hS Vl hA hK
  have XF:∀{b:Addr} {o:Obj},s₁.heap.get? b=some o->H b=none->(yz s₁.heap H).get? b=some o:=fun e n=>Jx e n
  have noA:∀{b:Addr} {o:Obj} {es:Array DictEntry} {ep:Nat},s₁.heap.get? b=some o->o.data=.dict es ep->H b=none:=fun {b o es ep} e d=>by
   cases q:H b with
   |none=>rfl
   |some u=>
    have e':b=a:=hA b (by rw[q];simp)
    subst e'
    rw[ha] at e;cases e
    have d':Data.seq vs.toArray _=Data.dict es ep:=d
    cases d'
  have ZC:∀{b:Addr} {m:ux},s₁.heap.Ns b m->(yz s₁.heap H).Ns b m:=fun {b m} ⟨o,es,ep,e,d,r⟩=>⟨o,es,ep,XF e (noA e d),d,r⟩
  have hKb:K.In (yz s₁.heap H):=fun b o e=>XF (KX b o e) (by
   cases q:H b with
   |none=>rfl
   |some u=>
    have e':b=a:=hA b (by rw[q];simp)
    subst e'
    rw[hK (by rw[q];simp)] at e;cases e)
  have hSeer:(yz s₁.heap H).NoSeer:={
   statics:=let ⟨mc,a1,b1⟩:=Yd.statics;⟨mc,ZC a1,b1⟩
   mods:=let ⟨mc,a1,b1⟩:=Yd.mods;⟨mc,ZC a1,b1⟩
   imp:=let ⟨mc,a1,b1⟩:=Yd.imp;⟨mc,ZC a1,b1⟩
   main:=let ⟨WD,bm,ob,a1,b1,c1,d1,e1⟩:=Yd.main;⟨WD,bm,ob,ZC a1,b1,XF c1 (by
    cases q:H bm with
    |none=>rfl
    |some u=>
     have e':bm=a:=hA bm (by rw[q];simp)
     subst e'
     rw[ha] at c1;cases c1
     injection d1 with d2
     exact absurd d2 (by decide)),d1,e1⟩ }
  have hM:Mod K mg (yz s₁.heap H):=⟨hKb,ZC hns,⟨mb,ZC hb,hbb⟩,let ⟨mc,h1,h2⟩:=hlim;⟨mc,ZC h1,h2⟩,hSeer⟩
  have e0:X9 P w K mg (yz s₁.heap H) callerA [] s₁ H:=⟨rfl,hM,fun b o e=>LL e,lM (GY _ _),trivial,fun b hb=>absurd (show b∈([]:List Addr) from hb) (by simp),Vl,.of_eq hg⟩
  refine PJ ((F _ hKb (ZC hns)).run callerA [] s₁ H ⟨[.ref a],[]⟩ [.ref a] [.ref a] _ _ hr e0 (hbind s₁ (.ref a)) (.cons rfl .nil) (ZD H hO hS)) fun r s' h=>?_
  cases r with
  |error e=>exact(hCX H e s' h).elim
  |ok fl=>
   cases fl with
   |next=>exact False.elim h
   |brk=>exact False.elim h
   |cont=>exact False.elim h
   |ret u=>
    obtain⟨v,H',os,bare,un,hok',r',q⟩:=h
    have q':v=.bl true:=q
    subst q'
    obtain rfl:u=Value.bool true:=r'
    refine⟨rfl,OldK.of_keep fun b o e=>?_,os,bare⟩
    cases q:H b with
    |none=>exact un.keep b o e q (by intro z;exact absurd (show b∈([]:List Addr) from z) (by simp)) (by simp)
    |some u=>
     rcases hO b with z | ⟨ob,xs,z⟩
     ·rw[q] at z;cases z
     ·have z2:=un.Xd b ob _ z
      obtain⟨e1,_⟩:=Vl b _ z
      obtain⟨e2,_⟩:=hok' b _ z2
      rw[e] at e1;cases e1
      exact e2
 cases hk:K.lookup a with
 |some o=>
  have e:=KX a o hk
  rw[ha] at e
  cases e
  refine core (fun _=>none) (fun _=>.inl rfl) (.inr ⟨_,vs.toArray,_,hk,rfl,rfl,rfl,by rw[az,lenV];exact hl,by simpa using rv⟩) (fun b u z=>by have z':(none:Option HO)=some u:=z;cases z') (fun b z=>absurd rfl z) fun z=>absurd rfl z
 |none=>
  refine core (fun b=>if b=a then some (.WA { cls:=.type "list",data:=.seq vs.toArray } (.lst (ns.map V.int))) else none) (fun b=>?_) (.inl (.inr ⟨{ cls:=.type "list",data:=.seq vs.toArray },au rfl⟩)) (fun b u z=>?_) (fun b z=>?_) fun _=>hk
  ·by_cases hb:b=a
   ·exact .inr ⟨_,_,au hb⟩
   ·exact .inl (aq hb)
  ·by_cases hb:b=a
   ·have z':=(au hb).symm.trans z
    cases z'
    subst hb
    exact⟨ha,by rw[ag];exact hl,vs,_,rv,ha⟩
   ·have z':=(aq hb).symm.trans z
    cases z'
  ·by_cases hb:b=a
   ·exact hb
   ·exact absurd (aq hb) z
def Y7{q:Program}{l:PySem.W.OpenLaw}{XP:(Str->Option Value)->Heap->Prop}{YP:World->Heap->Prop}{d:DefRec}{K:Params->bW}{CX:World->P1}{sp:World->Sp}(hq:importsNone q=true)(hn:l.most=some n)(hn2:n<=sizeLine)(hdf:d.params.defaults=[])(hr:Vz k callerA)(hY:∀(w:World) (h:Heap),YP w h->(K w.params).In h)(F:∀(w:World) (mg:ux) (fa:Addr) (h:Heap),(K w.params).In h->h.Ns mainGlobals mg->mg d.name=some (.ref fa) ->
   ∃fd:FuncData,(∀(s:Shared) (u:Value),BindsTo s fd ⟨[u],[]⟩ [(x,u)]) /\
    ∀base:Heap,(K w.params).In base->base.Ns mainGlobals mg->dO l.prog w (K w.params) mg base (CX w) k fa fd [x] (sp w))(ZD:∀(w:World) (H:Hp) (a:Addr) (ns:aS),ns.length<=n->Pv H->VE (K w.params) H a (ns.map V.int)->sp w [.ref a] H (fun v _=>v=.bl true) fun _ _ _=>False)(hCX:∀(w:World) (H:Hp) (s:Shared) (e:Value) (s':Shared),CX w [] H s (fun _ _ _=>False) e s'->False):
  PySem.W.WalkO q loose XP YP l.row.toRowW d [] (fun f vs=>PySem.call f vs):=by
 refine Att.XQ hn hdf fun w s₀ s₁ mg mb fa o pm cd doc a vs ns G Y ho hd Zn hmg Z2 hints hlen hg=>?_
 have KX:=hY w _ Y
 obtain⟨fd,hb,hF⟩:=F w mg fa _ KX G.T.g hmg
 exact Jo KX G.T.g G.T.b G.T.builtins G.T.nolimit (G.T.seer hq) hg Z2 hints (ar hlen hn2) hr hF hb (fun H hO hS=>ZD w H a ns hlen hO hS) fun H e s'=>hCX w H s₁ e s'
def h9(s:Stmt):Arguments:=match s with
 |.FunctionDef _ a _ _ _ _ _ _ _ _=>a
 |_=>{ posonlyargs:=[],args:=[],vararg:=none,kwonlyargs:=[],kw_defaults:=[],kwarg:=none,defaults:=[] }
def bE(s:Stmt):List Stmt:=match s with
 |.FunctionDef _ _ b _ _ _ _ _ _ _=>b
 |_=>[]
def ai(s:Stmt):Scope:=match s with
 |.FunctionDef _ _ _ _ _ _ sc _ _ _=>sc
 |_=>{ kind:=.function,names:=[],isGenerator:=false,isCoroutine:=false }
abbrev gN:P1:=fun _ _ _ _ _ _=>False
abbrev E0:XK:=fun _ _ _=>False
def oN:fW gN X E0:=fun _ _ _ _ _ _ _ h=>h.elim
structure X8(K:bW)(x qual:Str)(st:Stmt)(f:Addr)(fd:FuncData):Prop where
 ex:∃(oc:Value) (od:Option Addr) (kV doc pm:Value) (an:Option Addr) (VG ct:Value) (ZQ:Array (Option Value)),
  fd=PySem.W.fnOf x qual (h9 st) (bE st) (ai st) .none kV doc pm an VG ct/\K.lookup f=some ⟨oc,od,.func fd,ZQ⟩/\PySem.W.codeIn K VG qual=true
 kp:PySem.W.keepIn K (.ref f)=true
def X8.ok{st:Stmt}{sp:Sp}(F:X8 K x qual st f fd)(S:aK N ps (ai st))(len:∀vs H Q E,sp vs H Q E->vs.length=ps.length)(YL:∀(VG:Value) (A:Around) (outer:List Env) (s:Shared) (H:Hp) (vs:df) (Q:VK) (E:XK),Vz k (A.deeper (envOfC qual (ai st) s.heap.objs.size f VG))->sp vs H Q E ->
   ∃t,X7 (q8 gN P w K mg base N qual (ai st) f VG A outer s H E).XC (bE st) t/\t { nx:=fun _ H'=>Q .Vs H',rt:=Q } (start N vs) H):dO P w K mg base gN (k+1) f fd ps sp:=by
 obtain⟨oc,od,kV,doc,pm,an,VG,ct,ZQ,rfl,lk,Zn⟩:=F.ex
 refine Q5 lk Zn S len fun A outer s H vs Q E hr ZD=>?_
 obtain⟨t,h,q⟩:=YL VG A outer s H vs Q E hr ZD
 exact⟨t,h.XC,q⟩
def X8.binds{st:Stmt}{ps:ce}(F:X8 K x qual st f fd)(h:∀(kV doc pm:Value) (an:Option Addr) (VG ct:Value) (us:fR),us.length=ps.length->bindArgs (PySem.W.fnOf x qual (h9 st) (bE st) (ai st) .none kV doc pm an VG ct) ⟨us,[]⟩=pure (ps.zip us)):Binds K fd ps []:=by
 obtain⟨oc,od,kV,doc,pm,an,VG,ct,ZQ,rfl,lk,Zn⟩:=F.ex
 exact .all (h kV doc pm an VG ct)
def JB{x qual:Str}{st:Stmt}{f:Addr}{an:Option Addr}{kV doc pm VG ct:Value}(l:K.lookup f=some ⟨oc,od,.func (PySem.W.fnOf x qual (h9 st) (bE st) (ai st) .none kV doc pm an VG ct),ZQ⟩)(c:PySem.W.codeIn K VG qual=true)(k:PySem.W.keepIn K (.ref f)=true):X8 K x qual st f (PySem.W.fnOf x qual (h9 st) (bE st) (ai st) .none kV doc pm an VG ct):=⟨⟨oc,od,kV,doc,pm,an,VG,ct,ZQ,rfl,l,c⟩,k⟩
def U8(H H':Hp):Prop:=∀b o,H b=some o->H' b=some o
def U8.refl(H:Hp):U8 H H:=fun _ _ h=>h
def U8.trans(a:U8 H H1)(b:U8 H1 H2):U8 H H2:=fun c o h=>b c o (a c o h)
def U8.free{l:Addr}(e:U8 H H')(h:H' l=Option.none):H l=Option.none:=by
 cases q:H l with
 |none=>rfl
 |some o=>
  rw[e l o q] at h
  cases h
def U8.seq{K:bW}(e:U8 H H')(h:VE K H a xs):VE K H' a xs:=by
 rcases h with(h | ⟨o,h⟩) | h
 ·exact .inl (.inl (e _ _ h))
 ·exact .inl (.inr ⟨o,e _ _ h⟩)
 ·exact .inr h
end L2
namespace L2.EV
open PySem PySem.Spec PyProof.Rows
variable {K:bW}
inductive D where
 |Vs | bl (b:Bool) | int (i:Int) | str (x:Str) | tup (xs:List D) | lst (xs:List D) | Xb (ns:aS) | exc (C:Addr) | Yu (C ea:Addr) | Vi (kvs:List (aS×Int)) | adr (p:Addr) | Wg (q:Addr)
abbrev aU:=List D
def Nj(a C:Addr):Heap->Prop:=fun h=>∃ob vs,h.get? a=some ob/\ob.cls=.ref C/\ob.data=.fields vs/\vs[2]?=some .none
def Rf(o:Obj)(xs:List (aS×Addr×Int)):Prop:=o.ExactDict/\∃(es:Array DictEntry) (ep:Nat) (ys:List (aS×Addr×Value)),o.data=.dict es ep/\(∀(P:Program) (w:World),es.toList=ys.map (entryOfKey (tupleKind (intKind P w)))) /\
 Paired (fun(x:aS×Addr×Int) (y:aS×Addr×Value)=>y.1=x.1/\y.2.1=x.2.1/\RelV (.int x.2.2) y.2.2) xs ys/\(ys.map (·.1)).Nodup
def dN(a:Addr)(xs:List (aS×Addr×Int)):Heap->Prop:=fun h=>xs.length<=sizeLine/\(a==sysModules)=false/\∃o,h.get? a=some o/\Rf o xs
def V2(F:Hp)(kvs:List (aS×Int))(xs:List (aS×Addr×Int)):Prop:=kvs=xs.map (fun x=>(x.1,x.2.2))/\∀x∈xs,F x.2.1=some (.tup (x.1.map V.int))
def V2.mono{kvs:List (aS×Int)}{xs:List (aS×Addr×Int)}(h:U8 F F')(r:V2 F kvs xs):V2 F' kvs xs:=⟨r.1,fun x hx=>h _ _ (r.2 x hx)⟩
mutual
inductive Rep(K:bW)(F:Hp):V->D->Prop where
 |Vs:Rep K F .Vs .Vs
 |bl (b:Bool):Rep K F (.bl b) (.bl b)
 |int (i:Int):Rep K F (.int i) (.int i)
 |str (x:Str):Rep K F (.str x) (.str x)
 |tup {a:Addr} {vs:df} {ds:aU}:F a=some (.tup vs)->U2 K F vs ds->Rep K F (.ref a) (.tup ds)
 |lst {a:Addr} {vs:df} {ds:aU}:F a=some (.lst vs)->U2 K F vs ds->Rep K F (.ref a) (.lst ds)
 |Xb {a:Addr} {ns:aS}:VE K F a (ns.map V.int)->Rep K F (.ref a) (.Xb ns)
 |exc {a C:Addr} {ob:Obj}:F a=some (.WA ob (.ext (Nj a C)))->Rep K F (.ref a) (.exc C)
 |Yu {a C:Addr} {ob:Obj}:F a=some (.WA ob (.ext (Nj a C)))->Rep K F (.ref a) (.Yu C a)
 |Vi {a:Addr} {ob:Obj} {kvs:List (aS×Int)} {xs:List (aS×Addr×Int)}:F a=some (.WA ob (.ext (dN a xs)))->V2 F kvs xs->Rep K F (.ref a) (.Vi kvs)
 |adr (a:Addr):Rep K F (.ref a) (.adr a)
 |Wg {a q:Addr}:F a=some (.dK [(Sum.inr "xs",.ref q)])->Rep K F (.ref a) (.Wg q)
inductive U2(K:bW)(F:Hp):df->aU->Prop where
 |nil:U2 K F [] []
 |cons {v:V} {d:D} {vs:df} {ds:aU}:Rep K F v d->U2 K F vs ds->U2 K F (v::vs) (d::ds)
end
mutual
def Rep.mono(h:U8 F F'):∀{v:V} {d:D},Rep K F v d->Rep K F' v d
 |_,_,.Vs=>.Vs
 |_,_,.bl b=>.bl b
 |_,_,.int i=>.int i
 |_,_,.str x=>.str x
 |_,_,.tup e r=>.tup (h _ _ e) (U2.mono h r)
 |_,_,.lst e r=>.lst (h _ _ e) (U2.mono h r)
 |_,_,.Xb e=>.Xb (h.seq e)
 |_,_,.exc e=>.exc (h _ _ e)
 |_,_,.Yu e=>.Yu (h _ _ e)
 |_,_,.Vi e r=>.Vi (h _ _ e) (r.mono h)
 |_,_,.adr a=>.adr a
 |_,_,.Wg e=>.Wg (h _ _ e)
def U2.mono(h:U8 F F'):∀{vs:df} {ds:aU},U2 K F vs ds->U2 K F' vs ds
 |_,_,.nil=>.nil
 |_,_,.cons r t=>.cons (Rep.mono h r) (U2.mono h t)
end
def U2.length:∀{vs:df} {ds:aU},U2 K F vs ds->vs.length=ds.length
 |_,_,.nil=>rfl
 |_,_,.cons _ t=>bv Nat.succ (U2.length t)
def U2.get:∀{vs:df} {ds:aU} {i:Nat} {d:D},U2 K F vs ds->ds[i]?=some d->∃v,vs[i]?=some v/\Rep K F v d
 |_,_,_,_,.nil,e=>by simp at e
 |_,_,0,_,.cons r _,e=>by simp at e;subst e;exact⟨_,rfl,r⟩
 |_,_,i+1,d,.cons _ t,e=>by
  obtain⟨v,h1,h2⟩:=U2.get (i:=i) (d:=d) t (by simpa using e)
  exact⟨v,by simpa using h1,h2⟩
def U2.append:∀{vs us:df} {ds es:aU},U2 K F vs ds->U2 K F us es->U2 K F (vs++us) (ds++es)
 |_,_,_,_,.nil,s=>s
 |_,_,_,_,.cons r t,s=>.cons r (U2.append t s)
def U2.take:∀{vs:df} {ds:aU} (n:Nat),U2 K F vs ds->U2 K F (vs.take n) (ds.take n)
 |_,_,0,_=>.nil
 |_,_,_+1,.nil=>.nil
 |_,_,n+1,.cons r t=>.cons r (U2.take n t)
def U2.drop:∀{vs:df} {ds:aU} (n:Nat),U2 K F vs ds->U2 K F (vs.drop n) (ds.drop n)
 |_,_,0,r=>r
 |_,_,_+1,.nil=>.nil
 |_,_,n+1,.cons _ t=>U2.drop n t
def U2.set(r:Rep K F v d):∀{vs:df} {ds:aU} (i:Nat),U2 K F vs ds->U2 K F (vs.set i v) (ds.set i d)
 |_,_,_,.nil=>.nil
 |_,_,0,.cons _ t=>.cons r t
 |_,_,i+1,.cons q t=>.cons q (U2.set r i t)
def U2.dropLast{ds:aU}(h:U2 K F vs ds):U2 K F vs.dropLast ds.dropLast:=by
 rw[Us,Us,h.length]
 exact h.take _
def U2.reverse:∀{vs:df} {ds:aU},U2 K F vs ds->U2 K F vs.reverse ds.reverse
 |_,_,.nil=>.nil
 |_,_,.cons r t=>by rw[lN,lN];exact U2.append (U2.reverse t) (.cons r .nil)
def U2.rep{ds:aU}(h:U2 K F vs ds):∀k:Nat,U2 K F (List.replicate k vs).flatten (List.replicate k ds).flatten
 |0=>.nil
 |k+1=>by
  rw[aA,aA,bj,bj]
  exact U2.append h (U2.rep h k)
def U2.ints:∀ns:aS,U2 K F (ns.map V.int) (ns.map D.int)
 |[]=>.nil
 |n::ns=>.cons (.int n) (U2.ints ns)
def U2.WK:∀{ns:aS} {vs:df},U2 K F vs (ns.map D.int)->vs=ns.map V.int
 |[],_,h=>by cases h;rfl
 |n::ns,_,h=>by
  cases h with
  |cons r t=>cases r;rw[aT,U2.WK t]
structure B0 where
 F:Hp
 H:Hp
structure Ext(B:B0)(F H:Hp):Prop where
 sub:U8 F H
 sh:U8 B.H H
 sf:U8 B.F F
 nw:∀a,F a≠none->B.F a≠none\/B.H a=none
inductive Sl where
 |un | val (d:D) | own (xs:aU) | Wb (kvs:List (aS×Int))
structure DOk(B:B0)(F H:Hp)(σ:St)(ρ:List Sl):Prop where
 W2:∀(i:Nat) kvs,ρ[i]?=some (.Wb kvs)->∃a es,σ[i]?=some (some (.ref a))/\H a=some (.ext (dN a es))/\F a=none/\B.H a=none/\V2 F kvs es
 W7:∀(i j:Nat) xs ys a,ρ[i]?=some (.Wb xs)->ρ[j]?=some (.Wb ys)->σ[i]?=some (some (.ref a))->σ[j]?=some (some (.ref a))->i=j
def DOk.to{H':Hp}{σ':St}{ρ ρ':List Sl}(k:DOk B F H σ ρ)(hF:U8 F F')(hH:∀a φ,H a=some (.ext φ)->F a=none->B.H a=none->H' a=some (.ext φ)/\F' a=none)(hρ:∀(i:Nat) kvs,ρ'[i]?=some (.Wb kvs)->ρ[i]?=some (.Wb kvs)/\σ'[i]?=σ[i]?):DOk B F' H' σ' ρ':=by
 refine⟨fun i kvs e=>?_,fun i j xs ys a e1 e2 e3 e4=>?_⟩
 ·obtain⟨q,z⟩:=hρ i kvs e
  obtain⟨a,es,h1,h2,h3,h4,h5⟩:=k.W2 i kvs q
  obtain⟨g1,g2⟩:=hH a _ h2 h3 h4
  exact⟨a,es,z.trans h1,g1,g2,h4,h5.mono hF⟩
 ·obtain⟨q1,z1⟩:=hρ i xs e1
  obtain⟨q2,z2⟩:=hρ j ys e2
  exact k.W7 i j xs ys a q1 q2 (z1 ▸ e3) (z2 ▸ e4)
def AS{σ:St}{ρ:List Sl}{v:Option V}{s:Sl}(hs:∀kvs,s ≠ .Wb kvs)(j:Nat)(kvs:List (aS×Int))(h:(ρ.set i s)[j]?=some (.Wb kvs)):ρ[j]?=some (.Wb kvs)/\(σ.set i v)[j]?=σ[j]?:=by
 by_cases e:i=j
 ·subst e
  rw[List.getElem?_set_self'] at h
  cases z:ρ[i]? with
  |none=>rw[z] at h;cases h
  |some w=>rw[z] at h;exact absurd (bx h) (hs kvs)
 ·rw[List.getElem?_set_ne e] at h ⊢
  exact⟨h,rfl⟩
def wo{σ:St}{ρ:List Sl}{s:Sl}(hs:∀kvs,s ≠ .Wb kvs)(j:Nat)(kvs:List (aS×Int))(h:(ρ.set i s)[j]?=some (.Wb kvs)):ρ[j]?=some (.Wb kvs)/\σ[j]?=σ[j]?:=
 ⟨(AS (σ:=[]) (v:=none) hs j kvs h).1,rfl⟩
structure Ok(K:bW)(B:B0)(F H:Hp)(σ:St)(ρ:List Sl):Prop extends Ext B F H where
 len:σ.length=ρ.length
 vals:∀(i:Nat) d,ρ[i]?=some (.val d)->∃v,σ[i]?=some (some v)/\Rep K F v d
 VT:∀(i:Nat) xs,ρ[i]?=some (.own xs)->∃a vs,σ[i]?=some (some (.ref a))/\H a=some (.lst vs)/\F a=none/\B.H a=none/\U2 K F vs xs
 dist:∀(i j:Nat) xs ys a,ρ[i]?=some (.own xs)->ρ[j]?=some (.own ys)->σ[i]?=some (some (.ref a))->σ[j]?=some (some (.ref a))->i=j
 Vi:DOk B F H σ ρ
def aL{H:Hp}{p:Addr}(h:H p=none):U8 H (cE H p o):=fun b u q=>by rw[aI (dv q h)];exact q
def wa(h:U8 F H):U8 (cE F p o) (cE H p o):=fun b u q=>by
 by_cases hb:b=p
 ·subst hb;rw[aG] at q ⊢;exact q
 ·rw[aI hb] at q ⊢;exact h b u q
section
variable {K:bW}{ρ:List Sl}
def Ext.refl(h:U8 F H):Ext ⟨F,H⟩ F H:=⟨h,.refl _,.refl _,fun a q=>.inl q⟩
def Ext.trans(x:Ext B F H)(y:Ext ⟨F,H⟩ F' H'):Ext B F' H':=
 ⟨y.sub,x.sh.trans y.sh,x.sf.trans y.sf,fun a q=>by
  rcases y.nw a q with z | z
  ·exact x.nw a z
  ·exact .inr (x.sh.free z)⟩
def Ext.kf{a:Addr}(y:Ext B F' H')(h1:B.F a=none)(h2:B.H a=some o):F' a=none:=by
 cases q:F' a with
 |none=>rfl
 |some u=>
  rcases y.nw a (by rw[q];exact fun z=>nomatch z) with z | z
  ·exact absurd h1 z
  ·exact nomatch h2.symm.trans z
def Ext.grow{p:Addr}(x:Ext B F H)(hp:H p=none):Ext B (cE F p o) (cE H p o):=
 ⟨wa x.sub,x.sh.trans (aL hp),x.sf.trans (aL (x.sub.free hp)),fun a q=>by
  by_cases h:a=p
  ·subst h;exact .inr (x.sh.free hp)
  ·rw[aI h] at q;exact x.nw a q⟩
def Ok.ext(k:Ok K B F H σ ρ)(y:Ext ⟨F,H⟩ F' H'):Ok K B F' H' σ ρ:=by
 refine⟨k.toExt.trans y,k.len,fun i d e=>?_,fun i xs e=>?_,k.dist,k.Vi.to y.sf (fun a φ e1 e2 e3=>⟨y.sh _ _ e1,?_⟩) fun _ _ e=>⟨e,rfl⟩⟩
 rotate_left 2
 ·exact y.kf e2 e1
 ·obtain⟨v,h1,h2⟩:=k.vals i d e
  exact⟨v,h1,h2.mono y.sf⟩
 ·obtain⟨a,vs,h1,h2,h3,h4,h5⟩:=k.VT i xs e
  refine⟨a,vs,h1,y.sh _ _ h2,?_,h4,h5.mono y.sf⟩
  exact y.kf h3 h2
def Ok.growH{p:Addr}(k:Ok K B F H σ ρ)(hp:H p=none):Ok K B F (cE H p o) σ ρ:=
 k.ext ⟨k.sub.trans (aL hp),aL hp,.refl _,fun a q=>.inl q⟩
def VX(σ:St)(ρ:List Sl)(p:Addr):Prop:=∀(i:Nat) xs,ρ[i]?=some (.own xs)->σ[i]?≠some (some (.ref p))
def Ok.noOwn{p:Addr}(k:Ok K B F H σ ρ)(hp:H p=none):VX σ ρ p:=fun i xs e q=>by
 obtain⟨a,vs,h1,h2,_⟩:=k.VT i xs e
 rw[h1] at q
 cases q
 rw[hp] at h2;cases h2
def Ok.Vx(k:Ok K B F H σ ρ)(i:Nat)(r:Rep K F v d):Ok K B F H (σ.set i (some v)) (ρ.set i (.val d)):=by
 refine⟨k.toExt,by rw[bM,bM,k.len],fun j e q=>?_,fun j xs q=>?_,fun j l xs ys a q1 q2 q3 q4=>?_,k.Vi.to (.refl _) (fun _ _ e1 e2 _=>⟨e1,e2⟩) (AS fun _ z=>nomatch z)⟩
 ·by_cases h:i=j
  ·subst h
   rw[List.getElem?_set_self'] at q
   cases z:ρ[i]? with
   |none=>rw[z] at q;cases q
   |some w=>
    rw[z] at q;cases q
    have hi:i<σ.length:=by rw[k.len];exact(List.getElem?_eq_some_iff.mp z).1
    exact⟨v,by rw[List.getElem?_set_self hi],r⟩
  ·rw[List.getElem?_set_ne h] at q ⊢
   exact k.vals j e q
 ·by_cases h:i=j
  ·subst h
   rw[List.getElem?_set_self'] at q
   cases z:ρ[i]? with
   |none=>rw[z] at q;cases q
   |some w=>rw[z] at q;cases q
  ·rw[List.getElem?_set_ne h] at q ⊢
   exact k.VT j xs q
 ·have n1:i≠j:=by
   rintro rfl
   rw[List.getElem?_set_self'] at q1
   cases z:ρ[i]? with
   |none=>rw[z] at q1;cases q1
   |some w=>rw[z] at q1;cases q1
  have n2:i≠l:=by
   rintro rfl
   rw[List.getElem?_set_self'] at q2
   cases z:ρ[i]? with
   |none=>rw[z] at q2;cases q2
   |some w=>rw[z] at q2;cases q2
  rw[List.getElem?_set_ne n1] at q1 q3
  rw[List.getElem?_set_ne n2] at q2 q4
  exact k.dist j l xs ys a q1 q2 q3 q4
def Ok.YA{ds:aU}{p:Addr}(k:Ok K B F H σ ρ)(i:Nat)(hp:H p=some (.lst vs))(hf:F p=none)(hb:B.H p=none)(hn:VX σ ρ p)(r:U2 K F vs ds):
  Ok K B F H (σ.set i (some (.ref p))) (ρ.set i (.own ds)):=by
 refine⟨k.toExt,by rw[bM,bM,k.len],fun j e q=>?_,fun j xs q=>?_,fun j l xs ys a q1 q2 q3 q4=>?_,k.Vi.to (.refl _) (fun _ _ e1 e2 _=>⟨e1,e2⟩) (AS fun _ z=>nomatch z)⟩
 ·by_cases h:i=j
  ·subst h
   rw[List.getElem?_set_self'] at q
   cases z:ρ[i]? with
   |none=>rw[z] at q;cases q
   |some w=>rw[z] at q;cases q
  ·rw[List.getElem?_set_ne h] at q ⊢
   exact k.vals j e q
 ·by_cases h:i=j
  ·subst h
   rw[List.getElem?_set_self'] at q
   cases z:ρ[i]? with
   |none=>rw[z] at q;cases q
   |some w=>
    rw[z] at q;cases q
    have hi:i<σ.length:=by rw[k.len];exact(List.getElem?_eq_some_iff.mp z).1
    exact⟨p,vs,by rw[List.getElem?_set_self hi],hp,hf,hb,r⟩
  ·rw[List.getElem?_set_ne h] at q ⊢
   exact k.VT j xs q
 ·by_cases n1:i=j
  ·by_cases n2:i=l
   ·exact n1.symm.trans n2
   ·subst n1
    rw[List.getElem?_set_ne n2] at q2 q4
    have hi:i<σ.length:=by
     have:=(List.getElem?_eq_some_iff.mp q3).1
     rw[bM] at this;exact this
    rw[List.getElem?_set_self hi] at q3
    cases q3
    exact absurd q4 (hn l ys q2)
  ·by_cases n2:i=l
   ·subst n2
    rw[List.getElem?_set_ne n1] at q1 q3
    have hi:i<σ.length:=by
     have:=(List.getElem?_eq_some_iff.mp q4).1
     rw[bM] at this;exact this
    rw[List.getElem?_set_self hi] at q4
    cases q4
    exact absurd q3 (hn j xs q1)
   ·rw[List.getElem?_set_ne n1] at q1 q3
    rw[List.getElem?_set_ne n2] at q2 q4
    exact k.dist j l xs ys a q1 q2 q3 q4
def Ok.W3{vs:df}{ds:aU}{i:Nat}(k:Ok K B F H σ ρ)(hi:ρ[i]?=some (.own xs))(hs:σ[i]?=some (some (.ref p)))(r:U2 K F ws ds):
  Ok K B F (cE H p (.lst ws)) σ (ρ.set i (.own ds)):=by
 obtain⟨a,us,h1,h2,h3,h4,h5⟩:=k.VT i xs hi
 rw[h1] at hs
 cases hs
 have VH:i<ρ.length:=(List.getElem?_eq_some_iff.mp hi).1
 refine⟨⟨fun b u q=>?_,fun b u q=>?_,k.sf,k.nw⟩,by rw[bM,k.len],fun j e q=>?_,fun j ys q=>?_,fun j l ys zs b q1 q2 q3 q4=>?_,k.Vi.to (.refl _) (fun b φ e1 e2 _=>⟨by rw[aI (fun z=>by subst z;rw[h2] at e1;cases e1)];exact e1,e2⟩) (wo fun _ z=>nomatch z)⟩
 ·have ne:b≠p:=fun z=>by subst z;rw[h3] at q;cases q
  rw[aI ne];exact k.sub b u q
 ·have ne:b≠p:=fun z=>by subst z;rw[h4] at q;cases q
  rw[aI ne];exact k.sh b u q
 ·by_cases h:i=j
  ·subst h
   rw[List.getElem?_set_self VH] at q;cases q
  ·rw[List.getElem?_set_ne h] at q
   exact k.vals j e q
 ·by_cases h:i=j
  ·subst h
   rw[List.getElem?_set_self VH] at q;cases q
   exact⟨p,ws,h1,aG,h3,h4,r⟩
  ·rw[List.getElem?_set_ne h] at q
   obtain⟨b,Wf,g1,g2,g3,g4,g5⟩:=k.VT j ys q
   have ne:b≠p:=fun z=>by subst z;exact h (k.dist i j xs ys b hi q h1 g1)
   exact⟨b,Wf,g1,by rw[aI ne];exact g2,g3,g4,g5⟩
 ·have own:∀(m:Nat) ys,(ρ.set i (.own ds))[m]?=some (.own ys)->∃zs,ρ[m]?=some (.own zs):=fun m ys q=>by
   by_cases h:i=m
   ·subst h;exact⟨xs,hi⟩
   ·rw[List.getElem?_set_ne h] at q;exact⟨ys,q⟩
  obtain⟨y1,z1⟩:=own j ys q1
  obtain⟨y2,z2⟩:=own l zs q2
  exact k.dist j l _ _ b z1 z2 q3 q4
def Ok.YN{i:Nat}(k:Ok K B F H σ ρ)(hi:ρ[i]?=some (.own xs)):∃F',U8 F F'/\Ok K B F' H σ (ρ.set i (.val (.lst xs))):=by
 obtain⟨a,us,h1,h2,h3,h4,h5⟩:=k.VT i xs hi
 have VH:i<ρ.length:=(List.getElem?_eq_some_iff.mp hi).1
 have sf:U8 F (cE F a (.lst us)):=aL h3
 have Yk:∀(j:Nat) ys,(ρ.set i (.val (.lst xs)))[j]?=some (.own ys)->i≠j/\ρ[j]?=some (.own ys):=fun j ys q=>by
  by_cases h:i=j
  ·subst h;rw[List.getElem?_set_self VH] at q;cases q
  ·rw[List.getElem?_set_ne h] at q;exact⟨h,q⟩
 refine⟨cE F a (.lst us),sf,⟨fun b u q=>?_,k.sh,k.sf.trans sf,fun b q=>?_⟩,by rw[bM,k.len],fun j e q=>?_,fun j ys q=>?_,fun j l ys zs b q1 q2 q3 q4=>?_,k.Vi.to sf (fun b φ e1 e2 _=>⟨e1,by rw[aI (fun z=>by subst z;rw[h2] at e1;cases e1)];exact e2⟩) (wo fun _ z=>nomatch z)⟩
 ·by_cases h:b=a
  ·subst h;rw[aG] at q;cases q;exact h2
  ·rw[aI h] at q;exact k.sub b u q
 ·by_cases h:b=a
  ·subst h;exact .inr h4
  ·rw[aI h] at q;exact k.nw b q
 ·by_cases h:i=j
  ·subst h
   rw[List.getElem?_set_self VH] at q;cases q
   exact⟨_,h1,.lst aG (h5.mono sf)⟩
  ·rw[List.getElem?_set_ne h] at q
   obtain⟨v,g1,g2⟩:=k.vals j e q
   exact⟨v,g1,g2.mono sf⟩
 ·obtain⟨h,q⟩:=Yk j ys q
  obtain⟨b,Wf,g1,g2,g3,g4,g5⟩:=k.VT j ys q
  have ne:b≠a:=fun z=>by subst z;exact h (k.dist i j xs ys b hi q h1 g1)
  exact⟨b,Wf,g1,g2,by rw[aI ne];exact g3,g4,g5.mono sf⟩
 ·exact k.dist j l _ _ b (Yk j ys q1).2 (Yk l zs q2).2 q3 q4
end
set_option autoImplicit true
structure wE(X:Cx)(e:Expr)(σ:St)(H:Hp)(Q:VK):Prop where
 go:∀(pins:gc) (s:Shared),Inv X pins σ H s->dZ X (eval e X.env) (EP X pins σ Q) X.xe s
instance wE_f {X:Cx} {e:Expr} {σ:St} {H:Hp} {Q:VK}:CoeFun (wE X e σ H Q) (fun _=>∀(pins:gc) (s:Shared),Inv X pins σ H s->dZ X (eval e X.env) (EP X pins σ Q) X.xe s):=⟨wE.go⟩
structure wT(X:Cx)(e:Expr)(σ:St)(H:Hp)(Q:(Bool->Hp->Prop)):Prop where
 go:∀(pins:gc) (s:Shared),Inv X pins σ H s->dZ X (isTrue e X.env (eval e X.env)) (TP X pins σ Q) X.xe s
instance wT_f {X:Cx} {e:Expr} {σ:St} {H:Hp} {Q:Bool->Hp->Prop}:CoeFun (wT X e σ H Q) (fun _=>∀(pins:gc) (s:Shared),Inv X pins σ H s->dZ X (isTrue e X.env (eval e X.env)) (TP X pins σ Q) X.xe s):=⟨wT.go⟩
structure wW(X:Cx)(e:Expr)(σ:St)(H:Hp)(Q:(Bool->Hp->Prop)):Prop where
 go:∀(whole:Sem Value) (pins:gc) (s:Shared),Inv X pins σ H s->dZ X (isTrue e X.env whole) (TP X pins σ Q) X.xe s
instance wW_f {X:Cx} {e:Expr} {σ:St} {H:Hp} {Q:Bool->Hp->Prop}:CoeFun (wW X e σ H Q) (fun _=>∀(whole:Sem Value) (pins:gc) (s:Shared),Inv X pins σ H s->dZ X (isTrue e X.env whole) (TP X pins σ Q) X.xe s):=⟨wW.go⟩
structure wA(X:Cx)(es:rL)(σ:St)(H:Hp)(Q:(df->Hp->Prop)):Prop where
 go:∀(pos:Pos) (pins:gc) (s:Shared),Inv X pins σ H s->dZ X (spliced (backTo pos (starEach es X.env))) (AP X pins σ Q) X.xe s
instance wA_f {X:Cx} {es:rL} {σ:St} {H:Hp} {Q:df->Hp->Prop}:CoeFun (wA X es σ H Q) (fun _=>∀(pos:Pos) (pins:gc) (s:Shared),Inv X pins σ H s->dZ X (spliced (backTo pos (starEach es X.env))) (AP X pins σ Q) X.xe s):=⟨wA.go⟩
structure wS(X:Cx)(st:Stmt)(D:kC)(σ:St)(H:Hp):Prop where
 go:∀(pins:gc) (s:Shared),Inv X pins σ H s->dZ X (exec st X.env) (SP X pins D) X.xe s
instance wS_f {X:Cx} {st:Stmt} {D:kC} {σ:St} {H:Hp}:CoeFun (wS X st D σ H) (fun _=>∀(pins:gc) (s:Shared),Inv X pins σ H s->dZ X (exec st X.env) (SP X pins D) X.xe s):=⟨wS.go⟩
structure wSs(X:Cx)(st:List Stmt)(D:kC)(σ:St)(H:Hp):Prop where
 go:∀(pins:gc) (s:Shared),Inv X pins σ H s->dZ X (execs st X.env) (SP X pins D) X.xe s
instance wSs_f {X:Cx} {st:List Stmt} {D:kC} {σ:St} {H:Hp}:CoeFun (wSs X st D σ H) (fun _=>∀(pins:gc) (s:Shared),Inv X pins σ H s->dZ X (execs st X.env) (SP X pins D) X.xe s):=⟨wSs.go⟩
structure wO(X:Cx)(e:Option Expr)(σ:St)(H:Hp)(Q:(Option Int->Hp->Prop)):Prop where
 go:∀(pins:gc) (s:Shared),Inv X pins σ H s->dZ X (evalPart e X.env) (fun u s'=>∃o H',Inv X pins σ H' s'/\IsPart u o/\Q o H') X.xe s
instance wO_f {X:Cx} {e:Option Expr} {σ:St} {H:Hp} {Q:Option Int->Hp->Prop}:CoeFun (wO X e σ H Q) (fun _=>∀(pins:gc) (s:Shared),Inv X pins σ H s->dZ X (evalPart e X.env) (fun u s'=>∃o H',Inv X pins σ H' s'/\IsPart u o/\Q o H') X.xe s):=⟨wO.go⟩
structure wG(X:Cx)(e:Expr)(v:V)(σ:St)(H:Hp)(Q:(St->Hp->Prop)):Prop where
 go:∀(pins:gc) (s:Shared) (u:Value),Inv X pins σ H s->RelV v u->dZ X (assign e X.env u) (fun _ s'=>∃σ' H',Inv X pins σ' H' s'/\Q σ' H') X.xe s
instance wG_f {X:Cx} {e:Expr} {v:V} {σ:St} {H:Hp} {Q:St->Hp->Prop}:CoeFun (wG X e v σ H Q) (fun _=>∀(pins:gc) (s:Shared) (u:Value),Inv X pins σ H s->RelV v u->dZ X (assign e X.env u) (fun _ s'=>∃σ' H',Inv X pins σ' H' s'/\Q σ' H') X.xe s):=⟨wG.go⟩
section
variable {st:Stmt}{oe:Option Expr}
def aN:PE X e (wE X e):=fun pins s _ _ _ I h=>h pins s I
def kz:PT X e (wT X e):=fun pins s _ _ _ I h=>h pins s I
def Lr:PW X e (wW X e):=fun wh pins s _ _ _ I h=>h wh pins s I
def oO:PA X es (wA X es):=fun pos pins s _ _ _ I h=>h pos pins s I
def uQ:PS X st (wS X st):=fun pins s _ _ _ I h=>h pins s I
def cQ:X7 X Xa (wSs X Xa):=fun pins s _ _ _ I h=>h pins s I
def GN:PO X oe (wO X oe):=fun pins s _ _ _ I h=>h pins s I
def D1:PG X e (wG X e):=fun pins s _ _ _ u _ I r h=>h pins s u I r
end
abbrev cn:=List Sl
def U1(X:Cx)(ρ:cn)(e:Expr)(d:D):Prop:=∀(B:B0) (F H:Hp) (σ:St) (Q:VK),Ok X.K B F H σ ρ ->
 (∀v F' H',Ext ⟨F,H⟩ F' H'->Rep X.K F' v d->Q v H')->wE X e σ H Q
def U9(X:Cx)(ρ:cn)(e:Expr)(xs:aU):Prop:=∀(B:B0) (F H:Hp) (σ:St) (Q:VK),Ok X.K B F H σ ρ ->
 (∀p vs F' H',Ext ⟨F,H⟩ F' H'->H p=none->H' p=some (.lst vs)->F' p=none->U2 X.K F' vs xs->Q (.ref p) H')->wE X e σ H Q
def Yp(K:bW)(k:Bool)(H:Hp)(a:Addr)(vs:df):Prop:=if k=true then VE K H a vs else VV K H a vs
def W8(X:Cx)(ρ:cn)(e:Expr)(k:Bool)(xs:aU):Prop:=∀(B:B0) (F H:Hp) (σ:St) (Q:VK),Ok X.K B F H σ ρ ->
 (∀a vs F' H',Ext ⟨F,H⟩ F' H'->Yp X.K k H' a vs->U2 X.K F' vs xs->Q (.ref a) H')->wE X e σ H Q
def U3(X:Cx)(ρ:cn)(e:Expr)(b:Bool):Prop:=∀(B:B0) (F H:Hp) (σ:St) (Q:Bool->Hp->Prop),Ok X.K B F H σ ρ ->
 (∀F' H',Ext ⟨F,H⟩ F' H'->Q b H')->wT X e σ H Q
def Wj(X:Cx)(ρ:cn)(e:Expr)(b:Bool):Prop:=∀(B:B0) (F H:Hp) (σ:St) (Q:Bool->Hp->Prop),Ok X.K B F H σ ρ ->
 (∀F' H',Ext ⟨F,H⟩ F' H'->Q b H')->wW X e σ H Q
def Pl(e:Expr):Prop:=∀(es:rL) (env:Env),starEach (e::es) env=(false,eval e env)::starEach es env
def XR:rL->Prop
 |[]=>True
 |e::es=>Pl e/\XR es
def XR.any{env:Env}:∀{es:rL},XR es->(backTo pos (starEach es env)).any (·.1)=false
 |[],_=>rfl
 |e::es,h=>by
  rw[h.1 es env]
  show(false||(backTo pos (starEach es env)).any (·.1))=false
  rw[XR.any h.2];rfl
def Vw(X:Cx)(ρ:cn)(es:rL)(ds:aU):Prop:=XR es/\∀(B:B0) (F H:Hp) (σ:St) (Q:df->Hp->Prop),Ok X.K B F H σ ρ ->
 (∀vs F' H',Ext ⟨F,H⟩ F' H'->U2 X.K F' vs ds->Q vs H')->wA X es σ H Q
def KP(X:Cx)(ρ:cn)(e:Option Expr)(o:Option Int):Prop:=∀(B:B0) (F H:Hp) (σ:St) (Q:Option Int->Hp->Prop),Ok X.K B F H σ ρ ->
 (∀F' H',Ext ⟨F,H⟩ F' H'->Q o H')->wO X e σ H Q
inductive Out where
 |nx (ρ:cn) | rt (d:D)
def Xe(K:bW)(B:B0)(F₀:Hp)(E:kC):Out->Prop
 |.nx ρ=>∀F H σ,Ok K B F H σ ρ->U8 F₀ F->E.nx σ H
 |.rt d=>∀v F H,Ext B F H->Rep K F v d->E.rt v H
def Xe.later{K:bW}(h:Xe K B F₀ E o)(s:U8 F₀ F₁):Xe K B F₁ E o:=by
 cases o with
 |nx ρ=>exact fun F H σ k s'=>h F H σ k (s.trans s')
 |rt d=>exact h
def Vy(X:Cx)(ρ:cn)(st:Stmt)(o:Out):Prop:=∀(B:B0) (F H:Hp) (σ:St) (E:kC),Ok X.K B F H σ ρ->Xe X.K B F E o->wS X st E σ H
def U4(X:Cx)(ρ:cn)(Xa:List Stmt)(o:Out):Prop:=∀(B:B0) (F H:Hp) (σ:St) (E:kC),Ok X.K B F H σ ρ->Xe X.K B F E o->wSs X Xa E σ H
def Xy(X:Cx)(ρ:cn)(tg:Expr)(d:D)(ρ':cn):Prop:=∀(B:B0) (F H:Hp) (σ:St) (v:V) (Q:St->Hp->Prop),Ok X.K B F H σ ρ->Rep X.K F v d ->
 (∀F' H' σ',Ok X.K B F' H' σ' ρ'->U8 F F'->Q σ' H')->wG X tg v σ H Q
def Xx(X:Cx)(ρ:cn)(tg:Expr)(d:D)(ρ':cn):Prop:=∀(B:B0) (F H:Hp) (σ:St) (v:V) (Q:St->Hp->Prop),Ok X.K B F H σ ρ->Rep X.K F v d ->
 (∀σ',Ok X.K B F H σ' ρ'->(∀p,VX σ ρ p->VX σ' ρ' p)->Q σ' H)->wG X tg v σ H Q
def Ext.t{H:Hp}(x:Ext ⟨F,H⟩ F' H')(y:Ext ⟨F',H'⟩ F2 H2):Ext ⟨F,H⟩ F2 H2:=x.trans y
def U1.of(h:PE X e t)(r:∀(B:B0) (F H:Hp) (σ:St) (Q:VK),Ok X.K B F H σ ρ->(∀v F' H',Ext ⟨F,H⟩ F' H'->Rep X.K F' v d->Q v H')->t σ H Q):U1 X ρ e d:=
 fun B F H σ Q k q=>.mk fun pins s I=>h pins s σ H Q I (r B F H σ Q k q)
def U9.of(h:PE X e t)(r:∀(B:B0) (F H:Hp) (σ:St) (Q:VK),Ok X.K B F H σ ρ ->
  (∀p vs F' H',Ext ⟨F,H⟩ F' H'->H p=none->H' p=some (.lst vs)->F' p=none->U2 X.K F' vs xs->Q (.ref p) H')->t σ H Q):U9 X ρ e xs:=
 fun B F H σ Q k q=>.mk fun pins s I=>h pins s σ H Q I (r B F H σ Q k q)
def W8.of(h:PE X e t)(r:∀(B:B0) (F H:Hp) (σ:St) (Q:VK),Ok X.K B F H σ ρ ->
  (∀a vs F' H',Ext ⟨F,H⟩ F' H'->Yp X.K k H' a vs->U2 X.K F' vs xs->Q (.ref a) H')->t σ H Q):W8 X ρ e k xs:=
 fun B F H σ Q k q=>.mk fun pins s I=>h pins s σ H Q I (r B F H σ Q k q)
def U3.of{t:TT}(h:PT X e t)(r:∀(B:B0) (F H:Hp) (σ:St) (Q:Bool->Hp->Prop),Ok X.K B F H σ ρ->(∀F' H',Ext ⟨F,H⟩ F' H'->Q b H')->t σ H Q):U3 X ρ e b:=
 fun B F H σ Q k q=>.mk fun pins s I=>h pins s σ H Q I (r B F H σ Q k q)
def Wj.of{t:TT}(h:PW X e t)(r:∀(B:B0) (F H:Hp) (σ:St) (Q:Bool->Hp->Prop),Ok X.K B F H σ ρ->(∀F' H',Ext ⟨F,H⟩ F' H'->Q b H')->t σ H Q):Wj X ρ e b:=
 fun B F H σ Q k q=>.mk fun wh pins s I=>h wh pins s σ H Q I (r B F H σ Q k q)
def Vy.of{st:Stmt}(h:PS X st t)(r:∀(B:B0) (F H:Hp) (σ:St) (E:kC),Ok X.K B F H σ ρ->Xe X.K B F E o->t E σ H):Vy X ρ st o:=
 fun B F H σ E k q=>.mk fun pins s I=>h pins s σ H E I (r B F H σ E k q)
def U4.of(h:X7 X Xa t)(r:∀(B:B0) (F H:Hp) (σ:St) (E:kC),Ok X.K B F H σ ρ->Xe X.K B F E o->t E σ H):U4 X ρ Xa o:=
 fun B F H σ E k q=>.mk fun pins s I=>h pins s σ H E I (r B F H σ E k q)
def Xy.of(h:PG X e t)(r:∀(B:B0) (F H:Hp) (σ:St) (v:V) (Q:St->Hp->Prop),Ok X.K B F H σ ρ->Rep X.K F v d->(∀F' H' σ',Ok X.K B F' H' σ' ρ'->U8 F F'->Q σ' H')->t v σ H Q):Xy X ρ e d ρ':=
 fun B F H σ v Q k rv q=>.mk fun pins s u I ru=>h pins s σ H v u Q I ru (r B F H σ v Q k rv q)
def Xx.of(h:PG X e t)(r:∀(B:B0) (F H:Hp) (σ:St) (v:V) (Q:St->Hp->Prop),Ok X.K B F H σ ρ->Rep X.K F v d->(∀σ',Ok X.K B F H σ' ρ'->(∀p,VX σ ρ p->VX σ' ρ' p)->Q σ' H)->t v σ H Q):Xx X ρ e d ρ':=
 fun B F H σ v Q k rv q=>.mk fun pins s u I ru=>h pins s σ H v u Q I ru (r B F H σ v Q k rv q)
def VX.Vx(h:VX σ ρ p)(i:Nat)(v:Option V)(d:D):VX (σ.set i v) (ρ.set i (.val d)) p:=fun j xs e q=>by
 by_cases hj:i=j
 ·subst hj
  rw[List.getElem?_set_self'] at e
  cases z:ρ[i]? with
  |none=>rw[z] at e;cases e
  |some w=>rw[z] at e;cases e
 ·rw[List.getElem?_set_ne hj] at e q
  exact h j xs e q
def Ext.freeze{H:Hp}{p:Addr}(x:Ext ⟨F,H⟩ F' H')(h0:H p=none)(hp:H' p=some (.lst vs))(hf:F' p=none):Ext ⟨F,H⟩ (cE F' p (.lst vs)) H':=
 ⟨fun b u q=>by
  by_cases h:b=p
  ·subst h;rw[aG] at q;cases q;exact hp
  ·rw[aI h] at q;exact x.sub b u q,x.sh,x.sf.trans (aL hf),fun a q=>by
  by_cases h:a=p
  ·subst h;exact .inr h0
  ·rw[aI h] at q;exact x.nw a q⟩
def U9.Vm(h:U9 X ρ e xs):U1 X ρ e (.lst xs):=fun B F H σ Q k q=>
 h B F H σ Q k fun p vs F' H' x h0 hp hf r=>q _ _ _ (x.freeze h0 hp hf) (.lst aG (r.mono (aL hf)))
def Yp.mono{K:bW}(s:U8 H H')(h:Yp K k H a vs):Yp K k H' a vs:=by
 cases k with
 |true=>exact s.seq h
 |false=>
  have h':VV K H a vs:=h
  show VV K H' a vs
  rcases h' with(h | ⟨o,h⟩) | h
  ·exact .inl (.inl (s _ _ h))
  ·exact .inl (.inr ⟨o,s _ _ h⟩)
  ·exact .inr h
def U1.ql(h:U1 X ρ e (.lst xs)):W8 X ρ e true xs:=fun B F H σ Q k q=>
 h B F H σ Q k fun v F' H' x r=>by
  cases r with
  |lst hf rl=>exact q _ _ _ _ x (show VE _ _ _ _ from VE.of (x.sub _ _ hf)) rl
def U1.qt(h:U1 X ρ e (.tup xs)):W8 X ρ e false xs:=fun B F H σ Q k q=>
 h B F H σ Q k fun v F' H' x r=>by
  cases r with
  |tup hf rl=>exact q _ _ _ _ x (show VV _ _ _ _ from VV.of (x.sub _ _ hf)) rl
def U1.qs(h:U1 X ρ e (.Xb ns)):W8 X ρ e true (ns.map D.int):=fun B F H σ Q k q=>
 h B F H σ Q k fun v F' H' x r=>by
  cases r with
  |Xb hs=>exact q _ _ _ _ x (show VE _ _ _ _ from x.sub.seq hs) (U2.ints ns)
def U9.toQ(h:U9 X ρ e xs):W8 X ρ e true xs:=h.Vm.ql
structure At(X:Cx)(N:ce)(sc:Scope):Prop where
 eN:X.N=N
 eS:X.env.scope=sc
 calm:X.calm=true
 nd:X.N.Nodup
 XC:X.xe=fun _ _=>False
 un:X.A.units+64<cLine
 dp:X.A.depth+100<recursionLimit
 tree:X.prog.given.tree=none
 fr:∃env l,X.stack=env::l/\env.scope.isGenerator=false/\env.scope.isCoroutine=false/\env.builtins=builtinsNs/\env.globals=mainGlobals
structure Zz(X:Cx)(N:ce)(sc:Scope):Prop where
 eN:X.N=N
 eS:X.env.scope=sc
 nd:X.N.Nodup
 XC:X.xe=fun _ _=>False
 un:X.A.units+64<cLine
 dp:X.A.depth+100<recursionLimit
 tree:X.prog.given.tree=none
 fr:∃env l,X.stack=env::l/\env.scope.isGenerator=false/\env.scope.isCoroutine=false/\env.builtins=builtinsNs/\env.globals=mainGlobals
def At.z(t:At X N sc):Zz X N sc:=⟨t.eN,t.eS,t.nd,t.XC,t.un,t.dp,t.tree,t.fr⟩
def Zz.at(t:Zz X N sc)(h:X.calm=true):At X N sc:=⟨t.eN,t.eS,h,t.nd,t.XC,t.un,t.dp,t.tree,t.fr⟩
def RB(A:Around)(H:Hp):Prop:=∃(ea:Addr) (oe:Obj) (u:HO) (vs:Array Value),A.handled=some (.ref ea)/\H ea=some (.WA oe u)/\oe.data=.fields vs/\vs[2]?=some .none
class XI (X:Cx):Prop where
 fn:∀x,X.fn x=true
def At.pass(a:At X N sc):PassesOwn (model X.prog X.w) X.A X.env X.xe:=by rw[a.XC];exact PassesOwn.never
def dW(sc:Scope)(x:Str):Bool:=match sc.names.lookup x with
 |some .local=>true
 |some .cell=>true
 |some .free=>true
 |_=>false
def mW(sc:Scope)(x:Str):Bool:=match sc.names.lookup x with
 |some .local=>true
 |some .cell=>true
 |_=>false
def NE{x:Str}(h:dW sc x=true):Rq sc x:=by
 unfold dW at h
 cases e:sc.names.lookup x with
 |none=>rw[e] at h;cases h
 |some k=>
  rw[e] at h
  cases k<;>first | exact .inl e | exact .inr (.inl e) | exact .inr (.inr e) | cases h
def OC{x:Str}(h:mW sc x=true):Pw sc x:=by
 unfold mW at h
 cases e:sc.names.lookup x with
 |none=>rw[e] at h;cases h
 |some k=>
  rw[e] at h
  cases k<;>first | exact .inl e | exact .inr e | cases h
def cm(x:Str):Bool:=!(x==("__debug__" : Str)) && !(x==("__classdict__" : Str))
def tQ{i:Nat}(t:At X N sc)(hN:N[i]?=some x)(hv:dW sc x=true)(hx:cm x=true):PE X (.Name x pos) (Qg i):=by
 unfold cm at hx
 rw[dJ,Bool.not_eq_true',Bool.not_eq_true'] at hx
 exact Od (by rw[t.eN];exact hN) (by rw[t.eS];exact NE hv) hx.1 hx.2
def aa{ρ:cn}(t:At X N sc)(i:Nat)(hr:ρ[i]?=some (.val d):=by rfl)(hN:N[i]?=some x:=by rfl)(hv:dW sc x=true:=by rfl)(hx:cm x=true:=by rfl):U1 X ρ (.Name x pos) d:=
 .of (tQ t hN hv hx) fun B F H σ Q k q=>by
  obtain⟨v,h1,h2⟩:=k.vals i d hr
  exact⟨v,h1,q v F H (.refl k.sub) h2⟩
def eQ{ρ:cn}(t:At X N sc)(i:Nat)(hr:ρ[i]?=some (.own xs))(hN:N[i]?=some x:=by rfl)(hv:dW sc x=true:=by rfl)(hx:cm x=true:=by rfl):W8 X ρ (.Name x pos) true xs:=
 .of (tQ t hN hv hx) fun B F H σ Q k q=>by
  obtain⟨p,vs,h1,h2,h3,h4,h5⟩:=k.VT i xs hr
  exact⟨_,h1,q p vs F H (.refl k.sub) (show VE _ _ _ _ from VE.of h2) h5⟩
def ah:U1 X ρ (.Constant (.int i) j pos) (.int i):=.of IP fun B F H σ Q k q=>q _ F H (.refl k.sub) (.int i)
def C2:U1 X ρ (.Constant (.bool b) j pos) (.bl b):=.of QM fun B F H σ Q k q=>q _ F H (.refl k.sub) (.bl b)
def U0:U1 X ρ (.Constant (.str x) j pos) (.str x):=.of D3 fun B F H σ Q k q=>q _ F H (.refl k.sub) (.str x)
def two{X:Cx}{ρ:cn}{a:Expr}{b:Expr}{da db:D}(ha:U1 X ρ a da)(hb:U1 X ρ b db){B:B0}{F H:Hp}{σ:St}{R:V->V->Hp->Prop}(k:Ok X.K B F H σ ρ)(h:∀x y F' H',Ext ⟨F,H⟩ F' H'->Rep X.K F' x da->Rep X.K F' y db->R x y H'):wE X a σ H fun x H1=>wE X b σ H1 fun y H2=>R x y H2:=
 ha B F H σ _ k fun x F1 H1 x1 r1=>hb B F1 H1 σ _ (k.ext x1) fun y F2 H2 x2 r2=>h x y F2 H2 (x1.t x2) (r1.mono x2.sf) r2
def vz{i j m:Int}{C:Int->Int->Prop}{g:Int->Int->Int}(ho:lP X (binaryOp op) (rI C fun i j=>.int (g i j)))(ha:U1 X ρ a (.int i))(hb:U1 X ρ b (.int j))(hc:C i j)(hm:g i j=m):
  U1 X ρ (.BinOp a op b pos) (.int m):=
 .of (l5 ho aN aN) fun B F H σ Q k q=>two ha hb k fun x y F' H' x' rx ry=>by
  cases rx;cases ry;subst hm
  exact⟨i,j,rfl,rfl,hc,q _ F' H' x' (.int _)⟩
def xq{i j m:Int}{g:Int->Int->Int}(ho:lP X (binaryOp op) (KL fun i j=>.int (g i j)))(ha:U1 X ρ a (.int i))(hb:U1 X ρ b (.int j))(hm:g i j=m):
  U1 X ρ (.BinOp a op b pos) (.int m):=
 .of (l5 ho aN aN) fun B F H σ Q k q=>two ha hb k fun x y F' H' x' rx ry=>by
  cases rx;cases ry;subst hm
  exact⟨i,j,rfl,rfl,q _ F' H' x' (.int _)⟩
def c8(ha:U1 X ρ a (.int i))(hb:U1 X ρ b (.int j)):U1 X ρ (.BinOp a .Add b pos) (.int (i+j)):=xq Oo ha hb rfl
def iw(ha:U1 X ρ a (.int i))(hb:U1 X ρ b (.int j)):U1 X ρ (.BinOp a .Sub b pos) (.int (i-j)):=xq Oh ha hb rfl
def LI:lP X (binaryOp .Mult) (rI IntMulOk fun i j=>.int (i*j)):=QO fun _ _ _ _ _ _ _ hc q=>mul_int q hc
def At.ZP(t:At X N sc)(I:Inv X pins σ H s):PylongRoom (model X.prog X.w) X.A s:=by
 obtain⟨env,l,h1,h2,h3,h4,h5⟩:=t.fr
 exact PylongRoom.of I.nolimit t.dp (SeerAt.of (I.ok.mod.seer.keeps I.bk) t.tree (by rw[I.ok.frames,h1]) h2 h3 h4 h5)
def LJ(t:At X N sc):lP X (binaryOp .FloorDiv) (rI (fun _ j=>j≠0) fun i j=>.int (i.fdiv j)):=by
 intro pins s σ H x y v u Q I rx ry h
 obtain⟨i,j,rfl,rfl,hc,q⟩:=h
 obtain⟨t1,rfl⟩:=rx
 obtain⟨t2,rfl⟩:=ry
 exact floordiv_int hc ⟨.int (i.fdiv j),H,I.tok _,⟨_,rfl⟩,q⟩ (.inr (t.ZP I))
def jh(ha:U1 X ρ a (.int i))(hb:U1 X ρ b (.int j))(hc:IntMulOk i j):U1 X ρ (.BinOp a .Mult b pos) (.int (i*j)):=vz LI ha hb hc rfl
def hJ(t:At X N sc)(ha:U1 X ρ a (.int i))(hb:U1 X ρ b (.int j))(h0:0<j):U1 X ρ (.BinOp a .FloorDiv b pos) (.int (i / j)):=
 vz (LJ t) ha hb (by lia) (Int.fdiv_eq_ediv_of_nonneg i (by lia))
def br(ha:U1 X ρ a (.int i))(hb:U1 X ρ b (.int j))(h0:0<j):U1 X ρ (.BinOp a .Mod b pos) (.int (i%j)):=vz IS ha hb h0 rfl
def JH(ha:U1 X ρ a (.int i))(hb:U1 X ρ b (.int j))(h0:RH i j):U1 X ρ (.BinOp a .Pow b pos) (.int (i ^ j.toNat)):=vz Oj ha hb h0 rfl
def gA(ha:U1 X ρ a (.int i)):U1 X ρ (.UnaryOp .USub a pos) (.int (-i)):=
 .of (QL NF aN) fun B F H σ Q k q=>ha B F H σ _ k fun x F' H' x' rx=>by
  cases rx
  exact⟨i,rfl,q _ F' H' x' (.int _)⟩
def Mh{i j:Int}{op:CmpOp}{g:Int->Int->Bool}(ho:lP X (compareOp op) (KL fun i j=>.bl (g i j)))(ha:U1 X ρ a (.int i))(hb:U1 X ρ b (.int j))(hm:behindInMarks op b=false):U1 X ρ (.Compare a [op] [b] pos) (.bl (g i j)):=
 .of (kX ho aN aN hm) fun B F H σ Q k q=>two ha hb k fun x y F' H' x' rx ry=>by
  cases rx;cases ry
  exact⟨i,j,rfl,rfl,q _ F' H' x' (.bl _)⟩
def Nk(ha:U1 X ρ a (.int i))(hb:U1 X ρ b (.int j)):U1 X ρ (.Compare a [.Gt] [b] pos) (.bl (decide (j<i))):=Mh IT ha hb (cT _ (by decide) (by decide))
mutual
def e8:D->PyData
 |.Vs=>.none
 |.bl b=>.bool b
 |.int i=>.int i
 |.str x=>.str x
 |.tup xs=>.tuple (Vb xs)
 |.lst xs=>.list (Vb xs)
 |.Xb ns=>.list (ns.map PyData.int)
 |.exc _=>.dict []
 |.Yu _ _=>.dict []
 |.Vi _=>.dict []
 |.adr _=>.dict []
 |.Wg _=>.dict []
def Vb:aU->List PyData
 |[]=>[]
 |d::ds=>e8 d::Vb ds
end
def Co(xs:aU):Vb xs=xs.map e8:=by
 induction xs with
 |nil=>rfl
 |cons d ds ih=>rw[Vb,ih,aT]
def io(ns:aS):Vb (ns.map D.int)=ns.map PyData.int:=by
 rw[Co,cM];rfl
def Ak{s:Shared}:∀{ns:aS} {us:fR},Vals (ns.map V.int) us->∃as,ReadsAll s.heap us (ns.map PyData.int) as
 |[],_,r=>by cases r;exact⟨_,.nil⟩
 |n::ns,_,r=>by
  rw[aT] at r
  cases r with
  |cons r1 r2=>
   obtain⟨as,h⟩:=Ak r2
   obtain⟨t,rfl⟩:=r1
   exact⟨_,.cons (Reads.int n t) h⟩
mutual
def Rep.reads(I:Inv X pins σ H s)(sub:U8 F H):∀{v:V} {d:D} {u:Value},Rep X.K F v d->RelV v u->(e8 d).canLay0=true->∃as,Reads s.heap u (e8 d) as
 |_,_,u,.Vs,r,hs=>by cases(show u=Value.none from r);exact⟨_,Reads.none⟩
 |_,_,u,.bl b,r,hs=>by cases(show u=Value.bool b from r);exact⟨_,Reads.bool b⟩
 |_,_,u,.int i,r,hs=>by obtain⟨t,e⟩:=(show ∃t,u=Value.int i t from r);cases e;exact⟨_,Reads.int i t⟩
 |_,_,u,.str x,r,hs=>by obtain⟨t,e⟩:=(show ∃t,u=Value.str x t from r);cases e;exact⟨_,Reads.str x t⟩
 |_,_,u,.tup (a:=a) h rl,r,hs=>by
  cases(show u=Value.ref a from r)
  obtain⟨its,rv,p,_⟩:=I.tuple (VV.of (sub _ _ h))
  obtain⟨o,e,c,n,dt⟩:=p
  obtain⟨as,ra⟩:=U2.reads I sub rl rv (by simpa [e8,PyData.canLay0] using hs)
  exact⟨_,Reads.tuple e c dt (by simpa using ra)⟩
 |_,_,u,.lst (a:=a) h rl,r,hs=>by
  cases(show u=Value.ref a from r)
  obtain⟨its,rv,p,_⟩:=I.list (VE.of (sub _ _ h))
  obtain⟨o,e,c,n,dt⟩:=p.isList
  obtain⟨as,ra⟩:=U2.reads I sub rl rv (by simpa [e8,PyData.canLay0] using hs)
  exact⟨_,Reads.list e c dt (by simpa using ra)⟩
 |_,_,u,.exc h,r,hs=>by simp[e8,PyData.canLay0] at hs
 |_,_,u,.Yu h,r,hs=>by simp[e8,PyData.canLay0] at hs
 |_,_,u,.Vi h _,r,hs=>by simp[e8,PyData.canLay0] at hs
 |_,_,u,.adr _,r,hs=>by simp[e8,PyData.canLay0] at hs
 |_,_,u,.Wg _,r,hs=>by simp[e8,PyData.canLay0] at hs
 |_,_,u,.Xb (a:=a) h,r,hs=>by
  cases(show u=Value.ref a from r)
  obtain⟨its,rv,p,_⟩:=I.list (sub.seq h)
  obtain⟨o,e,c,n,dt⟩:=p.isList
  obtain⟨as,ra⟩:=Ak (s:=s) rv
  exact⟨_,Reads.list e c dt (by simpa using ra)⟩
def U2.reads(I:Inv X pins σ H s)(sub:U8 F H):∀{vs:df} {ds:aU} {us:fR},U2 X.K F vs ds->Vals vs us->PyData.canLayAll0 (Vb ds)=true->∃as,ReadsAll s.heap us (Vb ds) as
 |_,_,_,.nil,r,hs=>by cases r;exact⟨_,.nil⟩
 |_,_,_,.cons r1 r2,r,hs=>by
  cases r with
  |cons q1 q2=>
   rw[Vb,PyData.canLayAll0,dJ] at hs
   have YI:=hs
   obtain⟨as,h1⟩:=Rep.reads I sub r1 q1 YI.1
   obtain⟨bs,h2⟩:=U2.reads I sub r2 q2 YI.2
   exact⟨_,.cons h1 h2⟩
end
def Yp.reads(I:Inv X pins σ H s)(sub:U8 F H)(h:Yp X.K k H a vs)(r:U2 X.K F vs xs)(hs:(if k=true then PyData.list (Vb xs) else .tuple (Vb xs)).canLay0=true):∃as,Reads s.heap (.ref a) (if k=true then PyData.list (Vb xs) else .tuple (Vb xs)) as:=by
 cases k with
 |true=>
  obtain⟨its,rv,p,_⟩:=I.list (show VE _ _ _ _ from h)
  obtain⟨o,e,c,n,dt⟩:=p.isList
  obtain⟨as,ra⟩:=U2.reads I sub r rv (by simpa [PyData.canLay0] using hs)
  exact⟨_,Reads.list e c dt (by simpa using ra)⟩
 |false=>
  obtain⟨its,rv,p,_⟩:=I.tuple (show VV _ _ _ _ from h)
  obtain⟨o,e,c,n,dt⟩:=p
  obtain⟨as,ra⟩:=U2.reads I sub r rv (by simpa [PyData.canLay0] using hs)
  exact⟨_,Reads.tuple e c dt (by simpa using ra)⟩
def XH(X:Cx)(H:Hp)(v:V)(p:PyData):Prop:=p.canLay0=true->∀(H':Hp),U8 H H'->∀(pins:gc) (σ:St) (s:Shared) (u:Value),Inv X pins σ H' s->RelV v u->∃as,Reads s.heap u p as
def Du(X:Cx)(ρ:cn)(e:Expr)(p:PyData):Prop:=∀(B:B0) (F H:Hp) (σ:St) (Q:VK),Ok X.K B F H σ ρ->(∀v F' H',Ext ⟨F,H⟩ F' H'->XH X H' v p->Q v H')->wE X e σ H Q
def U1.p(h:U1 X ρ e d):Du X ρ e (e8 d):=fun B F H σ Q k q=>h B F H σ Q k fun v F' H' x r=>q v F' H' x fun hs H2 s2 pins σ s u I ru=>r.reads I (x.sub.trans s2) ru hs
def W8.p(h:W8 X ρ e k xs):Du X ρ e (if k=true then PyData.list (Vb xs) else .tuple (Vb xs)):=fun B F H σ Q k' q=>h B F H σ Q k' fun a vs F' H' x hs r=>q _ F' H' x fun hc H2 s2 pins σ s u I ru=>by
 cases(show u=Value.ref a from ru)
 exact Yp.reads I (x.sub.trans s2) (hs.mono s2) r hc
def Fo{p q:PyData}(t:At X N sc)(sp:SeqAt.shaped p=true)(sq:SeqAt.shaped q=true):lP X (compareOp .Eq) (fun x y H Q=>XH X H x p/\XH X H y q/\Q (.bl (p.eqv q)) H):=by
 intro pins s σ H x y v u Q I rx ry h
 obtain⟨h1,h2,h3⟩:=h
 obtain⟨as,r1⟩:=h1 (og sp) H (.refl _) pins σ s v I rx
 obtain⟨bs,r2⟩:=h2 (og sq) H (.refl _) pins σ s u I ry
 exact eq_dataH r1 r2 sp sq t.un ⟨.bl _,H,I,rfl,h3⟩
def Iy{p q:PyData}(t:At X N sc)(sp:SeqAt.shaped p=true)(sq:SeqAt.shaped q=true):lP X (compareOp .NotEq) (fun x y H Q=>XH X H x p/\XH X H y q/\Q (.bl (!p.eqv q)) H):=by
 intro pins s σ H x y v u Q I rx ry h
 obtain⟨h1,h2,h3⟩:=h
 obtain⟨as,r1⟩:=h1 (og sp) H (.refl _) pins σ s v I rx
 obtain⟨bs,r2⟩:=h2 (og sq) H (.refl _) pins σ s u I ry
 exact ne_dataH r1 r2 sp sq t.un ⟨.bl _,H,I,rfl,h3⟩
def XH.mono(h:XH X H v p)(s:U8 H H'):XH X H' v p:=fun hc H2 s2=>h hc H2 (s.trans s2)
def yb(ha:Du X ρ a p)(hb:Du X ρ b q){R:V->V->Hp->Prop}(k:Ok X.K B F H σ ρ)(h:∀x y F' H',Ext ⟨F,H⟩ F' H'->XH X H' x p->XH X H' y q->R x y H'):wE X a σ H fun x H1=>wE X b σ H1 fun y H2=>R x y H2:=
 ha B F H σ _ k fun x F1 H1 x1 r1=>hb B F1 H1 σ _ (k.ext x1) fun y F2 H2 x2 r2=>h x y F2 H2 (x1.t x2) (r1.mono x2.sh) r2
def xp{r:Bool}(t:At X N sc)(ha:Du X ρ a p)(hb:Du X ρ b q)(sp:SeqAt.shaped p=true)(sq:SeqAt.shaped q=true)(hr:p.eqv q=r):U1 X ρ (.Compare a [.Eq] [b] pos) (.bl r):=
 .of (kX (Fo t sp sq) aN aN (cT _ (by decide) (by decide))) fun B F H σ Q k q=>yb ha hb k fun x y F' H' x' rx ry=>⟨rx,ry,by rw[hr];exact q _ F' H' x' (.bl r)⟩
def Et{r:Bool}(t:At X N sc)(ha:Du X ρ a p)(hb:Du X ρ b q)(sp:SeqAt.shaped p=true)(sq:SeqAt.shaped q=true)(hr:(!p.eqv q)=r):U1 X ρ (.Compare a [.NotEq] [b] pos) (.bl r):=
 .of (kX (Iy t sp sq) aN aN (cT _ (by decide) (by decide))) fun B F H σ Q k q=>yb ha hb k fun x y F' H' x' rx ry=>⟨rx,ry,by rw[hr];exact q _ F' H' x' (.bl r)⟩
def Pb(t:At X N sc)(ha:U1 X ρ a (.int i))(hb:U1 X ρ b (.int j)):U1 X ρ (.Compare a [.Eq] [b] pos) (.bl (decide (i=j))):=
 .of (kX IU aN aN (cT _ (by decide) (by decide))) fun B F H σ Q k q=>two ha hb k fun x y F' H' x' rx ry=>by
  cases rx;cases ry
  refine⟨rfl,?_⟩
  have e:decide (V.int i=V.int j)=decide (i=j):=by rw[sY,zr]
  rw[e]
  exact q _ F' H' x' (.bl _)
def O6(t:At X N sc)(ha:U1 X ρ a (.int i))(hb:U1 X ρ b (.int j)):U1 X ρ (.Compare a [.NotEq] [b] pos) (.bl (!decide (i=j))):=
 .of (kX M2 aN aN (cT _ (by decide) (by decide))) fun B F H σ Q k q=>two ha hb k fun x y F' H' x' rx ry=>by
  cases rx;cases ry
  refine⟨rfl,?_⟩
  have e:decide (V.int i=V.int j)=decide (i=j):=by rw[sY,zr]
  rw[e]
  exact q _ F' H' x' (.bl _)
def U2.at{K:bW}{i:Int}(r:U2 K F vs xs)(h:k7 xs i=some d):∃v,k7 vs i=some v/\Rep K F v d:=by
 unfold k7 at h ⊢
 rw[r.length]
 cases e:FS xs.length i with
 |none=>rw[e] at h;cases h
 |some j=>
  rw[e] at h
  obtain⟨v,h1,h2⟩:=r.get h
  exact⟨v,h1,h2⟩
def qe(ha:W8 X ρ a k xs)(hb:U1 X ρ b db){R:V->V->Hp->Prop}(k':Ok X.K B F H σ ρ)(h:∀l vs y F' H',Ext ⟨F,H⟩ F' H'->Yp X.K k H' l vs->U2 X.K F' vs xs->Rep X.K F' y db->R (.ref l) y H'):wE X a σ H fun x H1=>wE X b σ H1 fun y H2=>R x y H2:=
 ha B F H σ _ k' fun l vs F1 H1 x1 s1 r1=>hb B F1 H1 σ _ (k'.ext x1) fun y F2 H2 x2 r2=>h l vs y F2 H2 (x1.t x2) (s1.mono x2.sh) (r1.mono x2.sf) r2
def cb(ha:W8 X ρ a k xs)(hb:U1 X ρ b (.int i))(h:k7 xs i=some d)(hs:k8 b:=by intro _ _;rfl):U1 X ρ (.Subscript a b pos) d:=by
 cases k with
 |true=>
  exact .of (CB FQ aN aN hs) fun B F H σ Q k' q=>qe ha hb k' fun l vs y F' H' x' sl rl ry=>by
   cases ry
   obtain⟨v,h1,h2⟩:=rl.at h
   exact⟨l,vs,i,v,rfl,rfl,sl,h1,q v F' H' x' h2⟩
 |false=>
  exact .of (CB OL aN aN hs) fun B F H σ Q k' q=>qe ha hb k' fun l vs y F' H' x' sl rl ry=>by
   cases ry
   obtain⟨v,h1,h2⟩:=rl.at h
   exact⟨l,vs,i,v,rfl,rfl,sl,h1,q v F' H' x' h2⟩
def ma:KP X ρ none none:=fun B F H σ Q k q=>.mk fun pins s I=>Lz pins s σ H Q I (q F H (.refl k.sub))
def fM(h:U1 X ρ e (.int i)):KP X ρ (some e) (some i):=fun B F H σ Q k q=>.mk fun pins s I=>A1 aN pins s σ H Q I (h B F H σ _ k fun v F' H' x r=>by
 cases r
 exact⟨i,rfl,q F' H' x⟩)
def cutD(xs:aU)(lo hi:Option Int):aU:=(xs.drop (HT.Vo xs.length 0 lo)).take (HT.Vo xs.length xs.length hi-HT.Vo xs.length 0 lo)
def U2.cut{K:bW}(r:U2 K F vs xs)(lo hi:Option Int):U2 K F (C7 vs lo hi) (cutD xs lo hi):=by
 unfold C7 cutD
 rw[r.length]
 exact(r.drop _).take _
def kZ{lo hi:Option Expr}{l h:Option Int}(ha:W8 X ρ a true xs)(hl:KP X ρ lo l)(hh:KP X ρ hi h):U9 X ρ (.Subscript a (.Slice lo hi none p2) pos) (cutD xs l h):=
 .of (sB Ld aN GN GN) fun B F H σ Q k q=>ha B F H σ _ k fun p vs F1 H1 x1 s1 r1=>hl B F1 H1 σ _ (k.ext x1) fun F2 H2 x2=>hh B F2 H2 σ _ (k.ext (x1.t x2)) fun F3 H3 x3=>by
  have x:=x1.t (x2.t x3)
  refine⟨p,vs,rfl,(s1.mono x2.sh).mono x3.sh,fun l' Z5=>?_⟩
  have r3:=(r1.mono x2.sf).mono x3.sf
  exact q l' _ F3 _ ⟨x.sub.trans (aL Z5),x.sh.trans (aL Z5),x.sf,x.nw⟩ (x.sh.free Z5) aG (x.sub.free Z5) (r3.cut l h)
def Mf{lo hi:Option Expr}{l h:Option Int}(ha:W8 X ρ a false xs)(hl:KP X ρ lo l)(hh:KP X ρ hi h)(hw:¬(HT.Vo xs.length 0 l=0/\HT.Vo xs.length xs.length h=xs.length)):
  U1 X ρ (.Subscript a (.Slice lo hi none p2) pos) (.tup (cutD xs l h)):=
 .of (sB NW aN GN GN) fun B F H σ Q k q=>ha B F H σ _ k fun p vs F1 H1 x1 s1 r1=>hl B F1 H1 σ _ (k.ext x1) fun F2 H2 x2=>hh B F2 H2 σ _ (k.ext (x1.t x2)) fun F3 H3 x3=>by
  have x:=x1.t (x2.t x3)
  have r3:=(r1.mono x2.sf).mono x3.sf
  refine⟨p,vs,rfl,(s1.mono x2.sh).mono x3.sh,by rw[r3.length];exact hw,fun l' Z5=>?_⟩
  exact q _ _ _ (x.grow Z5) (.tup aG ((r3.cut l h).mono (aL (x.sub.free Z5))))
def af:Vw X ρ [] []:=⟨trivial,fun B F H σ Q k q=>.mk fun pos pins s I=>cK pos pins s σ H Q I (q [] F H (.refl k.sub) .nil)⟩
def ab{ds:aU}(h1:U1 X ρ e d)(h2:Vw X ρ es ds)(hs:Pl e:=by intro _ _;rfl):Vw X ρ (e::es) (d::ds):=
 ⟨⟨hs,h2.1⟩,fun B F H σ Q k q=>.mk fun pos pins s I=>bw aN oO (hs _ _) pos pins s σ H Q I (h1 B F H σ _ k fun v F1 H1 x1 r1=>h2.2 B F1 H1 σ _ (k.ext x1) fun vs F2 H2 x2 r2=>q _ F2 H2 (x1.t x2) (.cons (r1.mono x2.sf) r2))⟩
def aD{ds:aU}(h:Vw X ρ es ds)(hl:ds.length<=sizeLine:=by exact bq rfl):U1 X ρ (.Tuple es x1 pos) (.tup ds):=
 .of (D2 oO) fun B F H σ Q k q=>h.2 B F H σ _ k fun vs F' H' x r=>⟨by rw[r.length];exact hl,fun p hp=>q _ _ _ (x.grow hp) (.tup aG (r.mono (aL (x.sub.free hp))))⟩
def bb{ds:aU}(h:Vw X ρ es ds)(hl:ds.length<=sizeLine:=by exact bq rfl):U9 X ρ (.List es pos) ds:=
 .of (IN oO) fun B F H σ Q k q=>h.2 B F H σ _ k fun vs F' H' x r=>⟨by rw[r.length];exact hl,fun p hp=>q p vs F' _ ⟨x.sub.trans (aL hp),x.sh.trans (aL hp),x.sf,x.nw⟩ (x.sh.free hp) aG (x.sub.free hp) r⟩
def c9(ha:U1 X ρ a (.lst xs))(hb:U1 X ρ b (.lst ys))(hz:xs.length+ys.length<=sizeLine):U9 X ρ (.BinOp a .Add b pos) (xs++ys):=
 .of (l5 Om aN aN) fun B F H σ Q k q=>two ha hb k fun x y F' H' x' rx ry=>by
  cases rx with
  |lst h1 r1=>
   cases ry with
   |lst h2 r2=>
    refine⟨_,_,_,_,rfl,rfl,x'.sub _ _ h1,x'.sub _ _ h2,by rw[r1.length,r2.length];exact hz,fun p hp=>?_⟩
    exact q p _ F' _ ⟨x'.sub.trans (aL hp),x'.sh.trans (aL hp),x'.sf,x'.nw⟩ (x'.sh.free hp) aG (x'.sub.free hp) (r1.append r2)
def ud(ha:U1 X ρ a (.lst xs))(hb:U1 X ρ b (.int n))(h1 : -(2 ^ 63)<=n)(h2:n<2 ^ 63)(hz:xs.length*n.toNat<=sizeLine):U9 X ρ (.BinOp a .Mult b pos) (List.replicate n.toNat xs).flatten:=
 .of (l5 Oi aN aN) fun B F H σ Q k q=>two ha hb k fun x y F' H' x' rx ry=>by
  cases rx with
  |lst g1 r1=>
   cases ry
   refine⟨_,n,_,rfl,rfl,x'.sub _ _ g1,h1,h2,by rw[r1.length];exact hz,fun p hp=>?_⟩
   exact q p _ F' _ ⟨x'.sub.trans (aL hp),x'.sh.trans (aL hp),x'.sf,x'.nw⟩ (x'.sh.free hp) aG (x'.sub.free hp) (r1.rep _)
def qg(ha:U3 X ρ a r):Wj X ρ (.BoolOp .And [a] pos) r:=.of (Ls kz) fun B F H σ Q k q=>ha B F H σ Q k q
def oX(ha:U3 X ρ a r):Wj X ρ (.BoolOp .Or [a] pos) r:=.of (N7 kz) fun B F H σ Q k q=>ha B F H σ Q k q
def kY{bF:rL}(ha:U3 X ρ a true)(hb:Wj X ρ (.BoolOp .And (b::bF) pos) r):Wj X ρ (.BoolOp .And (a::b::bF) pos) r:=
 .of (IA kz Lr) fun B F H σ Q k q=>ha B F H σ _ k fun F1 H1 x1=>by rw[au rfl];exact hb B F1 H1 σ _ (k.ext x1) fun F2 H2 x2=>q F2 H2 (x1.t x2)
def mK{bF:rL}(ha:U3 X ρ a false):Wj X ρ (.BoolOp .And (a::b::bF) pos) false:=
 .of (IA kz Lr) fun B F H σ Q k q=>ha B F H σ _ k fun F1 H1 x1=>by rw[aq av];exact q F1 H1 x1
def lh{bF:rL}(ha:U3 X ρ a false)(hb:Wj X ρ (.BoolOp .Or (b::bF) pos) r):Wj X ρ (.BoolOp .Or (a::b::bF) pos) r:=
 .of (MZ kz Lr) fun B F H σ Q k q=>ha B F H σ _ k fun F1 H1 x1=>by rw[aq av];exact hb B F1 H1 σ _ (k.ext x1) fun F2 H2 x2=>q F2 H2 (x1.t x2)
def t6{bF:rL}(ha:U3 X ρ a true):Wj X ρ (.BoolOp .Or (a::b::bF) pos) true:=
 .of (MZ kz Lr) fun B F H σ Q k q=>ha B F H σ _ k fun F1 H1 x1=>by rw[au rfl];exact q F1 H1 x1
def Wj.toT(h:Wj X ρ e r):U3 X ρ e r:=fun B F H σ Q k q=>.mk fun pins s I=>h B F H σ Q k q _ pins s I
def hV(ha:U3 X ρ a r):U3 X ρ (.UnaryOp .Not a pos) (!r):=.of (N9 kz) fun B F H σ Q k q=>ha B F H σ _ k q
def Es{op:BoolOp}(h:U1 X ρ a d):U1 X ρ (.BoolOp op [a] pos) d:=.of (Oe aN) fun B F H σ Q k q=>h B F H σ Q k q
def FZ{bF:rL}(ha:U1 X ρ a (.bl true))(hb:U1 X ρ (.BoolOp .And (b::bF) pos) d):U1 X ρ (.BoolOp .And (a::b::bF) pos) d:=
 .of (IQ aN aN) fun B F H σ Q k q=>ha B F H σ _ k fun v F1 H1 x1 r=>by
  cases r
  exact⟨true,rfl,by rw[au rfl];exact hb B F1 H1 σ _ (k.ext x1) fun v F2 H2 x2 r2=>q v F2 H2 (x1.t x2) r2⟩
def F7{bF:rL}(ha:U1 X ρ a (.bl false)):U1 X ρ (.BoolOp .And (a::b::bF) pos) (.bl false):=
 .of (IQ aN aN) fun B F H σ Q k q=>ha B F H σ _ k fun v F1 H1 x1 r=>by
  cases r
  exact⟨false,rfl,by rw[aq av];exact q _ F1 H1 x1 (.bl false)⟩
def JJ{bF:rL}(ha:U1 X ρ a (.bl false))(hb:U1 X ρ (.BoolOp .Or (b::bF) pos) d):U1 X ρ (.BoolOp .Or (a::b::bF) pos) d:=
 .of (M1 aN aN) fun B F H σ Q k q=>ha B F H σ _ k fun v F1 H1 x1 r=>by
  cases r
  exact⟨false,rfl,by rw[aq av];exact hb B F1 H1 σ _ (k.ext x1) fun v F2 H2 x2 r2=>q v F2 H2 (x1.t x2) r2⟩
def JI{bF:rL}(ha:U1 X ρ a (.bl true)):U1 X ρ (.BoolOp .Or (a::b::bF) pos) (.bl true):=
 .of (M1 aN aN) fun B F H σ Q k q=>ha B F H σ _ k fun v F1 H1 x1 r=>by
  cases r
  exact⟨true,rfl,by rw[au rfl];exact q _ F1 H1 x1 (.bl true)⟩
def Ma(ha:U1 X ρ a (.bl r)):U1 X ρ (.UnaryOp .Not a pos) (.bl (!r)):=
 .of (Of aN) fun B F H σ Q k q=>ha B F H σ _ k fun v F1 H1 x1 rv=>by
  cases rv
  exact⟨r,rfl,q _ F1 H1 x1 (.bl _)⟩
def t9(hc:U3 X ρ c true)(ha:U1 X ρ a d):U1 X ρ (.IfExp c a b pos) d:=
 .of (sC kz aN aN) fun B F H σ Q k q=>hc B F H σ _ k fun F1 H1 x1=>by rw[au rfl];exact ha B F1 H1 σ _ (k.ext x1) fun v F2 H2 x2 r2=>q v F2 H2 (x1.t x2) r2
def ua(hc:U3 X ρ c false)(hb:U1 X ρ b d):U1 X ρ (.IfExp c a b pos) d:=
 .of (sC kz aN aN) fun B F H σ Q k q=>hc B F H σ _ k fun F1 H1 x1=>by rw[aq av];exact hb B F1 H1 σ _ (k.ext x1) fun v F2 H2 x2 r2=>q v F2 H2 (x1.t x2) r2
def JV(ha:U1 X ρ e (.int i))(he:∀whole,isTrue e X.env whole=(do let v <-whole;standAt e.pos;holding [v] (truthy v)):=by intro _;rfl):U3 X ρ e (i != 0):=
 .of (ID aN he) fun B F H σ Q k q=>ha B F H σ _ k fun v F1 H1 x1 r=>by
  cases r
  exact⟨_,rfl,q F1 H1 x1⟩
def eE(ha:U1 X ρ e (.bl r))(he:∀whole,isTrue e X.env whole=(do let v <-whole;standAt e.pos;holding [v] (truthy v)):=by intro _;rfl):U3 X ρ e r:=
 .of (N8 aN he) fun B F H σ Q k q=>ha B F H σ _ k fun v F1 H1 x1 rv=>by
  cases rv
  exact⟨r,rfl,q F1 H1 x1⟩
section
def xw{op:CmpOp}{r:R2}(ho:lP X (compareOp op) r)(ha:U1 X ρ a da)(hb:U1 X ρ b db)(hm:behindInMarks op b=false)(hr:∀(F H:Hp) x y (Q:VK),Rep X.K F x da->Rep X.K F y db->Q (.bl k) H->r x y H Q):U3 X ρ (.Compare a [op] [b] pos) k:=
 .of (eg ho aN aN hm) fun B F H σ Q k' q=>two ha hb k' fun x y F' H' x' rx ry=>hr F' H' x y _ rx ry ⟨k,rfl,q F' H' x'⟩
def fg(ha:U1 X ρ a (.int i))(hb:U1 X ρ b (.int j)):U3 X ρ (.Compare a [.Lt] [b] pos) (decide (i<j)):=xw M3 ha hb (cT _ (by decide) (by decide)) fun F H x y Q rx ry q=>by cases rx;cases ry;exact⟨i,j,rfl,rfl,q⟩
def hW(ha:U1 X ρ a (.int i))(hb:U1 X ρ b (.int j)):U3 X ρ (.Compare a [.Gt] [b] pos) (decide (j<i)):=xw IT ha hb (cT _ (by decide) (by decide)) fun F H x y Q rx ry q=>by cases rx;cases ry;exact⟨i,j,rfl,rfl,q⟩
def Nl(ha:U1 X ρ a (.int i))(hb:U1 X ρ b (.int j)):U3 X ρ (.Compare a [.GtE] [b] pos) (decide (j<=i)):=xw QN ha hb (cT _ (by decide) (by decide)) fun F H x y Q rx ry q=>by cases rx;cases ry;exact⟨i,j,rfl,rfl,q⟩
def xB{i:Int}:decide (V.int i=V.int j)=decide (i=j):=by rw[sY,zr]
def dM(ha:U1 X ρ a (.int i))(hb:U1 X ρ b (.int j)):U3 X ρ (.Compare a [.Eq] [b] pos) (decide (i=j)):=xw IU ha hb (cT _ (by decide) (by decide)) fun F H x y Q rx ry q=>by
 cases rx;cases ry;exact⟨rfl,by rw[xB];exact q⟩
def Bw(ha:U1 X ρ a (.int i))(hb:U1 X ρ b (.int j)):U3 X ρ (.Compare a [.NotEq] [b] pos) (!decide (i=j)):=xw M2 ha hb (cT _ (by decide) (by decide)) fun F H x y Q rx ry q=>by
 cases rx;cases ry;exact⟨rfl,by rw[xB];exact q⟩
def iy{r:Bool}(t:At X N sc)(ha:Du X ρ a p)(hb:Du X ρ b q)(sp:SeqAt.shaped p=true)(sq:SeqAt.shaped q=true)(hr:p.eqv q=r):U3 X ρ (.Compare a [.Eq] [b] pos) r:=
 .of (eg (Fo t sp sq) aN aN (cT _ (by decide) (by decide))) fun B F H σ Q k q=>yb ha hb k fun x y F' H' x' rx ry=>⟨rx,ry,r,by rw[hr],q F' H' x'⟩
def qY{r:Bool}(t:At X N sc)(ha:Du X ρ a p)(hb:Du X ρ b q)(sp:SeqAt.shaped p=true)(sq:SeqAt.shaped q=true)(hr:(!p.eqv q)=r):U3 X ρ (.Compare a [.NotEq] [b] pos) r:=
 .of (eg (Iy t sp sq) aN aN (cT _ (by decide) (by decide))) fun B F H σ Q k q=>yb ha hb k fun x y F' H' x' rx ry=>⟨rx,ry,r,by rw[hr],q F' H' x'⟩
structure m8(X:Cx)(sc:Scope)(x:Str)(u:Value):Prop where
 g:ve sc x
 m:X.mg x=none
 v:bootBuiltins x=some u
 n:x ≠ "__name__"
 d:qA x
def dj(t:At X N sc)(h:ve sc x):Gl X x:=by
 show X.env.scope.names.lookup x=_
 rw[t.eS];exact h
variable {ds:aU}
def sT{id:String}(t:At X N sc){r:df->Hp->VK->Prop}(bl:m8 X sc x (.builtin id))(hc:gn X (.builtin id) r)(ha:Vw X ρ (e::es) ds)(hr:∀(F H:Hp) vs (Q:VK),U8 F H->U2 X.K F vs ds->(∀v F' H',Ext ⟨F,H⟩ F' H'->Rep X.K F' v d->Q v H')->r vs H Q):U1 X ρ (.Call (.Name x p) (e::es) [] pos) d:=
 .of (jX hc (dj t bl.g) bl.m bl.v oO bl.n bl.d (ha.1.1 _ _) (XR.any ha.1.2)) fun B F H σ Q k q=>ha.2 B F H σ _ k fun vs F' H' x' rv=>hr F' H' vs Q x'.sub rv fun v F2 H2 x2 r2=>q v F2 H2 (x'.t x2) r2
def ub(t:At X N sc){r:df->Hp->VK->Prop}(bl:m8 X sc x (.type T))(hc:gn X (.type T) r)(ha:Vw X ρ (e::es) ds)(hr:∀(F H:Hp) vs (Q:VK),U8 F H->U2 X.K F vs ds->(∀v F' H',Ext ⟨F,H⟩ F' H'->Rep X.K F' v d->Q v H')->r vs H Q):U1 X ρ (.Call (.Name x p) (e::es) [] pos) d:=
 .of (jM hc (dj t bl.g) bl.m bl.v oO bl.n bl.d (ha.1.1 _ _) (XR.any ha.1.2)) fun B F H σ Q k q=>ha.2 B F H σ _ k fun vs F' H' x' rv=>hr F' H' vs Q x'.sub rv fun v F2 H2 x2 r2=>q v F2 H2 (x'.t x2) r2
def U2.one{K:bW}(h:U2 K F vs [d]):∃v,vs=[v]/\Rep K F v d:=by
 cases h with
 |cons r t=>cases t;exact⟨_,rfl,r⟩
def U2.two{K:bW}(h:U2 K F vs [d,e]):∃v u,vs=[v,u]/\Rep K F v d/\Rep K F u e:=by
 cases h with
 |cons r t=>obtain⟨u,rfl,q⟩:=t.one;exact⟨_,_,rfl,r,q⟩
def dy(t:At X N sc)(bl:m8 X sc x (.builtin "len"))(ha:W8 X ρ e k xs)(Wq:Pl e:=by intro _ _;rfl):U1 X ρ (.Call (.Name x p) [e] [] pos) (.int xs.length):=
 .of (jX s9 (dj t bl.g) bl.m bl.v (bw aN cK (Wq _ _)) bl.n bl.d (Wq _ _) rfl) fun B F H σ Q k' q=>ha B F H σ _ k' fun l vs F' H' x' sl rl=>by
  refine⟨l,vs,rfl,?_,?_⟩
  ·cases k with
   |true=>exact .inl sl
   |false=>exact .inr sl
  ·rw[rl.length];exact q _ F' H' x' (.int _)
def JS(t:At X N sc)(bl:m8 X sc x (.builtin "abs"))(ha:U1 X ρ e (.int i))(Wq:Pl e:=by intro _ _;rfl):U1 X ρ (.Call (.Name x p) [e] [] pos) (.int i.natAbs):=
 sT t bl Kg (ab ha af Wq) fun F H vs Q sub r q=>by
  obtain⟨v,rfl,rv⟩:=r.one
  cases rv
  have e:(if i<0 then -i else i)=(i.natAbs:Int):=by split<;>lia
  exact⟨i,rfl,by rw[e];exact q _ F H (.refl sub) (.int _)⟩
def Br(t:At X N sc)(bl:m8 X sc x (.builtin "max"))(ha:U1 X ρ a (.int i))(hb:U1 X ρ b (.int j))(hpa:Pl a:=by intro _ _;rfl)(hpb:Pl b:=by intro _ _;rfl):U1 X ρ (.Call (.Name x p) [a,b] [] pos) (.int (max i j)):=
 sT t bl (G8 t.calm) (ab ha (ab hb af hpb) hpa) fun F H vs Q sub r q=>by
  obtain⟨v,u,rfl,rv,ru⟩:=r.two
  cases rv;cases ru
  have e:(if j > i then j else i)=max i j:=by split<;>lia
  exact⟨i,j,rfl,by rw[e];exact q _ F H (.refl sub) (.int _)⟩
def Mb(t:At X N sc)(bl:m8 X sc x (.builtin "min"))(ha:U1 X ρ a (.int i))(hb:U1 X ρ b (.int j))(hpa:Pl a:=by intro _ _;rfl)(hpb:Pl b:=by intro _ _;rfl):U1 X ρ (.Call (.Name x p) [a,b] [] pos) (.int (min i j)):=
 sT t bl (G7 t.calm) (ab ha (ab hb af hpb) hpa) fun F H vs Q sub r q=>by
  obtain⟨v,u,rfl,rv,ru⟩:=r.two
  cases rv;cases ru
  have e:(if j<i then j else i)=min i j:=by split<;>lia
  exact⟨i,j,rfl,by rw[e];exact q _ F H (.refl sub) (.int _)⟩
def Bs(t:At X N sc)(bl:m8 X sc x (.type "int"))(ha:U1 X ρ e (.bl k))(Wq:Pl e:=by intro _ _;rfl):U1 X ρ (.Call (.Name x p) [e] [] pos) (.int (if k then 1 else 0)):=
 ub t bl G9 (ab ha af Wq) fun F H vs Q sub r q=>by
  obtain⟨v,rfl,rv⟩:=r.one
  cases rv
  exact .inr ⟨k,rfl,q _ F H (.refl sub) (.int _)⟩
def Gb(t:At X N sc)(bl:m8 X sc x (.type "list"))(ha:W8 X ρ e k xs)(Wq:Pl e:=by intro _ _;rfl):U9 X ρ (.Call (.Name x p) [e] [] pos) xs:=
 .of (jM BI (dj t bl.g) bl.m bl.v (bw aN cK (Wq _ _)) bl.n bl.d (Wq _ _) rfl) fun B F H σ Q k' q=>ha B F H σ _ k' fun l vs F' H' x' sl rl=>by
  refine⟨l,vs,rfl,?_,fun p hp=>?_⟩
  ·cases k with
   |true=>exact .inl sl
   |false=>exact .inr sl
  ·exact q p vs F' _ ⟨x'.sub.trans (aL hp),x'.sh.trans (aL hp),x'.sf,x'.nw⟩ (x'.sh.free hp) aG (x'.sub.free hp) rl
def j5(t:At X N sc)(bl:m8 X sc x (.type "tuple"))(ha:W8 X ρ e true xs)(Wq:Pl e:=by intro _ _;rfl):U1 X ρ (.Call (.Name x p) [e] [] pos) (.tup xs):=
 .of (jM y6 (dj t bl.g) bl.m bl.v (bw aN cK (Wq _ _)) bl.n bl.d (Wq _ _) rfl) fun B F H σ Q k' q=>ha B F H σ _ k' fun l vs F' H' x' sl rl=>by
  refine⟨l,vs,rfl,.inl ⟨sl,fun p hp=>?_⟩⟩
  exact q _ _ _ (x'.grow hp) (.tup aG (rl.mono (aL (x'.sub.free hp))))
def RP:D->Value
 |.Vs=>.type "NoneType" |.bl _=>.type "bool" |.int _=>.type "int" |.str _=>.type "str" |.tup _=>.type "tuple" |.lst _=>.type "list" |.Xb _=>.type "list" |.exc C=>.ref C | .Yu C _=>.ref C | .Vi _=>.type "dict" |.adr _=>.type "dict" |.Wg _=>.type "dict"
def Sk{X:Cx}(sub:U8 F H)(r:Rep X.K F v d)(hd:∀ns,d ≠ .Xb ns)(hx:∀C ea,d ≠ .exc C/\d ≠ .Yu C ea/\d ≠ .adr C:=by intro _ _;exact And.intro (fun h=>by cases h) (And.intro (fun h=>by cases h) (fun h=>by cases h)))(hq:∀kvs,d ≠ .Vi kvs:=by intro _ h;cases h):um X.K H v (RP d):=by
 cases r with
 |Vs=>exact .Vs
 |bl b=>exact .bl b
 |int i=>exact .int i
 |str x=>exact .str x
 |tup h _=>exact .tup (sub _ _ h)
 |lst h _=>exact .lst (sub _ _ h)
 |Xb h=>exact absurd rfl (hd _)
 |exc h=>exact absurd rfl (hx _ 0).1
 |Yu h=>exact absurd rfl (hx _ _).2.1
 |adr a=>exact absurd rfl (hx a 0).2.2
 |Wg h=>exact .dK (sub _ _ h)
 |Vi h _=>exact absurd rfl (hq _)
def OR{X:Cx}{d:D}(hx:∀C ea,d ≠ .exc C/\d ≠ .Yu C ea/\d ≠ .adr C)(hd:∀ns,d ≠ .Xb ns)(hq:∀kvs,d ≠ .Vi kvs)(hk:PySem.W.kitOne X.K (RP d) (.type T)=some k):
  gn X (.builtin "isinstance") (fun xs H Q=>∃x F,xs=[x,.ty T]/\U8 F H/\Rep X.K F x d/\Q (.bl k) H):=by
 intro pins s σ H xs us Q I r h
 obtain⟨v,F,rfl,sub,rv,q⟩:=h
 obtain⟨u,w,rfl,ru,WH⟩:=z6 r
 cases(show w=Value.type T from WH)
 exact GV I ru (Sk sub rv hd hx hq) hk fun tk=>⟨.bl k,H,I.tok tk,rfl,q⟩
def qX(t:At X N sc)(bl:m8 X sc x (.builtin "isinstance"))(bt:m8 X sc y (.type T))(ha:U1 X ρ a d)(hk:PySem.W.kitOne X.K (RP d) (.type T)=some k)(hd:∀ns,d ≠ .Xb ns:=by intro _ h;cases h)(hpa:Pl a:=by intro _ _;rfl)(hx:∀C ea,d ≠ .exc C/\d ≠ .Yu C ea/\d ≠ .adr C:=by intro _ _;exact And.intro (fun h=>by cases h) (And.intro (fun h=>by cases h) (fun h=>by cases h)))(hq:∀kvs,d ≠ .Vi kvs:=by intro _ h;cases h):
  U1 X ρ (.Call (.Name x p) [a,.Name y py] [] pos) (.bl k):=
 .of (jX (OR hx hd hq hk) (dj t bl.g) bl.m bl.v (bw aN (bw (A3 (v:=.ty T) (dj t bt.g) bt.m bt.v rfl bt.n bt.d) cK) (hpa _ _)) bl.n bl.d (hpa _ _) rfl) fun B F H σ Q k' q=>
  ha B F H σ _ k' fun v F' H' x' r=>⟨v,F',rfl,x'.sub,r,q _ F' H' x' (.bl k)⟩
def U2.bls{K:bW}:∀{bs:List Bool} {vs:df},U2 K F vs (bs.map D.bl)->vs=bs.map V.bl
 |[],_,h=>by cases h;rfl
 |b::bs,_,h=>by
  cases h with
  |cons r t=>cases r;rw[aT,U2.bls t]
def Dd:∀{bs:List Bool} {us:fR},Vals (bs.map V.bl) us->LSm.BoolsAre us bs
 |[],_,r=>by cases r;exact .nil
 |b::bs,_,r=>by
  rw[aT] at r
  cases r with
  |cons r1 r2=>
   cases(show _=Value.bool b from r1)
   exact .cons b (Dd r2)
def Ha{X:Cx}(hc:X.calm=true):gn X (.builtin "all") (fun xs H Q=>∃(l:Addr) (bs:List Bool),xs=[.ref l]/\VE X.K H l (bs.map V.bl)/\Q (.bl (bs.all id)) H):=by
 intro pins s σ H xs us Q I r h
 obtain⟨l,bs,rfl,sl,q⟩:=h
 obtain⟨u,rfl,ru⟩:=iW r
 cases(show u=Value.ref l from ru)
 obtain⟨vs,rv,pl,hz⟩:=I.list sl
 have hb:=Dd rv
 have hl:=pl.isList
 have VH:l<s.heap.objs.size:=by obtain⟨_,e,_⟩:=hl;exact aQ e
 refine call_all_walk (PF hl ?_)
 refine⟨s.heap.objs.size,[s.heap.objs.size,l],[s.heap.objs.size],vs.toArray.size,_,_,fun i=>(bs[i]?).getD true,rfl,Walks.list (A:=X.A.in1) (I.ok.hd hc) _ l (bi VH) vs.toArray,
  ⟨⟨_,Heap.get?_push_size _ rfl,rfl,rfl⟩,hl.push _⟩,fun i v s' Q' E' hP hQ=>?_,fun h' tk hk=>?_⟩
 ·obtain⟨b,e,rfl⟩:=hb.get i v (by simpa using hP)
  simp only[e,Option.getD_some] at hQ
  exact eJ hQ
 ·have e:((List.range vs.toArray.size).all fun i=>(bs[i]?).getD true)=bs.all id:=by
   rw[az,hb.length];exact LSm.range_all bs
  rw[e]
  exact⟨.bl _,H,I.kept (LSm.kept_iter hk),rfl,q⟩
def Bv(t:At X N sc){bs:List Bool}(bl:m8 X sc x (.builtin "all"))(ha:W8 X ρ e true (bs.map D.bl))(Wq:Pl e:=by intro _ _;rfl):U1 X ρ (.Call (.Name x p) [e] [] pos) (.bl (bs.all id)):=
 .of (jX (Ha t.calm) (dj t bl.g) bl.m bl.v (bw aN cK (Wq _ _)) bl.n bl.d (Wq _ _) rfl) fun B F H σ Q k' q=>ha B F H σ _ k' fun l vs F' H' x' sl rl=>by
  have e:=rl.bls
  subst e
  exact⟨l,bs,rfl,sl,q _ F' H' x' (.bl _)⟩
def MV(K:bW)(C:aU->D->Prop):Sp:=fun vs H Q _=>∃F ds d,U8 F H/\U2 K F vs ds/\C ds d/\∀v F' H',Ext ⟨F,H⟩ F' H'->Rep K F' v d->Q v H'
def Callee(X:Cx)(x:Str)(C:aU->D->Prop):Prop:=∃(f:Addr) (fd:FuncData) (ps:ce) (k:Nat),dO X.prog X.w X.K X.mg X.base gN k f fd ps (MV X.K C)/\Vz k X.A/\X.mg x=some (.ref f)/\PySem.W.keepIn X.K (.ref f)=true/\Binds X.K fd ps []
def a9(t:At X N sc){C:aU->D->Prop}(h:Callee X x C)(ha:Vw X ρ (e::es) ds)(hC:C ds d)(hg:ve sc x:=by rfl)(VW:qA x:=by rfl):U1 X ρ (.Call (.Name x p) (e::es) [] pos) d:=by
 obtain⟨f,fd,ps,k,F,hr,hm,hk,hb⟩:=h
 have pz:fW gN X E0:=oN
 refine .of (iR F hr (dj t hg) hm hk hb .nil pz oO VW (ha.1.1 _ _) (XR.any ha.1.2)) fun B F' H σ Q k' q=>ha.2 B F' H σ _ k' fun vs F1 H1 x1 r1=>?_
 refine⟨F1,ds,d,x1.sub,by rw[aP];exact r1,hC,fun v F2 H2 x2 r2=>q v F2 H2 (x1.t x2) r2⟩
def dE(sc:Scope):Env:={ scope:=sc,locals:=0,globals:=0,cells:=[],qual := "",func:=none,code:=.none,frame:=none,builtins:=0 }
def rP{env env':Env}(h:env.scope=env'.scope):swappedStores ts v env=swappedStores ts v env':=by
 unfold swappedStores Env.blockKind Env.kindOf
 rw[h]
variable {st:Stmt}{bF:List Stmt}
def bR:U4 X ρ [] (.nx ρ):=.of Lv fun B F H σ E k q=>q F H σ k (.refl _)
def ax(h1:Vy X ρ st (.nx ρ'))(h2:U4 X ρ' bF o):U4 X ρ (st::bF) o:=
 .of (fE uQ cQ) fun B F H σ E k q=>h1 B F H σ _ k fun F1 H1 σ1 k1 s1=>h2 B F1 H1 σ1 E k1 (q.later s1)
def gB(h1:Vy X ρ st (.rt d)):U4 X ρ (st::bF) (.rt d):=
 .of (fE uQ cQ) fun B F H σ E k q=>h1 B F H σ _ k q
def aC(h1:Vy X ρ st o):U4 X ρ [st] o:=.of (qc uQ) fun B F H σ E k q=>h1 B F H σ E k q
def gJ{ρ:cn}(i:Nat)(hi:ρ[i]?=some (.own xs))(h:U4 X (ρ.set i (.val (.lst xs))) bF o):U4 X ρ bF o:=fun B F H σ E k q=>by
 obtain⟨F',sf,k'⟩:=k.YN hi
 exact h B F' H σ E k' (q.later sf)
def bp(h:U1 X ρ e d):Vy X ρ (.Return (some e) pos) (.rt d):=
 .of (wH aN) fun B F H σ E k q=>h B F H σ _ k fun v F' H' x r=>q v F' H' (k.toExt.trans x) r
def e9(hc:U3 X ρ c true)(h:U4 X ρ ss o):Vy X ρ (.If c ss us pos) o:=
 .of (uH kz cQ cQ) fun B F H σ E k q=>hc B F H σ _ k fun F1 H1 x1=>by rw[au rfl];exact h B F1 H1 σ E (k.ext x1) (q.later x1.sf)
def cA(hc:U3 X ρ c false)(h:U4 X ρ us o):Vy X ρ (.If c ss us pos) o:=
 .of (uH kz cQ cQ) fun B F H σ E k q=>hc B F H σ _ k fun F1 H1 x1=>by rw[aq av];exact h B F1 H1 σ E (k.ext x1) (q.later x1.sf)
def GZ{x:Str}[XI X]:X.fn x=true\/X.env.scope.names.lookup x=some .local:=.inl (XI.fn x)
def At.loc{x:Str}(t:At X N sc)(hx:mW sc x=true):Pw X.env.scope x:=by rw[t.eS];exact OC hx
def At.ix{i:Nat}(t:At X N sc)(h:N[i]?=some x):X.N[i]?=some x:=by rw[t.eN];exact h
def bS{pos:Pos}[XI X](t:At X N sc)(i:Nat)(h:U1 X ρ e d)(hi:N[i]?=some x:=by rfl)(hx:mW sc x=true:=by rfl)(hs:swapsWith e (some (.Name x pos')) pos.line X.env=pure false:=by rfl):
  Vy X ρ (.Assign [.Name x pos'] e pos) (.nx (ρ.set i (.val d))):=
 .of (oK (i:=i) t.nd (t.ix hi) (t.loc hx) aN hs GZ) fun B F H σ E k q=>h B F H σ _ k fun v F' H' x' r=>q F' H' _ ((k.ext x').Vx i r) x'.sf
def jV{pos:Pos}[XI X](t:At X N sc)(i:Nat)(h:U9 X ρ e xs)(hi:N[i]?=some x:=by rfl)(hx:mW sc x=true:=by rfl)(hs:swapsWith e (some (.Name x pos')) pos.line X.env=pure false:=by rfl):
  Vy X ρ (.Assign [.Name x pos'] e pos) (.nx (ρ.set i (.own xs))):=
 .of (oK (i:=i) t.nd (t.ix hi) (t.loc hx) aN hs GZ) fun B F H σ E k q=>h B F H σ _ k fun p vs F' H' x' h0 hp hf r=>
  q F' H' _ ((k.ext x').YA i hp hf (k.sh.free h0) (k.noOwn h0) r) x'.sf
def Ih{ρ:cn}[XI X](t:At X N sc)(i:Nat){g:Int->Int->Int}{C:Int->Int->Prop}(ho:lP X (inplaceOp op) (rI C fun i j=>.int (g i j)))(hr:ρ[i]?=some (.val (.int n)))(h:U1 X ρ e (.int m))(hc:C n m)(hi:N[i]?=some x:=by rfl)(hx:mW sc x=true:=by rfl):
  Vy X ρ (.AugAssign (.Name x pos') op e pos) (.nx (ρ.set i (.val (.int (g n m))))):=
 .of (IF (i:=i) t.nd (t.ix hi) (t.loc hx) aN (show Rx X op (rI C fun i j=>.int (g i j)) from ho) GZ) fun B F H σ E k q=>by
  obtain⟨v,h1,h2⟩:=k.vals i _ hr
  cases h2
  exact⟨_,h1,h B F H σ _ k fun v F' H' x' r=>by
   cases r
   exact⟨n,m,rfl,rfl,hc,q F' H' _ ((k.ext x').Vx i (.int _)) x'.sf⟩⟩
def CW:lP X (inplaceOp .Add) (rI (fun _ _=>True) fun i j=>.int (i+j)):=QO fun _ _ _ _ _ _ _ _ q=>iadd_int q
def Ju:lP X (inplaceOp .Sub) (rI (fun _ _=>True) fun i j=>.int (i-j)):=QO fun _ _ _ _ _ _ _ _ q=>isub_int q
def Ii{ρ:cn}[XI X](t:At X N sc)(i:Nat)(hr:ρ[i]?=some (.val (.int n)))(h:U1 X ρ e (.int m))(hi:N[i]?=some x:=by rfl)(hx:mW sc x=true:=by rfl):
  Vy X ρ (.AugAssign (.Name x pos') .Add e pos) (.nx (ρ.set i (.val (.int (n+m))))):=Ih t i CW hr h trivial hi hx
def Ct{ρ:cn}[XI X](t:At X N sc)(i:Nat)(hr:ρ[i]?=some (.val (.int n)))(h:U1 X ρ e (.int m))(hi:N[i]?=some x:=by rfl)(hx:mW sc x=true:=by rfl):
  Vy X ρ (.AugAssign (.Name x pos') .Sub e pos) (.nx (ρ.set i (.val (.int (n-m))))):=Ih t i Ju hr h trivial hi hx
def QA{pos:Pos}(t:At X N sc)(i j:Nat)(h1:U1 X ρ a u)(h2:U1 X ρ b v)(hij:i≠j)(hi:N[i]?=some x:=by rfl)(hj:N[j]?=some y:=by rfl)(hx:sc.names.lookup x=some .local:=by rfl)(hy:sc.names.lookup y=some .local:=by rfl)(hw:swappedStores [.Tuple [.Name x px,.Name y py] kt pt] (.Tuple [a,b] k2 Zf) (dE sc)=pure (some [x,y]):=by rfl)(hs:swapsWithSole [.Tuple [.Name x px,.Name y py] kt pt] (.Tuple [a,b] k2 Zf) pos.line X.env=pure false:=by rfl)(Zi:Ci a [b] X.env:=by rfl)(YI:Ci b [] X.env:=by rfl):
  Vy X ρ (.Assign [.Tuple [.Name x px,.Name y py] kt pt] (.Tuple [a,b] k2 Zf) pos) (.nx ((ρ.set i (.val u)).set j (.val v))):=
 .of (IE (i:=i) (j:=j) t.calm t.nd (t.ix hi) (t.ix hj) hij (by rw[t.eS];exact hx) (by rw[t.eS];exact hy) (bw aN (bw aN cK YI) Zi) ((rP (show X.env.scope=(dE sc).scope from t.eS)).trans hw) hs) fun B F H σ E k q=>
  h1 B F H σ _ k fun v1 F1 H1 x1 r1=>h2 B F1 H1 σ _ (k.ext x1) fun v2 F2 H2 x2 r2=>⟨v1,v2,rfl,q F2 H2 _ (((k.ext (x1.t x2)).Vx i (r1.mono x2.sf)).Vx j r2) (x1.t x2).sf⟩
def bf[XI X](t:At X N sc)(i:Nat)(hi:N[i]?=some x:=by rfl)(hx:mW sc x=true:=by rfl):Xy X ρ (.Name x pos) d (ρ.set i (.val d)):=
 .of (vp (i:=i) t.nd (t.ix hi) (t.loc hx) GZ) fun B F H σ v Q k r q=>q F H _ (k.Vx i r) (.refl _)
def jG[XI X](t:At X N sc)(i j:Nat)(hi:N[i]?=some x:=by rfl)(hj:N[j]?=some y:=by rfl)(hx:mW sc x=true:=by rfl)(hy:mW sc y=true:=by rfl):
  Xy X ρ (.Tuple [.Name x px,.Name y py] kt pos) (.tup [u,v]) ((ρ.set i (.val u)).set j (.val v)):=
 .of (IL t.calm (wP (vp (i:=i) t.nd (t.ix hi) (t.loc hx) GZ) (wP (vp (i:=j) t.nd (t.ix hj) (t.loc hy) GZ) Fz))) fun B F H σ w Q k r q=>by
  cases r with
  |tup h rl=>
   obtain⟨v1,v2,rfl,r1,r2⟩:=rl.two
   exact⟨_,_,rfl,VV.of (k.sub _ _ h),rfl,_,_,rfl,_,_,rfl,rfl,q F H _ ((k.Vx i r1).Vx j r2) (.refl _)⟩
def cH(t:At X N sc)(i:Nat)(hi:N[i]?=some x:=by rfl)(hx:sc.names.lookup x=some .local:=by rfl):Xx X ρ (.Name x pos) d (ρ.set i (.val d)):=
 .of (vp (i:=i) t.nd (t.ix hi) (by rw[t.eS];exact .inl hx) (by rw[t.eS];exact .inr hx)) fun B F H σ v Q k r q=>q _ (k.Vx i r) fun p h=>h.Vx i _ d
def uF{pos:Pos}(t:At X N sc)(h:U1 X ρ e d)(hg:Xy X ρ tg d ρ')(hs:swapsWithSole [tg] e pos.line X.env=pure false:=by rfl)(hw:swappedStores [tg] e (dE sc)=pure none:=by rfl)(h1:(assignEach [tg] X.env).map (·.2)=[assign tg X.env]:=by rfl):Vy X ρ (.Assign [tg] e pos) (.nx ρ'):=
 .of (DW aN D1 hs ((rP (show X.env.scope=(dE sc).scope from t.eS)).trans hw) h1) fun B F H σ E k q=>h B F H σ _ k fun v F1 H1 x1 r1=>hg B F1 H1 σ v _ (k.ext x1) r1 fun F2 H2 σ2 k2 s2=>q F2 H2 σ2 k2 (x1.sf.trans s2)
def oP{i:Nat}{Q:VK}{ρ:cn}(t:At X N sc)(hr:ρ[i]?=some (.own xs))(hN:N[i]?=some x)(hv:dW sc x=true)(hx:cm x=true)(k:Ok X.K B F H σ ρ)(h:∀p vs,σ[i]?=some (some (.ref p))->H p=some (.lst vs)->U2 X.K F vs xs->Q (.ref p) H):wE X (.Name x pos) σ H Q:=.mk fun pins s I=>by
 obtain⟨p,vs,h1,h2,h3,h4,h5⟩:=k.VT i xs hr
 exact tQ t hN hv hx pins s σ H Q I ⟨_,h1,h p vs h1 h2 h5⟩
def i7{apos U7:Pos}{ρ:cn}{pos:Pos}(t:At X N sc)(i:Nat)(hr:ρ[i]?=some (.own xs))(h:U1 X ρ e d)(hz:xs.length<sizeLine)(hN:N[i]?=some y:=by rfl)(hv:dW sc y=true:=by rfl)(hx:cm y=true:=by rfl)(hs:Ci e [] X.env:=by rfl)(Vk:(apos.endLine==U7.line)=true:=by rfl)(WZ:rM U7 [] X.env:=by rfl)(Wh:Cj U7 [e] X.env:=by rfl)(Xl:swapsWith (.Call (.Attribute (.Name y p) "append" apos) [e] [] U7) none pos.line X.env=pure false:=by rfl):
  Vy X ρ (.Expr (.Call (.Attribute (.Name y p) "append" apos) [e] [] U7) pos) (.nx (ρ.set i (.own (xs++[d])))):=
 .of (gZ (uI bV jJ jI l8 aN (bw aN cK hs) rfl Wh Vk hs WZ) Xl) fun B F H σ E k q=>
  oP t hr hN hv hx k fun l vs h1 h2 h3=>⟨.inl ⟨rfl,_,VE.of h2⟩,h B F H σ _ k fun v F' H' x' r=>by
   have k':=k.ext x'
   have X4:=x'.sh _ _ h2
   refine⟨l,vs,v,rfl,rfl,X4,by rw[h3.length];exact hz,?_⟩
   exact q F' _ _ (k'.W3 (vs:=vs) hr h1 ((h3.mono x'.sf).append (.cons r .nil))) x'.sf⟩
def MX{apos U7:Pos}{ρ:cn}{pos:Pos}(t:At X N sc)(i:Nat)(hr:ρ[i]?=some (.own xs))(hz:xs≠[])(hN:N[i]?=some y:=by rfl)(hv:dW sc y=true:=by rfl)(hx:cm y=true:=by rfl)(Vk:(apos.endLine==U7.line)=true:=by rfl)(Xl:swapsWith (.Call (.Attribute (.Name y p) "pop" apos) [] [] U7) none pos.line X.env=pure false:=by rfl):
  Vy X ρ (.Expr (.Call (.Attribute (.Name y p) "pop" apos) [] [] U7) pos) (.nx (ρ.set i (.own xs.dropLast))):=
 .of (gZ (wR bV mr mq A6 aN rfl Vk) Xl) fun B F H σ E k q=>
  oP t hr hN hv hx k fun l vs h1 h2 h3=>⟨.inl ⟨rfl,_,VE.of h2⟩,by
   have hl:=h3.length
   have Xi:vs≠[]:=fun z=>hz (aB (by rw[<-hl,z];rfl))
   obtain⟨w,hw⟩:∃w,vs[vs.length-1]?=some w:=⟨vs[vs.length-1]'(by have:=List.length_pos_iff.mpr Xi;lia),List.getElem?_eq_getElem _⟩
   exact⟨l,vs,w,rfl,rfl,h2,hw,q F _ _ (k.W3 (vs:=vs) hr h1 h3.dropLast) (.refl _)⟩⟩
def Mp{ρ:cn}(t:At X N sc)(i:Nat)(hr:ρ[i]?=some (.own xs))(h:U1 X ρ b (.int n))(hj:FS xs.length n=some j)(hN:N[i]?=some y:=by rfl)(hv:dW sc y=true:=by rfl)(hx:cm y=true:=by rfl)(ha:∀v,assign (.Subscript (.Name y p) b pos) X.env v=(do
   let ov <-holding [v] (eval (.Name y p) X.env)
   let iv <-holding [v,ov] (eval b X.env)
   standAt pos
   holding [v,ov,iv] (setItem ov iv v)
   release [v,ov,iv] []):=by intro _;rfl):Xy X ρ (.Subscript (.Name y p) b pos) d (ρ.set i (.own (xs.set j d))):=
 .of (IM aN aN Cs ha) fun B F H σ v Q k r q=>
  oP t hr hN hv hx k fun l vs h1 h2 h3=>h B F H σ _ k fun w F' H' x' WH=>by
   cases WH
   have X4:=x'.sh _ _ h2
   refine⟨l,vs,n,j,rfl,rfl,X4,by rw[h3.length];exact hj,?_⟩
   exact q F' _ _ ((k.ext x').W3 (vs:=vs) hr h1 ((h3.mono x'.sf).set (r.mono x'.sf) j)) x'.sf
def G1:Ry X (QF X.K):=by
 intro pins s σ H o i ov iv Q I ro ri h
 obtain⟨p,xs,n,z,rfl,rfl,hq,he,q⟩:=h
 cases ro
 obtain⟨t,rfl⟩:=ri
 obtain⟨its,r,pl,hz⟩:=I.list hq
 obtain⟨j,h1,h2,h3,h4,h5⟩:=v6 he
 obtain⟨w,ew,WH⟩:=r.get h2
 have hl:=r.length
 have hn:=oU
 have fin:EP X pins σ Q w s:=⟨z,H,I,WH,q⟩
 by_cases h0:0<=n
 ·have hj:n.toNat=j:=by
   rw[R7 h0 h5] at h1
   exact bx h1
  exact wpAny_getItem_list pl.isList h0 (by lia) (by rw[hj];simpa using ew) fin
 ·have hj:(n+(its.toArray.size:Int)).toNat=j:=by
   rw[PH (by lia) h4] at h1
   rw[az,<-hl]
   exact bx h1
  exact wpAny_getItem_list_neg pl.isList (by lia) (by rw[az]<;>lia) (by lia) (by rw[hj];simpa using ew) fin
def GH{j:Nat}{ρ:cn}(t:At X N sc)(i:Nat){g:Int->Int->Int}{C:Int->Int->Prop}(ho:lP X (inplaceOp op) (rI C fun i j=>.int (g i j)))(hr:ρ[i]?=some (.own xs))(hb:U1 X ρ b (.int n))(hj:FS xs.length n=some j)(hu:xs[j]?=some (.int u))(he:U1 X ρ e (.int m))(hc:C u m)(hN:N[i]?=some y:=by rfl)(hv:dW sc y=true:=by rfl)(hx:cm y=true:=by rfl)(ha:∀ov iv new,augStore b ov iv new=(do holding [new,ov,iv] (setItem ov iv new);release [new,ov,iv] [];pure .next):=by intros;rfl):
  Vy X ρ (.AugAssign (.Subscript (.Name y p) b tpos) op e pos) (.nx (ρ.set i (.own (xs.set j (.int (g u m)))))):=
 .of (Lx aN aN G1 aN (show Rx X op (rI C fun i j=>.int (g i j)) from ho) Cs ha) fun B F H σ E k q=>
  oP t hr hN hv hx k fun l vs h1 h2 h3=>hb B F H σ _ k fun w F1 H1 x1 WH=>by
   cases WH
   have h21:=x1.sh _ _ h2
   have hat:k7 xs n=some (.int u):=by unfold k7;rw[hj];exact hu
   obtain⟨w,hw1,hw2⟩:=(h3.mono x1.sf).at hat
   cases hw2
   refine⟨l,vs,n,_,rfl,rfl,VE.of h21,hw1,he B F1 H1 σ _ (k.ext x1) fun w F2 H2 x2 rw2=>?_⟩
   cases rw2
   have h22:=x2.sh _ _ h21
   refine⟨u,m,rfl,rfl,hc,l,vs,n,j,rfl,rfl,h22,by rw[h3.length];exact hj,?_⟩
   exact q F2 _ _ ((k.ext (x1.t x2)).W3 (vs:=vs) hr h1 (((h3.mono x1.sf).mono x2.sf).set (.int _) j)) (x1.t x2).sf
end
structure wI(X:Cx)(tg e:Expr)(σ:St)(H:Hp)(R:It->Hp->Prop):Prop where
 go:∀(pins:gc) (s:Shared),Inv X pins σ H s->dZ X (eval e X.env) (fun v s1=>dZ X (pyIter v) (RZ X pins σ tg R) X.xe s1) X.xe s
instance wI_f {X:Cx} {tg e:Expr} {σ:St} {H:Hp} {R:It->Hp->Prop}:CoeFun (wI X tg e σ H R) (fun _=>∀(pins:gc) (s:Shared),Inv X pins σ H s->dZ X (eval e X.env) (fun v s1=>dZ X (pyIter v) (RZ X pins σ tg R) X.xe s1) X.xe s):=⟨wI.go⟩
def QK:PI X tg e (wI X tg e):=fun pins s _ _ _ I h=>h pins s I
def xP(K:bW)(J:It)(F:Hp)(ds:aU):Prop:=∀(i:Nat) (F2 H2:Hp),U8 F F2->U8 F2 H2 ->
 (∀d,ds[i]?=some d->J.go i H2/\∀x H',J.yld i H2 x H'->∃F',Ext ⟨F2,H2⟩ F' H'/\Rep K F' x d)/\(ds.length<=i->J.stop i H2)
def YX(X:Cx)(ρ:cn)(tg e:Expr)(ds:aU):Prop:=∀(B:B0) (F H:Hp) (σ:St) (R:It->Hp->Prop),Ok X.K B F H σ ρ ->
 (∀J F' H',Ext ⟨F,H⟩ F' H'->xP X.K J F' ds->R J H')->wI X tg e σ H R
def YX.of(h:PI X tg e t)(r:∀(B:B0) (F H:Hp) (σ:St) (R:It->Hp->Prop),Ok X.K B F H σ ρ->(∀J F' H',Ext ⟨F,H⟩ F' H'->xP X.K J F' ds->R J H')->t σ H R):YX X ρ tg e ds:=
 fun B F H σ R k q=>.mk fun pins s I=>h pins s σ H R I (r B F H σ R k q)
def LV{K:bW}(hs:∀H,U8 F H->VE K H l vs)(r:U2 K F vs ds):xP K (TX K l) F ds:=fun i F2 H2 s1 s2=>
 ⟨fun d hd=>by
  obtain⟨v,hv,rv⟩:=r.get hd
  have sq:=hs H2 (s1.trans s2)
  refine⟨⟨vs,v,sq,hv⟩,fun x H' y=>?_⟩
  obtain⟨rfl,y⟩:=y
  have e:=y vs sq
  rw[hv] at e;cases e
  exact⟨F2,.refl s2,rv.mono s1⟩,fun h=>⟨vs,hs H2 (s1.trans s2),by rw[r.length];exact h⟩⟩
def Js{K:bW}(hs:∀H,U8 F H->VV K H l vs)(r:U2 K F vs ds):xP K (TV K l) F ds:=fun i F2 H2 s1 s2=>
 ⟨fun d hd=>by
  obtain⟨v,hv,rv⟩:=r.get hd
  have sq:=hs H2 (s1.trans s2)
  refine⟨⟨vs,v,sq,hv⟩,fun x H' y=>?_⟩
  obtain⟨rfl,y⟩:=y
  have e:=y vs sq
  rw[hv] at e;cases e
  exact⟨F2,.refl s2,rv.mono s1⟩,fun h=>⟨vs,hs H2 (s1.trans s2),by rw[r.length];exact h⟩⟩
def Ex(h:U1 X ρ e (.lst ds)):YX X ρ tg e ds:=.of (Fy aN) fun B F H σ R k q=>h B F H σ _ k fun v F' H' x r=>by
 cases r with
 |lst hf rl=>exact⟨_,rfl,⟨_,VE.of (x.sub _ _ hf)⟩,q _ F' H' x (LV (fun H2 s2=>VE.of (s2 _ _ hf)) rl)⟩
def xz(h:U1 X ρ e (.tup ds)):YX X ρ tg e ds:=.of (IJ aN) fun B F H σ R k q=>h B F H σ _ k fun v F' H' x r=>by
 cases r with
 |tup hf rl=>exact⟨_,rfl,⟨_,VV.of (x.sub _ _ hf)⟩,q _ F' H' x (Js (fun H2 s2=>VV.of (s2 _ _ hf)) rl)⟩
def dH(lo:Int)(n:Nat):aU:=(List.range n).map fun(i:Nat)=>D.int (lo+(i:Int))
def Jt{K:bW}{lo:Int}:xP K (R1 lo n) F (dH lo n):=fun i F2 H2 s1 s2=>
 ⟨fun d hd=>by
  unfold dH at hd
  rw[List.getElem?_map] at hd
  have hi:i<n:=by
   by_cases h:i<n
   ·exact h
   ·rw[List.getElem?_eq_none (by simpa using h)] at hd;cases hd
  rw[List.getElem?_range hi] at hd
  cases hd
  refine⟨hi,fun x H' y=>?_⟩
  obtain⟨rfl,rfl⟩:=y
  exact⟨F2,.refl s2,.int _⟩,fun h=>by
   have h':n<=i:=by simpa [dH] using h
   exact h'⟩
def fj(t:At X N sc)(bl:m8 X sc "range" (.type "range"))(h:U1 X ρ a (.int j))(h1 : -(2 ^ 62)<=j)(h2:j<2 ^ 62)(hs:Pl a:=by intro _ _;rfl):YX X ρ tg (.Call (.Name "range" p) [a] [] pos) (dH 0 j.toNat):=
 .of (An (dj t bl.g) bl.m (bw aN cK (hs _ _)) (hs _ _)) fun B F H σ R k q=>h B F H σ _ k fun v F' H' x r=>by
  cases r
  exact⟨j,rfl,h1,h2,q _ F' H' x Jt⟩
inductive Vt(X:Cx)(tg:Expr)(body:List Stmt):aU->cn->Out->Prop where
 |nil {ρ:cn}:Vt X tg body [] ρ (.nx ρ)
 |cons {d:D} {ds:aU} {ρ ρ1 ρ2:cn} {o:Out}:Xy X ρ tg d ρ1->U4 X ρ1 body (.nx ρ2)->Vt X tg body ds ρ2 o->Vt X tg body (d::ds) ρ o
 |ret {d r:D} {ds:aU} {ρ ρ1:cn}:Xy X ρ tg d ρ1->U4 X ρ1 body (.rt r)->Vt X tg body (d::ds) ρ (.rt r)
def iC{i:Nat}{α:Type}{xs ys:List α}{x:α}(h:xs.drop i=x::ys):xs[i]?=some x/\xs.drop (i+1)=ys/\i<xs.length:=by
 have hi:i<xs.length:=by
  by_cases q:i<xs.length
  ·exact q
  ·rw[lO (by lia)] at h;cases h
 have e:=bY hi
 rw[h] at e
 injection e with e1 e2
 exact⟨by rw[List.getElem?_eq_getElem hi,e1],e2.symm,hi⟩
def i6(t:At X N sc)(hi:YX X ρ tg e ds)(h:Vt X tg body ds ρ o)(hs:∀x,foldedSetIterable e X.env x=pure x:=by intro _;rfl):Vy X ρ (.For tg e body [] pos) o:=
 .of (DU t.pass t.calm QK D1 cQ hs) fun B F H σ E k q=>hi B F H σ _ k fun J F1 H1 x1 J1=>by
  refine⟨fun i m σ H=>∃ρ' F',Ok X.K B F' H σ ρ'/\U8 F1 F'/\Vt X tg body (ds.drop i) ρ' o/\m=ds.length-i,⟨ds.length,ρ,F1,k.ext x1,.refl _,by simpa using h,by simp⟩,?_⟩
  rintro i m σ H ⟨ρ',F',k',sf,run,rfl⟩
  have q':Xe X.K B F' E o:=q.later (x1.sf.trans sf)
  have J2:=J1 i F' H sf k'.sub
  generalize e1:ds.drop i=bF at run
  cases run with
  |nil=>
   have hl:ds.length<=i:=by
    have:=bv List.length e1
    rw[cv,gP] at this
    lia
   exact .inl ⟨J2.2 hl,q' F' H σ k' (.refl _)⟩
  |@cons d0 ds0 ρ0 ρ1 ρ2 o0 g b r=>
   obtain⟨hd,hr,VH⟩:=iC e1
   obtain⟨go,yl⟩:=J2.1 _ hd
   refine .inr ⟨go,fun σ' H'=>∃WC,Ok X.K B WC H' σ' ρ2/\U8 F1 WC,fun σ' H' ⟨WC,YH,XY⟩=>⟨ds.length-(i+1),by lia,_,WC,YH,XY,by rw[hr];exact r,rfl⟩,fun x H' y=>?_⟩
   obtain⟨F2,x2,rx⟩:=yl x H' y
   refine g B F2 H' σ x _ (k'.ext x2) rx fun F3 H3 σ3 k3 s3=>b B F3 H3 σ3 _ k3 fun F4 H4 σ4 k4 s4=>⟨F4,k4,sf.trans (x2.sf.trans (s3.trans s4))⟩
  |ret g b=>
   obtain⟨hd,hr,VH⟩:=iC e1
   obtain⟨go,yl⟩:=J2.1 _ hd
   refine .inr ⟨go,fun _ _=>False,fun σ' H' z=>z.elim,fun x H' y=>?_⟩
   obtain⟨F2,x2,rx⟩:=yl x H' y
   exact g B F2 H' σ x _ (k'.ext x2) rx fun F3 H3 σ3 k3 s3=>b B F3 H3 σ3 _ k3 q
def Vt.of(body:List Stmt)(R:Nat->cn):∀(ds:aU) (i:Nat),(∀(j:Nat) d,ds[j]?=some d->∃ρ1,Xy X (R (i+j)) tg d ρ1/\U4 X ρ1 body (.nx (R (i+j+1))))->Vt X tg body ds (R i) (.nx (R (i+ds.length)))
 |[],i,_=>.nil
 |d::ds,i,h=>by
  obtain⟨ρ1,h1,h2⟩:=h 0 d rfl
  refine .cons h1 h2 ?_
  have r:=Vt.of body R ds (i+1) fun j e he=>by
   have:=h (j+1) e (by simpa using he)
   rw[show i+1+j=i+(j+1) by lia]
   exact this
  rw[show i+(d::ds).length=i+1+ds.length by simp;lia]
  exact r
inductive WU(X:Cx)(c:Expr)(body:List Stmt):Nat->cn->Out->Prop where
 |stop {ρ:cn}:U3 X ρ c false->WU X c body 0 ρ (.nx ρ)
 |step {n:Nat} {ρ ρ1:cn} {o:Out}:U3 X ρ c true->U4 X ρ body (.nx ρ1)->WU X c body n ρ1 o->WU X c body (n+1) ρ o
 |ret {ρ:cn} {r:D}:U3 X ρ c true->U4 X ρ body (.rt r)->WU X c body 0 ρ (.rt r)
def sw(t:At X N sc)(h:∃n,WU X c body n ρ o):Vy X ρ (.While c body [] pos) o:=
 .of (wF t.pass kz cQ) fun B F H σ E k q=>by
  obtain⟨n,h⟩:=h
  refine⟨fun m σ H=>∃ρ' F',Ok X.K B F' H σ ρ'/\U8 F F'/\WU X c body m ρ' o,⟨n,ρ,F,k,.refl _,h⟩,?_⟩
  rintro m σ H ⟨ρ',F',k',sf,run⟩
  cases run with
  |stop hc=>
   refine hc B F' H σ _ k' fun F1 H1 x1=>?_
   rw[aq av]
   exact q F1 H1 σ (k'.ext x1) (sf.trans x1.sf)
  |@step n0 ρ0 ρ1 o0 hc hb r=>
   refine hc B F' H σ _ k' fun F1 H1 x1=>?_
   rw[au rfl]
   exact⟨fun σ' H'=>∃WC,Ok X.K B WC H' σ' ρ1/\U8 F WC,fun σ' H' ⟨WC,YH,XY⟩=>⟨_,eL _,_,WC,YH,XY,r⟩,hb B F1 H1 σ _ (k'.ext x1) fun F2 H2 σ2 k2 s2=>⟨F2,k2,sf.trans (x1.sf.trans s2)⟩⟩
  |ret hc hb=>
   refine hc B F' H σ _ k' fun F1 H1 x1=>?_
   rw[au rfl]
   exact⟨fun _ _=>False,fun σ' H' z=>z.elim,hb B F1 H1 σ _ (k'.ext x1) q⟩
structure DefX(P:Program)(w:World)(K:bW)(mg:ux)(base:Heap)(k:Nat)(N:ce)(sc:Scope)(X:Cx):Prop where
 at':At X N sc
 prog:X.prog=P
 w':X.w=w
 k':X.K=K
 WD:X.mg=mg
 Yh:X.base=base
 room:Vz k X.A
 VI:XI X
 V3:X.stack=X.env::X.outer/\X.env.frame=some X.env.locals
def i8{K:bW}(sub:U8 F H)(r:U2 K F vs ds)(n:Nat):Ok K ⟨F,H⟩ F H (vs.map some++List.replicate n none) (ds.map Sl.val++List.replicate n Sl.un):=by
 have hl:=r.length
 have own:∀(i:Nat) xs,(ds.map Sl.val++List.replicate n Sl.un)[i]?≠some (.own xs):=fun i xs h=>by
  by_cases hi:i<ds.length
  ·rw[List.getElem?_append_left (by simpa using hi),List.getElem?_map] at h
   cases e:ds[i]? with
   |none=>rw[e] at h;cases h
   |some d=>rw[e] at h;cases h
  ·rw[List.getElem?_append_right (by simpa using hi),List.getElem?_replicate] at h
   split at h<;>cases h
 have ownD:∀(i:Nat) xs,(ds.map Sl.val++List.replicate n Sl.un)[i]?≠some (.Wb xs):=fun i xs h=>by
  by_cases hi:i<ds.length
  ·rw[List.getElem?_append_left (by simpa using hi),List.getElem?_map] at h
   cases e:ds[i]? with
   |none=>rw[e] at h;cases h
   |some d=>rw[e] at h;cases h
  ·rw[List.getElem?_append_right (by simpa using hi),List.getElem?_replicate] at h
   split at h<;>cases h
 refine⟨.refl sub,by simp[hl],fun i d h=>?_,fun i xs h=>absurd h (own i xs),fun i j xs ys a h=>absurd h (own i xs),⟨fun i kvs h=>absurd h (ownD i kvs),fun i j xs ys a h=>absurd h (ownD i xs)⟩⟩
 by_cases hi:i<ds.length
 ·rw[List.getElem?_append_left (by simpa using hi),List.getElem?_map] at h
  cases e:ds[i]? with
  |none=>rw[e] at h;cases h
  |some d'=>
   rw[e] at h;cases h
   obtain⟨v,hv,rv⟩:=r.get e
   exact⟨v,by rw[List.getElem?_append_left (by rw[ag];lia),List.getElem?_map,hv];rfl,rv⟩
 ·rw[List.getElem?_append_right (by simpa using hi),List.getElem?_replicate] at h
  split at h<;>cases h
def Q6{P:Program}(VO:P.given.tree=none){w:World}{K:bW}{mg:ux}{base:Heap}{x qual:Str}{st:Stmt}{f:Addr}{fd:FuncData}{N ps:ce}{k:Nat}{C:aU->D->Prop}(F:X8 K x qual st f fd)(S:aK N ps (ai st))(len:∀ds d,C ds d->ds.length=ps.length)(body:∀X,DefX P w K mg base k N (ai st) X->∀ds d,C ds d->U4 X (ds.map Sl.val++List.replicate (N.length-ds.length) Sl.un) (bE st) (.rt d)):dO P w K mg base gN (k+1) f fd ps (MV K C):=by
 refine F.ok S (fun vs H Q E h=>?_) (fun VG A outer s H vs Q E hr h=>?_)
 ·obtain⟨F',ds,d,sub,r,hC,q⟩:=h
  rw[r.length];exact len ds d hC
 ·obtain⟨F',ds,d,sub,r,hC,q⟩:=h
  refine⟨_,cQ,?_⟩
  have hx:DefX P w K mg base k N (ai st) (q8 gN P w K mg base N qual (ai st) f VG A outer s H E).XC:=
   ⟨⟨rfl,rfl,rfl,S.nd,rfl,hr.units,hr.WS,VO,⟨_,_,rfl,S.gen,S.co,rfl,rfl⟩⟩,rfl,rfl,rfl,rfl,rfl,hr,⟨fun _=>rfl⟩,rfl,rfl⟩
  have hb:=body _ hx ds d hC
  have hk:Ok K ⟨F',H⟩ F' H (start N vs) (ds.map Sl.val++List.replicate (N.length-ds.length) Sl.un):=by
   unfold start
   rw[r.length]
   exact i8 sub r _
  exact hb ⟨F',H⟩ F' H _ _ hk fun v F2 H2 x2 r2=>q v F2 H2 x2 r2
def DefX.callee{K:bW}{x:Str}{C:aU->D->Prop}(h:DefX P w K mg base k N sc X)(F:dO P w K mg base gN j f fd ps (MV K C))(hj:j<=k)(hm:mg x=some (.ref f))(hk:PySem.W.keepIn K (.ref f)=true)(hb:Binds K fd ps []):Callee X x C:=by
 obtain⟨h0,rfl,rfl,rfl,rfl,rfl,hr,_⟩:=h
 exact⟨f,fd,ps,j,F,hr.mono hj,hm,hk,hb⟩
def wy(scope sc:Scope):Scope:={ scope with names:=scope.names.map fun(n,k)=>if (k == .free&&sc.kind == .function&&sc.names.lookup n==some .cell) then (n,.cell) else (n,k) }
def AX{sc:Scope}{env:Env}(h:env.scope=sc):relabel scope env=wy scope sc:=by subst h;rfl
def BG(env:Env):∀(names:List (Str×NameKind)) (cs:List (Str×Addr)),(∀n,(n,NameKind.free)∈names->∃c,env.cells.lookup n=some c) ->
  (∀n c,cs.lookup n=some c->env.cells.lookup n=some c) ->
  ∃cl:List (Str×Addr),(forIn (m:=Sem) names cs fun(x:Str×NameKind) r=>if x.2 == .free then do let c <-cellOf env x.1;pure (ForInStep.yield ((x.1,c)::r)) else pure (ForInStep.yield r))=pure cl /\
   (∀n c,cl.lookup n=some c->env.cells.lookup n=some c)/\(∀n,(n,NameKind.free)∈names->∃c,cl.lookup n=some c)/\(∀n c,cs.lookup n=some c->∃c',cl.lookup n=some c')
 |[],cs,_,h=>⟨cs,rfl,h,(fun n hn=>nomatch hn),fun n c e=>⟨c,e⟩⟩
 |(n,k)::r,cs,hf,h=>by
  rw[xY]
  by_cases hk:k=.free
  ·subst hk
   obtain⟨c,hc⟩:=hf n bK
   have WO:cellOf env n=pure c:=by unfold cellOf;rw[hc]
   have h':∀m c',((n,c)::cs).lookup m=some c'->env.cells.lookup m=some c':=fun m c' e=>by
    rw[cO] at e
    cases hm:m==n with
    |true=>rw[hm] at e;cases e;rw[eq_of_beq hm];exact hc
    |false=>rw[hm] at e;exact h m c' e
   obtain⟨cl,e1,e2,e3,e4⟩:=BG env r ((n,c)::cs) (fun m hm=>hf m (aV _ hm)) h'
   refine⟨cl,?_,e2,fun m hm=>?_,fun m c' e=>?_⟩
   ·show((do let c <-cellOf env n;pure (ForInStep.yield ((n,c)::cs))) >>= _:Sem (List (Str×Addr)))=_
    rw[WO]
    exact e1
   ·rcases aM.mp hm with z | z
    ·cases z
     exact e4 n c (by rw[cO,KH])
    ·exact e3 m z
   ·by_cases hm:m=n
    ·subst hm;exact e4 m c (by rw[cO,KH])
    ·exact e4 m c' (by rw[cO,bn.mpr hm];exact e)
  ·have hb:(k==NameKind.free)=false:=bn.mpr hk
   obtain⟨cl,e1,e2,e3,e4⟩:=BG env r cs (fun m hm=>hf m (aV _ hm)) h
   refine⟨cl,?_,e2,fun m hm=>?_,e4⟩
   ·show((if (k==NameKind.free)=true then _ else pure (ForInStep.yield cs)) >>= _:Sem (List (Str×Addr)))=_
    rw[hb,aq av]
    exact e1
   ·rcases aM.mp hm with z | z
    ·cases z;exact absurd rfl hk
    ·exact e3 m z
def EC{scope:Scope}{env:Env}(hf:∀n,(n,NameKind.free)∈scope.names->∃c,env.cells.lookup n=some c):
  ∃cl:List (Str×Addr),closureFor scope env=pure cl/\(∀n c,cl.lookup n=some c->env.cells.lookup n=some c)/\(∀n,(n,NameKind.free)∈scope.names->∃c,cl.lookup n=some c):=by
 obtain⟨cl,e1,e2,e3,_⟩:=BG env scope.names [] hf (fun n c e=>nomatch e)
 refine⟨cl,?_,e2,e3⟩
 show(forIn (m:=Sem) scope.names ([]:List (Str×Addr)) (fun(x:Str×NameKind) r=>if x.2 == .free then do let c <-cellOf env x.1;pure (ForInStep.yield ((x.1,c)::r)) else pure (ForInStep.yield r)) >>= fun s=>pure s)=pure cl
 rw[e1];rfl
structure rG(N:ce)(sc:Scope)(N':ce)(scope:Scope):Prop where
 kind:scope.kind=.function
 cells:∀y∈scope.names,y.2=.cell->scope.names.lookup y.1=some .cell
 names:∀y∈scope.names,y.2=.local->scope.names.lookup y.1=some .local
 free:∀y∈scope.names,y.2=.free->sc.names.lookup y.1=some .cell
 fun':sc.kind=.function
 nd:N'.Nodup
 old:∀(i:Nat) x,i<N.length->N'[i]?=some x->dW (wy scope sc) x=true->N[i]?=some x/\scope.names.lookup x=some .free
 len:N.length<=N'.length
def D4(scope:Scope)(x:Str):Bool:=match scope.names.lookup x with
 |some .cell=>true
 |_=>false
structure FC(names:List (Str×NameKind))(cells:List (Str×Addr))(n:Nat)(cl:List (Str×Addr))(h:Heap):Prop where
 look:∀m c,cl.lookup m=some c->(cells.lookup m=some c/\¬(m,NameKind.cell)∈names)\/(n<=c/\(m,NameKind.cell)∈names/\h.IsCell c none)
 has:∀m,((m,NameKind.cell)∈names\/∃c,cells.lookup m=some c)->∃c,cl.lookup m=some c
 inj:∀x y c,n<=c->cl.lookup x=some c->cl.lookup y=some c->x=y
def oW:∀(names:List (Str×NameKind)) (cells:List (Str×Addr)) (s:Shared) (Q:List (Str×Addr)->Shared->Prop),(∀m c,cells.lookup m=some c->c<s.heap.objs.size) ->
  (∀cl h,(∀b o,s.heap.get? b=some o->h.get? b=some o)->FC names cells s.heap.objs.size cl h->Q cl { s with heap:=h }) ->
  wpAny M A (forIn names cells fun x __s=>match x with
   |(name,kind)=>if (kind==NameKind.cell)=true then do
     let a <-alloc { cls:=Value.type "cell",data:=Data.cell none }
     pure (ForInStep.yield ((name,a)::__s))
    else pure (ForInStep.yield __s)) Q E s
 |[],cells,s,Q,hb,q=>by
  refine ao (q cells s.heap (fun _ _ e=>e) ⟨fun m c e=>.inl ⟨e,fun z=>nomatch z⟩,fun m hm=>hm.elim (fun z=>nomatch z) id,fun x y c hc e _=>absurd (hb x c e) (vc hc)⟩)
 |(name,kind)::bF,cells,s,Q,hb,q=>by
  rw[xY]
  by_cases hk:kind=.cell
  ·subst hk
   refine ae ?_
   show wpAny M A (alloc _ >>= _) _ _ s
   refine ae (R6 (ao ?_))
   have hsz:(s.heap.push { cls:=Value.type "cell",data:=Data.cell none }).objs.size=s.heap.objs.size+1:=by rw[dY]
   refine oW bF _ _ _ (fun m c e=>?_) fun cl h kp f=>q cl h (fun b o e=>kp b o (Heap.get?_push_of_some _ e)) ⟨fun m c e=>?_,fun m hm=>f.has m ?_,fun x y c hc ex ey=>?_⟩
   ·show c<(s.heap.push { cls:=Value.type "cell",data:=Data.cell none }).objs.size
    rw[hsz]
    rw[cO] at e
    split at e
    ·cases e;exact eL _
    ·exact ij (hb m c e)
   ·have f':=f.look m c e
    rcases f' with⟨e1,e2⟩ | ⟨e1,e2,e3⟩
    ·rw[cO] at e1
     split at e1
     ·rename_i hm
      cases e1
      have hm':m=name:=by simpa using hm
      subst hm'
      exact .inr ⟨aj _,by simp,⟨_,kp _ _ (Heap.get?_push_size _ rfl),rfl⟩⟩
     ·rename_i hm
      have hm':m≠name:=by simpa using hm
      exact .inl ⟨e1,fun z=>by
       rcases aM.mp z with z | z
       ·exact hm' (bv Prod.fst z)
       ·exact e2 z⟩
    ·have e1':s.heap.objs.size+1<=c:=by rw[<-hsz];exact e1
     exact .inr ⟨by lia,by simp[e2],e3⟩
   ·rcases hm with hm | ⟨c,hc⟩
    ·rcases aM.mp hm with z | z
     ·right
      have:m=name:=bv Prod.fst z
      subst this
      exact⟨s.heap.objs.size,by rw[cO];simp⟩
     ·exact .inl z
    ·right
     rw[cO]
     split
     ·exact⟨_,rfl⟩
     ·exact⟨c,hc⟩
   ·by_cases XA:s.heap.objs.size+1<=c
    ·exact f.inj x y c (by show(s.heap.push _).objs.size<=c;rw[hsz];exact XA) ex ey
    ·have one:∀z,cl.lookup z=some c->z=name:=fun z ez=>by
      rcases f.look z c ez with⟨e1,_⟩ | ⟨e1,_⟩
      ·rw[cO] at e1
       split at e1
       ·rename_i hm;simpa using hm
       ·exact absurd (hb z c e1) (vc hc)
      ·exact absurd (show s.heap.objs.size+1<=c from ar (lM hsz.symm) e1) XA
     rw[one x ex,one y ey]
  ·have hk':(kind==NameKind.cell)=false:=by simpa using hk
   have mem:∀m,(m,NameKind.cell)∈(name,kind)::bF ↔ (m,NameKind.cell)∈bF:=fun m=>by
    constructor
    ·intro z
     rcases aM.mp z with z | z
     ·exact absurd (bv Prod.snd z).symm hk
     ·exact z
    ·intro z;simp[z]
   refine ae ?_
   show wpAny M A (if (kind==NameKind.cell)=true then _ else _) _ _ s
   rw[hk',aq av]
   refine ao (oW bF cells s Q hb fun cl h kp f=>q cl h kp ⟨fun m c e=>?_,fun m hm=>f.has m ?_,f.inj⟩)
   ·rw[mem];exact f.look m c e
   ·rw[mem] at hm;exact hm
def CK{s:Shared}{scope:Scope}{env:Env}{cl:List (Str×Addr)}{Q:Env->Shared->Prop}(hb:∀m c,cl.lookup m=some c->c<s.heap.objs.size)(h:∀cl' h',(∀b o,s.heap.get? b=some o->h'.get? b=some o)->(∃m,h'.Ns s.heap.objs.size m)->FC scope.names cl s.heap.objs.size cl' h'->Q { scope:=scope,locals:=s.heap.objs.size,globals:=env.globals,cells:=cl',qual:=env.qual,func:=none,code:=env.code,frame:=env.frame,builtins:=env.builtins } { s with heap:=h' }):
  wpAny M A (newFunctionEnv scope env.globals cl [] env.qual none .none (some env)) Q E s:=by
 unfold newFunctionEnv
 refine ae (R6 ?_)
 have hsz:(s.heap.push { cls:=Value.type "dict",data:=Data.dict #[] }).objs.size=s.heap.objs.size+1:=by rw[dY]
 refine ae (oW scope.names cl _ _ (fun m c e=>?_) fun cl' h' kp f=>?_)
 ·show c<(s.heap.push { cls:=Value.type "dict",data:=Data.dict #[] }).objs.size
  rw[hsz];exact ij (hb m c e)
 ·refine ae (ao (ao ?_))
  obtain⟨o,es,ep,g1,g2,g3,g4⟩:=Heap.Ns.new s.heap (.type "dict")
  refine h cl' h' (fun b o e=>kp b o (Heap.get?_push_of_some _ e)) ⟨_,o,es,ep,kp _ _ g1,g2,g3,g4⟩ ⟨fun m c e=>?_,f.has,fun x y c hc ex ey=>?_⟩
  ·rcases f.look m c e with z | ⟨z1,z2,z3⟩
   ·exact .inl z
   ·have z1':s.heap.objs.size+1<=c:=ar (lM hsz.symm) z1
    exact .inr ⟨Nat.le_of_succ_le z1',z2,z3⟩
  ·by_cases XA:s.heap.objs.size+1<=c
   ·exact f.inj x y c (ar (lM hsz) XA) ex ey
   ·have e:c=s.heap.objs.size:=Nat.le_antisymm (Nat.le_of_lt_succ (Nat.lt_of_not_le XA)) hc
    rcases f.look x c ex with⟨z,_⟩ | ⟨z,_⟩
    ·exact absurd (hb x c z) (vc hc)
    ·have z':s.heap.objs.size+1<=c:=ar (lM hsz.symm) z
     exact absurd z' XA
structure Xo(X X':Cx)(N':ce)(sc':Scope)(ow:Str->Bool):Prop where
 XG:Zz X' N' sc'
 cal:X'.calm=X.calm
 prog:X'.prog=X.prog
 w':X'.w=X.w
 k':X'.K=X.K
 WD:X'.mg=X.mg
 Yh:X'.base=X.base
 a':X'.A=X.A
 fn':∀x,ow x=true->X'.fn x=true
structure Yj(X X':Cx)(N':ce)(sc':Scope)(ow:Str->Bool):Prop where
 at':At X' N' sc'
 prog:X'.prog=X.prog
 w':X'.w=X.w
 k':X'.K=X.K
 WD:X'.mg=X.mg
 Yh:X'.base=X.base
 a':X'.A=X.A
 fn':∀x,ow x=true->X'.fn x=true
section
variable {ow:Str->Bool}
def Xo.calm(h:Xo X X' N' sc' ow)(hc:X.calm=true):Yj X X' N' sc' ow:=⟨h.XG.at (h.cal.trans hc),h.prog,h.w',h.k',h.WD,h.Yh,h.a',h.fn'⟩
def Yj.callee{C:aU->D->Prop}(h:Yj X X' N' sc' ow)(c:Callee X x C):Callee X' x C:=by
 obtain⟨f,fd,ps,k,F,hr,hm,hk,hb⟩:=c
 refine⟨f,fd,ps,k,?_,?_,?_,?_,?_⟩
 ·rw[h.prog,h.w',h.k',h.WD,h.Yh];exact F
 ·rw[h.a'];exact hr
 ·rw[h.WD];exact hm
 ·rw[h.k'];exact hk
 ·rw[h.k'];exact hb
end
inductive VP(X:Cx)(tg elt:Expr)(ifs:rL):aU->cn->aU->Prop where
 |nil {ρ:cn}:VP X tg elt ifs [] ρ []
 |take {d r:D} {ds rs:aU} {ρ ρ1:cn}:Xx X ρ tg d ρ1->(ifs=[]\/∃c,ifs=[c]/\U3 X ρ1 c true)->U1 X ρ1 elt r->VP X tg elt ifs ds ρ1 rs->VP X tg elt ifs (d::ds) ρ (r::rs)
 |skip {d:D} {ds rs:aU} {ρ ρ1:cn} {c:Expr}:Xx X ρ tg d ρ1->ifs=[c]->U3 X ρ1 c false->VP X tg elt ifs ds ρ1 rs->VP X tg elt ifs (d::ds) ρ rs
section
variable {R:Result->Shared->Prop}
def BE{env:Env}(I:Nat->Shared->Prop)(turn:∀n s,I n s->wpAny (model prog w) A (pyNext it) (fun r s₁=>match r with
   |none=>R (.ok .next) s₁
   |some v=>wpAny (model prog w) A (letOwnedTupleGo target it v) (fun _ s₀=>wpAny (model prog w) A (assign target env v) (fun _ s₂=>
     wpAny (model prog w) A (forIn ifs true fun c r=>if r=true then do let ok <-isTrue c env (eval c env);pure (ForInStep.yield ok) else pure (ForInStep.yield r)) (fun ok s₃=>
      if ok=true then wpAny (model prog w) A (eval elt env) (fun x s₄=>
       wpAny (model prog w) A (call (.builtin "list.append") [acc,x]) (fun _ s₅=>∃m,m<n/\I m s₅) (fun _ _=>False) s₄) (fun _ _=>False) s₃
      else ∃m,m<n/\I m s₃) (fun _ _=>False) s₂) (fun _ _=>False) s₀) (fun _ _=>False) s₁) (fun _ _=>False) s)(n:Nat)(h:I n s):
  codeAny (model prog w) A (.compLoop (.ListComp elt [⟨target,iter,ifs,0⟩] scope pos) 0 it acc env) R s:=by
 refine codeAny_loop rfl I (fun n s hI=>?_) n h
 show wpAny _ A ((compTurn (.ListComp elt [⟨target,iter,ifs,0⟩] scope pos) 0 it acc env).onRaise (fun x=>do noteFrame x env;theTreesLotGoes x)) _ _ s
 refine wpAny_noted ?_
 rw[compTurn_list]
 refine ae (qP (ae (mj (turn n s hI) (fun r s₁ h₁=>?_) fun _ _ h'=>h'.elim)))
 cases r with
 |none=>exact ao h₁
 |some v=>
  refine ae (mj h₁ (fun _ s₀ h₀=>ae (mj h₀ (fun _ s₂ h₂=>ae (mj h₂ (fun ok s₃ h₃=>?_) fun _ _ h'=>h'.elim)) fun _ _ h'=>h'.elim)) fun _ _ h'=>h'.elim)
  cases ok with
  |false=>exact ao ⟨rfl,h₃⟩
  |true=>
   exact ae (ae (mj h₃ (fun x s₄ h₄=>ae (mj h₄ (fun _ s₅ h₅=>ao (ao ⟨rfl,h₅⟩)) fun _ _ h'=>h'.elim)) fun _ _ h'=>h'.elim))
end
def Ok.Zr{K:bW}{p:Addr}(k:Ok K B F H σ ρ)(hf:F p=none)(hb:B.H p=none)(hn:VX σ ρ p)(hl:∃vs,H p=some (.lst vs)):Ok K B F (cE H p o) σ ρ:=by
 refine⟨⟨fun b u q=>?_,fun b u q=>?_,k.sf,k.nw⟩,k.len,k.vals,fun i xs e=>?_,k.dist,k.Vi.to (.refl _) (fun b φ e1 e2 _=>⟨by rw[aI (fun z=>by subst z;obtain⟨vs,hl⟩:=hl;rw[hl] at e1;cases e1)];exact e1,e2⟩) fun _ _ e=>⟨e,rfl⟩⟩
 ·have ne:b≠p:=fun z=>by subst z;rw[hf] at q;cases q
  rw[aI ne];exact k.sub b u q
 ·have ne:b≠p:=fun z=>by subst z;rw[hb] at q;cases q
  rw[aI ne];exact k.sh b u q
 ·obtain⟨a,vs,h1,h2,h3,h4,h5⟩:=k.VT i xs e
  have ne:a≠p:=fun z=>by subst z;exact hn i xs e h1
  exact⟨a,vs,h1,by rw[aI ne];exact h2,h3,h4,h5⟩
def Ok.more{K:bW}(k:Ok K B F H σ ρ)(n:Nat):Ok K B F H (σ++List.replicate n none) (ρ++List.replicate n .un):=by
 have get:∀(i:Nat) s,(ρ++List.replicate n Sl.un)[i]?=some s->s ≠ .un->ρ[i]?=some s/\(σ++List.replicate n none)[i]?=σ[i]?:=fun i s h hn=>by
  by_cases hi:i<ρ.length
  ·rw[List.getElem?_append_left hi] at h
   exact⟨h,List.getElem?_append_left (by rw[k.len];exact hi)⟩
  ·rw[List.getElem?_append_right (by lia),List.getElem?_replicate] at h
   split at h
   ·cases h;exact absurd rfl hn
   ·cases h
 refine⟨k.toExt,by simp[k.len],fun i d h=>?_,fun i xs h=>?_,fun i j xs ys a h1 h2 h3 h4=>?_,k.Vi.to (.refl _) (fun _ _ e1 e2 _=>⟨e1,e2⟩) fun i kvs h=>get i _ h fun z=>nomatch z⟩
 ·obtain⟨e1,e2⟩:=get i _ h fun z=>nomatch z
  rw[e2];exact k.vals i d e1
 ·obtain⟨e1,e2⟩:=get i _ h fun z=>nomatch z
  rw[e2];exact k.VT i xs e1
 ·obtain⟨e1,e2⟩:=get i _ h1 fun z=>nomatch z
  obtain⟨g1,g2⟩:=get j _ h2 fun z=>nomatch z
  rw[e2] at h3;rw[g2] at h4
  exact k.dist i j xs ys a e1 g1 h3 h4
def j0{x:Str}{names:List (Str×NameKind)}{k:NameKind}(h:names.lookup x=some k):(x,k)∈names:=fP h
def wx{scope sc:Scope}{x:Str}(hf:sc.kind=.function)(fr:∀y∈scope.names,y.2=.free->sc.names.lookup y.1=some .cell){k:NameKind}(h:(wy scope sc).names.lookup x=some k):
  ∃k',scope.names.lookup x=some k'/\(k'=.free->k=.cell)/\(k' ≠ .free->k=k'):=by
 have go:∀names:List (Str×NameKind),(∀y∈names,y.2=.free->sc.names.lookup y.1=some .cell)->(names.map fun(n,k)=>if (k==NameKind.free&&sc.kind == .function&&sc.names.lookup n==some .cell) then (n,NameKind.cell) else (n,k)).lookup x=some k ->
   ∃k',names.lookup x=some k'/\(k'=.free->k=.cell)/\(k' ≠ .free->k=k'):=by
  intro names
  induction names with
  |nil=>intro _ h;cases h
  |cons y r ih=>
   intro fr h
   obtain⟨n,kk⟩:=y
   have hr:=ih fun y hy=>fr y (aV _ hy)
   by_cases hkk:kk=.free
   ·subst hkk
    have hc:=fr (n,.free) bK rfl
    have e:(if (NameKind.free==NameKind.free&&sc.kind == .function&&sc.names.lookup n==some .cell)=true then (n,NameKind.cell) else (n,NameKind.free))=(n,NameKind.cell):=by
     have XA:sc.names.lookup n=some .cell:=hc
     rw[XA,hf];rfl
    rw[aT] at h
    simp only[e] at h
    rw[cO] at h ⊢
    cases hx:x==n with
    |true=>rw[hx] at h;cases h;exact⟨.free,rfl,fun _=>rfl,fun z=>absurd rfl z⟩
    |false=>rw[hx] at h;exact hr h
   ·have e:(if (kk==NameKind.free&&sc.kind == .function&&sc.names.lookup n==some .cell)=true then (n,NameKind.cell) else (n,kk))=(n,kk):=by
     have hb:(kk==NameKind.free)=false:=bn.mpr hkk
     rw[hb];rfl
    rw[aT] at h
    simp only[e] at h
    rw[cO] at h ⊢
    cases hx:x==n with
    |true=>rw[hx] at h;cases h;exact⟨_,rfl,fun z=>absurd z hkk,fun _=>rfl⟩
    |false=>rw[hx] at h;exact hr h
 exact go scope.names fr h
def RV(X:Cx)(N':ce)(scope:Scope)(cl:List (Str×Addr))(C:Addr)(s3:Shared)(H3:Hp)(fp:List Addr):Cx:=
 { X with N:=N',s₀:=s3,H₀:=H3,env:=compEnvC scope cl C X.env,outer:=X.stack,stack:=X.stack,ex:=fp,fn:=D4 scope,pn:=[],xe:=fun _ _=>False }
section
variable {tn:Nat->Heap->Prop}{J:It}{ds rs:aU}
def Pm{cl Yw:List (Str×Addr)}(t:Zz X N sc)(S:rG N sc N' scope)(I3:Inv X pins σ H3 s3)(hc1:∀n c,Yw.lookup n=some c->X.env.cells.lookup n=some c)(hc2:∀n,(n,NameKind.free)∈scope.names->∃c,Yw.lookup n=some c)(CN:FC scope.names Yw s3.heap.objs.size cl h₁)(fo:∀b∈fp,tD X pins H3 b)(fl:∀b∈fp,b<s3.heap.objs.size):(RV X N' scope cl s3.heap.objs.size s3 H3 fp).Ok:=by
 refine⟨I3.ok.mod,?_,I3.ok.glob,I3.ok.blt,aj _,fun x y c h1 h2=>?_,fun x hx=>?_,(fun x c hf h=>?_),I3.ok.hd,I3.ok.frames,.inl rfl,fun b hb=>⟨?_,fun x c h=>?_⟩,I3.bs,ar I3.ok.Zy I3.sz,fun b o h hb=>?_,fun b hb h=>?_,I3.stack,I3.Ya⟩
 ·exact S.kind
 ·by_cases hc:s3.heap.objs.size<=c
  ·exact CN.inj x y c hc h1 h2
  ·have old:∀z,cl.lookup z=some c->X.env.cells.lookup z=some c:=fun z ez=>by
    rcases CN.look z c ez with⟨e,_⟩ | ⟨e,_⟩
    ·exact hc1 z c e
    ·exact absurd e hc
   exact I3.ok.inj x y c (old x h1) (old y h2)
 ·have Zh:(relabel scope X.env).names.lookup x=some .cell\/(relabel scope X.env).names.lookup x=some .free:=hx
  rw[AX t.eS] at Zh
  have hk:∃k,(k=NameKind.cell\/k=.free)/\(wy scope sc).names.lookup x=some k:=by
   rcases Zh with h | h
   ·exact⟨_,.inl rfl,h⟩
   ·exact⟨_,.inr rfl,h⟩
  obtain⟨k,hk,h⟩:=hk
  obtain⟨k',h1,h2,h3⟩:=wx S.fun' S.free h
  by_cases hf:k'=.free
  ·subst hf;exact CN.has x (.inr (hc2 x (j0 h1)))
  ·have e:=h3 hf
   rcases hk with hk | hk
   ·have e':k'=.cell:=e.symm.trans hk
    subst e'
    exact CN.has x (.inl (j0 h1))
   ·exact absurd (e.symm.trans hk) hf
 ·have hm:(x,NameKind.cell)∈scope.names:=by
   have Z8:D4 scope x=true:=hf
   unfold D4 at Z8
   cases e:scope.names.lookup x with
   |none=>rw[e] at Z8;cases Z8
   |some kk=>rw[e] at Z8;cases kk<;>first | exact j0 e | cases Z8
  rcases CN.look x c h with⟨_,e⟩ | ⟨e,_⟩
  ·exact absurd hm e
  ·exact e
 ·exact bi (fl b hb)
 ·rcases CN.look x c h with⟨e,_⟩ | ⟨e,_⟩
  ·exact(fo b hb).2.2.2.2.1 x c (hc1 x c e)
  ·exact fun z=>absurd (fl b hb) (by rw[<-z];exact vc e)
 ·rcases(fo b hb).2.2.2.1 with z | z
  ·exact I3.ok.YE b o h z
  ·have h1:=aQ h
   have h2:=I3.ok.Zy
   exact absurd (bg h1 (ar h2 z)) (dL _)
 ·have h':b∈mn X.stack:=h
  rcases aM.mp (I3.XU b h') with z | z
  ·exact(fo b hb).2.1 z
  ·exact(fo b hb).2.2.1 z
def Mt{tk:Nat}{cl Yw:List (Str×Addr)}(t:Zz X N sc)(S:rG N sc N' scope)(I3:Inv X pins σ H3 s3)(hc1:∀n c,Yw.lookup n=some c->X.env.cells.lookup n=some c)(hc2:∀n,(n,NameKind.free)∈scope.names->∃c,Yw.lookup n=some c)(CN:FC scope.names Yw s3.heap.objs.size cl h₁)(fo:∀b∈fp,tD X pins H3 b)(fl:∀b∈fp,b<s3.heap.objs.size)(hns:∃m,h₁.Ns s3.heap.objs.size m)(kp:∀b o,s3.heap.get? b=some o->h₁.get? b=some o):
  Inv (RV X N' scope cl s3.heap.objs.size s3 H3 fp) [] (σ++List.replicate (N'.length-N.length) none) H3 { s3 with heap:=h₁,toks:=tk }:=by
 obtain⟨m,hm⟩:=hns
 have hlen:σ.length=N.length:=by rw[I3.len,t.eN]
 refine⟨Pm t S I3 hc1 hc2 CN fo fl,rfl,I3.bare,Un.kept kp,⟨m,hm,fun i x v h1 h2 h3=>?_⟩,fun x c h=>?_,I3.Vl.fresh (aj _),fun x c h=>(CN.look x c h).elim (fun z=>I3.Wv x c (hc1 x c z.1)) (fun z=>I3.Vl.fresh z.1),(fun p hp=>nomatch hp),I3.Vl.kept kp,?_⟩
 ·have hi:i<σ.length:=by
   by_cases hi:i<σ.length
   ·exact hi
   ·rw[List.getElem?_append_right (by lia),List.getElem?_replicate] at h2
    split at h2<;>cases h2
  rw[List.getElem?_append_left hi] at h2
  have h3':Rq (wy scope sc) x:=by rw[<-AX t.eS];exact h3
  have hv:dW (wy scope sc) x=true:=by
   unfold dW
   rcases h3' with z | z | z<;>rw[z]
  obtain⟨e1,e2⟩:=S.old i x (by lia) h1 hv
  have WO:sc.names.lookup x=some .cell:=S.free _ (j0 e2) rfl
  obtain⟨m0,hn0,hl0⟩:=I3.loc
  obtain⟨u,ru,lk⟩:=hl0 i x v (by rw[t.eN];exact e1) h2 (by rw[t.eS];exact .inr (.inl WO))
  refine⟨u,ru,?_⟩
  have hkx:X.env.kindOf x=some .cell:=by show X.env.scope.names.lookup x=_;rw[t.eS];exact WO
  rcases lk with⟨k,_⟩ | ⟨_,c,hc,hcc⟩
  ·rw[hkx] at k;cases k
  ·obtain⟨c',XA⟩:=CN.has x (.inr (hc2 x (j0 e2)))
   have ho:Yw.lookup x=some c':=by
    rcases CN.look x c' XA with⟨z,_⟩ | ⟨_,z,_⟩
    ·exact z
    ·have z':=S.cells _ z rfl
     rw[e2] at z';cases z'
   have e:c'=c:=bx ((hc1 x c' ho).symm.trans hc)
   subst e
   refine .inr ⟨?_,c',XA,?_⟩
   ·show(relabel scope X.env).names.lookup x=_\/(relabel scope X.env).names.lookup x=_
    rw[AX t.eS]
    rcases h3' with z | z | z
    ·obtain⟨k',g1,g2,g3⟩:=wx S.fun' S.free z
     by_cases hk':k'=.free
     ·have:=g2 hk';cases this
     ·have e:=g3 hk'
      subst e
      rw[e2] at g1
      cases g1
    ·exact .inl z
    ·exact .inr z
   ·obtain⟨oc,ho,hd⟩:=hcc
    exact⟨oc,kp _ _ ho,hd⟩
 ·rcases CN.look x c h with⟨z,_⟩ | ⟨_,_,z⟩
  ·obtain⟨v,oc,ho,hd⟩:=I3.cell x c (hc1 x c z)
   exact⟨v,oc,kp _ _ ho,hd⟩
  ·exact⟨_,z⟩
 ·show(σ++List.replicate (N'.length-N.length) none).length=N'.length
  have:=S.len
  rw[ac,dF,hlen]
  lia
end
def RI(X:Cx)(pins:gc)(σ:St)(F2 H2:Hp)(rs:aU)(D' C:Addr)(s':Shared):Prop:=
 ∃(F' H':Hp) (vs:df) (m:ux),Inv X pins σ H' s'/\s'.heap.Ns C m/\H' C=none/\C≠X.env.locals/\X.s₀.heap.objs.size<=C/\(∀x c,X.env.cells.lookup x=some c->c≠C)/\(∀p∈X.pn++pins,p.1≠C) /\
  Ext ⟨F2,H2⟩ F' H'/\H2 D'=none/\H' D'=some (.lst vs)/\F' D'=none/\U2 X.K F' vs rs/\D'≠C
section
variable {tn:Nat->Heap->Prop}{J:It}{ds rs:aU}
def G6{s3:Shared}{DD C:Addr}{h₁:Heap}{tk:Nat}{cl Yw:List (Str×Addr)}(t:Zz X N sc)(md:X.calm=true\/(J.hot/\RB X.A H2))(S:rG N sc N' scope)(hC:s3.heap.objs.size=C)(hDC:DD≠C)(I3:Inv X pins σ (cE H2 DD (.lst [])) s3)(YM:H2 DD=none)(fo3:∀b∈fp,tD X pins (cE H2 DD (.lst [])) b)(fl3:∀b∈fp,b<s3.heap.objs.size)(T:B1 X.prog X.w X.K tg J fp it tn)(tn3:tn 0 s3.heap)(Z4:∃m,h₁.Ns s3.heap.objs.size m)(kp4:∀b o,s3.heap.get? b=some o->h₁.get? b=some o)(k2:Ok X.K B F2 H2 σ ρ)(JO:xP X.K J F2 ds)(hz:ds.length<sizeLine)(hc1:∀n c,Yw.lookup n=some c->X.env.cells.lookup n=some c)(hc2:∀n,(n,NameKind.free)∈scope.names->∃c,Yw.lookup n=some c)(CN:FC scope.names Yw s3.heap.objs.size cl h₁)(run:∀X',Xo X X' N' (wy scope sc) (D4 scope)->VP X' tg elt ifs ds (ρ++List.replicate (N'.length-N.length) .un) rs){RR:Value->Addr->Result->Shared->Prop}(hRR:∀D' C s',RI X pins σ F2 H2 rs D' C s'->RR (.ref D') C (.ok .next) s'):
  codeAny (model X.prog X.w) X.A (.compStart (.ListComp elt [⟨tg,iter,ifs,0⟩] scope pos) 0 (.ref it) (.ref DD) (compEnvC scope cl C X.env)) (RR (.ref DD) C) { s3 with heap:=h₁,toks:=tk }:=by
 have I4:Inv (RV X N' scope cl C s3 (cE H2 DD (.lst [])) fp) [] (σ++List.replicate (N'.length-N.length) none) (cE H2 DD (.lst [])) { s3 with heap:=h₁,toks:=tk }:=by
  have q:=Mt (N':=N') (tk:=tk) (fp:=fp) t S I3 hc1 hc2 CN fo3 fl3 Z4 kp4
  rw[hC] at q
  exact q
 generalize ZG:RV X N' scope cl C s3 (cE H2 DD (.lst [])) fp=X' at I4
 have cx:Xo X X' N' (wy scope sc) (D4 scope):=by
  subst ZG
  exact⟨⟨rfl,AX t.eS,S.nd,rfl,t.un,t.dp,t.tree,t.fr⟩,rfl,rfl,rfl,rfl,rfl,rfl,rfl,fun x hx=>hx⟩
 have md':X'.calm=true\/(J.hot/\Px X'):=by
  rcases md with z | ⟨z,ea,oe,u,vs,k1,k2,k3,k4⟩
  ·exact .inl (cx.cal.trans z)
  ·refine .inr ⟨z,ea,oe,u,vs,by rw[cx.a'];exact k1,?_,k3,k4⟩
   have e:X'.H₀=cE H2 DD (.lst []):=by subst ZG;rfl
   rw[e,aI (dv k2 YM)];exact k2
 have run':=run X' cx
 have eP:X'.prog=X.prog:=cx.prog
 have eW:X'.w=X.w:=cx.w'
 have eA:X'.A=X.A:=cx.a'
 have eK:X'.K=X.K:=cx.k'
 have YQ:X'.env=compEnvC scope cl C X.env:=by subst ZG;rfl
 have eX:X'.xe=fun _ _=>False:=cx.XG.XC
 have eEx:X'.ex=fp:=by subst ZG;rfl
 have ePn:X'.pn=[]:=by subst ZG;rfl
 have k4:Ok X.K B F2 (cE H2 DD (.lst [])) (σ++List.replicate (N'.length-N.length) none) (ρ++List.replicate (N'.length-N.length) .un):=(k2.growH YM).more _
 have no4:VX (σ++List.replicate (N'.length-N.length) none) (ρ++List.replicate (N'.length-N.length) .un) DD:=(k2.more _).noOwn YM
 have bD:B.H DD=none:=k2.sh.free YM
 have fD:F2 DD=none:=k2.sub.free YM
 have fp4:∀{H':Hp},(∀b∈fp,H' b=none)->∀b∈fp,tD X' [] H' b:=fun {H'} hn b hb=>by
  refine⟨hn b hb,?_,?_,.inl (by rw[eEx];exact hb),fun x c h=>?_,fun p hp=>?_⟩
  ·exact(I4.ok.exf b (by rw[eEx];exact hb)).1
  ·exact I4.ok.YO b (by rw[eEx];exact hb)
  ·exact(I4.ok.exf b (by rw[eEx];exact hb)).2 x c h
  ·rw[ePn] at hp;exact nomatch hp
 have fin:∀(σ':St) (F' H':Hp) (vs:df) (s':Shared),Inv X' [] σ' H' s'->Ext ⟨F2,H2⟩ F' H'->H' DD=some (.lst vs)->F' DD=none->U2 X.K F' vs rs->RR (.ref DD) C (.ok .next) s':=fun σ' F' H' vs s' I' x' h1 h2 h3=>by
  refine hRR DD C s' ?_
  have base:=I'.base
  have Y1:=I'.os
  have hhok:=I'.Vl
  have WN:=I'.free
  obtain⟨m,hm,_⟩:=I'.loc
  rw[YQ] at WN hm
  rw[eEx] at base
  have e1:X'.fs=mn X.stack:=by subst ZG;rfl
  have e2:X'.H₀=cE H2 DD (.lst []):=by subst ZG;rfl
  have e3:X'.s₀=s3:=by subst ZG;rfl
  rw[e1,e2,e3] at base
  rw[e3] at Y1
  rw[eP,eW] at hhok
  have IX:Inv X pins σ H' s':=I3.call' (ch:=fp) Y1 base hhok I'.bare fun b hb=>⟨(fo3 b hb).2.2.2.1,(fo3 b hb).2.1,(fo3 b hb).2.2.2.2.1,(fo3 b hb).2.2.2.2.2⟩
  refine⟨F',H',vs,m,IX,hm,WN,?_,?_,fun x c h z=>?_,fun p hp z=>?_,x',YM,h1,h2,h3,hDC⟩
  ·have:=I3.lt;rw[hC] at this;exact fun z=>absurd (z ▸ this) (dL _)
  ·have:=I3.sz;rw[hC] at this;exact this
  ·obtain⟨v,q⟩:=I3.cell x c h
   have:=q.lt;rw[hC,z] at this;exact absurd this (dL _)
  ·have:=aQ (I3.pin p hp).1
   rw[hC,z] at this;exact absurd this (dL _)
 have tn4:tn 0 h₁:=T.keep 0 _ _ tn3 fun b hb o e=>kp4 b o e
 have loop:∀s4:Shared,s4 = { s3 with heap:=h₁,toks:=tk } ->
   codeAny (model X.prog X.w) X.A (.compLoop (.ListComp elt [⟨tg,iter,ifs,0⟩] scope pos) 0 (.ref it) (.ref DD) (compEnvC scope cl C X.env)) (RR (.ref DD) C) s4:=by
  rintro s4 rfl
  obtain⟨P,hP⟩:∃P:Nat->Shared->Prop,P=fun n s'=>∃(i:Nat) (σ':St) (F' H':Hp) (ρ':cn) (vs:df) (r0 r1:aU),Inv X' [] σ' H' s'/\tn i s'.heap/\(∀b∈fp,H' b=none)/\Ok X.K B F' H' σ' ρ'/\Ext ⟨F2,H2⟩ F' H'/\H' DD=some (.lst vs)/\F' DD=none/\VX σ' ρ' DD /\
    U2 X.K F' vs r0/\VP X' tg elt ifs (ds.drop i) ρ' r1/\r0++r1=rs/\r0.length<=i/\i<=ds.length/\n=ds.length+1-i:=⟨_,rfl⟩
  refine BE P ?_ (ds.length+1) (hP ▸
   ⟨0,_,F2,_,_,[],[],rs,I4,tn4,fun b hb=>(fo3 b hb).1,k4,⟨k2.sub.trans (aL YM),aL YM,.refl _,fun a h=>.inl h⟩,aG,fD,no4,.nil,by simpa using run',rfl,be _,be _,by simp⟩)
  intro n s' hs
  rw[hP] at hs
  obtain⟨i,σ',F',H',ρ',vs,r0,r1,I',tni,fpi,k',x',hH,hF,no',rv,cr,er,hr0,hi,rfl⟩:=hs
  have JO':=JO i F' H' x'.sf k'.sub
  have TI:=T.item X' eP eW eK md' i [] s' σ' H' (fun _ _=>False) I' (fp4 fpi) tni
  have TD:=T.done X' eP eW eK md' i [] s' σ' H' (fun _ _=>False) I' (fp4 fpi) tni
  rw[eA] at TI TD
  generalize e1:ds.drop i=bF at cr
  have stepI:∀{TT:Shared->Prop} {d:D} {ρ1:cn} (hd:ds[i]?=some d) (g:Xx X' ρ' tg d ρ1)
    (K:∀(VN:gc) (s5:Shared) (σ5:St) (F5 H5:Hp),Inv X' VN σ5 H5 s5->Ok X.K B F5 H5 σ5 ρ1->Ext ⟨F2,H2⟩ F5 H5->H5 DD=some (.lst vs)->F5 DD=none->VX σ5 ρ1 DD->U2 X.K F5 vs r0 ->
     (∀(s6:Shared) (σ6:St) (H6:Hp),Inv X' VN σ6 H6 s6->Inv X' [] σ6 H6 s6/\tn (i+1) s6.heap/\∀b∈fp,H6 b=none) ->
     TT s5),
    dZ X (pyNext (.ref it)) (fun r s₁=>match r with
   |none=>RR (.ref DD) C (.ok .next) s₁
   |some v=>dZ X (letOwnedTupleGo tg (.ref it) v) (fun _ s₀=>dZ X (assign tg (compEnvC scope cl C X.env) v) (fun _=>TT) (fun _ _=>False) s₀) (fun _ _=>False) s₁) (fun _ _=>False) s':=by
   intro TT d ρ1 hd g K
   obtain⟨go,yl⟩:=JO'.1 _ hd
   refine dk (TI go) fun r s4 ⟨u,hr,h4⟩=>?_
   subst hr
   refine dk h4 fun _ s5 ⟨x,H5,I5,r5,y5,ZM,fr5⟩=>?_
   obtain⟨F5,x5,rx⟩:=yl x H5 y5
   have I5':=I5.pinned (fp4 fr5) (T.obj _ _ ZM)
   have gg:=g B F5 H5 σ' x (fun σ6 H6=>H6=H5/\Ok X.K B F5 H5 σ6 ρ1/\VX σ6 ρ1 DD) (by rw[eK];exact k'.ext x5) (by rw[eK];exact rx) (fun σ6 k6 n6=>⟨rfl,by rw[eK] at k6;exact k6,n6 DD no'⟩) _ s5 u I5' r5
   unfold dZ at gg;rw[eP,eW,eA,YQ,eX] at gg
   refine dk gg fun _ s6 ⟨σ6,H6,I6,e6,k6,n6⟩=>?_
   subst e6
   refine K _ s6 σ6 F5 H6 I6 k6 (x'.t x5) (x5.sh _ _ hH) ?_ n6 (rv.mono x5.sf) fun s7 σ7 H7 I7=>⟨I7.WJ,T.keep _ _ _ ZM fun b hb o e=>(I7.pin (b,o) (bH _ (bH _ (mJ hb e)))).1,fun b hb=>?_⟩
   ·exact x5.kf hF hH
   ·obtain⟨o,e,d⟩:=T.obj _ _ ZM b hb
    exact(I7.pin (b,o) (bH _ (bH _ (mJ hb e)))).2.1
  have eltI:∀{d r:D} {YC rs':aU} {ρ1:cn} (VH:i<ds.length) (Zl:ds.drop (i+1)=YC) (ev:U1 X' ρ1 elt r) (cr':VP X' tg elt ifs YC ρ1 rs') (er':r0++(r::rs')=rs) (VN:gc) (s5:Shared) (σ5:St) (F5 H5:Hp),Inv X' VN σ5 H5 s5->Ok X.K B F5 H5 σ5 ρ1->Ext ⟨F2,H2⟩ F5 H5->H5 DD=some (.lst vs)->F5 DD=none->VX σ5 ρ1 DD->U2 X.K F5 vs r0 ->
     (∀(s6:Shared) (σ6:St) (H6:Hp),Inv X' VN σ6 H6 s6->Inv X' [] σ6 H6 s6/\tn (i+1) s6.heap/\∀b∈fp,H6 b=none) ->
     dZ X (eval elt (compEnvC scope cl C X.env)) (fun x s₄=>
       dZ X (call (.builtin "list.append") [.ref DD,x]) (fun _ s₅=>∃m,m<ds.length+1-i/\P m s₅) (fun _ _=>False) s₄) (fun _ _=>False) s5:=by
   subst hP
   intro d r YC rs' ρ1 VH Zl ev cr' er' VN s5 σ5 F5 H5 I5 k5 x5 h5 f5 n5 ZO back
   have ee:=ev B F5 H5 σ5 (fun v H6=>∃F6,Ext ⟨F5,H5⟩ F6 H6/\Rep X.K F6 v r) (by rw[eK];exact k5) (fun v F6 H6 x6 r6=>⟨F6,x6,by rw[eK] at r6;exact r6⟩) VN s5 I5
   unfold dZ at ee;rw[eP,eW,eA,YQ,eX] at ee
   refine dk ee fun u s6 ⟨v,H6,I6,ru,F6,x6,r6⟩=>?_
   have h6:=x6.sh _ _ h5
   have f6:F6 DD=none:=x6.kf f5 h5
   have hlen:vs.length<sizeLine:=by
    have:=ZO.length
    lia
   have app:=l8 (X:=X') VN s6 σ5 H6 (.ref DD) [v] (.ref DD) [u] (fun z H7=>H7=cE H6 DD (.lst (vs++[v]))) I6 rfl (.cons ru .nil) ⟨DD,vs,v,rfl,rfl,h6,hlen,rfl⟩
   unfold dZ at app;rw[eP,eW,eA,eX] at app
   refine dk app fun _ s7 ⟨z,H7,I7,_,e7⟩=>?_
   subst e7
   obtain⟨I8,t8,f8⟩:=back s7 σ5 _ I7
   have x7:=x5.t x6
   refine⟨ds.length+1-(i+1),by lia,i+1,σ5,F6,_,ρ1,vs++[v],r0++[r],rs',I8,t8,f8,(k5.ext x6).Zr f6 bD n5 ⟨_,h6⟩,⟨fun b w q=>?_,fun b w q=>?_,x7.sf,x7.nw⟩,aG,f6,n5,(ZO.mono x6.sf).append (.cons r6 .nil),by rw[Zl];exact cr',by rw[aF];exact er',by rw[ac,bI];lia,VH,rfl⟩
   ·have ne:b≠DD:=fun z=>by subst z;rw[f6] at q;cases q
    rw[aI ne];exact x6.sub b w q
   ·have ne:b≠DD:=fun z=>by subst z;have q':H2 b=some w:=q;rw[YM] at q';cases q'
    rw[aI ne];exact x7.sh b w q
  cases cr with
  |nil=>
   have hl:ds.length<=i:=by
    have:=bv List.length e1
    rw[cv,gP] at this
    lia
   refine dk (TD (JO'.2 hl)) fun r s4 ⟨hr,I4'⟩=>?_
   subst hr
   rw[aP] at er
   subst er
   exact fin σ' F' H' vs s4 I4' x' hH hF rv
  |@take d r ds0 rs0 ρ0 ρ1 g ci ev cr'=>
   obtain⟨hd,Zl,VH⟩:=iC e1
   refine stepI hd g fun VN s5 σ5 F5 H5 I5 k5 x5 h5 f5 n5 ZO back=>?_
   rcases ci with rfl | ⟨c,rfl,et⟩
   ·refine wpAny_tests_nil ?_
    rw[au rfl]
    exact eltI (d:=d) VH Zl ev cr' er VN s5 σ5 F5 H5 I5 k5 x5 h5 f5 n5 ZO back
   ·have tt:=et B F5 H5 σ5 (fun b H6=>b=true/\∃F6,Ext ⟨F5,H5⟩ F6 H6) (by rw[eK];exact k5) (fun F6 H6 x6=>⟨rfl,F6,x6⟩) VN s5 I5
    unfold dZ at tt;rw[eP,eW,eA,YQ,eX] at tt
    refine wpAny_tests_one (dk tt fun b s6 ⟨H6,I6,eb,F6,x6⟩=>?_)
    subst eb
    rw[au rfl]
    have f6:F6 DD=none:=x6.kf f5 h5
    exact eltI (d:=d) VH Zl ev cr' er VN s6 σ5 F6 H6 I6 (k5.ext x6) (x5.t x6) (x6.sh _ _ h5) f6 n5 (ZO.mono x6.sf) back
  |@skip d ds0 rs0 ρ0 ρ1 c g hc et cr'=>
   obtain⟨hd,Zl,VH⟩:=iC e1
   subst hc
   refine stepI hd g fun VN s5 σ5 F5 H5 I5 k5 x5 h5 f5 n5 ZO back=>?_
   have tt:=et B F5 H5 σ5 (fun b H6=>b=false/\∃F6,Ext ⟨F5,H5⟩ F6 H6) (by rw[eK];exact k5) (fun F6 H6 x6=>⟨rfl,F6,x6⟩) VN s5 I5
   unfold dZ at tt;rw[eP,eW,eA,YQ,eX] at tt
   refine wpAny_tests_one (dk tt fun b s6 ⟨H6,I6,eb,F6,x6⟩=>?_)
   subst eb
   rw[aq av]
   have f6:F6 DD=none:=x6.kf f5 h5
   obtain⟨I8,t8,f8⟩:=back s6 σ5 _ I6
   subst hP
   exact⟨ds.length+1-(i+1),by lia,i+1,σ5,F6,H6,ρ1,vs,r0,_,I8,t8,f8,k5.ext x6,x5.t x6,x6.sh _ _ h5,f6,n5,ZO.mono x6.sf,by rw[Zl];exact cr',er,by lia,VH,rfl⟩
 exact codeAny_compStart_list (loop _ rfl) (T.self _ 0 _ _ _ tn4 (loop _ rfl))
def Kb{cl:List (Str×Addr)}(t:Zz X N sc)(md:X.calm=true\/(J.hot/\RB X.A H2))(S:rG N sc N' scope)(I2:Inv X pins σ H2 s2)(T:B1 X.prog X.w X.K tg J fp it tn)(t0:tn 0 s2.heap)(fo2:∀b∈fp,tD X pins H2 b)(k2:Ok X.K B F2 H2 σ ρ)(JO:xP X.K J F2 ds)(hz:ds.length<sizeLine)(hc1:∀n c,cl.lookup n=some c->X.env.cells.lookup n=some c)(hc2:∀n,(n,NameKind.free)∈scope.names->∃c,cl.lookup n=some c)(run:∀X',Xo X X' N' (wy scope sc) (D4 scope)->VP X' tg elt ifs ds (ρ++List.replicate (N'.length-N.length) .un) rs){RR:Value->Addr->Result->Shared->Prop}(hRR:∀D' C s',RI X pins σ F2 H2 rs D' C s'->RR (.ref D') C (.ok .next) s'):
  dZ X (newList []) (fun acc s₃=>dZ X (newFunctionEnv scope X.env.globals cl [] X.env.qual none .none (some X.env)) (fun cenv s₄=>
   codeAny (model X.prog X.w) X.A (.compStart (.ListComp elt [⟨tg,iter,ifs,0⟩] scope pos) 0 (.ref it) acc { cenv with scope:=relabel scope X.env }) (RR acc cenv.locals) s₄) E s₃) E s2:=by
 have hclb:∀m c,cl.lookup m=some c->c<(s2.heap.push { cls:=.type "list",data:=.seq ([]:fR).toArray }).objs.size:=fun m c e=>by
  obtain⟨v,q⟩:=I2.cell m c (hc1 m c e)
  rw[dY];exact ij q.lt
 refine cf (CK hclb fun cl' h₁ kp₁ Z4 CN=>?_)
 have I3:Inv X pins σ (cE H2 s2.heap.objs.size (.lst [])) { s2 with heap:=s2.heap.push { cls:=.type "list",data:=.seq ([]:fR).toArray } }:=I2.ZY (t':=s2.toks) (ys:=[]) .nil (be _)
 have YM:H2 s2.heap.objs.size=none:=I2.Vl.fresh (aj _)
 have hsz:(s2.heap.push { cls:=.type "list",data:=.seq ([]:fR).toArray }).objs.size=s2.heap.objs.size+1:=by rw[dY]
 have tfp:∀b∈fp,b<s2.heap.objs.size:=fun b hb=>by
  obtain⟨o,e,_⟩:=T.obj 0 _ t0 b hb
  exact aQ e
 refine G6 (s3:={ s2 with heap:=s2.heap.push { cls:=.type "list",data:=.seq ([]:fR).toArray } }) t md S rfl (by
  show s2.heap.objs.size≠(s2.heap.push { cls:=.type "list",data:=.seq ([]:fR).toArray }).objs.size
  rw[hsz];exact bi (eL _)) I3 YM (fun b hb=>?_) (fun b hb=>?_) T (T.keep 0 _ _ t0 fun b hb o e=>Heap.get?_push_of_some _ e) Z4 kp₁ k2 JO hz hc1 hc2 CN run hRR
 ·obtain⟨f0,f1⟩:=fo2 b hb
  exact⟨by rw[aI (bi (tfp b hb))];exact f0,f1⟩
 ·show b<(s2.heap.push { cls:=.type "list",data:=.seq ([]:fR).toArray }).objs.size
  rw[hsz];exact ij (tfp b hb)
end
section
variable {ds rs:aU}
def Mw(t:Zz X N sc)(S:rG N sc N' scope)(I:Inv X pins σ H s):
  ∃cl:List (Str×Addr),closureFor scope X.env=pure cl/\(∀n c,cl.lookup n=some c->X.env.cells.lookup n=some c)/\(∀n,(n,NameKind.free)∈scope.names->∃c,cl.lookup n=some c):=
 EC fun n hn=>I.ok.has n (.inl (by show X.env.scope.names.lookup n=_;rw[t.eS];exact S.free _ hn rfl))
def iS(t:At X N sc)(N':ce)(S:rG N sc N' scope)(hi:YX X ρ tg iter ds)(hz:ds.length<sizeLine)(run:∀X',Yj X X' N' (wy scope sc) (D4 scope)->VP X' tg elt ifs ds (ρ++List.replicate (N'.length-N.length) .un) rs)(hs:∀x,foldedSetIterable iter X.env x=pure x:=by intro _;rfl):U9 X ρ (.ListComp elt [⟨tg,iter,ifs,0⟩] scope pos) rs:=fun B F H σ Q k q=>.mk fun pins s I=>by
 obtain⟨cl,e1,e2,e3⟩:=Mw t.z S I
 rw[eval_ListComp]
 have h1:=hi B F H σ (fun J H1=>∃F1,Ext ⟨F,H⟩ F1 H1/\xP X.K J F1 ds) k (fun J F' H' x j=>⟨F',x,j⟩) pins s I
 refine wpAny_comprehension_free (use:=none) rfl hs e1 S.kind S.names (dk h1 fun v s1 h=>dk h fun itv s2 h2=>?_)
 obtain⟨it,fp,tn,J,H',e,I2,T,t0,fo,F1,x1,JO⟩:=h2
 subst e
 refine Kb (RR:=fun acc C=>compPost (model X.prog X.w) X.A X.xe none (EP X pins σ Q) acc C) t.z (.inl t.calm) S I2 T t0 fo (k.ext x1) JO hz e2 e3 (fun X' c0=>run X' (c0.calm t.calm)) ?_
 rintro D' C s' ⟨F',H'',vs,m,IX,hm,h0,hL,hs0,hcl,hpn,x',hd0,hd,hf,rv,hDC⟩
 refine⟨m,hm,fun h'' sb=>?_⟩
 have IX':Inv X pins σ H'' { s' with heap:=h'' }:=IX.turned (t':=s'.toks) (it:=C) (fun b o hb e=>sb.extBut b o hb e) h0 hL (.inr hs0) hcl hpn
 exact⟨.ref D',H'',IX',rfl,q D' vs F' H'' (x1.t x') (x1.sh.free hd0) hd hf rv⟩
def VP.all(R:D->cn)(f:D->D):∀(ds:aU) (ρ:cn),(∀d∈ds,Xx X ρ tg d (R d))->(∀d∈ds,∀e∈ds,Xx X (R d) tg e (R e))->(∀d∈ds,U1 X (R d) elt (f d))->VP X tg elt [] ds ρ (ds.map f)
 |[],_,_,_,_=>.nil
 |d::ds,ρ,h1,h2,h3=>.take (h1 d bK) (.inl rfl) (h3 d bK)
   (VP.all R f ds (R d) (fun e he=>h2 d bK e (aV _ he)) (fun a ha e he=>h2 a (aV _ ha) e (aV _ he)) fun e he=>h3 e (aV _ he))
end
def Ri(N:ce)(sc:Scope)(N':ce)(scope:Scope):Bool:=
 decide (scope.kind=.function)&&scope.names.all (fun y=>decide (y.2=.cell->scope.names.lookup y.1=some .cell))&&scope.names.all (fun y=>decide (y.2=.local->scope.names.lookup y.1=some .local)) &&
  scope.names.all (fun y=>decide (y.2=.free->sc.names.lookup y.1=some .cell))&&decide (sc.kind=.function)&&decide N'.Nodup &&
  (List.range N.length).all (fun i=>match N'[i]? with
   |some x=>!(dW (wy scope sc) x)||(decide (N[i]?=some x)&&decide (scope.names.lookup x=some .free))
   |none=>true)&&decide (N.length<=N'.length)
def KO{scope:Scope}(h:Ri N sc N' scope=true):rG N sc N' scope:=by
 unfold Ri at h
 simp only[dJ,bh,KJ] at h
 obtain⟨⟨⟨⟨⟨⟨⟨h1,h2⟩,h3⟩,h4⟩,h5⟩,h6⟩,h7⟩,h8⟩:=h
 refine⟨h1,h2,h3,h4,h5,h6,fun i x hi hx hv=>?_,h8⟩
 have q:=h7 i (List.mem_range.mpr hi)
 rw[hx] at q
 simp only[hv,Bool.not_true,Bool.false_or,dJ,bh] at q
 exact q
def EI{X:Cx}{x:Str}(hm:X.mg x=none)(g:ve sc x:=by rfl)(v:bootBuiltins x=some u:=by rfl)(n:x ≠ "__name__" := by decide)(d:qA x:=by rfl):m8 X sc x u:=⟨g,hm,v,n,d⟩
abbrev bU(f:aS):D:=.tup (f.map D.int)
abbrev dI(f:aS):D:=.lst (f.map D.int)
def tu{xs:aS}{i:Int}{n:Nat}(h0:0<=i)(hn:i.toNat=n)(h:n<xs.length):k7 (xs.map D.int) i=some (.int xs[n]):=by
 have e:i=((n:Nat):Int):=by lia
 subst e
 exact ej (by rw[List.getElem?_map,List.getElem?_eq_getElem h];rfl)
def Bj{n:Nat}{i:Int}{j:Nat}(h0:0<=i)(hn:i.toNat=j)(h:j<n):FS n i=some j:=by
 unfold FS
 rw[au h0,au (by lia),hn]
def C3(xs ys:aS):PyData.eqvAll (xs.map PyData.int) (ys.map PyData.int)=decide (xs=ys):=by
 induction xs generalizing ys with
 |nil=>cases ys<;>simp[PyData.eqvAll]
 |cons x xs ih=>
  cases ys with
  |nil=>simp[PyData.eqvAll]
  |cons y ys=>
   simp only[aT,PyData.eqvAll,PyData.eqv,ih]
   by_cases h1:x=y<;>by_cases h2:xs=ys<;>simp[h1,h2]
def hZ(xs ys:aS):(e8 (bU xs)).eqv (e8 (bU ys))=decide (xs=ys):=by
 show(PyData.tuple (Vb (xs.map D.int))).eqv (.tuple (Vb (ys.map D.int)))=_
 rw[io,io]
 simp only[PyData.eqv]
 exact C3 xs ys
def By(xs ys:aS):(PyData.list (Vb (xs.map D.int))).eqv (.list (Vb (ys.map D.int)))=decide (xs=ys):=by
 rw[io,io]
 simp only[PyData.eqv]
 exact C3 xs ys
def Da(xs:aS):PyData.canLayAll0 (xs.map PyData.int)=true:=PySem.W.canLayAll0_ints xs
def bz(xs:aS):SeqAt.shaped (e8 (bU xs))=true:=by
 show SeqAt.shaped (.tuple (Vb (xs.map D.int)))=true
 rw[io]
 have h1:=PySem.W.depthAll_ints xs
 have h2:PyData.depth (.tuple (xs.map PyData.int))<=64:=by simp only[PyData.depth];lia
 show(PyData.canLay0 (.tuple (xs.map PyData.int))&&decide (PyData.depth (.tuple (xs.map PyData.int))<=64))=true
 rw[dJ]
 exact⟨by simp only[PyData.canLay0];exact Da xs,ay h2⟩
def gz(xs:aS):SeqAt.shaped (PyData.list (Vb (xs.map D.int)))=true:=by
 rw[io];exact UX xs
inductive WT:cn->cn->Prop where
 |nil:WT [] []
 |keep {s:Sl} {a b:cn}:WT a b->WT (s::a) (s::b)
 |forget {s:Sl} {a b:cn}:WT a b->WT (s::a) (.un::b)
def WT.len:∀{a b:cn},WT a b->a.length=b.length
 |_,_,.nil=>rfl
 |_,_,.keep h=>bv Nat.succ h.len
 |_,_,.forget h=>bv Nat.succ h.len
def WT.get:∀{a b:cn},WT a b->∀(i:Nat) (s:Sl),b[i]?=some s->s ≠ .un->a[i]?=some s
 |_,_,.nil,_,_,h,_=>by simp at h
 |_,_,.keep h,0,s,e,_=>by simpa using e
 |_,_,.keep h,i+1,s,e,hn=>by simpa using h.get i s (by simpa using e) hn
 |_,_,.forget h,0,s,e,hn=>by simp at e;exact absurd e.symm hn
 |_,_,.forget h,i+1,s,e,hn=>by simpa using h.get i s (by simpa using e) hn
def Ok.weak{K:bW}(k:Ok K B F H σ a)(w:WT a b):Ok K B F H σ b:=
 ⟨k.toExt,k.len.trans w.len,fun i d h=>k.vals i d (w.get i _ h fun z=>nomatch z),fun i xs h=>k.VT i xs (w.get i _ h fun z=>nomatch z),fun i j xs ys p h1 h2=>k.dist i j xs ys p (w.get i _ h1 fun z=>nomatch z) (w.get j _ h2 fun z=>nomatch z),k.Vi.to (.refl _) (fun _ _ e1 e2 _=>⟨e1,e2⟩) fun i kvs h=>⟨w.get i _ h (fun z=>nomatch z),rfl⟩⟩
def U4.weak(h:U4 X ρ Xa (.nx ρ1))(w:WT ρ1 ρ2):U4 X ρ Xa (.nx ρ2):=fun B F H σ E k q=>h B F H σ E k fun F' H' σ' k' s'=>q F' H' σ' (k'.weak w) s'
def U3.eq{b':Bool}(h:U3 X ρ e b)(q:b=b'):U3 X ρ e b':=q ▸ h
def U1.eq{d':D}(h:U1 X ρ e d)(q:d=d'):U1 X ρ e d':=q ▸ h
def U9.eq{d':aU}(h:U9 X ρ e d)(q:d=d'):U9 X ρ e d':=q ▸ h
def W8.eq{d':aU}(h:W8 X ρ e k d)(q:d=d'):W8 X ρ e k d':=q ▸ h
def U4.eq{o':Out}(h:U4 X ρ Xa o)(q:o=o'):U4 X ρ Xa o':=q ▸ h
def Vy.eq{st:Stmt}{o':Out}(h:Vy X ρ st o)(q:o=o'):Vy X ρ st o':=q ▸ h
def Vt.same(ρ:cn):∀(ds:aU),(∀d∈ds,∃ρ1,Xy X ρ tg d ρ1/\U4 X ρ1 body (.nx ρ))->Vt X tg body ds ρ (.nx ρ)
 |[],_=>.nil
 |d::ds,h=>by
  obtain⟨ρ1,h1,h2⟩:=h d bK
  exact .cons h1 h2 (Vt.same ρ ds fun e he=>h e (aV _ he))
def Vt.Y8{ds:aU}(R:Nat->cn)(h:∀(j:Nat) d,ds[j]?=some d->∃ρ1,Xy X (R j) tg d ρ1/\U4 X ρ1 body (.nx (R (j+1)))):Vt X tg body ds (R 0) (.nx (R ds.length)):=by
 have q:=Vt.of (X:=X) (tg:=tg) body R ds 0 fun j d e=>by
  obtain⟨ρ1,h1,h2⟩:=h j d e
  exact⟨ρ1,by simpa using h1,by simpa using h2⟩
 simpa using q
def Vt.VD{ds:aU}{ρ ρ':cn}(R:Nat->cn)(h:∀(j:Nat) d,ds[j]?=some d->∃ρ1,Xy X (R j) tg d ρ1/\U4 X ρ1 body (.nx (R (j+1))))(e0:R 0=ρ)(e1:R ds.length=ρ'):Vt X tg body ds ρ (.nx ρ'):=by
 subst e0;subst e1;exact Vt.Y8 R h
def jN{j:Int}(h1 : -(2 ^ 64)<j)(h2:j<2 ^ 64):IntMulOk i j:=.of_right (intBits_le_64 h1 h2)
def l7{i j:Int}(h1 : -(2 ^ 64)<i)(h2:i<2 ^ 64):IntMulOk i j:=.of_left (intBits_le_64 h1 h2)
def ka(xs:aS)(lo hi:Option Int):aS:=(xs.drop (HT.Vo xs.length 0 lo)).take (HT.Vo xs.length xs.length hi-HT.Vo xs.length 0 lo)
def oZ(xs:aS)(lo hi:Option Int):cutD (xs.map D.int) lo hi=(ka xs lo hi).map D.int:=by
 unfold cutD ka
 rw[ag,List.map_take,List.map_drop]
def J9(xs:aS)(lo hi:Option Int):(ka xs lo hi).length<=xs.length:=by
 unfold ka
 rw[cu,cv]
 lia
def Ix(k:Nat)(n:Int):(List.replicate k [D.int n]).flatten=(List.replicate k n).map D.int:=by
 induction k with
 |zero=>rfl
 |succ k ih=>rw[aA,bj,ih,aA,aT];rfl
def VP.gen{α:Type}(g f:α->D)(R:α->cn):∀(xs:List α) (ρ:cn),(∀x∈xs,Xx X ρ tg (g x) (R x))->(∀x∈xs,∀y∈xs,Xx X (R x) tg (g y) (R y))->(∀x∈xs,U1 X (R x) elt (f x))->VP X tg elt [] (xs.map g) ρ (xs.map f)
 |[],_,_,_,_=>.nil
 |x::xs,ρ,h1,h2,h3=>.take (h1 x bK) (.inl rfl) (h3 x bK)
   (VP.gen g f R xs (R x) (fun e he=>h2 x bK e (aV _ he)) (fun a ha e he=>h2 a (aV _ ha) e (aV _ he)) fun e he=>h3 e (aV _ he))
def BY{xs:aS}{i:Int}(h0:0<=i)(h:i.toNat<xs.length):k7 (xs.map D.int) i=some (.int (xs.getD i.toNat 0)):=by
 rw[tu h0 rfl h,List.getD_eq_getElem?_getD,List.getElem?_eq_getElem h];rfl
def CQ:(sizeLine:Nat)=16777216:=fZ
open AutoSeq1 (wpAny_loadPart')
def uR{Q:tG}{s:Shared}(hit:s.heap.IsTupleIter it t i)(ht:s.heap.IsTuple t items)(hx:items[i]?=some x)(hQ:∀h',h'.IsTupleIter it t (i+1)->Heap.SameBut it s.heap h'->Q x { s with heap:=h' }):wpAny (model prog w) A (Builtin.SmallTypes.nextOf (.ref it)) Q E s:=by
 obtain⟨o,ho,hc,hd⟩:=id hit
 obtain⟨ol,hol,_,nl,X3⟩:=ht
 unfold Builtin.SmallTypes.nextOf
 refine ae (wpAny_callSpecial?_slot (name:=Str.ofString "__next__") hit.typeIs jK (dU jK hit.typeIs Ut ?_ (T8 _)))
 show wpAny _ _ (field (.ref it) 0 >>= _) _ _ s
 refine ae (fk ho hd (x:=.ref t) rfl ?_)
 show wpAny _ _ (if (Value.ref t==Value.none)=true then _ else _) _ _ s
 rw[aq (show ¬((Value.ref t==Value.none)=true) from av)]
 show wpAny _ _ (field (.ref it) 1 >>= _) _ _ s
 refine ae (fk ho hd (x:=.int i 0) rfl ?_)
 show wpAny _ _ (seqItems? (.ref t) >>= _) _ _ s
 refine ae (wpAny_seqItems hol X3 ?_)
 simp only[ba,hx]
 refine ae (Hj ho hd (by simp) (ao ⟨x,rfl,ao (hQ _ ?_ (tJ ..))⟩))
 exact⟨_,Heap.get?_update_self _ ho (Obj.isFreed_of_fields (Obj.data_mapFields hd _)),(Obj.cls_mapFields ..).trans hc,by rw[Obj.data_mapFields hd];simp[rawInt]⟩
def oR{A:Around}{E:tG}{s:Shared}(hh:A.handled=none)(hit:s.heap.IsTupleIter it t i)(ht:s.heap.IsTuple t items)(hx:items[i]?=none)(hE:∀h' e,Heap.ExtBut it s.heap h'->(∃o,h'.get? e=some o/\o.cls=.type "StopIteration")->E (.ref e) { s with heap:=h' }):wpAny (model prog w) A (Builtin.SmallTypes.nextOf (.ref it)) Q E s:=by
 obtain⟨o,ho,hc,hd⟩:=id hit
 obtain⟨ol,hol,_,nl,X3⟩:=ht
 unfold Builtin.SmallTypes.nextOf
 refine ae (wpAny_callSpecial?_slot (name:=Str.ofString "__next__") hit.typeIs jK (dU jK hit.typeIs Ut ?_ (T8 _)))
 show wpAny _ _ (field (.ref it) 0 >>= _) _ _ s
 refine ae (fk ho hd (x:=.ref t) rfl ?_)
 show wpAny _ _ (if (Value.ref t==Value.none)=true then _ else _) _ _ s
 rw[aq (show ¬((Value.ref t==Value.none)=true) from av)]
 show wpAny _ _ (field (.ref it) 1 >>= _) _ _ s
 refine ae (fk ho hd (x:=.int i 0) rfl ?_)
 show wpAny _ _ (seqItems? (.ref t) >>= _) _ _ s
 refine ae (wpAny_seqItems hol X3 ?_)
 simp only[ba,hx]
 refine ae (wpAny_rule (ae (Hj ho hd (by simp) ?_)))
 show wpAny _ _ (newExc (.type "StopIteration") [] >>= _) _ _ _
 refine ae ?_
 simp only[newExc,newTuple]
 refine ae (cf ?_ (by size_fits))
 refine ae (m:=firstArgMember _ _) (fX (a:=Value.none) (by first | rfl | (simp only[firstArgMember];rfl)) ?_)
 refine cf ?_ (by size_fits)
 simp only[raiseNew]
 refine ae (wpAny_handled ?_)
 first | rw[show A.in1.handled=none from hh] | rw[hh]
 refine ae (ao (wpAny_throw ?_))
 exact hE _ _ (((tJ ..).extBut.push _).push _) ⟨_,Heap.get?_push_size _ rfl,rfl⟩
def G4{A:Around}(hh:A.handled=none)(it t:Addr)(Xi:t≠it)(items:Array Value):
  Draws prog w A it [it,t] items.size (fun i v=>items[i]?=some v) (fun i h=>h.IsTupleIter it t i/\h.IsTuple t items) where
 live:=fun _ _ st=>let ⟨o,ho,_⟩:=st.1;⟨o,ho⟩
 frame:=fun _ _ _ st hk=>⟨st.1.at fun o e=>hk it (by simp) o e,let ⟨o,e,r⟩:=st.2;⟨o,hk t (by simp) o e,r⟩⟩
 item:=fun i s Q E hi st hQ=>by
  refine uR st.1 st.2 (x:=items[i]) (by simp[hi]) fun h' hit' hs'=>?_
  exact hQ _ h' s.toks (by simp[hi]) ⟨hit',let ⟨o,e,r⟩:=st.2;⟨o,hs'.extBut t o Xi e,r⟩⟩ hs'
 done:=fun s Q E st hE=>oR hh st.1 st.2 (by simp) hE
def CL(l:Addr)(items:Array Value)(n:Nat)(Wb:Option Addr)(sl:Array (Option Value)):
  Meets (Builtin.«enumerate.__new__» ⟨[.type "enumerate",.ref l],[]⟩) (fun _ R s=>s.heap.get? l=some { cls:=.type "tuple",dict:=Wb,data:=.seq items n,slots:=sl } /\
   R (.ok (.ret (.ref (s.heap.push { cls:=.type "tuple_iterator",data:=.fields #[.ref l,.int 0 0] }).objs.size)))
    { s with heap:=(s.heap.push { cls:=.type "tuple_iterator",data:=.fields #[.ref l,.int 0 0] }).push { cls:=.type "enumerate",data:=.fields #[.none,.bool false,.ref s.heap.objs.size,rawInt 0,.none,.none] } }):=
 .of_wp fun prog w A R s h=>by
  obtain⟨hp,g,d,tk,os⟩:=s;obtain⟨hl,h⟩:=h
  have hsub:=sub_enumerate
  have hL:Heap.IsTuple (Shared.heap ⟨hp,g,d,tk,os⟩) l items:=⟨_,hl,rfl,n,rfl⟩
  wp_walk using iG hl
  refine wpAny_stack_any fun st=>ao ?_
  split
  ·rename_i c _ _ _ _ _
   cases(c==Value.type "enumerate")
   ·wp_walk using iG hl,va hL
    exact⟨_,rfl,h⟩
   ·wp_walk using iG hl,va hL
    exact⟨_,rfl,h⟩
  ·wp_walk using iG hl,va hL
   exact⟨_,rfl,h⟩
def EE{Q:tG}{s:Shared}(hL:s.heap.IsTuple l items)(h:∀h',IsEnum h' (s.heap.objs.size+1) s.heap.objs.size 0 .none->h'.IsTupleIter s.heap.objs.size l 0->h'.objs.size=s.heap.objs.size+2 ->
   (∀b o,s.heap.get? b=some o->h'.get? b=some o)->Q (.ref (s.heap.objs.size+1)) { s with heap:=h' }):wpAny (model prog w) A (call (.type "enumerate") [.ref l]) Q E s:=by
 obtain⟨⟨c,Wb,dt,sl⟩,hl,hc,n,hd⟩:=hL
 replace hc:c=.type "tuple" := hc
 replace hd:dt=.seq items n:=hd
 subst hc hd
 refine callType_new F.called_enumerate (by decide) (F.typeCall_enumerate_1 _) (F.newCall_enumerate_1 _) (fun obj=>F.args_object_init_2 obj _) F.entry_enumerate_new (CL l items n Wb sl) ⟨hl,?_⟩
 have hz:(s.heap.push { cls:=.type "tuple_iterator",data:=.fields #[.ref l,.int 0 0] }).objs.size=s.heap.objs.size+1:=dY ..
 show _/\_
 rw[hz]
 have he:IsEnum ((s.heap.push { cls:=.type "tuple_iterator",data:=.fields #[.ref l,.int 0 0] }).push { cls:=.type "enumerate",data:=.fields #[.none,.bool false,.ref s.heap.objs.size,rawInt 0,.none,.none] }) (s.heap.objs.size+1) s.heap.objs.size 0 .none:=by
  have:=Heap.get?_push_size (s.heap.push { cls:=.type "tuple_iterator",data:=.fields #[.ref l,.int 0 0] }) (o:={ cls:=.type "enumerate",data:=.fields #[.none,.bool false,.ref s.heap.objs.size,rawInt 0,.none,.none] }) rfl
  rw[hz] at this;exact this
 refine⟨⟨_,he,rfl⟩,h _ he ⟨_,Heap.get?_push_of_some _ (Heap.get?_push_size _ rfl),rfl,rfl⟩ (by rw[dY,hz]) fun b o x=>Heap.get?_push_of_some _ (Heap.get?_push_of_some _ x)⟩
def TY(K:bW)(a:Addr):It:=
 ⟨fun i H=>∃xs x,VV K H a xs/\xs[i]?=some x,fun i H x H'=>∃p,H p=none/\x=.ref p/\∀xs,VV K H a xs->∃v,xs[i]?=some v/\H'=cE H p (.tup [.int i,v]),fun i H=>∃xs,VV K H a xs/\xs.length<=i,False⟩
def Inv.turn2{h':Heap}{t':Nat}{e it:Addr}(I:Inv X pins σ H s)(k:∀b o,b≠e->b≠it->s.heap.get? b=some o->h'.get? b=some o)(fe:tD X pins H e)(fi:tD X pins H it):
  Inv X pins σ H { s with heap:=h',toks:=t' }:=by
 obtain⟨e0,e1,e2,e3,e4,e5⟩:=fe
 obtain⟨i0,i1,i2,i3,i4,i5⟩:=fi
 refine I.step (g':=s.gens) (d':=s.drawn) (ch:=[e,it]) (fun b hb=>?_) (fun b o _ _ hc q _=>k b o (fun z=>hc (by simp[z])) (fun z=>hc (by simp[z])) q) (fun b o _ _ hc q _=>⟨o.slots,k b o (fun z=>hc (by simp[z])) (fun z=>hc (by simp[z])) q⟩) (fun _ _ _ _ n=>n)
  (fun b o hc q=>⟨o,k b o (fun z=>hc (by simp[z])) (fun z=>hc (by simp[z])) q⟩) (fun _ _ q=>q) (fun _ _ _ q=>q) (fun b ps q=>⟨#[],by rw[q];simp⟩) (fun m hm=>?_) (fun b u q=>?_) I.bare
 ·rcases aM.mp hb with rfl | hb
  ·exact⟨e3,e1,e4,e5⟩
  ·rw[aE.mp hb];exact⟨i3,i1,i4,i5⟩
 ·obtain⟨o,es,ep,ho,r⟩:=hm
  exact⟨o,es,ep,k _ o (dD e1) (dD i1) ho,r⟩
 ·have ne:∀c v,H c=some v->c≠e/\c≠it:=fun c v q=>⟨(fun z=>by rw[z,e0] at q;cases q),(fun z=>by rw[z,i0] at q;cases q)⟩
  refine(I.Vl b u q).XW (fun c v hc r=>?_) (fun _ r=>r) fun _ _ r=>r
  rcases hc with z | z
  ·subst z;exact k c v (ne c _ q).1 (ne c _ q).2 r
  ·exact k c v (ne c _ z).1 (ne c _ z).2 r
def Inv.track{p:Addr}(I:Inv X pins σ H s)(hp:H p=none)(h1:X.s₀.heap.objs.size<=p)(h2:p≠X.env.locals)(h3:∀x c,X.env.cells.lookup x=some c->c≠p)(h4:∀q∈X.pn++pins,q.1≠p)(new:Ve X.prog X.w (cE H p o) s.heap p o):Inv X pins σ (cE H p o) s:=by
 have old:∀b ob,X.s₀.heap.get? b=some ob->b≠p:=fun b ob e=>bi (bg (aQ e) h1)
 refine⟨I.ok,I.os,I.bare,⟨I.base.keep,I.base.slot,fun b ob e n hx=>by rw[aI (old b ob e)];exact I.base.free b ob e n hx,I.base.there,fun b xs e=>?_,fun b ob u e=>?_,fun b ps e=>?_⟩,I.loc,I.cell,by rw[aI (dD h2)];exact I.free,fun x c e=>by rw[aI (h3 x c e)];exact I.Wv x c e,fun q hq=>?_,fun b u e=>?_,I.len⟩
 ·have q:=I.base.Xu b xs e
  rw[aI (dv q hp)];exact q
 ·have q:=I.base.Xd b ob u e
  rw[aI (dv q hp)];exact q
 ·obtain⟨more,q⟩:=I.base.Xv b ps e
  exact⟨more,by rw[aI (dv q hp)];exact q⟩
 ·obtain⟨a,b,c⟩:=I.pin q hq
  exact⟨a,by rw[aI (h4 q hq)];exact b,c⟩
 ·by_cases hb:b=p
  ·subst hb;rw[aG] at e;cases e;exact new
  ·rw[aI hb] at e
   exact(I.Vl b u e).XW (fun _ _ _ q=>q) (fun c q=>by rw[aI (dv q hp)];exact q) fun c xs q=>by rw[aI (dv q hp)];exact q
def Gz{K:bW}(a e it:Addr)(Xi:e≠it):B1 P w K (.Tuple es x1 pos) (TY K a) [e,it] e (fun i h=>(∃old,IsEnum h e it i old)/\h.IsTupleIter it a i) where
 mem:=by simp
 obj:=fun i h st b hb=>by
  obtain⟨⟨old,he⟩,o,ho,c,d⟩:=st
  rcases aM.mp hb with rfl | hb
  ·exact⟨_,he,fun v z=>by cases z⟩
  ·rw[aE.mp hb]
   exact⟨o,ho,fun v z=>by rw[d] at z;cases z⟩
 keep:=fun i h h' st k=>by
  obtain⟨⟨old,he⟩,hi⟩:=st
  exact⟨⟨old,k e (by simp) _ he⟩,hi.at fun o q=>k it (by simp) o q⟩
 item:=by
  intro X hP hw hK hc i pins s σ H E I hf st hg
  subst hP hw hK
  replace hc:=hc.resolve_right fun z=>z.1
  obtain⟨⟨old,he⟩,hit⟩:=st
  obtain⟨xs,x,hq,hx⟩:=hg
  obtain⟨its,rv,p,hz⟩:=I.tuple hq
  obtain⟨u,hu,ru⟩:=rv.get hx
  have fe:=hf e (by simp)
  have fi:=hf it (by simp)
  have VH:i<its.length:=(List.getElem?_eq_some_iff.mp hu).1
  obtain⟨oa,hoa,hca,na,hda⟩:=id p
  have hae:e≠a:=fun z=>by
   subst z
   rw[he] at hoa;cases hoa
   have z':Value.type "enumerate"=Value.type "tuple" := hca
   injection z' with z2
   exact absurd z2 (by decide)
  have hai:a≠it:=fun z=>by
   subst z
   obtain⟨oi,hoi,hci,_⟩:=hit
   rw[hoa] at hoi;cases hoi
   rw[hca] at hci
   injection hci with z2
   exact absurd z2 (by decide)
  have Dr:=G4 (prog:=X.prog) (w:=X.w) (A:=X.A.in1) (I.ok.hd hc) it a hai its.toArray
  refine wpAny_pyNext_enum_itemD Dr he ⟨hit,p⟩ (by simpa using VH) Xi (by simp[hae,Xi]) fun y h' tk hy ho Z0 hT hsz hk=>?_
  have ey:y=u:=by
   have:its[i]?=some y:=by simpa using hy
   rw[hu] at this;exact(bx this).symm
  subst ey
  refine⟨_,rfl,wpAny_letOwnedTupleGo_enum ho fun h2 he2 sb=>?_⟩
  have hTe:s.heap.objs.size≠e:=qz (aQ he)
  have hTi:s.heap.objs.size≠it:=by
   obtain⟨oi,hoi,_⟩:=id hit
   exact qz (aQ hoi)
  have sb':Heap.SameBut e h' h2:=sb
  have kk:∀b o,b≠e->b≠it->s.heap.get? b=some o->h2.get? b=some o:=fun b o h1 X4 q=>sb'.extBut b o h1 (hk b o h1 X4 q)
  have I1:Inv X pins σ H { s with heap:=h2,toks:=tk+1 }:=Inv.turn2 I kk fe fi
  have hp0:H s.heap.objs.size=none:=I.Vl.fresh (aj _)
  have hT2:h2.get? s.heap.objs.size=some { cls:=.type "tuple",data:=.seq #[.int i tk,y] }:=sb'.extBut _ _ hTe hT
  have I2:Inv X pins σ (cE H s.heap.objs.size (.tup [.int i,x])) { s with heap:=h2,toks:=tk+1 }:=by
   refine Inv.track I1 hp0 I.sz (qz I.lt) (fun z c h=>?_) (fun q hq2 z=>?_) ⟨bq rfl,[.int i tk,y],.cons ⟨tk,rfl⟩ (.cons ru .nil),⟨_,hT2,rfl,0,rfl⟩⟩
   ·obtain⟨v,hv⟩:=I.cell z c h
    exact bi hv.lt
   ·have:=aQ (I.pin q hq2).1
    rw[z] at this;exact absurd this (dL _)
  refine⟨.ref s.heap.objs.size,_,I2,rfl,⟨s.heap.objs.size,hp0,rfl,fun ys hys=>⟨x,by rw[I.Xz hys hq];exact hx,rfl⟩⟩,⟨⟨_,by simpa using he2⟩,Z0.1.at fun o q=>sb'.extBut it o (dD Xi) q⟩,fun b hb=>?_⟩
  have bT:b≠s.heap.objs.size:=by
   rcases aM.mp hb with rfl | hb
   ·exact dD hTe
   ·rw[aE.mp hb];exact dD hTi
  rw[aI bT];exact(hf b hb).1
 done:=by
  intro X hP hw hK hc i pins s σ H E I hf st hg
  subst hP hw hK
  replace hc:=hc.resolve_right fun z=>z.1
  obtain⟨⟨old,he⟩,hit⟩:=st
  obtain⟨xs,hq,hx⟩:=hg
  obtain⟨its,rv,p,hz⟩:=I.tuple hq
  have fi:=hf it (by simp)
  obtain⟨f0,f1,f2,f3,f4,f5⟩:=fi
  have hl:=rv.length
  have hT:s.TypeIs (.ref e) "enumerate" := ⟨_,he,rfl⟩
  unfold pyNext
  refine ae (KQ (wpAny_callSpecial?_slot (name:=Str.ofString "__next__") hT F.slot_enumerate_next (dU F.slot_enumerate_next hT F.entry_enumerate_next ?_ (F.args_enumerate_next_1 _))))
  show wpAny _ _ (field (.ref e) 2 >>= _) _ _ _
  refine ae (fk he rfl (x:=.ref it) rfl ?_)
  refine ae (oR (I.ok.hd hc) hit p (by simp;lia) fun h' x he' Zh=>?_)
  obtain⟨o,ho,XA⟩:=Zh
  refine ae (B5 (T := "StopIteration") (b:=true) ⟨o,ho,XA⟩ UM ?_)
  exact ao ⟨rfl,I.turned (t':=s.toks) (fun b o hb e=>he' b o hb e) f0 f1 f3 f4 f5⟩
 self:=fun _ _ s Q E st h=>by
  obtain⟨⟨old,he⟩,hit⟩:=st
  exact wpAny_pyIter_enum he h
def Q0(K:bW)(ta:TA):TI:=fun σ H R=>ta σ H fun vs H1=>∃a,vs=[.ref a]/\(∃xs,VV K H1 a xs)/\R (TY K a) H1
def LC(hg:Gl X "enumerate")(hm:X.mg "enumerate"=none)(hl:PA X [a] ta)(hs:Pl a):PI X (.Tuple es x1 tp) (.Call (.Name "enumerate" p) [a] [] pos) (Q0 X.K ta):=by
 intro pins s σ H R I h
 refine Call_ (xi I hg hm (show bootBuiltins "enumerate"=some (.type "enumerate") by decide) (qx (dk (hl pos pins s σ H _ I h) fun us s1 ⟨vs,H1,I1,r1,q1⟩=>?_) (hs _ _) rfl))
 obtain⟨l,rfl,⟨xs,hq⟩,q⟩:=q1
 obtain⟨u,rfl,ru⟩:=iW r1
 cases(show u=Value.ref l from ru)
 obtain⟨its,rv,pt,hz⟩:=I1.tuple hq
 refine EE pt fun h' he hi hsz kp=>?_
 have I2:Inv X pins σ H1 { s1 with heap:=h' }:=I1.kept (t':=s1.toks) kp
 refine wpAny_pyIter_enum he ?_
 have fr:∀b,s1.heap.objs.size<=b->tD X pins H1 b:=fun b hb=>I1.Ym hb (I1.Vl.fresh hb)
 refine⟨s1.heap.objs.size+1,[s1.heap.objs.size+1,s1.heap.objs.size],_,_,H1,rfl,I2,Gz l _ _ (qz (eL _)),⟨⟨_,he⟩,hi⟩,fun b hb=>?_,q⟩
 rcases aM.mp hb with rfl | hb
 ·exact fr _ (by lia)
 ·rw[aE.mp hb];exact fr _ (aj _)
def Az(ds:aU):aU:=(List.range ds.length).map fun(i:Nat)=>.tup [.int (i:Int),ds.getD i .Vs]
def mf{i:Nat}(h:(Az ds)[i]?=some d):∃e,ds[i]?=some e/\d=.tup [.int (i:Int),e]:=by
 unfold Az at h
 rw[List.getElem?_map] at h
 by_cases hi:i<ds.length
 ·rw[List.getElem?_range hi] at h
  cases h
  exact⟨ds[i],List.getElem?_eq_getElem hi,by show D.tup [D.int (i:Int),ds.getD i .Vs]=_;rw[List.getD_eq_getElem?_getD,List.getElem?_eq_getElem hi];rfl⟩
 ·rw[List.getElem?_eq_none (by simpa using hi)] at h;cases h
def me:(Az ds).length=ds.length:=by simp[Az]
def OP{K:bW}{F:Hp}{l:Addr}(hf:F l=some (.tup vs))(r:U2 K F vs ds):xP K (TY K l) F (Az ds):=fun i F2 H2 s1 s2=>
 ⟨fun d hd=>by
  obtain⟨e,he,rfl⟩:=mf hd
  obtain⟨v,hv,rv⟩:=r.get he
  have sq:VV K H2 l vs:=VV.of (s2 _ _ (s1 _ _ hf))
  refine⟨⟨vs,v,sq,hv⟩,fun x H' y=>?_⟩
  obtain⟨p,hp,rfl,y⟩:=y
  obtain⟨v',hv',rfl⟩:=y vs sq
  rw[hv] at hv';cases hv'
  exact⟨_,(Ext.refl s2).grow hp,.tup aG (.cons (.int _) (.cons ((rv.mono s1).mono (aL (s2.free hp))) .nil))⟩,fun h=>⟨vs,VV.of (s2 _ _ (s1 _ _ hf)),by rw[r.length];rw[me] at h;exact h⟩⟩
def v4(t:At X N sc)(bl:m8 X sc "enumerate" (.type "enumerate"))(h:U1 X ρ a (.tup ds))(hs:Pl a:=by intro _ _;rfl):YX X ρ (.Tuple es x1 tp) (.Call (.Name "enumerate" p) [a] [] pos) (Az ds):=
 .of (LC (dj t bl.g) bl.m (bw aN cK (hs _ _)) hs) fun B F H σ R k q=>h B F H σ _ k fun v F' H' x r=>by
  cases r with
  |tup hf rl=>exact⟨_,rfl,⟨_,VV.of (x.sub _ _ hf)⟩,q _ F' H' x (OP hf rl)⟩
abbrev vB:fR:=[.type "ValueError",.type "Exception",.type "BaseException",.type "object"]
def UH(h base:Heap)(e C:Addr)(fl:Value):Prop:=
 ∃(oe:Obj) (vs:Array Value) (T:Addr) (oT:Obj) (ts:Array Value),h.get? e=some oe/\oe.cls=.ref C/\oe.data=.fields vs/\vs[1]?=some (.ref T)/\vs[2]?=some .none/\base.get? T=none/\T≠e/\h.get? T=some oT/\oT.data=.fields ts/\ts[3]?=some fl
def T1(base:Heap)(l:List Env)(e C:Addr)(fl:Value)(h:Heap):Prop:=base.StaysIn h/\base.get? e=none/\h.FunFrames base l/\UH h base e C fl
structure UK(P:Program)(w:World)(l:List Env)(H:Hp)(s:Shared)(H':Hp)(C:Addr)(e:Value)(s':Shared):Prop where
 ex:∃(ea:Addr) (B:Heap),e=.ref ea/\T1 B l ea C .none s'.heap/\Xf P w H' B /\
  (∀b o,s.heap.get? b=some o->H b=none->b∉mn l->B.get? b=some o)/\(∀b o,s.heap.get? b=some o->b∉mn l->∃o',B.get? b=some o')
 os:s'.os=s.os
 bare:AllBare s'.gens
 slot:∀b o,s.heap.get? b=some o->H b=none->b∈mn l->∃sl,s'.heap.get? b=some { o with slots:=sl }
 free:∀b o,s.heap.get? b=some o->H b=none->H' b=none
 Xu:∀b xs,H b=some (.tup xs)->H' b=some (.tup xs)
 Xd:∀b o u,H b=some (.WA o u)->H' b=some (.WA o u)
 Xv:∀b ps,H b=some (.Zb ps)->∃more,H' b=some (.Zb (ps++more))
inductive ES(X:Cx)(m:Bool)(H:Hp)(s:Shared)(H':Hp)(C:Addr)(e:Value)(s':Shared):Prop where
 |fly:UK X.prog X.w X.stack H s H' C e s'->ES X m H s H' C e s'
 |made {ea:Addr} {vs:fR}:m=true->H'=H->e=.ref ea->Heap.MadeExcOf s.heap s'.heap ea (.ref C) vs->s'.os=s.os->s'.gens=s.gens->ES X m H s H' C e s'
def XP(X:Cx)(m:Bool)(pins:gc)(B:B0)(F:Hp)(ρ':cn)(C:Addr)(e:Value)(s':Shared):Prop:=
 ∃(σ1:St) (H1:Hp) (s1:Shared) (F' H':Hp),Inv X pins σ1 H1 s1/\Ok X.K B F' H' σ1 ρ'/\U8 F F'/\ES X m H1 s1 H' C e s'
section
variable {ds:aU}{st:Stmt}{bF:List Stmt}
def GF(K:bW)(C:Addr)(R:aU->Prop):Sp:=fun vs H _ E=>∃F ds,U8 F H/\U2 K F vs ds/\R ds/\∀F' H',Ext ⟨F,H⟩ F' H'->E (.ref C) none H'
end
def Rc{it l:Addr}(Xi:l≠it):∀(n i:Nat) (s:Shared) (Q:fR->Shared->Prop),s.heap.IsListIter it l i->s.heap.IsList l xs->i+n<=xs.size ->
  (∀h',h'.IsListIter it l (i+n)->Heap.SameBut it s.heap h'->Q ((xs.toList.drop i).take n) { s with heap:=h' })->wpAny (model prog w) A (draw (.ref it) n) Q E s:=by
 intro n
 induction n with
 |zero=>
  intro i s Q hit _ _ hQ
  have z:=hQ s.heap hit (Heap.SameBut.refl ..)
  rw[eY] at z
  exact ao z
 |succ n ih=>
  intro i s Q hit hl hle hQ
  have VH:i<xs.size:=bg (Nat.lt_succ_of_le (Nat.le_add_right i n)) hle
  have hx:xs[i]?=some xs[i]:=Array.getElem?_eq_getElem VH
  show wpAny _ _ (pyNext (.ref it) >>= _) Q E s
  refine ae (wpAny_pyNext_list_item hit hl hx fun h1 Z6 Zi=>ae (cp (ih (i+1) _ _ Z6 (hl.extBut Zi.extBut Xi) (by lia) fun h2 hit2 YI=>ao ?_)))
  have e1:xs.toList.drop i=xs[i]::xs.toList.drop (i+1):=by rw[bY (by simpa using VH)];simp
  have z:=hQ h2 (by rw[show i+(n+1)=i+1+n by lia];exact hit2) (Zi.trans YI)
  rw[e1,List.take_succ_cons] at z
  exact z
def tw{s:Shared}{A:Around}{env:Env}{Q:Unit->Shared->Prop}(hh:A.handled=none)(hl:s.heap.IsList l xs)(hn:(assignEach elts env).length=xs.size)(hstar:(assignEach elts env).findIdx? (·.1)=none)(h:∀h',Heap.ExtBut s.heap.objs.size s.heap h'->wpAny (model prog w) A (assignInOrder ((assignEach elts env).map (·.2)) xs.toList) Q E { s with heap:=h' }):
  wpAny (model prog w) A (assign (.Tuple elts x1 pos) env (.ref l)) Q E s:=by
 have ne:l≠s.heap.objs.size:=by obtain⟨o,ho,_⟩:=hl;exact bi (aQ ho)
 rw[assign_Tuple]
 refine ae (qP ?_)
 unfold unpack
 rw[hn,hstar]
 refine ae (cp ?_)
 unfold unpackItems
 refine ae ?_
 unfold notIterableAtAll
 refine ae (T2 hl.typeIs slot_list_iter.lookup (ao ?_))
 simp only[EW,B7]
 refine ae (cp (PF hl ?_))
 refine ae (cp (Rc ne xs.size 0 _ _ ⟨_,Heap.get?_push_size _ rfl,rfl,rfl⟩ (hl.push _) (lM (xT _)) fun h1 Z6 Zi=>?_))
 have all:(xs.toList.drop 0).take xs.size=xs.toList:=by rw[Ca];exact bP (by simp)
 rw[all,aq (by simp)]
 refine ae (cp (wpAny_pyNext_list_end hh Z6 ((hl.push _).extBut Zi.extBut ne) (by simp) fun h2 he2=>?_))
 simp only[Option.isSome_none,EW,B7]
 exact ao (h h2 fun b o hb e=>he2 b o hb (Zi.extBut b o hb (Heap.get?_push_of_some _ e)))
def Tn(K:bW)(n:Nat)(t:MD):TG:=fun v σ H Q=>∃a xs,v=.ref a/\VE K H a xs/\xs.length=n/\t xs σ H Q
def Oc{X:Cx}{n:Nat}{t:MD}(hc:X.calm=true)(h:PZ X es t)(hn:(assignEach es X.env).length=n:=by rfl)(Z0:(assignEach es X.env).findIdx? (·.1)=none:=by rfl):PG X (.Tuple es k pos) (Tn X.K n t):=by
 intro pins s σ H v u Q I r hw
 obtain⟨a,xs,e1,hq,hl,hw⟩:=hw
 subst e1
 cases r
 obtain⟨its,rv,ht,hz⟩:=I.list hq
 have len:(assignEach es X.env).length=its.toArray.size:=by rw[hn,<-hl,rv.length];simp
 refine tw (I.ok.hd hc) ht.isList len Z0 fun h' hx=>?_
 have I1:Inv X pins σ H { s with heap:=h' }:=I.kept (t':=s.toks) fun b o e=>hx b o (bi (aQ e)) e
 exact h pins _ σ H xs _ Q I1 (by simpa using rv) hw
structure T9(X:Cx)(es:rL)(vs:df)(σ:St)(H:Hp)(Q:St->Hp->Prop):Prop where
 go:∀(pins:gc) (s:Shared) (us:fR),Inv X pins σ H s->Vals vs us->dZ X (assignInOrder ((assignEach es X.env).map (·.2)) us) (fun _ s'=>∃σ' H',Inv X pins σ' H' s'/\Q σ' H') X.xe s
def IK:PZ X es (T9 X es):=fun pins s _ _ _ us _ I r h=>h.go pins s us I r
def KA(X:Cx)(ρ:cn)(es:rL)(ds:aU)(ρ':cn):Prop:=((∀env,(assignEach es env).length=ds.length)/\∀env,(assignEach es env).findIdx? (·.1)=none)/\∀(B:B0) (F H:Hp) (σ:St) (vs:df) (Q:St->Hp->Prop),Ok X.K B F H σ ρ->U2 X.K F vs ds ->
 (∀F' H' σ',Ok X.K B F' H' σ' ρ'->U8 F F'->Q σ' H')->T9 X es vs σ H Q
def UJ(e:Expr):Prop:=∀(es:rL) (env:Env),assignEach (e::es) env=(false,assign e env)::assignEach es env
def dR:KA X ρ [] [] ρ:=⟨⟨fun _=>rfl,fun _=>rfl⟩,fun B F H σ vs Q k r q=>.mk fun pins s us I ru=>by
 cases r
 exact Fz pins s σ H [] us Q I ru ⟨rfl,q F H σ k (.refl _)⟩⟩
def bu(h1:Xy X ρ e d ρ1)(h2:KA X ρ1 es ds ρ')(hs:UJ e:=by intro _ _;rfl):KA X ρ (e::es) (d::ds) ρ':=⟨⟨fun env=>by rw[hs es env,bc,bc,h2.1.1 env],fun env=>by
  rw[hs es env,List.findIdx?_cons]
  simp[h2.1.2 env]⟩,fun B F H σ vs Q k r q=>.mk fun pins s us I ru=>by
 cases r with
 |cons r1 r2=>
  refine wP D1 IK (by rw[hs es X.env];rfl) pins s σ H _ us Q I ru ⟨_,_,rfl,?_⟩
  exact h1 B F H σ _ _ k r1 fun F1 H1 σ1 k1 s1=>h2.2 B F1 H1 σ1 _ _ k1 (r2.mono s1) fun F2 H2 σ2 k2 s2=>q F2 H2 σ2 k2 (s1.trans s2)⟩
def gC(t:At X N sc)(h:KA X ρ es ds ρ'):Xy X ρ (.Tuple es k pos) (.tup ds) ρ':=
 .of (IL (n:=ds.length) t.calm IK (h.1.1 _) (h.1.2 _)) fun B F H σ v Q k r q=>by
  cases r with
  |tup hf rl=>exact⟨_,_,rfl,VV.of (k.sub _ _ hf),rl.length,h.2 B F H σ _ Q k rl q⟩
def J3(t:At X N sc)(h:KA X ρ es ds ρ'):Xy X ρ (.Tuple es k pos) (.lst ds) ρ':=
 .of (Oc (n:=ds.length) t.calm IK (h.1.1 _) (h.1.2 _)) fun B F H σ v Q k r q=>by
  cases r with
  |lst hf rl=>exact⟨_,_,rfl,VE.of (k.sub _ _ hf),rl.length,h.2 B F H σ _ Q k rl q⟩
open AutoSeq1 (wpAny_loadPart')
section
variable {ds:aU}{st:Stmt}{bF:List Stmt}
def LG:lP X (binaryOp .Sub) (fun x y H Q=>∃k j:Bool,x=.bl k/\y=.bl j/\Q (.int (b2i k-b2i j)) H):=by
 intro pins s σ H x y v u Q I rx ry h
 obtain⟨k,j,rfl,rfl,q⟩:=h
 cases rx
 cases ry
 exact sub_bool ⟨.int (b2i k-b2i j),H,I.tok _,⟨_,rfl⟩,q⟩
def L9(ha:U1 X ρ a (.bl k))(hb:U1 X ρ b (.bl j)):U1 X ρ (.BinOp a .Sub b pos) (.int (b2i k-b2i j)):=
 .of (l5 LG aN aN) fun B F H σ Q k' q=>two ha hb k' fun x y F' H' x' rx ry=>by
  cases rx;cases ry
  exact⟨k,j,rfl,rfl,q _ F' H' x' (.int _)⟩
def Ib{xs:aU}{apos U7:Pos}{ρ:cn}{pos:Pos}[XI X](t:At X N sc)(i j:Nat)(hr:ρ[i]?=some (.own (xs++[d])))(hij:i≠j)(hN:N[i]?=some y:=by rfl)(hv:dW sc y=true:=by rfl)(hx:cm y=true:=by rfl)(hj:N[j]?=some x:=by rfl)(hl:mW sc x=true:=by rfl)(Vk:(apos.endLine==U7.line)=true:=by rfl)(hs:swapsWith (.Call (.Attribute (.Name y p) "pop" apos) [] [] U7) (some (.Name x pos')) pos.line X.env=pure false:=by rfl):
  Vy X ρ (.Assign [.Name x pos'] (.Call (.Attribute (.Name y p) "pop" apos) [] [] U7) pos) (.nx ((ρ.set i (.own xs)).set j (.val d))):=
 .of (oK (i:=j) t.nd (t.ix hj) (t.loc hl) (wR bV mr mq A6 aN rfl Vk) hs GZ) fun B F H σ E k q=>
  oP t hr hN hv hx k fun l vs h1 h2 h3=>⟨.inl ⟨rfl,_,VE.of h2⟩,by
   have hlen:=h3.length
   obtain⟨w,hw,WH⟩:=h3.get (i:=xs.length) (d:=d) (by simp)
   have hll:vs.length-1=xs.length:=by rw[hlen];simp
   refine⟨l,vs,w,rfl,rfl,h2,by rw[hll];exact hw,?_⟩
   have k2:=k.W3 (vs:=vs) (ds:=xs) hr h1 (by have:=h3.dropLast;rwa [oj] at this)
   exact q F _ _ (k2.Vx j WH) (.refl _)⟩
end
end L2.EV
namespace HT
open PySem PyProof.Rows PySem.Spec
variable {K:bW}{ds:aU}
def YD(xs:Array Value):((List.range xs.size).filterMap fun(m:Nat)=>xs[((xs.size:Int)-1+(m:Int)*(-1)).toNat]?).toArray=xs.toList.reverse.toArray:=by
 have cong:∀(f g:Nat->Option Value) (l:bN),(∀m∈l,f m=g m)->l.filterMap f=l.filterMap g:=by
  intro f g l
  induction l with
  |nil=>intro _;rfl
  |cons m l ih=>
   intro h
   have h1:=ih fun m hm=>h m (aV _ hm)
   rw[jp,jp,h m (bK ..),h1]
 have h2:∀(n:Nat) (r:fR),r.length=n->(List.range r.length).filterMap (fun m=>r[m]?)=r:=by
  intro n
  induction n with
  |zero=>intro r hr;rw[aB hr];rfl
  |succ n ih=>
   intro r hr
   rcases cy r with e | ⟨ys,y,e⟩
   ·subst e;simp at hr
   ·rw[cz] at e
    subst e
    have hl:ys.length=n:=by simpa using hr
    rw[ac,bI,xX,Ur]
    have e1:=cong (fun m=>(ys++[y])[m]?) (fun m=>ys[m]?) (List.range ys.length) fun m hm=>List.getElem?_append_left (List.mem_range.mp hm)
    rw[e1,ih ys hl]
    congr 1
    simp
 have key:∀l:fR,(List.range l.length).filterMap (fun(m:Nat)=>l[((l.length:Int)-1+(m:Int)*(-1)).toNat]?)=l.reverse:=by
  intro l
  have h1:=cong (fun(m:Nat)=>l[((l.length:Int)-1+(m:Int)*(-1)).toNat]?) (fun m=>l.reverse[m]?) (List.range l.length) fun m hm=>by
   have hm':=List.mem_range.mp hm
   show l[((l.length:Int)-1+(m:Int)*(-1)).toNat]?=l.reverse[m]?
   rw[List.getElem?_reverse hm']
   congr 1;lia
  rw[h1]
  have:=h2 _ l.reverse rfl
  rw[fQ] at this
  exact this
 have:=key xs.toList
 rw[bX] at this
 have e:(fun(m:Nat)=>xs.toList[((xs.size:Int)-1+(m:Int)*(-1)).toNat]?)=fun(m:Nat)=>xs[((xs.size:Int)-1+(m:Int)*(-1)).toNat]?:=by
  funext m;exact Array.getElem?_toList
 rw[e] at this
 rw[this]
end HT
namespace L2.EV
open PySem PySem.Spec PyProof.Rows
variable {K:bW}{ds:aU}
def US(F:Hp)(p:Addr):Hp:=fun a=>if a=p then none else F a
end L2.EV
namespace L2
open PySem PySem.Spec PyProof.Rows
variable {K:bW}{ds:aU}
end L2
namespace L2.EV
open PySem PySem.Spec PyProof.Rows
variable {K:bW}{ds:aU}
section
variable {e:DictEntry}
def EB{s:Shared}{Q:Option Value->Shared->Prop}(hit:s.heap.IsKeyIter it d i n ep)(hd:s.heap.get? d=some o)(ho:o.data=.dict es ep)(hn:es.size=n)(he:es[i]?=some e)(hQ:∀h',h'.IsKeyIter it d (i+1) n ep->Heap.SameBut it s.heap h'->Q (some e.key) { s with heap:=h' }):wpAny (model prog w) A (pyNext (.ref it)) Q E s:=by
 have hT:s.TypeIs (.ref it) "dict_keyiterator" := hit.typeIs
 obtain⟨⟨cl,di,da,sl⟩,h1,h2,h3⟩:=id hit
 replace h2:cl=_:=h2
 replace h3:da=_:=h3
 subst h2 h3
 unfold pyNext
 refine ae (KQ (wpAny_callSpecial?_slot (name:=Str.ofString "__next__") hT iH (dU iH hT Sb ?_ (RO _))))
 show wpAny _ _ (Builtin.Dict_items.slot0 "__next__" { pos:=[Value.ref it] } >>= _) _ _ s
 refine ae (fX (a:=Value.ref it) (by rfl) ?_)
 show wpAny _ _ (((typeNameOfWhole (.ref it) >>= _) >>= _) >>= _) _ _ s
 refine ae (ae (ae (ii hT ?_)))
 refine ao ?_
 refine ae (wpAny_fieldsOf h1 rfl ?_)
 show wpAny _ _ (Builtin.Dict_items.addrOf (.ref d) >>= _) _ _ s
 refine ae (fX (a:=d) (by rfl) ?_)
 refine ae (fY hd ho ?_)
 dsimp only
 rw[aq (by rw[hn];simp)]
 refine ae (fX (a:=d) (by rfl) ?_)
 refine ae (DC hd ho ?_)
 rw[aq (by simp)]
 refine ao ?_
 dsimp only
 rw[aq (by lia),ba,he]
 dsimp only
 show wpAny _ _ ((typeNameOfWhole (.ref it) >>= _) >>= _) _ _ s
 refine ae (ae (ii hT ?_))
 refine ao ?_
 refine ae (wpAny_isOneOf_keyiter hT ?_)
 refine ae (Hj h1 rfl (show 1<4 by decide) ?_)
 show wpAny _ _ _ _ _ { s with heap:=s.heap.update it (Obj.mapFields fun ZK=>ZK.setIfInBounds 1 (rawInt (i+1))) }
 have e2:=Heap.get?_update_self (Obj.mapFields fun ZK=>ZK.setIfInBounds 1 (rawInt (i+1))) h1 (by rfl)
 have hT':Shared.TypeIs { s with heap:=s.heap.update it (Obj.mapFields fun ZK=>ZK.setIfInBounds 1 (rawInt (i+1))) } (.ref it) "dict_keyiterator" := ⟨_,e2,rfl⟩
 refine ae (cp ?_)
 show wpAny _ _ (Builtin.Dict_items.isOneOf (.ref it) ["dict_keyiterator", "dict_reversekeyiterator"] >>= _) _ _ _
 refine ae (wpAny_isOneOf_keyiter hT' ?_)
 rw[au (by decide)]
 refine ao ?_
 refine ao ⟨_,rfl,?_⟩
 refine ao ?_
 refine hQ _ ⟨_,e2,rfl,rfl⟩ ⟨Heap.size_update _ _ _,fun b hb=>Heap.get?_update_other _ _ (dD hb)⟩
def G5{A:Around}{s:Shared}{Q:Option Value->Shared->Prop}(hh:A.handled=none)(hit:s.heap.IsKeyIter it d i n ep)(hd:s.heap.get? d=some o)(ho:o.data=.dict es ep)(hn:es.size=n)(he:es[i]?=none)(hQ:∀h',Heap.ExtBut it s.heap h'->Q none { s with heap:=h' }):wpAny (model prog w) A (pyNext (.ref it)) Q E s:=by
 have hT:s.TypeIs (.ref it) "dict_keyiterator" := hit.typeIs
 obtain⟨⟨cl,di,da,sl⟩,h1,h2,h3⟩:=id hit
 replace h2:cl=_:=h2
 replace h3:da=_:=h3
 subst h2 h3
 unfold pyNext
 refine ae (KQ (wpAny_callSpecial?_slot (name:=Str.ofString "__next__") hT iH (dU iH hT Sb ?_ (RO _))))
 show wpAny _ _ (Builtin.Dict_items.slot0 "__next__" { pos:=[Value.ref it] } >>= _) _ _ s
 refine ae (fX (a:=Value.ref it) (by rfl) ?_)
 show wpAny _ _ (((typeNameOfWhole (.ref it) >>= _) >>= _) >>= _) _ _ s
 refine ae (ae (ae (ii hT ?_)))
 refine ao ?_
 refine ae (wpAny_fieldsOf h1 rfl ?_)
 show wpAny _ _ (Builtin.Dict_items.addrOf (.ref d) >>= _) _ _ s
 refine ae (fX (a:=d) (by rfl) ?_)
 refine ae (fY hd ho ?_)
 dsimp only
 rw[aq (by rw[hn];simp)]
 refine ae (fX (a:=d) (by rfl) ?_)
 refine ae (DC hd ho ?_)
 rw[aq (by simp)]
 refine ao ?_
 dsimp only
 rw[aq (by lia),ba,he]
 dsimp only
 show wpAny _ _ ((typeNameOfWhole (.ref it) >>= _) >>= _) _ _ s
 refine ae (ae (ii hT ?_))
 refine ao ?_
 refine ae (Hj h1 rfl (show 0<4 by decide) ?_)
 show wpAny _ _ _ _ _ { s with heap:=s.heap.update it (Obj.mapFields fun ZK=>ZK.setIfInBounds 0 Value.none) }
 refine ae ?_
 simp only[newExc,newTuple]
 refine ae (cf ?_ (by size_fits))
 refine ae (m:=firstArgMember _ _) (fX (a:=Value.none) (by first | rfl | (simp only[firstArgMember];rfl)) ?_)
 refine cf ?_ (by size_fits)
 simp only[raiseNew]
 refine ae (wpAny_handled ?_)
 rw[show A.in1.handled=none from hh]
 dsimp only
 refine wpAny_throw ?_
 refine ae (B5 (T := "StopIteration") (b:=true) ⟨_,Heap.get?_push_size _ rfl,rfl⟩ UM ?_)
 refine ao (hQ _ fun b o hb q=>?_)
 exact Heap.get?_push_of_some _ (Heap.get?_push_of_some _ (by rw[Heap.get?_update_other _ _ (dD hb)];exact q))
def Re{Q:tG}{s:Shared}{d:Addr}(hs:(d==sysModules)=false)(hd:s.heap.get? d=some o)(hx:o.ExactDict)(ho:o.data=.dict es ep)(hQ:Q (.ref s.heap.objs.size) { s with heap:=s.heap.push { cls:=.type "dict_keyiterator",data:=.fields #[.ref d,rawInt 0,rawInt es.size,rawInt ep] } }):wpAny (model prog w) A (pyIter (.ref d)) Q E s:=by
 have hT:s.TypeIs (.ref d) "dict" := ⟨o,hd,hx.1⟩
 refine wpAny_pyIter_slot hT F.slot_dict_iter (dU F.slot_dict_iter hT F.entry_dict_iter ?_ (F.args_dict_iter_1 _))
 unfold Builtin.«dict.__iter__»
 show wpAny _ _ ((Builtin.Dict.notOrdered "__iter__" { pos:=[Value.ref d] } >>= _) >>= _) _ _ s
 refine ae (ae ?_)
 unfold Builtin.Dict.notOrdered
 rw[au (by decide)]
 refine ae (Dv hT ?_)
 rw[aq (by decide)]
 refine ao ?_
 refine ae (fX (a:=(Value.ref d,[])) (by rfl) ?_)
 refine ao ?_
 refine ae (fX (a:=d) (by rfl) ?_)
 unfold Builtin.Dict.showsAll
 rw[aq (by rw[hs];decide)]
 refine ae (ao ?_)
 refine ae (fY hd ho ?_)
 refine ae (DC hd ho ?_)
 refine ae ?_
 unfold newFields
 refine cf ?_ (by size_fits)
 refine ao ⟨_,rfl, "dict_keyiterator",_,⟨_,Heap.get?_push_size _ rfl,rfl⟩,by rfl,hQ⟩
end
abbrev eG:=List (aS×Int)
abbrev AH:=List (aS×Addr×Int)
def c7(kvs:eG)(k:aS):Option Int:=(kvs.find? fun p=>decide (p.1=k)).map (·.2)
def gK(kvs:eG)(k:aS)(n:Int):eG:=if (c7 kvs k).isSome=true then kvs.map (fun p=>if p.1=k then (p.1,n) else p) else kvs++[(k,n)]
def Dz(xs:AH)(k:aS)(b:Addr)(n:Int):AH:=if (xs.find? fun p=>decide (p.1=k)).isSome=true then xs.map (fun p=>if p.1=k then (p.1,p.2.1,n) else p) else xs++[(k,b,n)]
abbrev kv(x:aS×Addr×Int):aS×Int:=(x.1,x.2.2)
def AK(xs:AH)(k:aS):c7 (xs.map kv) k=(xs.find? fun p=>decide (p.1=k)).map (·.2.2):=by
 unfold c7
 induction xs with
 |nil=>rfl
 |cons x xs ih=>
  rw[aT,List.find?_cons,List.find?_cons]
  by_cases h:x.1=k
  ·simp[kv,h]
  ·have h':decide ((kv x).1=k)=false:=by simp[kv,h]
   have h2:decide (x.1=k)=false:=by simp[h]
   rw[h'];exact ih
def Lu(xs:AH)(k:aS)(b:Addr)(n:Int):gK (xs.map kv) k n=(Dz xs k b n).map kv:=by
 unfold gK Dz
 rw[AK,Option.isSome_map]
 by_cases h:(xs.find? fun p=>decide (p.1=k)).isSome=true
 ·rw[au h,au h,cM,cM]
  refine qm fun x _=>?_
  show(if x.1=k then (x.1,n) else kv x)=kv (if x.1=k then (x.1,x.2.1,n) else x)
  by_cases e:x.1=k
  ·rw[au e,au e]
  ·rw[aq e,aq e]
 ·rw[aq h,aq h,aJ];rfl
abbrev Vv:AH->List (aS×Addr×Value)->Prop:=Paired fun(x:aS×Addr×Int) (y:aS×Addr×Value)=>y.1=x.1/\y.2.1=x.2.1/\RelV (.int x.2.2) y.2.2
def Vv.at{ys:List (aS×Addr×Value)}(r:Vv xs ys)(k:aS):((xs.find? fun p=>decide (p.1=k))=none->atKey ys k=none)/\∀x,(xs.find? fun p=>decide (p.1=k))=some x->∃v,atKey ys k=some (x.2.1,v)/\RelV (.int x.2.2) v:=by
 induction r with
 |nil=>exact⟨fun _=>rfl,fun x h=>by cases h⟩
 |@cons p q ps qs h t ih=>
  obtain⟨h1,h2,h3⟩:=h
  rw[List.find?_cons]
  by_cases e:p.1=k
  ·have e':decide (p.1=k)=true:=by simp[e]
   rw[e']
   refine⟨fun z=>(by cases z),fun x z=>?_⟩
   cases z
   refine⟨q.2.2,?_,h3⟩
   have e2:decide (q.1=k)=true:=by simp[h1,e]
   show(List.find? _ (q::qs)).map _=_
   rw[List.find?_cons,e2]
   show some q.2=some (p.2.1,q.2.2)
   rw[<-h2]
  ·have e':decide (p.1=k)=false:=by simp[e]
   have e2:decide (q.1=k)=false:=by simp[h1,e]
   rw[e']
   have e3:atKey (q::qs) k=atKey qs k:=by
    show(List.find? _ (q::qs)).map _=_
    rw[List.find?_cons,e2];rfl
   rw[e3];exact ih
def Vv.isSome{ys:List (aS×Addr×Value)}(r:Vv xs ys)(k:aS):(atKey ys k).isSome=(xs.find? fun p=>decide (p.1=k)).isSome:=by
 obtain⟨h1,h2⟩:=r.at k
 cases q:(xs.find? fun p=>decide (p.1=k)) with
 |none=>rw[h1 q];rfl
 |some x=>obtain⟨v,e,_⟩:=h2 x q;rw[e];rfl
def Vv.snoc{p:aS×Addr×Int}{q:aS×Addr×Value}(h:q.1=p.1/\q.2.1=p.2.1/\RelV (.int p.2.2) q.2.2):∀{xs:AH} {ys:List (aS×Addr×Value)},Vv xs ys->Vv (xs++[p]) (ys++[q])
 |_,_,.nil=>.cons h .nil
 |_,_,.cons a t=>.cons a (Vv.snoc h t)
def Vv.put{ys:List (aS×Addr×Value)}(r:Vv xs ys)(k:aS)(b:Addr)(ru:RelV (.int n) u):Vv (Dz xs k b n) (storedH ys k b u):=by
 unfold Dz storedH
 rw[r.isSome k]
 by_cases h:(xs.find? fun p=>decide (p.1=k)).isSome=true
 ·rw[au h,au h]
  clear h
  induction r with
  |nil=>exact .nil
  |@cons p q ps qs h t ih=>
   obtain⟨h1,h2,h3⟩:=h
   rw[aT,aT]
   refine .cons ?_ ih
   unfold putAt
   by_cases e:p.1=k
   ·rw[au e,au (h1.trans e)];exact⟨h1,h2,ru⟩
   ·rw[aq e,aq (fun z=>e (h1.symm.trans z))];exact⟨h1,h2,h3⟩
 ·rw[aq h,aq h]
  exact Vv.snoc ⟨rfl,rfl,ru⟩ r
def Vv.len{ys:List (aS×Addr×Value)}(r:Vv xs ys):xs.length=ys.length:=by
 induction r with
 |nil=>rfl
 |cons h t ih=>rw[bc,bc,ih]
def Fb(xs:AH)(k:aS)(b:Addr)(n:Int):(Dz xs k b n).length<=xs.length+1:=by
 unfold Dz
 split
 ·rw[ag];lia
 ·rw[ac,bI];lia
def V2.put{k:aS}{b:Addr}(r:V2 F kvs xs)(hb:F b=some (.tup (k.map V.int)))(n:Int):V2 F (gK kvs k n) (Dz xs k b n):=by
 refine⟨?_,fun x hx=>?_⟩
 ·rw[r.1];exact Lu xs k b n
 ·unfold Dz at hx
  split at hx
  ·obtain⟨y,hy,rfl⟩:=List.mem_map.mp hx
   by_cases e:y.1=k
   ·rw[au e];exact r.2 y hy
   ·rw[aq e];exact r.2 y hy
  ·rcases List.mem_append.mp hx with h | h
   ·exact r.2 x h
   ·rw[aE] at h;subst h;exact hb
def Wo(H:Hp)(a:Addr)(xs:AH):Prop:=H a=some (.ext (dN a xs))\/∃ob,H a=some (.WA ob (.ext (dN a xs)))
def Wo.mono(s:U8 H H')(h:Wo H a xs):Wo H' a xs:=h.elim (fun z=>.inl (s _ _ z)) fun⟨ob,z⟩=>.inr ⟨ob,s _ _ z⟩
def items_int:∀{ks:aS} {us:fR},Vals (ks.map V.int) us->ItemsAre (intKind P w) ks us
 |[],_,r=>by rw[Hm] at r;cases r;exact .nil
 |k::ks,_,r=>by
  rw[aT] at r
  cases r with
  |cons h t=>
   obtain⟨tk,rfl⟩:=(show ∃t,_=Value.int k t from h)
   exact .cons (by show Value.isInt k (.int k tk)=true;simp[Value.isInt]) (items_int t)
def HN{k:aS}{b:Addr}(I:Inv X pins σ H s)(e:H b=some (.tup (k.map V.int))):(tupleKind (intKind X.prog X.w)).is s.heap k b:=by
 obtain⟨_,its,r,o,h1,h2,n,h3⟩:=(show Ve X.prog X.w H s.heap b (.tup (k.map V.int)) from I.Vl b _ e)
 exact⟨o,its.toArray,n,h1,h2,h3,by simpa using items_int r⟩
def Wo.is(I:Inv X pins σ H s)(h:Wo H a xs):dN a xs s.heap:=by
 rcases h with e | ⟨ob,e⟩
 ·exact(show Ve X.prog X.w H s.heap a (.ext (dN a xs)) from I.Vl a _ e).1
 ·exact(show Ve X.prog X.w H s.heap a (.WA ob (.ext (dN a xs))) from I.Vl a _ e).2.1
def sZ(I:Inv X pins σ H s)(h:dN a xs s.heap)(hk:∀x∈xs,H x.2.1=some (.tup (x.1.map V.int))):xs.length<=sizeLine/\(a==sysModules)=false/\∃ys,Vv xs ys/\s.heap.DictOfH (tupleKind (intKind X.prog X.w)) a ys:=by
 obtain⟨z,hd,o,ho,hx,es,ep,ys,h1,h2,r,nd⟩:=h
 refine⟨z,hd,ys,r,o,es,ep,ho,hx,h1,h2 _ _,fun y hy=>?_,nd⟩
 have all:∀{l:AH} {m:List (aS×Addr×Value)},Vv l m->(∀x∈l,H x.2.1=some (.tup (x.1.map V.int)))->∀y∈m,(tupleKind (intKind X.prog X.w)).is s.heap y.1 y.2.1:=by
  intro l m q
  induction q with
  |nil=>intro _ y hy;exact nomatch hy
  |@cons p q ps qs hq t ih=>
   intro hl y hy
   rcases aM.mp hy with e | hy
   ·subst e
    rw[hq.1,hq.2.1]
    exact HN I (hl p (by simp))
   ·exact ih (fun x hx=>hl x (by simp[hx])) y hy
 exact all r hk y hy
def BA{h:Heap}{a:Addr}{xs:AH}{ys:List (aS×Addr×Value)}(z:xs.length<=sizeLine)(hd:(a==sysModules)=false)(r:Vv xs ys)(dd:h.DictOfH (tupleKind (intKind P w)) a ys):dN a xs h:=by
 obtain⟨o,es,ep,h1,h2,h3,h4,h5,h6⟩:=dd
 exact⟨z,hd,o,h1,h2,es,ep,ys,h3,fun _ _=>h4,r,h6⟩
def xC(z:dN a xs h):Ve P w H' h a (.ext (dN a xs)):=by
 refine⟨z,let ⟨_,_,o,h1,_⟩:=z;⟨o,h1⟩,fun h1 h2 y k=>?_⟩
 obtain⟨q1,q2,o,h3,h4⟩:=y
 exact⟨q1,q2,o,k o h3,h4⟩
def Inv.frzD{a:Addr}(I:Inv X pins σ H s)(h:H a=some (.ext (dN a xs))):∃ob,Inv X pins σ (cE H a (.WA ob (.ext (dN a xs)))) s:=by
 have z:=Wo.is I (.inl h)
 obtain⟨q1,q2,ob,h1,h2⟩:=id z
 refine⟨ob,?_⟩
 exact I.write (x:=a) (e:=a) (t':=s.toks) (by rw[h];exact True.intro) (.inl rfl) (fun b u _ q=>q) ⟨ob,h1⟩ ⟨h1,xC z⟩
section
variable {K:bW}{ρ:List Sl}
def NA(σ:St)(ρ:List Sl)(p:Addr):Prop:=∀(i:Nat) xs,ρ[i]?=some (.Wb xs)->σ[i]?≠some (some (.ref p))
def Ok.noDct{p:Addr}(k:Ok K B F H σ ρ)(hp:H p=none):NA σ ρ p:=fun i xs e q=>by
 obtain⟨a,vs,h1,h2,_⟩:=k.Vi.W2 i xs e
 rw[h1] at q;cases q
 rw[hp] at h2;cases h2
def lb{s:Sl}(j:Nat)(t:Sl)(h:(ρ.set i s)[j]?=some t)(hn:t≠s):i≠j/\ρ[j]?=some t:=by
 by_cases e:i=j
 ·subst e
  rw[List.getElem?_set_self'] at h
  cases z:ρ[i]? with
  |none=>rw[z] at h;cases h
  |some w=>rw[z] at h;exact absurd (bx h).symm hn
 ·rw[List.getElem?_set_ne e] at h;exact⟨e,h⟩
def Ok.ZN{p:Addr}(k:Ok K B F H σ ρ)(i:Nat)(hp:H p=some (.ext (dN p es)))(hf:F p=none)(hb:B.H p=none)(hn:NA σ ρ p)(r:V2 F kvs es):Ok K B F H (σ.set i (some (.ref p))) (ρ.set i (.Wb kvs)):=by
 refine⟨k.toExt,by rw[bM,bM,k.len],fun j d q=>?_,fun j xs q=>?_,fun j l xs ys a q1 q2 q3 q4=>?_,fun j ks q=>?_,fun j l xs ys a q1 q2 q3 q4=>?_⟩
 ·obtain⟨n,q'⟩:=lb j _ q (fun z=>nomatch z)
  rw[List.getElem?_set_ne n];exact k.vals j d q'
 ·obtain⟨n,q'⟩:=lb j _ q (fun z=>nomatch z)
  rw[List.getElem?_set_ne n];exact k.VT j xs q'
 ·obtain⟨n1,q1⟩:=lb j _ q1 (fun z=>nomatch z)
  obtain⟨n2,q2⟩:=lb l _ q2 (fun z=>nomatch z)
  rw[List.getElem?_set_ne n1] at q3
  rw[List.getElem?_set_ne n2] at q4
  exact k.dist j l xs ys a q1 q2 q3 q4
 ·by_cases h:i=j
  ·subst h
   rw[List.getElem?_set_self'] at q
   cases z:ρ[i]? with
   |none=>rw[z] at q;cases q
   |some w=>
    rw[z] at q;cases q
    have hi:i<σ.length:=by rw[k.len];exact(List.getElem?_eq_some_iff.mp z).1
    exact⟨p,es,by rw[List.getElem?_set_self hi],hp,hf,hb,r⟩
  ·rw[List.getElem?_set_ne h] at q ⊢
   exact k.Vi.W2 j ks q
 ·by_cases n1:i=j
  ·by_cases n2:i=l
   ·exact n1.symm.trans n2
   ·subst n1
    rw[List.getElem?_set_ne n2] at q2 q4
    have hi:i<σ.length:=by
     have:=(List.getElem?_eq_some_iff.mp q3).1
     rw[bM] at this;exact this
    rw[List.getElem?_set_self hi] at q3
    cases q3
    exact absurd q4 (hn l ys q2)
  ·by_cases n2:i=l
   ·subst n2
    rw[List.getElem?_set_ne n1] at q1 q3
    have hi:i<σ.length:=by
     have:=(List.getElem?_eq_some_iff.mp q4).1
     rw[bM] at this;exact this
    rw[List.getElem?_set_self hi] at q4
    cases q4
    exact absurd q3 (hn j xs q1)
   ·rw[List.getElem?_set_ne n1] at q1 q3
    rw[List.getElem?_set_ne n2] at q2 q4
    exact k.Vi.W7 j l xs ys a q1 q2 q3 q4
def Ok.chgDct{i:Nat}(k:Ok K B F H σ ρ)(hi:ρ[i]?=some (.Wb kvs))(hs:σ[i]?=some (some (.ref p)))(r:V2 F YG es'):Ok K B F (cE H p (.ext (dN p es'))) σ (ρ.set i (.Wb YG)):=by
 obtain⟨a,us,h1,h2,h3,h4,h5⟩:=k.Vi.W2 i kvs hi
 rw[h1] at hs
 cases hs
 have VH:i<ρ.length:=(List.getElem?_eq_some_iff.mp hi).1
 refine⟨⟨fun b u q=>?_,fun b u q=>?_,k.sf,k.nw⟩,by rw[bM,k.len],fun j d q=>?_,fun j xs q=>?_,fun j l xs ys a q1 q2=>?_,fun j ks q=>?_,fun j l xs ys a q1 q2 q3 q4=>?_⟩
 ·have ne:b≠p:=fun z=>by subst z;rw[h3] at q;cases q
  rw[aI ne];exact k.sub b u q
 ·have ne:b≠p:=fun z=>by subst z;rw[h4] at q;cases q
  rw[aI ne];exact k.sh b u q
 ·exact k.vals j d (lb j _ q (fun z=>nomatch z)).2
 ·obtain⟨b,vs,g1,g2,g3⟩:=k.VT j xs (lb j _ q (fun z=>nomatch z)).2
  have ne:b≠p:=fun z=>by subst z;rw[h2] at g2;cases g2
  exact⟨b,vs,g1,by rw[aI ne];exact g2,g3⟩
 ·exact k.dist j l xs ys a (lb j _ q1 (fun z=>nomatch z)).2 (lb l _ q2 (fun z=>nomatch z)).2
 ·by_cases h:i=j
  ·subst h
   rw[List.getElem?_set_self VH] at q;cases q
   exact⟨p,es',h1,aG,h3,h4,r⟩
  ·rw[List.getElem?_set_ne h] at q
   obtain⟨b,Wf,g1,g2,g3,g4,g5⟩:=k.Vi.W2 j ks q
   have ne:b≠p:=fun z=>by subst z;exact h (k.Vi.W7 i j kvs ks b hi q h1 g1)
   exact⟨b,Wf,g1,by rw[aI ne];exact g2,g3,g4,g5⟩
 ·have own:∀(m:Nat) ys,(ρ.set i (.Wb YG))[m]?=some (.Wb ys)->∃zs,ρ[m]?=some (.Wb zs):=fun m ys q=>by
   by_cases h:i=m
   ·subst h;exact⟨kvs,hi⟩
   ·rw[List.getElem?_set_ne h] at q;exact⟨ys,q⟩
  obtain⟨y1,z1⟩:=own j xs q1
  obtain⟨y2,z2⟩:=own l ys q2
  exact k.Vi.W7 j l _ _ a z1 z2 q3 q4
end
def KC(X:Cx)(ρ:cn)(e:Expr)(kvs:eG):Prop:=∀(B:B0) (F H:Hp) (σ:St) (Q:VK),Ok X.K B F H σ ρ->(∀a xs F' H',Ext ⟨F,H⟩ F' H'->Wo H' a xs->V2 F' kvs xs->Q (.ref a) H')->wE X e σ H Q
def VR(X:Cx)(ρ:cn)(e:Expr)(kvs:eG):Prop:=∀(B:B0) (F H:Hp) (σ:St) (Q:VK),Ok X.K B F H σ ρ->(∀p xs F' H',Ext ⟨F,H⟩ F' H'->H p=none->H' p=some (.ext (dN p xs))->F' p=none->V2 F' kvs xs->Q (.ref p) H')->wE X e σ H Q
def U1.dr(h:U1 X ρ e (.Vi kvs)):KC X ρ e kvs:=fun B F H σ Q k q=>h B F H σ Q k fun v F' H' x' r=>by
 cases r with
 |Vi hf r=>exact q _ _ F' H' x' (.inr ⟨_,x'.sub _ _ hf⟩) r
def JP{ρ:cn}(t:At X N sc)(i:Nat)(hr:ρ[i]?=some (.Wb kvs))(hN:N[i]?=some x:=by rfl)(hv:dW sc x=true:=by rfl)(hx:cm x=true:=by rfl):KC X ρ (.Name x pos) kvs:=fun B F H σ Q k q=>.mk fun pins s I=>by
 obtain⟨a,es,h1,h2,h3,h4,h5⟩:=k.Vi.W2 i kvs hr
 exact tQ t hN hv hx pins s σ H Q I ⟨_,h1,q a es F H (.refl k.sub) (.inl h2) h5⟩
def Ext.Zq{H:Hp}{q:Addr}(x:Ext ⟨F,H⟩ F' H')(h0:H q=none)(hf:F' q=none):Ext ⟨F,H⟩ (cE F' q (.WA ob (.ext (dN q xs)))) (cE H' q (.WA ob (.ext (dN q xs)))):=
 ⟨wa x.sub,fun b u z=>by
  have ne:b≠q:=fun w=>by subst w;have z':H b=some u:=z;rw[h0] at z';cases z'
  rw[aI ne];exact x.sh b u z,x.sf.trans (aL hf),fun b z=>by
  by_cases h:b=q
  ·subst h;exact .inr h0
  ·rw[aI h] at z;exact x.nw b z⟩
def VR.Vm(h:VR X ρ e kvs):U1 X ρ e (.Vi kvs):=fun B F H σ Q k q=>.mk fun pins s I=>
 dk (h B F H σ (fun v H'=>∃p xs F',v=.ref p/\Ext ⟨F,H⟩ F' H'/\H p=none/\H' p=some (.ext (dN p xs))/\F' p=none/\V2 F' kvs xs) k (fun p xs F' H' x' h0 h1 h2 r=>⟨p,xs,F',rfl,x',h0,h1,h2,r⟩) pins s I) fun u s1 ⟨v,H',I1,rv,p,xs,F',ev,x',h0,h1,h2,r⟩=>by
  subst ev
  obtain⟨ob,I2⟩:=Inv.frzD I1 h1
  exact⟨_,_,I2,rv,q _ _ _ (x'.Zq h0 h2) (.Vi aG (r.mono (aL h2)))⟩
def Ez:VR X ρ (.Dict [] [] pos) []:=fun B F H σ Q k q=>.mk fun pins s I=>by
 have hn:=I.Vl.fresh (aj s.heap.objs.size)
 have hb:sysModules<s.heap.objs.size:=lK (by decide) (show mainGlobals<s.heap.objs.size from(I.mod.glob.keeps I.bk).lt)
 have z:dN s.heap.objs.size [] (s.heap.push { cls:=.type "dict",data:=.dict #[] }):=BA (P:=X.prog) (w:=X.w) (be _) (bn.mpr (dD (bi hb))) .nil (Cb s.heap)
 refine wpAny_Dict_empty ⟨.ref s.heap.objs.size,_,I.laid (a:=s.heap.objs.size) (o:=.ext (dN s.heap.objs.size [])) (t':=s.toks) (fun _ _ q=>Heap.get?_push_of_some _ q) (aj _) (xC z),rfl,?_⟩
 exact q _ [] F _ ⟨k.sub.trans (aL hn),aL hn,.refl _,fun _ z=>.inl z⟩ hn aG (k.sub.free hn) ⟨rfl,fun _ z=>nomatch z⟩
def Ic{pos:Pos}[XI X](t:At X N sc)(i:Nat)(h:VR X ρ e kvs)(hi:N[i]?=some x:=by rfl)(hx:mW sc x=true:=by rfl)(hs:swapsWith e (some (.Name x pos')) pos.line X.env=pure false:=by rfl):
  Vy X ρ (.Assign [.Name x pos'] e pos) (.nx (ρ.set i (.Wb kvs))):=
 .of (oK (i:=i) t.nd (t.ix hi) (t.loc hx) aN hs GZ) fun B F H σ E k q=>h B F H σ _ k fun p vs F' H' x' h0 hp hf r=>
  q F' H' _ ((k.ext x').ZN i hp hf (k.sh.free h0) (by
   have hd:=k.noDct h0
   exact hd) r) x'.sf
def Eu{k:aS}(t:At X N sc)(ha:KC X ρ a kvs)(hb:U1 X ρ b (.tup (k.map D.int)))(h:c7 kvs k=some n)(hs:k8 b:=by intro _ _;rfl):U1 X ρ (.Subscript a b pos) (.int n):=fun B F H σ Q kk q=>.mk fun pins s I=>by
 refine Uo (dk (ha B F H σ (fun v H1=>∃p xs F1,v=.ref p/\Ext ⟨F,H⟩ F1 H1/\Wo H1 p xs/\V2 F1 kvs xs) kk (fun p xs F1 H1 x1 r1 r2=>⟨p,xs,F1,rfl,x1,r1,r2⟩) pins s I) fun u s1 ⟨v,H1,I1,rv,p,xs,F1,ev,x1,r1,r2⟩=>?_)
 subst ev
 cases(show u=Value.ref p from rv)
 refine dk (hb B F1 H1 σ (fun v H2=>∃F2,Ext ⟨F1,H1⟩ F2 H2/\Rep X.K F2 v (.tup (k.map D.int))) (kk.ext x1) (fun v F2 H2 x2 r3=>⟨F2,x2,r3⟩) pins s1 I1) fun iv s2 ⟨w,H2,I2,WH,F2,x2,r3⟩=>?_
 cases r3 with
 |@tup bt vs ds hf rl=>
  have ev:=U2.WK rl
  subst ev
  cases(show iv=Value.ref bt from WH)
  have hd:=Wo.is I2 (r1.mono x2.sh)
  have r2':=r2.mono x2.sf
  obtain⟨z,Z1,ys,rel,dd⟩:=sZ I2 hd (fun x hx=>x2.sub _ _ (r2'.2 x hx))
  have hv:c7 (xs.map kv) k=some n:=by rw[<-h,r2.1]
  rw[AK] at hv
  obtain⟨x0,hx0,e0⟩:=Option.map_eq_some_iff.mp hv
  obtain⟨w0,hw0,rw0⟩:=(rel.at k).2 x0 hx0
  refine jt (x:=w0) dd.typeIs PySem.F.slot_dict_getitem.lookup ?_ (hs _ _)
  refine wpAny_getItem_heap (Q:=fun r s'=>r=w0/\EP X pins σ Q r s') (MG (by have:=t.un;lia)) (HN I2 (x2.sub _ _ hf)) dd hw0 ⟨rfl,.int n,H2,I2.tok _,?_,q _ F2 H2 (x1.t x2) (.int n)⟩
  rw[<-e0];exact rw0
def J7{a b:Addr}{k:aS}{h':Heap}{t':Nat}(I:Inv X pins σ H s)(h:H a=some (.ext (dN a xs)))(hk:∀x∈xs,H x.2.1=some (.tup (x.1.map V.int)))(hb:H b=some (.tup (k.map V.int)))(hz:xs.length<sizeLine)(ru:RelV (.int n) u){ys:List (aS×Addr×Value)}(rel:Vv xs ys)(hs:(a==sysModules)=false)(dd:h'.DictOfH (tupleKind (intKind X.prog X.w)) a (storedH ys k b u))(sb:Heap.SameBut a s.heap h'):
  Inv X pins σ (cE H a (.ext (dN a (Dz xs k b n)))) { s with heap:=h',toks:=t' }:=by
 have z:dN a (Dz xs k b n) h':=BA (by have:=Fb xs k b n;lia) hs (rel.put k b ru) dd
 exact I.write (x:=a) (e:=a) (by rw[h];exact True.intro) (.inl rfl) (fun c q hc w=>(sb.2 c hc).trans w) (let ⟨_,_,o,h1,_⟩:=z;⟨o,h1⟩) (xC z)
def QE:Hh:=fun o i v H Q=>∃a xs k b n,o=.ref a/\i=.ref b/\v=.int n/\H a=some (.ext (dN a xs))/\(∀x∈xs,H x.2.1=some (.tup (x.1.map V.int)))/\H b=some (.tup (k.map V.int))/\xs.length<sizeLine/\Q (cE H a (.ext (dN a (Dz xs k b n))))
def NY{X:Cx}(hu:X.A.units+1<cLine):ME X QE:=by
 intro pins s σ H o i v ov iv u Q I ro ri rv h
 obtain⟨a,xs,k,b,n,rfl,rfl,rfl,h1,h2,h3,h4,q⟩:=h
 cases(show ov=Value.ref a from ro)
 cases(show iv=Value.ref b from ri)
 obtain⟨z,hs,ys,rel,dd⟩:=sZ I (Wo.is I (.inl h1)) h2
 refine wpAny_setItem_heap (hsz:=by rw[<-rel.len];exact z) (MG hu) (HN I h3) dd fun h' dd' sb=>⟨_,J7 I h1 h2 h3 h4 rv rel hs dd' sb,q⟩
def Aa(xs:AH)(is:AH):AH:=is.foldl (fun acc x=>Dz acc x.1 x.2.1 x.2.2) xs
def J6{a:Addr}{X:Cx}(hu:X.A.units<cLine){Q:PUnit->Shared->Prop}:∀(is:AH) (ws:List (Value×Value)) (xs:AH) (H:Hp) (s:Shared),Inv X pins σ H s->H a=some (.ext (dN a xs))->(∀x∈xs,H x.2.1=some (.tup (x.1.map V.int)))->(∀x∈is,H x.2.1=some (.tup (x.1.map V.int))) ->
  Paired (fun(x:aS×Addr×Int) (w:Value×Value)=>w.1=.ref x.2.1/\RelV (.int x.2.2) w.2) is ws->xs.length+is.length<sizeLine->(∀s',Inv X pins σ (cE H a (.ext (dN a (Aa xs is)))) s'->Q PUnit.unit s') ->
  dZ X (forIn ws PUnit.unit fun x _=>do
   dictSet a x.fst x.snd
   pure (ForInStep.yield PUnit.unit)) Q E s:=by
 intro is
 induction is with
 |nil=>
  intro ws xs H s I h1 h2 h3 r hz q
  cases r
  have e:cE H a (.ext (dN a xs))=H:=funext fun b=>by
   by_cases hb:b=a
   ·subst hb;rw[aG,h1]
   ·rw[aI hb]
  have q':=q s
  rw[show Aa xs []=xs from rfl,e] at q'
  exact ao (q' I)
 |cons x is ih=>
  intro ws xs H s I h1 h2 h3 r hz q
  cases r with
  |@cons _ w _ ws hw t=>
  obtain⟨k,b,n⟩:=x
  obtain⟨w1,w2⟩:=w
  obtain⟨e1,rn⟩:=hw
  cases(show w1=Value.ref b from e1)
  rw[bc] at hz
  rw[xY]
  obtain⟨z,hs,ys,rel,dd⟩:=sZ I (Wo.is I (.inl h1)) h2
  have hb:H b=some (.tup (k.map V.int)):=h3 (k,b,n) (by simp)
  refine ae (ae (wpAny_dictSet_heap (by show X.A.units<cLine;exact hu) (HN I hb) dd (fun h' dd' sb=>?_) (by rw[<-rel.len];exact z)))
  refine ao ?_
  have I2:=J7 (t':=s.toks+(tupleKind (intKind X.prog X.w)).draws k) I h1 h2 hb (by lia) rn rel hs dd' sb
  have tn:∀c ks,H c=some (.tup ks)->cE H a (.ext (dN a (Dz xs k b n))) c=some (.tup ks):=fun c ks hc=>by
   rw[aI (fun z=>by subst z;rw[h1] at hc;cases hc)];exact hc
  refine ih ws (Dz xs k b n) _ _ I2 aG (fun y hy=>?_) (fun y hy=>tn _ _ (h3 y (by simp[hy]))) t (by have:=Fb xs k b n;lia) fun s' I3=>q s' ?_
  ·unfold Dz at hy
   split at hy
   ·obtain⟨y',hy',rfl⟩:=List.mem_map.mp hy
    by_cases e:y'.1=k
    ·rw[au e];exact tn _ _ (h2 y' hy')
    ·rw[aq e];exact tn _ _ (h2 y' hy')
   ·rcases List.mem_append.mp hy with h | h
    ·exact tn _ _ (h2 y h)
    ·rw[aE] at h;subst h;exact tn _ _ hb
  ·rw[E1] at I3;exact I3
def Gc{ρ:cn}{k:aS}(t:At X N sc)(i:Nat)(hr:ρ[i]?=some (.Wb kvs))(hb:U1 X ρ b (.tup (k.map D.int)))(hz:kvs.length<sizeLine)(hN:N[i]?=some y:=by rfl)(hv:dW sc y=true:=by rfl)(hx:cm y=true:=by rfl)(ha:∀v,assign (.Subscript (.Name y p) b pos) X.env v=(do
   let ov <-holding [v] (eval (.Name y p) X.env)
   let iv <-holding [v,ov] (eval b X.env)
   standAt pos
   holding [v,ov,iv] (setItem ov iv v)
   release [v,ov,iv] []):=by intro _;rfl):Xy X ρ (.Subscript (.Name y p) b pos) (.int n) (ρ.set i (.Wb (gK kvs k n))):=
 .of (IM aN aN (NY (by have:=t.un;lia)) ha) fun B F H σ v Q kk r q=>by
  cases r
  refine .mk fun pins s I=>?_
  obtain⟨l,es,h1,h2,h3,h4,h5⟩:=kk.Vi.W2 i kvs hr
  refine tQ t hN hv hx pins s σ H _ I ⟨_,h1,?_⟩
  refine hb B F H σ _ kk fun w F' H' x' WH=>?_
  cases WH with
  |@tup bt vs ds hf rl=>
   have ev:=U2.WK rl
   subst ev
   have h5':=h5.mono x'.sf
   refine⟨l,es,k,bt,n,rfl,rfl,rfl,x'.sh _ _ h2,fun x hx=>x'.sub _ _ (h5'.2 x hx),x'.sub _ _ hf,?_,?_⟩
   ·have e:=bv List.length h5.1
    rw[ag] at e;lia
   ·exact q F' _ _ ((kk.ext x').chgDct hr h1 (h5'.put hf n)) x'.sf
def Bt{n0:Int}{apos:Pos}{k:aS}(t:At X N sc)(ho:KC X ρ a kvs)(ha:Vw X ρ [e,f] [.tup (k.map D.int),.int n0])(Wu:attributeBase a "get" X.env (eval a X.env)=eval a X.env:=by rfl)(Wh:((backTo U7 (starEach [e,f] X.env)).all (fun x=>!x.1)&&(backToKw U7 (keywordEach [] X.env)).all (fun x=>x.1.isSome)
   && decide (([e,f]:rL).length+([]:List Keyword).length+(if ([]:List Keyword).isEmpty then 0 else 1)<30))=true:=by rfl)(Vk:(apos.endLine==U7.line)=true:=by rfl)(hs:Ci e [f] X.env:=by rfl)(X2:(backTo U7 (starEach [f] X.env)).any (·.1)=false:=by rfl):
  U1 X ρ (.Call (.Attribute a "get" apos) [e,f] [] U7) (.int ((c7 kvs k).getD n0)):=fun B F H σ Q kk q=>.mk fun pins s I=>by
 refine wpAny_Call_method_late Wu Wh Vk rfl (dk (ho B F H σ (fun v H1=>∃p xs F1,v=.ref p/\Ext ⟨F,H⟩ F1 H1/\Wo H1 p xs/\V2 F1 kvs xs) kk (fun p xs F1 H1 x1 r1 r2=>⟨p,xs,F1,rfl,x1,r1,r2⟩) pins s I) fun u s1 ⟨v,H1,I1,rv,p,xs,F1,ev,x1,r1,r2⟩=>?_)
 subst ev
 cases(show u=Value.ref p from rv)
 have hd:=Wo.is I1 r1
 obtain⟨_,_,ob,g1,g2,_⟩:=id hd
 refine⟨"dict", "dict.get",PySem.F.plainAttrs_dict,Uq,PySem.F.type_dict_get,⟨ob,g1,g2.1⟩,fun c ec=>(by cases ec;exact⟨ob,g1,g2.2.1⟩),?_⟩
 have hA:=ha.2 B F1 H1 σ (fun vs H2=>∃F2,Ext ⟨F1,H1⟩ F2 H2/\U2 X.K F2 vs [.tup (k.map D.int),.int n0]) (kk.ext x1) (fun vs F2 H2 x2 r3=>⟨F2,x2,r3⟩) U7 pins s1 I1
 rw[hs] at hA ⊢
 refine Dy (by show(false||(backTo U7 (starEach [f] X.env)).any (·.1))=false;rw[X2]<;>rfl) (Calls.evalArgs_plain ?_)
 refine dk hA fun us s2 ⟨vs,H2,I2,Zd,F2,x2,r3⟩=>?_
 cases r3 with
 |cons ra rb=>
 cases rb with
 |cons rn rnil=>
 cases rnil
 cases rn
 cases ra with
 |@tup bt ks ds hf rl=>
 have ev:=U2.WK rl
 subst ev
 obtain⟨u1,u2,rfl,ru1,ru2⟩:=z6 Zd
 cases(show u1=Value.ref bt from ru1)
 have r2':=r2.mono x2.sf
 obtain⟨z,Z1,ys,rel,dd⟩:=sZ I2 (Wo.is I2 (r1.mono x2.sh)) (fun x hx=>x2.sub _ _ (r2'.2 x hx))
 refine call_meetsIn Uq dd.typeIs PySem.F.entry_dict_get (PySem.F.args_dict_get_3 _ _ _) (meetsH_dict_get_default (tupleKind (intKind X.prog X.w)) p bt Z1 u2) ⟨MG (by have:=t.un;lia),k,ys,HN I2 (x2.sub _ _ hf),dd,?_⟩
 refine⟨.int ((c7 kvs k).getD n0),H2,I2.tok _,?_,q _ F2 H2 (x1.t x2) (.int _)⟩
 rw[r2.1,AK]
 obtain⟨hN,hS⟩:=rel.at k
 cases qq:(xs.find? fun p=>decide (p.1=k)) with
 |none=>rw[hN qq];exact ru2
 |some x0=>
  obtain⟨w0,hw0,rw0⟩:=hS x0 qq
  rw[hw0];exact rw0
def Ul(l:Addr)(ob:Obj)(xs:AH):It:=
 ⟨fun i H=>H l=some (.WA ob (.ext (dN l xs)))/\i<xs.length,fun i H v H'=>H'=H/\∃x,xs[i]?=some x/\v=.ref x.2.1,fun i H=>H l=some (.WA ob (.ext (dN l xs)))/\xs.length<=i,False⟩
def Nn{es:Array DictEntry}{ys:List (aS×Addr×Value)}(h:∀(P:Program) (w:World),es.toList=ys.map (entryOfKey (tupleKind (intKind P w))))(P:Program)(w:World)(r:Vv xs ys):es.size=xs.length/\∀(i:Nat) x,xs[i]?=some x->∃e,es[i]?=some e/\e.key=.ref x.2.1:=by
 have h':=h P w
 have hl:es.size=ys.length:=by rw[<-bX,h',ag]
 refine⟨by rw[hl,r.len],fun i x hx=>?_⟩
 have g:∀{xs:AH} {ys:List (aS×Addr×Value)},Vv xs ys->∀(i:Nat) x,xs[i]?=some x->∃y,ys[i]?=some y/\y.2.1=x.2.1:=by
  intro xs ys r
  induction r with
  |nil=>intro i x hx;simp at hx
  |@cons p q ps qs hq t ih=>
   intro i x hx
   cases i with
   |zero=>simp at hx;subst hx;exact⟨q,by simp,hq.2.1⟩
   |succ i=>simpa using ih i x (by simpa using hx)
 obtain⟨y,hy,ey⟩:=g r i x hx
 refine⟨entryOfKey (tupleKind (intKind P w)) y,?_,?_⟩
 ·rw[<-Array.getElem?_toList,h',List.getElem?_map,hy];rfl
 ·show Value.ref y.2.1=_
  rw[ey]
def HC{P:Program}{w:World}{K:bW}(l it:Addr)(ob:Obj)(xs:AH){ys:List (aS×Addr×Value)}(h1:ob.data=.dict es ep)(h2:∀(P:Program) (w:World),es.toList=ys.map (entryOfKey (tupleKind (intKind P w))))(r:Vv xs ys):
  B1 P w K tg (Ul l ob xs) [it] it (fun i h=>h.IsKeyIter it l i es.size ep) where
 mem:=by simp
 obj:=fun i h st b hb=>by
  have e:b=it:=by simpa using hb
  subst e
  obtain⟨o,e,c,d⟩:=st
  exact⟨o,e,fun v z=>by rw[d] at z;cases z⟩
 keep:=fun i h h' st k=>st.at fun o e=>k it (by simp) o e
 item:=by
  intro X hP hw hK hc i pins s σ H E I hf st hg
  subst hP hw hK
  replace hc:=hc.resolve_right fun z=>z.1
  obtain⟨hq,hx⟩:=hg
  obtain⟨f0,f1,f2,f3,f4,f5⟩:=hf it (by simp)
  have ho:=(show Ve X.prog X.w H s.heap l (.WA ob (.ext (dN l xs))) from I.Vl l _ hq).1
  obtain⟨hl,hg⟩:=Nn h2 X.prog X.w r
  obtain⟨e,he,ek⟩:=hg i xs[i] (List.getElem?_eq_getElem hx)
  refine EB st ho h1 rfl he fun h' W5 sb=>?_
  have I1:Inv X pins σ H { s with heap:=h' }:=I.turned (t':=s.toks) (fun b o hb e=>(sb.2 b hb).trans e) f0 f1 f3 f4 f5
  exact⟨e.key,rfl,letGo_keyiter (s':={ s with heap:=h' }) W5 ⟨.ref xs[i].2.1,H,I1,ek,⟨rfl,_,List.getElem?_eq_getElem hx,rfl⟩,W5,fun b hb=>(hf b hb).1⟩⟩
 done:=by
  intro X hP hw hK hc i pins s σ H E I hf st hg
  subst hP hw hK
  replace hc:=hc.resolve_right fun z=>z.1
  obtain⟨hq,hx⟩:=hg
  obtain⟨f0,f1,f2,f3,f4,f5⟩:=hf it (by simp)
  have ho:=(show Ve X.prog X.w H s.heap l (.WA ob (.ext (dN l xs))) from I.Vl l _ hq).1
  obtain⟨hl,hg⟩:=Nn h2 X.prog X.w r
  exact G5 (I.ok.hd hc) st ho h1 rfl (Array.getElem?_eq_none (by lia)) fun h' eb=>⟨rfl,I.turned (t':=s.toks) (fun b o hb e=>eb b o hb e) f0 f1 f3 f4 f5⟩
 self:=fun _ _ _ _ _ st h=>wpAny_pyIter_keyiter st h
def Th(tl:TE):TI:=fun σ H R=>tl σ H fun x H1=>∃l ob xs,x=.ref l/\H1 l=some (.WA ob (.ext (dN l xs)))/\R (Ul l ob xs) H1
def Ob(hl:PE X l tl):PI X tg l (Th tl):=by
 intro pins s σ H R I h
 refine dk (hl pins s σ H _ I h) fun v s1 ⟨x,H1,I1,r1,q1⟩=>?_
 obtain⟨a,ob,xs,e,hq,q⟩:=q1
 subst e
 cases(show v=Value.ref a from r1)
 obtain⟨ho,hz⟩:=(show Ve X.prog X.w H1 s1.heap a (.WA ob (.ext (dN a xs))) from I1.Vl a _ hq)
 obtain⟨_,hs,o,g1,g2,es,ep,ys,g3,g4,g5,_⟩:=hz.1
 have eo:o=ob:=by rw[ho] at g1;exact(bx g1).symm
 subst eo
 refine Re hs ho g2 g3 ?_
 refine⟨s1.heap.objs.size,[s1.heap.objs.size],_,_,H1,rfl,I1.kept (t':=s1.toks) fun b o e=>Heap.get?_push_of_some _ e,HC a _ _ xs g3 g4 g5,⟨_,Heap.get?_push_size _ rfl,rfl,rfl⟩,fun b hb=>?_,q⟩
 have e:b=s1.heap.objs.size:=by simpa using hb
 subst e
 exact I1.Ym (aj _) (I1.Vl.fresh (aj _))
abbrev Tc(q:aS×Int):D:=.tup (q.1.map D.int)
def Ey(h:U1 X ρ e (.Vi kvs)):YX X ρ tg e (kvs.map Tc):=.of (Ob aN) fun B F H σ R kk q=>h B F H σ _ kk fun v F' H' x' r=>by
 cases r with
 |@Vi l ob ks xs hf r=>
  refine⟨l,ob,xs,rfl,x'.sub _ _ hf,q _ F' H' x' fun i F2 H2 s1 s2=>⟨fun d hd=>?_,fun hl=>⟨s2 _ _ (s1 _ _ hf),by rw[r.1,ag,ag] at hl;exact hl⟩⟩⟩
  rw[r.1,cM,List.getElem?_map] at hd
  obtain⟨x,hx,e⟩:=Option.map_eq_some_iff.mp hd
  subst e
  refine⟨⟨s2 _ _ (s1 _ _ hf),(List.getElem?_eq_some_iff.mp hx).1⟩,fun v H3 hy=>?_⟩
  obtain⟨rfl,x',Zh,rfl⟩:=hy
  rw[hx] at Zh;cases Zh
  exact⟨F2,.refl s2,.tup (s1 _ _ (r.2 x (List.mem_of_getElem? hx))) (U2.ints x.1)⟩
section
variable {st:Stmt}{bF:List Stmt}{ds:aU}
inductive Xg(X:Cx)(ρ:cn):List (Option Expr)->rL->eG->Prop where
 |nil:Xg X ρ [] [] []
 |cons {a b:Expr} {as:List (Option Expr)} {bs:rL} {k:aS} {n:Int} {r:eG}:U1 X ρ a (.tup (k.map D.int))->U1 X ρ b (.int n)->Xg X ρ as bs r->Xg X ρ (some a::as) (b::bs) ((k,n)::r)
def Xg.len{bs:rL}(h:Xg X ρ as bs kvs):as.all (·.isSome)=true/\as.length=bs.length/\as.length=kvs.length:=by
 induction h with
 |nil=>exact⟨rfl,rfl,rfl⟩
 |cons h1 h2 h3 ih=>exact⟨by rw[List.all_cons,ih.1];rfl,bv Nat.succ ih.2.1,bv Nat.succ ih.2.2⟩
def AY(kvs more:eG):eG:=more.foldl (fun acc q=>gK acc q.1 q.2) kvs
def Xg.walk{bs:rL}(h:Xg X ρ as bs kvs):∀{B:B0} {F H:Hp} {σ:St},Ok X.K B F H σ ρ->∀{pins:gc} {s:Shared},Inv X pins σ H s ->
  dZ X (evalPairs (pairTrees as bs X.env pos)) (fun ws s'=>∃F' H' xs,Inv X pins σ H' s'/\Ext ⟨F,H⟩ F' H'/\V2 F' kvs xs/\Paired (fun(x:aS×Addr×Int) (w:Value×Value)=>w.1=.ref x.2.1/\RelV (.int x.2.2) w.2) xs ws) X.xe s:=by
 induction h with
 |nil=>intro B F H σ kk pins s I;exact pairTrees_nil_walk ⟨F,H,[],I,.refl kk.sub,⟨rfl,fun _ z=>nomatch z⟩,.nil⟩
 |@cons a b as bs k n r h1 h2 h3 ih=>
  intro B F H σ kk pins s I
  refine pairTrees_cons_walk (dk (h1 B F H σ (fun v H1=>∃F1,Ext ⟨F,H⟩ F1 H1/\Rep X.K F1 v (.tup (k.map D.int))) kk (fun v F1 H1 x1 r1=>⟨F1,x1,r1⟩) pins s I) fun u s1 ⟨v,H1,I1,rv,F1,x1,r1⟩=>?_)
  have k1:=kk.ext x1
  refine dk (h2 B F1 H1 σ (fun v H2=>∃F2,Ext ⟨F1,H1⟩ F2 H2/\Rep X.K F2 v (.int n)) k1 (fun v F2 H2 x2 r2=>⟨F2,x2,r2⟩) pins s1 I1) fun u2 s2 ⟨v2,H2,I2,Ze,F2,x2,r2⟩=>?_
  refine dk (ih (k1.ext x2) I2) fun ws s3 ⟨F3,H3,xs,I3,x3,r3,pr⟩=>?_
  cases r2
  cases r1 with
  |@tup bt vs ds hf rl=>
  have ev:=U2.WK rl
  subst ev
  cases(show u=Value.ref bt from rv)
  refine⟨F3,H3,(k,bt,n)::xs,I3,(x1.t x2).t x3,⟨by rw[r3.1];rfl,fun x hx=>?_⟩,.cons ⟨rfl,Ze⟩ pr⟩
  rcases aM.mp hx with e | hx
  ·subst e;exact x3.sf _ _ (x2.sf _ _ hf)
  ·exact r3.2 x hx
def Fd:∀(is:AH) (kvs:eG) (xs:AH),V2 F kvs xs->(∀x∈is,F x.2.1=some (.tup (x.1.map V.int)))->V2 F (AY kvs (is.map kv)) (Aa xs is)
 |[],kvs,xs,r,_=>r
 |(k,b,n)::is,kvs,xs,r,h=>by
  show V2 F (AY (gK kvs k n) (is.map kv)) (Aa (Dz xs k b n) is)
  exact Fd is _ _ (r.put (h (k,b,n) (by simp)) n) fun x hx=>h x (by simp[hx])
def v5{bs:rL}(t:At X N sc)(h:Xg X ρ as bs kvs)(h0:as≠[]:=by exact fun z=>nomatch z)(h15:as.length<=15:=by decide):VR X ρ (.Dict as bs pos) (AY [] kvs):=fun B F H σ Q kk q=>.mk fun pins s I=>by
 obtain⟨l1,l2,l3⟩:=h.len
 rw[arm_eval_Dict,zip_pairTrees as bs X.env pos l1 l2]
 have WZ:(pairTrees as bs X.env pos).length=as.length:=pairTrees_length as bs X.env pos l1 l2
 rw[dictDisplay_pairs _ (fun z=>h0 (aB (by rw[<-WZ,z];rfl))) (by lia)]
 refine ae (qP (ae ?_))
 unfold subDict
 refine ae (R6 ?_)
 have hn:=I.Vl.fresh (aj s.heap.objs.size)
 have hb:sysModules<s.heap.objs.size:=lK (by decide) (show mainGlobals<s.heap.objs.size from(I.mod.glob.keeps I.bk).lt)
 have z:dN s.heap.objs.size [] (s.heap.push { cls:=.type "dict",data:=.dict #[] }):=BA (P:=X.prog) (w:=X.w) (be _) (bn.mpr (dD (bi hb))) .nil (Cb s.heap)
 have I1:=I.laid (a:=s.heap.objs.size) (o:=.ext (dN s.heap.objs.size [])) (h':=s.heap.push { cls:=.type "dict",data:=.dict #[] }) (t':=s.toks) (fun _ _ q=>Heap.get?_push_of_some _ q) (aj _) (xC z)
 have x1:Ext ⟨F,H⟩ F (cE H s.heap.objs.size (.ext (dN s.heap.objs.size []))):=⟨kk.sub.trans (aL hn),aL hn,.refl _,fun _ z=>.inl z⟩
 refine ae (cp ?_)
 rw[au (by lia)]
 refine ae (dk (h.walk (kk.ext x1) I1) fun ws s2 ⟨F2,H2,is,I2,x2,r2,pr⟩=>?_)
 refine cp (ae ?_)
 have Y2:F2 s.heap.objs.size=none:=x2.kf (kk.sub.free hn) aG
 have h2:H2 s.heap.objs.size=some (.ext (dN s.heap.objs.size [])):=x2.sh _ _ aG
 have hlen:is.length=kvs.length:=by rw[r2.1,ag]
 refine J6 (by have:=t.un;lia) is ws [] H2 s2 I2 h2 (fun _ z=>nomatch z) (fun x hx=>x2.sub _ _ (r2.2 x hx)) pr (by rw[gP,fZ];lia) fun s3 I3=>?_
 refine ao (ao (ao ⟨.ref s.heap.objs.size,_,I3,rfl,?_⟩))
 have Y6:=x1.t x2
 have R:V2 F2 (AY [] kvs) (Aa [] is):=by
  have:=Fd is [] [] ⟨rfl,fun _ z=>nomatch z⟩ r2.2
  rw[<-r2.1] at this
  exact this
 refine q _ (Aa [] is) F2 _ ⟨fun c u w=>?_,fun c u w=>?_,Y6.sf,Y6.nw⟩ hn aG Y2 R
 ·have ne:c≠s.heap.objs.size:=fun z=>by subst z;rw[Y2] at w;cases w
  rw[aI ne];exact Y6.sub c u w
 ·have ne:c≠s.heap.objs.size:=fun z=>by subst z;have w':H s.heap.objs.size=some u:=w;rw[hn] at w';cases w'
  rw[aI ne];exact Y6.sh c u w
def VR.eq{YG:eG}(h:VR X ρ e kvs)(q:kvs=YG):VR X ρ e YG:=q ▸ h
def RT(K:bW)(C:aU->eG->Prop):Sp:=fun vs H Q _=>∃F ds kvs,U8 F H/\U2 K F vs ds/\C ds kvs/\∀p us F' H',Ext ⟨F,H⟩ F' H'->H p=none->H' p=some (.ext (dN p us))->F' p=none->V2 F' kvs us->Q (.ref p) H'
def V8(X:Cx)(x:Str)(C:aU->eG->Prop):Prop:=∃(f:Addr) (fd:FuncData) (ps:ce) (k:Nat),dO X.prog X.w X.K X.mg X.base gN k f fd ps (RT X.K C)/\Vz k X.A/\X.mg x=some (.ref f)/\PySem.W.keepIn X.K (.ref f)=true/\Binds X.K fd ps []
def xQ(X:Cx)(ρ:cn)(Xa:List Stmt)(kvs:eG):Prop:=∀(B:B0) (F H:Hp) (σ:St) (E:kC),Ok X.K B F H σ ρ->(∀p us F' H',Ext B F' H'->B.H p=none->H' p=some (.ext (dN p us))->F' p=none->V2 F' kvs us->E.rt (.ref p) H')->wSs X Xa E σ H
def sX(t:At X N sc){C:aU->eG->Prop}(h:V8 X x C)(ha:Vw X ρ (e::es) ds)(hC:C ds kvs)(hg:ve sc x:=by rfl)(VW:qA x:=by rfl):VR X ρ (.Call (.Name x p) (e::es) [] pos) kvs:=by
 obtain⟨f,fd,ps,k,F,hr,hm,hk,hb⟩:=h
 have pz:fW gN X E0:=oN
 intro B F' H σ Q k' q
 refine .mk fun pins s I=>?_
 refine iR F hr (dj t hg) hm hk hb .nil pz oO VW (ha.1.1 _ _) (XR.any ha.1.2) pins s σ H Q I (ha.2 B F' H σ _ k' fun vs F1 H1 x1 r1=>?_)
 exact⟨F1,ds,kvs,x1.sub,by rw[aP];exact r1,hC,fun p us F2 H2 x2 h0 hp hf r2=>q p us F2 H2 (x1.t x2) (x1.sh.free h0) hp hf r2⟩
def sW(h1:Vy X ρ st (.nx ρ'))(h2:xQ X ρ' bF kvs):xQ X ρ (st::bF) kvs:=fun B F H σ E k q=>
 (.mk fun pins s I=>fE uQ cQ pins s σ H E I (h1 B F H σ _ k fun F1 H1 σ1 k1 s1=>h2 B F1 H1 σ1 E k1 q))
def Ga{ρ:cn}(t:At X N sc)(i:Nat)(hr:ρ[i]?=some (.Wb kvs))(hN:N[i]?=some x:=by rfl)(hv:dW sc x=true:=by rfl)(hx:cm x=true:=by rfl):xQ X ρ [.Return (some (.Name x pos')) pos] kvs:=fun B F H σ E k q=>by
 obtain⟨a,us,h1,h2,h3,h4,h5⟩:=k.Vi.W2 i kvs hr
 exact .mk fun pins s I=>qc (wH (tQ t hN hv hx)) pins s σ H E I ⟨_,h1,q a us F H k.toExt h4 h2 h3 h5⟩
def OZ{P:Program}(VO:P.given.tree=none){w:World}{K:bW}{mg:ux}{base:Heap}{x qual:Str}{st:Stmt}{f:Addr}{fd:FuncData}{N ps:ce}{k:Nat}{C:aU->eG->Prop}(F:X8 K x qual st f fd)(S:aK N ps (ai st))(len:∀ds xs,C ds xs->ds.length=ps.length)(body:∀X,DefX P w K mg base k N (ai st) X->∀ds xs,C ds xs->xQ X (ds.map Sl.val++List.replicate (N.length-ds.length) Sl.un) (bE st) xs):dO P w K mg base gN (k+1) f fd ps (RT K C):=by
 refine F.ok S (fun vs H Q E h=>?_) (fun VG A outer s H vs Q E hr h=>?_)
 ·obtain⟨F',ds,d,sub,r,hC,q⟩:=h
  rw[r.length];exact len ds d hC
 ·obtain⟨F',ds,d,sub,r,hC,q⟩:=h
  refine⟨_,cQ,?_⟩
  have hx:DefX P w K mg base k N (ai st) (q8 gN P w K mg base N qual (ai st) f VG A outer s H E).XC:=
   ⟨⟨rfl,rfl,rfl,S.nd,rfl,hr.units,hr.WS,VO,⟨_,_,rfl,S.gen,S.co,rfl,rfl⟩⟩,rfl,rfl,rfl,rfl,rfl,hr,⟨fun _=>rfl⟩,rfl,rfl⟩
  have hb:=body _ hx ds d hC
  have hk:Ok K ⟨F',H⟩ F' H (start N vs) (ds.map Sl.val++List.replicate (N.length-ds.length) Sl.un):=by
   unfold start
   rw[r.length]
   exact i8 sub r _
  exact hb ⟨F',H⟩ F' H _ _ hk fun p us F2 H2 x2 h0 hp hf r2=>q p us F2 H2 x2 h0 hp hf r2
def DefX.Zv{K:bW}{x:Str}{C:aU->eG->Prop}(h:DefX P w K mg base k N sc X)(F:dO P w K mg base gN j f fd ps (RT K C))(hj:j<=k)(hm:mg x=some (.ref f))(hk:PySem.W.keepIn K (.ref f)=true)(hb:Binds K fd ps []):V8 X x C:=by
 obtain⟨h0,rfl,rfl,rfl,rfl,rfl,hr,_⟩:=h
 exact⟨f,fd,ps,j,F,hr.mono hj,hm,hk,hb⟩
end
def yc(its:fR):slicePick its.toArray none none (some (-1))=its.reverse.toArray:=by
 unfold slicePick
 have e1:sliceBounds none none (some (-1)) its.toArray.size=((its.toArray.size:Int)-1,-1,-1):=rfl
 rw[e1]
 show((sliceRange ((its.toArray.size:Int)-1) (-1) (-1)).filterMap (its.toArray[·]?)).toArray=_
 have e2:sliceRange ((its.toArray.size:Int)-1) (-1) (-1)=(List.range its.toArray.size).map fun(k:Nat)=>((its.toArray.size:Int)-1+(k:Int)*(-1)).toNat:=by
  unfold sliceRange
  have e3:(if (-1:Int) > 0 then (if (its.toArray.size:Int)-1 < -1 then (-1-((its.toArray.size:Int)-1) + -1-1) / -1 else 0) else (if (its.toArray.size:Int)-1 > -1 then ((its.toArray.size:Int)-1 - -1 - -1-1) / (- -1) else 0)).toNat=its.toArray.size:=by
   rw[aq (by decide)]
   by_cases h:(its.toArray.size:Int)-1 > -1
   ·rw[au h]
    have:(- -1:Int)=1:=rfl
    rw[this,Int.ediv_one];lia
   ·rw[aq h];lia
  show(List.range (Int.toNat _)).map _=_
  rw[e3]
  exact qm fun k _=>by congr 1;lia
 rw[e2,List.filterMap_map]
 have:=HT.YD its.toArray
 rw[<-this]
 rfl
def Mn(ha:W8 X ρ a true xs)(hc:U1 X ρ c (.int (-1))):U9 X ρ (.Subscript a (.Slice none none (some c) p2) pos) xs.reverse:=fun B F H σ Q k q=>.mk fun pins s I=>by
 refine Uo (dk (ha B F H σ (fun v H1=>∃p vs F1,v=.ref p/\Ext ⟨F,H⟩ F1 H1/\Yp X.K true H1 p vs/\U2 X.K F1 vs xs) k (fun p vs F1 H1 x1 s1 r1=>⟨p,vs,F1,rfl,x1,s1,r1⟩) pins s I) fun v s1 z=>?_)
 obtain⟨x,H1,I1,r1,p,vs,F1,hx,x1,sq,rp⟩:=z
 subst hx
 cases r1
 refine wpAny_Slice ?_
 rw[evalPart_none]
 refine ao ?_
 refine ao ?_
 rw[evalPart_some]
 refine dk (hc B F1 H1 σ (fun v H2=>∃F2,Ext ⟨F1,H1⟩ F2 H2/\v=.int (-1)) (k.ext x1) (fun v F2 H2 x2 r=>by cases r;exact⟨F2,x2,rfl⟩) pins s1 I1) fun u s2 z=>?_
 obtain⟨y,H2,I2,r2,F2,x2,hy⟩:=z
 subst hy
 obtain⟨tk,rfl⟩:=r2
 have I4:Inv X pins σ H2 { s2 with heap:=s2.heap.push { cls:=.type "slice",data:=.fields #[.none,.none,.int (-1) tk] } }:=I2.kept (t':=s2.toks) fun b ob q=>Heap.get?_push_of_some _ q
 have sq2:VE X.K H2 p vs:=Yp.mono x2.sh sq
 obtain⟨its,r,ht,hz⟩:=I4.list sq2
 have hlen:=r.length
 show dZ X (subscriptTail a (.Slice none none (some c) p2) (.ref p) (.ref s2.heap.objs.size)) (EP X pins σ Q) X.xe { s2 with heap:=s2.heap.push { cls:=.type "slice",data:=.fields #[.none,.none,.int (-1) tk] } }
 refine tail_any (ops:=[.ref p,.ref s2.heap.objs.size]) ht.isList.typeIs slot_list_getitem.lookup (wpAny_getItem_list_slice ht.isList (Heap.IsSliceOf.new ..) .none .none (.int (-1) tk) (by decide) ?_ (by rw[az]<;>lia)) rfl
 rw[yc]
 have xx:=x1.t x2
 have r3:=rp.mono x2.sf
 have hp:=I4.Vl.fresh (aj _)
 refine⟨.ref _,_,I4.laid (t':=s2.toks) (o:=.lst vs.reverse) (fun b ob q=>Heap.get?_push_of_some _ q) (aj _) ?_,rfl,q _ vs.reverse F2 _ ⟨xx.sub.trans (aL hp),xx.sh.trans (aL hp),xx.sf,xx.nw⟩ (xx.sh.free hp) aG (xx.sub.free hp) r3.reverse⟩
 exact⟨by rw[fQ];exact hz,_,0,r.reverse,Heap.get?_push_size _ rfl⟩
def AT{pos:Pos}(t:At X N sc)(i j:Nat)(h1:U9 X ρ a us)(h2:U1 X ρ b v)(hij:i≠j)(hi:N[i]?=some x:=by rfl)(hj:N[j]?=some y:=by rfl)(hx:sc.names.lookup x=some .local:=by rfl)(hy:sc.names.lookup y=some .local:=by rfl)(hw:swappedStores [.Tuple [.Name x px,.Name y py] kt pt] (.Tuple [a,b] k2 Zf) (dE sc)=pure (some [x,y]):=by rfl)(hs:swapsWithSole [.Tuple [.Name x px,.Name y py] kt pt] (.Tuple [a,b] k2 Zf) pos.line X.env=pure false:=by rfl)(Zi:Ci a [b] X.env:=by rfl)(YI:Ci b [] X.env:=by rfl):
  Vy X ρ (.Assign [.Tuple [.Name x px,.Name y py] kt pt] (.Tuple [a,b] k2 Zf) pos) (.nx ((ρ.set i (.own us)).set j (.val v))):=
 .of (IE (i:=i) (j:=j) t.calm t.nd (t.ix hi) (t.ix hj) hij (by rw[t.eS];exact hx) (by rw[t.eS];exact hy) (bw aN (bw aN cK YI) Zi) ((rP (show X.env.scope=(dE sc).scope from t.eS)).trans hw) hs) fun B F H σ E k q=>
  h1 B F H σ _ k fun p vs F1 H1 x1 h0 hp hf r=>h2 B F1 H1 σ _ (k.ext x1) fun v2 F2 H2 x2 r2=>by
   have Y2:F2 p=none:=x2.kf hf hp
   exact⟨.ref p,v2,rfl,q F2 H2 _ (((k.ext (x1.t x2)).YA i (x2.sh _ _ hp) Y2 (k.sh.free h0) (k.noOwn h0) (r.mono x2.sf)).Vx j r2) (x1.t x2).sf⟩
def N6{p:PyData}(t:At X N sc){qs:List PyData}(sp:p.canLay0=true)(sd:p.depth<=62)(sq:PyData.canLayAll0 qs=true):lP X (compareOp .NotIn) (fun x y H Q=>XH X H x p/\XH X H y (.list qs)/\Q (.bl (!qs.any fun y=>PyData.eqv y p)) H):=by
 intro pins s σ H x y v u Q I rx ry h
 obtain⟨h1,h2,h3⟩:=h
 obtain⟨as,r1⟩:=h1 sp H (.refl _) pins σ s v I rx
 obtain⟨bs,r2⟩:=h2 (by simpa [PyData.canLay0] using sq) H (.refl _) pins σ s u I ry
 refine SeqAt.notIn_list_reads r2 r1 sq sp ?_ ⟨.bl _,H,I,rfl,h3⟩
 have hu:=t.un
 have:min (PyData.depthAll qs) p.depth<=p.depth:=vd _ _
 lia
end L2.EV
namespace HT
open PySem PySem.Spec PyProof.Rows
variable {K:bW}{ds:aU}
def Wz{Q:tG}{s:Shared}{lo hi:Option Int}(ht:IsTup s.heap t items)(hs:s.heap.IsSliceOf sl vl vu .none)(pl:IsPart vl lo)(pu:IsPart vu hi)(hw:Vo items.size 0 lo=0/\Vo items.size items.size hi=items.size)(h:Q (.ref t) s):wpAny (model prog w) A (getItem (.ref t) (.ref sl)) Q E s:=by
 obtain⟨os,Y1,hcs,Z9⟩:=id hs
 have hTs:s.TypeIs (.ref sl) "slice" := ⟨os,Y1,hcs⟩
 unfold getItem
 try with_reducible refine cp ?_
 first | refine ae (ao ?_) | skip
 refine ae (wpAny_sequenceKey ht.typeIs (by decide) ?_)
 refine ae (wpAny_callSpecial?_slot (name:=Str.ofString "__getitem__") ht.typeIs fG
  (dU fG ht.typeIs entry_tuple_getitem ?_ (args_tuple_getitem _ _)))
 show wpAny _ _ (Builtin.Tuple.tupleItemsOf (.ref t) >>= _) _ _ s
 refine ae (tupleItemsOf_ ht ?_)
 refine ae (Dv hTs ?_)
 rw[au (by decide)]
 refine ae (lU hs pl pu ?_)
 have hyes:(((Vo items.size 0 lo:Nat):Int)==0&&(1:Int)==1&&(Vo items.size items.size hi-Vo items.size 0 lo)==items.size)=true:=by
  rw[hw.1,hw.2];simp
 show wpAny _ _ (if (((Vo items.size 0 lo:Nat):Int)==0&&(1:Int)==1&&(Vo items.size items.size hi-Vo items.size 0 lo)==items.size)=true then _ else _) _ _ s
 rw[au hyes]
 refine ae (ae (m:=typeOf (.ref t)) (Dv ht.typeIs (ao ?_)))
 rw[au (by decide)]
 have fin:wpAny (model prog w) A.in1 (ret (Value.ref t)) (fun fin s'=>∃v,fin=Fin.done (Flow.ret v)/\wpAny (model prog w) A (pure v) Q E s') E s:=ao ⟨_,rfl,ao h⟩
 first
  |exact fin
  |exact ae (ao fin)
  |trace_state
end HT
namespace L2
open PySem PySem.Spec PyProof.Rows
variable {K:bW}{ds:aU}
def SH(K:bW):V->Option Int->Option Int->Hp->VK->Prop:=fun x lo hi H Q=>∃a xs,x=.ref a/\VV K H a xs/\(HT.Vo xs.length 0 lo=0/\HT.Vo xs.length xs.length hi=xs.length)/\Q (.ref a) H
def Lc:Rt X (SH X.K):=by
 intro pins s σ H x v vl vu lo hi sl Q I rx hs pl pu h
 obtain⟨a,xs,rfl,hx,hw,q⟩:=h
 cases rx
 obtain⟨its,r,ht,hz⟩:=I.tuple hx
 have hlen:its.toArray.size=xs.length:=by rw[az];exact r.length.symm
 refine⟨"tuple",_,PyProof.Rows.slot_tuple_getitem.lookup,ht.typeIs,?_⟩
 exact HT.Wz ht hs pl pu (by rw[hlen];exact hw) ⟨.ref a,H,I,rfl,q⟩
end L2
namespace L2.EV
open PySem PySem.Spec PyProof.Rows
variable {K:bW}{ds:aU}
def Me{lo hi:Option Expr}{l h:Option Int}(ha:U1 X ρ a (.tup xs))(hl:KP X ρ lo l)(hh:KP X ρ hi h)(hw:HT.Vo xs.length 0 l=0/\HT.Vo xs.length xs.length h=xs.length):
  U1 X ρ (.Subscript a (.Slice lo hi none p2) pos) (.tup xs):=
 .of (sB Lc aN GN GN) fun B F H σ Q k q=>ha B F H σ _ k fun v F1 H1 x1 r1=>hl B F1 H1 σ _ (k.ext x1) fun F2 H2 x2=>hh B F2 H2 σ _ (k.ext (x1.t x2)) fun F3 H3 x3=>by
  have x:=x1.t (x2.t x3)
  have r3:=(r1.mono x2.sf).mono x3.sf
  cases r3 with
  |tup hs rs=>exact⟨_,_,rfl,VV.of (x.sub _ _ hs),by rw[rs.length];exact hw,q _ F3 H3 x (.tup hs rs)⟩
def VJ(B:B0)(p:Addr)(us:df):B0:=⟨B.F,cE B.H p (.lst us)⟩
def VJ.same{B:B0}{p:Addr}(h:B.H p=some (.lst us)):VJ B p us=B:=by
 have:cE B.H p (.lst us)=B.H:=funext fun b=>by
  by_cases z:b=p
  ·subst z;rw[aG,h]
  ·rw[aI z]
 show(⟨B.F,cE B.H p (.lst us)⟩:B0)=B
 rw[this]
def VJ.up{ws:df}:VJ (VJ B p us) p ws=VJ B p ws:=by
 show(⟨B.F,cE (cE B.H p (.lst us)) p (.lst ws)⟩:B0)=⟨B.F,cE B.H p (.lst ws)⟩
 rw[E1]
structure Wc(K:bW)(B:B0)(p:Addr)(F:Hp)(us:df)(xs:aU):Prop where
 st:B.H p=some (.lst us)
 fr:B.F p=none
 rep:U2 K F us xs
def Wc.free{K:bW}(l:Wc K B p F us xs)(x:Ext B F H):F p=none:=x.kf l.fr l.st
def Wl(K:bW)(B:B0)(p:Addr)(F₀:Hp)(E:kC)(xs':aU):Out->Prop
 |.nx ρ=>∀F H σ us,Ok K (VJ B p us) F H σ ρ->U2 K F us xs'->U8 F₀ F->E.nx σ H
 |.rt d=>∀v F H us,Ext (VJ B p us) F H->U2 K F us xs'->Rep K F v d->E.rt v H
def Xs(X:Cx)(p:Addr)(ρ:cn)(Xa:List Stmt)(o:Out)(xs xs':aU):Prop:=∀(B:B0) (F H:Hp) (σ:St) (E:kC) (us:df),Wc X.K B p F us xs->Ok X.K B F H σ ρ->Wl X.K B p F E xs' o->wSs X Xa E σ H
def qv(X:Cx)(p:Addr)(ρ:cn)(st:Stmt)(o:Out)(xs xs':aU):Prop:=∀(B:B0) (F H:Hp) (σ:St) (E:kC) (us:df),Wc X.K B p F us xs->Ok X.K B F H σ ρ->Wl X.K B p F E xs' o->wS X st E σ H
def Ok.now{K:bW}(k:Ok K B F H σ ρ):Ok K ⟨F,B.H⟩ F H σ ρ:=
 ⟨⟨k.sub,k.sh,.refl _,fun a q=>.inl q⟩,k.len,k.vals,k.VT,k.dist,⟨k.Vi.W2,k.Vi.W7⟩⟩
def Ext.Yz(x:Ext B F H)(y:Ext ⟨F,B.H⟩ F' H'):Ext B F' H':=
 ⟨y.sub,y.sh,x.sf.trans y.sf,fun a q=>by
  rcases y.nw a q with z | z
  ·exact x.nw a z
  ·exact .inr z⟩
section
variable {st:Stmt}{bF:List Stmt}
def Al{X:Cx}(l:Wc X.K B p F us xs)(k:Ok X.K B F H σ ρ)(q:Wl X.K B p F E xs o):(∃ρ',o=.nx ρ'/\Xe X.K B F E o)\/(∃d,o=.rt d/\Xe X.K ⟨F,B.H⟩ F E o):=by
 cases o with
 |nx ρ'=>exact .inl ⟨ρ',rfl,fun F' H' σ' k' s'=>q F' H' σ' us (by rw[VJ.same l.st];exact k') (l.rep.mono s') s'⟩
 |rt d=>exact .inr ⟨d,rfl,fun v F' H' x r=>q v F' H' us (by rw[VJ.same l.st];exact k.toExt.Yz x) (l.rep.mono x.sf) r⟩
def U4.m(h:U4 X ρ Xa o):Xs X p ρ Xa o xs xs:=fun B F H σ E us l k q=>by
 rcases Al l k q with⟨_,_,z⟩ | ⟨_,_,z⟩
 ·exact h B F H σ E k z
 ·exact h ⟨F,B.H⟩ F H σ E k.now z
def Vy.m(h:Vy X ρ st o):qv X p ρ st o xs xs:=fun B F H σ E us l k q=>by
 rcases Al l k q with⟨_,_,z⟩ | ⟨_,_,z⟩
 ·exact h B F H σ E k z
 ·exact h ⟨F,B.H⟩ F H σ E k.now z
def Ly{X:Cx}(q:Wl X.K B p F E xs' o)(s:U8 F F1):Wl X.K (VJ B p us) p F1 E xs' o:=by
 cases o with
 |nx ρ'=>exact fun F' H' σ' ws k r s'=>q F' H' σ' ws (by rw[VJ.up] at k;exact k) r (s.trans s')
 |rt d=>exact fun v F' H' ws x r rv=>q v F' H' ws (by rw[VJ.up] at x;exact x) r rv
def bQ(h1:qv X p ρ st (.nx ρ1) xs xs1)(h2:Xs X p ρ1 bF o xs1 xs'):Xs X p ρ (st::bF) o xs xs':=fun B F H σ E us l k q=>
 (.mk fun pins s I=>fE uQ cQ pins s σ H E I (h1 B F H σ _ us l k fun F1 H1 σ1 ws k1 r1 s1=>h2 (VJ B p ws) F1 H1 σ1 E ws ⟨aG,l.fr,r1⟩ k1 (Ly q s1)))
def cB(h1:qv X p ρ st o xs xs'):Xs X p ρ [st] o xs xs':=fun B F H σ E us l k q=>(.mk fun pins s I=>qc uQ pins s σ H E I (h1 B F H σ E us l k q))
def sG:Xs X p ρ [] (.nx ρ) xs xs:=U4.m bR
def Ok.ZI{K:bW}(k:Ok K B F H σ ρ)(l:Wc K B p F us xs):Ok K (VJ B p ws) F (cE H p (.lst ws)) σ ρ:=by
 have hf:=l.free k.toExt
 have ho:∀a,B.H a=none->a≠p:=fun a h z=>by subst z;rw[l.st] at h;cases h
 refine⟨⟨fun c u q=>?_,fun c u q=>?_,k.sf,fun a q=>?_⟩,k.len,k.vals,fun i ys h=>?_,k.dist,⟨fun i kvs h=>?_,k.Vi.W7⟩⟩
 ·have ne:c≠p:=fun z=>by subst z;rw[hf] at q;cases q
  rw[aI ne];exact k.sub c u q
 ·by_cases z:c=p
  ·subst z
   have q':cE B.H c (.lst ws) c=some u:=q
   rw[aG] at q' ⊢;exact q'
  ·have q':cE B.H p (.lst ws) c=some u:=q
   rw[aI z] at q' ⊢;exact k.sh c u q'
 ·have ne:a≠p:=fun z=>by subst z;exact q hf
  rcases k.nw a q with z | z
  ·exact .inl z
  ·refine .inr ?_
   show cE B.H p (.lst ws) a=none
   rw[aI ne];exact z
 ·obtain⟨a,vs,h1,h2,h3,h4,h5⟩:=k.VT i ys h
  have ne:=ho a h4
  exact⟨a,vs,h1,by rw[aI ne];exact h2,h3,by show cE B.H p (.lst ws) a=none;rw[aI ne];exact h4,h5⟩
 ·obtain⟨a,es,h1,h2,h3,h4,h5⟩:=k.Vi.W2 i kvs h
  have ne:=ho a h4
  exact⟨a,es,h1,by rw[aI ne];exact h2,h3,by show cE B.H p (.lst ws) a=none;rw[aI ne];exact h4,h5⟩
def xM{i:Nat}{Q:VK}{ρ:cn}(t:At X N sc)(hr:ρ[i]?=some (.val (.adr p)))(hN:N[i]?=some x)(hv:dW sc x=true)(hx:cm x=true)(k:Ok X.K B F H σ ρ)(h:Q (.ref p) H):wE X (.Name x py) σ H Q:=.mk fun pins s I=>by
 obtain⟨v,h1,h2⟩:=k.vals i _ hr
 cases h2
 exact tQ t hN hv hx pins s σ H Q I ⟨_,h1,h⟩
end
def Wc.ext{K:bW}{H:Hp}(l:Wc K B p F us xs)(x:Ext ⟨F,H⟩ F' H'):Wc K B p F' us xs:=⟨l.st,l.fr,l.rep.mono x.sf⟩
section
variable {bF:List Stmt}{ds:aU}
inductive Wm(X:Cx)(p:Addr)(tg:Expr)(body:List Stmt):aU->cn->aU->cn->aU->Prop where
 |nil {ρ:cn} {xs:aU}:Wm X p tg body [] ρ xs ρ xs
 |cons {d:D} {ds:aU} {ρ ρ1 ρ2 ρ3:cn} {xs xs1 xs2:aU}:Xy X ρ tg d ρ1->Xs X p ρ1 body (.nx ρ2) xs xs1->Wm X p tg body ds ρ2 xs1 ρ3 xs2->Wm X p tg body (d::ds) ρ xs ρ3 xs2
def Wm.Y8(R:Nat->cn)(L:Nat->aU):∀(ds:aU) (i:Nat),(∀(j:Nat) d,ds[j]?=some d->∃ρ1,Xy X (R (i+j)) tg d ρ1/\Xs X p ρ1 body (.nx (R (i+j+1))) (L (i+j)) (L (i+j+1)))->Wm X p tg body ds (R i) (L i) (R (i+ds.length)) (L (i+ds.length))
 |[],i,_=>.nil
 |d::ds,i,h=>by
  obtain⟨ρ1,h1,h2⟩:=h 0 d rfl
  have:=Wm.Y8 R L ds (i+1) fun j d' e=>by
   have:=h (j+1) d' (by simpa using e)
   rw[show i+1+j=i+(j+1) by lia];exact this
  rw[show i+1+ds.length=i+(d::ds).length by rw[bc];lia] at this
  exact .cons h1 h2 this
end
def Ok.back{K:bW}{i:Nat}(k:Ok K B F H σ ρ)(hi:ρ[i]?=some (.own xs))(hs:σ[i]?=some (some (.ref a)))(x:Ext (VJ ⟨F,H⟩ a Wf) F' H')(r:U2 K F' Wf xs'):
  Ok K B F' H' σ (ρ.set i (.own xs')):=by
 obtain⟨a',us,h1,h2,h3,h4,h5⟩:=k.VT i xs hi
 rw[h1] at hs
 cases hs
 have VH:i<ρ.length:=(List.getElem?_eq_some_iff.mp hi).1
 have hu:∀b u,b≠a->H b=some u->H' b=some u:=fun b u ne q=>x.sh b u (by show cE H a (.lst Wf) b=some u;rw[aI ne];exact q)
 have WN:∀b,F b=none->(b=a\/H b≠none)->F' b=none:=fun b hf hh=>by
  cases e:F' b with
  |none=>rfl
  |some o=>
   exfalso
   rcases x.nw b (by rw[e];exact Dw o) with z | z
   ·exact z hf
   ·have z':cE H a (.lst Wf) b=none:=z
    by_cases y:b=a
    ·subst y;rw[aG] at z';cases z'
    ·rw[aI y] at z'
     rcases hh with w | w
     ·exact y w
     ·exact w z'
 have hn:∀b,B.H b=none\/B.H b≠none:=fun b=>by cases B.H b<;>simp
 refine⟨⟨x.sub,fun b u q=>?_,k.sf.trans x.sf,fun c q=>?_⟩,by rw[bM,k.len],fun j d q=>?_,fun j ys q=>?_,fun j l ys zs b q1 q2 q3 q4=>?_,?_⟩
 ·exact hu b u (fun z=>by subst z;rw[h4] at q;cases q) (k.sh b u q)
 ·rcases x.nw c q with z | z
  ·exact k.nw c z
  ·refine .inr ?_
   have z':cE H a (.lst Wf) c=none:=z
   by_cases y:c=a
   ·subst y;rw[aG] at z';cases z'
   ·rw[aI y] at z';exact k.sh.free z'
 ·by_cases h:i=j
  ·subst h;rw[List.getElem?_set_self VH] at q;cases q
  ·rw[List.getElem?_set_ne h] at q
   obtain⟨v,g1,g2⟩:=k.vals j d q
   exact⟨v,g1,g2.mono x.sf⟩
 ·by_cases h:i=j
  ·subst h
   rw[List.getElem?_set_self VH] at q;cases q
   exact⟨a,Wf,h1,x.sh a _ (by show cE H a (.lst Wf) a=_;rw[aG]),WN a h3 (.inl rfl),h4,r⟩
  ·rw[List.getElem?_set_ne h] at q
   obtain⟨b,vs,g1,g2,g3,g4,g5⟩:=k.VT j ys q
   have ne:b≠a:=fun z=>by subst z;exact h (k.dist i j xs ys b hi q h1 g1)
   exact⟨b,vs,g1,hu b _ ne g2,WN b g3 (.inr (by rw[g2];exact Dw _)),g4,g5.mono x.sf⟩
 ·have back:∀(m:Nat) ys,(ρ.set i (.own xs'))[m]?=some (.own ys)->∃ws,ρ[m]?=some (.own ws):=fun m ys e=>by
   by_cases h:i=m
   ·subst h;exact⟨xs,hi⟩
   ·rw[List.getElem?_set_ne h] at e;exact⟨ys,e⟩
  obtain⟨w1,e1⟩:=back j ys q1
  obtain⟨w2,e2⟩:=back l zs q2
  exact k.dist j l w1 w2 b e1 e2 q3 q4
 ·exact k.Vi.to x.sf (fun b φ e1 e2 e3=>by
   have ne:b≠a:=fun z=>by subst z;rw[h2] at e1;cases e1
   exact⟨hu b _ ne e1,WN b e2 (.inr (by rw[e1];exact Dw _))⟩) (wo fun _ z=>nomatch z)
def Wm.VD{ρ':cn}{ρ:cn}{xs:aU}{xs':aU}(R:Nat->cn)(L:Nat->aU)(h:∀(j:Nat) d,ds[j]?=some d->∃ρ1,Xy X (R j) tg d ρ1/\Xs X q ρ1 body (.nx (R (j+1))) (L j) (L (j+1)))(e0:R 0=ρ)(l0:L 0=xs)(e1:R ds.length=ρ')(l1:L ds.length=xs'):Wm X q tg body ds ρ xs ρ' xs':=by
 have:=Wm.Y8 (X:=X) (p:=q) (tg:=tg) (body:=body) R L ds 0 fun j d e=>by rw[xT];exact h j d e
 rw[xT,e0,l0,e1,l1] at this
 exact this
def Xs.weak(h:Xs X q ρ Xa (.nx ρ1) xs xs')(w:WT ρ1 ρ2):Xs X q ρ Xa (.nx ρ2) xs xs':=fun B F H σ E us l k pq=>h B F H σ E us l k fun F' H' σ' ws k' r s=>pq F' H' σ' ws (k'.weak w) r s
section
variable {K:bW}{rss:List aU}
def Ext.stays{p:Addr}{H:Hp}(x:Ext ⟨F,H⟩ F' H')(h:H p=some (.lst us))(f:F p=none):F' p=none:=x.kf f h
end
abbrev Tb:=List (Addr×aU)
def EJ(x:Int)(k:Nat):Builtin.bitAnd x (2 ^ k-1)=x%2 ^ k:=by
 have e:((2:Int) ^ k-1)=((2 ^ k-1:Nat):Int):=by
  have:1<=2 ^ k:=Nat.one_le_two_pow
  rw[Int.natCast_sub this,Int.natCast_pow];rfl
 have hp:(0:Int)<=2 ^ k-1:=by rw[e];exact Int.natCast_nonneg _
 have et:((2:Int) ^ k-1).toNat=2 ^ k-1:=by rw[e];exact ba _
 have ek:((2 ^ k:Nat):Int)=(2:Int) ^ k:=by rw[Int.natCast_pow];rfl
 by_cases hx:0<=x
 ·rw[bitAnd_pp hx hp,et,KI,Int.natCast_emod,ek,jq hx]
 ·rw[bitAnd_np hx hp,et,Nat.and_comm,KI,Int.natCast_emod,ek]
  unfold Builtin.bitNot
  rw[jq (by lia)]
  have hpos:(0:Int)<2 ^ k:=by rw[<-ek];exact Int.natCast_pos.mpr (Nat.two_pow_pos k)
  generalize (2:Int) ^ k=m at *
  have h1:=x8 (-x-1) (Int.ne_of_gt hpos)
  have h2:=EU (-x-1) hpos
  have h3:=Int.mul_ediv_add_emod (-x-1) m
  have h4:x=m-1-(-x-1)%m+m*(-((-x-1) / m)-1):=by
   have:m*(-((-x-1) / m)-1)=- (m*((-x-1) / m))-m:=by rw[Int.mul_sub,Int.mul_neg,Int.mul_one]
   lia
  have h5:x%m=(m-1-(-x-1)%m)%m:=by
   conv=>lhs;rw[h4]
   rw[Int.add_mul_emod_self_left]
  have h6:(m-1-(-x-1)%m)%m=m-1-(-x-1)%m:=Int.emod_eq_of_lt (by lia) (by lia)
  rw[h5,h6]
def FX{k:Nat}(ha:U1 X ρ a (.int i))(hb:U1 X ρ b (.int (2 ^ k-1))):U1 X ρ (.BinOp a .BitAnd b pos) (.int (i%2 ^ k)):=xq On ha hb (EJ i k)
def Bu(ha:U1 X ρ a (.tup xs))(hb:U1 X ρ b (.tup ys))(hx:xs≠[])(hy:ys≠[])(hz:xs.length+ys.length<=sizeLine):U1 X ρ (.BinOp a .Add b pos) (.tup (xs++ys)):=
 .of (l5 FF aN aN) fun B F H σ Q k q=>two ha hb k fun x y F' H' x' rx ry=>by
  cases rx with
  |tup h1 r1=>
   cases ry with
   |tup h2 r2=>
    refine⟨_,_,_,_,rfl,rfl,VV.of (x'.sub _ _ h1),VV.of (x'.sub _ _ h2),fun z=>hx (aB (by rw[<-r1.length,z];rfl)),by rw[r1.length,r2.length];exact hz,fun z=>absurd (aB (by rw[<-r2.length,z];rfl)) hy,fun _ p hp=>?_⟩
    exact q _ _ _ (x'.grow hp) (.tup aG ((r1.append r2).mono (aL (x'.sub.free hp))))
def wz{p:PyData}(t:At X N sc){qs:List PyData}(sp:p.canLay0=true)(sd:p.depth<=62)(sq:PyData.canLayAll0 qs=true):lP X (compareOp .In) (fun x y H Q=>XH X H x p/\XH X H y (.tuple qs)/\Q (.bl (qs.any fun y=>PyData.eqv y p)) H):=by
 intro pins s σ H x y v u Q I rx ry h
 obtain⟨h1,h2,h3⟩:=h
 obtain⟨as,r1⟩:=h1 sp H (.refl _) pins σ s v I rx
 obtain⟨bs,r2⟩:=h2 (by simpa [PyData.canLay0] using sq) H (.refl _) pins σ s u I ry
 refine SeqAt.in_tuple_reads r2 r1 sq sp ?_ ⟨.bl _,H,I,rfl,h3⟩
 have hu:=t.un
 have:min (PyData.depthAll qs) p.depth<=p.depth:=vd _ _
 lia
def j8{r:Bool}(t:At X N sc)(ha:U1 X ρ a d)(hb:U1 X ρ b (.tup xs))(sp:(e8 d).canLay0=true)(sd:(e8 d).depth<=62)(sq:PyData.canLayAll0 (Vb xs)=true)(he:((Vb xs).any fun y=>PyData.eqv y (e8 d))=r)(hm:behindInMarks .In b=false:=by rfl):U3 X ρ (.Compare a [.In] [b] pos) r:=
 .of (eg (wz t sp sd sq) aN aN hm) fun B F H σ Q k q=>yb (U1.p ha) (U1.p hb) k fun x y F' H' x' rx ry=>⟨rx,ry,r,by rw[he],q F' H' x'⟩
def eD(ha:U1 X ρ a (.str z))(hb:U1 X ρ b (.int i))(hz:z.length<=sizeLine)(h:k7 z.cps.toList i=some c)(hs:k8 b:=by intro _ _;rfl):U1 X ρ (.Subscript a b pos) (.str ⟨#[c]⟩):=
 .of (CB OM aN aN hs) fun B F H σ Q k q=>two ha hb k fun x y F' H' x' rx ry=>by
  cases rx;cases ry
  exact⟨z,i,c,rfl,rfl,hz,h,q _ F' H' x' (.str _)⟩
def Lm{p:PyData}(t:At X N sc){qs:List PyData}(sp:p.canLay0=true)(sd:p.depth<=62)(sq:PyData.canLayAll0 qs=true):lP X (compareOp .NotIn) (fun x y H Q=>XH X H x p/\XH X H y (.tuple qs)/\Q (.bl (!qs.any fun y=>PyData.eqv y p)) H):=by
 intro pins s σ H x y v u Q I rx ry h
 obtain⟨h1,h2,h3⟩:=h
 obtain⟨as,r1⟩:=h1 sp H (.refl _) pins σ s v I rx
 obtain⟨bs,r2⟩:=h2 (by simpa [PyData.canLay0] using sq) H (.refl _) pins σ s u I ry
 refine SeqAt.notIn_tuple_reads r2 r1 sq sp ?_ ⟨.bl _,H,I,rfl,h3⟩
 have hu:=t.un
 have:min (PyData.depthAll qs) p.depth<=p.depth:=vd _ _
 lia
def F8{r:Bool}(t:At X N sc)(ha:U1 X ρ a d)(hb:U1 X ρ b (.tup xs))(sp:(e8 d).canLay0=true)(sd:(e8 d).depth<=62)(sq:PyData.canLayAll0 (Vb xs)=true)(he:(!(Vb xs).any fun y=>PyData.eqv y (e8 d))=r)(hm:behindInMarks .NotIn b=false:=by rfl):U3 X ρ (.Compare a [.NotIn] [b] pos) r:=
 .of (eg (Lm t sp sd sq) aN aN hm) fun B F H σ Q k q=>yb (U1.p ha) (U1.p hb) k fun x y F' H' x' rx ry=>⟨rx,ry,r,by rw[he],q F' H' x'⟩
def O8{r:Bool}(t:At X N sc)(ha:U1 X ρ a d)(hb:U1 X ρ b (.tup xs))(sp:(e8 d).canLay0=true)(sd:(e8 d).depth<=62)(sq:PyData.canLayAll0 (Vb xs)=true)(he:((Vb xs).any fun y=>PyData.eqv y (e8 d))=r)(hm:behindInMarks .In b=false:=by rfl):U1 X ρ (.Compare a [.In] [b] pos) (.bl r):=
 .of (kX (wz t sp sd sq) aN aN hm) fun B F H σ Q k q=>yb (U1.p ha) (U1.p hb) k fun x y F' H' x' rx ry=>⟨rx,ry,by rw[he];exact q _ F' H' x' (.bl r)⟩
def VF(X:Cx)(q:Addr)(ρ:cn)(e:Expr)(d:D)(xs xs':aU):Prop:=∀(B:B0) (F H:Hp) (σ:St) (Q:VK) (us:df),Wc X.K B q F us xs->Ok X.K B F H σ ρ ->
 (∀v F' H' Wf,Ext (VJ ⟨F,H⟩ q Wf) F' H'->U2 X.K F' Wf xs'->Rep X.K F' v d->Q v H')->wE X e σ H Q
def Hi(X:Cx)(q:Addr)(ρ:cn)(es:rL)(ds:aU)(xs xs':aU):Prop:=XR es/\∀(B:B0) (F H:Hp) (σ:St) (Q:df->Hp->Prop) (us:df),Wc X.K B q F us xs->Ok X.K B F H σ ρ ->
 (∀vs F' H' Wf,Ext (VJ ⟨F,H⟩ q Wf) F' H'->U2 X.K F' Wf xs'->U2 X.K F' vs ds->Q vs H')->wA X es σ H Q
def Xn(X:Cx)(q:Addr)(ρ:cn)(e:Expr)(b:Bool)(xs:aU):Prop:=∀(B:B0) (F H:Hp) (σ:St) (Q:Bool->Hp->Prop) (us:df),Wc X.K B q F us xs->Ok X.K B F H σ ρ ->
 (∀F' H',Ext ⟨F,H⟩ F' H'->Q b H')->wT X e σ H Q
def E3{H:Hp}(x:Ext (VJ ⟨F,H⟩ q us) F1 H1)(hf:F q=none):F1 q=none:=x.kf hf aG
def Ext.reUp{H:Hp}(x:Ext (VJ ⟨F,H⟩ q us) F1 H1)(hf:F q=none):Ext (VJ ⟨F,H⟩ q ws) F1 (cE H1 q (.lst ws)):=by
 have h1:=E3 x hf
 refine⟨fun b u z=>?_,fun b u z=>?_,x.sf,fun a z=>?_⟩
 ·have ne:b≠q:=fun w=>by subst w;rw[h1] at z;cases z
  rw[aI ne];exact x.sub b u z
 ·have z':cE H q (.lst ws) b=some u:=z
  by_cases ne:b=q
  ·subst ne;rw[aG] at z' ⊢;exact z'
  ·rw[aI ne] at z' ⊢;exact x.sh b u (by show cE H q (.lst us) b=some u;rw[aI ne];exact z')
 ·have ne:a≠q:=fun w=>by subst w;exact z h1
  rcases x.nw a z with y | y
  ·exact .inl y
  ·refine .inr ?_
   have y':cE H q (.lst us) a=none:=y
   show cE H q (.lst ws) a=none
   rw[aI ne] at y' ⊢;exact y'
def Ext.tM{H:Hp}(x:Ext (VJ ⟨F,H⟩ q us) F1 H1)(hf:F q=none)(y:Ext (VJ ⟨F1,H1⟩ q ws) F2 H2):Ext (VJ ⟨F,H⟩ q ws) F2 H2:=(x.reUp hf).trans y
def Ext.toM{H:Hp}{q:Addr}(x:Ext ⟨F,H⟩ F' H')(h:H q=some (.lst us)):Ext (VJ ⟨F,H⟩ q us) F' H':=by rw[VJ.same (B:=⟨F,H⟩) h];exact x
section
variable {st:Stmt}{bF:List Stmt}{ds:aU}
def Ok.WR{K:bW}(k:Ok K B F H σ ρ)(l:Wc K B q F us xs)(x:Ext (VJ ⟨F,H⟩ q ws) F' H'):Ok K (VJ B q ws) F' H' σ ρ:=(k.ZI l).ext x
def Wc.ff{K:bW}(l:Wc K B q F us xs)(k:Ok K B F H σ ρ):F q=none:=l.free k.toExt
def U1.em(h:U1 X ρ e d):VF X q ρ e d xs xs:=fun B F H σ Q us l k w=>h B F H σ Q k fun v F' H' x r=>w v F' H' us (x.toM (k.sh _ _ l.st)) (l.rep.mono x.sf) r
def Vw.am(h:Vw X ρ es ds):Hi X q ρ es ds xs xs:=⟨h.1,fun B F H σ Q us l k w=>h.2 B F H σ Q k fun v F' H' x r=>w v F' H' us (x.toM (k.sh _ _ l.st)) (l.rep.mono x.sf) r⟩
def gx(h1:VF X q ρ e d xs xs1)(h2:Hi X q ρ es ds xs1 xs')(hs:Pl e:=by intro _ _;rfl):Hi X q ρ (e::es) (d::ds) xs xs':=
 ⟨⟨hs,h2.1⟩,fun B F H σ Q us l k w=>.mk fun pos pins s I=>bw aN oO (hs _ _) pos pins s σ H Q I (h1 B F H σ _ us l k fun v F1 H1 u1 x1 r1 rv=>h2.2 (VJ B q u1) F1 H1 σ _ u1 ⟨aG,l.fr,r1⟩ (k.WR l x1) fun vs F2 H2 u2 x2 r2 Zd=>w _ F2 H2 u2 (x1.tM (l.ff k) x2) r2 (.cons (rv.mono x2.sf) Zd))⟩
def J0(h:Hi X q ρ es ds xs xs')(hl:ds.length<=sizeLine:=by exact bq rfl):VF X q ρ (.Tuple es x1 pos) (.tup ds) xs xs':=fun B F H σ Q us l k w=>.mk fun pins s I=>
 D2 oO pins s σ H Q I (h.2 B F H σ _ us l k fun vs F' H' u1 x r rv=>⟨by rw[rv.length];exact hl,fun p hp=>w _ _ _ u1 (x.grow hp) (r.mono (aL (x.sub.free hp))) (.tup aG (rv.mono (aL (x.sub.free hp))))⟩)
def fV{pos:Pos}[XI X](t:At X N sc)(i:Nat)(h:VF X q ρ e d xs xs')(hi:N[i]?=some x:=by rfl)(hx:mW sc x=true:=by rfl)(hs:swapsWith e (some (.Name x pos')) pos.line X.env=pure false:=by rfl):
  qv X q ρ (.Assign [.Name x pos'] e pos) (.nx (ρ.set i (.val d))) xs xs':=fun B F H σ E us l k w=>
 (.mk fun pins s I=>oK (i:=i) t.nd (t.ix hi) (t.loc hx) aN hs GZ pins s σ H E I (h B F H σ _ us l k fun v F' H' u1 x' r rv=>w F' H' _ u1 ((k.WR l x').Vx i rv) r x'.sf))
def Ej(h:VF X q ρ e d xs xs'):qv X q ρ (.Return (some e) pos) (.rt d) xs xs':=fun B F H σ E us l k w=>
 (.mk fun pins s I=>wH aN pins s σ H E I (h B F H σ _ us l k fun v F' H' u1 x' r rv=>w v F' H' u1 (k.WR l x').toExt r rv))
def wZ(h1:qv X q ρ st (.rt d) xs xs'):Xs X q ρ (st::bF) (.rt d) xs xs':=fun B F H σ E us l k w=>
 (.mk fun pins s I=>fE uQ cQ pins s σ H E I (h1 B F H σ _ us l k w))
def U3.l{xs:aU}(h:U3 X ρ e r):Xn X q ρ e r xs:=fun B F H σ Q us l k w=>h B F H σ Q k w
def FM{X:Cx}(w:Wl X.K B q F E xs' o)(s:U8 F F1):Wl X.K B q F1 E xs' o:=by
 cases o with
 |nx ρ'=>exact fun F' H' σ' ws k r s'=>w F' H' σ' ws k r (s.trans s')
 |rt d=>exact w
def i9(hc:Xn X q ρ c true xs)(h:Xs X q ρ ss o xs xs'):qv X q ρ (.If c ss Wf pos) o xs xs':=fun B F H σ E us l k w=>
 (.mk fun pins s I=>uH kz cQ cQ pins s σ H E I (hc B F H σ _ us l k fun F1 H1 x1=>by rw[au rfl];exact h B F1 H1 σ E us (l.ext x1) (k.ext x1) (FM w x1.sf)))
def fb(hc:Xn X q ρ c false xs)(h:Xs X q ρ Wf o xs xs'):qv X q ρ (.If c ss Wf pos) o xs xs':=fun B F H σ E us l k w=>
 (.mk fun pins s I=>uH kz cQ cQ pins s σ H E I (hc B F H σ _ us l k fun F1 H1 x1=>by rw[aq av];exact h B F1 H1 σ E us (l.ext x1) (k.ext x1) (FM w x1.sf)))
def Jq:Ax (Sum.inr "xs") (.str "xs" tk)=true:=by show Value.isStrOf "xs" (.str "xs" tk)=true;simp[Value.isStrOf]
def MS{i:Nat}{Q:VK}{ρ:cn}(t:At X N sc)(hr:ρ[i]?=some (.val (.Wg q)))(hN:N[i]?=some x)(hv:dW sc x=true)(hx:cm x=true)(k:Ok X.K B F H σ ρ)(h:Q (.ref q) H):
  wE X (.Subscript (.Name x py) (.Constant (.str "xs") j p2) pos) σ H Q:=.mk fun pins s I=>by
 obtain⟨v,h1,h2⟩:=k.vals i _ hr
 cases h2 with
 |@Wg a _ e=>
 refine Uo (dk (tQ t hN hv hx pins s σ H (fun v H1=>v=.ref a/\H1=H) I ⟨_,h1,rfl,rfl⟩) fun u s1 ⟨v,H1,I1,rv,ev,eh⟩=>?_)
 subst ev;subst eh
 cases(show u=Value.ref a from rv)
 refine dk (D3 pins s1 σ H1 (fun v H2=>v=.str "xs" /\ H2=H1) I1 ⟨rfl,rfl⟩) fun iv s2 ⟨w,H2,I2,WH,ew,eh⟩=>?_
 subst ew;subst eh
 obtain⟨tk,rfl⟩:=(show ∃t,iv=Value.str "xs" t from WH)
 obtain⟨z,Z1,vs,rel,dd⟩:=(show Ve X.prog X.w H2 s2.heap a (.dK [(Sum.inr "xs",.ref q)]) from I2.Vl a _ (k.sub _ _ e))
 cases rel with
 |@cons _ kv _ vs' hkv tl=>
 cases tl
 obtain⟨kk,w'⟩:=kv
 obtain⟨e1,e2⟩:=hkv
 have e1':(Sum.inr (Str.ofString "xs"):tz)=kk:=e1
 subst e1'
 cases(show w'=Value.ref q from e2)
 refine jt (x:=.ref q) dd.typeIs PySem.F.slot_dict_getitem.lookup ?_ (by rfl)
 exact wpAny_getItem_of (knd:=gu X.prog X.w) (Q:=fun r s'=>r=.ref q/\EP X pins σ Q r s') (k:=Sum.inr "xs") (Jq (tk:=tk)) dd.mapOf (by simp[valueAt]) ⟨rfl,.ref q,H2,I2.tok _,rfl,h⟩
def Cp{r:Bool}{ns:aS}{ρ:cn}{xs:aU}(t:At X N sc)(i:Nat)(hr:ρ[i]?=some (.val (.Wg q)))(hx0:xs=ns.map D.int)(he:r=ns.isEmpty)(hN:N[i]?=some x:=by rfl)(hv:dW sc x=true:=by rfl)(hx:cm x=true:=by rfl):
  Xn X q ρ (.Compare (.Subscript (.Name x py) (.Constant (.str "xs") j p2) p1) [.Eq] [.List [] p3] pos) r xs:=fun B F H σ Q us l k w=>.mk fun pins s I=>by
 subst hx0
 have sh:SeqAt.shaped (PyData.list (Vb (ns.map D.int)))=true:=by rw[io];exact UX ns
 refine eg (Fo t (p:=.list (Vb (ns.map D.int))) (q:=.list []) sh rfl) aN aN (cT _ (by decide) (by decide)) pins s σ H Q I ?_
 refine MS t hr hN hv hx k ?_
 refine(bb (X:=X) (ρ:=ρ) af).toQ.p B F H σ _ k fun v F' H' x' rd=>?_
 refine⟨fun hc H2 s2 pins σ s u I ru=>?_,rd,r,?_,w F' H' x'⟩
 ·cases(show u=Value.ref q from ru)
  exact Yp.reads (k:=true) I (x'.sub.trans s2) (show VE _ _ _ _ from VE.of (s2 _ _ (x'.sh _ _ (k.sh _ _ l.st)))) (l.rep.mono x'.sf) hc
 ·subst he
  cases ns with
  |nil=>rfl
  |cons n ns=>rfl
def Pd{apos U7:Pos}{ρ:cn}{xs:aU}{xs':aU}(t:At X N sc)(i:Nat)(hr:ρ[i]?=some (.val (.Wg q)))(hxs:xs=xs'++[d])(hN:N[i]?=some x:=by rfl)(hv:dW sc x=true:=by rfl)(hx:cm x=true:=by rfl)(Vk:(apos.endLine==U7.line)=true:=by rfl):
  VF X q ρ (.Call (.Attribute (.Subscript (.Name x py) (.Constant (.str "xs") j p2) p1) "pop" apos) [] [] U7) d xs xs':=fun B F H σ Q us l k w=>.mk fun pins s I=>by
 subst hxs
 refine wR bV mr mq A6 aN rfl Vk pins s σ H Q I ?_
 refine MS t hr hN hv hx k ?_
 have h2:H q=some (.lst us):=k.sh _ _ l.st
 refine⟨.inl ⟨rfl,_,VE.of h2⟩,?_⟩
 have hl:=l.rep.length
 obtain⟨v,hw,WH⟩:=l.rep.get (i:=xs'.length) (d:=d) (by simp)
 have hll:us.length-1=xs'.length:=by rw[hl];simp
 refine⟨q,us,v,rfl,rfl,h2,by rw[hll];exact hw,?_⟩
 have hf:=l.ff k
 have rd:=l.rep.dropLast
 rw[oj] at rd
 exact w v F _ us.dropLast ⟨fun b u z=>by rw[aI (fun e=>by subst e;rw[hf] at z;cases z)];exact k.sub b u z,fun b u z=>z,.refl _,fun a z=>.inl z⟩ rd WH
def Qt(K:bW)(C:aU->aU->D->aU->Prop):Sp:=fun vs H Q _=>∃q F ds d us xs xs',U8 F H/\H q=some (.lst us)/\F q=none/\U2 K F us xs/\U2 K F vs (.Wg q::ds)/\C ds xs d xs'/\∀v F' H' Wf,Ext (VJ ⟨F,H⟩ q Wf) F' H'->U2 K F' Wf xs'->Rep K F' v d->Q v H'
def Vj(X:Cx)(x:Str)(C:aU->aU->D->aU->Prop):Prop:=∃(f:Addr) (fd:FuncData) (ps:ce) (k:Nat),dO X.prog X.w X.K X.mg X.base gN k f fd ps (Qt X.K C)/\Vz k X.A/\X.mg x=some (.ref f)/\PySem.W.keepIn X.K (.ref f)=true/\Binds X.K fd ps []
def OW{P:Program}(VO:P.given.tree=none){w:World}{K:bW}{mg:ux}{base:Heap}{x qual:Str}{st:Stmt}{f:Addr}{fd:FuncData}{N ps:ce}{k:Nat}{C:aU->aU->D->aU->Prop}(F:X8 K x qual st f fd)(S:aK N ps (ai st))(len:∀ds xs d xs',C ds xs d xs'->ds.length+1=ps.length)(body:∀X,DefX P w K mg base k N (ai st) X->∀q ds xs d xs',C ds xs d xs'->Xs X q (.val (.Wg q)::ds.map Sl.val++List.replicate (N.length-(ds.length+1)) Sl.un) (bE st) (.rt d) xs xs'):dO P w K mg base gN (k+1) f fd ps (Qt K C):=by
 refine F.ok S (fun vs H Q E h=>?_) (fun VG A outer s H vs Q E hr h=>?_)
 ·obtain⟨p,F',ds,d,us,xs,xs',sub,hp,hf,ru,r,hC,q⟩:=h
  rw[r.length];exact len ds xs d xs' hC
 ·obtain⟨p,F',ds,d,us,xs,xs',sub,hp,hf,ru,r,hC,q⟩:=h
  refine⟨_,cQ,?_⟩
  have hx:DefX P w K mg base k N (ai st) (q8 gN P w K mg base N qual (ai st) f VG A outer s H E).XC:=
   ⟨⟨rfl,rfl,rfl,S.nd,rfl,hr.units,hr.WS,VO,⟨_,_,rfl,S.gen,S.co,rfl,rfl⟩⟩,rfl,rfl,rfl,rfl,rfl,hr,⟨fun _=>rfl⟩,rfl,rfl⟩
  have hk:Ok K ⟨F',H⟩ F' H (start N vs) (.val (.Wg p)::ds.map Sl.val++List.replicate (N.length-(ds.length+1)) Sl.un):=by
   unfold start
   rw[r.length]
   exact i8 sub r _
  exact body _ hx p ds xs d xs' hC ⟨F',H⟩ F' H _ _ us ⟨hp,hf,ru⟩ hk fun v F2 H2 XT x2 r2 rv=>q v F2 H2 XT x2 r2 rv
def DefX.Zt{K:bW}{x:Str}{C:aU->aU->D->aU->Prop}(h:DefX P w K mg base k N sc X)(F:dO P w K mg base gN j f fd ps (Qt K C))(hj:j<=k)(hm:mg x=some (.ref f))(hk:PySem.W.keepIn K (.ref f)=true)(hb:Binds K fd ps []):Vj X x C:=by
 obtain⟨h0,rfl,rfl,rfl,rfl,rfl,hr,_⟩:=h
 exact⟨f,fd,ps,j,F,hr.mono hj,hm,hk,hb⟩
def dz(t:At X N sc){C:aU->aU->D->aU->Prop}(h:Vj X x C)(ha:Hi X q ρ (e::es) (.Wg q::ds) xs xs1)(hC:C ds xs1 d xs')(hg:ve sc x:=by rfl)(VW:qA x:=by rfl):
  VF X q ρ (.Call (.Name x p) (e::es) [] pos) d xs xs':=fun B F0 H σ Q us l k w=>.mk fun pins s I=>by
 obtain⟨f,fd,ps,kk,F,X1,hm,hk,hb⟩:=h
 have pz:fW gN X E0:=oN
 refine iR F X1 (dj t hg) hm hk hb .nil pz oO VW (ha.1.1 _ _) (XR.any ha.1.2) pins s σ H Q I (ha.2 B F0 H σ _ us l k fun vs F1 H1 u1 x1 r1 rv=>?_)
 have k1:=k.WR l x1
 refine⟨q,F1,ds,d,u1,xs1,xs',k1.sub,k1.sh _ _ aG,E3 x1 (l.ff k),r1,by rw[aP];exact rv,hC,fun v F2 H2 u2 x2 r2 Ze=>w v F2 H2 u2 (x1.tM (l.ff k) x2) r2 Ze⟩
def Ext.Zg{H:Hp}{l:Addr}(x:Ext ⟨F,H⟩ F1 H1)(h0:H l=none)(hf:F1 l=none)(y:Ext (VJ ⟨F1,H1⟩ l us) F2 H2):Ext ⟨F,H⟩ F2 H2:=by
 refine Ext.trans (F:=F1) (H:=cE H1 l (.lst us)) ⟨fun b u z=>?_,fun b u z=>?_,x.sf,x.nw⟩ y
 ·rw[aI (fun e=>by subst e;rw[hf] at z;cases z)];exact x.sub b u z
 ·have z':H b=some u:=z
  rw[aI (fun e=>by subst e;rw[h0] at z';cases z')];exact x.sh b u z
def NP{Q:VK}(t:At X N sc)(h1:U9 X ρ e xs)(k:Ok X.K B F H σ ρ)(w:∀a l vs F' H',Ext ⟨F,H⟩ F' H'->H l=none->H' l=some (.lst vs)->F' l=none->U2 X.K F' vs xs->Rep X.K F' (.ref a) (.Wg l)->Q (.ref a) H'):wE X (.Dict [some (.Constant (.str "xs") j p1)] [e] p2) σ H Q:=.mk fun pins s I=>by
 rw[arm_eval_Dict,zip_pairTrees [some (.Constant (.str "xs") j p1)] [e] X.env p2 rfl rfl]
 have WZ:(pairTrees [some (.Constant (.str "xs") j p1)] [e] X.env p2).length=1:=pairTrees_length _ _ X.env p2 rfl rfl
 rw[dictDisplay_pairs _ (fun z=>by rw[z] at WZ;cases WZ) (by lia)]
 refine ae (qP (ae ?_))
 unfold subDict
 refine ae (R6 ?_)
 have hn:=I.Vl.fresh (aj s.heap.objs.size)
 have hbg:sysModules<s.heap.objs.size:=lK (by decide) (show mainGlobals<s.heap.objs.size from(I.mod.glob.keeps I.bk).lt)
 have Z1:(s.heap.objs.size==sysModules)=false:=bn.mpr (dD (bi hbg))
 have I1:=I.laid (a:=s.heap.objs.size) (o:=.dK []) (h':=s.heap.push { cls:=.type "dict",data:=.dict #[] }) (t':=s.toks) (fun _ _ q=>Heap.get?_push_of_some _ q) (aj _) (show Ve X.prog X.w _ _ s.heap.objs.size (.dK []) from⟨be _,Z1,[],.nil,Heap.DictOf.new s.heap⟩)
 have x1:Ext ⟨F,H⟩ F (cE H s.heap.objs.size (.dK [])):=⟨k.sub.trans (aL hn),aL hn,.refl _,fun _ z=>.inl z⟩
 have Z7:F s.heap.objs.size=none:=k.sub.free hn
 refine ae (cp ?_)
 rw[au (by lia)]
 generalize s.heap.objs.size=a at hn Z1 I1 x1 Z7 ⊢
 refine ae ?_
 refine pairTrees_cons_walk (dk (D3 pins _ σ _ (fun v H2=>v=.str "xs" /\ H2=cE H a (.dK [])) I1 ⟨rfl,rfl⟩) fun u s1 ⟨v,H1,I2,rv,ev,eh⟩=>?_)
 subst ev;subst eh
 obtain⟨tk,rfl⟩:=(show ∃t,u=Value.str "xs" t from rv)
 refine dk (h1 B F _ σ (fun v H2=>∃l vs F2,v=.ref l/\Ext ⟨F,cE H a (.dK [])⟩ F2 H2/\cE H a (.dK []) l=none/\H2 l=some (.lst vs)/\F2 l=none/\U2 X.K F2 vs xs) (k.ext x1) (fun l vs F2 H2 x2 g1 g2 g3 g4=>⟨l,vs,F2,rfl,x2,g1,g2,g3,g4⟩) pins s1 I2) fun u2 s2 ⟨v2,H2,I3,Ze,l,vs,F2,ev,x2,g1,g2,g3,g4⟩=>?_
 subst ev
 cases(show u2=Value.ref l from Ze)
 refine pairTrees_nil_walk ?_
 refine cp (ae ?_)
 have ha2:H2 a=some (.dK []):=x2.sh _ _ aG
 obtain⟨z,_,vs0,rel,dd⟩:=(show Ve X.prog X.w H2 s2.heap a (.dK []) from I3.Vl a _ ha2)
 cases rel
 rw[xY]
 refine ae (ae (wpAny_dictSet_pairs (knd:=gu X.prog X.w) (k:=Sum.inr "xs") (Jq (tk:=tk)) dd (fun h' dd' sb=>?_) (be _)))
 refine ao ?_
 show wpAny _ _ (forIn [] PUnit.unit _) _ _ _
 rw[List.forIn_nil]
 refine ao (ao ?_)
 have Z0:stored (K:=tz) [] (Sum.inr (Str.ofString "xs")) (Value.ref l)=[((Sum.inr (Str.ofString "xs"):tz),Value.ref l)]:=rfl
 rw[Z0] at dd'
 have I4:Inv X pins σ (cE H2 a (.dK [(Sum.inr "xs",.ref l)])) { s2 with heap:=h',toks:=s2.toks+1 }:=I3.write (x:=a) (e:=a) (by rw[ha2];exact True.intro) (.inl rfl) (fun c q hc w=>(sb.2 c hc).trans w) (let ⟨o,_,_,h1,_⟩:=dd';⟨o,h1⟩)
  (show Ve X.prog X.w _ _ a (.dK [(Sum.inr "xs",.ref l)]) from⟨by show 1<=sizeLine;rw[fZ];decide,Z1,[((Sum.inr (Str.ofString "xs"):tz),Value.ref l)],.cons ⟨rfl,rfl⟩ .nil,dd'⟩)
 refine ao (ao ⟨.ref a,_,I4,rfl,?_⟩)
 have Y2:F2 a=none:=x2.kf Z7 aG
 have Y6:=x1.t x2
 have hla:l≠a:=fun z=>by subst z;rw[aG] at g1;cases g1
 have hl0:H l=none:=by rw[aI hla] at g1;exact g1
 refine w a l vs (cE F2 a (.dK [(Sum.inr "xs",.ref l)])) _ ⟨wa Y6.sub,fun c u z=>?_,Y6.sf.trans (aL Y2),fun c z=>?_⟩ hl0 (by rw[aI hla];exact g2) (by rw[aI hla];exact g3) (g4.mono (aL Y2)) (.Wg aG)
 ·have ne:c≠a:=fun e=>by subst e;have z':H c=some u:=z;rw[hn] at z';cases z'
  rw[aI ne];exact Y6.sh c u z
 ·by_cases e:c=a
  ·subst e;exact .inr hn
  ·rw[aI e] at z;exact Y6.nw c z
def JR(t:At X N sc){C:aU->aU->D->aU->Prop}(h:Vj X x C)(h1:U9 X ρ e xs)(ha:Vw X ρ es ds)(hC:C ds xs d xs')(hg:ve sc x:=by rfl)(VW:qA x:=by rfl):
  U1 X ρ (.Call (.Name x p) (.Dict [some (.Constant (.str "xs") j p1)] [e] p2::es) [] pos) d:=fun B F0 H σ Q k w=>.mk fun pins s I=>by
 obtain⟨f,fd,ps,kk,F,X1,hm,hk,hb⟩:=h
 have pz:fW gN X E0:=oN
 have WZ:Pl (.Dict [some (.Constant (.str "xs") j p1)] [e] p2):=fun _ _=>rfl
 refine iR F X1 (dj t hg) hm hk hb .nil pz oO VW (WZ _ _) (XR.any ha.1) pins s σ H Q I ?_
 refine .mk fun pos' pins s I=>?_
 refine bw (aN (e:=.Dict [some (.Constant (.str "xs") j p1)] [e] p2)) (oO (es:=es)) (WZ _ _) pos' pins s σ H _ I ?_
 refine NP t h1 k fun a l vs F1 H1 x1 g0 g1 g2 g3 g4=>ha.2 B F1 H1 σ _ (k.ext x1) fun ws F2 H2 x2 r2=>?_
 have Y2:F2 l=none:=x2.stays g1 g2
 refine⟨l,F2,ds,d,vs,xs,xs',x2.sub,x2.sh _ _ g1,Y2,g3.mono x2.sf,by rw[aP];exact .cons (g4.mono x2.sf) r2,hC,fun v F3 H3 u3 x3 r3 rv=>w v F3 H3 ((x1.t x2).Zg g0 Y2 x3) rv⟩
end
mutual
inductive GP(K:bW):Value->PyData->Prop where
 |int (i:Int) (t:Tok):GP K (.int i t) (.int i)
 |str (x:Str) (t:Tok):GP K (.str x t) (.str x)
 |tup {a:Addr} {o:Obj} {its:Array Value} {n:Nat} {ps:List PyData}:K.lookup a=some o->o.cls=.type "tuple" -> o.data=.seq its n->Yi K its.toList ps->GP K (.ref a) (.tuple ps)
inductive Yi(K:bW):fR->List PyData->Prop where
 |nil:Yi K [] []
 |cons {v:Value} {vs:fR} {p:PyData} {ps:List PyData}:GP K v p->Yi K vs ps->Yi K (v::vs) (p::ps)
end
mutual
def GP.reads{K:bW}(i:K.In h):∀{v:Value} {p:PyData},GP K v p->∃as,Reads h v p as
 |_,_,.int i t=>⟨_,.int i t⟩
 |_,_,.str x t=>⟨_,.str x t⟩
 |_,_,.tup e c d r=>by obtain⟨as,ra⟩:=Yi.reads i r;exact⟨_,.tuple (i _ _ e) c d ra⟩
def Yi.reads{K:bW}(i:K.In h):∀{vs:fR} {ps:List PyData},Yi K vs ps->∃as,ReadsAll h vs ps as
 |_,_,.nil=>⟨_,.nil⟩
 |_,_,.cons a b=>by obtain⟨as,ra⟩:=GP.reads i a;obtain⟨bs,rb⟩:=Yi.reads i b;exact⟨_,.cons ra rb⟩
end
def j7{x:Str}(t:At X N sc)(hm:X.mg x=some (.ref l))(hk:GP X.K (.ref l) q)(hg:ve sc x:=by rfl)(VW:qA x:=by rfl):Du X ρ (.Name x pos) q:=fun B F H σ Q k w=>.mk fun pins s I=>
 vq (v:=.ref l) (dj t hg) hm rfl VW pins s σ H Q I (w _ F H (.refl k.sub) fun hc H' s' pins σ s u I ru=>by
  cases(show u=Value.ref l from ru)
  exact hk.reads I.WM)
def xr{r:Bool}(t:At X N sc){qs:List PyData}(ha:Du X ρ a q)(hb:Du X ρ b (.tuple qs))(sp:q.canLay0=true)(sd:q.depth<=62)(sq:PyData.canLayAll0 qs=true)(he:(qs.any fun y=>PyData.eqv y q)=r)(hm:behindInMarks .In b=false:=by rfl):U3 X ρ (.Compare a [.In] [b] pos) r:=
 .of (eg (wz t sp sd sq) aN aN hm) fun B F H σ Q k q=>yb ha hb k fun x y F' H' x' rx ry=>⟨rx,ry,r,by rw[he],q F' H' x'⟩
def JM{r:Bool}(t:At X N sc){qs:List PyData}(ha:Du X ρ a q)(hb:Du X ρ b (.tuple qs))(sp:q.canLay0=true)(sd:q.depth<=62)(sq:PyData.canLayAll0 qs=true)(he:(qs.any fun y=>PyData.eqv y q)=r)(hm:behindInMarks .In b=false:=by rfl):U1 X ρ (.Compare a [.In] [b] pos) (.bl r):=
 .of (kX (wz t sp sd sq) aN aN hm) fun B F H σ Q k q=>yb ha hb k fun x y F' H' x' rx ry=>⟨rx,ry,by rw[he];exact q _ F' H' x' (.bl r)⟩
def Pk:D->Bool
 |.Vs=>true | .bl _=>true | .int _=>true | .str _=>true | .tup _=>true | .lst _=>true | .Vi _=>true | _=>false
def LW{X:Cx}(hk:PySem.W.kitOne X.K (.type "dict") (.type T)=some k):
  gn X (.builtin "isinstance") (fun xs H Q=>∃x F kvs,xs=[x,.ty T]/\U8 F H/\Rep X.K F x (.Vi kvs)/\Q (.bl k) H):=by
 intro pins s σ H xs us Q I r h
 obtain⟨v,F,kvs,rfl,sub,rv,q⟩:=h
 obtain⟨u,w,rfl,ru,WH⟩:=z6 r
 cases(show w=Value.type T from WH)
 cases rv with
 |@Vi a ob _ zs hf _=>
 cases(show u=Value.ref a from ru)
 obtain⟨_,_,o,h1,h2,_⟩:=Wo.is I (.inr ⟨ob,sub _ _ hf⟩:Wo H a zs)
 exact cq Hk I.WM ⟨o,h1,h2.1⟩ hk (fun z=>nomatch z) fun tk=>⟨.bl k,H,I.tok tk,rfl,q⟩
def vx(t:At X N sc)(bl:m8 X sc x (.builtin "isinstance"))(bt:m8 X sc y (.type T))(ha:U1 X ρ a d)(hp:Pk d=true)(hk:PySem.W.kitOne X.K (RP d) (.type T)=some k)(hpa:Pl a:=by intro _ _;rfl):
  U1 X ρ (.Call (.Name x p) [a,.Name y py] [] pos) (.bl k):=by
 cases d with
 |Vi kvs=>
  exact .of (jX (LW hk) (dj t bl.g) bl.m bl.v (bw aN (bw (A3 (v:=.ty T) (dj t bt.g) bt.m bt.v rfl bt.n bt.d) cK) (hpa _ _)) bl.n bl.d (hpa _ _) rfl) fun B F H σ Q k' q=>
   ha B F H σ _ k' fun v F' H' x' r=>⟨v,F',kvs,rfl,x'.sub,r,q _ F' H' x' (.bl k)⟩
 |Vs=>exact qX t bl bt ha hk (hpa:=hpa)
 |bl _=>exact qX t bl bt ha hk (hpa:=hpa)
 |int _=>exact qX t bl bt ha hk (hpa:=hpa)
 |str _=>exact qX t bl bt ha hk (hpa:=hpa)
 |tup _=>exact qX t bl bt ha hk (hpa:=hpa)
 |lst _=>exact qX t bl bt ha hk (hpa:=hpa)
 |Xb _=>cases hp
 |exc _=>cases hp
 |Yu _ _=>cases hp
 |adr _=>cases hp
 |Wg _=>cases hp
def QV:D->Bool
 |.tup _=>true | _=>false
def QW:D->Bool
 |.str _=>true | _=>false
def Te:D->Bool
 |.bl _=>true | _=>false
def QX:D->Bool
 |.int _=>true | .bl _=>true | _=>false
def sR(t:At X N sc)(bl:m8 X sc x (.builtin "isinstance"))(bt:m8 X sc y (.type "tuple"))(ha:U1 X ρ a d)(hp:Pk d=true)(hpa:Pl a:=by intro _ _;rfl):U1 X ρ (.Call (.Name x p) [a,.Name y py] [] pos) (.bl (QV d)):=
 vx t bl bt ha hp (by cases d<;>first | rfl | cases hp) hpa
def xm(t:At X N sc)(bl:m8 X sc x (.builtin "isinstance"))(bt:m8 X sc y (.type "str"))(ha:U1 X ρ a d)(hp:Pk d=true)(hpa:Pl a:=by intro _ _;rfl):U1 X ρ (.Call (.Name x p) [a,.Name y py] [] pos) (.bl (QW d)):=
 vx t bl bt ha hp (by cases d<;>first | rfl | cases hp) hpa
def Md(t:At X N sc)(bl:m8 X sc x (.builtin "isinstance"))(bt:m8 X sc y (.type "bool"))(ha:U1 X ρ a d)(hp:Pk d=true)(hpa:Pl a:=by intro _ _;rfl):U1 X ρ (.Call (.Name x p) [a,.Name y py] [] pos) (.bl (Te d)):=
 vx t bl bt ha hp (by cases d<;>first | rfl | cases hp) hpa
def JK(t:At X N sc)(bl:m8 X sc x (.builtin "isinstance"))(bt:m8 X sc y (.type "int"))(ha:U1 X ρ a d)(hp:Pk d=true)(hpa:Pl a:=by intro _ _;rfl):U1 X ρ (.Call (.Name x p) [a,.Name y py] [] pos) (.bl (QX d)):=
 vx t bl bt ha hp (by cases d<;>first | rfl | cases hp) hpa
def Mg{lo hi:Option Expr}{l h:Option Int}(ha:U1 X ρ a (.tup xs))(hl:KP X ρ lo l)(hh:KP X ρ hi h):U1 X ρ (.Subscript a (.Slice lo hi none p2) pos) (.tup (cutD xs l h)):=by
 by_cases hw:HT.Vo xs.length 0 l=0/\HT.Vo xs.length xs.length h=xs.length
 ·have e:cutD xs l h=xs:=by unfold cutD;rw[hw.1,hw.2];simp
  rw[e];exact Me ha hl hh hw
 ·exact Mf ha.qt hl hh hw
def Ie{apos U7:Pos}{ρ:cn}{pos:Pos}(t:At X N sc)(i:Nat)(hr:ρ[i]?=some (.own xs))(h:U1 X ρ e (.lst ys))(hz:xs.length+ys.length<=sizeLine)(hN:N[i]?=some y:=by rfl)(hv:dW sc y=true:=by rfl)(hx:cm y=true:=by rfl)(hs:Ci e [] X.env:=by rfl)(Vk:(apos.endLine==U7.line)=true:=by rfl)(WZ:rM U7 [] X.env:=by rfl)(Wh:Cj U7 [e] X.env:=by rfl)(Xl:swapsWith (.Call (.Attribute (.Name y p) "extend" apos) [e] [] U7) none pos.line X.env=pure false:=by rfl):
  Vy X ρ (.Expr (.Call (.Attribute (.Name y p) "extend" apos) [e] [] U7) pos) (.nx (ρ.set i (.own (xs++ys)))):=
 .of (gZ (uI bV RK RJ Au aN (bw aN cK hs) rfl Wh Vk hs WZ) Xl) fun B F H σ E k q=>
  oP t hr hN hv hx k fun l vs h1 h2 h3=>⟨.inl ⟨rfl,_,VE.of h2⟩,h B F H σ _ k fun v F' H' x' r=>by
   cases r with
   |@lst b ws _ hf rl=>
   have k':=k.ext x'
   have X4:=x'.sh _ _ h2
   refine⟨l,b,vs,ws,rfl,rfl,X4,x'.sub _ _ hf,by rw[h3.length,rl.length];exact hz,?_⟩
   exact q F' _ _ (k'.W3 (vs:=vs) hr h1 ((h3.mono x'.sf).append rl)) x'.sf⟩
def fu{α:Type}[DecidableEq α](u v:α):(u==v)=decide (u=v):=by
 by_cases h:u=v
 ·simp[h]
 ·simp[h]
def cU(w:Str):(e8 (.str w)).depth<=62:=by simp[e8,PyData.depth]
def dw{w:Str}(h:PyData.strOk w=true):(e8 (.str w)).canLay0=true:=by simp[e8,PyData.canLay0,h]
def gR{w:Str}(h:PyData.strOk w=true):SeqAt.shaped (e8 (.str w))=true:=by
 show((e8 (.str w)).canLay0&&decide ((e8 (.str w)).depth<=64))=true
 rw[ay (by have:=cU w;lia),dw h];rfl
def RW{u v:Str}(hu:PyData.strOk u=true)(hv:PyData.strOk v=true):PyData.canLayAll0 [.str u,.str v]=true:=by simp[PyData.canLayAll0,PyData.canLay0,hu,hv]
def b0(t:At X N sc)(ha:U1 X ρ a (.str u))(hb:U1 X ρ b (.str v))(hu:PyData.strOk u=true)(hv:PyData.strOk v=true:=by decide):U3 X ρ (.Compare a [.Eq] [b] pos) (decide (u=v)):=
 iy t ha.p hb.p (gR hu) (gR hv) (by show(u==v)=_;exact fu u v)
def JN(t:At X N sc)(ha:U1 X ρ a (.str u))(hb:U1 X ρ b (.str v))(hu:PyData.strOk u=true)(hv:PyData.strOk v=true:=by decide):U1 X ρ (.Compare a [.Eq] [b] pos) (.bl (decide (u=v))):=
 xp t ha.p hb.p (gR hu) (gR hv) (by show(u==v)=_;exact fu u v)
def He(u v w:Str):([PyData.str u,.str v].any fun y=>PyData.eqv y (.str w))=(decide (w=u)||decide (w=v)):=by
 show((u==w)||((v==w)||false))=_
 rw[fu,fu,uw,decide_eq_decide.mpr (Cf (a:=u)),decide_eq_decide.mpr (Cf (a:=v))]
def Pc{u v:Str}(t:At X N sc)(ha:U1 X ρ a (.str w))(hw:PyData.strOk w=true)(hu:PyData.strOk u=true:=by decide)(hv:PyData.strOk v=true:=by decide):U3 X ρ (.Compare a [.In] [.Tuple [.Constant (.str u) i p1,.Constant (.str v) j p2] k p3] pos) (decide (w=u)||decide (w=v)):=
 j8 t (xs:=[.str u,.str v]) ha (aD (ab U0 (ab U0 af))) (dw hw) (cU w) (RW hu hv) (He u v w)
def Pa{u v:Str}(t:At X N sc)(ha:U1 X ρ a (.str w))(hw:PyData.strOk w=true)(hu:PyData.strOk u=true:=by decide)(hv:PyData.strOk v=true:=by decide):U1 X ρ (.Compare a [.In] [.Tuple [.Constant (.str u) i p1,.Constant (.str v) j p2] k p3] pos) (.bl (decide (w=u)||decide (w=v))):=
 O8 t (xs:=[.str u,.str v]) ha (aD (ab U0 (ab U0 af))) (dw hw) (cU w) (RW hu hv) (He u v w)
def xt{x:Str}(t:At X N sc)(ha:U1 X ρ a (.str w))(hm:X.mg x=some (.ref l))(hk:GP X.K (.ref l) (.tuple [.str u,.str v]))(hw:PyData.strOk w=true)(hu:PyData.strOk u=true:=by decide)(hv:PyData.strOk v=true:=by decide)(hg:ve sc x:=by rfl)(VW:qA x:=by rfl):U3 X ρ (.Compare a [.In] [.Name x p] pos) (decide (w=u)||decide (w=v)):=
 xr t ha.p (j7 t hm hk hg VW) (dw hw) (cU w) (RW hu hv) (He u v w)
def O9{x:Str}(t:At X N sc)(ha:U1 X ρ a (.str w))(hm:X.mg x=some (.ref l))(hk:GP X.K (.ref l) (.tuple [.str u,.str v]))(hw:PyData.strOk w=true)(hu:PyData.strOk u=true:=by decide)(hv:PyData.strOk v=true:=by decide)(hg:ve sc x:=by rfl)(VW:qA x:=by rfl):U1 X ρ (.Compare a [.In] [.Name x p] pos) (.bl (decide (w=u)||decide (w=v))):=
 JM t ha.p (j7 t hm hk hg VW) (dw hw) (cU w) (RW hu hv) (He u v w)
def Ps{xs:aU}(n:Nat)(h:xs[n]?=some d):k7 xs (n:Int)=some d:=by
 unfold k7
 have hn:n<xs.length:=(List.getElem?_eq_some_iff.mp h).1
 rw[Bj (j:=n) (by lia) (by lia) hn];exact h
def t7(n:Nat)(ha:U1 X ρ a (.tup xs))(hb:U1 X ρ b (.int i))(hi:i=(n:Int))(h:xs[n]?=some d)(hs:k8 b:=by intro _ _;rfl):U1 X ρ (.Subscript a b pos) d:=
 cb ha.qt hb (by subst hi;exact Ps n h) hs
def tm{i:Int}{ys:aU}(hi:i=-1\/i=((ys++[d]).length:Int)-1):k7 (ys++[d]) i=some d:=by
 unfold k7
 have hl:(ys++[d]).length=ys.length+1:=by simp
 rcases hi with rfl | rfl
 ·have:FS (ys++[d]).length (-1)=some ys.length:=by
   unfold FS;simp[hl];lia
  rw[this];simp
 ·rw[Bj (j:=ys.length) (by lia) (by lia) (by lia)];simp
section
variable {bF:List Stmt}
def sU(ha:U1 X ρ a (.bl u))(hb:u=true->U1 X ρ b (.bl v)):U1 X ρ (.BoolOp .And [a,b] pos) (.bl (u&&v)):=by
 cases u with
 |true=>exact FZ ha (Es (hb rfl))
 |false=>exact F7 ha
def Mi(ha:U1 X ρ a (.bl u))(hb:u=true->U1 X ρ b (.bl v))(hc:u=true->v=true->U1 X ρ c (.bl w)):U1 X ρ (.BoolOp .And [a,b,c] pos) (.bl (u&&(v&&w))):=by
 cases u with
 |true=>exact FZ ha (show U1 X ρ (.BoolOp .And [b,c] pos) (.bl (v&&w)) from sU (hb rfl) (hc rfl))
 |false=>exact F7 ha
def ji(ha:U3 X ρ a u)(hb:u=false->U3 X ρ b v):U3 X ρ (.BoolOp .Or [a,b] pos) (u||v):=by
 cases u with
 |true=>exact Wj.toT (t6 ha)
 |false=>exact Wj.toT (lh ha (oX (hb rfl)))
def JT(ha:U3 X ρ a u)(hb:u=false->U3 X ρ b v)(hc:u=false->v=false->U3 X ρ c w):U3 X ρ (.BoolOp .Or [a,b,c] pos) (u||(v||w)):=by
 cases u with
 |true=>exact Wj.toT (t6 ha)
 |false=>cases v with
  |true=>exact Wj.toT (lh ha (t6 (hb rfl)))
  |false=>exact Wj.toT (lh ha (lh (hb rfl) (oX (hc rfl rfl))))
def gw(ha:U3 X ρ a u)(hb:u=true->U3 X ρ b v):U3 X ρ (.BoolOp .And [a,b] pos) (u&&v):=by
 cases u with
 |true=>exact Wj.toT (kY ha (qg (hb rfl)))
 |false=>exact Wj.toT (mK ha)
def F9(ha:U3 X ρ a u)(hb:u=true->U3 X ρ b v)(hc:u=true->v=true->U3 X ρ c w):U3 X ρ (.BoolOp .And [a,b,c] pos) (u&&(v&&w)):=by
 cases u with
 |true=>cases v with
  |true=>exact Wj.toT (kY ha (kY (hb rfl) (qg (hc rfl rfl))))
  |false=>exact Wj.toT (kY ha (mK (hb rfl)))
 |false=>exact Wj.toT (mK ha)
def Nm(hc:U3 X ρ c u)(h1:u=true->U4 X ρ body (.rt d))(h2:u=false->U4 X ρ bF (.rt d)):U4 X ρ (.If c body [] pos::bF) (.rt d):=by
 cases u with
 |true=>exact gB (e9 hc (h1 rfl))
 |false=>exact ax (cA hc bR) (h2 rfl)
end
def WU.scan{σ:Type}(R:σ->cn)(I F:σ->Prop)(μ:σ->Nat)(st:∀s,I s->(U3 X (R s) c false/\F s)\/(U3 X (R s) c true/\(U4 X (R s) body (.rt d0)\/∃s',U4 X (R s) body (.nx (R s'))/\I s'/\μ s'<μ s))):∀(n:Nat) (s:σ),μ s<=n->I s->∃m o,WU X c body m (R s) o/\(o=.rt d0\/∃s',o=.nx (R s')/\F s')
 |n,s,hn,hI=>by
  rcases st s hI with⟨h1,h2⟩ | ⟨h1,h2 | ⟨s',h2,h3,h4⟩⟩
  ·exact⟨0,_,.stop h1,.inr ⟨s,rfl,h2⟩⟩
  ·exact⟨0,_,.ret h1 h2,.inl rfl⟩
  ·cases n with
   |zero=>lia
   |succ n=>
    obtain⟨m,o,hr,ho⟩:=WU.scan R I F μ st n s' (by lia) h3
    exact⟨m+1,o,.step h1 h2 hr,ho⟩
def uc{bF:List Stmt}{σ:Type}(t:At X N sc)(R:σ->cn)(I F:σ->Prop)(μ:σ->Nat)(s0:σ)(h0:I s0)(st:∀s,I s->(U3 X (R s) c false/\F s)\/(U3 X (R s) c true/\(U4 X (R s) body (.rt d0)\/∃s',U4 X (R s) body (.nx (R s'))/\I s'/\μ s'<μ s)))(fin:∀s,F s->U4 X (R s) bF (.rt d0)):U4 X (R s0) (.While c body [] pos::bF) (.rt d0):=by
 obtain⟨m,o,hr,ho⟩:=WU.scan (X:=X) (c:=c) (body:=body) (d0:=d0) R I F μ st (μ s0) s0 (aj _) h0
 have run:=sw (pos:=pos) t ⟨m,hr⟩
 rcases ho with rfl | ⟨s',rfl,hf⟩
 ·exact gB run
 ·exact ax run (fin s' hf)
def P0(mg:ux)(K:bW)(x:Str)(q:PyData):Prop:=∃l,mg x=some (.ref l)/\GP K (.ref l) q
def QR(n:Nat):(!(Vb [D.int 2,.int 3]).any fun y=>PyData.eqv y (e8 (.int (n:Int)))) = !(decide (n=2)||decide (n=3)):=by
 show(!(((2:Int)==(n:Int))||(((3:Int)==(n:Int))||false)))=_
 rw[fu,fu,uw,decide_eq_decide.mpr (show(2:Int)=(n:Int) ↔ n=2 by lia),decide_eq_decide.mpr (show(3:Int)=(n:Int) ↔ n=3 by lia)]
def Mr(i:Int):(e8 (.int i)).depth<=62:=by simp[e8,PyData.depth]
def Nc(ns:aS):ns=[]\/∃m i,ns=m++[i]:=by
 cases h:ns.getLast? with
 |none=>exact .inl (List.getLast?_eq_none_iff.mp h)
 |some y=>obtain⟨ys,e⟩:=List.getLast?_eq_some_iff.mp h;exact .inr ⟨ys,y,e⟩
def mod_lt{x:Int}{xs:aU}(h:xs≠[]):(x%(xs.length:Int)).toNat<xs.length:=by
 have:0<xs.length:=List.length_pos_iff.mpr h
 have:=EU x (show(0:Int)<(xs.length:Int) by lia)
 have:=x8 x (show(xs.length:Int)≠0 by lia)
 lia
def Mv{n:Nat}:L2.EV.cutD xs (some (n:Int)) none=xs.drop n:=by
 unfold L2.EV.cutD
 rw[HT.YB,HT.Zc]
 by_cases h:n<=xs.length
 ·rw[Nat.min_eq_left h];rw[<-cv,bo]
 ·rw[Nat.min_eq_right (by lia),lO (aj _),lO (by lia)];simp
def xo{x:Str}(t:At X N sc)(hm:X.mg x=some (.ref l))(hg:ve sc x:=by rfl)(VW:qA x:=by rfl):U1 X ρ (.Name x pos) (.adr l):=
 .of (vq (v:=.ref l) (dj t hg) hm rfl VW) fun B F H σ Q k w=>w _ F H (.refl k.sub) (.adr l)
def tS:fillsNumberSlot (.type "tuple") "mul"=pure false:=
 PySem.fillsNumberSlot_seq (id := "tuple.__mul__") (r:=some (.builtin "tuple.__rmul__")) PySem.F.slot_tuple_mul.lookup (by decide) PySem.F.slot_tuple_rmul.lookup (by decide)
def AW:seqRepeat? (.type "tuple")=pure (some (.builtin "tuple.__mul__")):=by
 unfold seqRepeat?
 rw[PySem.seqSlot_of (T := "tuple") (name := "__mul__") (id := "tuple.__mul__") PySem.F.slot_tuple_mul.lookup (by decide),PySem.seqSlot_of (T := "tuple") (name := "__rmul__") (id := "tuple.__rmul__") PySem.F.slot_tuple_rmul.lookup (by decide)]
 rfl
def DT(a:Int)(t:Tok)(l:Addr)(Wb:Option Addr)(items:Array Value)(n:Nat)(sl:Array (Option Value)):
  Meets (Builtin.«int.__rmul__» ⟨[.int a t,.ref l],[]⟩) (fun _ R s=>s.heap.get? l=some { cls:=.type "tuple",dict:=Wb,data:=.seq items n,slots:=sl }/\R (.ok (.ret Value.notImplemented)) s):=
 .of_wp fun prog w A R s h=>by obtain⟨hp,g,d,tk,os⟩:=s;obtain⟨hl,h⟩:=h;wp_walk;exact⟨_,rfl,h⟩
def Ec(t:Tok)(l:Addr)(Wb:Option Addr)(v:Value)(n:Nat)(sl:Array (Option Value)):
  Meets (Builtin.«tuple.__mul__» ⟨[.ref l,.int 1 t],[]⟩) (fun _ R s=>s.heap.get? l=some { cls:=.type "tuple",dict:=Wb,data:=.seq #[v] n,slots:=sl }/\R (.ok (.ret (.ref l))) s):=
 .of_wp fun prog w A R s h=>by obtain⟨hp,g,d,tk,os⟩:=s;obtain⟨hl,h⟩:=h;wp_walk;exact⟨_,rfl,h⟩
def Ed(t:Tok)(l:Addr)(Wb:Option Addr)(v:Value)(n:Nat)(sl:Array (Option Value)):
  Meets (Builtin.«tuple.__mul__» ⟨[.ref l,.int 0 t],[]⟩) (fun _ R s=>s.heap.get? l=some { cls:=.type "tuple",dict:=Wb,data:=.seq #[v] n,slots:=sl }/\R (.ok (.ret (.ref s.heap.objs.size))) { s with heap:=s.heap.push { cls:=.type "tuple",data:=.seq #[] } }):=
 .of_wp fun prog w A R s h=>by obtain⟨hp,g,d,tk,os⟩:=s;obtain⟨hl,h⟩:=h;wp_walk;exact⟨_,rfl,h⟩
def LH:lP X (binaryOp .Mult) (fun x y H Q=>∃l v k,x=.ref l/\y=.int k/\VV X.K H l [v]/\((k=1/\Q (.ref l) H)\/(k=0/\∀p,H p=none->Q (.ref p) (cE H p (.tup []))))):=by
 intro pins s σ H x y v u Q I rx ry h
 obtain⟨l,v0,k,rfl,rfl,hl,h⟩:=h
 cases(show v=Value.ref l from rx)
 obtain⟨t,rfl⟩:=(show ∃t,u=Value.int k t from ry)
 obtain⟨its,rv,⟨o,e,c,n,dt⟩,_⟩:=I.tuple hl
 obtain⟨w,rfl,WH⟩:=iW rv
 obtain⟨cl,di,da,sl⟩:=o
 cases(show cl=_ from c)
 cases(show da=_ from dt)
 have T:s.TypeIs (.ref l) "tuple" := ⟨_,e,rfl⟩
 refine UW (T := "tuple") (U := "int") (by decide) T (fun s'=>MF s' k t) tS PySem.F.fills_int_mul Up AW PySem.F.slot_int_index.lookup
  (ml Up (MF s k t) PySem.F.entry_int_rmul (PySem.F.args_int_rmul_2 _ _) (DT k t l di #[w] n sl) ⟨e,rfl,T,?_⟩)
 rcases h with⟨rfl,q⟩ | ⟨rfl,q⟩
 ·exact ml T4 T R8 (RL _ _) (Ec t l di w n sl) ⟨e,.ref l,H,I,rfl,q⟩
 ·refine ml T4 T R8 (RL _ _) (Ed t l di w n sl) ⟨e,.ref s.heap.objs.size,cE H s.heap.objs.size (.tup []),?_,rfl,q _ (I.Vl.fresh (aj _))⟩
  exact I.laid (t':=s.toks) (fun b o e=>Heap.get?_push_of_some _ e) (aj _) ⟨be _,[],.nil,⟨_,Heap.get?_push_size _ rfl,rfl,_,rfl⟩⟩
def FW{ys:aU}(ha:U1 X ρ a (.tup [d]))(hb:U1 X ρ b (.int k))(hk:(k=1/\ys=[d])\/(k=0/\ys=[])):U1 X ρ (.BinOp a .Mult b pos) (.tup ys):=
 .of (l5 LH aN aN) fun B F H σ Q kk q=>two ha hb kk fun x y F' H' x' rx ry=>by
  cases ry
  cases rx with
  |@tup l vs _ hf rl=>
   obtain⟨v,rfl,rv⟩:=rl.one
   refine⟨l,v,k,rfl,rfl,VV.of (x'.sub _ _ hf),?_⟩
   rcases hk with⟨rfl,rfl⟩ | ⟨rfl,rfl⟩
   ·exact .inl ⟨rfl,q _ F' H' x' (.tup hf (.cons rv .nil))⟩
   ·exact .inr ⟨rfl,fun p hp=>q _ _ _ (x'.grow hp) (.tup aG .nil)⟩
structure LS where
 cs:Type
 ds:Type
 ov:cs->Addr->Option HO
 dom:∀c c' a,ov c a=none->ov c' a=none
 rep:bW->Hp->cs->ds->Prop
 mono:∀{K:bW} {F F':Hp} {c:cs} {s:ds},U8 F F'->rep K F c s->rep K F' c s
def jY(o:Addr->Option HO)(H:Hp):Hp:=fun a=>match o a with
 |some u=>some u
 |none=>H a
def fF{a:Addr}{o:Addr->Option HO}(h:o a=some u):jY o H a=some u:=by unfold jY;rw[h]
def cS{a:Addr}{o:Addr->Option HO}(h:o a=none):jY o H a=H a:=by unfold jY;rw[h]
def Vh(S:LS)(B:B0)(c:S.cs):B0:=⟨B.F,jY (S.ov c) B.H⟩
structure Ln(S:LS)(K:bW)(B:B0)(F:Hp)(c:S.cs)(s:S.ds):Prop where
 st:∀a u,S.ov c a=some u->B.H a=some u
 fr:∀a u,S.ov c a=some u->B.F a=none
 rep:S.rep K F c s
section
variable {S:LS}{K:bW}{c c1 c2:S.cs}{s s1 s2:S.ds}
def Vh.same{B:B0}(h:∀a u,S.ov c a=some u->B.H a=some u):Vh S B c=B:=by
 have:jY (S.ov c) B.H=B.H:=funext fun a=>by
  cases e:S.ov c a with
  |none=>exact cS e
  |some u=>rw[fF e,h a u e]
 show(⟨B.F,jY (S.ov c) B.H⟩:B0)=B
 rw[this]
def Vh.up:Vh S (Vh S B c) c1=Vh S B c1:=by
 have:jY (S.ov c1) (jY (S.ov c) B.H)=jY (S.ov c1) B.H:=funext fun a=>by
  cases e:S.ov c1 a with
  |some u=>rw[fF e,fF e]
  |none=>rw[cS e,cS e,cS (S.dom c1 c a e)]
 show(⟨B.F,jY (S.ov c1) (jY (S.ov c) B.H)⟩:B0)=⟨B.F,jY (S.ov c1) B.H⟩
 rw[this]
def LS.has{a:Addr}(h:S.ov c1 a=some u)(c:S.cs):∃v,S.ov c a=some v:=by
 cases e:S.ov c a with
 |some v=>exact⟨v,rfl⟩
 |none=>rw[S.dom c c1 a e] at h;cases h
def Ln.free{a:Addr}(l:Ln S K B F c s)(x:Ext B F H)(h:S.ov c1 a=some u):F a=none:=by
 obtain⟨v,hv⟩:=LS.has h c
 exact x.kf (l.fr a v hv) (l.st a v hv)
def Ln.up(l:Ln S K B F c s)(r:S.rep K F1 c1 s1):Ln S K (Vh S B c1) F1 c1 s1:=⟨fun a u h=>fF h,fun a u h=>by obtain⟨v,hv⟩:=LS.has h c;exact l.fr a v hv,r⟩
def Ln.ext{H:Hp}(l:Ln S K B F c s)(x:Ext ⟨F,H⟩ F' H'):Ln S K B F' c s:=⟨l.st,l.fr,S.mono x.sf l.rep⟩
def Ok.X5(k:Ok K B F H σ ρ)(l:Ln S K B F c s):Ok K (Vh S B c1) F (jY (S.ov c1) H) σ ρ:=by
 have hf:∀a u,S.ov c1 a=some u->F a=none:=fun a u h=>l.free k.toExt h
 have ho:∀a,B.H a=none->S.ov c1 a=none:=fun a h=>by
  cases e:S.ov c1 a with
  |none=>rfl
  |some u=>obtain⟨v,hv⟩:=LS.has e c;rw[l.st a v hv] at h;cases h
 refine⟨⟨fun b u q=>?_,fun b u q=>?_,k.sf,fun a q=>?_⟩,k.len,k.vals,fun i ys h=>?_,k.dist,⟨fun i kvs h=>?_,k.Vi.W7⟩⟩
 ·cases e:S.ov c1 b with
  |some v=>rw[hf b v e] at q;cases q
  |none=>rw[cS e];exact k.sub b u q
 ·have q':jY (S.ov c1) B.H b=some u:=q
  cases e:S.ov c1 b with
  |some v=>rw[fF e] at q' ⊢;exact q'
  |none=>rw[cS e] at q' ⊢;exact k.sh b u q'
 ·rcases k.nw a q with z | z
  ·exact .inl z
  ·refine .inr ?_
   show jY (S.ov c1) B.H a=none
   rw[cS (ho a z)];exact z
 ·obtain⟨a,vs,h1,h2,h3,h4,h5⟩:=k.VT i ys h
  have e:=ho a h4
  exact⟨a,vs,h1,by rw[cS e];exact h2,h3,by show jY (S.ov c1) B.H a=none;rw[cS e];exact h4,h5⟩
 ·obtain⟨a,es,h1,h2,h3,h4,h5⟩:=k.Vi.W2 i kvs h
  have e:=ho a h4
  exact⟨a,es,h1,by rw[cS e];exact h2,h3,by show jY (S.ov c1) B.H a=none;rw[cS e];exact h4,h5⟩
def Ok.Wa(k:Ok K B F H σ ρ)(l:Ln S K B F c s)(x:Ext (Vh S ⟨F,H⟩ c1) F1 H1):Ok K (Vh S B c1) F1 H1 σ ρ:=(k.X5 l).ext x
def KU{H:Hp}(x:Ext (Vh S ⟨F,H⟩ c1) F1 H1)(hf:∀a u,S.ov c1 a=some u->F a=none)(h:S.ov c2 a=some u):F1 a=none:=by
 obtain⟨v,hv⟩:=LS.has h c1
 exact x.kf (hf a v hv) (fF hv)
def Ext.reZ{H:Hp}(x:Ext (Vh S ⟨F,H⟩ c1) F1 H1)(hf:∀a u,S.ov c1 a=some u->F a=none):Ext (Vh S ⟨F,H⟩ c2) F1 (jY (S.ov c2) H1):=by
 refine⟨fun b u z=>?_,fun b u z=>?_,x.sf,fun a z=>?_⟩
 ·cases e:S.ov c2 b with
  |some v=>rw[KU x hf e] at z;cases z
  |none=>rw[cS e];exact x.sub b u z
 ·have z':jY (S.ov c2) H b=some u:=z
  cases e:S.ov c2 b with
  |some v=>rw[fF e] at z' ⊢;exact z'
  |none=>
   rw[cS e] at z' ⊢
   exact x.sh b u (by show jY (S.ov c1) H b=some u;rw[cS (S.dom c2 c1 b e)];exact z')
 ·rcases x.nw a z with y | y
  ·exact .inl y
  ·refine .inr ?_
   have y':jY (S.ov c1) H a=none:=y
   show jY (S.ov c2) H a=none
   cases e:S.ov c1 a with
   |some v=>rw[fF e] at y';cases y'
   |none=>rw[cS e] at y';rw[cS (S.dom c1 c2 a e)];exact y'
def Ext.tZ{H:Hp}(x:Ext (Vh S ⟨F,H⟩ c1) F1 H1)(hf:∀a u,S.ov c1 a=some u->F a=none)(y:Ext (Vh S ⟨F1,H1⟩ c2) F2 H2):Ext (Vh S ⟨F,H⟩ c2) F2 H2:=(x.reZ hf).trans y
def Ext.toZ{H:Hp}(x:Ext ⟨F,H⟩ F1 H1)(h:∀a u,S.ov c a=some u->H a=some u):Ext (Vh S ⟨F,H⟩ c) F1 H1:=by rw[Vh.same (B:=⟨F,H⟩) h];exact x
def Ln.now(l:Ln S K B F c s)(k:Ok K B F H σ ρ):∀a u,S.ov c a=some u->H a=some u:=fun a u h=>k.sh _ _ (l.st a u h)
def Ln.ff(l:Ln S K B F c s)(k:Ok K B F H σ ρ):∀a u,S.ov c1 a=some u->F a=none:=fun a u h=>l.free k.toExt h
end
def Vg(S:LS)(X:Cx)(ρ:cn)(e:Expr)(d:D)(s s':S.ds):Prop:=∀(B:B0) (F H:Hp) (σ:St) (Q:VK) (c:S.cs),Ln S X.K B F c s->Ok X.K B F H σ ρ ->
 (∀v F' H' c',Ext (Vh S ⟨F,H⟩ c') F' H'->S.rep X.K F' c' s'->Rep X.K F' v d->Q v H')->wE X e σ H Q
def KD(S:LS)(X:Cx)(ρ:cn)(es:rL)(ds:aU)(s s':S.ds):Prop:=XR es/\∀(B:B0) (F H:Hp) (σ:St) (Q:df->Hp->Prop) (c:S.cs),Ln S X.K B F c s->Ok X.K B F H σ ρ ->
 (∀vs F' H' c',Ext (Vh S ⟨F,H⟩ c') F' H'->S.rep X.K F' c' s'->U2 X.K F' vs ds->Q vs H')->wA X es σ H Q
def VC(S:LS)(X:Cx)(ρ:cn)(e:Expr)(b:Bool)(s s':S.ds):Prop:=∀(B:B0) (F H:Hp) (σ:St) (Q:Bool->Hp->Prop) (c:S.cs),Ln S X.K B F c s->Ok X.K B F H σ ρ ->
 (∀F' H' c',Ext (Vh S ⟨F,H⟩ c') F' H'->S.rep X.K F' c' s'->Q b H')->wT X e σ H Q
def uO(S:LS)(K:bW)(B:B0)(F₀:Hp)(E:kC)(s':S.ds):Out->Prop
 |.nx ρ=>∀F H σ c,Ok K (Vh S B c) F H σ ρ->S.rep K F c s'->U8 F₀ F->E.nx σ H
 |.rt d=>∀v F H c,Ext (Vh S B c) F H->S.rep K F c s'->Rep K F v d->E.rt v H
def Wd(S:LS)(X:Cx)(ρ:cn)(Xa:List Stmt)(o:Out)(s s':S.ds):Prop:=∀(B:B0) (F H:Hp) (σ:St) (E:kC) (c:S.cs),Ln S X.K B F c s->Ok X.K B F H σ ρ->uO S X.K B F E s' o->wSs X Xa E σ H
def VA(S:LS)(X:Cx)(ρ:cn)(st:Stmt)(o:Out)(s s':S.ds):Prop:=∀(B:B0) (F H:Hp) (σ:St) (E:kC) (c:S.cs),Ln S X.K B F c s->Ok X.K B F H σ ρ->uO S X.K B F E s' o->wS X st E σ H
section
variable {S:LS}{st:Stmt}{bF:List Stmt}{s s1 s2 s':S.ds}{ds:aU}
def U1.z(h:U1 X ρ e d):Vg S X ρ e d s s:=fun B F H σ Q c l k w=>h B F H σ Q k fun v F' H' x r=>w v F' H' c (x.toZ (l.now k)) (S.mono x.sf l.rep) r
def Vw.z(h:Vw X ρ es ds):KD S X ρ es ds s s:=⟨h.1,fun B F H σ Q c l k w=>h.2 B F H σ Q k fun v F' H' x r=>w v F' H' c (x.toZ (l.now k)) (S.mono x.sf l.rep) r⟩
def U3.z(h:U3 X ρ e r):VC S X ρ e r s s:=fun B F H σ Q c l k w=>h B F H σ Q k fun F' H' x=>w F' H' c (x.toZ (l.now k)) (S.mono x.sf l.rep)
def Vg.eq{d':D}(h:Vg S X ρ e d s s')(q:d=d'):Vg S X ρ e d' s s':=q ▸ h
def VC.eq{r':Bool}(h:VC S X ρ e r s s')(q:r=r'):VC S X ρ e r' s s':=q ▸ h
def bO(h1:Vg S X ρ e d s s1)(h2:KD S X ρ es ds s1 s')(hs:Pl e:=by intro _ _;rfl):KD S X ρ (e::es) (d::ds) s s':=
 ⟨⟨hs,h2.1⟩,fun B F H σ Q c l k w=>.mk fun pos pins st I=>bw aN oO (hs _ _) pos pins st σ H Q I (h1 B F H σ _ c l k fun v F1 H1 c1 x1 r1 rv=>h2.2 (Vh S B c1) F1 H1 σ _ c1 (l.up r1) (k.Wa l x1) fun vs F2 H2 c2 x2 r2 Zd=>w _ F2 H2 c2 (x1.tZ (l.ff k) x2) r2 (.cons (rv.mono x2.sf) Zd))⟩
def O2(h:KD S X ρ es ds s s')(hl:ds.length<=sizeLine:=by exact bq rfl):Vg S X ρ (.Tuple es x1 pos) (.tup ds) s s':=fun B F H σ Q c l k w=>.mk fun pins st I=>
 D2 oO pins st σ H Q I (h.2 B F H σ _ c l k fun vs F' H' c1 x r rv=>⟨by rw[rv.length];exact hl,fun p hp=>w _ _ _ c1 (x.grow hp) (S.mono (aL (x.sub.free hp)) r) (.tup aG (rv.mono (aL (x.sub.free hp))))⟩)
def Gw(ha:Vg S X ρ a da s s1)(hb:Vg S X ρ b db s1 s'){R:V->V->Hp->Prop}{c:S.cs}(l:Ln S X.K B F c s)(k:Ok X.K B F H σ ρ)(h:∀x y F' H' c',Ext (Vh S ⟨F,H⟩ c') F' H'->S.rep X.K F' c' s'->Rep X.K F' x da->Rep X.K F' y db->R x y H'):wE X a σ H fun x H1=>wE X b σ H1 fun y H2=>R x y H2:=
 ha B F H σ _ c l k fun x F1 H1 c1 x1 r1 rv=>hb (Vh S B c1) F1 H1 σ _ c1 (l.up r1) (k.Wa l x1) fun y F2 H2 c2 x2 r2 ry=>h x y F2 H2 c2 (x1.tZ (l.ff k) x2) r2 (rv.mono x2.sf) ry
def Rep.rd{X:Cx}(sub:U8 F H)(r:Rep X.K F v d):XH X H v (e8 d):=fun hs H2 s2 pins σ s u I ru=>r.reads I (sub.trans s2) ru hs
def Qe{r:Bool}(t:At X N sc)(ha:Vg S X ρ a da s s1)(hb:Vg S X ρ b db s1 s')(sp:SeqAt.shaped (e8 da)=true)(sq:SeqAt.shaped (e8 db)=true)(hr:(e8 da).eqv (e8 db)=r):VC S X ρ (.Compare a [.Eq] [b] pos) r s s':=fun B F H σ Q c l k w=>.mk fun pins st I=>
 eg (Fo t sp sq) aN aN (cT _ (by decide) (by decide)) pins st σ H Q I (Gw ha hb l k fun x y F' H' c' x' r' rx ry=>⟨rx.rd x'.sub,ry.rd x'.sub,r,by rw[hr],w F' H' c' x' r'⟩)
def MJ{r:Bool}(t:At X N sc)(ha:Vg S X ρ a da s s1)(hb:Vg S X ρ b (.tup xs) s1 s')(sp:(e8 da).canLay0=true)(sd:(e8 da).depth<=62)(sq:PyData.canLayAll0 (Vb xs)=true)(he:((Vb xs).any fun y=>PyData.eqv y (e8 da))=r)(hm:behindInMarks .In b=false:=by rfl):VC S X ρ (.Compare a [.In] [b] pos) r s s':=fun B F H σ Q c l k w=>.mk fun pins st I=>
 eg (wz t sp sd sq) aN aN hm pins st σ H Q I (Gw ha hb l k fun x y F' H' c' x' r' rx ry=>⟨rx.rd x'.sub,(ry.rd x'.sub:XH X H' y (.tuple (Vb xs))),r,by rw[he],w F' H' c' x' r'⟩)
def HA(ha:Vg S X ρ a (.int i) s s1)(hb:Vg S X ρ b (.int j) s1 s'):VC S X ρ (.Compare a [.Lt] [b] pos) (decide (i<j)) s s':=fun B F H σ Q c l k w=>.mk fun pins st I=>
 eg M3 aN aN (cT _ (by decide) (by decide)) pins st σ H Q I (Gw ha hb l k fun x y F' H' c' x' r' rx ry=>by cases rx;cases ry;exact⟨i,j,rfl,rfl,_,rfl,w F' H' c' x' r'⟩)
def O4(hc:VC S X ρ cd true s s1)(ha:Vg S X ρ a d s1 s'):Vg S X ρ (.IfExp cd a b pos) d s s':=fun B F H σ Q c l k w=>.mk fun pins st I=>
 sC kz aN aN pins st σ H Q I (hc B F H σ _ c l k fun F1 H1 c1 x1 r1=>by rw[au rfl];exact ha (Vh S B c1) F1 H1 σ _ c1 (l.up r1) (k.Wa l x1) fun v F2 H2 c2 x2 r2 rv=>w v F2 H2 c2 (x1.tZ (l.ff k) x2) r2 rv)
def O5(hc:VC S X ρ cd false s s1)(hb:Vg S X ρ b d s1 s'):Vg S X ρ (.IfExp cd a b pos) d s s':=fun B F H σ Q c l k w=>.mk fun pins st I=>
 sC kz aN aN pins st σ H Q I (hc B F H σ _ c l k fun F1 H1 c1 x1 r1=>by rw[aq av];exact hb (Vh S B c1) F1 H1 σ _ c1 (l.up r1) (k.Wa l x1) fun v F2 H2 c2 x2 r2 rv=>w v F2 H2 c2 (x1.tZ (l.ff k) x2) r2 rv)
def wN{X:Cx}{c:S.cs}(l:Ln S X.K B F c s)(k:Ok X.K B F H σ ρ)(q:uO S X.K B F E s o):(∃ρ',o=.nx ρ'/\Xe X.K B F E o)\/(∃d,o=.rt d/\Xe X.K ⟨F,B.H⟩ F E o):=by
 cases o with
 |nx ρ'=>exact .inl ⟨ρ',rfl,fun F' H' σ' k' s'=>q F' H' σ' c (by rw[Vh.same l.st];exact k') (S.mono s' l.rep) s'⟩
 |rt d=>exact .inr ⟨d,rfl,fun v F' H' x r=>q v F' H' c (by rw[Vh.same l.st];exact k.toExt.Yz x) (S.mono x.sf l.rep) r⟩
def U4.z(h:U4 X ρ Xa o):Wd S X ρ Xa o s s:=fun B F H σ E c l k q=>by
 rcases wN l k q with⟨_,_,z⟩ | ⟨_,_,z⟩
 ·exact h B F H σ E k z
 ·exact h ⟨F,B.H⟩ F H σ E k.now z
def Vy.z(h:Vy X ρ st o):VA S X ρ st o s s:=fun B F H σ E c l k q=>by
 rcases wN l k q with⟨_,_,z⟩ | ⟨_,_,z⟩
 ·exact h B F H σ E k z
 ·exact h ⟨F,B.H⟩ F H σ E k.now z
def wM{X:Cx}{c:S.cs}(q:uO S X.K B F E s' o)(sf:U8 F F1):uO S X.K (Vh S B c) F1 E s' o:=by
 cases o with
 |nx ρ'=>exact fun F' H' σ' c' k r s'=>q F' H' σ' c' (by rw[Vh.up] at k;exact k) r (sf.trans s')
 |rt d=>exact fun v F' H' c' x r rv=>q v F' H' c' (by rw[Vh.up] at x;exact x) r rv
def a8(h1:VA S X ρ st (.nx ρ1) s s1)(h2:Wd S X ρ1 bF o s1 s'):Wd S X ρ (st::bF) o s s':=fun B F H σ E c l k q=>.mk fun pins w I=>
 fE uQ cQ pins w σ H E I (h1 B F H σ _ c l k fun F1 H1 σ1 c1 k1 r1 sf=>h2 (Vh S B c1) F1 H1 σ1 E c1 (l.up r1) k1 (wM q sf))
def cj(h1:VA S X ρ st o s s'):Wd S X ρ [st] o s s':=fun B F H σ E c l k q=>.mk fun pins w I=>qc uQ pins w σ H E I (h1 B F H σ E c l k q)
def om:Wd S X ρ [] (.nx ρ) s s:=U4.z bR
def Ht(h1:VA S X ρ st (.rt d) s s'):Wd S X ρ (st::bF) (.rt d) s s':=fun B F H σ E c l k w=>.mk fun pins q I=>fE uQ cQ pins q σ H E I (h1 B F H σ _ c l k w)
def je{pos:Pos}[XI X](t:At X N sc)(i:Nat)(h:Vg S X ρ e d s s')(hi:N[i]?=some x:=by rfl)(hx:mW sc x=true:=by rfl)(hs:swapsWith e (some (.Name x pos')) pos.line X.env=pure false:=by rfl):
  VA S X ρ (.Assign [.Name x pos'] e pos) (.nx (ρ.set i (.val d))) s s':=fun B F H σ E c l k w=>.mk fun pins q I=>
 oK (i:=i) t.nd (t.ix hi) (t.loc hx) aN hs GZ pins q σ H E I (h B F H σ _ c l k fun v F' H' c1 x' r rv=>w F' H' _ c1 ((k.Wa l x').Vx i rv) r x'.sf)
def v7(h:Vg S X ρ e d s s'):VA S X ρ (.Return (some e) pos) (.rt d) s s':=fun B F H σ E c l k w=>.mk fun pins q I=>
 wH aN pins q σ H E I (h B F H σ _ c l k fun v F' H' c1 x' r rv=>w v F' H' c1 (k.Wa l x').toExt r rv)
def de{pos:Pos}(h:Vg S X ρ e d s s')(Xl:swapsWith e none pos.line X.env=pure false:=by rfl):VA S X ρ (.Expr e pos) (.nx ρ) s s':=fun B F H σ E c l k w=>.mk fun pins q I=>
 gZ aN Xl pins q σ H E I (h B F H σ _ c l k fun v F' H' c1 x' r rv=>w F' H' σ c1 (k.Wa l x') r x'.sf)
def qQ(hc:VC S X ρ cd true s s1)(h:Wd S X ρ ss o s1 s'):VA S X ρ (.If cd ss us pos) o s s':=fun B F H σ E c l k w=>.mk fun pins q I=>
 uH kz cQ cQ pins q σ H E I (hc B F H σ _ c l k fun F1 H1 c1 x1 r1=>by rw[au rfl];exact h (Vh S B c1) F1 H1 σ E c1 (l.up r1) (k.Wa l x1) (wM w x1.sf))
def jP(hc:VC S X ρ cd false s s1)(h:Wd S X ρ us o s1 s'):VA S X ρ (.If cd ss us pos) o s s':=fun B F H σ E c l k w=>.mk fun pins q I=>
 uH kz cQ cQ pins q σ H E I (hc B F H σ _ c l k fun F1 H1 c1 x1 r1=>by rw[aq av];exact h (Vh S B c1) F1 H1 σ E c1 (l.up r1) (k.Wa l x1) (wM w x1.sf))
inductive V5(S:LS)(X:Cx)(cd:Expr)(body:List Stmt):Nat->cn->S.ds->cn->S.ds->Prop where
 |stop {ρ:cn} {s s1:S.ds}:VC S X ρ cd false s s1->V5 S X cd body 0 ρ s ρ s1
 |step {n:Nat} {ρ ρ1 ρ2:cn} {s s1 s2 s3:S.ds}:VC S X ρ cd true s s1->Wd S X ρ body (.nx ρ1) s1 s2->V5 S X cd body n ρ1 s2 ρ2 s3->V5 S X cd body (n+1) ρ s ρ2 s3
def Cg(t:At X N sc)(h:∃n,V5 S X cd body n ρ s ρ' s'):VA S X ρ (.While cd body [] pos) (.nx ρ') s s':=fun B F H σ E c l k q=>.mk fun pins w I=>
 wF t.pass kz cQ pins w σ H E I (by
  obtain⟨n,h⟩:=h
  refine⟨fun m σ H=>∃ρ1 F1 c1 s1,Ok X.K (Vh S B c1) F1 H σ ρ1/\S.rep X.K F1 c1 s1/\U8 F F1/\V5 S X cd body m ρ1 s1 ρ' s',⟨n,ρ,F,c,s,by rw[Vh.same l.st];exact k,l.rep,.refl _,h⟩,?_⟩
  rintro m σ H ⟨ρ1,F1,c1,s1,k1,r1,sf,run⟩
  have l1:Ln S X.K (Vh S B c1) F1 c1 s1:=l.up r1
  cases run with
  |stop hc=>
   refine hc (Vh S B c1) F1 H σ _ c1 l1 k1 fun F2 H2 c2 x2 r2=>?_
   rw[aq av]
   have k2:=k1.Wa l1 x2
   rw[Vh.up] at k2
   exact q F2 H2 σ c2 k2 r2 (sf.trans x2.sf)
  |@step n0 _ ρa _ _ sa sb _ hc hb r=>
   refine hc (Vh S B c1) F1 H σ _ c1 l1 k1 fun F2 H2 c2 x2 r2=>?_
   rw[au rfl]
   have k2:=k1.Wa l1 x2
   rw[Vh.up] at k2
   refine⟨fun σ' H'=>∃WC Zx,Ok X.K (Vh S B Zx) WC H' σ' ρa/\S.rep X.K WC Zx sb/\U8 F WC,fun σ' H' ⟨WC,Zx,YH,r'',XY⟩=>⟨_,eL _,_,WC,Zx,_,YH,r'',XY,r⟩,hb (Vh S B c2) F2 H2 σ _ c2 (l.up r2) k2 fun F3 H3 σ3 c3 k3 r3 s3=>⟨F3,c3,?_,r3,sf.trans (x2.sf.trans s3)⟩⟩
   rw[Vh.up] at k3;exact k3)
def Wd.weak(h:Wd S X ρ Xa (.nx ρ1) s s')(w:WT ρ1 ρ2):Wd S X ρ Xa (.nx ρ2) s s':=fun B F H σ E c l k pq=>h B F H σ E c l k fun F' H' σ' ws k' r sf=>pq F' H' σ' ws (k'.weak w) r sf
end
structure tx where
 C:Addr
 p:Addr
 dx:Addr
 q:Addr
 l:Addr
 toks:ce
def Jv(r:tx)(n:Int):HO:=.ins r.C r.dx [("tokens",.ref r.l),("done",.int n),("steps",.ref r.q)]
def Vd(r:tx):LS where
 cs:=Int×df
 ds:=Int×aU
 ov c a:=if a=r.p then some (Jv r c.1) else if a=r.q then some (.lst c.2) else none
 dom c c' a h:=by
  by_cases h1:a=r.p
  ·rw[au h1] at h;cases h
  ·rw[aq h1] at h ⊢
   by_cases h2:a=r.q
   ·rw[au h2] at h;cases h
   ·rw[aq h2]
 rep K F c s:=c.1=s.1/\U2 K F c.2 s.2/\F r.l=some (.lst (r.toks.map V.str))
 mono:=fun sf h=>⟨h.1,h.2.1.mono sf,sf _ _ h.2.2⟩
structure li(K:bW)(r:tx):Prop where
 cls:Yy K r.C
 n1:Vq K r.C "tokens"
 n2:Vq K r.C "done"
 n3:Vq K r.C "steps"
 ne:r.q≠r.p
def Aj{K:bW}:∀ts:ce,U2 K F (ts.map V.str) (ts.map D.str)
 |[]=>.nil
 |t::ts=>.cons (.str t) (Aj ts)
def Vd.YV{c:Int×df}:(Vd r).ov c r.p=some (Jv r c.1):=au rfl
def Vd.Y5{r:tx}(ok:r.q≠r.p){c:Int×df}:(Vd r).ov c r.q=some (.lst c.2):=by
 show(if r.q=r.p then _ else if r.q=r.q then _ else _)=_
 rw[aq ok,au rfl]
def Hf{i:Nat}{Q:VK}{ρ:cn}(t:At X N sc)(hr:ρ[i]?=some (.val (.adr q)))(hN:N[i]?=some x)(hv:dW sc x=true)(hx:cm x=true)(k:Ok X.K B F H σ ρ)(h:Q (.ref q) H):wE X (.Name x py) σ H Q:=.mk fun pins s I=>by
 obtain⟨v,h1,h2⟩:=k.vals i _ hr
 cases h2
 exact tQ t hN hv hx pins s σ H Q I ⟨_,h1,h⟩
def vk{ρ:cn}(t:At X N sc)(ok:li X.K r)(i:Nat){s:Int×aU}(hr:ρ[i]?=some (.val (.adr r.p)))(hN:N[i]?=some x:=by rfl)(hv:dW sc x=true:=by rfl)(hx:cm x=true:=by rfl)(hb:attributeBase (.Name x py) "tokens" X.env (eval (.Name x py) X.env)=eval (.Name x py) X.env:=by rfl):
  Vg (Vd r) X ρ (.Attribute (.Name x py) "tokens" pos) (.lst (r.toks.map D.str)) s s:=fun B F H σ Q c l k w=>.mk fun pins st I=>
 wQ aN hb pins st σ H Q I (Hf t hr hN hv hx k ⟨r.p,r.C,r.dx,_,.ref r.l,rfl,l.now k _ _ Vd.YV,ok.cls,ok.n1,rfl,w _ F H c ((Ext.refl k.sub).toZ (l.now k)) l.rep (.lst l.rep.2.2 (Aj _))⟩)
def vm{ρ:cn}(t:At X N sc)(ok:li X.K r)(i:Nat){s:Int×aU}(hr:ρ[i]?=some (.val (.adr r.p)))(hN:N[i]?=some x:=by rfl)(hv:dW sc x=true:=by rfl)(hx:cm x=true:=by rfl)(hb:attributeBase (.Name x py) "done" X.env (eval (.Name x py) X.env)=eval (.Name x py) X.env:=by rfl):
  Vg (Vd r) X ρ (.Attribute (.Name x py) "done" pos) (.int s.1) s s:=fun B F H σ Q c l k w=>.mk fun pins st I=>
 wQ aN hb pins st σ H Q I (Hf t hr hN hv hx k ⟨r.p,r.C,r.dx,_,.int c.1,rfl,l.now k _ _ Vd.YV,ok.cls,ok.n2,rfl,w _ F H c ((Ext.refl k.sub).toZ (l.now k)) l.rep (by rw[l.rep.1];exact .int _)⟩)
def Og{H:Hp}{r:tx}{c c':Int×df}(ok:r.q≠r.p)(h:∀a u,(Vd r).ov c a=some u->H a=some u)(hc:c'.2=c.2):jY ((Vd r).ov c') H=cE H r.p (Jv r c'.1):=funext fun a=>by
 by_cases h1:a=r.p
 ·subst h1;rw[fF Vd.YV,aG]
 ·rw[aI h1]
  by_cases h2:a=r.q
  ·subst h2;rw[fF (Vd.Y5 ok),h _ _ (Vd.Y5 ok),hc]
  ·exact cS (show(if a=r.p then _ else if a=r.q then _ else _)=_ by rw[aq h1,aq h2])
def IR{H:Hp}{r:tx}{c c':Int×df}(ok:r.q≠r.p)(h:∀a u,(Vd r).ov c a=some u->H a=some u)(hc:c'.1=c.1):jY ((Vd r).ov c') H=cE H r.q (.lst c'.2):=funext fun a=>by
 by_cases h1:a=r.p
 ·subst h1;rw[fF Vd.YV,aI (dD ok),h _ _ Vd.YV,hc]
 ·by_cases h2:a=r.q
  ·subst h2;rw[fF (Vd.Y5 ok),aG]
  ·rw[aI h2]
   exact cS (show(if a=r.p then _ else if a=r.q then _ else _)=_ by rw[aq h1,aq h2])
def Lo{ρ:cn}(t:At X N sc)(ok:li X.K r)(i:Nat)(hr:ρ[i]?=some (.val (.adr r.p)))(he:U1 X ρ e (.int m))(hN:N[i]?=some x:=by rfl)(hv:dW sc x=true:=by rfl)(hx:cm x=true:=by rfl):
  VA (Vd r) X ρ (.AugAssign (.Attribute (.Name x py) "done" ps) .Add e pos) (.nx ρ) (n,xs) (n+m,xs):=fun B F H σ E c l k w=>.mk fun pins st I=>
 GK (op:=.Add) (rd:=SQ) aN aN (fun pins s σ H x y u v Q I rx ry h=>by
  obtain⟨i,j,rfl,rfl,q⟩:=h
  obtain⟨t1,rfl⟩:=rx
  obtain⟨t2,rfl⟩:=ry
  exact iadd_int ⟨.int (i+j),H,I.tok _,⟨_,rfl⟩,q⟩) pins st σ H E I (Hf t hr hN hv hx k ⟨r.p,r.C,r.dx,_,.int c.1,rfl,l.now k _ _ Vd.YV,ok.cls,ok.n2,rfl,he B F H σ _ k fun v F1 H1 x1 r1=>by
   cases r1
   have k1:=k.ext x1
   have l1:Ln (Vd r) X.K B F1 c (n,xs):=l.ext x1
   refine⟨c.1,m,rfl,rfl,r.dx,_,l1.now k1 _ _ Vd.YV,bq rfl,?_⟩
   have e1:c.1=n:=l.rep.1
   have hq:=w F1 (jY ((Vd r).ov (c.1+m,c.2)) H1) σ (c.1+m,c.2) (k1.X5 l1) ⟨by rw[e1],l1.rep.2⟩ x1.sf
   rw[Og (c:=c) (c':=(c.1+m,c.2)) ok.ne (l1.now k1) rfl] at hq
   exact hq⟩)
def kW{ρ:cn}{pos:Pos}{apos:Pos}{U7:Pos}(t:At X N sc)(ok:li X.K r)(i:Nat){s s1:Int×aU}(hr:ρ[i]?=some (.val (.adr r.p)))(he:Vg (Vd r) X ρ e d s s1)(hz:s1.2.length<sizeLine)(hN:N[i]?=some x:=by rfl)(hv:dW sc x=true:=by rfl)(hx:cm x=true:=by rfl)(hb:attributeBase (.Name x py) "steps" X.env (eval (.Name x py) X.env)=eval (.Name x py) X.env:=by rfl)(hb2:attributeBase (.Attribute (.Name x py) "steps" ps) "append" X.env (eval (.Attribute (.Name x py) "steps" ps) X.env)=eval (.Attribute (.Name x py) "steps" ps) X.env:=by rfl)(hs:Ci e [] X.env:=by rfl)(Vk:(apos.endLine==U7.line)=true:=by rfl)(WZ:rM U7 [] X.env:=by rfl)(Wh:Cj U7 [e] X.env:=by rfl)(Xl:swapsWith (.Call (.Attribute (.Attribute (.Name x py) "steps" ps) "append" apos) [e] [] U7) none pos.line X.env=pure false:=by rfl):
  VA (Vd r) X ρ (.Expr (.Call (.Attribute (.Attribute (.Name x py) "steps" ps) "append" apos) [e] [] U7) pos) (.nx ρ) s (s1.1,s1.2++[d]):=fun B F H σ E c l k w=>.mk fun pins st I=>
 gZ (uI bV jJ jI l8 (wQ aN hb) (bw aN cK hs) hb2 Wh Vk hs WZ) Xl pins st σ H E I
  (Hf t hr hN hv hx k ⟨r.p,r.C,r.dx,_,.ref r.q,rfl,l.now k _ _ Vd.YV,ok.cls,ok.n3,rfl,.inl ⟨rfl,_,VE.of (l.now k _ _ (Vd.Y5 ok.ne))⟩,he B F H σ _ c l k fun v F1 H1 c1 x1 r1 rv=>by
   have k1:=k.Wa l x1
   have l1:Ln (Vd r) X.K (Vh (Vd r) B c1) F1 c1 s1:=l.up r1
   refine⟨r.q,c1.2,v,rfl,rfl,l1.now k1 _ _ (Vd.Y5 ok.ne),by rw[r1.2.1.length];exact hz,?_⟩
   have k2:Ok X.K (Vh (Vd r) (Vh (Vd r) B c1) (c1.1,c1.2++[v])) F1 (jY ((Vd r).ov (c1.1,c1.2++[v])) H1) σ ρ:=k1.X5 l1
   have e1:Vh (Vd r) (Vh (Vd r) B c1) (c1.1,c1.2++[v])=Vh (Vd r) B (c1.1,c1.2++[v]):=Vh.up (S:=Vd r)
   rw[e1,IR (c:=c1) (c':=(c1.1,c1.2++[v])) ok.ne (l1.now k1) rfl] at k2
   exact w F1 _ σ (c1.1,c1.2++[v]) k2 ⟨r1.1,r1.2.1.append (.cons rv .nil),r1.2.2⟩ x1.sf⟩)
section
variable {S:LS}{s s1 s':S.ds}
def Er(t:At X N sc)(bl:m8 X sc x (.builtin "len"))(ha:Vg S X ρ e (.lst xs) s s')(Wq:Pl e:=by intro _ _;rfl):Vg S X ρ (.Call (.Name x p) [e] [] pos) (.int xs.length) s s':=fun B F H σ Q c l k w=>.mk fun pins st I=>
 jX s9 (dj t bl.g) bl.m bl.v (bw aN cK (Wq _ _)) bl.n bl.d (Wq _ _) rfl pins st σ H Q I (ha B F H σ _ c l k fun v F1 H1 c1 x1 r1 rv=>by
  cases rv with
  |lst hf rl=>exact⟨_,_,rfl,.inl (VE.of (x1.sub _ _ hf)),by rw[rl.length];exact w _ F1 H1 c1 x1 r1 (.int _)⟩)
def O3(ha:Vg S X ρ a (.lst xs) s s1)(hb:Vg S X ρ b (.int i) s1 s')(h:k7 xs i=some d)(hs:k8 b:=by intro _ _;rfl):Vg S X ρ (.Subscript a b pos) d s s':=fun B F H σ Q c l k w=>.mk fun pins st I=>
 CB FQ aN aN hs pins st σ H Q I (Gw ha hb l k fun x y F' H' c' x' r' rx ry=>by
  cases ry
  cases rx with
  |lst hf rl=>
   obtain⟨z,h1,h2⟩:=rl.at h
   exact⟨_,_,i,z,rfl,rfl,VE.of (x'.sub _ _ hf),h1,w z F' H' c' x' r' h2⟩)
end
def Qu(K:bW)(C:ce->aU->Int×aU->D->Int×aU->Prop):Sp:=fun vs H Q _=>∃(r:tx) (F:Hp) (ds:aU) (d:D) (c:Int×df) (s s':Int×aU),U8 F H/\li K r/\(∀a u,(Vd r).ov c a=some u->H a=some u)/\(∀a u,(Vd r).ov c a=some u->F a=none)/\(Vd r).rep K F c s/\U2 K F vs (.adr r.p::ds)/\C r.toks ds s d s' /\
 ∀v F' H' c',Ext (Vh (Vd r) ⟨F,H⟩ c') F' H'->(Vd r).rep K F' c' s'->Rep K F' v d->Q v H'
def U5(X:Cx)(x:Str)(C:ce->aU->Int×aU->D->Int×aU->Prop):Prop:=∃(f:Addr) (fd:FuncData) (ps:ce) (k:Nat),dO X.prog X.w X.K X.mg X.base gN k f fd ps (Qu X.K C)/\Vz k X.A/\X.mg x=some (.ref f)/\PySem.W.keepIn X.K (.ref f)=true/\Binds X.K fd ps []
section
variable {ds:aU}{s s1 s':Int×aU}
def OX{P:Program}(VO:P.given.tree=none){w:World}{K:bW}{mg:ux}{base:Heap}{x qual:Str}{st:Stmt}{f:Addr}{fd:FuncData}{N ps:ce}{k:Nat}{C:ce->aU->Int×aU->D->Int×aU->Prop}(F:X8 K x qual st f fd)(S:aK N ps (ai st))(len:∀ts ds s d s',C ts ds s d s'->ds.length+1=ps.length)(body:∀X,DefX P w K mg base k N (ai st) X->∀(r:tx),li X.K r->∀ds s d s',C r.toks ds s d s'->Wd (Vd r) X (.val (.adr r.p)::ds.map Sl.val++List.replicate (N.length-(ds.length+1)) Sl.un) (bE st) (.rt d) s s'\/(d=.Vs/\∃ρ',Wd (Vd r) X (.val (.adr r.p)::ds.map Sl.val++List.replicate (N.length-(ds.length+1)) Sl.un) (bE st) (.nx ρ') s s')):dO P w K mg base gN (k+1) f fd ps (Qu K C):=by
 refine F.ok S (fun vs H Q E h=>?_) (fun VG A outer s H vs Q E hr h=>?_)
 ·obtain⟨r,F',ds,d,c,s,s',sub,ok,h1,h2,h3,rv,hC,q⟩:=h
  rw[rv.length];exact len r.toks ds s d s' hC
 ·obtain⟨r,F',ds,d,c,s1,s',sub,ok,h1,h2,h3,rv,hC,q⟩:=h
  refine⟨_,cQ,?_⟩
  have hx:DefX P w K mg base k N (ai st) (q8 gN P w K mg base N qual (ai st) f VG A outer s H E).XC:=
   ⟨⟨rfl,rfl,rfl,S.nd,rfl,hr.units,hr.WS,VO,⟨_,_,rfl,S.gen,S.co,rfl,rfl⟩⟩,rfl,rfl,rfl,rfl,rfl,hr,⟨fun _=>rfl⟩,rfl,rfl⟩
  have hk:Ok K ⟨F',H⟩ F' H (start N vs) (.val (.adr r.p)::ds.map Sl.val++List.replicate (N.length-(ds.length+1)) Sl.un):=by
   unfold start
   rw[rv.length]
   exact i8 sub rv _
  rcases body _ hx r ok ds s1 d s' hC with hb | ⟨rfl,ρ',hb⟩
  ·exact hb ⟨F',H⟩ F' H _ _ c ⟨h1,h2,h3⟩ hk fun v F2 H2 c2 x2 r2 rv=>q v F2 H2 c2 x2 r2 rv
  ·exact hb ⟨F',H⟩ F' H _ _ c ⟨h1,h2,h3⟩ hk fun F2 H2 σ2 c2 k2 r2 s2=>q .Vs F2 H2 c2 k2.toExt r2 .Vs
def DefX.Zu{K:bW}{x:Str}{C:ce->aU->Int×aU->D->Int×aU->Prop}(h:DefX P w K mg base k N sc X)(F:dO P w K mg base gN j f fd ps (Qu K C))(hj:j<=k)(hm:mg x=some (.ref f))(hk:PySem.W.keepIn K (.ref f)=true)(hb:Binds K fd ps []):U5 X x C:=by
 obtain⟨h0,rfl,rfl,rfl,rfl,rfl,hr,_⟩:=h
 exact⟨f,fd,ps,j,F,hr.mono hj,hm,hk,hb⟩
def bZ(t:At X N sc)(ok:li X.K r){C:ce->aU->Int×aU->D->Int×aU->Prop}(h:U5 X x C)(ha:KD (Vd r) X ρ (e::es) (.adr r.p::ds) s s1)(hC:C r.toks ds s1 d s')(hg:ve sc x:=by rfl)(VW:qA x:=by rfl):
  Vg (Vd r) X ρ (.Call (.Name x p) (e::es) [] pos) d s s':=fun B F0 H σ Q c l k w=>.mk fun pins st I=>by
 obtain⟨f,fd,ps,kk,F,X1,hm,hk,hb⟩:=h
 have pz:fW gN X E0:=oN
 refine iR F X1 (dj t hg) hm hk hb .nil pz oO VW (ha.1.1 _ _) (XR.any ha.1.2) pins st σ H Q I (ha.2 B F0 H σ _ c l k fun vs F1 H1 c1 x1 r1 rv=>?_)
 have k1:=k.Wa l x1
 have l1:Ln (Vd r) X.K (Vh (Vd r) B c1) F1 c1 s1:=l.up r1
 refine⟨r,F1,ds,d,c1,s1,s',k1.sub,ok,l1.now k1,l1.ff k1,r1,by rw[aP];exact rv,hC,fun v F2 H2 c2 x2 r2 Ze=>w v F2 H2 c2 (x1.tZ (l.ff k) x2) r2 Ze⟩
end
section
variable {S:LS}{K:bW}{c c1:S.cs}
def Ok.pin(k:Ok K B F H σ ρ)(hb:∀a u,S.ov c a=some u->B.H a=none)(hh:∀a u,S.ov c a=some u->H a=some u)(hf:∀a u,S.ov c a=some u->F a=none)(ho:∀(i:Nat) xs a,ρ[i]?=some (.own xs)->σ[i]?=some (some (.ref a))->S.ov c a=none)(hd:∀(i:Nat) xs a,ρ[i]?=some (.Wb xs)->σ[i]?=some (some (.ref a))->S.ov c a=none):Ok K (Vh S B c) F H σ ρ:=by
 refine⟨⟨k.sub,fun b u q=>?_,k.sf,fun a q=>?_⟩,k.len,k.vals,fun i ys h=>?_,k.dist,⟨fun i kvs h=>?_,k.Vi.W7⟩⟩
 ·have q':jY (S.ov c) B.H b=some u:=q
  cases e:S.ov c b with
  |some v=>rw[fF e] at q';cases q';exact hh b _ e
  |none=>rw[cS e] at q';exact k.sh b u q'
 ·rcases k.nw a q with z | z
  ·exact .inl z
  ·refine .inr ?_
   show jY (S.ov c) B.H a=none
   cases e:S.ov c a with
   |some v=>exact absurd (hf a v e) q
   |none=>rw[cS e];exact z
 ·obtain⟨a,vs,h1,h2,h3,h4,h5⟩:=k.VT i ys h
  exact⟨a,vs,h1,h2,h3,by show jY (S.ov c) B.H a=none;rw[cS (ho i ys a h h1)];exact h4,h5⟩
 ·obtain⟨a,es,h1,h2,h3,h4,h5⟩:=k.Vi.W2 i kvs h
  exact⟨a,es,h1,h2,h3,by show jY (S.ov c) B.H a=none;rw[cS (hd i kvs a h h1)];exact h4,h5⟩
def Ext.unpin(x:Ext (Vh S B c1) F H)(hb:∀a u,S.ov c1 a=some u->B.H a=none):Ext B F H:=by
 refine⟨x.sub,fun b u q=>?_,x.sf,fun a q=>?_⟩
 ·refine x.sh b u ?_
  show jY (S.ov c1) B.H b=some u
  cases e:S.ov c1 b with
  |some v=>rw[hb b v e] at q;cases q
  |none=>rw[cS e];exact q
 ·rcases x.nw a q with z | z
  ·exact .inl z
  ·refine .inr ?_
   have z':jY (S.ov c1) B.H a=none:=z
   cases e:S.ov c1 a with
   |some v=>rw[fF e] at z';cases z'
   |none=>rw[cS e] at z';exact z'
end
def TN(K:bW)(F H F' H':Hp)(r:tx):Prop:=li K r/\Ext ⟨F,H⟩ F' H'/\H r.p=none/\H r.q=none/\H' r.p=some (Jv r 0)/\H' r.q=some (.lst [])/\F' r.p=none/\F' r.q=none/\F' r.l=some (.lst (r.toks.map V.str))
def K9(K:bW)(C:aU->ce->Prop):Sp:=fun vs H Q _=>∃F ds toks,U8 F H/\U2 K F vs ds/\C ds toks/\∀r F' H',r.toks=toks->TN K F H F' H' r->Q (.ref r.p) H'
def WW(X:Cx)(x:Str)(C:aU->ce->Prop):Prop:=∃(f:Addr) (fd:FuncData) (ps:ce) (k:Nat),dO X.prog X.w X.K X.mg X.base gN k f fd ps (K9 X.K C)/\Vz k X.A/\X.mg x=some (.ref f)/\PySem.W.keepIn X.K (.ref f)=true/\Binds X.K fd ps []
def Ds(X:Cx)(ρ:cn)(Xa:List Stmt)(toks:ce):Prop:=∀(B:B0) (F H:Hp) (σ:St) (E:kC),Ok X.K B F H σ ρ->(∀r F' H',r.toks=toks->li X.K r->Ext B F' H'->B.H r.p=none->B.H r.q=none->H' r.p=some (Jv r 0)->H' r.q=some (.lst [])->F' r.p=none->F' r.q=none->F' r.l=some (.lst (toks.map V.str))->E.rt (.ref r.p) H')->wSs X Xa E σ H
section
variable {ds:aU}{st:Stmt}{bF:List Stmt}
def sV(h1:Vy X ρ st (.nx ρ'))(h2:Ds X ρ' bF toks):Ds X ρ (st::bF) toks:=fun B F H σ E k q=>.mk fun pins s I=>
 fE uQ cQ pins s σ H E I (h1 B F H σ _ k fun F1 H1 σ1 k1 s1=>h2 B F1 H1 σ1 E k1 q)
def L4{P:Program}(VO:P.given.tree=none){w:World}{K:bW}{mg:ux}{base:Heap}{x qual:Str}{st:Stmt}{f:Addr}{fd:FuncData}{N ps:ce}{k:Nat}{C:aU->ce->Prop}(F:X8 K x qual st f fd)(S:aK N ps (ai st))(len:∀ds ts,C ds ts->ds.length=ps.length)(body:∀X,DefX P w K mg base k N (ai st) X->∀ds ts,C ds ts->Ds X (ds.map Sl.val++List.replicate (N.length-ds.length) Sl.un) (bE st) ts):dO P w K mg base gN (k+1) f fd ps (K9 K C):=by
 refine F.ok S (fun vs H Q E h=>?_) (fun VG A outer s H vs Q E hr h=>?_)
 ·obtain⟨F',ds,ts,sub,rv,hC,q⟩:=h
  rw[rv.length];exact len ds ts hC
 ·obtain⟨F',ds,ts,sub,rv,hC,q⟩:=h
  refine⟨_,cQ,?_⟩
  have hx:DefX P w K mg base k N (ai st) (q8 gN P w K mg base N qual (ai st) f VG A outer s H E).XC:=
   ⟨⟨rfl,rfl,rfl,S.nd,rfl,hr.units,hr.WS,VO,⟨_,_,rfl,S.gen,S.co,rfl,rfl⟩⟩,rfl,rfl,rfl,rfl,rfl,hr,⟨fun _=>rfl⟩,rfl,rfl⟩
  have hb:=body _ hx ds ts hC
  have hk:Ok K ⟨F',H⟩ F' H (start N vs) (ds.map Sl.val++List.replicate (N.length-ds.length) Sl.un):=by
   unfold start
   rw[rv.length]
   exact i8 sub rv _
  exact hb ⟨F',H⟩ F' H _ _ hk fun r F2 H2 e ok x2 h1 h2 h3 h4 h5 h6 h7=>q r F2 H2 e ⟨ok,x2,h1,h2,h3,h4,h5,h6,by rw[e];exact h7⟩
def DefX.YR{K:bW}{x:Str}{C:aU->ce->Prop}(h:DefX P w K mg base k N sc X)(F:dO P w K mg base gN j f fd ps (K9 K C))(hj:j<=k)(hm:mg x=some (.ref f))(hk:PySem.W.keepIn K (.ref f)=true)(hb:Binds K fd ps []):WW X x C:=by
 obtain⟨h0,rfl,rfl,rfl,rfl,rfl,hr,_⟩:=h
 exact⟨f,fd,ps,j,F,hr.mono hj,hm,hk,hb⟩
def Mm{pos:Pos}[XI X](t:At X N sc)(i:Nat){C:aU->ce->Prop}(h:WW X x C)(ha:Vw X ρ (e::es) ds)(hC:C ds toks)(XO:∀r:tx,li X.K r->r.toks=toks->∃s',Wd (Vd r) X (ρ.set i (.val (.adr r.p))) bF (.rt d) (0,[]) s')(hg:ve sc x:=by rfl)(VW:qA x:=by rfl)(hi:N[i]?=some y:=by rfl)(hx:mW sc y=true:=by rfl)(hs:swapsWith (.Call (.Name x p) (e::es) [] U7) (some (.Name y pos')) pos.line X.env=pure false:=by rfl):
  U4 X ρ (.Assign [.Name y pos'] (.Call (.Name x p) (e::es) [] U7) pos::bF) (.rt d):=fun B F0 H σ E k w=>.mk fun pins s I=>by
 obtain⟨f,fd,ps,kk,F,X1,hm,hk,hb⟩:=h
 have pz:fW gN X E0:=oN
 refine fE uQ cQ pins s σ H E I (.mk fun pins s I=>oK (i:=i) t.nd (t.ix hi) (t.loc hx) (iR F X1 (dj t hg) hm hk hb .nil pz oO VW (ha.1.1 _ _) (XR.any ha.1.2)) hs GZ pins s σ H _ I (ha.2 B F0 H σ _ k fun vs F1 H1 x1 r1=>?_))
 refine⟨F1,ds,toks,x1.sub,by rw[aP];exact r1,hC,fun r F2 H2 et nr=>?_⟩
 obtain⟨ok,x2,n1,n2,h1,h2,f1,f2,hl⟩:=nr
 have k1:=k.ext x1
 have k2:=(k1.ext x2).Vx i (.adr r.p:Rep X.K F2 (.ref r.p) (.adr r.p))
 have dm:∀a u,(Vd r).ov ((0:Int),([]:df)) a=some u->H1 a=none/\H2 a=some u/\F2 a=none:=fun a u z=>by
  by_cases e1:a=r.p
  ·subst e1;rw[Vd.YV] at z;cases z;exact⟨n1,h1,f1⟩
  ·by_cases e2:a=r.q
   ·subst e2;rw[Vd.Y5 ok.ne] at z;cases z;exact⟨n2,h2,f2⟩
   ·rw[show(Vd r).ov ((0:Int),([]:df)) a=none from(show(if a=r.p then _ else if a=r.q then _ else _)=_ by rw[aq e1,aq e2])] at z;cases z
 have hb0:∀(c:(Vd r).cs) a u,(Vd r).ov c a=some u->B.H a=none:=fun c a u z=>by
  obtain⟨v,hv⟩:=LS.has z ((0:Int),([]:df))
  exact k1.sh.free (dm a v hv).1
 have no:∀(j:Nat) xs a,(ρ.set i (.val (.adr r.p)))[j]?=some (.own xs)->(σ.set i (some (.ref r.p)))[j]?=some (some (.ref a))->(Vd r).ov ((0:Int),([]:df)) a=none:=fun j xs a q1 q2=>by
  obtain⟨Xi,q1'⟩:=lb j _ q1 (fun z=>nomatch z)
  rw[List.getElem?_set_ne Xi] at q2
  obtain⟨a',vs',g1,g2,_⟩:=k1.VT j xs q1'
  rw[g1] at q2;cases q2
  cases e:(Vd r).ov ((0:Int),([]:df)) a with
  |none=>rfl
  |some u=>rw[(dm a u e).1] at g2;cases g2
 have nd:∀(j:Nat) xs a,(ρ.set i (.val (.adr r.p)))[j]?=some (.Wb xs)->(σ.set i (some (.ref r.p)))[j]?=some (some (.ref a))->(Vd r).ov ((0:Int),([]:df)) a=none:=fun j xs a q1 q2=>by
  obtain⟨Xi,q1'⟩:=lb j _ q1 (fun z=>nomatch z)
  rw[List.getElem?_set_ne Xi] at q2
  obtain⟨a',vs',g1,g2,_⟩:=k1.Vi.W2 j xs q1'
  rw[g1] at q2;cases q2
  cases e:(Vd r).ov ((0:Int),([]:df)) a with
  |none=>rfl
  |some u=>rw[(dm a u e).1] at g2;cases g2
 have k3:Ok X.K (Vh (Vd r) B ((0:Int),([]:df))) F2 H2 (σ.set i (some (.ref r.p))) (ρ.set i (.val (.adr r.p))):=k2.pin (S:=Vd r) (c:=((0:Int),([]:df))) (fun a u z=>hb0 _ a u z) (fun a u z=>(dm a u z).2.1) (fun a u z=>(dm a u z).2.2) no nd
 obtain⟨s',hz⟩:=XO r ok et
 refine hz (Vh (Vd r) B ((0:Int),([]:df))) F2 H2 _ E ((0:Int),([]:df)) ⟨fun a u z=>fF z,fun a u z=>?_,⟨rfl,.nil,hl⟩⟩ k3 fun v F3 H3 c3 x3 r3 rv=>?_
 ·cases eb:B.F a with
  |none=>exact eb
  |some o=>
   have:=k3.sf a o eb
   rw[(dm a u z).2.2] at this;cases this
 ·have e3:Vh (Vd r) (Vh (Vd r) B ((0:Int),([]:df))) c3=Vh (Vd r) B c3:=Vh.up (S:=Vd r)
  rw[e3] at x3
  exact w v F3 H3 (x3.unpin fun a u z=>hb0 c3 a u z) rv
end
def AN(C:Addr):Sp:=fun vs H Q _=>∃x dx l,vs=[.ref x,.ref l]/\H x=some (.ins C dx [])/\∀q H',H q=none->q≠x->H'=cE (cE H q (.lst [])) x (.ins C dx [("tokens",.ref l),("done",.int 0),("steps",.ref q)])->Q .Vs H'
structure TR(X:Cx)(x:Str)(C:Addr):Prop where
 fn:∃(f:Addr) (fd:FuncData) (ps:ce) (k:Nat),Mk X.K C f/\dO X.prog X.w X.K X.mg X.base gN k f fd ps (AN C)/\Vz (k+1) X.A/\Binds X.K fd ps []
 m:X.mg x=some (.ref C)
 cls:Yy X.K C
 n1:Vq X.K C "tokens"
 n2:Vq X.K C "done"
 n3:Vq X.K C "steps"
def E9{K:bW}:∀{ts:ce} {vs:df},U2 K F vs (ts.map D.str)->vs=ts.map V.str
 |[],_,h=>by cases h;rfl
 |t::ts,_,h=>by
  cases h with
  |cons r q=>cases r;rw[aT,E9 q]
def JW{toks:ce}(t:At X N sc)(M:TR X x C)(h:U1 X ρ e (.lst (toks.map D.str)))(hg:ve sc x:=by rfl)(VW:qA x:=by rfl)(Wq:Pl e:=by intro _ _;rfl):
  Ds X ρ [.Return (some (.Call (.Name x p) [e] [] U7)) pos] toks:=fun B F H σ E k w=>.mk fun pins s I=>by
 obtain⟨f,fd,ps,kk,mk,fo,hr,hb⟩:=M.fn
 have pz:fW gN X E0:=oN
 refine qc (wH (LD mk fo hr (dj t hg) M.m hb .nil pz (bw aN cK (Wq _ _)) VW (Wq _ _) rfl)) pins s σ H E I (h B F H σ _ k fun v F1 H1 x1 r1=>?_)
 intro x0 dx hx hdx Xi
 cases r1 with
 |@lst l vs _ hf rl=>
 have ev:=E9 rl
 subst ev
 refine⟨x0,dx,l,rfl,by rw[aG],fun q H' hq hqx eH=>⟨rfl,?_⟩⟩
 rw[aI hqx] at hq
 have hqd:q≠dx:=fun z=>by subst z;rw[aG] at hq;cases hq
 rw[aI hqd] at hq
 have k1:=k.ext x1
 have x2:Ext ⟨F1,H1⟩ F1 H':=by
  refine⟨fun b u z=>?_,fun b u z=>?_,.refl _,fun a z=>.inl z⟩
  ·have z':=x1.sub b u z
   rw[eH,aI (fun e=>by subst e;rw[hx] at z';cases z'),aI (fun e=>by subst e;rw[hq] at z';cases z'),aI (fun e=>by subst e;rw[hx] at z';cases z'),aI (fun e=>by subst e;rw[hdx] at z';cases z')]
   exact z'
  ·have z':H1 b=some u:=z
   rw[eH,aI (fun e=>by subst e;rw[hx] at z';cases z'),aI (fun e=>by subst e;rw[hq] at z';cases z'),aI (fun e=>by subst e;rw[hx] at z';cases z'),aI (fun e=>by subst e;rw[hdx] at z';cases z')]
   exact z'
 refine w ⟨C,x0,dx,q,l,toks⟩ F1 H' rfl ⟨M.cls,M.n1,M.n2,M.n3,hqx⟩ (k1.toExt.trans x2) (k1.sh.free hx) (k1.sh.free hq) (by rw[eH,aG];rfl) (by rw[eH];show cE _ x0 _ q=_;rw[aI hqx,aG]) (x1.sub.free hx) (x1.sub.free hq) hf
def Hs{ρ:cn}(t:At X N sc)(ok:li X.K r)(i:Nat){s:Int×aU}(hr:ρ[i]?=some (.val (.adr r.p)))(h:Vt X tg body s.2 ρ (.nx ρ'))(hN:N[i]?=some x:=by rfl)(hv:dW sc x=true:=by rfl)(hx:cm x=true:=by rfl)(hb:attributeBase (.Name x py) "steps" X.env (eval (.Name x py) X.env)=eval (.Name x py) X.env:=by rfl)(hs:∀z,foldedSetIterable (.Attribute (.Name x py) "steps" ps) X.env z=pure z:=by intro _;rfl):VA (Vd r) X ρ (.For tg (.Attribute (.Name x py) "steps" ps) body [] pos) (.nx ρ') s s:=fun B F H σ E c l k q=>.mk fun pins w I=>
 DU t.pass t.calm (Fy (wQ aN hb)) D1 cQ hs pins w σ H E I (Hf t hr hN hv hx k ⟨r.p,r.C,r.dx,_,.ref r.q,rfl,l.now k _ _ Vd.YV,ok.cls,ok.n3,rfl,r.q,rfl,⟨_,VE.of (l.now k _ _ (Vd.Y5 ok.ne))⟩,by
  refine⟨fun i m σ H=>∃ρ1 F1,Ok X.K B F1 H σ ρ1/\U8 F F1/\Vt X tg body (s.2.drop i) ρ1 (.nx ρ')/\m=s.2.length-i,⟨s.2.length,ρ,F,k,.refl _,by simpa using h,by simp⟩,?_⟩
  rintro i m σ H ⟨ρ1,F1,k1,sf,run,rfl⟩
  have hq:H r.q=some (.lst c.2):=k1.sh _ _ (l.st _ _ (Vd.Y5 ok.ne))
  have rl:U2 X.K F1 c.2 s.2:=l.rep.2.1.mono sf
  generalize e1:s.2.drop i=bF at run
  cases run with
  |nil=>
   have hl:s.2.length<=i:=by
    have:=bv List.length e1
    rw[cv,gP] at this
    lia
   refine .inl ⟨⟨c.2,VE.of hq,by rw[rl.length];exact hl⟩,q F1 H σ c (by rw[Vh.same l.st];exact k1) (S_mono l sf) sf⟩
  |@cons d0 ds0 _ ρa ρb _ g bd rr=>
   obtain⟨hd,XO,VH⟩:=iC e1
   obtain⟨v,hv1,rv⟩:=rl.get hd
   refine .inr ⟨⟨c.2,v,VE.of hq,hv1⟩,fun σ' H'=>∃WC,Ok X.K B WC H' σ' ρb/\U8 F WC,fun σ' H' ⟨WC,YH,XY⟩=>⟨s.2.length-(i+1),by lia,_,WC,YH,XY,by rw[XO];exact rr,rfl⟩,fun xv H' y=>?_⟩
   obtain⟨rfl,y⟩:=y
   have ex:=y c.2 (VE.of hq)
   rw[hv1] at ex;cases ex
   exact g B F1 H' σ v _ k1 rv fun F3 H3 σ3 k3 s3=>bd B F3 H3 σ3 _ k3 fun F4 H4 σ4 k4 s4=>⟨F4,k4,sf.trans (s3.trans s4)⟩⟩)
where
 S_mono {B:B0} {F F1:Hp} {c:(Vd r).cs} {s:Int×aU} (l:Ln (Vd r) X.K B F c s) (sf:U8 F F1):(Vd r).rep X.K F1 c s:=(Vd r).mono sf l.rep
def dQ{ρ:cn}{xs:aU}{xs':aU}{U7:Pos}{apos:Pos}(t:At X N sc)(i:Nat)(hr:ρ[i]?=some (.val (.adr q)))(hxs:xs=xs'++[d])(hN:N[i]?=some x:=by rfl)(hv:dW sc x=true:=by rfl)(hx:cm x=true:=by rfl)(Vk:(apos.endLine==U7.line)=true:=by rfl):
  VF X q ρ (.Call (.Attribute (.Name x py) "pop" apos) [] [] U7) d xs xs':=fun B F H σ Q us l k w=>.mk fun pins s I=>by
 subst hxs
 refine wR bV mr mq A6 aN rfl Vk pins s σ H Q I ?_
 refine xM t hr hN hv hx k ?_
 have h2:H q=some (.lst us):=k.sh _ _ l.st
 refine⟨.inl ⟨rfl,_,VE.of h2⟩,?_⟩
 have hl:=l.rep.length
 obtain⟨v,hw,WH⟩:=l.rep.get (i:=xs'.length) (d:=d) (by simp)
 have hll:us.length-1=xs'.length:=by rw[hl];simp
 refine⟨q,us,v,rfl,rfl,h2,by rw[hll];exact hw,?_⟩
 have hf:=l.ff k
 have rd:=l.rep.dropLast
 rw[oj] at rd
 exact w v F _ us.dropLast ⟨fun b u z=>by rw[aI (fun e=>by subst e;rw[hf] at z;cases z)];exact k.sub b u z,fun b u z=>z,.refl _,fun a z=>.inl z⟩ rd WH
def fh{ρ:cn}{pos:Pos}{U7:Pos}{apos:Pos}(t:At X N sc)(i:Nat)(hr:ρ[i]?=some (.val (.adr q)))(he:VF X q ρ e d xs xs1)(hz:xs1.length<sizeLine)(hN:N[i]?=some x:=by rfl)(hv:dW sc x=true:=by rfl)(hx:cm x=true:=by rfl)(hb2:attributeBase (.Name x py) "append" X.env (eval (.Name x py) X.env)=eval (.Name x py) X.env:=by rfl)(hs:Ci e [] X.env:=by rfl)(Vk:(apos.endLine==U7.line)=true:=by rfl)(WZ:rM U7 [] X.env:=by rfl)(Wh:Cj U7 [e] X.env:=by rfl)(Xl:swapsWith (.Call (.Attribute (.Name x py) "append" apos) [e] [] U7) none pos.line X.env=pure false:=by rfl):
  qv X q ρ (.Expr (.Call (.Attribute (.Name x py) "append" apos) [e] [] U7) pos) (.nx ρ) xs (xs1++[d]):=fun B F H σ E us l k w=>.mk fun pins st I=>
 gZ (uI bV jJ jI l8 aN (bw aN cK hs) hb2 Wh Vk hs WZ) Xl pins st σ H E I
  (xM t hr hN hv hx k ⟨.inl ⟨rfl,_,VE.of (k.sh _ _ l.st)⟩,he B F H σ _ us l k fun v F1 H1 u1 x1 r1 rv=>by
   have k1:=k.WR l x1
   have l1:Wc X.K (VJ B q u1) q F1 u1 xs1:=⟨aG,l.fr,r1⟩
   refine⟨q,u1,v,rfl,rfl,k1.sh _ _ aG,by rw[r1.length];exact hz,?_⟩
   have k2:Ok X.K (VJ (VJ B q u1) q (u1++[v])) F1 (cE H1 q (.lst (u1++[v]))) σ ρ:=k1.ZI l1
   rw[VJ.up] at k2
   exact w F1 _ σ (u1++[v]) k2 (r1.append (.cons rv .nil)) x1.sf⟩)
def Lb(K:bW)(C:D->aU->aU->Prop):Sp:=fun vs H Q _=>∃q F d0 us xs xs',U8 F H/\H q=some (.lst us)/\F q=none/\U2 K F us xs/\U2 K F vs [d0,.adr q]/\C d0 xs xs'/\∀v F' H' Wf,Ext (VJ ⟨F,H⟩ q Wf) F' H'->U2 K F' Wf xs'->Rep K F' v .Vs->Q v H'
def We(X:Cx)(x:Str)(C:D->aU->aU->Prop):Prop:=∃(f:Addr) (fd:FuncData) (ps:ce) (k:Nat),dO X.prog X.w X.K X.mg X.base gN k f fd ps (Lb X.K C)/\Vz k X.A/\X.mg x=some (.ref f)/\PySem.W.keepIn X.K (.ref f)=true/\Binds X.K fd ps []
def L6{P:Program}(VO:P.given.tree=none){w:World}{K:bW}{mg:ux}{base:Heap}{x qual:Str}{st:Stmt}{f:Addr}{fd:FuncData}{N ps:ce}{k:Nat}{C:D->aU->aU->Prop}(F:X8 K x qual st f fd)(S:aK N ps (ai st))(len:2=ps.length)(body:∀X,DefX P w K mg base k N (ai st) X->∀q d0 xs xs',C d0 xs xs'->∃ρ',Xs X q (.val d0 :: .val (.adr q)::List.replicate (N.length-2) Sl.un) (bE st) (.nx ρ') xs xs'):dO P w K mg base gN (k+1) f fd ps (Lb K C):=by
 refine F.ok S (fun vs H Q E h=>?_) (fun VG A outer s H vs Q E hr h=>?_)
 ·obtain⟨p,F',d0,us,xs,xs',sub,hp,hf,ru,r,hC,q⟩:=h
  rw[r.length];exact len
 ·obtain⟨p,F',d0,us,xs,xs',sub,hp,hf,ru,r,hC,q⟩:=h
  refine⟨_,cQ,?_⟩
  have hx:DefX P w K mg base k N (ai st) (q8 gN P w K mg base N qual (ai st) f VG A outer s H E).XC:=
   ⟨⟨rfl,rfl,rfl,S.nd,rfl,hr.units,hr.WS,VO,⟨_,_,rfl,S.gen,S.co,rfl,rfl⟩⟩,rfl,rfl,rfl,rfl,rfl,hr,⟨fun _=>rfl⟩,rfl,rfl⟩
  have hk:Ok K ⟨F',H⟩ F' H (start N vs) ([d0,.adr p].map Sl.val++List.replicate (N.length-2) Sl.un):=by
   unfold start
   rw[r.length]
   exact i8 sub r _
  obtain⟨ρ',hb⟩:=body _ hx p d0 xs xs' hC
  exact hb ⟨F',H⟩ F' H _ _ us ⟨hp,hf,ru⟩ hk fun F2 H2 σ2 XT k2 r2 s2=>q .Vs F2 H2 XT k2.toExt r2 .Vs
def DefX.YT{K:bW}{x:Str}{C:D->aU->aU->Prop}(h:DefX P w K mg base k N sc X)(F:dO P w K mg base gN j f fd ps (Lb K C))(hj:j<=k)(hm:mg x=some (.ref f))(hk:PySem.W.keepIn K (.ref f)=true)(hb:Binds K fd ps []):We X x C:=by
 obtain⟨h0,rfl,rfl,rfl,rfl,rfl,hr,_⟩:=h
 exact⟨f,fd,ps,j,F,hr.mono hj,hm,hk,hb⟩
def Ig{ρ:cn}{pos:Pos}(t:At X N sc){C:D->aU->aU->Prop}(h:We X x C)(i:Nat)(hr:ρ[i]?=some (.own xs))(ha:U1 X ρ e d0)(hC:C d0 xs xs')(hN:N[i]?=some y:=by rfl)(hv:dW sc y=true:=by rfl)(hx:cm y=true:=by rfl)(hg:ve sc x:=by rfl)(VW:qA x:=by rfl)(hs:Pl (.Name y py):=by intro _ _;rfl)(he:Pl e:=by intro _ _;rfl)(Xl:swapsWith (.Call (.Name x p) [e,.Name y py] [] U7) none pos.line X.env=pure false:=by rfl):
  Vy X ρ (.Expr (.Call (.Name x p) [e,.Name y py] [] U7) pos) (.nx (ρ.set i (.own xs'))):=by
 obtain⟨f,fd,ps,k,F,X1,hm,hk,hb⟩:=h
 have pz:fW gN X E0:=oN
 refine .of (gZ (iR F X1 (dj t hg) hm hk hb .nil pz (bw aN (bw aN cK (hs _ _)) (he _ _)) VW (he _ _) (by unfold rM;rw[hs];rfl)) Xl) fun B F' H σ E k' q=>?_
 refine ha B F' H σ _ k' fun v0 F1 H1 x1 r1=>?_
 have k1:=k'.ext x1
 refine oP t hr hN hv hx k1 fun l us h1 h2 h3=>?_
 have hf1:F1 l=none:=by
  obtain⟨a,vs,o1,o2,o3,o4,o5⟩:=k1.VT i xs hr
  rw[h1] at o1
  cases o1
  exact o3
 refine⟨l,F1,d0,us,xs,xs',x1.sub,h2,hf1,h3,?_,hC,fun v F2 H2 XT x2 r2 rv=>q F2 H2 σ (k1.back hr h1 x2 r2) (x1.sf.trans x2.sf)⟩
 exact .cons r1 (.cons (.adr l) .nil)
def jE(ha:U1 X ρ a (.str z))(hb:U1 X ρ b (.str w))(hz:z.length+w.length<=sizeLine):U1 X ρ (.BinOp a .Add b pos) (.str (z++w)):=
 .of (l5 qV aN aN) fun B F H σ Q k q=>two ha hb k fun x y F' H' x' rx ry=>by
  cases rx;cases ry
  exact⟨z,w,rfl,rfl,hz,q _ F' H' x' (.str _)⟩
def JL{r:Bool}(ha:U1 X ρ a (.str z))(hb:U1 X ρ b (.str w))(hr:(!(Builtin.Str.occurrences w z 0 w.length 1).isEmpty)=r)(hm:behindInMarks .In b=false:=by rfl):U1 X ρ (.Compare a [.In] [b] pos) (.bl r):=
 .of (kX Ap aN aN hm) fun B F H σ Q k q=>two ha hb k fun x y F' H' x' rx ry=>by
  cases rx;cases ry;subst hr
  exact⟨z,w,rfl,rfl,q _ F' H' x' (.bl _)⟩
def Bx{r:Bool}(ha:U1 X ρ a (.str z))(hb:U1 X ρ b (.str w))(hr:(!(Builtin.Str.occurrences w z 0 w.length 1).isEmpty)=r)(hm:behindInMarks .In b=false:=by rfl):U3 X ρ (.Compare a [.In] [b] pos) r:=
 .of (eg Ap aN aN hm) fun B F H σ Q k q=>two ha hb k fun x y F' H' x' rx ry=>by
  cases rx;cases ry;subst hr
  exact⟨z,w,rfl,rfl,_,rfl,q F' H' x'⟩
def ei(t:At X N sc)(bl:m8 X sc x (.builtin "len"))(ha:U1 X ρ e (.str z))(hz:z.length<=sizeLine)(Wq:Pl e:=by intro _ _;rfl):U1 X ρ (.Call (.Name x p) [e] [] pos) (.int z.length):=
 sT t bl BJ (ab ha af Wq) fun F H vs Q sub r q=>by
  obtain⟨v,rfl,rv⟩:=r.one
  cases rv
  exact⟨z,rfl,hz,q _ F H (.refl sub) (.int _)⟩
def FV(t:At X N sc)(bl:m8 X sc x (.type "str"))(ha:U1 X ρ e (.int i))(hz:i.natAbs.log2<1920)(Wq:Pl e:=by intro _ _;rfl):U1 X ρ (.Call (.Name x p) [e] [] pos) (.str (toString i)):=
 ub t bl BH (ab ha af Wq) fun F H vs Q sub r q=>by
  obtain⟨v,rfl,rv⟩:=r.one
  cases rv
  exact⟨i,rfl,hz,q _ F H (.refl sub) (.str _)⟩
def BK:gn X (.type "int") (fun xs H Q=>∃z n,xs=[.str z]/\PySem.intText? z=some n/\z.length<=640/\Q (.int n) H):=by
 intro pins s σ H xs us Q I r h
 obtain⟨z,n,rfl,h1,h2,q⟩:=h
 obtain⟨u,rfl,t,rfl⟩:=iW r
 exact PySem.W.KIN.call_text h1 h2 ⟨.int n,H,I.tok _,⟨_,rfl⟩,q⟩
def FY(t:At X N sc)(bl:m8 X sc x (.type "int"))(ha:U1 X ρ e (.str z))(hn:PySem.intText? z=some n)(hz:z.length<=640)(Wq:Pl e:=by intro _ _;rfl):U1 X ρ (.Call (.Name x p) [e] [] pos) (.int n):=
 ub t bl BK (ab ha af Wq) fun F H vs Q sub r q=>by
  obtain⟨v,rfl,rv⟩:=r.one
  cases rv
  exact⟨z,n,rfl,hn,hz,q _ F H (.refl sub) (.int _)⟩
def Ee:Rz X "str.isalnum" (fun x xs H Q=>∃z,x=.str z/\xs=[]/\Q (.bl (Txt.isalnum z)) H):=by
 intro pins s σ H x xs v us Q I rx rs h
 obtain⟨z,rfl,rfl,q⟩:=h
 obtain⟨t,rfl⟩:=rx
 cases rs
 exact SC.isalnum ⟨.bl _,H,I,rfl,q⟩
def j6{apos U7:Pos}(ho:U1 X ρ a (.str z))(Wu:attributeBase a "isalnum" X.env (eval a X.env)=eval a X.env:=by rfl)(Vk:(apos.endLine==U7.line)=true:=by rfl):
  U1 X ρ (.Call (.Attribute a "isalnum" apos) [] [] U7) (.bl (Txt.isalnum z)):=
 .of (wR xS PySem.F.slot_str_isalnum PySem.F.type_str_isalnum Ee aN Wu Vk) fun B F H σ Q k q=>
  ho B F H σ _ k fun v F1 H1 x1 r1=>by
   cases r1
   exact⟨rfl,z,rfl,rfl,q _ F1 H1 x1 (.bl _)⟩
end L2.EV
namespace L2
open PySem PySem.Spec PyProof.Rows
variable {K:bW}{ds:aU}
def TW(z:Str):It:=⟨fun i _=>i<z.cps.size,fun i H x H'=>H'=H/\∃c,z.cps[i]?=some c/\x=.str ⟨#[c]⟩,fun i _=>z.cps.size<=i,False⟩
def Gx{K:bW}(it:Addr)(z:Str)(t:Tok):B1 P w K tg (TW z) [it] it (fun i h=>h.IsStrIter it "str_ascii_iterator" z t i) where
 mem:=by simp
 obj:=fun i h st b hb=>by
  have e:b=it:=by simpa using hb
  subst e
  obtain⟨o,e,c,d⟩:=st
  exact⟨o,e,fun v z=>by rw[d] at z;cases z⟩
 keep:=fun i h h' st k=>let ⟨o,e,r⟩:=st;⟨o,k it (by simp) o e,r⟩
 item:=by
  intro X hP hw hK hc i pins s σ H E I hf st hg
  subst hP hw hK
  replace hc:=hc.resolve_right fun z=>z.1
  obtain⟨f0,f1,f2,f3,f4,f5⟩:=hf it (by simp)
  have hi:i<z.cps.size:=hg
  refine wpAny_pyNext_ascii_item st (c:=z.cps[i]) (by simp[hi]) fun h' W5 sb=>?_
  have I1:Inv X pins σ H { s with heap:=h',toks:=s.toks+1 }:=I.turned (fun b o hb e=>(sb.2 b hb).trans e) f0 f1 f3 f4 f5
  obtain⟨o,e,c,d⟩:=id W5
  exact⟨_,rfl,FT (s:={ s with heap:=h',toks:=s.toks+1 }) e c d (by decide) ⟨.str ⟨#[z.cps[i]]⟩,H,I1,⟨_,rfl⟩,⟨rfl,_,by simp[hi],rfl⟩,W5,fun b hb=>(hf b hb).1⟩⟩
 done:=by
  intro X hP hw hK hc i pins s σ H E I hf st hg
  subst hP hw hK
  replace hc:=hc.resolve_right fun z=>z.1
  obtain⟨f0,f1,f2,f3,f4,f5⟩:=hf it (by simp)
  have hi:z.cps.size<=i:=hg
  exact wpAny_pyNext_ascii_end (I.ok.hd hc) st (by simp[hi]) fun h' eb=>⟨rfl,I.turned (t':=s.toks) (fun b o hb e=>eb b o hb e) f0 f1 f3 f4 f5⟩
 self:=fun _ _ _ _ _ st h=>wpAny_pyIter_striter_ascii st h
def Tg(tl:TE):TI:=fun σ H R=>tl σ H fun x H1=>∃z,x=.str z/\z.cps.all (· < 128)=true/\R (TW z) H1
def Oa(hl:PE X l tl):PI X tg l (Tg tl):=by
 intro pins s σ H R I h
 refine dk (hl pins s σ H _ I h) fun v s1 ⟨x,H1,I1,r1,q1⟩=>?_
 obtain⟨z,e,ha,q⟩:=q1
 subst e
 obtain⟨t,rfl⟩:=r1
 refine wpAny_pyIter_ascii ha ?_
 refine⟨s1.heap.objs.size,[s1.heap.objs.size],_,_,H1,rfl,I1.kept (t':=s1.toks) fun b o e=>Heap.get?_push_of_some _ e,Gx _ z t,⟨_,Heap.get?_push_size _ rfl,rfl,rfl⟩,fun b hb=>?_,q⟩
 have e:b=s1.heap.objs.size:=by simpa using hb
 subst e
 exact I1.Ym (aj _) (I1.Vl.fresh (aj _))
end L2
namespace L2.EV
open PySem PySem.Spec PyProof.Rows
variable {K:bW}{ds:aU}
def MW(z:Str):aU:=z.cps.toList.map fun c=>D.str ⟨#[c]⟩
def OO{K:bW}:xP K (TW z) F (MW z):=fun i F2 H2 s1 s2=>
 ⟨fun d hd=>by
  unfold MW at hd
  rw[List.getElem?_map] at hd
  cases e:z.cps.toList[i]? with
  |none=>rw[e] at hd;cases hd
  |some c=>
   rw[e] at hd
   cases hd
   have hi:=(List.getElem?_eq_some_iff.mp e).1
   refine⟨(show i<z.cps.size by simpa using hi),fun x H' y=>?_⟩
   obtain⟨rfl,c',h1,rfl⟩:=y
   have h2:z.cps[i]?=some c:=by simpa using e
   rw[h2] at h1;cases h1
   exact⟨F2,.refl s2,.str _⟩,fun h=>by
   have h':z.cps.size<=i:=by simpa [MW] using h
   exact h'⟩
def Pe(h:U1 X ρ e (.str z))(ha:z.cps.all (· < 128)=true):YX X ρ tg e (MW z):=.of (Oa aN) fun B F H σ R k q=>h B F H σ _ k fun v F' H' x r=>by
 cases r
 exact⟨z,rfl,ha,q _ F' H' x OO⟩
section
variable {lo:Expr}
def NX:Rt X (fun x lo hi H Q=>∃z,x=.str z/\z.length<=sizeLine/\Q (.str (Txt.slice z lo hi)) H):=by
 intro pins s σ H x v vl vu lo hi sl Q I rx hs pl pu h
 obtain⟨z,rfl,hz,q⟩:=h
 obtain⟨t,rfl⟩:=rx
 have part:∀{v:Value} {o:Option Int},IsPart v o->∃l:Option (Int×Tok),v=partValue l/\l.map (·.1)=o:=fun h=>by
  cases h with
  |none=>exact⟨none,rfl,rfl⟩
  |int i t=>exact⟨some (i,t),rfl,rfl⟩
 obtain⟨l,rfl,rfl⟩:=part pl
 obtain⟨u,rfl,rfl⟩:=part pu
 exact⟨"str",_,PySem.F.slot_str_getitem.lookup,UL _ _ _,wpAny_getItem_str_slice (l:=l) (u:=u) (st:=none) hs rfl
  (post_val_or_str ⟨ar (Txt.slice_le z _ _) hz,fun t' k=>⟨.str (Txt.slice z (l.map (·.1)) (u.map (·.1))),H,I.tok _,⟨_,rfl⟩,q⟩⟩)⟩
def vy(h:U1 X ρ e (.str z))(h1:U1 X ρ lo (.int i))(h2:U1 X ρ hi (.int j))(hz:z.length<=sizeLine):U1 X ρ (.Subscript e (.Slice (some lo) (some hi) none p2) pos) (.str (Txt.slice z (some i) (some j))):=
 .of (sB NX aN (A1 aN) (A1 aN)) fun B F H σ Q k q=>h B F H σ _ k fun v F1 H1 x1 r1=>h1 B F1 H1 σ _ (k.ext x1) fun v2 F2 H2 x2 r2=>by
  cases r1;cases r2
  exact⟨i,rfl,h2 B F2 H2 σ _ (k.ext (x1.t x2)) fun v3 F3 H3 x3 r3=>by
   cases r3
   exact⟨j,rfl,z,rfl,hz,q _ F3 H3 (x1.t (x2.t x3)) (.str _)⟩⟩
def CA(cs:Array Nat)(i:Nat):∀n,i+n<=cs.size->((List.range n).map fun k=>i+k).filterMap (cs[·]?)=(cs.toList.drop i).take n
 |0,_=>by simp
 |n+1,h=>by
  rw[xX,aJ,Ur,CA cs i n (by lia),rH,List.getElem?_drop]
  congr 1
  have:i+n<cs.size:=by lia
  simp[this]
def Cm:∀(xs:df) (us:fR),us.length=xs.length->(∀(j:Nat) x u,xs[j]?=some x->us[j]?=some u->RelV x u)->Vals xs us
 |[],[],_,_=>.nil
 |x::xs,u::us,hl,h=>.cons (h 0 x u rfl rfl) (Cm xs us (by simpa using hl) fun j y v h1 h2=>h (j+1) y v h1 h2)
def Gh{z:Str}{i j:Nat}(h:i<=j)(hi:i<=z.length):Txt.slice z (some (i:Int)) (some (j:Int))=⟨((z.cps.toList.drop i).take (j-i)).toArray⟩:=by
 have hz:z.length=z.cps.size:=rfl
 have e1:Builtin.Str.strSliceIndices (some (i:Int)) (some (j:Int)) 1 z.length=(List.range (min j z.length-i)).map fun k=>i+k:=by
  unfold Builtin.Str.strSliceIndices sliceRange
  have a1:¬((i:Int)<0):=by lia
  have a2:¬((j:Int)<0):=by lia
  simp only[a1,a2,B7,show(1:Int) > 0 by decide,Ce]
  have b1:max 0 (min (i:Int) (z.length:Int))=i:=by lia
  have b2:max 0 (min (j:Int) (z.length:Int))=(min j z.length:Nat):=by lia
  rw[b1,b2]
  have b3:(if (i:Int)<(min j z.length:Nat) then (((min j z.length:Nat):Int)-i+1-1) / 1 else 0).toNat=min j z.length-i:=by split<;>lia
  rw[b3]
  exact qm fun k _=>by lia
 have e2:((List.range (min j z.length-i)).map fun k=>i+k).filterMap (z.cps[·]?)=(z.cps.toList.drop i).take (j-i):=by
  rw[CA z.cps i (min j z.length-i) (by lia)]
  by_cases hj:j<=z.length
  ·rw[Nat.min_eq_left hj]
  ·rw[bP (by rw[cv,bX];lia),bP (by rw[cv,bX];lia)]
 unfold Txt.slice
 rw[e1,e2]
 split
 ·rename_i h0
  rw[dJ,m9,m9,ag,fA] at h0
  have h1:=h0.2
  have hi0:i=0\/z.length=0:=by lia
  rcases hi0 with rfl | e
  ·rw[Ca,Nat.sub_zero,bP (by rw[bX];lia)]
  ·have:z.cps.toList=[]:=aB (by rw[bX];lia)
   rw[this]
   obtain⟨c⟩:=z
   have hc:c = #[]:=Array.eq_empty_of_size_eq_zero e
   subst hc
   simp
 ·rfl
def ED{X:Cx}(hc:X.calm=true):gn X (.type "list") (fun xs H Q=>∃z,xs=[.str z]/\z.length<=sizeLine/\∀l,H l=none->Q (.ref l) (cE H l (.lst (z.cps.toList.map fun c=>V.str ⟨#[c]⟩)))):=by
 intro pins s σ H xs us Q I r h
 obtain⟨z,rfl,hz,q⟩:=h
 obtain⟨u,rfl,t,rfl⟩:=iW r
 refine call_list_str (I.ok.hd hc) z t (hn:=hz) fun h' tk YW c' kp e Zp=>?_
 have rv:Vals (z.cps.toList.map fun c=>V.str ⟨#[c]⟩) YW.toList:=by
  obtain⟨h1,h2⟩:=Zp
  refine Cm _ _ (by simp[h1]) fun j x u e1 e2=>?_
  obtain⟨c,t',hc,rfl⟩:=h2 j u (by simpa using e2)
  rw[List.getElem?_map,show z.cps.toList[j]?=some c by simpa using hc] at e1
  cases e1
  exact⟨t',rfl⟩
 exact⟨.ref s.heap.objs.size,_,I.laid (t':=tk) kp (aj _) (show Ve X.prog X.w _ h' _ (.lst _) from⟨by rw[ag,bX];exact hz,YW.toList,c',rv,by simpa using e⟩),rfl,q _ (I.Vl.fresh (aj _))⟩
def Ah{K:bW}:∀cs:bN,U2 K F (cs.map fun c=>V.str ⟨#[c]⟩) (cs.map fun c=>D.str ⟨#[c]⟩)
 |[]=>.nil
 |c::cs=>.cons (.str _) (Ah cs)
def JY(t:At X N sc)(bl:m8 X sc x (.type "list"))(ha:U1 X ρ e (.str z))(hz:z.length<=sizeLine)(Wq:Pl e:=by intro _ _;rfl):U9 X ρ (.Call (.Name x p) [e] [] pos) (MW z):=
 .of (jM (ED t.calm) (dj t bl.g) bl.m bl.v (bw aN cK (Wq _ _)) bl.n bl.d (Wq _ _) rfl) fun B F H σ Q k' q=>ha B F H σ _ k' fun v F' H' x' r=>by
  cases r
  exact⟨z,rfl,hz,fun l hl=>q l _ F' _ ⟨x'.sub.trans (aL hl),x'.sh.trans (aL hl),x'.sf,x'.nw⟩ (x'.sh.free hl) aG (x'.sub.free hl) (Ah _)⟩
end
def xn{x:Str}(t:At X N sc)(hm:∃tk,X.mg x=some (.str z tk))(hg:ve sc x:=by rfl)(VW:qA x:=by rfl):U1 X ρ (.Name x p) (.str z):=by
 obtain⟨tk,hm⟩:=hm
 exact .of (vq (dj t hg) hm (show RelV (.str z) (.str z tk) from⟨_,rfl⟩) VW) fun B F H σ Q k q=>q _ F H (.refl k.sub) (.str _)
def sS{x:Str}(t:At X N sc)(hm:∃tk,X.mg x=some (.int z tk))(hg:ve sc x:=by rfl)(VW:qA x:=by rfl):U1 X ρ (.Name x p) (.int z):=by
 obtain⟨tk,hm⟩:=hm
 exact .of (vq (dj t hg) hm (show RelV (.int z) (.int z tk) from⟨_,rfl⟩) VW) fun B F H σ Q k q=>q _ F H (.refl k.sub) (.int _)
def DS{pos:Pos}(h:U1 X ρ e d)(Xl:swapsWith e none pos.line X.env=pure false:=by rfl):Vy X ρ (.Expr e pos) (.nx ρ):=fun B F H σ E k q=>.mk fun pins s I=>
 gZ aN Xl pins s σ H E I (h B F H σ _ k fun v F' H' x' r=>q F' H' σ (k.ext x') x'.sf)
def N1:Vy X ρ (.Return none pos) (.rt .Vs):=fun B F H σ E k q=>.mk fun pins s I=>Lw pins s σ H E I (q .Vs F H k.toExt .Vs)
def OY{P:Program}(VO:P.given.tree=none){w:World}{K:bW}{mg:ux}{base:Heap}{x qual:Str}{st:Stmt}{f:Addr}{fd:FuncData}{N ps:ce}{k:Nat}{C:aU->D->Prop}(F:X8 K x qual st f fd)(S:aK N ps (ai st))(len:∀ds d,C ds d->ds.length=ps.length)(body:∀X,DefX P w K mg base k N (ai st) X->∀ds d,C ds d->U4 X (ds.map Sl.val++List.replicate (N.length-ds.length) Sl.un) (bE st) (.rt d)\/(d=.Vs/\∃ρ',U4 X (ds.map Sl.val++List.replicate (N.length-ds.length) Sl.un) (bE st) (.nx ρ'))):dO P w K mg base gN (k+1) f fd ps (MV K C):=by
 refine F.ok S (fun vs H Q E h=>?_) (fun VG A outer s H vs Q E hr h=>?_)
 ·obtain⟨F',ds,d,sub,r,hC,q⟩:=h
  rw[r.length];exact len ds d hC
 ·obtain⟨F',ds,d,sub,r,hC,q⟩:=h
  refine⟨_,cQ,?_⟩
  have hx:DefX P w K mg base k N (ai st) (q8 gN P w K mg base N qual (ai st) f VG A outer s H E).XC:=
   ⟨⟨rfl,rfl,rfl,S.nd,rfl,hr.units,hr.WS,VO,⟨_,_,rfl,S.gen,S.co,rfl,rfl⟩⟩,rfl,rfl,rfl,rfl,rfl,hr,⟨fun _=>rfl⟩,rfl,rfl⟩
  have hk:Ok K ⟨F',H⟩ F' H (start N vs) (ds.map Sl.val++List.replicate (N.length-ds.length) Sl.un):=by
   unfold start
   rw[r.length]
   exact i8 sub r _
  rcases body _ hx ds d hC with hb | ⟨rfl,ρ',hb⟩
  ·exact hb ⟨F',H⟩ F' H _ _ hk fun v F2 H2 x2 r2=>q v F2 H2 x2 r2
  ·exact hb ⟨F',H⟩ F' H _ _ hk fun F2 H2 σ2 k2 s2=>q .Vs F2 H2 k2.toExt .Vs
def S(cs:bN):Str:=⟨cs.toArray⟩
def ck(cs:bN):(S cs).length=cs.length:=by show cs.toArray.size=_;simp
def fO(cs:bN):(S cs).cps.toList=cs:=by show cs.toArray.toList=_;simp
def ny(a b:bN):S a++S b=S (a++b):=by show(⟨a.toArray++b.toArray⟩:Str)=⟨_⟩;simp
def dB{a:bN}(h:S a=S b):a=b:=by rw[<-fO a,h,fO]
def TM(z:Str):z=S z.cps.toList:=by obtain⟨c⟩:=z;show(⟨c⟩:Str)=⟨_⟩;simp
def fv{cs:bN}(h:∀c∈cs,c<128):PyData.strOk (S cs)=true:=by
 show cs.toArray.all (· < 0x110000)=true
 simp only[List.all_toArray,KJ,bh]
 intro c hc
 have:=h c hc
 lia
def Rv{cs:bN}(h:∀c∈cs,c<128):(S cs).cps.all (· < 128)=true:=by
 show cs.toArray.all (· < 128)=true
 simp only[List.all_toArray,KJ,bh]
 exact h
def al(c:Nat):Bool:=PySem.Unicode.isAlnum c
def Kv(c:Nat):Txt.isalnum (S [c])=al c:=by
 show(decide ((#[c]:Array Nat).size > 0)&&(#[c]:Array Nat).all PySem.Unicode.isAlnum)=_
 simp[al]
def zo{pre:bN}{c:Nat}:k7 (S (pre++c::post)).cps.toList (pre.length:Int)=some c:=by
 rw[fO]
 exact ej (by simp)
def Ru(pre w post:bN):Txt.slice (S (pre++w++post)) (some (pre.length:Int)) (some ((pre.length:Int)+(w.length:Int)))=S w:=by
 have e:(pre.length:Int)+(w.length:Int)=((pre.length+w.length:Nat):Int):=by lia
 rw[e,Gh (by lia) (by rw[ck];simp),fO]
 show(⟨_⟩:Str)=⟨_⟩
 simp[List.drop_append,jc]
def ET(pre post:bN)(c:Nat):Txt.slice (S (pre++c::post)) (some (pre.length:Int)) (some ((pre.length:Int)+2))=S (c::post.take 1):=by
 have e:(pre.length:Int)+2=((pre.length+2:Nat):Int):=by lia
 rw[e,Gh (by lia) (by rw[ck];simp),fO]
 show(⟨_⟩:Str)=⟨_⟩
 simp[List.drop_append,jc]
def Rk:Stmt->Stmt
 |.ClassDef _ _ _ (b::_) _ _ _ _ _ _ _=>b
 |s=>s
def L3{P:Program}{K:bW}{st:Stmt}{k:Nat}(VO:P.given.tree=none)(F:X8 K x qual st f fd)(S:aK ["self", "tokens"] ["self", "tokens"] (ai st))(c:Yy K C)(n1:Vq K C "tokens")(n2:Vq K C "done")(n3:Vq K C "steps")(hb:bE st=[.Assign [.Attribute (.Name "self" p1) "tokens" p2] (.Name "tokens" p3) a1,.Assign [.Attribute (.Name "self" p4) "done" p5] (.Constant (.int 0) j p6) a2,.Assign [.Attribute (.Name "self" p7) "steps" p8] (.List [] p9) a3])(v1:dW (ai st) "self"=true)(v2:dW (ai st) "tokens"=true):dO P w K mg base gN (k+1) f fd ["self", "tokens"] (AN C):=by
 refine F.ok S (fun vs H Q E h=>?_) (fun VG A outer s H vs Q E hr h=>?_)
 ·obtain⟨x,dx,l,rfl,_⟩:=h;rfl
 ·obtain⟨x0,dx,l,rfl,hx,q⟩:=h
  have hX:DefX P w K mg base k ["self", "tokens"] (ai st) (q8 gN P w K mg base ["self", "tokens"] qual (ai st) f VG A outer s H E).XC:=
   ⟨⟨rfl,rfl,rfl,S.nd,rfl,hr.units,hr.WS,VO,⟨_,_,rfl,S.gen,S.co,rfl,rfl⟩⟩,rfl,rfl,rfl,rfl,rfl,hr,⟨fun _=>rfl⟩,rfl,rfl⟩
  have t:=hX.at'
  rw[hb]
  refine⟨_,fE (DV (tQ t (i:=0) rfl v1 rfl) (tQ t (i:=1) rfl v2 rfl) rfl) (fE (DV (tQ t (i:=0) rfl v1 rfl) IP rfl) (qc (DV (tQ t (i:=0) rfl v1 rfl) (IN cK) rfl))),?_⟩
  refine⟨.ref l,rfl,.ref x0,rfl,x0,C,dx,[],rfl,hx,c,n1,by decide,?_⟩
  refine⟨.ref x0,rfl,x0,C,dx,_,rfl,aG,c,n2,(by show 1<1000;decide),?_⟩
  refine⟨be _,fun p hp=>⟨.ref x0,rfl,x0,C,dx,mI "done" (.int 0) (mI "tokens" (.ref l) []),rfl,?_,c,n3,(show(2:Nat)<1000 by decide),?_⟩⟩
  ·have hpx:x0≠p:=fun e=>by subst e;rw[aG] at hp;cases hp
   rw[aI hpx,aG]
  ·have hpx:p≠x0:=fun e=>by subst e;rw[aG] at hp;cases hp
   refine q p _ (by rwa [aI hpx,aI hpx] at hp) hpx ?_
   funext b
   unfold cE
   by_cases h1:b=x0
   ·rw[au h1,au h1];rfl
   ·rw[aq h1,aq h1]
    by_cases h2:b=p
    ·simp[h1,h2,hpx]
    ·simp[h1,h2]
def DefX.mkR{x:Str}{K:bW}(h:DefX P w K mg base k N sc X)(F:dO P w K mg base gN j f fd ps (AN C))(hj:j+1<=k)(M:Mk K C f)(hm:mg x=some (.ref C))(hb:Binds K fd ps [])(c:Yy K C)(n1:Vq K C "tokens")(n2:Vq K C "done")(n3:Vq K C "steps"):TR X x C:=by
 obtain⟨h0,rfl,rfl,rfl,rfl,rfl,hr,_⟩:=h
 exact⟨⟨f,fd,ps,j,M,F,hr.mono hj,hb⟩,hm,c,n1,n2,n3⟩
def As{c:Int}{α:Type}{f:α->Int}:∀(l:List α),(l.map f).Nodup->(l.filter fun x=>f x==c).length<=1
 |[],_=>be _
 |x::l,nd=>by
  rw[aT,cg] at nd
  have ih:=As (c:=c) l nd.2
  rw[List.filter_cons]
  split
  ·rename_i hx
   have e:l.filter (fun x=>f x==c)=[]:=List.filter_eq_nil_iff.mpr fun y hy hyc=>nd.1 (List.mem_map.mpr ⟨y,hy,(eq_of_beq hyc).trans (eq_of_beq hx).symm⟩)
   rw[e];exact aj _
  ·exact ih
def Cv{s:Shared}{Q:Bool->Shared->Prop}(hk:(tupleKind (intKind prog w)).is s.heap k a)(h:Q false s):wpAny (model prog w) A (Builtin.Dict.quietEq (.ref a)) Q E s:=by
 have hT:=IsTupleKey.typeIs (knd:=intKind prog w) hk
 unfold Builtin.Dict.quietEq
 refine ae (T2 hT F.slot_tuple_eq.lookup ?_)
 exact ao h
def G3{o:Addr}{s:Shared}{ys:List (aS×Addr×Value)}{Q:Array DictEntry->Shared->Prop}(ho:s.heap.get? o=some oo)(hd:oo.data=.dict Yv epo)(he:Yv.toList=ys.map (entryOfKey (tupleKind (intKind prog w))))(his:∀x∈ys,(tupleKind (intKind prog w)).is s.heap x.1 x.2.1)(hh:(ys.map fun y=>(tupleKind (intKind prog w)).hash y.1).Nodup)(h:Q Yv s):wpAny (model prog w) A (Builtin.Dict.entriesForEmpty nm o) Q E s:=by
 unfold Builtin.Dict.entriesForEmpty
 refine ae (fY ho hd ?_)
 refine ae ?_
 rw[<-Array.forIn_toList]
 refine wpAny_forIn_list _ (fun bF _ s'=>s'=s/\∀e∈bF,e∈Yv.toList) _ ?_ ?_ _ _ ⟨rfl,fun e he=>he⟩
 ·rintro e bF r s' ⟨rfl,Zo⟩
  have hm:=Zo e bK
  rw[he] at hm
  obtain⟨y,hy,rfl⟩:=List.mem_map.mp hm
  refine ae (Cv (his y hy) ?_)
  have hc:(Yv.filter fun x=>x.hash==(entryOfKey (tupleKind (intKind prog w)) y).hash).size<=1:=by
   rw[<-bX,Array.toList_filter,he,List.filter_map,ag]
   exact As (f:=fun y:aS×Addr×Value=>(tupleKind (intKind prog w)).hash y.1) ys hh
  simp only[Bool.not_false,Ce]
  rw[aq (by lia)]
  exact ao ⟨rfl,fun e' he'=>Zo e' (aV _ he')⟩
 ·rintro r s' ⟨rfl,_⟩
  exact ao h
def EF{o:Addr}{Q:tG}{s:Shared}{ys:List (aS×Addr×Value)}(hoS:(o==sysModules)=false)(ho:s.heap.DictOfH (tupleKind (intKind prog w)) o ys)(hsz:ys.length<=sizeLine)(hh:(ys.map fun y=>(tupleKind (intKind prog w)).hash y.1).Nodup)(h:∀h',h'.DictOfH (tupleKind (intKind prog w)) s.heap.objs.size ys->Heap.SameBut s.heap.objs.size (s.heap.push { cls:=.type "dict",data:=.dict #[] }) h'->Q (.ref s.heap.objs.size) { s with heap:=h' }):
  wpAny (model prog w) A (call (.type "dict") [.ref o]) Q E s:=by
 refine callType_codes (Q₁:=fun obj s₁=>obj=.ref s.heap.objs.size/\s₁ = { s with heap:=s.heap.push { cls:=.type "dict",data:=.dict #[] } }) F.kt_called_dict (F.kt_typeCall_dict_1 _) F.entry_dict_init (kt_code_dict_new _ ⟨rfl,rfl⟩) ?_
 rintro obj s₁ ⟨rfl,rfl⟩
 obtain⟨oo,Yv,epo,hoo,hco,Zm,he,his,hn⟩:=ho
 have VH:=aQ hoo
 have hdo:s.heap.objs.size≠o:=fun e=>absurd VH (by rw[e];exact dL _)
 have hnT:({ s with heap:=s.heap.push { cls:=.type "dict",data:=.dict #[] } }:Shared).TypeIs (.ref s.heap.objs.size) "dict" := (Cb (knd:=tupleKind (intKind prog w)) s.heap).typeIs (s:={ s with heap:=s.heap.push { cls:=.type "dict",data:=.dict #[] } })
 have YJ:(s.heap.push { cls:=.type "dict",data:=.dict #[] }).get? o=some oo:=Heap.get?_push_of_some _ hoo
 have his':∀x∈ys,(tupleKind (intKind prog w)).is (s.heap.push { cls:=.type "dict",data:=.dict #[] }) x.1 x.2.1:=fun x hx=>by
  obtain⟨q,its,n,h1,h2,h3,h4⟩:=his x hx
  exact⟨q,its,n,Heap.get?_push_of_some _ h1,h2,h3,h4⟩
 have hoT:({ s with heap:=s.heap.push { cls:=.type "dict",data:=.dict #[] } }:Shared).TypeIs (.ref o) "dict" := ⟨oo,YJ,hco.1⟩
 refine⟨hnT,F.args_dict_init_2 _ _,?_⟩
 unfold Builtin.«dict.__init__»
 refine ae ?_
 unfold Builtin.Dict.selfAndRest
 refine ae (wpAny_notOrdered_dict hnT ?_)
 show wpAny _ _ (pure (s.heap.objs.size,[Value.ref o])) _ _ _
 refine ao ?_
 show wpAny _ _ (Builtin.Dict.updateFrom "dict.__init__" s.heap.objs.size (.ref o) [] .none) _ _ _
 unfold Builtin.Dict.updateFrom
 refine ae (Dv hoT ?_)
 rw[aq (by decide)]
 refine ae ?_
 unfold Builtin.Dict.merge
 refine ae ?_
 unfold Builtin.Dict.readDirectly
 refine ae (B5 hoT isSubtype_dict_dict ?_)
 simp only[Bool.not_true,EW,B7]
 refine ae (T2 hoT F.slot_dict_iter.lookup (ao ?_))
 simp only[KH,Ce]
 refine ae (ao ?_)
 unfold Builtin.Dict.mergeDict
 rw[aq (by simpa using hdo)]
 unfold Builtin.Dict.showsAll
 rw[aq (by rw[hoS];exact av)]
 refine ae (ao ?_)
 refine ae (fY YJ Zm ?_)
 have hes:Yv.size=ys.length:=size_of_entries he
 have Yl:(s.heap.push { cls:=.type "dict",data:=.dict #[] }).get? s.heap.objs.size=some { cls:=.type "dict",data:=.dict #[] }:=Heap.get?_push_size _ rfl
 dsimp only
 cases ys with
 |nil=>
  have h0:Yv = #[]:=by rw[Hm] at he;exact Array.toList_eq_nil_iff.mp he
  subst h0
  rw[aq (by simp)]
  refine ae (DC YJ Zm ?_)
  refine ae (fY YJ Zm ?_)
  refine ae ?_
  rw[Std.Legacy.Range.forIn_eq_forIn_range']
  show wpAny _ _ (pure PUnit.unit) _ _ _
  refine ao (ao ?_)
  show wpAny _ _ (Builtin.Dict.addKeywords s.heap.objs.size [] >>= _) _ _ _
  exact ae (ao (ao ⟨rfl,h _ (Cb s.heap) (Heap.SameBut.refl _ _)⟩))
 |cons y ys=>
  have hf:(!(decide (Yv.size<=8)&&Yv.all fun e=>(keyPart e.key).isSome))=true:=by
   have:Yv.all (fun e=>(keyPart e.key).isSome)=false:=by
    rw[<-Array.all_toList,he];rfl
   rw[this,Cc];rfl
  rw[au hf]
  refine ae (fY Yl rfl ?_)
  rw[au (by rfl)]
  refine ae (G3 YJ Zm he his' hh ?_)
  have Xi:Yv ≠ #[]:=fun z=>by rw[z] at he;cases he
  rw[au (by simpa using Xi)]
  refine ae (wpAny_updateDictKeysTo Yl rfl (ao ?_) (by lia))
  show wpAny _ _ (Builtin.Dict.addKeywords s.heap.objs.size [] >>= _) _ _ _
  refine ae (ao (ao ⟨rfl,h _ ⟨_,Yv,_,Heap.get?_update_self _ Yl (Obj.isFreed_of_dict (Obj.data_mapDictKeys rfl _)),?_,Obj.data_mapDictKeys rfl _,he,fun x hx=>?_,hn⟩ (tJ ..)⟩))
  ·exact Obj.ExactDict.mapDictKeys (o:={ cls:=.type "dict",data:=.dict #[] }) ⟨rfl,rfl,rfl⟩ _
  ·exact(tupleKind (intKind prog w)).keeps (his' x hx) Yl rfl (tJ ..)
def qO(k:aS):Int:=reduceHash (Builtin.Tuple.tupleHashOf (k.map hashInt))
def Vv.hash{ys:List (aS×Addr×Value)}(r:Vv xs ys):(ys.map fun y=>(tupleKind (intKind P w)).hash y.1)=xs.map fun y=>qO y.1:=by
 induction r with
 |nil=>rfl
 |cons h t ih=>rw[aT,aT,ih,h.1];rfl
def EG:gn X (.type "dict") (fun vs H Q=>∃a xs,vs=[.ref a]/\Wo H a xs/\(∀y∈xs,H y.2.1=some (.tup (y.1.map V.int)))/\(xs.map fun y=>qO y.1).Nodup/\∀l,H l=none->Q (.ref l) (cE H l (.ext (dN l xs)))):=by
 intro pins s σ H vs us Q I r h
 obtain⟨a,xs,rfl,hd,hk,hn,q⟩:=h
 obtain⟨u,rfl,hu⟩:=iW r
 obtain rfl:u=Value.ref a:=hu
 obtain⟨z,hS,ys,kp,dd⟩:=sZ I (Wo.is I hd) hk
 have hb:sysModules<s.heap.objs.size:=lK (by decide) (show mainGlobals<s.heap.objs.size from(I.mod.glob.keeps I.bk).lt)
 refine EF hS dd (by rw[<-kp.len];exact z) (by rw[Vv.hash kp];exact hn) fun h' dn sb=>?_
 have zz:dN s.heap.objs.size xs h':=BA (P:=X.prog) (w:=X.w) z (bn.mpr (dD (bi hb))) kp dn
 exact⟨.ref s.heap.objs.size,_,I.laid (a:=s.heap.objs.size) (o:=.ext (dN s.heap.objs.size xs)) (t':=s.toks) (fun b o e=>(sb.2 b (bi (aQ e))).trans (Heap.get?_push_of_some _ e)) (aj _) (xC zz),rfl,q _ (I.Vl.fresh (aj _))⟩
def Mq(t:At X N sc)(bl:m8 X sc x (.type "dict"))(ha:KC X ρ e kvs)(hn:(kvs.map fun y=>qO y.1).Nodup)(Wq:Pl e:=by intro _ _;rfl):VR X ρ (.Call (.Name x p) [e] [] pos) kvs:=fun B F H σ Q k' q=>.mk fun pins s I=>
 jM EG (dj t bl.g) bl.m bl.v (bw aN cK (Wq _ _)) bl.n bl.d (Wq _ _) rfl pins s σ H Q I (ha B F H σ _ k' fun a xs F' H' x' r1 r2=>by
  refine⟨a,xs,rfl,r1,fun y hy=>x'.sub _ _ (r2.2 y hy),?_,fun l hl=>q l xs F' _ ⟨x'.sub.trans (aL hl),x'.sh.trans (aL hl),x'.sf,x'.nw⟩ (x'.sh.free hl) aG (x'.sub.free hl) r2⟩
  have:=r2.1
  rw[this,cM] at hn
  exact hn)
def Xw(X:Cx)(q:Addr)(ρ:cn)(e:Expr)(b:Bool)(xs xs':aU):Prop:=∀(B:B0) (F H:Hp) (σ:St) (Q:Bool->Hp->Prop) (us:df),Wc X.K B q F us xs->Ok X.K B F H σ ρ ->
 (∀F' H' Wf,Ext (VJ ⟨F,H⟩ q Wf) F' H'->U2 X.K F' Wf xs'->Q b H')->wT X e σ H Q
def RG(X:Cx)(q:Addr)(ρ:cn)(tg e:Expr)(ds:aU)(xs xs':aU):Prop:=∀(B:B0) (F H:Hp) (σ:St) (R:It->Hp->Prop) (us:df),Wc X.K B q F us xs->Ok X.K B F H σ ρ ->
 (∀J F' H' Wf,Ext (VJ ⟨F,H⟩ q Wf) F' H'->U2 X.K F' Wf xs'->xP X.K J F' ds->R J H')->wI X tg e σ H R
section
variable {st:Stmt}{bF:List Stmt}{ds:aU}
def VF.eq{d':D}(h:VF X q ρ e d xs xs')(z:d=d'):VF X q ρ e d' xs xs':=z ▸ h
def Xw.eq{b':Bool}(h:Xw X q ρ e b xs xs')(z:b=b'):Xw X q ρ e b' xs xs':=z ▸ h
def Wl.up{K:bW}(w:Wl K B q F E xs' o)(s:U8 F F1):Wl K (VJ B q u) q F1 E xs' o:=by
 cases o with
 |nx ρ=>exact fun F2 H2 σ2 XT k2 r2 s2=>w F2 H2 σ2 XT (by rw[VJ.up] at k2;exact k2) r2 (s.trans s2)
 |rt d=>exact fun v F2 H2 XT x2 r2 rv=>w v F2 H2 XT (by rw[VJ.up] at x2;exact x2) r2 rv
def Mo{i j m:Int}{C:Int->Int->Prop}{g:Int->Int->Int}(ho:lP X (binaryOp op) (rI C fun i j=>.int (g i j)))(ha:VF X q ρ a (.int i) xs xs1)(hb:U1 X ρ b (.int j))(hc:C i j)(hm:g i j=m):
  VF X q ρ (.BinOp a op b pos) (.int m) xs xs1:=fun B F H σ Q us l k w=>.mk fun pins s I=>
 l5 ho aN aN pins s σ H Q I (ha B F H σ _ us l k fun x F1 H1 u1 x1 r1 rx=>hb (VJ B q u1) F1 H1 σ _ (k.WR l x1) fun y F2 H2 x2 ry=>by
  cases rx;cases ry;subst hm
  exact⟨i,j,rfl,rfl,hc,w _ F2 H2 u1 (x1.trans x2) (r1.mono x2.sf) (.int _)⟩)
def jF(ha:VF X q ρ a (.int i) xs xs1)(hb:U1 X ρ b (.int j))(h0:0<j):VF X q ρ (.BinOp a .Mod b pos) (.int (i%j)) xs xs1:=Mo IS ha hb h0 rfl
def MK(ha:VF X q ρ a (.int i) xs xs1)(hb:U1 X ρ b (.int j)):Xw X q ρ (.Compare a [.Gt] [b] pos) (decide (j<i)) xs xs1:=fun B F H σ Q us l k w=>.mk fun pins s I=>
 eg IT aN aN (cT _ (by decide) (by decide)) pins s σ H Q I (ha B F H σ _ us l k fun x F1 H1 u1 x1 r1 rx=>hb (VJ B q u1) F1 H1 σ _ (k.WR l x1) fun y F2 H2 x2 ry=>by
  cases rx;cases ry
  exact⟨i,j,rfl,rfl,_,rfl,w F2 H2 u1 (x1.trans x2) (r1.mono x2.sf)⟩)
def Jd(hc:Xw X q ρ c true xs xs1)(h:Xs X q ρ ss o xs1 xs'):qv X q ρ (.If c ss Wf pos) o xs xs':=fun B F H σ E us l k w=>
 (.mk fun pins s I=>uH kz cQ cQ pins s σ H E I (hc B F H σ _ us l k fun F1 H1 u1 x1 r1=>by rw[au rfl];exact h (VJ B q u1) F1 H1 σ E u1 ⟨aG,l.fr,r1⟩ (k.WR l x1) (Wl.up w x1.sf)))
def Je(hc:Xw X q ρ c false xs xs1)(h:Xs X q ρ Wf o xs1 xs'):qv X q ρ (.If c ss Wf pos) o xs xs':=fun B F H σ E us l k w=>
 (.mk fun pins s I=>uH kz cQ cQ pins s σ H E I (hc B F H σ _ us l k fun F1 H1 u1 x1 r1=>by rw[aq av];exact h (VJ B q u1) F1 H1 σ E u1 ⟨aG,l.fr,r1⟩ (k.WR l x1) (Wl.up w x1.sf)))
def jg{pos:Pos}(t:At X N sc)(h:VF X q ρ e d xs xs')(hg:Xy X ρ tg d ρ')(hs:swapsWithSole [tg] e pos.line X.env=pure false:=by rfl)(hw:swappedStores [tg] e (dE sc)=pure none:=by rfl)(h1:(assignEach [tg] X.env).map (·.2)=[assign tg X.env]:=by rfl):qv X q ρ (.Assign [tg] e pos) (.nx ρ') xs xs':=fun B F H σ E us l k w=>
 (.mk fun pins s I=>DW aN D1 hs ((rP (show X.env.scope=(dE sc).scope from t.eS)).trans hw) h1 pins s σ H E I (h B F H σ _ us l k fun v F1 H1 u1 x1 r1 rv=>hg (VJ B q u1) F1 H1 σ v _ (k.WR l x1) rv fun F2 H2 σ2 k2 s2=>w F2 H2 σ2 u1 k2 (r1.mono s2) (x1.sf.trans s2)))
def Ew(t:At X N sc)(bl:m8 X sc "range" (.type "range"))(h:VF X q ρ a (.int j) xs xs1)(h1 : -(2 ^ 62)<=j)(h2:j<2 ^ 62)(hs:Pl a:=by intro _ _;rfl):RG X q ρ tg (.Call (.Name "range" p) [a] [] pos) (dH 0 j.toNat) xs xs1:=fun B F H σ R us l k w=>
 (.mk fun pins s I=>An (dj t bl.g) bl.m (bw aN cK (hs _ _)) (hs _ _) pins s σ H R I (h B F H σ _ us l k fun v F1 H1 u1 x1 r1 rv=>by
  cases rv
  exact⟨j,rfl,h1,h2,w _ F1 H1 u1 x1 r1 Jt⟩))
end
def OB(t:At X N sc)(hi:RG X p ρ tg e ds XS xs)(h:Wm X p tg body ds ρ xs ρ' xs')(hs:∀x,foldedSetIterable e X.env x=pure x:=by intro _;rfl):qv X p ρ (.For tg e body [] pos) (.nx ρ') XS xs':=fun B F H σ E us l k q=>
 (.mk fun pins s I=>DU t.pass t.calm QK D1 cQ hs pins s σ H E I (hi B F H σ _ us l k fun J F1 H1 u1 x1 rr1 J1=>by
  refine⟨fun i m σ H=>∃ρ1 F' ZL xs1,Ok X.K (VJ B p ZL) F' H σ ρ1/\U2 X.K F' ZL xs1/\U8 F1 F'/\Wm X p tg body (ds.drop i) ρ1 xs1 ρ' xs'/\m=ds.length-i,⟨ds.length,ρ,F1,u1,xs,k.WR l x1,rr1,.refl _,by simpa using h,by simp⟩,?_⟩
  rintro i m σ H ⟨ρ1,F',ZL,xs1,k',r',sf,run,rfl⟩
  have J2:=J1 i F' H sf k'.sub
  generalize e1:ds.drop i=bF at run
  cases run with
  |nil=>
   have hl:ds.length<=i:=by
    have:=bv List.length e1
    rw[cv,gP] at this
    lia
   exact .inl ⟨J2.2 hl,q F' H σ ZL k' r' (x1.sf.trans sf)⟩
  |@cons d0 ds0 _ ρa ρb _ _ xsa _ g bd r=>
   obtain⟨hd,hr,VH⟩:=iC e1
   obtain⟨go,yl⟩:=J2.1 _ hd
   refine .inr ⟨go,fun σ' H'=>∃WC XT,Ok X.K (VJ B p XT) WC H' σ' ρb/\U2 X.K WC XT xsa/\U8 F1 WC,fun σ' H' ⟨WC,XT,YH,r'',XY⟩=>⟨ds.length-(i+1),by lia,_,WC,XT,_,YH,r'',XY,by rw[hr];exact r,rfl⟩,fun x H' y=>?_⟩
   obtain⟨F2,x2,rx⟩:=yl x H' y
   refine g (VJ B p ZL) F2 H' σ x _ (k'.ext x2) rx fun F3 H3 σ3 k3 s3=>bd (VJ B p ZL) F3 H3 σ3 _ ZL ⟨aG,l.fr,(r'.mono x2.sf).mono s3⟩ k3 fun F4 H4 σ4 us4 k4 r4 s4=>⟨F4,us4,?_,r4,sf.trans (x2.sf.trans (s3.trans s4))⟩
   rw[VJ.up] at k4;exact k4))
def LS.lst(S:LS)(q:Addr):LS where
 cs:=S.cs×df
 ds:=S.ds×aU
 ov c a:=match S.ov c.1 a with
  |some u=>some u
  |none=>if a=q then some (.lst c.2) else none
 dom c c' a h:=by
  cases e:S.ov c.1 a with
  |some u=>rw[e] at h;cases h
  |none=>
   rw[e] at h
   rw[S.dom c.1 c'.1 a e]
   by_cases h1:a=q
   ·have h':(if a=q then some (HO.lst c.2) else none)=none:=h
    rw[au h1] at h';cases h'
   ·show(if a=q then _ else _)=_
    rw[aq h1]
 rep K F c s:=S.rep K F c.1 s.1/\U2 K F c.2 s.2
 mono:=fun sf h=>⟨S.mono sf h.1,h.2.mono sf⟩
section
variable {S:LS}{st:Stmt}{bF:List Stmt}{s s1 s':S.ds}{ds:aU}
def tT{a:Addr}{c:S.cs}(h:S.ov c a=some u):(S.lst q).ov (c,us) a=some u:=by
 show(match S.ov c a with | some u=>some u | none=>if a=q then some (HO.lst us) else none)=some u
 rw[h]
def w5{q:Addr}{c:S.cs}(h:S.ov c q=none):(S.lst q).ov (c,us) q=some (.lst us):=by
 show(match S.ov c q with | some u=>some u | none=>if q=q then some (HO.lst us) else none)=_
 rw[h];exact au rfl
def sH{a:Addr}{q:Addr}{c:S.cs}(h:S.ov c a=none)(hq:a≠q):(S.lst q).ov (c,us) a=none:=by
 show(match S.ov c a with | some u=>some u | none=>if a=q then some (HO.lst us) else none)=none
 rw[h];exact aq hq
def Cn{H:Hp}{q:Addr}{c:S.cs}(hq:H q=some (.lst us))(h0:S.ov c q=none):Vh (S.lst q) ⟨F,H⟩ (c,us)=Vh S ⟨F,H⟩ c:=by
 have:jY ((S.lst q).ov (c,us)) H=jY (S.ov c) H:=funext fun a=>by
  cases e:S.ov c a with
  |some u=>rw[fF (tT e),fF e]
  |none=>
   rw[cS e]
   by_cases h:a=q
   ·subst h;rw[fF (w5 e),hq]
   ·rw[cS (sH e h)]
 show(⟨F,jY ((S.lst q).ov (c,us)) H⟩:B0)=⟨F,jY (S.ov c) H⟩
 rw[this]
def E2{H:Hp}{q:Addr}{c:S.cs}(hc:∀a u,S.ov c a=some u->H a=some u)(h0:S.ov c q=none):Vh (S.lst q) ⟨F,H⟩ (c,us)=VJ ⟨F,H⟩ q us:=by
 have:jY ((S.lst q).ov (c,us)) H=cE H q (.lst us):=funext fun a=>by
  by_cases h:a=q
  ·subst h;rw[fF (w5 h0),aG]
  ·rw[aI h]
   cases e:S.ov c a with
   |some u=>rw[fF (tT e),hc a u e]
   |none=>rw[cS (sH e h)]
 show(⟨F,jY ((S.lst q).ov (c,us)) H⟩:B0)=⟨F,cE H q (.lst us)⟩
 rw[this]
def mi(S:LS)(q:Addr):Prop:=∀c,S.ov c q=none
def Ln.fst{K:bW}(hq:mi S q){c:(S.lst q).cs}{s:(S.lst q).ds}(l:Ln (S.lst q) K B F c s):Ln S K B F c.1 s.1:=⟨fun a u h=>l.st a u (tT h),fun a u h=>l.fr a u (tT h),l.rep.1⟩
def Ln.snd{K:bW}(hq:mi S q){c:(S.lst q).cs}{s:(S.lst q).ds}(l:Ln (S.lst q) K B F c s):Wc K B q F c.2 s.2:=⟨l.st q _ (w5 (hq c.1)),l.fr q _ (w5 (hq c.1)),l.rep.2⟩
def Vg.l(hq:mi S q)(h:Vg S X ρ e d s s'):Vg (S.lst q) X ρ e d (s,xs) (s',xs):=fun B F H σ Q c l k w=>h B F H σ Q c.1 (l.fst hq) k fun v F' H' c' x r rv=>w v F' H' (c',c.2) (by rw[Cn (k.sh _ _ (l.snd hq).st) (hq c')];exact x) ⟨r,l.rep.2.mono x.sf⟩ rv
def OE{X:Cx}(hq:mi S q){c:(S.lst q).cs}(l:Ln (S.lst q) X.K B F c (s,xs))(k:Ok X.K B F H σ ρ)(w:uO (S.lst q) X.K B F E (s',xs) o):uO S X.K B F E s' o\/uO S X.K ⟨F,B.H⟩ F E s' o:=by
 have e:∀c':S.cs,Vh (S.lst q) B (c',c.2)=Vh S B c':=fun c'=>Cn (F:=B.F) (H:=B.H) (l.snd hq).st (hq c')
 cases o with
 |nx ρ'=>exact .inl fun F' H' σ' c' k' r' sf=>w F' H' σ' (c',c.2) (by rw[e];exact k') ⟨r',l.rep.2.mono sf⟩ sf
 |rt d=>exact .inr fun v F' H' c' x' r' rv=>w v F' H' (c',c.2) (by rw[e];exact(k.X5 (l.fst hq)).toExt.Yz x') ⟨r',l.rep.2.mono x'.sf⟩ rv
def Ln.now_{K:bW}{c:S.cs}(l:Ln S K B F c s)(x:Ext B F H):Ln S K ⟨F,B.H⟩ F c s:=⟨l.st,fun a u h=>l.free x h,l.rep⟩
def VA.l(hq:mi S q)(h:VA S X ρ st o s s'):VA (S.lst q) X ρ st o (s,xs) (s',xs):=fun B F H σ E c l k w=>by
 rcases OE hq l k w with z | z
 ·exact h B F H σ E c.1 (l.fst hq) k z
 ·exact h ⟨F,B.H⟩ F H σ E c.1 ((l.fst hq).now_ k.toExt) k.now z
def VF.zl(hq:mi S q)(h:VF X q ρ e d xs xs'):Vg (S.lst q) X ρ e d (s,xs) (s,xs'):=fun B F H σ Q c l k w=>h B F H σ Q c.2 (l.snd hq) k fun v F' H' Wf x r rv=>w v F' H' (c.1,Wf) (by rw[E2 ((l.fst hq).now k) (hq c.1)];exact x) ⟨S.mono x.sf l.rep.1,r⟩ rv
def Xn.zl(hq:mi S q)(h:Xn X q ρ e b xs):VC (S.lst q) X ρ e b (s,xs) (s,xs):=fun B F H σ Q c l k w=>h B F H σ Q c.2 (l.snd hq) k fun F' H' x=>w F' H' c (x.toZ (l.now k)) ((S.lst q).mono x.sf l.rep)
def LF{H:Hp}{q:Addr}{c:S.cs}(hc:∀a u,S.ov c a=some u->H a=some u)(h0:S.ov c q=none):jY ((S.lst q).ov (c,us)) H=cE H q (.lst us):=bv B0.H (E2 (F:=H) (H:=H) hc h0)
def KZ{H:Hp}{q:Addr}{c:S.cs}(h0:S.ov c q=none):Vh (S.lst q) ⟨F,H⟩ (c,us)=VJ (Vh S ⟨F,H⟩ c) q us:=by
 have:jY ((S.lst q).ov (c,us)) H=cE (jY (S.ov c) H) q (.lst us):=funext fun a=>by
  by_cases h:a=q
  ·subst h;rw[fF (w5 h0),aG]
  ·rw[aI h]
   cases e:S.ov c a with
   |some u=>rw[fF (tT e),fF e]
   |none=>rw[cS (sH e h),cS e]
 show(⟨F,jY ((S.lst q).ov (c,us)) H⟩:B0)=⟨F,cE (jY (S.ov c) H) q (.lst us)⟩
 rw[this]
def Ln.apart{K:bW}{q:Addr}{c:S.cs}(l:Ln S K B F c s)(h:B.H q=none):mi S q:=fun c'=>by
 cases e:S.ov c' q with
 |none=>rfl
 |some u=>obtain⟨v,hv⟩:=LS.has e c;rw[l.st q v hv] at h;cases h
def Gv{ρ:cn}{pos:Pos}{apos:Pos}{U7:Pos}(hq:mi S q)(t:At X N sc)(i:Nat)(hr:ρ[i]?=some (.val (.adr q)))(he:Vg (S.lst q) X ρ e d (s,xs) (s1,xs1))(hz:xs1.length<sizeLine)(hN:N[i]?=some x:=by rfl)(hv:dW sc x=true:=by rfl)(hx:cm x=true:=by rfl)(hb2:attributeBase (.Name x py) "append" X.env (eval (.Name x py) X.env)=eval (.Name x py) X.env:=by rfl)(hs:Ci e [] X.env:=by rfl)(Vk:(apos.endLine==U7.line)=true:=by rfl)(WZ:rM U7 [] X.env:=by rfl)(Wh:Cj U7 [e] X.env:=by rfl)(Xl:swapsWith (.Call (.Attribute (.Name x py) "append" apos) [e] [] U7) none pos.line X.env=pure false:=by rfl):
  VA (S.lst q) X ρ (.Expr (.Call (.Attribute (.Name x py) "append" apos) [e] [] U7) pos) (.nx ρ) (s,xs) (s1,xs1++[d]):=fun B F H σ E c l k w=>.mk fun pins st I=>
 gZ (uI bV jJ jI l8 aN (bw aN cK hs) hb2 Wh Vk hs WZ) Xl pins st σ H E I
  (xM t hr hN hv hx k ⟨.inl ⟨rfl,_,VE.of (k.sh _ _ (l.snd hq).st)⟩,he B F H σ _ c l k fun v F1 H1 c1 x1 r1 rv=>by
   have k1:=k.Wa l x1
   have l1:Ln (S.lst q) X.K (Vh (S.lst q) B c1) F1 c1 (s1,xs1):=l.up r1
   refine⟨q,c1.2,v,rfl,rfl,l1.now k1 _ _ (w5 (hq c1.1)),by rw[r1.2.length];exact hz,?_⟩
   have k2:Ok X.K (Vh (S.lst q) (Vh (S.lst q) B c1) (c1.1,c1.2++[v])) F1 (jY ((S.lst q).ov (c1.1,c1.2++[v])) H1) σ ρ:=k1.X5 l1
   have e1:Vh (S.lst q) (Vh (S.lst q) B c1) (c1.1,c1.2++[v])=Vh (S.lst q) B (c1.1,c1.2++[v]):=Vh.up (S:=S.lst q)
   rw[e1,LF ((l1.fst hq).now k1) (hq c1.1)] at k2
   exact w F1 _ σ (c1.1,c1.2++[v]) k2 ⟨r1.1,r1.2.append (.cons rv .nil)⟩ x1.sf⟩)
def vf{r:Bool}{ρ:cn}(t:At X N sc)(i:Nat)(hr:ρ[i]?=some (.val (.adr q)))(sh:SeqAt.shaped (PyData.list (Vb xs))=true)(he:r = !xs.isEmpty)(hN:N[i]?=some x:=by rfl)(hv:dW sc x=true:=by rfl)(hx:cm x=true:=by rfl):
  Xn X q ρ (.Compare (.Name x py) [.NotEq] [.List [] p3] pos) r xs:=fun B F H σ Q us l k w=>.mk fun pins s I=>by
 refine eg (Iy t (p:=.list (Vb xs)) (q:=.list []) sh rfl) aN aN (cT _ (by decide) (by decide)) pins s σ H Q I ?_
 refine xM t hr hN hv hx k ?_
 refine(bb (X:=X) (ρ:=ρ) af).toQ.p B F H σ _ k fun v F' H' x' rd=>?_
 refine⟨fun hc H2 s2 pins σ s u I ru=>?_,rd,r,?_,w F' H' x'⟩
 ·cases(show u=Value.ref q from ru)
  exact Yp.reads (k:=true) I (x'.sub.trans s2) (show VE _ _ _ _ from VE.of (s2 _ _ (x'.sh _ _ (k.sh _ _ l.st)))) (l.rep.mono x'.sf) hc
 ·subst he
  cases xs with
  |nil=>rfl
  |cons n ns=>rfl
def AJ{pos:Pos}(t:At X N sc)(h:Vg S X ρ e d s s')(hg:Xy X ρ tg d ρ')(hs:swapsWithSole [tg] e pos.line X.env=pure false:=by rfl)(hw:swappedStores [tg] e (dE sc)=pure none:=by rfl)(h1:(assignEach [tg] X.env).map (·.2)=[assign tg X.env]:=by rfl):VA S X ρ (.Assign [tg] e pos) (.nx ρ') s s':=fun B F H σ E c l k w=>.mk fun pins st I=>
 DW aN D1 hs ((rP (show X.env.scope=(dE sc).scope from t.eS)).trans hw) h1 pins st σ H E I (h B F H σ _ c l k fun v F1 H1 c1 x1 r1 rv=>hg (Vh S B c1) F1 H1 σ v _ (k.Wa l x1) rv fun F2 H2 σ2 k2 s2=>w F2 H2 σ2 c1 k2 (S.mono s2 r1) (x1.sf.trans s2))
def KW{ρ:cn}[XI X](t:At X N sc)(i:Nat)(hr:ρ[i]?=some (.val (.str z)))(h:Vg S X ρ e (.str w) s s')(hz:z.length+w.length<=sizeLine)(hi:N[i]?=some x:=by rfl)(hx:mW sc x=true:=by rfl):
  VA S X ρ (.AugAssign (.Name x pos') .Add e pos) (.nx (ρ.set i (.val (.str (z++w))))) s s':=fun B F H σ E c l k q=>.mk fun pins st I=>
 IF (i:=i) t.nd (t.ix hi) (t.loc hx) aN (show Rx X .Add _ from CV) GZ pins st σ H E I (by
  obtain⟨v,h1,h2⟩:=k.vals i _ hr
  cases h2
  exact⟨_,h1,h B F H σ _ c l k fun v F' H' c1 x' r rv=>by
   cases rv
   exact⟨z,w,rfl,rfl,hz,q F' H' _ c1 ((k.Wa l x').Vx i (.str _)) r x'.sf⟩⟩)
def Bp(ha:Vg S X ρ a (.str z) s s1)(hb:Vg S X ρ b (.str w) s1 s')(hz:z.length+w.length<=sizeLine):Vg S X ρ (.BinOp a .Add b pos) (.str (z++w)) s s':=fun B F H σ Q c l k q=>.mk fun pins st I=>
 l5 qV aN aN pins st σ H Q I (Gw ha hb l k fun x y F' H' c' x' r' rx ry=>by
  cases rx;cases ry
  exact⟨z,w,rfl,rfl,hz,q _ F' H' c' x' r' (.str _)⟩)
end
section
variable {ds:aU}{s s1 s':Int×aU}
def qb{ρ:cn}{pos:Pos}{apos:Pos}{U7:Pos}(t:At X N sc)(ok:li X.K r)(i:Nat)(hr:ρ[i]?=some (.val (.adr r.p)))(he:Vg (Vd r) X ρ e (.lst ys) s s1)(hz:s1.2.length+ys.length<=sizeLine)(hN:N[i]?=some x:=by rfl)(hv:dW sc x=true:=by rfl)(hx:cm x=true:=by rfl)(hb:attributeBase (.Name x py) "steps" X.env (eval (.Name x py) X.env)=eval (.Name x py) X.env:=by rfl)(hb2:attributeBase (.Attribute (.Name x py) "steps" ps) "extend" X.env (eval (.Attribute (.Name x py) "steps" ps) X.env)=eval (.Attribute (.Name x py) "steps" ps) X.env:=by rfl)(hs:Ci e [] X.env:=by rfl)(Vk:(apos.endLine==U7.line)=true:=by rfl)(WZ:rM U7 [] X.env:=by rfl)(Wh:Cj U7 [e] X.env:=by rfl)(Xl:swapsWith (.Call (.Attribute (.Attribute (.Name x py) "steps" ps) "extend" apos) [e] [] U7) none pos.line X.env=pure false:=by rfl):
  VA (Vd r) X ρ (.Expr (.Call (.Attribute (.Attribute (.Name x py) "steps" ps) "extend" apos) [e] [] U7) pos) (.nx ρ) s (s1.1,s1.2++ys):=fun B F H σ E c l k w=>.mk fun pins st I=>
 gZ (uI bV RK RJ Au (wQ aN hb) (bw aN cK hs) hb2 Wh Vk hs WZ) Xl pins st σ H E I
  (Hf t hr hN hv hx k ⟨r.p,r.C,r.dx,_,.ref r.q,rfl,l.now k _ _ Vd.YV,ok.cls,ok.n3,rfl,.inl ⟨rfl,_,VE.of (l.now k _ _ (Vd.Y5 ok.ne))⟩,he B F H σ _ c l k fun v F1 H1 c1 x1 r1 rv=>by
   have k1:=k.Wa l x1
   have l1:Ln (Vd r) X.K (Vh (Vd r) B c1) F1 c1 s1:=l.up r1
   cases rv with
   |@lst b ws _ hf rl=>
   refine⟨r.q,b,c1.2,ws,rfl,rfl,l1.now k1 _ _ (Vd.Y5 ok.ne),x1.sub _ _ hf,by rw[r1.2.1.length,rl.length];exact hz,?_⟩
   have k2:Ok X.K (Vh (Vd r) (Vh (Vd r) B c1) (c1.1,c1.2++ws)) F1 (jY ((Vd r).ov (c1.1,c1.2++ws)) H1) σ ρ:=k1.X5 l1
   have e1:Vh (Vd r) (Vh (Vd r) B c1) (c1.1,c1.2++ws)=Vh (Vd r) B (c1.1,c1.2++ws):=Vh.up (S:=Vd r)
   rw[e1,IR (c:=c1) (c':=(c1.1,c1.2++ws)) ok.ne (l1.now k1) rfl] at k2
   exact w F1 _ σ (c1.1,c1.2++ws) k2 ⟨r1.1,r1.2.1.append rl,r1.2.2⟩ x1.sf⟩)
def La(K:bW)(C:ce->Int×aU->aU->D->Int×aU->aU->Prop):Sp:=fun vs H Q _=>∃(r:tx) (q:Addr) (F:Hp) (d:D) (c:((Vd r).lst q).cs) (s s':Int×aU) (xs xs':aU),U8 F H/\li K r/\mi (Vd r) q/\(∀a u,((Vd r).lst q).ov c a=some u->H a=some u)/\(∀a u,((Vd r).lst q).ov c a=some u->F a=none)/\((Vd r).lst q).rep K F c (s,xs)/\U2 K F vs [.adr r.p,.adr q]/\C r.toks s xs d s' xs' /\
 ∀v F' H' c',Ext (Vh ((Vd r).lst q) ⟨F,H⟩ c') F' H'->((Vd r).lst q).rep K F' c' (s',xs')->Rep K F' v d->Q v H'
def WX(X:Cx)(x:Str)(C:ce->Int×aU->aU->D->Int×aU->aU->Prop):Prop:=∃(f:Addr) (fd:FuncData) (ps:ce) (k:Nat),dO X.prog X.w X.K X.mg X.base gN k f fd ps (La X.K C)/\Vz k X.A/\X.mg x=some (.ref f)/\PySem.W.keepIn X.K (.ref f)=true/\Binds X.K fd ps []
def L5{P:Program}(VO:P.given.tree=none){w:World}{K:bW}{mg:ux}{base:Heap}{x qual:Str}{st:Stmt}{f:Addr}{fd:FuncData}{N ps:ce}{k:Nat}{C:ce->Int×aU->aU->D->Int×aU->aU->Prop}(F:X8 K x qual st f fd)(S:aK N ps (ai st))(len:2=ps.length)(body:∀X,DefX P w K mg base k N (ai st) X->∀(r:tx) (q:Addr),li X.K r->mi (Vd r) q->∀s xs d s' xs',C r.toks s xs d s' xs'->Wd ((Vd r).lst q) X (.val (.adr r.p) :: .val (.adr q)::List.replicate (N.length-2) Sl.un) (bE st) (.rt d) (s,xs) (s',xs')):dO P w K mg base gN (k+1) f fd ps (La K C):=by
 refine F.ok S (fun vs H Q E h=>?_) (fun VG A outer s H vs Q E hr h=>?_)
 ·obtain⟨r,q,F',d,c,s,s',xs,xs',sub,ok,ap,h1,h2,h3,rv,hC,g⟩:=h
  rw[rv.length];exact len
 ·obtain⟨r,q,F',d,c,s1,s',xs,xs',sub,ok,ap,h1,h2,h3,rv,hC,g⟩:=h
  refine⟨_,cQ,?_⟩
  have hx:DefX P w K mg base k N (ai st) (q8 gN P w K mg base N qual (ai st) f VG A outer s H E).XC:=
   ⟨⟨rfl,rfl,rfl,S.nd,rfl,hr.units,hr.WS,VO,⟨_,_,rfl,S.gen,S.co,rfl,rfl⟩⟩,rfl,rfl,rfl,rfl,rfl,hr,⟨fun _=>rfl⟩,rfl,rfl⟩
  have hk:Ok K ⟨F',H⟩ F' H (start N vs) ([.adr r.p,.adr q].map Sl.val++List.replicate (N.length-2) Sl.un):=by
   unfold start
   rw[rv.length]
   exact i8 sub rv _
  exact body _ hx r q ok ap s1 xs d s' xs' hC ⟨F',H⟩ F' H _ _ c ⟨h1,h2,h3⟩ hk fun v F2 H2 c2 x2 r2 rv=>g v F2 H2 c2 x2 r2 rv
def DefX.YS{K:bW}{x:Str}{C:ce->Int×aU->aU->D->Int×aU->aU->Prop}(h:DefX P w K mg base k N sc X)(F:dO P w K mg base gN j f fd ps (La K C))(hj:j<=k)(hm:mg x=some (.ref f))(hk:PySem.W.keepIn K (.ref f)=true)(hb:Binds K fd ps []):WX X x C:=by
 obtain⟨h0,rfl,rfl,rfl,rfl,rfl,hr,_⟩:=h
 exact⟨f,fd,ps,j,F,hr.mono hj,hm,hk,hb⟩
def zw{pos:Pos}[XI X](t:At X N sc)(ok:li X.K r){C:ce->Int×aU->aU->D->Int×aU->aU->Prop}(h:WX X x C)(i j:Nat)(ha:U1 X ρ e0 (.adr r.p))(hr:ρ[i]?=some (.own xs))(hC:C r.toks s xs d s' xs')(hN:N[i]?=some z:=by rfl)(hv:dW sc z=true:=by rfl)(hx:cm z=true:=by rfl)(hj:N[j]?=some y:=by rfl)(hy:mW sc y=true:=by rfl)(hg:ve sc x:=by rfl)(VW:qA x:=by rfl)(hs:Pl (.Name z pz):=by intro _ _;rfl)(he:Pl e0:=by intro _ _;rfl)(Xl:swapsWith (.Call (.Name x p) [e0,.Name z pz] [] U7) (some (.Name y pos')) pos.line X.env=pure false:=by rfl):
  VA (Vd r) X ρ (.Assign [.Name y pos'] (.Call (.Name x p) [e0,.Name z pz] [] U7) pos) (.nx ((ρ.set i (.own xs')).set j (.val d))) s s':=fun B F0 H σ E c l k w=>.mk fun pins st I=>by
 obtain⟨f,fd,ps,kk,F,X1,hm,hk,hb⟩:=h
 have pz':fW gN X E0:=oN
 refine oK (i:=j) t.nd (t.ix hj) (t.loc hy) (iR F X1 (dj t hg) hm hk hb .nil pz' (bw aN (bw aN cK (hs _ _)) (he _ _)) VW (he _ _) (by unfold rM;rw[hs];rfl)) Xl GZ pins st σ H E I ?_
 refine ha B F0 H σ _ k fun v0 F1 H1 x1 rv1=>?_
 have k1:=k.ext x1
 have l1:Ln (Vd r) X.K B F1 c s:=l.ext x1
 refine oP t hr hN hv hx k1 fun a us h1 h2 h3=>?_
 obtain⟨a',Wf,o1,o2,o3,o4,o5⟩:=k1.VT i xs hr
 rw[h1] at o1
 cases o1
 have ap:mi (Vd r) a:=l1.apart o4
 refine⟨r,a,F1,d,(c,us),s,s',xs,xs',k1.sub,ok,ap,fun b u hb=>?_,fun b u hb=>?_,⟨l1.rep,h3⟩,?_,hC,fun v F2 H2 c2 x2 r2 rv=>?_⟩
 ·by_cases hba:b=a
  ·subst hba
   rw[w5 (ap c)] at hb
   cases hb;exact h2
  ·cases e:(Vd r).ov c b with
   |some u'=>rw[tT e] at hb;cases hb;exact l1.now k1 _ _ e
   |none=>rw[sH e hba] at hb;cases hb
 ·by_cases hba:b=a
  ·subst hba;exact o3
  ·cases e:(Vd r).ov c b with
   |some u'=>exact l1.ff k1 _ _ e
   |none=>rw[sH e hba] at hb;cases hb
 ·exact .cons rv1 (.cons (.adr a) .nil)
 ·have x2:Ext (VJ (Vh (Vd r) ⟨F1,H1⟩ c2.1) a c2.2) F2 H2:=(KZ (S:=Vd r) (F:=F1) (H:=H1) (us:=c2.2) (ap c2.1)) ▸ x2
  have k2:Ok X.K (Vh (Vd r) B c2.1) F1 (jY ((Vd r).ov c2.1) H1) σ ρ:=k1.X5 l1
  have k3:=k2.back hr h1 x2 r2.2
  exact w F2 H2 _ c2.1 (k3.Vx j rv) r2.1 (x1.sf.trans x2.sf)
end
inductive V6(S:LS)(X:Cx)(cd:Expr)(body:List Stmt):Nat->cn->S.ds->Out->S.ds->Prop where
 |stop {ρ:cn} {s s1:S.ds}:VC S X ρ cd false s s1->V6 S X cd body 0 ρ s (.nx ρ) s1
 |ret {ρ:cn} {s s1 s2:S.ds} {d:D}:VC S X ρ cd true s s1->Wd S X ρ body (.rt d) s1 s2->V6 S X cd body 0 ρ s (.rt d) s2
 |step {n:Nat} {ρ ρ1:cn} {o:Out} {s s1 s2 s3:S.ds}:VC S X ρ cd true s s1->Wd S X ρ body (.nx ρ1) s1 s2->V6 S X cd body n ρ1 s2 o s3->V6 S X cd body (n+1) ρ s o s3
section
variable {S:LS}{s s':S.ds}
def zu(t:At X N sc)(h:∃n,V6 S X cd body n ρ s o s'):VA S X ρ (.While cd body [] pos) o s s':=fun B F H σ E c l k q=>.mk fun pins w I=>
 wF t.pass kz cQ pins w σ H E I (by
  obtain⟨n,h⟩:=h
  refine⟨fun m σ H=>∃ρ1 F1 c1 s1,Ok X.K (Vh S B c1) F1 H σ ρ1/\S.rep X.K F1 c1 s1/\U8 F F1/\V6 S X cd body m ρ1 s1 o s',⟨n,ρ,F,c,s,by rw[Vh.same l.st];exact k,l.rep,.refl _,h⟩,?_⟩
  rintro m σ H ⟨ρ1,F1,c1,s1,k1,r1,sf,run⟩
  have l1:Ln S X.K (Vh S B c1) F1 c1 s1:=l.up r1
  cases run with
  |stop hc=>
   refine hc (Vh S B c1) F1 H σ _ c1 l1 k1 fun F2 H2 c2 x2 r2=>?_
   rw[aq av]
   have k2:=k1.Wa l1 x2
   rw[Vh.up] at k2
   exact q F2 H2 σ c2 k2 r2 (sf.trans x2.sf)
  |@ret _ _ sa _ d hc hb=>
   refine hc (Vh S B c1) F1 H σ _ c1 l1 k1 fun F2 H2 c2 x2 r2=>?_
   rw[au rfl]
   have k2:=k1.Wa l1 x2
   rw[Vh.up] at k2
   refine⟨fun σ' H'=>False,fun σ' H' h=>h.elim,hb (Vh S B c2) F2 H2 σ _ c2 (l.up r2) k2 fun v F3 H3 c3 x3 r3 rv=>?_⟩
   rw[Vh.up] at x3
   exact q v F3 H3 c3 x3 r3 rv
  |@step n0 _ ρa _ _ sa sb _ hc hb r=>
   refine hc (Vh S B c1) F1 H σ _ c1 l1 k1 fun F2 H2 c2 x2 r2=>?_
   rw[au rfl]
   have k2:=k1.Wa l1 x2
   rw[Vh.up] at k2
   refine⟨fun σ' H'=>∃WC Zx,Ok X.K (Vh S B Zx) WC H' σ' ρa/\S.rep X.K WC Zx sb/\U8 F WC,fun σ' H' ⟨WC,Zx,YH,r'',XY⟩=>⟨_,eL _,_,WC,Zx,_,YH,r'',XY,r⟩,hb (Vh S B c2) F2 H2 σ _ c2 (l.up r2) k2 fun F3 H3 σ3 c3 k3 r3 s3=>⟨F3,c3,?_,r3,sf.trans (x2.sf.trans s3)⟩⟩
   rw[Vh.up] at k3;exact k3)
end
structure B4(P:Program)(w:World)(K:bW)(a:Addr)(kvs:List (Str×Addr))(ep:Nat):Prop where
 lo:(a==sysModules)=false
 at':∀h:Heap,K.In h->h.DictAt (gu P w) a (kvs.map fun p=>((Sum.inr p.1:tz),Value.ref p.2)) ep
section
variable {ds:aU}{kvs:List (Str×Addr)}
abbrev tY(kvs:List (Str×Addr)):List (tz×Value):=kvs.map fun p=>((Sum.inr p.1:tz),Value.ref p.2)
def Ol{X:Cx}(g:B4 X.prog X.w X.K q kvs ep):lP X (compareOp .In) (fun x y H Q=>∃k,x=.str k/\y=.ref q/\Q (.bl (valueAt (tY kvs) (Sum.inr k)).isSome) H):=by
 intro pins s σ H x y v u Q I rx ry h
 obtain⟨k,rfl,rfl,z⟩:=h
 obtain⟨t,rfl⟩:=rx
 cases ry
 exact wpAny_in_of (knd:=gu X.prog X.w) (k:=Sum.inr k) (qd k t) g.lo (g.at' _ I.WM).dictOf.mapOf ⟨.bl _,H,I.tok _,rfl,z⟩
def xu{r:Bool}{x:Str}(t:At X N sc)(g:B4 X.prog X.w X.K q kvs ep)(ha:U1 X ρ a (.str k))(hm:X.mg x=some (.ref q))(he:(valueAt (tY kvs) (Sum.inr k)).isSome=r)(hg:ve sc x:=by rfl)(VW:qA x:=by rfl)(hb:behindInMarks .In (.Name x py)=false:=by rfl):U3 X ρ (.Compare a [.In] [.Name x py] pos) r:=
 .of (eg (Ol g) aN aN hb) fun B F H σ Q k' w=>two ha (xo t hm hg VW) k' fun u v F' H' x' ru rv=>by
  cases ru;cases rv
  exact⟨k,rfl,rfl,_,rfl,by rw[he];exact w F' H' x'⟩
def ON{X:Cx}(g:B4 X.prog X.w X.K q kvs ep):RA X (fun x y H Q=>∃k l,x=.ref q/\y=.str k/\valueAt (tY kvs) (Sum.inr k)=some (.ref l)/\Q (.ref l) H):=by
 intro value slice pins s σ H x y v u Q I rx ry h hs
 obtain⟨k,l,rfl,rfl,hv,z⟩:=h
 cases rx
 obtain⟨t,rfl⟩:=ry
 have dd:=g.at' _ I.WM
 exact jt (x:=.ref l) dd.dictOf.typeIs PySem.F.slot_dict_getitem.lookup
  (wpAny_getItem_of (knd:=gu X.prog X.w) (Q:=fun r s'=>r=.ref l/\EP X pins σ Q r s') (k:=Sum.inr k) (qd k t) dd.dictOf.mapOf hv ⟨rfl,.ref l,H,I.tok _,rfl,z⟩) hs
def O7{x:Str}(t:At X N sc)(g:B4 X.prog X.w X.K q kvs ep)(ha:U1 X ρ a (.str k))(hm:X.mg x=some (.ref q))(he:valueAt (tY kvs) (Sum.inr k)=some (.ref l))(hg:ve sc x:=by rfl)(VW:qA x:=by rfl)(hs:k8 a:=by intro _ _;rfl):U1 X ρ (.Subscript (.Name x py) a pos) (.adr l):=
 .of (CB (ON g) aN aN hs) fun B F H σ Q k' w=>two (xo t hm hg VW) ha k' fun u v F' H' x' ru rv=>by
  cases ru;cases rv
  exact⟨k,l,rfl,rfl,he,w _ F' H' x' (.adr l)⟩
def z4:∀(kvs:List (Str×Addr)) (us:fR),us.length=kvs.length->(∀(j:Nat) (v:Value),us[j]?=some v->∃k x,(tY kvs)[j]?=some (k,x)/\Ax k v=true)->Vals (kvs.map fun p=>V.str p.1) us
 |[],[],_,_=>.nil
 |p::kvs,u::us,hl,h=>by
  obtain⟨k,x,e,hk⟩:=h 0 u rfl
  cases e
  rcases dA hk with⟨i,t,e,_⟩ | ⟨z,t,e,rfl⟩
  ·cases e
  ·cases e
   exact .cons ⟨t,rfl⟩ (z4 kvs us (by simpa using hl) fun j v hj=>h (j+1) v hj)
 |[],u::us,hl,_=>by simp at hl
 |p::kvs,[],hl,_=>by simp at hl
def y7{X:Cx}(g:B4 X.prog X.w X.K q kvs ep)(hc:X.calm=true)(hz:kvs.length<=sizeLine):gn X (.type "list") (fun xs H Q=>xs=[.ref q]/\∀l,H l=none->Q (.ref l) (cE H l (.lst (kvs.map fun p=>V.str p.1)))):=by
 intro pins s σ H xs us Q I r h
 obtain⟨rfl,z⟩:=h
 obtain⟨u,rfl,rx⟩:=iW r
 cases rx
 have dd:=g.at' _ I.WM
 have hl:(tY kvs).length=kvs.length:=ag _
 refine PySem.W.kdl_call (PySem.W.kdl_dict (knd:=gu X.prog X.w) g.lo) (I.ok.hd hc) dd (by rw[hl];exact hz) fun h' tk YW c' kp e Zp=>?_
 refine⟨.ref s.heap.objs.size,_,I.laid (t':=tk) (o:=.lst (kvs.map fun p=>V.str p.1)) kp (aj _) (show Ve X.prog X.w _ h' _ (.lst _) from⟨by rw[ag];exact hz,YW.toList,c',?_,by simpa using e⟩),rfl,z _ (I.Vl.fresh (aj _))⟩
 exact z4 kvs YW.toList (by rw[bX,Zp.1,hl]) fun j v e=>Zp.2 j v (by rw[<-Array.getElem?_toList];exact e)
def JZ{x:Str}(t:At X N sc)(g:B4 X.prog X.w X.K q kvs ep)(bl:m8 X sc y (.type "list"))(hm:X.mg x=some (.ref q))(hz:kvs.length<=sizeLine)(hg:ve sc x:=by rfl)(VW:qA x:=by rfl)(Wq:Pl (.Name x py):=by intro _ _;rfl):
  U9 X ρ (.Call (.Name y p) [.Name x py] [] pos) (kvs.map fun p=>D.str p.1):=
 .of (jM (y7 g t.calm hz) (dj t bl.g) bl.m bl.v (bw aN cK (Wq _ _)) bl.n bl.d (Wq _ _) rfl) fun B F H σ Q k' w=>(xo t hm hg VW) B F H σ _ k' fun v F' H' x' r=>by
  cases r
  refine⟨rfl,fun p hp=>?_⟩
  have rl:∀kvs:List (Str×Addr),U2 X.K F' (kvs.map fun p=>V.str p.1) (kvs.map fun p=>D.str p.1):=fun kvs=>by
   induction kvs with
   |nil=>exact .nil
   |cons p kvs ih=>exact .cons (.str _) ih
  exact w p _ F' _ ⟨x'.sub.trans (aL hp),x'.sh.trans (aL hp),x'.sf,x'.nw⟩ (x'.sh.free hp) aG (x'.sub.free hp) (rl kvs)
def WB(K:bW)(l:Addr)(ns:aS):Prop:=∃(o:Obj) (its:Array Value) (n:Nat),K.lookup l=some o/\o.cls=.type "tuple" /\ o.data=.seq its n/\its.size<=sizeLine/\Vals (ns.map V.int) its.toList
def WB.sq{K:bW}(g:WB K l ns)(H:Hp):VV K H l (ns.map V.int):=.inr g
def Rb(h:U1 X ρ e (.adr l))(g:WB X.K l ns):YX X ρ tg e (ns.map D.int):=.of (IJ aN) fun B F H σ R k w=>h B F H σ _ k fun v F' H' x r=>by
 cases r
 exact⟨_,rfl,⟨_,g.sq H'⟩,w _ F' H' x (Js (fun H2 s2=>g.sq H2) (U2.ints ns))⟩
def OS{X:Cx}(g:WB X.K l ns)(hk:PySem.W.kitOne X.K (.type "tuple") (.type T)=some k):
  gn X (.builtin "isinstance") (fun xs H Q=>xs=[.ref l,.ty T]/\Q (.bl k) H):=by
 intro pins s σ H xs us Q I r h
 obtain⟨rfl,z⟩:=h
 obtain⟨u,w,rfl,ru,WH⟩:=z6 r
 cases(show w=Value.type T from WH)
 cases(show u=Value.ref l from ru)
 obtain⟨o,its,n,h1,h2,h3,h4,h5⟩:=g
 exact cq PySem.W.kitx_tuple I.WM ⟨o,I.WM _ _ h1,h2⟩ hk (fun z=>nomatch z) fun tk=>⟨.bl k,H,I.tok tk,rfl,z⟩
def Mc(t:At X N sc)(g:WB X.K l ns)(bl:m8 X sc x (.builtin "isinstance"))(bt:m8 X sc y (.type T))(ha:U1 X ρ a (.adr l))(hk:PySem.W.kitOne X.K (.type "tuple") (.type T)=some k)(hpa:Pl a:=by intro _ _;rfl):
  U1 X ρ (.Call (.Name x p) [a,.Name y py] [] pos) (.bl k):=
 .of (jX (OS g hk) (dj t bl.g) bl.m bl.v (bw aN (bw (A3 (v:=.ty T) (dj t bt.g) bt.m bt.v rfl bt.n bt.d) cK) (hpa _ _)) bl.n bl.d (hpa _ _) rfl) fun B F H σ Q k' w=>
  ha B F H σ _ k' fun v F' H' x' r=>by
   cases r
   exact⟨rfl,w _ F' H' x' (.bl k)⟩
def GR:Rz X "str.startswith" (fun v vs H Q=>∃(z w:Str),v=.str z/\vs=[.str w]/\Q (.bl (Txt.startswith z w)) H):=by
 intro pins s σ H v vs u us Q I rv Zd h
 obtain⟨z,w,rfl,rfl,q⟩:=h
 obtain⟨t,rfl⟩:=rv
 obtain⟨u2,rfl,⟨t2,rfl⟩⟩:=iW Zd
 exact PySem.SC.startswith ⟨.bl _,H,I,rfl,q⟩
def qh{r:Bool}{apos:Pos}(ho:U1 X ρ a (.str z))(ha:U1 X ρ e (.str w))(hi:Txt.startswith z w=r)(hs:Pl e:=by intro _ _;rfl)(Wu:attributeBase a "startswith" X.env (eval a X.env)=eval a X.env:=by rfl)(Wh:Cj U7 [e] X.env:=by rfl)(Vk:(apos.endLine==U7.line)=true:=by rfl):
  U1 X ρ (.Call (.Attribute a "startswith" apos) [e] [] U7) (.bl r):=
 .of (uI xS PySem.F.slot_str_startswith PySem.F.type_str_startswith GR aN (bw aN cK (hs _ _)) Wu Wh Vk (hs _ _) rfl) fun B F H σ Q k q=>
  ho B F H σ _ k fun v F1 H1 x1 r1=>by
   cases r1
   refine⟨rfl,ha B F1 H1 σ _ (k.ext x1) fun v2 F2 H2 x2 r2=>?_⟩
   cases r2;subst hi
   exact⟨z,w,rfl,rfl,q _ F2 H2 (x1.t x2) (.bl _)⟩
def uf(z w:Str):ce:=Builtin.Str.partsBetween z (Builtin.Str.occurrences z w 0 z.length (z.length+1)) w.length
structure KF(z w:Str):Prop where
 h1:(decide (z.length<w.length)||decide (Builtin.Str.strKind z<Builtin.Str.strKind w))=false
 h2:(w.length==0)=false
 h3:(Builtin.Str.occurrences z w 0 z.length (z.length+1)).isEmpty=false
 h4:z.length<=sizeLine
 h5:(uf z w).length<=sizeLine
def zy:∀(ps:ce) (n:Nat),Vals (ps.map V.str) (strsFrom n ps)
 |[],_=>.nil
 |p::ps,n=>.cons ⟨_,rfl⟩ (zy ps (n+1))
def Ja:Rz X "str.split" (fun v vs H Q=>∃(z w:Str),v=.str z/\vs=[.str w]/\KF z w/\∀l,H l=none->Q (.ref l) (cE H l (.lst ((uf z w).map V.str)))):=by
 intro pins s σ H v vs u us Q I rv Zd h
 obtain⟨z,w,rfl,rfl,ok,q⟩:=h
 obtain⟨t,rfl⟩:=rv
 obtain⟨u2,rfl,⟨t2,rfl⟩⟩:=iW Zd
 refine ml T6 (UL _ _ _) PySem.F.entry_str_split (PySem.F.args_str_split_2 _ _) (meets_str_split_sep z w t t2 ok.h1 ok.h2 ok.h3 ok.h4 ok.h5) ?_
 exact⟨.ref s.heap.objs.size,_,I.laid (o:=.lst ((uf z w).map V.str)) (fun b o e=>Heap.get?_push_of_some _ e) (aj _) (show Ve X.prog X.w _ _ _ (.lst _) from⟨by rw[ag];exact ok.h5,_,_,zy _ _,Heap.get?_push_size _ rfl⟩),rfl,q _ (I.Vl.fresh (aj _))⟩
def JX{apos:Pos}(ho:U1 X ρ a (.str z))(ha:U1 X ρ e (.str w))(ok:KF z w)(hs:Pl e:=by intro _ _;rfl)(Wu:attributeBase a "split" X.env (eval a X.env)=eval a X.env:=by rfl)(Wh:Cj U7 [e] X.env:=by rfl)(Vk:(apos.endLine==U7.line)=true:=by rfl):
  U9 X ρ (.Call (.Attribute a "split" apos) [e] [] U7) ((uf z w).map D.str):=
 .of (uI xS T6 PySem.F.type_str_split Ja aN (bw aN cK (hs _ _)) Wu Wh Vk (hs _ _) rfl) fun B F H σ Q k q=>
  ho B F H σ _ k fun v F1 H1 x1 r1=>by
   cases r1
   refine⟨rfl,ha B F1 H1 σ _ (k.ext x1) fun v2 F2 H2 x2 r2=>?_⟩
   cases r2
   have x':=x1.t x2
   have rl:∀ps:ce,U2 X.K F2 (ps.map V.str) (ps.map D.str):=fun ps=>by
    induction ps with
    |nil=>exact .nil
    |cons p ps ih=>exact .cons (.str _) ih
   exact⟨z,w,rfl,rfl,ok,fun p hp=>q p _ F2 _ ⟨x'.sub.trans (aL hp),x'.sh.trans (aL hp),x'.sf,x'.nw⟩ (x'.sh.free hp) aG (x'.sub.free hp) (rl _)⟩
def Jf{ρ:cn}{pos:Pos}(t:At X N sc){C:D->aU->aU->Prop}(h:We X x C)(i:Nat)(hr:ρ[i]?=some (.val (.adr q)))(ha:U1 X ρ e d0)(hC:C d0 xs xs')(hN:N[i]?=some y:=by rfl)(hv:dW sc y=true:=by rfl)(hx:cm y=true:=by rfl)(hg:ve sc x:=by rfl)(VW:qA x:=by rfl)(hs:Pl (.Name y py):=by intro _ _;rfl)(he:Pl e:=by intro _ _;rfl)(Xl:swapsWith (.Call (.Name x p) [e,.Name y py] [] U7) none pos.line X.env=pure false:=by rfl):
  qv X q ρ (.Expr (.Call (.Name x p) [e,.Name y py] [] U7) pos) (.nx ρ) xs xs':=fun B F0 H σ E us l0 k w=>.mk fun pins st I=>by
 obtain⟨f,fd,ps,kk,F,X1,hm,hk,hb⟩:=h
 have pz:fW gN X E0:=oN
 refine gZ (iR F X1 (dj t hg) hm hk hb .nil pz (bw aN (bw aN cK (hs _ _)) (he _ _)) VW (he _ _) (by unfold rM;rw[hs];rfl)) Xl pins st σ H E I ?_
 refine ha B F0 H σ _ k fun v0 F1 H1 x1 r1=>?_
 have k1:=k.ext x1
 have l1:Wc X.K B q F1 us xs:=l0.ext x1
 refine xM t hr hN hv hx k1 ?_
 refine⟨q,F1,d0,us,xs,xs',k1.sub,k1.sh _ _ l1.st,l1.ff k1,l1.rep,.cons r1 (.cons (.adr q) .nil),hC,fun v F2 H2 XT x2 r2 rv=>w F2 H2 σ XT (k1.WR l1 x2) r2 (x1.sf.trans x2.sf)⟩
end
abbrev UU:=List (aS×Addr×Value)
abbrev UV:=List (aS×Str)
structure Kd(K:bW)(x:Str)(st:Stmt)(f:Addr)(fd:FuncData):Prop where
 a:PySem.W.nsIn K mainGlobals x=some (some (.ref f))
 F:X8 K x x st f fd
structure Bn(K:bW)(mg:ux)(x:Str)(f:Addr)(fd:FuncData)(ps:ce):Prop where
 m:mg x=some (.ref f)
 k:PySem.W.keepIn K (.ref f)=true
 b:Binds K fd ps []
section
variable {K:bW}{st:Stmt}
def kd{an:Option Addr}{kV doc pm VG ct:Value}{x:Str}(a:PySem.W.nsIn K mainGlobals x=some (some (.ref f)))(l:K.lookup f=some ⟨oc,od,.func (PySem.W.fnOf x x (h9 st) (bE st) (ai st) .none kV doc pm an VG ct),ZQ⟩)(c:PySem.W.codeIn K VG x=true)(k:PySem.W.keepIn K (.ref f)=true):Kd K x st f (PySem.W.fnOf x x (h9 st) (bE st) (ai st) .none kV doc pm an VG ct):=⟨a,JB l c k⟩
def Kd.b1(d:Kd K x st f fd)(X:K.In h)(G:h.Ns mainGlobals mg)(S:aK N [p] (ai st))(hb:∀(kV doc pm:Value) (an:Option Addr) (VG ct a:Value),bindArgs (PySem.W.fnOf x x (h9 st) (bE st) (ai st) .none kV doc pm an VG ct) ⟨[a],[]⟩=pure ([p].zip [a]):=by intros;rfl):Bn K mg x f fd [p]:=
 ⟨bG X G d.a,d.F.kp,d.F.binds fun kV doc pm an VG ct us hl=>match us,hl with | [a],_=>hb kV doc pm an VG ct a⟩
def Kd.b2(d:Kd K x st f fd)(X:K.In h)(G:h.Ns mainGlobals mg)(S:aK N [p,q] (ai st))(hb:∀(kV doc pm:Value) (an:Option Addr) (VG ct a b:Value),bindArgs (PySem.W.fnOf x x (h9 st) (bE st) (ai st) .none kV doc pm an VG ct) ⟨[a,b],[]⟩=pure ([p,q].zip [a,b]):=by intros;rfl):Bn K mg x f fd [p,q]:=
 ⟨bG X G d.a,d.F.kp,d.F.binds fun kV doc pm an VG ct us hl=>match us,hl with | [a,b],_=>hb kV doc pm an VG ct a b⟩
def Kd.b3(d:Kd K x st f fd)(X:K.In h)(G:h.Ns mainGlobals mg)(S:aK N [p,q,r] (ai st))(hb:∀(kV doc pm:Value) (an:Option Addr) (VG ct a b c:Value),bindArgs (PySem.W.fnOf x x (h9 st) (bE st) (ai st) .none kV doc pm an VG ct) ⟨[a,b,c],[]⟩=pure ([p,q,r].zip [a,b,c]):=by intros;rfl):Bn K mg x f fd [p,q,r]:=
 ⟨bG X G d.a,d.F.kp,d.F.binds fun kV doc pm an VG ct us hl=>match us,hl with | [a,b,c],_=>hb kV doc pm an VG ct a b c⟩
def DefX.ca{C:aU->D->Prop}(h:DefX P w K mg base k N sc X)(F:dO P w K mg base gN j f fd ps (MV K C))(b:Bn K mg x f fd ps)(hj:j<=k:=by decide):EV.Callee X x C:=h.callee F hj b.m b.k b.b
def DefX.Zw{C:aU->eG->Prop}(h:DefX P w K mg base k N sc X)(F:dO P w K mg base gN j f fd ps (RT K C))(b:Bn K mg x f fd ps)(hj:j<=k:=by decide):EV.V8 X x C:=h.Zv F hj b.m b.k b.b
def DefX.caM2{C:D->aU->aU->Prop}(h:DefX P w K mg base k N sc X)(F:dO P w K mg base gN j f fd ps (Lb K C))(b:Bn K mg x f fd ps)(hj:j<=k:=by decide):EV.We X x C:=h.YT F hj b.m b.k b.b
def DefX.Xr{C:aU->aU->D->aU->Prop}(h:DefX P w K mg base k N sc X)(F:dO P w K mg base gN j f fd ps (Qt K C))(b:Bn K mg x f fd ps)(hj:j<=k:=by decide):EV.Vj X x C:=h.Zt F hj b.m b.k b.b
def DefX.WI{C:ce->aU->Int×aU->D->Int×aU->Prop}(h:DefX P w K mg base k N sc X)(F:dO P w K mg base gN j f fd ps (Qu K C))(b:Bn K mg x f fd ps)(hj:j<=k:=by decide):EV.U5 X x C:=h.Zu F hj b.m b.k b.b
def DefX.caRN{C:aU->ce->Prop}(h:DefX P w K mg base k N sc X)(F:dO P w K mg base gN j f fd ps (K9 K C))(b:Bn K mg x f fd ps)(hj:j<=k:=by decide):EV.WW X x C:=h.YR F hj b.m b.k b.b
def DefX.caRL{C:ce->Int×aU->aU->D->Int×aU->aU->Prop}(h:DefX P w K mg base k N sc X)(F:dO P w K mg base gN j f fd ps (La K C))(b:Bn K mg x f fd ps)(hj:j<=k:=by decide):EV.WX X x C:=h.YS F hj b.m b.k b.b
end
def DefX.bt{K:bW}{x:Str}(h:DefX P w K mg base k N sc X)(m:mg x=none)(g:ve sc x:=by rfl)(v:bootBuiltins x=some u:=by rfl)(n:x ≠ "__name__" := by decide)(d:qA x:=by rfl):m8 X sc x u:=⟨g,by rw[h.WD];exact m,v,n,d⟩
def gH{N P:ce}{sc:Scope}(h:sc.kind=.function/\sc.isCoroutine=false/\sc.isGenerator=false/\N.Nodup/\N.take P.length=P/\(∀x∈P,sc.names.lookup x=some .local\/sc.names.lookup x=some .cell)/\∀y∈sc.names,y.2 ≠ .free):aK N P sc:=⟨h.1,h.2.1,h.2.2.1,h.2.2.2.1,h.2.2.2.2.1,h.2.2.2.2.2.1,h.2.2.2.2.2.2⟩
abbrev Go(X:Cx)(N:ce)(st:Stmt)(C:aU->D->Prop):Prop:=∀ds d,C ds d->U4 X (ds.map Sl.val++List.replicate (N.length-ds.length) Sl.un) (bE st) (.rt d)
abbrev Hq(X:Cx)(N:ce)(st:Stmt)(C:ce->aU->Int×aU->D->Int×aU->Prop):Prop:=∀(r:tx),li X.K r->∀ds s d s',C r.toks ds s d s'->Wd (Vd r) X (.val (.adr r.p)::ds.map Sl.val++List.replicate (N.length-(ds.length+1)) Sl.un) (bE st) (.rt d) s s'\/(d=.Vs/\∃ρ',Wd (Vd r) X (.val (.adr r.p)::ds.map Sl.val++List.replicate (N.length-(ds.length+1)) Sl.un) (bE st) (.nx ρ') s s')
abbrev Pz(X:Cx)(N:ce)(st:Stmt)(C:aU->aU->D->aU->Prop):Prop:=∀q ds xs d xs',C ds xs d xs'->Xs X q (.val (.Wg q)::ds.map Sl.val++List.replicate (N.length-(ds.length+1)) Sl.un) (bE st) (.rt d) xs xs'
def NJ(ha:VF X q ρ a (.int i) xs xs1)(hb:U1 X ρ b (.int j)):Xw X q ρ (.Compare a [.Eq] [b] pos) (decide (i=j)) xs xs1:=fun B F H σ Q us l k w=>.mk fun pins s I=>
 eg IU aN aN (cT _ (by decide) (by decide)) pins s σ H Q I (ha B F H σ _ us l k fun x F1 H1 u1 x1 r1 rx=>hb (VJ B q u1) F1 H1 σ _ (k.WR l x1) fun y F2 H2 x2 ry=>by
  cases rx;cases ry
  exact⟨rfl,_,by rw[xB],w F2 H2 u1 (x1.trans x2) (r1.mono x2.sf)⟩)
def JQ(ha:U1 X ρ a (.tup xs))(hb:U1 X ρ b (.tup []))(hx:xs≠[])(hz:xs.length<=sizeLine):U1 X ρ (.BinOp a .Add b pos) (.tup xs):=
 .of (l5 FF aN aN) fun B F H σ Q k q=>two ha hb k fun x y F' H' x' rx ry=>by
  cases rx with
  |tup h1 r1=>
   cases ry with
   |tup h2 r2=>
    cases r2
    exact⟨_,_,_,_,rfl,rfl,VV.of (x'.sub _ _ h1),VV.of (x'.sub _ _ h2),fun z=>hx (aB (by rw[<-r1.length,z];rfl)),by rw[r1.length];exact hz,fun _=>q _ F' H' x' (.tup h1 r1),fun z=>absurd rfl z⟩
def D5:lP X (binaryOp .Mult) (fun x y H Q=>∃z n,x=.str z/\y=.int n/\MulOk z n/\Q (.str (Txt.mul z n)) H):=by
 intro pins s σ H x y v u Q I rx ry h
 obtain⟨z,n,rfl,rfl,hz,q⟩:=h
 obtain⟨t,rfl⟩:=rx
 obtain⟨t',rfl⟩:=ry
 exact SB.mul hz fun t' k=>⟨.str (Txt.mul z n),H,I.tok _,⟨_,rfl⟩,q⟩
def G2(xs:List (Array Nat)):∀acc:Array Nat,(xs.foldl (fun x1 x2=>x1++x2) acc).toList=acc.toList++(xs.map Array.toList).flatten:=by
 induction xs with
 |nil=>intro acc;simp
 |cons x xs ih=>intro acc;rw[xZ,ih];simp
def QS(u:bN)(n:Nat):Txt.mul (S u) (n:Int)=S (List.replicate n u).flatten:=by
 have key:∀a b:Array Nat,a.toList=b.toList->(⟨a⟩:Str)=⟨b⟩:=fun a b h=>by rw[Array.ext' h]
 unfold Txt.mul
 split
 ·rename_i h
  have:n=0:=by lia
  subst this;rfl
 ·split
  ·rename_i h1 h
   rw[Bool.or_eq_true,m9,m9] at h
   rcases h with h | h
   ·have:n=1:=by lia
    subst this
    simp
   ·rw[ck] at h
    have:u=[]:=aB h
    subst this
    simp
  ·refine key _ _ ?_
   rw[G2,ba,ku,show(S u).cps.toList=u from fO u]
   simp
def Bq{n:Nat}(ha:U1 X ρ a (.str (S u)))(hb:U1 X ρ b (.int (n:Int)))(hu:u.length<=10)(hn:n<=10000):U1 X ρ (.BinOp a .Mult b pos) (.str (S (List.replicate n u).flatten)):=
 .of (l5 D5 aN aN) fun B F H σ Q k q=>two ha hb k fun x y F' H' x' rx ry=>by
  cases rx;cases ry
  exact⟨S u,n,rfl,rfl,mulOk_of 10 10000 (by rw[ck];exact hu) (by lia) (by lia) (by decide) (by decide),by rw[QS];exact q _ F' H' x' (.str _)⟩
end L2.EV
set_option maxHeartbeats 4000000
namespace My
open PySem L2 L2.EV
variable {K:bW}
def top(i:Nat):Stmt:=PySem.Challenge.pw_planestacks_k34_sayings_read.main.body.getD i (.Pass ⟨0,0,0,0⟩)
abbrev mD:Stmt:=top 4
abbrev rj:ce:=["thing"]
def uB:aK rj ["thing"] (ai mD):=gH (by decide)
abbrev sA:Stmt:=top 6
abbrev xO:ce:=["thing"]
def Ae:aK xO ["thing"] (ai sA):=gH (by decide)
abbrev iI:Stmt:=top 7
abbrev lj:ce:=["parts", "nought", "many"]
def oy:aK lj ["parts", "nought"] (ai iI):=gH (by decide)
abbrev pZ:Stmt:=top 8
abbrev uo:ce:=["parts", "power", "nought"]
def wp:aK uo ["parts", "power", "nought"] (ai pZ):=gH (by decide)
abbrev sy:Stmt:=top 9
abbrev xN:ce:=["numbers"]
def Ad:aK xN ["numbers"] (ai sy):=gH (by decide)
abbrev mB:Stmt:=top 10
abbrev rg:ce:=["f", "g", "many"]
def uA:aK rg ["f", "g"] (ai mB):=gH (by decide)
abbrev jz:Stmt:=top 11
abbrev mS:ce:=["f"]
def qF:aK mS ["f"] (ai jz):=gH (by decide)
abbrev iY:Stmt:=top 12
abbrev pe:ce:=["f", "g", "numbers", "j", "one", "k", "other"]
def rY:aK pe ["f", "g"] (ai iY):=gH (by decide)
abbrev mE:Stmt:=top 14
abbrev rk:ce:=["thing"]
def uC:aK rk ["thing"] (ai mE):=gH (by decide)
abbrev mF:Stmt:=top 15
abbrev rm:ce:=["rows"]
def uD:aK rm ["rows"] (ai mF):=gH (by decide)
abbrev jC:Stmt:=top 16
abbrev mV:ce:=["f", "g", "many"]
def qI:aK mV ["f", "g"] (ai jC):=gH (by decide)
abbrev iO:Stmt:=top 17
abbrev lv:ce:=["f", "g"]
def oH:aK lv ["f", "g"] (ai iO):=gH (by decide)
abbrev gh:Stmt:=top 18
abbrev lu:ce:=["f", "g", "rows", "j", "one", "k", "other"]
def oG:aK lu ["f", "g"] (ai gh):=gH (by decide)
abbrev gI:Stmt:=top 20
abbrev ja:ce:=["thing"]
def mw:aK ja ["thing"] (ai gI):=gH (by decide)
abbrev iZ:Stmt:=top 26
abbrev pi:ce:=["token"]
def si:aK pi ["token"] (ai iZ):=gH (by decide)
abbrev jB:Stmt:=top 27
abbrev mU:ce:=["text", "start", "end"]
def qH:aK mU ["text", "start"] (ai jB):=gH (by decide)
abbrev dG:Stmt:=top 28
abbrev Vr:ce:=["run"]
def js:aK Vr ["run"] (ai dG):=gH (by decide)
abbrev mz:Stmt:=top 29
abbrev rf:ce:=["text", "start", "run"]
def uz:aK rf ["text", "start"] (ai mz):=gH (by decide)
abbrev kG:Stmt:=top 30
abbrev pd:ce:=["text", "tokens", "at"]
def rW:aK pd ["text"] (ai kG):=gH (by decide)
abbrev gf:Stmt:=top 31
abbrev VM:ce:=["tokens", "opening", "closing", "many", "token"]
def oB:aK VM ["tokens", "opening", "closing"] (ai gf):=gH (by decide)
abbrev kJ:Stmt:=top 33
abbrev Wx:ce:=["text", "most", "tokens"]
def rZ:aK Wx ["text", "most"] (ai kJ):=gH (by decide)
abbrev jA:Stmt:=top 34
abbrev mT:ce:=["reader"]
def qG:aK mT ["reader"] (ai jA):=gH (by decide)
abbrev jv:Stmt:=top 35
abbrev mO:ce:=["reader", "token"]
def qB:aK mO ["reader"] (ai jv):=gH (by decide)
abbrev iJ:Stmt:=top 36
abbrev lm:ce:=["reader", "tokens", "token"]
def oz:aK lm ["reader", "tokens"] (ai iJ):=gH (by decide)
abbrev iK:Stmt:=top 37
abbrev lp:ce:=["reader"]
def oA:aK lp ["reader"] (ai iK):=gH (by decide)
abbrev mC:Stmt:=top 40
abbrev rh:ce:=["reader", "sign"]
def oC:aK rh ["reader"] (ai mC):=gH (by decide)
abbrev gT:Stmt:=top 41
abbrev kb:ce:=["reader"]
def nh:aK kb ["reader"] (ai gT):=gH (by decide)
abbrev iN:Stmt:=top 42
abbrev lr:ce:=["reader", "minuses"]
def oF:aK lr ["reader"] (ai iN):=gH (by decide)
abbrev jy:Stmt:=top 43
abbrev mR:ce:=["reader"]
def qE:aK mR ["reader"] (ai jy):=gH (by decide)
abbrev kK:Stmt:=top 44
abbrev pf:ce:=["reader", "token"]
def se:aK pf ["reader"] (ai kK):=gH (by decide)
abbrev qa:Stmt:=top 45
abbrev ur:ce:=["token", "number"]
def wr:aK ur ["token"] (ai qa):=gH (by decide)
abbrev fK:Stmt:=top 46
abbrev iD:ce:=["f", "many", "power", "k"]
def kF:aK iD ["f", "many"] (ai fK):=gH (by decide)
abbrev fJ:Stmt:=top 47
abbrev VL:ce:=["step", "boards", "last", "first"]
def kE:aK VL ["step", "boards"] (ai fJ):=gH (by decide)
abbrev ft:Stmt:=top 52
abbrev ib:ce:=["reader", "sign"]
def jT:aK ib ["reader"] (ai ft):=gH (by decide)
abbrev gp:Stmt:=top 53
abbrev jj:ce:=["reader", "prefixes", "word"]
def lW:aK jj ["reader"] (ai gp):=gH (by decide)
abbrev gS:Stmt:=top 54
abbrev VY:ce:=["reader", "brackets", "prefixes", "word"]
def ng:aK VY ["reader", "brackets"] (ai gS):=gH (by decide)
abbrev jx:Stmt:=top 55
abbrev mQ:ce:=["reader", "brackets", "ended", "prefixes"]
def qD:aK mQ ["reader"] (ai jx):=gH (by decide)
abbrev kH:Stmt:=top 56
abbrev Ww:ce:=["step", "waiting", "last", "first", "word", "letter"]
def rX:aK Ww ["step", "waiting"] (ai kH):=gH (by decide)
abbrev iM:Stmt:=top 57
abbrev lq:ce:=["text", "reader", "waiting", "step"]
def oE:aK lq ["text"] (ai iM):=gH (by decide)
abbrev kN:Stmt:=top 62
abbrev pj:ce:=["thing"]
def sj:aK pj ["thing"] (ai kN):=gH (by decide)
abbrev kO:Stmt:=top 63
abbrev pk:ce:=["thing"]
def sk:aK pk ["thing"] (ai kO):=gH (by decide)
abbrev p0:Stmt:=top 64
abbrev uq:ce:=["thing"]
def wq:aK uq ["thing"] (ai p0):=gH (by decide)
abbrev jw:Stmt:=top 65
abbrev mP:ce:=["S"]
def qC:aK mP ["S"] (ai jw):=gH (by decide)
abbrev kM:Stmt:=top 66
abbrev ph:ce:=["thing", "waiting", "part"]
def sg:aK ph ["thing"] (ai kM):=gH (by decide)
abbrev kT:Stmt:=top 68
abbrev pE:ce:=["_law_script", "_law_k", "_law_state", "_law_cell_here"]
def sv:aK pE ["_law_script", "_law_k"] (ai kT):=gH (by decide)
abbrev gY:Stmt:=top 69
abbrev kg:ce:=["_law_cell_here", "_law_many", "_law_found", "_law_state", "_law_digits", "_law_k"]
def nq:aK kg ["_law_cell_here", "_law_many"] (ai gY):=gH (by decide)
abbrev kP:Stmt:=top 70
abbrev pA:ce:=["_law_parts", "_law_found"]
def sn:aK pA ["_law_parts"] (ai kP):=gH (by decide)
abbrev gs:Stmt:=top 71
abbrev gy:ce:=["_law_parts", "_law_rows", "_law_k"]
def lZ:aK gy ["_law_parts"] (ai gs):=gH (by decide)
abbrev gX:Stmt:=top 72
abbrev VZ:ce:=["_law_one", "_law_other", "_law_found", "_law_i", "_law_k", "_law_j", "_law_m"]
def nj:aK VZ ["_law_one", "_law_other"] (ai gX):=gH (by decide)
abbrev kR:Stmt:=top 73
abbrev pC:ce:=["_law_state"]
def sr:aK pC ["_law_state"] (ai kR):=gH (by decide)
abbrev mH:Stmt:=top 74
abbrev WG:ce:=["_law_one", "_law_other", "_law_sign", "_law_found", "_law_spot"]
def uE:aK WG ["_law_one", "_law_other", "_law_sign"] (ai mH):=gH (by decide)
abbrev kU:Stmt:=top 75
abbrev pF:ce:=["_law_state", "_law_room", "_law_deep", "_law_x", "_law_tokens", "_law_parts", "_law_size"]
def my:aK pF ["_law_state", "_law_room", "_law_deep"] (ai kU):=gH (by decide)
abbrev iQ:Stmt:=top 76
abbrev lz:ce:=["_law_state", "_law_room", "_law_deep", "_law_x", "_law_power", "_law_tokens", "_law_parts", "_law_found", "_law_turn", "_law_many"]
def jU:aK lz ["_law_state", "_law_room", "_law_deep"] (ai iQ):=gH (by decide)
abbrev kQ:Stmt:=top 77
abbrev pB:ce:=["_law_state", "_law_room", "_law_deep", "_law_first", "_law_tokens", "_law_parts", "_law_more", "_law_others"]
def mx:aK pB ["_law_state", "_law_room", "_law_deep"] (ai kQ):=gH (by decide)
abbrev mG:Stmt:=top 78
abbrev rD:ce:=["_law_state", "_law_room", "_law_deep", "_law_tokens", "_law_parts", "_law_turn", "_law_sign", "_law_more", "_law_others"]
def oI:aK rD ["_law_state", "_law_room", "_law_deep"] (ai mG):=gH (by decide)
abbrev iP:Stmt:=top 79
abbrev ly:ce:=["_law_tokens", "_law_xs", "_law_signs", "_law_text", "_law_k", "_law_blanks"]
def oJ:aK ly ["_law_tokens", "_law_xs"] (ai iP):=gH (by decide)
abbrev gr:Stmt:=top 80
abbrev jk:ce:=["_law_state", "_law_tokens", "_law_parts", "_law_more", "_law_others", "_law_k", "_law_signs", "_law_board"]
def lY:aK jk ["_law_state"] (ai gr):=gH (by decide)
abbrev gU:Stmt:=top 81
abbrev kc:ce:=["_law_state", "_law_deep", "_law_x", "_law_tokens", "_law_saying", "_law_one", "_law_more", "_law_other", "_law_word", "_law_letter"]
def jf:aK kc ["_law_state", "_law_deep"] (ai gU):=gH (by decide)
abbrev gV:Stmt:=top 82
abbrev ke:ce:=["_law_xs", "_law_many", "_law_tokens", "_law_saying", "_law_k", "_law_word", "_law_one"]
def ni:aK ke ["_law_xs"] (ai gV):=gH (by decide)
abbrev kS:Stmt:=top 83
abbrev pD:ce:=["_law_xs", "_law_many", "_law_head", "_law_tail", "_law_text", "_law_saying"]
def su:aK pD ["_law_xs"] (ai kS):=gH (by decide)
abbrev wv:Stmt:=top 84
abbrev Ky:ce:=["_law_script", "_law_cell_here", "_law_xs", "_law_tokens", "_law_saying", "_law_text", "_law_found"]
def N0:aK Ky ["_law_script"] (ai wv):=gH (by decide)
abbrev gj:Stmt:=Rk (top 32)
def wu:aK ["self", "tokens"] ["self", "tokens"] (ai gj):=gH (by decide)
def m4(ds:aU)(d:D):Prop:=∃f:aS,ds=[bU f]/\f.length<1000/\d=bU (f.map fun x=>-x)
def xc:∀ds d,m4 ds d->ds.length=1:=by rintro _ _ ⟨a,rfl,_⟩;rfl
def wk{n:Nat}(h:n<1000):n<sizeLine:=lK h (by decide)
def BU(h:DefX P w K mg base k mS (ai jz) X)(Vf:mg "tuple"=none):
  Go X mS jz m4:=by
 rintro ds d ⟨f,rfl,hf,rfl⟩
 have t:=h.at'
 haveI:=h.VI
 have bl:=h.bt Vf
 show U4 X [.val (bU f)] _ _
 refine aC (bp (j5 t bl (W8.eq (U9.toQ (iS (rs:=(f.map D.int).map fun d=>match d with | .int i=>.int (-i) | d=>d) t ["f", "number"] (KO (by decide)) (xz (aa t 0)) (by rw[ag];exact wk hf) fun X' cx=>?_)) ?_)))
 ·have t':=cx.at'
  refine VP.all (fun d=>[.val (bU f),.val d]) _ _ _ (fun d hd=>cH t' 1) (fun d hd e he=>cH t' 1) fun d hd=>?_
  obtain⟨i,_,rfl⟩:=List.mem_map.mp hd
  exact gA (aa t' 1 rfl)
 ·rw[cM,cM];rfl
def lR{i:Nat}{α:Type}{xs:List α}{x:α}(h:xs[i]?=some x):xs.take (i+1)=xs.take i++[x]:=by
 rw[List.take_add_one,h];rfl
def xD(s:Int)(xs:aS):Int:=xs.foldl (fun s x=>(s*69621+x)%2147483647) s
def C9(ns:aS)(j:Int):Int:=if j<ns.length then ns.getD j.toNat 0 else xD (48271*(j*j+7*j+11)%2147483647) (ka ns none (some 3))
def pS(ds:aU)(d:D):Prop:=∃(ns:aS) (j:Int),ds=[.Xb ns,.int j]/\0<=j/\j<1000/\d=.int (C9 ns j)
def yx:∀ds d,pS ds d->ds.length=2:=by rintro _ _ ⟨a,b,rfl,_⟩;rfl
def PR(s0:Int):Nat->Int
 |0=>s0
 |i+1=>(PR s0 i*(PR s0 i%65521+40487)+7*(i:Int)+5)%1999999973
def Ph(d0:Int):Nat->Int
 |0=>d0
 |i+1=>Ph d0 i / 1000000
def OQ(s0 d0:Int)(i:Nat):Int:=if Ph d0 i > 0 then Ph d0 i%1000000 else PR s0 (i+1)
def rV(c:Int):Int:=(c%1999999973+31)*765432101%1999999973
def qp(c:Int):Int:=if c<0\/c ≥ 10 ^ 18 then c.natAbs else 0
def qK(c:Int)(n:Nat):aS:=(List.range n).map (OQ (rV c) (qp c))
def Aq(c:Int)(n:Nat):(qK c n).length=n:=by simp[qK]
def kq(ds:aU)(d:D):Prop:=∃(c:Int) (n:Nat),ds=[.int c,.int n]/\n<1000/\d=dI (qK c n)
def tX:∀ds d,kq ds d->ds.length=2:=by rintro _ _ ⟨a,b,rfl,_⟩;rfl
def ir{i:Nat}(h:(dH 0 n)[i]?=some d):i<n/\d=.int (i:Int):=by
 unfold dH at h
 rw[List.getElem?_map] at h
 by_cases hi:i<n
 ·rw[List.getElem?_range hi] at h
  cases h
  exact⟨hi,by show D.int (0+(i:Int))=_;rw[gG]⟩
 ·rw[List.getElem?_eq_none (by simpa using hi)] at h;cases h
def Do(h:DefX P w K mg base k pE (ai kT) X)(Vc:mg "len"=none):
  Go X pE kT pS:=by
 rintro ds d ⟨ns,j,rfl,h0,h1,rfl⟩
 have t:=h.at'
 haveI:=h.VI
 have bl:=h.bt Vc
 show U4 X [.val (.Xb ns),.val (.int j),.un,.un] _ _
 by_cases hj:j<ns.length
 ·refine gB (e9 (U3.eq (fg (aa t 1) (dy t bl (U1.qs (aa t 0)))) ?_) (aC (bp (cb (U1.qs (aa t 0)) (aa t 1) ?_))))
  ·rw[ag];exact ay hj
  ·have hn:j.toNat<ns.length:=by lia
   rw[tu h0 rfl hn]
   unfold C9
   rw[au hj,List.getD_eq_getElem?_getD,List.getElem?_eq_getElem hn];rfl
 ·refine ax (cA (U3.eq (fg (aa t 1) (dy t bl (U1.qs (aa t 0)))) ?_) bR) ?_
  ·rw[ag];exact ak hj
  refine ax (bS t 2 (br (jh ah (c8 (c8 (jh (aa t 1) (aa t 1) (l7 (by lia) (by lia))) (jh ah (aa t 1) (l7 (by decide) (by decide)))) ah) (l7 (by decide) (by decide))) ah (by decide))) ?_
  refine ax (ρ':=[.val (.Xb ns),.val (.int j),.val (.int (C9 ns j)),.un]) (i6 t (Ex (U1.eq (U9.Vm (kZ (U1.qs (aa t 0)) ma (fM ah))) (by rw[oZ]))) ?_) (aC (bp (aa t 2)))
  refine Vt.VD (fun i=>[.val (.Xb ns),.val (.int j),.val (.int (xD (48271*(j*j+7*j+11)%2147483647) ((ka ns none (some 3)).take i))),.un]) (fun i d hi=>?_) rfl ?_
  ·rw[List.getElem?_map] at hi
   cases e:(ka ns none (some 3))[i]? with
   |none=>rw[e] at hi;cases hi
   |some x=>
    rw[e] at hi;cases hi
    refine⟨_,bf t 3,U4.weak (aC (bS t 2 (br (c8 (jh (aa t 2) ah (jN (by decide) (by decide))) (aa t 3)) ah (by decide)))) ?_⟩
    have e2:xD (48271*(j*j+7*j+11)%2147483647) ((ka ns none (some 3)).take (i+1))=(xD (48271*(j*j+7*j+11)%2147483647) ((ka ns none (some 3)).take i)*69621+x)%2147483647:=by
     rw[lR e];unfold xD;rw[tI];rfl
    rw[e2]
    exact .keep (.keep (.keep (.forget .nil)))
  ·rw[ag,bo]
   unfold C9;rw[aq hj]
def xK(h:DefX P w K mg base k kg (ai gY) X)(Vn:mg "range"=none)(m_abs:mg "abs"=none)(Ws:mg "int"=none):
  Go X kg gY kq:=by
 rintro ds d ⟨c,n,rfl,hn,rfl⟩
 have t:=h.at'
 haveI:=h.VI
 have b1:=h.bt Vn
 have b2:=h.bt m_abs
 have b3:=h.bt Ws
 show U4 X [.val (.int c),.val (.int n),.un,.un,.un,.un] _ _
 refine ax (jV t 2 (bb af)) ?_
 refine ax (bS t 3 (br (jh (c8 (br (aa t 0) ah (by decide)) ah) ah (jN (by decide) (by decide))) ah (by decide))) ?_
 refine ax (bS t 4 ah) ?_
 refine ax (ρ':=[.val (.int c),.val (.int n),.own [],.val (.int (rV c)),.val (.int (qp c)),.un]) ?_ ?_
 ·by_cases h1:c<0
  ·refine e9 (Wj.toT (t6 (U3.eq (fg (aa t 0) ah) (ay h1)))) (U4.eq (aC (bS t 4 (JS t b2 (aa t 0)))) ?_)
   have e:qp c=(c.natAbs:Int):=by unfold qp;rw[au (.inl h1)]
   rw[e];rfl
  ·by_cases h2:c ≥ 10 ^ 18
   ·refine e9 (Wj.toT (lh (U3.eq (fg (aa t 0) ah) (ak h1)) (oX (U3.eq (Nl (aa t 0) (JH ah ah ⟨by decide,by decide,by decide⟩)) (ay h2))))) (U4.eq (aC (bS t 4 (JS t b2 (aa t 0)))) ?_)
    have e:qp c=(c.natAbs:Int):=by unfold qp;rw[au (.inr h2)]
    rw[e];rfl
   ·refine cA (Wj.toT (lh (U3.eq (fg (aa t 0) ah) (ak h1)) (oX (U3.eq (Nl (aa t 0) (JH ah ah ⟨by decide,by decide,by decide⟩)) (ak h2))))) (U4.eq bR ?_)
    have e:qp c=0:=by unfold qp;rw[aq (by rintro(z | z);exact h1 z;exact h2 z)]
    rw[e];rfl
 refine ax (i6 t (fj t b1 (aa t 1) (by lia) (by lia)) (Vt.VD (ρ':=[.val (.int c),.val (.int n),.own ((qK c n).map D.int),.val (.int (PR (rV c) n)),.val (.int (Ph (qp c) n)),.un])
  (fun i=>[.val (.int c),.val (.int n),.own ((qK c i).map D.int),.val (.int (PR (rV c) i)),.val (.int (Ph (qp c) i)),.un]) (fun i d hi=>?_) rfl ?_)) (gJ 2 rfl (aC (bp (aa t 2))))
 ·obtain⟨ZF,rfl⟩:=ir hi
  have hi':i<n:=by simpa using ZF
  refine⟨_,bf t 5,U4.weak (ax (bS t 3 (br (c8 (c8 (jh (aa t 3) (c8 (br (aa t 3) ah (by decide)) ah) (jN (by lia) (by lia))) (jh ah (aa t 5) (l7 (by decide) (by decide)))) ah) ah (by decide)))
   (ax (i7 t 2 rfl (d:=.int (OQ (rV c) (qp c) i)) (cb (U9.toQ (bb (ab (aa t 3) (ab (br (aa t 4) ah (by decide)) af)))) (Bs t b3 (Nk (aa t 4) ah)) ?_) ?_)
   (aC (bS t 4 (hJ t (aa t 4) ah (by decide)))))) ?_⟩
  ·by_cases hd:0<Ph (qp c) i
   ·have e:OQ (rV c) (qp c) i=Ph (qp c) i%1000000:=by unfold OQ;rw[au hd]
    rw[e,ay hd];rfl
   ·have e:OQ (rV c) (qp c) i=PR (rV c) (i+1):=by unfold OQ;rw[aq hd]
    rw[e,ak hd];rfl
  ·rw[ag,Aq];exact wk (by lia)
  ·have e:qK c (i+1)=qK c i++[OQ (rV c) (qp c) i]:=by
    unfold qK;rw[xX,aJ];rfl
   rw[e,aJ]
   exact .keep (.keep (.keep (.keep (.keep (.forget .nil)))))
 ·have e:(dH 0 (n:Int).toNat).length=n:=by simp[dH]
  rw[e]
def fq(xs:aS):aS:=(xs.reverse.dropWhile (· == 0)).reverse
def jL(xs:aS):fq (xs++[0])=fq xs:=by simp[fq]
def pV{a:Int}(xs:aS)(h:a≠0):fq (xs++[a])=xs++[a]:=by simp[fq,h]
def ot(xs:aS):(fq xs).length<=xs.length:=by
 unfold fq
 rw[fQ]
 have:=(xU (l:=xs.reverse) (p:=fun x=>x==0)).length_le
 rw[fQ] at this
 exact this
def K0(xs:aS):fq xs=[]\/∃ys a,fq xs=ys++[a]/\a≠0:=by
 induction h:xs.length generalizing xs with
 |zero=>left;rw[aB h];rfl
 |succ n ih=>
  rcases cy xs with e | ⟨ys,y,e⟩
  ·subst e;left;rfl
  ·rw[cz] at e
   subst e
   by_cases hy:y=0
   ·subst hy;rw[jL];exact ih ys (by simpa using h)
   ·right;exact⟨ys,y,pV ys hy,hy⟩
def GA(R:aS->cn)(h1:U3 X (R []) c false)(h2:∀ys a,(ys++[a]).length<1000->U3 X (R (ys++[a])) c (decide (a=0)))(h3:∀ys a,U4 X (R (ys++[a])) body (.nx (R ys))):
  ∀(n:Nat) (ys:aS),ys.length=n->ys.length<1000->∃m,WU X c body m (R ys) (.nx (R (fq ys))):=by
 intro n
 induction n with
 |zero=>intro ys h _;rw[aB h];exact⟨0,.stop h1⟩
 |succ n ih=>
  intro ys h hl
  rcases cy ys with e | ⟨zs,a,e⟩
  ·subst e;exact⟨0,.stop h1⟩
  ·rw[cz] at e
   subst e
   by_cases ha:a=0
   ·subst ha
    rw[jL]
    have hz:zs.length=n:=by simpa using h
    obtain⟨m,q⟩:=ih zs hz (by lia)
    exact⟨m+1,.step (U3.eq (h2 zs 0 hl) rfl) (h3 zs 0) q⟩
   ·rw[pV zs ha]
    exact⟨0,.stop (U3.eq (h2 zs a hl) (ak ha))⟩
def pP(ds:aU)(d:D):Prop:=∃xs:aS,ds=[dI xs]/\xs.length<1000/\d=bU (fq xs)
def yu:∀ds d,pP ds d->ds.length=1:=by rintro _ _ ⟨a,rfl,_⟩;rfl
def vv(f g:aS)(i:Nat)(acc:aS):Nat->aS
 |0=>acc
 |j+1=>(vv f g i acc j).set (i+j) ((vv f g i acc j).getD (i+j) 0+f.getD i 0*g.getD j 0)
def qU(f g:aS):Nat->aS
 |0=>List.replicate (f.length+g.length) 0
 |i+1=>vv f g i (qU f g i) g.length
def qf(f g:aS)(i:Nat)(acc:aS):∀j,(vv f g i acc j).length=acc.length
 |0=>rfl
 |j+1=>by rw[vv,bM,qf]
def wV(f g:aS):∀i,(qU f g i).length=f.length+g.length
 |0=>by rw[qU,dF]
 |i+1=>by rw[qU,qf,wV]
def gQ(f g:aS):aS:=fq (qU f g f.length)
def wg(f g:aS):(gQ f g).length<=f.length+g.length:=by
 have:=ot (qU f g f.length)
 rw[wV] at this
 exact this
def vw{xs:aS}{j:Nat}(h:j<xs.length):xs.getD j 0=xs[j]:=by rw[List.getD_eq_getElem?_getD,List.getElem?_eq_getElem h];rfl
def xL{xs:aS}{n:Nat}(h:n<xs.length):k7 (xs.map D.int) (n:Int)=some (.int (xs.getD n 0)):=by
 rw[tu (by lia) (ba n) h,vw h]
def Dm(h:DefX P w K mg base k pA (ai kP) X)(Xj:mg "list"=none)(Vf:mg "tuple"=none)(Vc:mg "len"=none):
  Go X pA kP pP:=by
 rintro ds d ⟨xs,rfl,hl,rfl⟩
 have t:=h.at'
 haveI:=h.VI
 have b1:=h.bt Xj
 have b2:=h.bt Vf
 have b3:=h.bt Vc
 show U4 X [.val (dI xs),.un] _ _
 refine ax (jV t 1 (Gb t b1 (U1.ql (aa t 0)))) ?_
 refine ax (sw t (GA (fun ys=>[.val (dI xs),.own (ys.map D.int)]) ?_ (fun ys a hy=>?_) (fun ys a=>?_) _ xs rfl hl)) (aC (bp (j5 t b2 (eQ t 1 rfl))))
 ·exact Wj.toT (mK (qY t (W8.p (eQ t 1 rfl)) (U1.p (U9.Vm (bb af))) (gz []) (gz []) (by have:=By [] [];exact bv not this)))
 ·refine Wj.toT (kY (qY t (W8.p (eQ t 1 rfl)) (U1.p (U9.Vm (bb af))) (gz (ys++[a])) (gz []) (by have:=By (ys++[a]) [];rw[ak (by simp)] at this;exact bv not this)) (qg (dM (cb (eQ t 1 rfl) (iw (dy t b3 (eQ t 1 rfl)) ah) ?_) ah)))
  rw[ag,tu (n:=ys.length) (by simp) (by simp) (by simp)]
  simp
 ·refine U4.eq (aC (MX t 1 rfl (by simp))) ?_
  rw[aJ]
  have e:(ys.map D.int++[a].map D.int).dropLast=ys.map D.int:=by simp
  rw[e];rfl
def V7(f:aS):Prop:=f=[]\/∃ys a,f=ys++[a]/\a≠0
def HG(xs:aS):xs.take (fq xs).length=fq xs:=by
 induction h:xs.length generalizing xs with
 |zero=>rw[aB h];rfl
 |succ n ih=>
  rcases cy xs with e | ⟨ys,y,e⟩
  ·subst e;rfl
  ·rw[cz] at e
   subst e
   by_cases hy:y=0
   ·subst hy
    rw[jL]
    have q:=ih ys (by simpa using h)
    have l:=ot ys
    rw[KR l];exact q
   ·rw[pV ys hy,bo]
def C6(R:Nat->cn)(xs:aS)(h1:U3 X (R 0) c false)(h2:∀m (h:m<xs.length),U3 X (R (m+1)) c (decide (xs[m]=0)))(h3:∀m,U4 X (R (m+1)) body (.nx (R m))):
  ∀m,m<=xs.length->∃n,WU X c body n (R m) (.nx (R (fq (xs.take m)).length))
 |0,_=>⟨0,.stop h1⟩
 |m+1,hm=>by
  have VH:m<xs.length:=hm
  have e:xs.take (m+1)=xs.take m++[xs[m]]:=lR (List.getElem?_eq_getElem VH)
  by_cases hz:xs[m]=0
  ·obtain⟨n,q⟩:=C6 R xs h1 h2 h3 m (by lia)
   refine⟨n+1,.step (U3.eq (h2 m VH) (ay hz)) (h3 m) ?_⟩
   rw[e,hz,jL];exact q
  ·refine⟨0,?_⟩
   rw[e,pV _ hz]
   have el:(xs.take m++[xs[m]]).length=m+1:=by rw[<-e,cu];lia
   rw[el]
   exact .stop (U3.eq (h2 m VH) (ak hz))
def tE(ds:aU)(d:D):Prop:=∃xs:aS,ds=[dI xs]/\xs.length<1000/\d=bU (fq xs)
def El:∀ds d,tE ds d->ds.length=1:=by rintro _ _ ⟨a,rfl,_⟩;rfl
def qJ(f g:aS):aS:=fq ((List.range (max f.length g.length)).map fun i=>f.getD i 0+g.getD i 0)
def mY(ds:aU)(d:D):Prop:=∃f g:aS,ds=[bU f,bU g]/\f.length<1000/\g.length<1000/\d=bU (qJ f g)
def Ba:∀ds d,mY ds d->ds.length=2:=by rintro _ _ ⟨a,b,rfl,_⟩;rfl
def oQ(f g:aS):Nat->aS
 |0=>List.replicate (f.length+g.length-1) 0
 |i+1=>vv f g i (oQ f g i) g.length
def sD(f g:aS):∀i,(oQ f g i).length=f.length+g.length-1
 |0=>by rw[oQ,dF]
 |i+1=>by rw[oQ,qf,sD]
def CY(f g:aS)(i:Nat)(acc:aS)(z:Int):∀j,i+j<=acc.length->vv f g i (acc++[z]) j=vv f g i acc j++[z]
 |0,_=>rfl
 |j+1,h=>by
  have ih:=CY f g i acc z j (by lia)
  have hl:i+j<(vv f g i acc j).length:=by rw[qf];lia
  rw[vv,vv,ih,List.set_append_left _ _ hl]
  have e:(vv f g i acc j++[z]).getD (i+j) 0=(vv f g i acc j).getD (i+j) 0:=by
   rw[List.getD_eq_getElem?_getD,List.getD_eq_getElem?_getD,List.getElem?_append_left hl]
  rw[e]
def Ao(f g:aS)(hf:f≠[])(hg:g≠[]):∀i,i<=f.length->qU f g i=oQ f g i++[0]
 |0,_=>by
  have h1:=List.length_pos_iff.mpr hf
  rw[qU,oQ,show f.length+g.length=(f.length+g.length-1)+1 by lia,oh]
  rfl
 |i+1,h=>by
  have h1:=List.length_pos_iff.mpr hf
  rw[qU,oQ,Ao f g hf hg i (by lia),CY]
  rw[sD];lia
def DJ{f g:aS}(hf:f≠[])(hg:g≠[]):fq (oQ f g f.length)=gQ f g:=by
 unfold gQ;rw[Ao f g hf hg _ (aj _),jL]
def tN:∀n,fq (List.replicate n (0:Int))=[]
 |0=>rfl
 |n+1=>by rw[oh,jL,tN]
def GC(g:aS):gQ [] g=[]:=by
 unfold gQ;rw[gP,qU];exact tN _
def CC(f:aS):∀i,qU f [] i=List.replicate f.length 0
 |0=>rfl
 |i+1=>by rw[qU,gP,vv,CC]
def DK(f:aS):gQ f []=[]:=by unfold gQ;rw[CC];exact tN _
def pH(ds:aU)(d:D):Prop:=∃f g:aS,ds=[bU f,bU g]/\f.length<100/\g.length<100/\(∀y∈g,-(2 ^ 63)<y/\y<2 ^ 63)/\d=bU (gQ f g)
def ym:∀ds d,pH ds d->ds.length=2:=by rintro _ _ ⟨a,b,rfl,_⟩;rfl
def Dh(h:DefX P w K mg base k pe (ai iY) X)(Wt:mg "enumerate"=none)(Vc:mg "len"=none)(c1:Callee X "row_of" tE):
  Go X pe iY pH:=by
 rintro ds d ⟨f,g,rfl,hf,hg,hb,rfl⟩
 have t:=h.at'
 haveI:=h.VI
 have b1:m8 X (ai iY) "enumerate" (.type "enumerate"):=EI (by rw[h.WD];exact Wt) rfl (by decide)
 have b2:=h.bt Vc
 show U4 X [.val (bU f),.val (bU g),.un,.un,.un,.un,.un] _ _
 by_cases h1:f=[]
 ·refine gB (e9 (Wj.toT (t6 (iy t (U1.p (aa t 0)) (U1.p (d:=bU []) (aD af)) (bz _) (bz _) (by rw[hZ,h1];rfl)))) (aC (bp (U1.eq (aD af) ?_))))
  rw[h1,GC];rfl
 by_cases h2:g=[]
 ·refine gB (e9 (Wj.toT (lh (iy t (U1.p (aa t 0)) (U1.p (d:=bU []) (aD af)) (bz _) (bz _) (by rw[hZ,ak h1])) (oX (iy t (U1.p (aa t 1)) (U1.p (d:=bU []) (aD af)) (bz _) (bz _) (by rw[hZ,h2];rfl))))) (aC (bp (U1.eq (aD af) ?_))))
  rw[h2,DK];rfl
 have lf:=List.length_pos_iff.mpr h1
 have lg:=List.length_pos_iff.mpr h2
 refine ax (cA (Wj.toT (lh (iy t (U1.p (aa t 0)) (U1.p (d:=bU []) (aD af)) (bz _) (bz _) (by rw[hZ,ak h1])) (oX (iy t (U1.p (aa t 1)) (U1.p (d:=bU []) (aD af)) (bz _) (bz _) (by rw[hZ,ak h2]))))) bR) ?_
 have en:((f.length:Int)+g.length-1).toNat=f.length+g.length-1:=by lia
 refine ax (jV (xs:=(oQ f g 0).map D.int) t 2 (U9.eq (ud (U9.Vm (bb (ab ah af))) (U1.eq (iw (c8 (dy t b2 (U1.qt (aa t 0))) (dy t b2 (U1.qt (aa t 1)))) ah) (by rw[ag,ag])) (by lia) (by lia) (by rw[en];have:=CQ;simp;lia)) (by rw[en,Ix];rfl))) ?_
 refine ax (ρ':=[.val (bU f),.val (bU g),.own ((oQ f g f.length).map D.int),.un,.un,.un,.un]) (i6 t (v4 t b1 (aa t 0)) (Vt.VD (fun i=>[.val (bU f),.val (bU g),.own ((oQ f g i).map D.int),.un,.un,.un,.un]) (fun i d hi=>?_) rfl ?_)) ?_
 ·obtain⟨e,he,rfl⟩:=mf hi
  rw[List.getElem?_map] at he
  cases hx:f[i]? with
  |none=>rw[hx] at he;cases he
  |some x=>
  rw[hx] at he;cases he
  have hi':i<f.length:=(List.getElem?_eq_some_iff.mp hx).1
  have ex:f.getD i 0=x:=by rw[List.getD_eq_getElem?_getD,hx];rfl
  refine⟨_,jG t 3 4,U4.weak (ρ1:=[.val (bU f),.val (bU g),.own ((oQ f g (i+1)).map D.int),.val (.int i),.val (.int x),.un,.un]) (aC (i6 t (v4 t b1 (aa t 1))
   (Vt.VD (fun j=>[.val (bU f),.val (bU g),.own ((vv f g i (oQ f g i) j).map D.int),.val (.int i),.val (.int x),.un,.un]) (fun j d hj=>?_) rfl ?_))) (.keep (.keep (.keep (.forget (.forget (.keep (.keep .nil)))))))⟩
  ·obtain⟨e,he,rfl⟩:=mf hj
   rw[List.getElem?_map] at he
   cases hy:g[j]? with
   |none=>rw[hy] at he;cases he
   |some y=>
   rw[hy] at he;cases he
   have hj':j<g.length:=(List.getElem?_eq_some_iff.mp hy).1
   have ey:g.getD j 0=y:=by rw[List.getD_eq_getElem?_getD,hy];rfl
   have hyb:=hb y (List.mem_of_getElem? hy)
   have hl:(vv f g i (oQ f g i) j).length=f.length+g.length-1:=by rw[qf,sD]
   have VH:i+j<(vv f g i (oQ f g i) j).length:=by lia
   refine⟨_,jG t 5 6,U4.weak (aC (GH (j:=i+j) (u:=(vv f g i (oQ f g i) j).getD (i+j) 0) t 2 CW rfl (c8 (aa t 3) (aa t 5)) ?_ ?_ (jh (aa t 4) (aa t 6) (jN (by lia) (by lia))) trivial)) ?_⟩
   ·rw[ag];exact Bj (by lia) (by lia) (by lia)
   ·rw[List.getElem?_map,List.getD_eq_getElem?_getD,List.getElem?_eq_getElem VH];rfl
   ·rw[vv,List.map_set,ex,ey]
    exact .keep (.keep (.keep (.keep (.keep (.forget (.forget .nil))))))
  ·rw[me,ag];rfl
 ·rw[me,ag]
 ·refine gJ 2 rfl (aC (bp (U1.eq (a9 t c1 (ab (aa t 2) af) ⟨oQ f g f.length,rfl,by rw[sD];lia,rfl⟩) ?_)))
  rw[DJ h1 h2]
def Am(f g:aS):(qJ f g).length<=max f.length g.length:=by
 have:=ot ((List.range (max f.length g.length)).map fun i=>f.getD i 0+g.getD i 0)
 rw[ag,fA] at this
 exact this
def t4{g:aS}{i:Nat}(h:g.length<=i):g.getD i 0=0:=by rw[List.getD_eq_getElem?_getD,List.getElem?_eq_none h];rfl
def tO(xs:aS)(i:Nat):(fq xs).getD i 0=xs.getD i 0:=by
 have key:∀ys:aS,∀i,(ys.dropWhile (· == 0)).reverse.getD i 0=ys.reverse.getD i 0:=by
  intro ys
  induction ys with
  |nil=>intro i;rfl
  |cons y ys ih=>
   intro i
   by_cases hy:y=0
   ·subst hy
    have:((0:Int)::ys).dropWhile (· == 0)=ys.dropWhile (· == 0):=by simp[List.dropWhile]
    rw[this,ih i,lN]
    rw[List.getD_eq_getElem?_getD,List.getD_eq_getElem?_getD]
    by_cases hi:i<ys.reverse.length
    ·rw[List.getElem?_append_left hi]
    ·rw[List.getElem?_append_right (by lia),List.getElem?_eq_none (by lia)]
     cases z:i-ys.reverse.length with
     |zero=>rfl
     |succ n=>rfl
   ·have:(y::ys).dropWhile (· == 0)=y::ys:=by rw[List.dropWhile_cons_of_neg (by simpa using hy)]
    rw[this]
 have:=key xs.reverse i
 rw[List.reverse_reverse] at this
 exact this
def Is{g:aS}(hf:V7 f)(h:∀i,f.getD i 0=g.getD i 0):f.length<=g.length:=by
 rcases hf with e | ⟨ys,a,e,ha⟩
 ·subst e;exact be _
 ·rcases Hl g.length f.length with z | z
  ·have h1:=h ys.length
   subst e
   rw[t4 (g:=g) (by simp at z;lia)] at h1
   rw[List.getD_eq_getElem?_getD,List.getElem?_append_right (aj _),lJ] at h1
   exact absurd h1 ha
  ·exact z
def Lk(hf:V7 f)(hg:V7 g)(h:∀i,f.getD i 0=g.getD i 0):f=g:=by
 have h1:=Is hf h
 have h2:=Is hg fun i=>(h i).symm
 refine List.ext_getElem (by lia) fun i h3 h4=>?_
 have:=h i
 rw[vw h3,vw h4] at this
 exact this
def HH(xs:aS):V7 (fq xs):=K0 xs
def eC:Nat->(Nat->Int)->Int
 |0,_=>0
 |n+1,h=>eC n h+h n
def qS(h:Nat->Int):∀n,eC (n+1) h=h 0+eC n (fun i=>h (i+1))
 |0=>by simp[eC]
 |n+1=>by
  rw[eC,qS h n,eC];lia
def rQ(h g:Nat->Int):∀n,eC n (fun i=>h i+g i)=eC n h+eC n g
 |0=>rfl
 |n+1=>by rw[eC,rQ h g n,eC,eC];lia
def du{h g:Nat->Int}:∀n,(∀i,i<n->h i=g i)->eC n h=eC n g
 |0,_=>rfl
 |n+1,e=>by rw[eC,eC,du n (fun i hi=>e i (by lia)),e n (by lia)]
def lS:∀n,eC n (fun _=>0)=0
 |0=>rfl
 |n+1=>by rw[eC,lS n];rfl
def rs:aS->(Nat->Int)->Int
 |[],_=>0
 |a::f,ψ=>a*ψ 0+rs f (fun i=>ψ (i+1))
def iq:∀(f:aS) (n:Nat) (ψ:Nat->Int),f.length<=n->rs f ψ=eC n (fun i=>f.getD i 0*ψ i)
 |[],n,ψ,_=>by
  exact((du n fun i _=>by simp).trans (lS n)).symm
 |a::f,0,ψ,h=>by simp at h
 |a::f,n+1,ψ,h=>by
  rw[rs,qS,iq f n _ (by simpa using h)]
  rfl
def Iq:∀(f:aS) (i:Nat),rs f (fun j=>if j=i then 1 else 0)=f.getD i 0
 |[],i=>by simp[rs]
 |a::f,0=>by
  have e:rs f (fun j=>if j+1=0 then 1 else 0)=0:=by
   have:(fun j:Nat=>if j+1=0 then (1:Int) else 0)=fun _=>0:=funext fun j=>aq (by lia)
   rw[this,iq f f.length _ (aj _)]
   exact(du _ fun i _=>by simp).trans (lS _)
  rw[rs,e];simp
 |a::f,i+1=>by
  have e:(fun j:Nat=>if j+1=i+1 then (1:Int) else 0)=fun j=>if j=i then 1 else 0:=funext fun j=>by
   by_cases h:j=i
   ·rw[au h,au (by lia)]
   ·rw[aq h,aq (by lia)]
  rw[rs,e,Iq f i];simp
def Ir{f g:aS}(h:∀i,f.getD i 0=g.getD i 0)(ψ:Nat->Int):rs f ψ=rs g ψ:=by
 rw[iq f (max f.length g.length) ψ (by lia),iq g (max f.length g.length) ψ (by lia)]
 exact du _ fun i _=>by rw[h i]
def AV(ψ:Nat->Int)(h:∀i,ψ i=0)(f:aS):rs f ψ=0:=by
 rw[iq f f.length ψ (aj _)]
 exact(du _ fun i _=>by rw[h i];simp).trans (lS _)
def Im:∀(f:aS) (m:Nat) (v:Int) (ψ:Nat->Int),m<f.length->rs (f.set m v) ψ=rs f ψ+(v-f.getD m 0)*ψ m
 |[],m,v,ψ,h=>by simp at h
 |a::f,0,v,ψ,_=>by
  show v*ψ 0+_=a*ψ 0+_+(v-a)*ψ 0
  rw[Int.sub_mul];lia
 |a::f,m+1,v,ψ,h=>by
  show a*ψ 0+rs (f.set m v) _=a*ψ 0+rs f _+(v-f.getD m 0)*ψ (m+1)
  rw[Im f m v _ (by simpa using h)];lia
def Lj(ψ χ:Nat->Int):∀(f:aS),rs f (fun i=>ψ i+χ i)=rs f ψ+rs f χ:=fun f=>by
 rw[iq f f.length _ (aj _),iq f f.length _ (aj _),iq f f.length _ (aj _),<-rQ]
 exact du _ fun i _=>by rw[KS]
abbrev Bd:=List aS
def ug(b:Bd)(i k:Nat):Int:=(b.getD k []).getD i 0
def bs:Bd->(Nat->Nat->Int)->Int
 |[],_=>0
 |r::b,φ=>rs r (fun i=>φ i 0)+bs b (fun i k=>φ i (k+1))
def oY(i k:Nat):Nat->Nat->Int:=fun a c=>if a=i/\c=k then 1 else 0
def BM:∀(b:Bd) (φ:Nat->Nat->Int),(∀i k,φ i k=0)->bs b φ=0
 |[],_,_=>rfl
 |r::b,φ,h=>by rw[bs,AV _ (fun i=>h i 0),BM b _ fun i k=>h i (k+1)];rfl
def mM:∀(b:Bd) (i k:Nat),bs b (oY i k)=ug b i k
 |[],i,k=>by simp[bs,ug]
 |r::b,i,0=>by
  rw[bs,BM b (fun a c=>oY i 0 a (c+1)) fun a c=>aq (by lia)]
  have e:(fun a:Nat=>oY i 0 a 0)=fun a=>if a=i then 1 else 0:=funext fun a=>by
   unfold oY
   by_cases h:a=i
   ·rw[au ⟨h,rfl⟩,au h]
   ·rw[aq (fun z=>h z.1),aq h]
  rw[e,Iq];simp[ug]
 |r::b,i,k+1=>by
  have e:rs r (fun a=>oY i (k+1) a 0)=0:=AV _ (fun a=>aq (by lia)) r
  have e2:(fun a c:Nat=>oY i (k+1) a (c+1))=oY i k:=funext fun a=>funext fun c=>by
   unfold oY
   by_cases h:a=i/\c=k
   ·rw[au h,au ⟨h.1,by lia⟩]
   ·rw[aq h,aq (fun z=>h ⟨z.1,by lia⟩)]
  rw[bs,e,e2,mM b i k];simp[ug]
def Kh:∀(b:Bd) (m:Nat) (r:aS) (φ:Nat->Nat->Int),m<b.length->bs (b.set m r) φ=bs b φ+(rs r (fun i=>φ i m)-rs (b.getD m []) (fun i=>φ i m))
 |[],m,r,φ,h=>by simp at h
 |a::b,0,r,φ,_=>by
  show rs r _+_=rs a _+_+(rs r _-rs a _)
  lia
 |a::b,m+1,r,φ,h=>by
  show rs a _+bs (b.set m r) _=rs a _+bs b _+(rs r _-rs (b.getD m []) _)
  rw[Kh b m r _ (by simpa using h)];lia
def pb:∀(b:Bd) (n:Nat) (φ:Nat->Nat->Int),b.length<=n->bs b φ=eC n (fun k=>rs (b.getD k []) (fun i=>φ i k))
 |[],n,φ,_=>by
  exact((du n fun i _=>by simp[rs]).trans (lS n)).symm
 |r::b,0,φ,h=>by simp at h
 |r::b,n+1,φ,h=>by
  rw[bs,qS,pb b n _ (by simpa using h)]
  rfl
abbrev aZ(b:Bd):D:=.tup (b.map bU)
abbrev Ag(b:Bd):D:=.lst (b.map bU)
def eZ(xs:Bd):Bd:=(xs.reverse.dropWhile (· == [])).reverse
def jQ(xs:Bd):eZ (xs++[[]])=eZ xs:=by simp[eZ]
def jR{a:aS}(xs:Bd)(h:a≠[]):eZ (xs++[a])=xs++[a]:=by simp[eZ,h]
def pW(xs:Bd):(eZ xs).length<=xs.length:=by
 unfold eZ
 rw[fQ]
 have:=(xU (l:=xs.reverse) (p:=fun x=>x==[])).length_le
 rw[fQ] at this
 exact this
def GB(xs:Bd):xs.take (eZ xs).length=eZ xs:=by
 induction h:xs.length generalizing xs with
 |zero=>rw[aB h];rfl
 |succ n ih=>
  rcases cy xs with e | ⟨ys,y,e⟩
  ·subst e;rfl
  ·rw[cz] at e
   subst e
   by_cases hy:y=[]
   ·subst hy
    rw[jQ]
    have q:=ih ys (by simpa using h)
    have l:=pW ys
    rw[KR l];exact q
   ·rw[jR ys hy,bo]
def HI(xs:Bd):eZ xs=[]\/∃ys a,eZ xs=ys++[a]/\a≠[]:=by
 induction h:xs.length generalizing xs with
 |zero=>left;rw[aB h];rfl
 |succ n ih=>
  rcases cy xs with e | ⟨ys,y,e⟩
  ·subst e;left;rfl
  ·rw[cz] at e
   subst e
   by_cases hy:y=[]
   ·subst hy;rw[jQ];exact ih ys (by simpa using h)
   ·right;exact⟨ys,y,jR ys hy,hy⟩
def y0(ys:Bd)(i:Nat):(ys++[[]]).getD i []=ys.getD i []:=by
 rw[List.getD_eq_getElem?_getD,List.getD_eq_getElem?_getD]
 by_cases h:i<ys.length
 ·rw[List.getElem?_append_left h]
 ·rw[List.getElem?_append_right (by lia),List.getElem?_eq_none (show ys.length<=i by lia)]
  cases(i-ys.length) with
  |zero=>rfl
  |succ n=>rfl
def wb(xs:Bd)(i:Nat):(eZ xs).getD i []=xs.getD i []:=by
 induction h:xs.length generalizing xs with
 |zero=>rw[aB h];rfl
 |succ n ih=>
  rcases cy xs with e | ⟨ys,y,e⟩
  ·subst e;rfl
  ·rw[cz] at e
   subst e
   by_cases hy:y=[]
   ·subst hy;rw[jQ,ih ys (by simpa using h),y0]
   ·rw[jR ys hy]
def Av{x:aS}(h:x∈eZ xs):x∈xs:=by
 unfold eZ at h
 rw[nc] at h
 have:=(xU (p:=fun x=>x==[])).subset h
 exact nc.mp this
def AC(R:Nat->cn)(xs:Bd)(h1:U3 X (R 0) c false)(h2:∀m (h:m<xs.length),U3 X (R (m+1)) c (decide (xs[m]=[])))(h3:∀m,U4 X (R (m+1)) body (.nx (R m))):
  ∀m,m<=xs.length->∃n,WU X c body n (R m) (.nx (R (eZ (xs.take m)).length))
 |0,_=>⟨0,.stop h1⟩
 |m+1,hm=>by
  have VH:m<xs.length:=hm
  have e:xs.take (m+1)=xs.take m++[xs[m]]:=lR (List.getElem?_eq_getElem VH)
  by_cases hz:xs[m]=[]
  ·obtain⟨n,q⟩:=AC R xs h1 h2 h3 m (by lia)
   refine⟨n+1,.step (U3.eq (h2 m VH) (ay hz)) (h3 m) ?_⟩
   rw[e,hz,jQ];exact q
  ·refine⟨0,?_⟩
   rw[e,jR _ hz]
   have el:(xs.take m++[xs[m]]).length=m+1:=by rw[<-e,cu];lia
   rw[el]
   exact .stop (U3.eq (h2 m VH) (ak hz))
def BX{i:Int}{n:Nat}{α:Type}{g:α->D}{xs:List α}(h0:0<=i)(hn:i.toNat=n)(h:n<xs.length):k7 (xs.map g) i=some (g xs[n]):=by
 rw[show i=((n:Nat):Int) by lia]
 have e:(xs.map g)[n]?=some (g xs[n]):=by rw[List.getElem?_map,List.getElem?_eq_getElem h];rfl
 exact ej e
def C5{m:Nat}{α:Type}(xs:List α)(g:α->D)(h:m<=xs.length):cutD (xs.map g) none (some (m:Int))=(xs.take m).map g:=by
 unfold cutD
 rw[ag]
 have e1:HT.Vo xs.length 0 none=0:=by simp[HT.Vo]
 have e2:HT.Vo xs.length xs.length (some (m:Int))=m:=by
  simp only[HT.Vo]
  split<;>lia
 rw[e1,e2,Ca,Nat.sub_zero,List.map_take]
def iT(ds:aU)(d:D):Prop:=(∃xs:aS,ds=[dI xs,.int 0]/\xs.length<1000/\d=bU (fq xs))\/∃xs:Bd,ds=[Ag xs,.tup []]/\xs.length<1000/\d=aZ (eZ xs)
def uS:∀ds d,iT ds d->ds.length=2:=by rintro _ _ (⟨a,rfl,_⟩ | ⟨a,rfl,_⟩)<;>rfl
def qk(ds:aU)(d:D):Prop:=(∃(f:aS) (i:Nat),ds=[bU f,.int i,.int 0]/\d=.int (f.getD i 0))\/∃(f:Bd) (i:Nat),ds=[aZ f,.int i,.tup []]/\d=bU (f.getD i [])
def CS:∀ds d,qk ds d->ds.length=3:=by rintro _ _ (⟨a,b,rfl,_⟩ | ⟨a,b,rfl,_⟩)<;>rfl
def m7(ds:aU)(d:D):Prop:=∃xs:Bd,ds=[Ag xs]/\xs.length<1000/\d=aZ (eZ xs)
def Be:∀ds d,m7 ds d->ds.length=1:=by rintro _ _ ⟨a,rfl,_⟩;rfl
def im(f g:Bd):Bd:=eZ ((List.range (max f.length g.length)).map fun k=>qJ (f.getD k []) (g.getD k []))
def Wn(n:Nat)(f:Bd):Prop:=f.length<n/\∀r∈f,r.length<n
def jH(ds:aU)(d:D):Prop:=∃f g:Bd,ds=[aZ f,aZ g]/\Wn 1000 f/\Wn 1000 g/\d=aZ (im f g)
def xh:∀ds d,jH ds d->ds.length=2:=by rintro _ _ ⟨a,b,rfl,_⟩;rfl
def oS(g:Bd):Bd:=g.map fun r=>r.map fun x=>-x
def iV(ds:aU)(d:D):Prop:=∃f g:Bd,ds=[aZ f,aZ g]/\Wn 1000 f/\Wn 1000 g/\d=aZ (im f (oS g))
def uZ:∀ds d,iV ds d->ds.length=2:=by rintro _ _ ⟨a,b,rfl,_⟩;rfl
def lc(f g:Bd)(j:Nat)(acc:Bd):Nat->Bd
 |0=>acc
 |k+1=>(lc f g j acc k).set (j+k) (qJ ((lc f g j acc k).getD (j+k) []) (gQ (f.getD j []) (g.getD k [])))
def jZ(f g:Bd):Nat->Bd
 |0=>List.replicate (f.length+g.length-1) []
 |j+1=>lc f g j (jZ f g j) g.length
def sP(f g:Bd)(j:Nat)(acc:Bd):∀k,(lc f g j acc k).length=acc.length
 |0=>rfl
 |k+1=>by rw[lc,bM,sP f g j acc k]
def sE(f g:Bd):∀j,(jZ f g j).length=f.length+g.length-1
 |0=>dF
 |j+1=>by rw[jZ,sP,sE f g j]
def ip(f g:Bd):Bd:=if f=[]\/g=[] then [] else eZ (jZ f g f.length)
def sQ{xs:Bd}(i:Nat):xs.getD i []=[]\/xs.getD i []∈xs:=by
 rw[List.getD_eq_getElem?_getD]
 by_cases h:i<xs.length
 ·right;rw[List.getElem?_eq_getElem h];exact gb _
 ·left;rw[List.getElem?_eq_none (by lia)];rfl
def Wn.get(h:Wn n f)(h0:0<n)(i:Nat):(f.getD i []).length<n:=by
 rcases sQ i with e | e
 ·rw[e];exact h0
 ·exact h.2 _ e
def vt{acc:Bd}(hf:Wn 100 f)(hg:Wn 100 g)(j:Nat)(ha:∀r∈acc,r.length<200):∀k,∀r∈lc f g j acc k,r.length<200
 |0,r,hr=>ha r hr
 |k+1,r,hr=>by
  rw[lc] at hr
  rcases P3 hr with h | h
  ·exact vt hf hg j ha k r h
  ·subst h
   have h1:=Am ((lc f g j acc k).getD (j+k) []) (gQ (f.getD j []) (g.getD k []))
   have h2:=wg (f.getD j []) (g.getD k [])
   have h3:=hf.get (by lia) j
   have h4:=hg.get (by lia) k
   have h5:((lc f g j acc k).getD (j+k) []).length<200:=by
    rcases sQ (j+k) with e | e
    ·rw[e];decide
    ·exact vt hf hg j ha k _ e
   lia
def FE(hf:Wn 100 f)(hg:Wn 100 g):∀j,∀r∈jZ f g j,r.length<200
 |0,r,hr=>by rw[jZ] at hr;rw[(List.mem_replicate.mp hr).2];decide
 |j+1,r,hr=>vt hf hg j (FE hf hg j) g.length r hr
def iU(ds:aU)(d:D):Prop:=∃f g:Bd,ds=[aZ f,aZ g]/\Wn 100 f/\Wn 100 g/\(∀r∈g,∀y∈r,-(2 ^ 63)<y/\y<2 ^ 63)/\d=aZ (ip f g)
def uY:∀ds d,iU ds d->ds.length=2:=by rintro _ _ ⟨a,b,rfl,_⟩;rfl
def ze(h:DefX P w K mg base k lj (ai iI) X)(Vc:mg "len"=none)(Vf:mg "tuple"=none):
  Go X lj iI iT:=by
 have t:=h.at'
 haveI:=h.VI
 have b1:=h.bt Vc
 have b2:=h.bt Vf
 rintro ds d (⟨xs,rfl,hl,rfl⟩ | ⟨xs,rfl,hl,rfl⟩)
 ·show U4 X [.val (dI xs),.val (.int 0),.un] _ _
  refine ax (bS t 2 (U1.eq (dy t b1 (U1.ql (aa t 0))) (by rw[ag]))) ?_
  refine ax (sw t (C6 (fun m=>[.val (dI xs),.val (.int 0),.val (.int (m:Int))]) xs ?_ (fun m hm=>?_) (fun m=>?_) xs.length (aj _))) (aC (bp (U1.eq (j5 t b2 (U9.toQ (kZ (U1.ql (aa t 0)) ma (fM (aa t 2))))) ?_)))
  ·exact Wj.toT (mK (U3.eq (hW (aa t 2) ah) rfl))
  ·refine Wj.toT (kY (U3.eq (hW (aa t 2) ah) (ay (by lia))) (qg (dM (cb (U1.ql (aa t 0)) (iw (aa t 2) ah) ?_) (aa t 1))))
   exact tu (by lia) (by lia) hm
  ·refine U4.eq (aC (Ct t 2 rfl ah)) ?_
   have e:((m+1:Nat):Int)-1=(m:Int):=by lia
   show Out.nx [_,_,.val (.int (((m+1:Nat):Int)-1))]=_
   rw[e]
  ·rw[bo,C5 xs D.int (ot xs),HG]
 ·show U4 X [.val (Ag xs),.val (.tup []),.un] _ _
  refine ax (bS t 2 (U1.eq (dy t b1 (U1.ql (aa t 0))) (by rw[ag]))) ?_
  refine ax (sw t (AC (fun m=>[.val (Ag xs),.val (.tup []),.val (.int (m:Int))]) xs ?_ (fun m hm=>?_) (fun m=>?_) xs.length (aj _))) (aC (bp (U1.eq (j5 t b2 (U9.toQ (kZ (U1.ql (aa t 0)) ma (fM (aa t 2))))) ?_)))
  ·exact Wj.toT (mK (U3.eq (hW (aa t 2) ah) rfl))
  ·refine Wj.toT (kY (U3.eq (hW (aa t 2) ah) (ay (by lia))) (qg (iy t (U1.p (cb (U1.ql (aa t 0)) (iw (aa t 2) ah) ?_)) (U1.p (aa t 1)) (bz _) (bz _) (hZ _ _))))
   exact BX (by lia) (by lia) hm
  ·refine U4.eq (aC (Ct t 2 rfl ah)) ?_
   have e:((m+1:Nat):Int)-1=(m:Int):=by lia
   show Out.nx [_,_,.val (.int (((m+1:Nat):Int)-1))]=_
   rw[e]
  ·rw[bo,C5 xs bU (pW xs),GB]
def Hb(h:DefX P w K mg base k uo (ai pZ) X)(Vc:mg "len"=none):
  Go X uo pZ qk:=by
 have t:=h.at'
 have b1:=h.bt Vc
 rintro ds d (⟨f,i,rfl,rfl⟩ | ⟨f,i,rfl,rfl⟩)
 ·show U4 X [.val (bU f),.val (.int i),.val (.int 0)] _ _
  by_cases hi:i<f.length
  ·exact aC (bp (t9 (U3.eq (fg (aa t 1) (dy t b1 (U1.qt (aa t 0)))) (ay (by rw[ag];lia))) (cb (U1.qt (aa t 0)) (aa t 1) (xL hi))))
  ·refine aC (bp (ua (U3.eq (fg (aa t 1) (dy t b1 (U1.qt (aa t 0)))) (ak (by rw[ag];lia))) (U1.eq (aa t 2) ?_)))
   rw[List.getD_eq_getElem?_getD,List.getElem?_eq_none (by lia)];rfl
 ·show U4 X [.val (aZ f),.val (.int i),.val (.tup [])] _ _
  by_cases hi:i<f.length
  ·refine aC (bp (t9 (U3.eq (fg (aa t 1) (dy t b1 (U1.qt (aa t 0)))) (ay (by rw[ag];lia))) (cb (U1.qt (aa t 0)) (aa t 1) ?_)))
   rw[BX (by lia) (by lia) hi,List.getD_eq_getElem?_getD,List.getElem?_eq_getElem hi];rfl
  ·refine aC (bp (ua (U3.eq (fg (aa t 1) (dy t b1 (U1.qt (aa t 0)))) (ak (by rw[ag];lia))) (U1.eq (aa t 2) ?_)))
   rw[List.getD_eq_getElem?_getD,List.getElem?_eq_none (by lia)];rfl
def Kn(h:DefX P w K mg base k xN (ai sy) X)(c1:Callee X "without_end" iT):
  Go X xN sy tE:=by
 rintro ds d ⟨xs,rfl,hl,rfl⟩
 have t:=h.at'
 show U4 X [.val (dI xs)] _ _
 exact aC (bp (a9 t c1 (ab (aa t 0) (ab ah af)) (.inl ⟨xs,rfl,hl,rfl⟩)))
def EO(h:DefX P w K mg base k rm (ai mF) X)(c1:Callee X "without_end" iT):
  Go X rm mF m7:=by
 rintro ds d ⟨xs,rfl,hl,rfl⟩
 have t:=h.at'
 show U4 X [.val (Ag xs)] _ _
 exact aC (bp (a9 t c1 (ab (aa t 0) (ab (aD af) af)) (.inr ⟨xs,rfl,hl,rfl⟩)))
def EL(h:DefX P w K mg base k rg (ai mB) X)(XM:mg "max"=none)(Vc:mg "len"=none)(Vn:mg "range"=none)(c1:Callee X "row_of" tE)(c2:Callee X "part_at" qk):
  Go X rg mB mY:=by
 rintro ds d ⟨f,g,rfl,hf,hg,rfl⟩
 have t:=h.at'
 haveI:=h.VI
 have b1:=h.bt XM
 have b2:=h.bt Vc
 have b3:=h.bt Vn
 show U4 X [.val (bU f),.val (bU g),.un] _ _
 refine ax (bS (d:=.int ((max f.length g.length:Nat):Int)) t 2 (U1.eq (Br t b1 (dy t b2 (U1.qt (aa t 0))) (dy t b2 (U1.qt (aa t 1)))) (by rw[ag,ag];congr 1;lia))) ?_
 refine aC (bp (a9 t c1 (ab (U1.eq (U9.Vm (iS (rs:=(List.range (max f.length g.length)).map fun i=>D.int (f.getD i 0+g.getD i 0)) t ["f", "g", "many", "power"] (KO (by decide)) (fj t b3 (aa t 2) (by lia) (by lia)) (by simp[dH];exact wk (by lia)) fun X' cx=>?_)) (by show D.lst _=D.lst _;rw[cM];rfl)) af) ⟨_,rfl,by rw[ag,fA];lia,rfl⟩))
 rw[ba]
 exact VP.gen (fun(i:Nat)=>D.int (0+(i:Int))) _ (fun(i:Nat)=>[.val (bU f),.val (bU g),.val (.int ((max f.length g.length:Nat):Int)),.val (.int (i:Int))]) _ _ (fun x hx=>by rw[gG];exact cH cx.at' 3) (fun x hx y hy=>by rw[gG];exact cH cx.at' 3) fun x hx=>
  c8 (a9 cx.at' (cx.callee c2) (ab (aa cx.at' 0 rfl) (ab (aa cx.at' 3 rfl) (ab ah af))) (.inl ⟨f,x,rfl,rfl⟩)) (a9 cx.at' (cx.callee c2) (ab (aa cx.at' 1 rfl) (ab (aa cx.at' 3 rfl) (ab ah af))) (.inl ⟨g,x,rfl,rfl⟩))
def BW(h:DefX P w K mg base k mV (ai jC) X)(XM:mg "max"=none)(Vc:mg "len"=none)(Vn:mg "range"=none)(c1:Callee X "board_of" m7)(c2:Callee X "row_plus" mY)(c3:Callee X "part_at" qk):
  Go X mV jC jH:=by
 rintro ds d ⟨f,g,rfl,hf,hg,rfl⟩
 have t:=h.at'
 haveI:=h.VI
 have b1:=h.bt XM
 have b2:=h.bt Vc
 have b3:=h.bt Vn
 have lf:=hf.1
 have lg:=hg.1
 show U4 X [.val (aZ f),.val (aZ g),.un] _ _
 refine ax (bS (d:=.int ((max f.length g.length:Nat):Int)) t 2 (U1.eq (Br t b1 (dy t b2 (U1.qt (aa t 0))) (dy t b2 (U1.qt (aa t 1)))) (by rw[ag,ag];congr 1;lia))) ?_
 refine aC (bp (a9 t c1 (ab (U1.eq (U9.Vm (iS (rs:=(List.range (max f.length g.length)).map fun k=>bU (qJ (f.getD k []) (g.getD k []))) t ["f", "g", "many", "power"] (KO (by decide)) (fj t b3 (aa t 2) (by lia) (by lia)) (by simp[dH];exact wk (by lia)) fun X' cx=>?_)) (by show D.lst _=D.lst _;rw[cM];rfl)) af) ⟨_,rfl,by rw[ag,fA];lia,rfl⟩))
 rw[ba]
 exact VP.gen (fun(i:Nat)=>D.int (0+(i:Int))) _ (fun(i:Nat)=>[.val (aZ f),.val (aZ g),.val (.int ((max f.length g.length:Nat):Int)),.val (.int (i:Int))]) _ _ (fun x hx=>by rw[gG];exact cH cx.at' 3) (fun x hx y hy=>by rw[gG];exact cH cx.at' 3) fun x hx=>
  a9 cx.at' (cx.callee c2) (ab (a9 cx.at' (cx.callee c3) (ab (aa cx.at' 0 rfl) (ab (aa cx.at' 3 rfl) (ab (aD af) af))) (.inr ⟨f,x,rfl,rfl⟩)) (ab (a9 cx.at' (cx.callee c3) (ab (aa cx.at' 1 rfl) (ab (aa cx.at' 3 rfl) (ab (aD af) af))) (.inr ⟨g,x,rfl,rfl⟩)) af)) ⟨_,_,rfl,hf.get (by lia) x,hg.get (by lia) x,rfl⟩
def zj(h:DefX P w K mg base k lv (ai iO) X)(Vf:mg "tuple"=none)(c1:Callee X "board_plus" jH)(c2:Callee X "other_sign" m4):
  Go X lv iO iV:=by
 rintro ds d ⟨f,g,rfl,hf,hg,rfl⟩
 have t:=h.at'
 haveI:=h.VI
 have b1:=h.bt Vf
 show U4 X [.val (aZ f),.val (aZ g)] _ _
 refine aC (bp (a9 t c1 (ab (aa t 0) (ab (U1.eq (j5 t b1 (U9.toQ (iS (rs:=g.map fun r=>bU (r.map fun x=>-x)) t ["f", "g", "row"] (KO (by decide)) (xz (aa t 1)) (by rw[ag];exact wk hg.1) fun X' cx=>?_))) (by show D.tup _=D.tup _;unfold oS;rw[cM];rfl)) af)) ⟨f,oS g,rfl,hf,?_,rfl⟩))
 ·exact VP.gen bU _ (fun r=>[.val (aZ f),.val (aZ g),.val (bU r)]) _ _ (fun x hx=>cH cx.at' 2) (fun x hx y hy=>cH cx.at' 2) fun x hx=>
   a9 cx.at' (cx.callee c2) (ab (aa cx.at' 2 rfl) af) ⟨x,rfl,hg.2 x hx,rfl⟩
 ·unfold oS
  refine⟨by rw[ag];exact hg.1,fun r hr=>?_⟩
  obtain⟨q,hq,rfl⟩:=List.mem_map.mp hr
  rw[ag];exact hg.2 q hq
def Iw(n:Nat):(List.replicate n [D.tup []]).flatten=(List.replicate n ([]:aS)).map bU:=by
 induction n with
 |zero=>rfl
 |succ n ih=>rw[aA,bj,ih,aA,aT];rfl
def iz(f:Bd):(e8 (aZ f)).eqv (e8 (.tup []))=decide (f=[]):=by
 show(PyData.tuple (Vb (f.map bU))).eqv (.tuple (Vb []))=_
 cases f with
 |nil=>simp[Vb,PyData.eqv,PyData.eqvAll]
 |cons r f=>simp[Vb,PyData.eqv,PyData.eqvAll]
def Fn(n:Nat)(d:D):Prop:=(e8 d).canLay0=true/\(e8 d).depth<=n/\(e8 d).eqv (e8 d)=true
def Fn.int(i:Int):Fn 1 (.int i):=⟨rfl,by simp[e8,PyData.depth],by simp[e8,PyData.eqv]⟩
def Fn.all:∀{xs:aU},(∀x∈xs,Fn n x)->PyData.canLayAll0 (Vb xs)=true/\PyData.depthAll (Vb xs)<=n/\PyData.eqvAll (Vb xs) (Vb xs)=true
 |[],_=>⟨rfl,by simp[Vb,PyData.depthAll],by simp[Vb,PyData.eqvAll]⟩
 |x::xs,h=>by
  obtain⟨a1,a2,a3⟩:=h x (by simp)
  obtain⟨b1,b2,b3⟩:=Fn.all (xs:=xs) fun y hy=>h y (by simp[hy])
  refine⟨?_,?_,?_⟩
  ·simp only[Vb,PyData.canLayAll0,a1,b1];rfl
  ·simp only[Vb,PyData.depthAll];lia
  ·simp only[Vb,PyData.eqvAll,a3,b3];rfl
def Fn.tup{xs:aU}(h:∀x∈xs,Fn n x):Fn (n+1) (.tup xs):=by
 obtain⟨b1,b2,b3⟩:=Fn.all h
 exact⟨by simp only[e8,PyData.canLay0];exact b1,by simp only[e8,PyData.depth];lia,by simp only[e8,PyData.eqv];exact b3⟩
def Fn.lst{xs:aU}(h:∀x∈xs,Fn n x):Fn (n+1) (.lst xs):=by
 obtain⟨b1,b2,b3⟩:=Fn.all h
 exact⟨by simp only[e8,PyData.canLay0];exact b1,by simp only[e8,PyData.depth];lia,by simp only[e8,PyData.eqv];exact b3⟩
def Fn.sh(h:Fn n d)(hn:n<=64):SeqAt.shaped (e8 d)=true:=by
 show((e8 d).canLay0&&decide ((e8 d).depth<=64))=true
 rw[h.1,ay (ar h.2.1 hn)];rfl
def Bo(r:aS):Fn 2 (bU r):=Fn.tup fun x hx=>by
 obtain⟨i,_,rfl⟩:=List.mem_map.mp hx;exact Fn.int i
def C0(b:Bd):Fn 3 (aZ b):=Fn.tup fun x hx=>by
 obtain⟨r,_,rfl⟩:=List.mem_map.mp hx;exact Bo r
def L1(b:Bd):Fn 3 (Ag b):=Fn.lst fun x hx=>by
 obtain⟨r,_,rfl⟩:=List.mem_map.mp hx;exact Bo r
def fH(f:Bd):SeqAt.shaped (e8 (aZ f))=true:=(C0 f).sh (by decide)
def Mj(t:At X N sc)(f:Fn n d)(ha:U1 X ρ a d)(hb:U1 X ρ b d)(hn:n<=64:=by decide):U3 X ρ (.Compare a [.NotEq] [b] pos) false:=
 qY t ha.p hb.p (f.sh hn) (f.sh hn) (by rw[f.2.2];rfl)
def zh(h:DefX P w K mg base k lu (ai gh) X)(Wt:mg "enumerate"=none)(Vc:mg "len"=none)(c1:Callee X "board_of" m7)(c2:Callee X "row_plus" mY)(c3:Callee X "row_times" pH):
  Go X lu gh iU:=by
 rintro ds d ⟨f,g,rfl,hf,hg,hb,rfl⟩
 have t:=h.at'
 haveI:=h.VI
 have b1:m8 X (ai gh) "enumerate" (.type "enumerate"):=EI (by rw[h.WD];exact Wt) rfl (by decide)
 have b2:=h.bt Vc
 have s0:SeqAt.shaped (e8 (.tup []))=true:=bz []
 show U4 X [.val (aZ f),.val (aZ g),.un,.un,.un,.un,.un] _ _
 by_cases h1:f=[]
 ·refine gB (e9 (Wj.toT (t6 (iy t (U1.p (aa t 0)) (U1.p (aD af)) (fH _) s0 (by rw[iz,h1];rfl)))) (aC (bp (U1.eq (aD af) ?_))))
  unfold ip;rw[au (.inl h1)];rfl
 by_cases h2:g=[]
 ·refine gB (e9 (Wj.toT (lh (iy t (U1.p (aa t 0)) (U1.p (aD af)) (fH _) s0 (by rw[iz,ak h1])) (oX (iy t (U1.p (aa t 1)) (U1.p (aD af)) (fH _) s0 (by rw[iz,h2];rfl))))) (aC (bp (U1.eq (aD af) ?_))))
  unfold ip;rw[au (.inr h2)];rfl
 have et:ip f g=eZ (jZ f g f.length):=by unfold ip;rw[aq (fun z=>z.elim h1 h2)]
 have lf:=List.length_pos_iff.mpr h1
 have lg:=List.length_pos_iff.mpr h2
 have lf':=hf.1
 have lg':=hg.1
 refine ax (cA (Wj.toT (lh (iy t (U1.p (aa t 0)) (U1.p (aD af)) (fH _) s0 (by rw[iz,ak h1])) (oX (iy t (U1.p (aa t 1)) (U1.p (aD af)) (fH _) s0 (by rw[iz,ak h2]))))) bR) ?_
 have en:((f.length:Int)+g.length-1).toNat=f.length+g.length-1:=by lia
 refine ax (jV (xs:=(jZ f g 0).map bU) t 2 (U9.eq (ud (U9.Vm (bb (ab (aD af) af))) (U1.eq (iw (c8 (dy t b2 (U1.qt (aa t 0))) (dy t b2 (U1.qt (aa t 1)))) ah) (by rw[ag,ag])) (by lia) (by lia) (by rw[en];have:=CQ;simp;lia)) (by rw[en,Iw];rfl))) ?_
 refine ax (ρ':=[.val (aZ f),.val (aZ g),.own ((jZ f g f.length).map bU),.un,.un,.un,.un]) (i6 t (v4 t b1 (aa t 0)) (Vt.VD (fun i=>[.val (aZ f),.val (aZ g),.own ((jZ f g i).map bU),.un,.un,.un,.un]) (fun i d hi=>?_) rfl ?_)) ?_
 ·obtain⟨e,he,rfl⟩:=mf hi
  rw[List.getElem?_map] at he
  cases hx:f[i]? with
  |none=>rw[hx] at he;cases he
  |some x=>
  rw[hx] at he;cases he
  have hi':i<f.length:=(List.getElem?_eq_some_iff.mp hx).1
  have ex:f.getD i []=x:=by rw[List.getD_eq_getElem?_getD,hx];rfl
  refine⟨_,jG t 3 4,U4.weak (ρ1:=[.val (aZ f),.val (aZ g),.own ((jZ f g (i+1)).map bU),.val (.int i),.val (bU x),.un,.un]) (aC (i6 t (v4 t b1 (aa t 1))
   (Vt.VD (fun j=>[.val (aZ f),.val (aZ g),.own ((lc f g i (jZ f g i) j).map bU),.val (.int i),.val (bU x),.un,.un]) (fun j d hj=>?_) rfl ?_))) (.keep (.keep (.keep (.forget (.forget (.keep (.keep .nil)))))))⟩
  ·obtain⟨e,he,rfl⟩:=mf hj
   rw[List.getElem?_map] at he
   cases hy:g[j]? with
   |none=>rw[hy] at he;cases he
   |some y=>
   rw[hy] at he;cases he
   have hj':j<g.length:=(List.getElem?_eq_some_iff.mp hy).1
   have ey:g.getD j []=y:=by rw[List.getD_eq_getElem?_getD,hy];rfl
   have hl:(lc f g i (jZ f g i) j).length=f.length+g.length-1:=by rw[sP,sE]
   have VH:i+j<(lc f g i (jZ f g i) j).length:=by lia
   have e1:((i:Int)+(j:Int))=((i+j:Nat):Int):=by lia
   have hix:k7 ((lc f g i (jZ f g i) j).map bU) ((i:Int)+(j:Int))=some (bU ((lc f g i (jZ f g i) j).getD (i+j) [])):=by
    rw[BX (by lia) (by lia) VH,List.getD_eq_getElem?_getD,List.getElem?_eq_getElem VH];rfl
   have h3:=hf.get (by lia) i
   have h4:=hg.get (by lia) j
   have h5:((lc f g i (jZ f g i) j).getD (i+j) []).length<200:=by
    rcases sQ (i+j) with e | e
    ·rw[e];decide
    ·exact vt hf hg i (FE hf hg i) j _ e
   have h6:=wg (f.getD i []) (g.getD j [])
   rw[ex] at h3 h6
   rw[ey] at h4 h6
   refine⟨_,jG t 5 6,U4.weak (aC (uF t (a9 t c2 (ab (cb (eQ t 2 rfl) (c8 (aa t 3) (aa t 5)) hix) (ab (a9 t c3 (ab (aa t 4) (ab (aa t 6) af)) ⟨x,y,rfl,h3,h4,hb y (List.mem_of_getElem? hy),rfl⟩) af)) ⟨_,_,rfl,by lia,by lia,rfl⟩) (Mp (j:=i+j) t 2 rfl (c8 (aa t 3) (aa t 5)) ?_))) ?_⟩
   ·rw[ag];exact Bj (by lia) (by lia) (by lia)
   ·rw[lc,List.map_set,ex,ey]
    exact .keep (.keep (.keep (.keep (.keep (.forget (.forget .nil))))))
  ·rw[me,ag];rfl
 ·rw[me,ag]
 ·refine gJ 2 rfl (aC (bp (U1.eq (a9 t c1 (ab (aa t 2) af) ⟨jZ f g f.length,rfl,by rw[sE];lia,rfl⟩) ?_)))
  rw[et]
abbrev nk(i k:Nat):aS:=[(i:Int),(k:Int)]
def OA{k:Nat}(h:nk i k=nk a c):i=a/\k=c:=by
 have h1:=(DE h).1
 have h2:=(DE (DE h).2).1
 lia
def ds:eG->(Nat->Nat->Int)->Int
 |[],_=>0
 |p::r,φ=>p.2*φ (p.1.getD 0 0).toNat (p.1.getD 1 0).toNat+ds r φ
structure V0(kvs:eG):Prop where
 keys:∀p∈kvs,∃i k:Nat,p.1=nk i k
 nd:(kvs.map (·.1)).Nodup
def V0.nil:V0 []:=⟨fun _ h=>(nomatch h),List.nodup_nil⟩
def lQ(p:aS×Int)(r:eG)(k:aS):c7 (p::r) k=if p.1=k then some p.2 else c7 r k:=by
 unfold c7
 rw[List.find?_cons]
 by_cases h:p.1=k
 ·rw[au h,ay h];rfl
 ·rw[aq h,ak h]
def tK{k:aS}:∀{kvs:eG},(∀p∈kvs,p.1≠k)->c7 kvs k=none
 |[],_=>rfl
 |p::r,h=>by rw[lQ,aq (h p (by simp)),tK fun q hq=>h q (by simp[hq])]
def oq:∀{kvs:eG},(kvs.map (·.1)).Nodup->(k,v)∈kvs->c7 kvs k=some v
 |[],_,h=>nomatch h
 |p::r,nd,h=>by
  rw[aT,cg] at nd
  rw[lQ]
  rcases aM.mp h with e | h
  ·rw[<-e,au rfl]
  ·have hm:k∈r.map (·.1):=List.mem_map.mpr ⟨_,h,rfl⟩
   rw[aq (fun z:p.1=k=>nd.1 (by rw[z];exact hm)),oq nd.2 h]
def Cw{q:aS×Int}(h:q∈gK kvs k v):q=(k,v)\/q∈kvs:=by
 unfold gK at h
 split at h
 ·obtain⟨p,hp,e⟩:=List.mem_map.mp h
  by_cases z:p.1=k
  ·rw[au z] at e;left;rw[<-e,z]
  ·rw[aq z] at e;right;rw[<-e];exact hp
 ·rcases List.mem_append.mp h with h | h
  ·exact .inr h
  ·exact .inl (aE.mp h)
def GJ:(gK kvs k v).map (·.1)=if (c7 kvs k).isSome=true then kvs.map (·.1) else kvs.map (·.1)++[k]:=by
 unfold gK
 split
 ·rw[cM]
  refine qm fun p _=>?_
  show(if p.1=k then (p.1,v) else p).1=p.1
  split<;>rfl
 ·rw[aJ];rfl
def V0.put(h:V0 kvs)(i k:Nat)(v:Int):V0 (gK kvs (nk i k) v):=by
 refine⟨fun p hp=>?_,?_⟩
 ·rcases Cw hp with e | e
  ·exact⟨i,k,by rw[e]⟩
  ·exact h.keys p e
 ·rw[GJ]
  split
  ·exact h.nd
  ·rename_i hn
   refine List.nodup_append.mpr ⟨h.nd,by simp,fun a ha b hb e=>hn ?_⟩
   rw[aE] at hb
   subst hb e
   obtain⟨p,hp,e⟩:=List.mem_map.mp ha
   have:c7 kvs p.1=some p.2:=oq h.nd hp
   rw[<-e,this];rfl
def AA(φ:Nat->Nat->Int):∀(a b:eG),ds (a++b) φ=ds a φ+ds b φ
 |[],b=>by simp[ds]
 |p::a,b=>by rw[List.cons_append,ds,ds,AA φ a b];lia
def Ge(φ:Nat->Nat->Int)(i k:Nat)(v:Int):∀(kvs:eG),(kvs.map (·.1)).Nodup->ds (kvs.map fun p=>if p.1=nk i k then (p.1,v) else p) φ=ds kvs φ+(match c7 kvs (nk i k) with | some o=>(v-o)*φ i k | none=>0)
 |[],_=>rfl
 |p::r,nd=>by
  rw[aT,cg] at nd
  rw[aT,ds,ds,Ge φ i k v r nd.2,lQ]
  by_cases e:p.1=nk i k
  ·rw[au e,au e,tK fun q hq z=>nd.1 (by rw[e,<-z];exact List.mem_map.mpr ⟨_,hq,rfl⟩)]
   have e1:(p.1.getD 0 0).toNat=i:=by rw[e];simp
   have e2:(p.1.getD 1 0).toNat=k:=by rw[e];simp
   simp only[e1,e2]
   rw[Int.sub_mul];lia
  ·rw[aq e,aq e];lia
def J4(h:V0 kvs)(i k:Nat)(v:Int)(φ:Nat->Nat->Int):ds (gK kvs (nk i k) v) φ=ds kvs φ+(v-(c7 kvs (nk i k)).getD 0)*φ i k:=by
 unfold gK
 cases e:c7 kvs (nk i k) with
 |none=>
  rw[aq (by simp),AA]
  show ds kvs φ+(v*φ i k+0)=_
  simp
 |some o=>
  rw[au (by rfl),Ge φ i k v kvs h.nd,e];rfl
def Pg(h:V0 kvs)(i k:Nat):ds kvs (oY i k)=(c7 kvs (nk i k)).getD 0:=by
 obtain⟨hk,nd⟩:=h
 induction kvs with
 |nil=>rfl
 |cons p r ih=>
  rw[aT,cg] at nd
  obtain⟨a,c,e⟩:=hk p (by simp)
  have e1:(p.1.getD 0 0).toNat=a:=by rw[e];simp
  have e2:(p.1.getD 1 0).toNat=c:=by rw[e];simp
  have ih':=ih (fun q hq=>hk q (by simp[hq])) nd.2
  rw[ds,ih',lQ,e1,e2]
  by_cases z:a=i/\c=k
  ·have q:p.1=nk i k:=by rw[e,z.1,z.2]
   rw[au q,tK fun x hx w=>nd.1 (by rw[q,<-w];exact List.mem_map.mpr ⟨_,hx,rfl⟩)]
   unfold oY
   rw[au z];simp
  ·rw[aq (fun q=>z (OA (e.symm.trans q)))]
   unfold oY
   rw[aq z];simp
def qj(kvs:eG):Bd:=eZ ((List.range 9).map fun k=>fq ((List.range 9).map fun i=>(c7 kvs (nk i k)).getD 0))
def Va(b:Bd):Prop:=(b=[]\/∃ys a,b=ys++[a]/\a≠[])/\∀r∈b,V7 r
def wB(n i:Nat)(h:Nat->Int):((List.range n).map h).getD i 0=if i<n then h i else 0:=by
 rw[List.getD_eq_getElem?_getD,List.getElem?_map]
 by_cases e:i<n
 ·rw[au e,List.getElem?_range e];rfl
 ·rw[aq e,List.getElem?_eq_none (by simpa using e)];rfl
def wC(n i:Nat)(h:Nat->aS):((List.range n).map h).getD i []=if i<n then h i else []:=by
 rw[List.getD_eq_getElem?_getD,List.getElem?_map]
 by_cases e:i<n
 ·rw[au e,List.getElem?_range e];rfl
 ·rw[aq e,List.getElem?_eq_none (by simpa using e)];rfl
def BF(kvs:eG)(i k:Nat):ug (qj kvs) i k=if i<9/\k<9 then (c7 kvs (nk i k)).getD 0 else 0:=by
 unfold ug qj
 rw[wb,wC]
 by_cases hk:k<9
 ·rw[au hk,tO,wB]
  by_cases hi:i<9
  ·rw[au hi,au ⟨hi,hk⟩]
  ·rw[aq hi,aq (fun z=>hi z.1)]
 ·rw[aq hk,aq (fun z=>hk z.2)];rfl
def k9{xs:Bd}(h:∀r∈xs,V7 r):Va (eZ xs):=⟨HI xs,fun r hr=>h r (Av hr)⟩
def EH(kvs:eG):Va (qj kvs):=k9 fun r hr=>by
 obtain⟨k,_,rfl⟩:=List.mem_map.mp hr;exact HH _
def V7.nil:V7 []:=.inl rfl
def Va.row(h:Va b)(k:Nat):V7 (b.getD k []):=by
 rcases sQ k with e | e
 ·rw[e];exact .nil
 ·exact h.2 _ e
def De{b:Bd}(ha:Va a)(h:∀k,a.getD k []=b.getD k []):a.length<=b.length:=by
 rcases ha.1 with e | ⟨ys,r,e,hr⟩
 ·subst e;exact be _
 ·rcases Hl b.length a.length with z | z
  ·have h1:=h ys.length
   have e2:b.getD ys.length []=[]:=by
    rw[List.getD_eq_getElem?_getD,List.getElem?_eq_none (by rw[e] at z;simp at z;lia)];rfl
   rw[e2,e,List.getD_eq_getElem?_getD,List.getElem?_append_right (aj _),lJ] at h1
   exact absurd h1 hr
  ·exact z
def uj(ha:Va a)(hb:Va b)(h:∀i k,ug a i k=ug b i k):a=b:=by
 have hr:∀k,a.getD k []=b.getD k []:=fun k=>Lk (ha.row k) (hb.row k) fun i=>h i k
 have h1:=De ha hr
 have h2:=De hb fun k=>(hr k).symm
 refine List.ext_getElem (by lia) fun k h3 h4=>?_
 have:=hr k
 rw[List.getD_eq_getElem?_getD,List.getD_eq_getElem?_getD,List.getElem?_eq_getElem h3,List.getElem?_eq_getElem h4] at this
 exact this
def GO(f g:aS)(i:Nat):(qJ f g).getD i 0=f.getD i 0+g.getD i 0:=by
 unfold qJ
 rw[tO,wB]
 by_cases h:i<max f.length g.length
 ·rw[au h]
 ·rw[aq h,t4 (show f.length<=i by lia),t4 (show g.length<=i by lia)];rfl
def Cz(f g:aS):V7 (qJ f g):=HH _
def jW(f g:Bd):Va (im f g):=k9 fun r hr=>by
 obtain⟨k,_,rfl⟩:=List.mem_map.mp hr;exact Cz _ _
def Fl(f g:aS)(ψ:Nat->Int):rs (qJ f g) ψ=rs f ψ+rs g ψ:=by
 have hl:=Am f g
 rw[iq (qJ f g) (max f.length g.length) ψ hl,iq f (max f.length g.length) ψ (by lia),iq g (max f.length g.length) ψ (by lia),<-rQ]
 exact du _ fun i _=>by rw[GO,Int.add_mul]
def Cq(c:Int)(h:Nat->Int):∀n,eC n (fun i=>c*h i)=c*eC n h
 |0=>by simp[eC]
 |n+1=>by rw[eC,Cq c h n,eC,KS]
def Ip(f g:aS)(i:Nat)(acc:aS)(ψ:Nat->Int):∀j,i+j<=acc.length->rs (vv f g i acc j) ψ=rs acc ψ+eC j (fun a=>f.getD i 0*(g.getD a 0*ψ (i+a)))
 |0,_=>by simp[vv,eC]
 |j+1,h=>by
  rw[vv,Im _ _ _ _ (by rw[qf];lia),Ip f g i acc ψ j (by lia),eC]
  have e:(vv f g i acc j).getD (i+j) 0+f.getD i 0*g.getD j 0-(vv f g i acc j).getD (i+j) 0=f.getD i 0*g.getD j 0:=by lia
  rw[e,RN];lia
def Li(n:Nat)(ψ:Nat->Int):rs (List.replicate n 0) ψ=0:=by
 have h:∀i,(List.replicate n (0:Int)).getD i 0=([]:aS).getD i 0:=fun i=>by
  rw[List.getD_eq_getElem?_getD,List.getElem?_replicate]
  split<;>simp
 rw[Ir h];rfl
def Fm(f g:aS)(ψ:Nat->Int):∀i,i<=f.length->rs (qU f g i) ψ=eC i (fun j=>f.getD j 0*rs g (fun a=>ψ (j+a)))
 |0,_=>by rw[qU];exact Li _ _
 |i+1,h=>by
  rw[qU,Ip _ _ _ _ _ _ (by rw[wV];lia),Fm f g ψ i (by lia),eC,Cq,iq g g.length _ (aj _)]
def Il(f g:aS)(ψ:Nat->Int):rs (gQ f g) ψ=rs f (fun i=>rs g (fun a=>ψ (i+a))):=by
 unfold gQ
 rw[Ir (tO _),Fm f g ψ f.length (aj _),iq f f.length _ (aj _)]
def Gm(b:Bd)(φ:Nat->Nat->Int):bs (eZ b) φ=bs b φ:=by
 rw[pb (eZ b) b.length φ (pW b),pb b b.length φ (aj _)]
 exact du _ fun k _=>by rw[wb]
def Gp(f g:Bd)(j:Nat)(acc:Bd)(φ:Nat->Nat->Int):∀k,j+k<=acc.length->bs (lc f g j acc k) φ=bs acc φ+eC k (fun c=>rs (gQ (f.getD j []) (g.getD c [])) (fun i=>φ i (j+c)))
 |0,_=>by simp[lc,eC]
 |k+1,h=>by
  rw[lc,Kh _ _ _ _ (by rw[sP];lia),Gp f g j acc φ k (by lia),eC,Fl];lia
def Mx(φ:Nat->Nat->Int)(n:Nat):bs (List.replicate n []) φ=0:=by
 induction n generalizing φ with
 |zero=>rfl
 |succ n ih=>rw[aA,bs,ih];rfl
def Gn(f g:Bd)(φ:Nat->Nat->Int):∀j,j<=f.length->bs (jZ f g j) φ=eC j (fun a=>eC g.length (fun c=>rs (gQ (f.getD a []) (g.getD c [])) (fun i=>φ i (a+c))))
 |0,_=>by rw[jZ];exact Mx _ _
 |j+1,h=>by
  rw[jZ,Gp _ _ _ _ _ _ (by rw[sE];lia),Gn f g φ j (by lia),eC]
def Fk(f:aS)(h:Nat->Nat->Int):∀n,rs f (fun i=>eC n (fun c=>h i c))=eC n (fun c=>rs f (fun i=>h i c))
 |0=>AV _ (fun _=>rfl) f
 |n+1=>by
  show rs f (fun i=>eC n (fun c=>h i c)+h i n)=_
  rw[Lj,Fk f h n,eC]
def Dc(f g:Bd)(φ:Nat->Nat->Int):bs (ip f g) φ=bs f (fun i j=>bs g (fun a c=>φ (i+a) (j+c))):=by
 unfold ip
 split
 ·rename_i h
  rcases h with h | h
  ·subst h;rfl
  ·subst h
   exact(BM f (fun i j=>bs [] (fun a c=>φ (i+a) (j+c))) fun _ _=>rfl).symm
 ·rw[Gm,Gn f g φ f.length (aj _),pb f f.length _ (aj _)]
  refine du _ fun j _=>?_
  have e:(fun i:Nat=>bs g (fun a c=>φ (i+a) (j+c)))=fun i=>eC g.length (fun c=>rs (g.getD c []) (fun a=>φ (i+a) (j+c))):=funext fun i=>pb g g.length _ (aj _)
  rw[e,Fk]
  exact du _ fun c _=>Il _ _ _
def Fit(n:Nat)(b:Bd):Prop:=b.length<=n/\∀k,(b.getD k []).length<=n
def z9(f g:Bd):Va (ip f g):=by
 unfold ip
 split
 ·exact⟨.inl rfl,fun _ h=>(nomatch h)⟩
 ·refine k9 ?_
  have h1:∀j (acc:Bd),(∀r∈acc,V7 r)->∀k,∀r∈lc f g j acc k,V7 r:=by
   intro j acc ha k
   induction k with
   |zero=>exact ha
   |succ k ih=>
    intro r hr
    rw[lc] at hr
    rcases P3 hr with h | h
    ·exact ih r h
    ·rw[h];exact Cz _ _
  have h2:∀j,∀r∈jZ f g j,V7 r:=by
   intro j
   induction j with
   |zero=>intro r hr;rw[jZ] at hr;rw[(List.mem_replicate.mp hr).2];exact .nil
   |succ j ih=>exact h1 j _ ih _
  exact h2 _
def O0{n:Nat}(hb:Va b)(h:∀i k,n<=i\/n<=k->ug b i k=0):Fit n b:=by
 have hr:∀k,(b.getD k []).length<=n:=fun k=>by
  rcases hb.row k with e | ⟨ys,a,e,ha⟩
  ·rw[e];exact be _
  ·rcases Hl n (b.getD k []).length with z | z
   ·rw[e,ac,bI] at z
    have:=h ys.length k (.inl (by lia))
    unfold ug at this
    rw[e,List.getD_eq_getElem?_getD,List.getElem?_append_right (aj _),lJ] at this
    exact absurd this ha
   ·exact z
 refine⟨?_,hr⟩
 rcases hb.1 with e | ⟨ys,r,e,hn⟩
 ·rw[e];exact be _
 ·rcases Hl n b.length with z | z
  ·have hk:b.getD ys.length []=r:=by rw[e,List.getD_eq_getElem?_getD,List.getElem?_append_right (aj _),lJ];rfl
   have hrow:=hb.row ys.length
   rw[hk] at hrow
   rcases hrow with w | ⟨zs,a,w,ha⟩
   ·exact absurd w hn
   ·rw[e,ac,bI] at z
    have:=h zs.length ys.length (.inr (by lia))
    unfold ug at this
    rw[hk,w,List.getD_eq_getElem?_getD,List.getElem?_append_right (aj _),lJ] at this
    exact absurd this ha
  ·exact z
def VB(M:Nat)(kvs:eG):Prop:=∀p∈kvs,p.2.natAbs<=M
def V9(n:Nat)(kvs:eG):Prop:=∀p∈kvs,∃i k:Nat,p.1=nk i k/\i<n/\k<n
def IC(kvs:eG)(k:aS)(v:Int):(gK kvs k v).length<=kvs.length+1:=by
 unfold gK
 split
 ·rw[ag];lia
 ·rw[ac,bI];lia
def V9.put{i k:Nat}(h:V9 n kvs)(hi:i<n)(hk:k<n)(v:Int):V9 n (gK kvs (nk i k) v):=fun p hp=>by
 rcases Cw hp with e | e
 ·exact⟨i,k,by rw[e],hi,hk⟩
 ·exact h p e
def BB(M:Nat)(b:Bd):Prop:=∀i k,(ug b i k).natAbs<=M
def BB.lim(h:BB M b)(hM:M<2 ^ 63):∀r∈b,∀y∈r,-(2 ^ 63)<y/\y<2 ^ 63:=fun r hr y hy=>by
 obtain⟨k,hk,rfl⟩:=Dx hr
 obtain⟨i,hi,rfl⟩:=Dx hy
 have:=h i k
 unfold ug at this
 rw[List.getD_eq_getElem?_getD (l:=b),List.getElem?_eq_getElem hk] at this
 have e:(b[k]).getD i 0=b[k][i]:=vw hi
 have e':((some b[k]).getD []).getD i 0=b[k][i]:=e
 rw[e'] at this
 lia
def Fit.sm{m:Nat}(h:Fit n b)(hm:n<m):Wn m b:=⟨eV h.1 hm,fun r hr=>by
 obtain⟨k,hk,rfl⟩:=Dx hr
 have:=h.2 k
 rw[List.getD_eq_getElem?_getD,List.getElem?_eq_getElem hk] at this
 exact eV this hm⟩
def eB(A B:eG)(s:Int):eG:=B.foldl (fun acc q=>gK acc q.1 ((c7 acc q.1).getD 0+s*q.2)) A
def kD(s:Int)(φ:Nat->Nat->Int):∀(B A:eG),V0 A->(∀p∈B,∃i k:Nat,p.1=nk i k)->V0 (eB A B s)/\ds (eB A B s) φ=ds A φ+s*ds B φ
 |[],A,h,_=>⟨h,by simp[eB,ds]⟩
 |(k,v)::B,A,h,hB=>by
  obtain⟨a,c,e⟩:=hB (k,v) (by simp)
  have e':k=nk a c:=e
  subst e'
  obtain⟨g1,g2⟩:=kD s φ B (gK A (nk a c) ((c7 A (nk a c)).getD 0+s*v)) (h.put _ _ _) fun p hp=>hB p (by simp[hp])
  refine⟨g1,?_⟩
  show ds (eB (gK A (nk a c) ((c7 A (nk a c)).getD 0+s*v)) B s) φ=_
  rw[g2,J4 h,ds]
  show ds A φ+((c7 A (nk a c)).getD 0+s*v-(c7 A (nk a c)).getD 0)*φ a c+s*ds B φ=ds A φ+s*(v*φ a c+ds B φ)
  have e1:(c7 A (nk a c)).getD 0+s*v-(c7 A (nk a c)).getD 0=s*v:=by lia
  rw[e1,KS,<-RN];lia
abbrev ul(p q:aS):aS:=[p.getD 0 0+q.getD 0 0,p.getD 1 0+q.getD 1 0]
def iu(p:aS×Int)(acc B:eG):eG:=B.foldl (fun acc q=>gK acc (ul p.1 q.1) ((c7 acc (ul p.1 q.1)).getD 0+p.2*q.2)) acc
def l4(A B:eG):eG:=A.foldl (fun acc p=>iu p acc B) []
def BZ(a c i k:Nat):ul (nk a c) (nk i k)=nk (a+i) (c+k):=by simp[ul,nk]
def vo(a c:Nat)(v:Int)(φ:Nat->Nat->Int):∀(B acc:eG),V0 acc->(∀p∈B,∃i k:Nat,p.1=nk i k)->V0 (iu (nk a c,v) acc B)/\ds (iu (nk a c,v) acc B) φ=ds acc φ+v*ds B (fun i k=>φ (a+i) (c+k))/\(iu (nk a c,v) acc B).length<=acc.length+B.length
 |[],acc,h,_=>⟨h,by simp[iu,ds],aj _⟩
 |(k,x)::B,acc,h,hB=>by
  obtain⟨i,j,e⟩:=hB (k,x) (by simp)
  have e':k=nk i j:=e
  subst e'
  have ea:ul (nk a c) (nk i j)=nk (a+i) (c+j):=BZ a c i j
  obtain⟨g1,g2,g3⟩:=vo a c v φ B (gK acc (nk (a+i) (c+j)) ((c7 acc (nk (a+i) (c+j))).getD 0+v*x)) (h.put _ _ _) fun p hp=>hB p (by simp[hp])
  have e0:iu (nk a c,v) acc ((nk i j,x)::B)=iu (nk a c,v) (gK acc (nk (a+i) (c+j)) ((c7 acc (nk (a+i) (c+j))).getD 0+v*x)) B:=by
   show iu (nk a c,v) (gK acc (ul (nk a c) (nk i j)) ((c7 acc (ul (nk a c) (nk i j))).getD 0+v*x)) B=_
   rw[ea]
  rw[e0]
  refine⟨g1,?_,?_⟩
  ·rw[g2,J4 h,ds]
   have e1:(c7 acc (nk (a+i) (c+j))).getD 0+v*x-(c7 acc (nk (a+i) (c+j))).getD 0=v*x:=by lia
   have e2:((nk i j).getD 0 0).toNat=i:=by simp
   have e3:((nk i j).getD 1 0).toNat=j:=by simp
   simp only[e2,e3]
   rw[e1,KS,<-RN];lia
  ·have:=IC acc (nk (a+i) (c+j)) ((c7 acc (nk (a+i) (c+j))).getD 0+v*x)
   rw[bc];lia
def vn(B:eG)(hB:∀p∈B,∃i k:Nat,p.1=nk i k)(φ:Nat->Nat->Int):∀(A acc:eG),V0 acc->(∀p∈A,∃i k:Nat,p.1=nk i k)->V0 (A.foldl (fun acc p=>iu p acc B) acc)/\ds (A.foldl (fun acc p=>iu p acc B) acc) φ=ds acc φ+ds A (fun i k=>ds B (fun a c=>φ (i+a) (k+c)))/\(A.foldl (fun acc p=>iu p acc B) acc).length<=acc.length+A.length*B.length
 |[],acc,h,_=>⟨h,by simp[ds],by simp⟩
 |(k,v)::A,acc,h,hA=>by
  obtain⟨a,c,e⟩:=hA (k,v) (by simp)
  have e':k=nk a c:=e
  subst e'
  obtain⟨f1,f2,f3⟩:=vo a c v φ B acc h hB
  obtain⟨g1,g2,g3⟩:=vn B hB φ A (iu (nk a c,v) acc B) f1 fun p hp=>hA p (by simp[hp])
  rw[xZ]
  refine⟨g1,?_,?_⟩
  ·rw[g2,f2,ds]
   have e2:((nk a c).getD 0 0).toNat=a:=by simp
   have e3:((nk a c).getD 1 0).toNat=c:=by simp
   simp only[e2,e3];lia
  ·rw[bc,lH];lia
def Fp(hA:V0 A)(hB:V0 B):V0 (l4 A B):=(vn B hB.keys (fun _ _=>0) A [] .nil hA.keys).1
def Bz(hA:V0 A)(hB:V0 B)(φ:Nat->Nat->Int):ds (l4 A B) φ=ds A (fun i k=>ds B (fun a c=>φ (i+a) (k+c))):=by
 have:=(vn B hB.keys φ A [] .nil hA.keys).2.1
 rw[show ds [] φ=0 from rfl,gG] at this
 exact this
def xA{φ χ:Nat->Nat->Int}(kvs:eG)(h:∀i k,φ i k=χ i k):ds kvs φ=ds kvs χ:=by
 rw[show φ=χ from funext fun i=>funext fun k=>h i k]
def DH(R:Bd->cn)(h1:U3 X (R []) c false)(h2:∀ys a,U3 X (R (ys++[a])) c (decide (a=[])))(h3:∀ys a,U4 X (R (ys++[a])) body (.nx (R ys))):
  ∀(n:Nat) (ys:Bd),ys.length=n->∃m,WU X c body m (R ys) (.nx (R (eZ ys))):=by
 intro n
 induction n with
 |zero=>intro ys e;rw[aB e];exact⟨0,.stop h1⟩
 |succ n ih=>
  intro ys e
  rcases cy ys with z | ⟨zs,a,z⟩
  ·rw[z] at e;cases e
  ·rw[cz] at z
   subst z
   by_cases ha:a=[]
   ·obtain⟨m,q⟩:=ih zs (by simpa using e)
    refine⟨m+1,.step (U3.eq (h2 zs a) (ay ha)) (h3 zs a) ?_⟩
    rw[ha,jQ];exact q
   ·refine⟨0,?_⟩
    rw[jR zs ha]
    exact .stop (U3.eq (h2 zs a) (ak ha))
def Iu(kvs:eG)(k:Nat):aS:=fq ((List.range 9).map fun i=>(c7 kvs (nk i k)).getD 0)
def jo(ds:aU)(d:D):Prop:=∃kvs:eG,ds=[.Vi kvs]/\d=aZ (qj kvs)
def sN:∀ds d,jo ds d->ds.length=1:=by rintro _ _ ⟨a,rfl,_⟩;rfl
def ig(ds:aU)(kvs:eG):Prop:=∃A B:eG,ds=[.Vi A,.Vi B]/\V0 A/\V0 B/\A.length<=1000/\B.length<=1000/\VB (2 ^ 63) B/\kvs=l4 A B
def tW:∀ds d,ig ds d->ds.length=2:=by rintro _ _ ⟨a,b,rfl,_⟩;rfl
def u9(h:DefX P w K mg base k gy (ai gs) X)(Vn:mg "range"=none)(Vf:mg "tuple"=none)(Vc:mg "len"=none)(c1:Callee X "_law_trim" pP):
  Go X gy gs jo:=by
 rintro ds d ⟨kvs,rfl,rfl⟩
 have t:=h.at'
 haveI:=h.VI
 have b1:=h.bt Vn
 have b2:=h.bt Vf
 have b3:=h.bt Vc
 show U4 X [.val (.Vi kvs),.un,.un] _ _
 refine ax (jV t 1 (bb af)) ?_
 refine ax (ρ':=[.val (.Vi kvs),.own (((List.range 9).map (Iu kvs)).map bU),.un]) (i6 t (fj t b1 ah (by decide) (by decide)) (Vt.VD (fun i=>[.val (.Vi kvs),.own (((List.range i).map (Iu kvs)).map bU),.un]) (fun i d hi=>?_) rfl ?_)) ?_
 ·obtain⟨ZF,rfl⟩:=ir hi
  refine⟨_,bf t 2,U4.weak (aC (i7 t 1 rfl (d:=bU (Iu kvs i)) (a9 t c1 (ab (U1.eq (U9.Vm (iS (rs:=(List.range 9).map fun j=>D.int ((c7 kvs (nk j i)).getD 0)) t (gy++[("_law_i" : Str)]) (KO (by decide)) (fj t b1 ah (by decide) (by decide)) (by decide) fun X' cx=>?_)) (by show D.lst _=D.lst _;rw[cM];rfl)) af) ⟨_,rfl,by simp,rfl⟩) ?_)) ?_⟩
  ·exact VP.gen (fun(j:Nat)=>D.int (0+(j:Int))) _ (fun(j:Nat)=>[.val (.Vi kvs),.own (((List.range i).map (Iu kvs)).map bU),.val (.int (i:Int)),.val (.int (j:Int))]) _ _ (fun x hx=>by rw[gG];exact cH cx.at' 3) (fun x hx y hy=>by rw[gG];exact cH cx.at' 3) fun x hx=>
    Bt cx.at' (U1.dr (aa cx.at' 0 rfl)) (ab (aD (ab (aa cx.at' 3 rfl) (ab (aa cx.at' 2 rfl) af))) (ab ah af))
  ·rw[ag,ag,fA];exact wk (by simp at ZF;lia)
  ·rw[xX,aJ,aJ]
   exact .keep (.keep (.forget .nil))
 ·rfl
 refine ax (sw t (DH (fun ys=>[.val (.Vi kvs),.own (ys.map bU),.un]) ?_ (fun ys a=>?_) (fun ys a=>?_) _ ((List.range 9).map (Iu kvs)) rfl)) (aC (bp (j5 t b2 (eQ t 1 rfl))))
 ·exact Wj.toT (mK (qY t (W8.p (eQ t 1 rfl)) (U1.p (U9.Vm (bb af))) (gz []) (gz []) (by have:=By [] [];exact bv not this)))
 ·refine Wj.toT (kY (qY t (W8.p (eQ t 1 rfl)) (U1.p (U9.Vm (bb af))) ((L1 (ys++[a])).sh (by decide)) (gz []) ?_) (qg (iy t (U1.p (cb (eQ t 1 rfl) (iw (dy t b3 (eQ t 1 rfl)) ah) ?_)) (U1.p (d:=bU []) (aD af)) (bz _) (bz _) (hZ _ _))))
  ·show(!(PyData.list (Vb ((ys++[a]).map bU))).eqv (.list (Vb [])))=true
   rw[Co]
   cases ys with
   |nil=>simp[Vb,PyData.eqv,PyData.eqvAll]
   |cons r ys=>simp[Vb,PyData.eqv,PyData.eqvAll]
  ·rw[ag,BX (n:=ys.length) (by simp) (by simp) (by simp)]
   simp
 ·refine U4.eq (aC (MX t 1 rfl (by simp))) ?_
  rw[aJ]
  have e:(ys.map bU++[a].map bU).dropLast=ys.map bU:=by simp
  rw[e];rfl
def u8(h:DefX P w K mg base k VZ (ai gX) X):
  ∀ds d,ig ds d->xQ X (ds.map Sl.val++List.replicate (VZ.length-ds.length) Sl.un) (bE gX) d:=by
 rintro ds d ⟨A,B,rfl,hA,hB,lA,lB,vB,rfl⟩
 have t:=h.at'
 haveI:=h.VI
 show xQ X [.val (.Vi A),.val (.Vi B),.un,.un,.un,.un,.un] _ _
 refine sW (Ic t 2 Ez) ?_
 refine sW (ρ':=[.val (.Vi A),.val (.Vi B),.Wb (l4 A B),.un,.un,.un,.un]) (i6 t (Ey (aa t 0)) (Vt.VD (fun i=>[.val (.Vi A),.val (.Vi B),.Wb ((A.take i).foldl (fun acc p=>iu p acc B) []),.un,.un,.un,.un]) (fun i d hi=>?_) rfl ?_)) (Ga t 2 rfl)
 ·rw[List.getElem?_map] at hi
  cases hp:A[i]? with
  |none=>rw[hp] at hi;cases hi
  |some p=>
  rw[hp] at hi;cases hi
  obtain⟨key,v⟩:=p
  have hm:(key,v)∈A:=List.mem_of_getElem? hp
  obtain⟨a,c,e⟩:=hA.keys _ hm
  have e':key=nk a c:=e
  subst e'
  have hv:=oq hA.nd hm
  have hilt:i<A.length:=(List.getElem?_eq_some_iff.mp hp).1
  obtain⟨f1,_,f3⟩:=vn B hB.keys (fun _ _=>0) (A.take i) [] .nil (fun p hp=>hA.keys p (fz hp))
  have f3':((A.take i).foldl (fun acc p=>iu p acc B) []).length<=1000*1000:=by
   have h1:(A.take i).length<=1000:=by rw[cu];lia
   have h2:=dP h1 lB
   have h3:([]:eG).length=0:=rfl
   lia
  have et:A.take (i+1)=A.take i++[(nk a c,v)]:=lR hp
  refine⟨_,jG t 3 4,U4.weak (ρ1:=[.val (.Vi A),.val (.Vi B),.Wb ((A.take (i+1)).foldl (fun acc p=>iu p acc B) []),.val (.int a),.val (.int c),.un,.un]) (aC (i6 t (Ey (aa t 1))
   (Vt.VD (fun j=>[.val (.Vi A),.val (.Vi B),.Wb (iu (nk a c,v) ((A.take i).foldl (fun acc p=>iu p acc B) []) (B.take j)),.val (.int a),.val (.int c),.un,.un]) (fun j d hj=>?_) rfl ?_))) (.keep (.keep (.keep (.forget (.forget (.keep (.keep .nil)))))))⟩
  ·rw[List.getElem?_map] at hj
   cases hq:B[j]? with
   |none=>rw[hq] at hj;cases hj
   |some q=>
   rw[hq] at hj;cases hj
   obtain⟨key2,v2⟩:=q
   have hm2:(key2,v2)∈B:=List.mem_of_getElem? hq
   obtain⟨a2,c2,e⟩:=hB.keys _ hm2
   have e':key2=nk a2 c2:=e
   subst e'
   have hv2:=oq hB.nd hm2
   have hb2:=vB _ hm2
   have hb3:v2.natAbs<=2 ^ 63:=hb2
   have et2:B.take (j+1)=B.take j++[(nk a2 c2,v2)]:=lR hq
   obtain⟨_,_,g3⟩:=vo a c v (fun _ _=>0) (B.take j) _ f1 (fun p hp=>hB.keys p (fz hp))
   have g4:(B.take j).length<=1000:=by rw[cu];lia
   refine⟨_,jG t 5 6,U4.weak (aC (uF t (c8 (Bt (k:=ul (nk a c) (nk a2 c2)) t (JP t 2 rfl) (ab (aD (ab (c8 (aa t 3) (aa t 5)) (ab (c8 (aa t 4) (aa t 6)) af))) (ab ah af)))
    (jh (Eu t (U1.dr (aa t 0)) (aD (ab (aa t 3) (ab (aa t 4) af))) hv) (Eu t (U1.dr (aa t 1)) (aD (ab (aa t 5) (ab (aa t 6) af))) hv2) (jN (by lia) (by lia))))
    (Gc (k:=ul (nk a c) (nk a2 c2)) t 2 rfl (aD (ab (c8 (aa t 3) (aa t 5)) (ab (c8 (aa t 4) (aa t 6)) af))) (by rw[CQ];lia)))) ?_⟩
   rw[et2,show iu (nk a c,v) ((A.take i).foldl (fun acc p=>iu p acc B) []) (B.take j++[(nk a2 c2,v2)])=_ from tI]
   exact .keep (.keep (.keep (.keep (.keep (.forget (.forget .nil))))))
  ·rw[ag,bo,et,tI];rfl
 ·rw[ag,bo];rfl
def Fs{n m l a c:Nat}(v:Int)(ha:a<n)(hc:c<n)(hl:n+m<=l+1):∀(B acc:eG),V9 m B->V9 l acc->V9 l (iu (nk a c,v) acc B)
 |[],acc,_,h=>h
 |(k,x)::B,acc,hB,h=>by
  obtain⟨i,j,e,hi,hj⟩:=hB (k,x) (by simp)
  have e':k=nk i j:=e
  subst e'
  show V9 l (iu (nk a c,v) (gK acc (ul (nk a c) (nk i j)) ((c7 acc (ul (nk a c) (nk i j))).getD 0+v*x)) B)
  rw[BZ]
  exact Fs v ha hc hl B _ (fun p hp=>hB p (by simp[hp])) (h.put (by lia) (by lia) _)
def Fq{n m l:Nat}(hl:n+m<=l+1)(hB:V9 m B):∀(A acc:eG),V9 n A->V9 l acc->V9 l (A.foldl (fun acc p=>iu p acc B) acc)
 |[],acc,_,h=>h
 |(k,v)::A,acc,hA,h=>by
  obtain⟨i,j,e,hi,hj⟩:=hA (k,v) (by simp)
  have e':k=nk i j:=e
  subst e'
  rw[xZ]
  exact Fq hl hB A _ (fun p hp=>hA p (by simp[hp])) (Fs v hi hj hl B acc hB h)
end My
namespace My
open PySem L2 L2.EV PyProof.Rows
variable {K:bW}
def XJ:Str := "0123456789"
def zq(w:bN):Prop:=w≠[]/\(∀c∈w,48<=c/\c<=57)/\w.length<=12/\(w.head?=some 48->w=[48])
def VQ(w:bN):Prop:=zq w\/w=[120]\/w=[121]
def JE:∀c:Nat,48<=c->c<=57->(!(Builtin.Str.occurrences XJ (S [c]) 0 XJ.length 1).isEmpty)=true:=fun c h1 h2=>by
 have:∀c:Nat,c<58->48<=c->(!(Builtin.Str.occurrences XJ (S [c]) 0 XJ.length 1).isEmpty)=true:=by decide
 exact this c (by lia) h1
def Q8:(!(Builtin.Str.occurrences XJ (S [120]) 0 XJ.length 1).isEmpty)=false:=by decide
def Q7:(!(Builtin.Str.occurrences XJ (S [121]) 0 XJ.length 1).isEmpty)=false:=by decide
def Pt:∀c:Nat,48<=c->c<=57->al c=true:=fun c h1 h2=>by
 have:∀c:Nat,c<58->48<=c->al c=true:=by decide
 exact this c (by lia) h1
def TB:al 120=true:=by decide
def Tz:al 121=true:=by decide
def VQ.lt(h:VQ w):∀c∈w,c<128:=by
 rcases h with h | rfl | rfl
 ·intro c hc;have:=h.2.1 c hc;lia
 ·intro c hc;simp at hc;lia
 ·intro c hc;simp at hc;lia
def VQ.al(h:VQ w):∀c∈w,al c=true:=by
 rcases h with h | rfl | rfl
 ·intro c hc;have:=h.2.1 c hc;exact Pt c this.1 this.2
 ·intro c hc;simp at hc;subst hc;exact TB
 ·intro c hc;simp at hc;subst hc;exact Tz
def VQ.ne(h:VQ w):w≠[]:=by
 rcases h with h | rfl | rfl
 ·exact h.1
 ·simp
 ·simp
def VQ.len(h:VQ w):w.length<=12:=by
 rcases h with h | rfl | rfl
 ·exact h.2.2.1
 ·simp
 ·simp
def UC{n:Nat}(h:n<=2000):n<=sizeLine:=ar h (bq rfl)
def Wy{cs:bN}(h:cs.length<=2000):(S cs).length<=sizeLine:=by rw[ck];exact UC h
def MI:List bN:=[[120],[121],[110,111,116],[97,110,100],[111,114],[115,111,109,101],[97,108,108]]
def WE(w:bN):Prop:=zq w\/w∈MI
def VQ.v(h:VQ w):WE w:=by
 rcases h with h | h | h
 ·exact .inl h
 ·exact .inr (by rw[h];decide)
 ·exact .inr (by rw[h];decide)
def Hx:∀w∈MI,(∀c∈w,c<128)/\w≠[]/\w.length<=12:=by decide
def Qa:∀w∈MI,∀c∈w,al c=true:=by decide
def WE.lt(h:WE w):∀c∈w,c<128:=by
 rcases h with h | h
 ·exact VQ.lt (.inl h)
 ·exact(Hx w h).1
def WE.al(h:WE w):∀c∈w,al c=true:=by
 rcases h with h | h
 ·exact VQ.al (.inl h)
 ·exact Qa w h
def WE.ne(h:WE w):w≠[]:=by
 rcases h with h | h
 ·exact h.1
 ·exact(Hx w h).2.1
def WE.len(h:WE w):w.length<=12:=by
 rcases h with h | h
 ·exact h.2.2.1
 ·exact(Hx w h).2.2
def pM(ds:aU)(d:D):Prop:=∃w:bN,ds=[.str (S w)]/\VQ w/\((zq w/\d=.bl true)\/((w=[120]\/w=[121])/\d=.bl false))
def yq:∀ds d,pM ds d->ds.length=1:=by rintro _ _ ⟨a,rfl,_⟩;rfl
def m6(ds:aU)(d:D):Prop:=∃pre w post:bN,ds=[.str (S (pre++w++post)),.int pre.length]/\(∀c∈w,al c=true)/\(∀c,post.head?=some c->al c=false)/\(pre++w++post).length<=2000/\d=.int ((pre.length:Int)+(w.length:Int))
def xg:∀ds d,m6 ds d->ds.length=2:=by rintro _ _ ⟨a,b,c,rfl,_⟩;rfl
def gE(ds:aU)(d:D):Prop:=∃w:bN,ds=[.str (S w)]/\WE w/\d=.Vs
def oV:∀ds d,gE ds d->ds.length=1:=by rintro _ _ ⟨a,rfl,_⟩;rfl
def Kt:PyData:=.tuple [.str "x",.str "y",.str "not",.str "and",.str "or",.str "some",.str "all"]
def qT{ρ:cn}{v:Int}[XI X](t:At X N sc)(i:Nat)(hr:ρ[i]?=some (.val (.int n)))(h:U1 X ρ e (.int m))(hv:v=n+m)(hi:N[i]?=some x:=by rfl)(hx:mW sc x=true:=by rfl):
  Vy X ρ (.AugAssign (.Name x pos') .Add e pos) (.nx (ρ.set i (.val (.int v)))):=by subst hv;exact Ii t i hr h hi hx
def Dj(h:DefX P w K mg base k pi (ai iZ) X)(gF:∃tk,mg "FIGURES"=some (.str XJ tk)):
  Go X pi iZ pM:=by
 rintro ds r ⟨w',rfl,hw,hd⟩
 have t:=h.at'
 have gF':∃tk,X.mg "FIGURES"=some (.str XJ tk):=by rw[h.WD];exact gF
 obtain⟨c,cs,rfl⟩:∃c cs,w'=c::cs:=by
  cases w' with
  |nil=>exact absurd rfl hw.ne
  |cons c cs=>exact⟨c,cs,rfl⟩
 have hl:=hw.len
 have hq:(!(S (c::cs)==("" : Str)))=true:=by
  have hn:S (c::cs)≠S []:=fun e=>by have:=dB e;cases this
  have e0:("" : Str)=S []:=by decide
  rw[e0]
  simpa using hn
 have ZF:∀(u:Bool),(!(Builtin.Str.occurrences XJ (S [c]) 0 XJ.length 1).isEmpty)=u->U4 X [.val (.str (S (c::cs)))] (bE iZ) (.rt (.bl u)):=fun u hu=>
  aC (bp (U1.eq (sU (Et t (aa t 0).p U0.p (gR (fv hw.lt)) (gR (by decide)) hq) fun _=>JL (eD (aa t 0) ah (Wy (by lia)) (by rw[fO];exact ej rfl)) (xn t gF') hu) (by rw[Bool.true_and])))
 rcases hd with⟨hn,rfl⟩ | ⟨e,rfl⟩
 ·have:=hn.2.1 c (by simp)
  exact ZF true (JE c this.1 this.2)
 ·refine ZF false ?_
  rcases e with e | e
  ·cases e;exact Q8
  ·cases e;exact Q7
def BV(h:DefX P w K mg base k mU (ai jB) X)(Vc:mg "len"=none):
  Go X mU jB m6:=by
 rintro ds r ⟨pre,u,post,rfl,hu,hp,hz,rfl⟩
 have t:=h.at'
 haveI:=h.VI
 have b1:=h.bt Vc
 refine ax (bS t 2 (aa t 1)) ?_
 refine uc t (fun i:Nat=>[.val (.str (S (pre++u++post))),.val (.int pre.length),.val (.int ((pre.length:Int)+(i:Int)))]) (fun i=>i<=u.length) (fun i=>i=u.length) (fun i=>u.length-i) 0 (be _) (fun i hi=>?_) (fun i hi=>?_)
 ·by_cases e:i<u.length
  ·obtain⟨u1,c,u2,rfl,rfl⟩:∃u1 c u2,u=u1++c::u2/\i=u1.length:=⟨u.take i,u[i],u.drop (i+1),by simp,by simp;lia⟩
   refine .inr ⟨?_,.inr ⟨u1.length+1,?_,by simp,by simp;lia⟩⟩
   ·refine U3.eq (gw (fg (aa t 2) (ei t b1 (aa t 0) (Wy hz))) fun _=>eE (j6 (eD (c:=c) (aa t 0) (aa t 2) (Wy hz) ?_))) ?_
    ·have:=zo (pre:=pre++u1) (post:=u2++post) (c:=c)
     simpa using this
    ·rw[ck,show(⟨#[c]⟩:Str)=S [c] from rfl,Kv,hu c (by simp),Bool.and_true,bh]
     simp;lia
   ·exact aC (qT t 2 rfl ah (by simp;lia))
  ·have hi':i=u.length:=by lia
   subst hi'
   refine .inl ⟨?_,rfl⟩
   cases post with
   |nil=>exact U3.eq (gw (fg (aa t 2) (ei t b1 (aa t 0) (Wy hz))) fun z=>by rw[ck,bh] at z;simp at z) (by rw[ck,Bool.and_true,aH];simp)
   |cons c post=>
    refine U3.eq (gw (fg (aa t 2) (ei t b1 (aa t 0) (Wy hz))) fun _=>eE (j6 (eD (c:=c) (aa t 0) (aa t 2) (Wy hz) ?_))) ?_
    ·have:=zo (pre:=pre++u) (post:=post) (c:=c)
     simpa using this
    ·rw[show(⟨#[c]⟩:Str)=S [c] from rfl,Kv,hp c rfl,Cc]
 ·subst hi
  exact aC (bp (aa t 2))
def KY(h:zq w):([PyData.str "x",.str "y",.str "not",.str "and",.str "or",.str "some",.str "all"].any fun y=>PyData.eqv y (.str (S w)))=false:=by
 obtain⟨c,cs,rfl⟩:∃c cs,w=c::cs:=by
  cases w with
  |nil=>exact absurd rfl h.1
  |cons c cs=>exact⟨c,cs,rfl⟩
 have hc:=h.2.1 c (by simp)
 have ne:∀(d:Nat) (ds:bN),57<d->(S (d::ds)==S (c::cs))=false:=fun d ds hd=>by
  rw[bn]
  intro e
  have:=dB e
  cases this
  lia
 show((("x" : Str)==S (c::cs))||((("y" : Str)==S (c::cs))||((("not" : Str)==S (c::cs))||((("and" : Str)==S (c::cs))||((("or" : Str)==S (c::cs))||((("some" : Str)==S (c::cs))||((("all" : Str)==S (c::cs))||false)))))))=false
 rw[show("x" : Str)=S [120] by decide,show("y" : Str)=S [121] by decide,show("not" : Str)=S [110,111,116] by decide,show("and" : Str)=S [97,110,100] by decide,show("or" : Str)=S [111,114] by decide,show("some" : Str)=S [115,111,109,101] by decide,show("all" : Str)=S [97,108,108] by decide]
 rw[ne _ _ (by lia),ne _ _ (by lia),ne _ _ (by lia),ne _ _ (by lia),ne _ _ (by lia),ne _ _ (by lia),ne _ _ (by lia)]
 rfl
def P9:∀u∈MI,([PyData.str "x",.str "y",.str "not",.str "and",.str "or",.str "some",.str "all"].any fun y=>PyData.eqv y (.str (S u)))=true:=by decide
def re(h:DefX P w K mg base k Vr (ai dG) X)(Xk:mg "all"=none)(Vc:mg "len"=none)(gW:P0 mg K "WORDS" Kt)(gF:∃tk,mg "FIGURES"=some (.str XJ tk)):
  ∀ds d,gE ds d->U4 X (ds.map Sl.val++List.replicate (Vr.length-ds.length) Sl.un) (bE dG) (.rt d)\/(d=.Vs/\∃ρ',U4 X (ds.map Sl.val++List.replicate (Vr.length-ds.length) Sl.un) (bE dG) (.nx ρ')):=by
 rintro ds r ⟨u,rfl,hu,rfl⟩
 have t:=h.at'
 obtain⟨l,gm,gk⟩:=gW
 have gm':X.mg "WORDS"=some (.ref l):=by rw[h.WD];exact gm
 have gk':GP X.K (.ref l) Kt:=by rw[h.k'];exact gk
 have gF':∃tk,X.mg "FIGURES"=some (.str XJ tk):=by rw[h.WD];exact gF
 have b1:=h.bt Xk
 have b2:=h.bt Vc
 have hz:(S u).length<=sizeLine:=Wy (ar hu.len (by decide))
 have cw:PyData.canLayAll0 [PyData.str "x",.str "y",.str "not",.str "and",.str "or",.str "some",.str "all"]=true:=by decide
 have ok:=fv hu.lt
 have lt:=hu.lt
 rcases hu with hn | hx
 ·refine .inr ⟨rfl,[.val (.str (S u))],?_⟩
  refine ax (cA (xr t (aa t 0).p (j7 t gm' gk') (dw ok) (cU _) cw (KY hn)) bR) (aC (cA ?_ bR))
  obtain⟨c,cs,rfl⟩:∃c cs,u=c::cs:=by
   cases u with
   |nil=>exact absurd rfl hn.1
   |cons c cs=>exact⟨c,cs,rfl⟩
  refine U3.eq (JT (u:=false) (v:=false) (U3.eq (hV (eE (Bv (bs:=(S (c::cs)).cps.toList.map fun _=>true) t b1 (U9.toQ (U9.eq (iS (rs:=(S (c::cs)).cps.toList.map fun _=>D.bl true) t ["run", "sign"] (KO (by decide)) (Pe (aa t 0) (Rv lt)) (by unfold MW;rw[ag,fO];exact wk (by have:=hn.2.2.1;lia)) fun X' cx=>?_) ?_))))) ?_) (fun _=>U3.eq (hW (ei t b2 (aa t 0) hz) ah) ?_) fun _ _=>?_) rfl
  ·exact VP.gen (fun c=>D.str ⟨#[c]⟩) _ (fun x=>[.val (.str (S (c::cs))),.val (.str ⟨#[x]⟩)]) _ _ (fun x hx=>cH cx.at' 1) (fun x hx y hy=>cH cx.at' 1) fun x hx=>JL (aa cx.at' 1 rfl) (xn cx.at' (by rw[cx.WD];exact gF')) (by
    rw[fO] at hx
    exact JE x (hn.2.1 x hx).1 (hn.2.1 x hx).2)
  ·rw[cM];rfl
  ·simp
  ·rw[ck,aH];have:=hn.2.2.1;lia
  ·refine U3.eq (gw (b0 t (eD (aa t 0) ah hz (by rw[fO];exact ej rfl)) U0 (fv fun x hx=>lt x (by simp at hx;simp[hx]))) fun z=>qY t (aa t 0).p U0.p (gR ok) (gR (by decide)) (r:=false) ?_) (by simp)
   have z0:c=48:=by
    rw[bh,show("0" : Str)=S [48] by decide] at z
    have:=dB z
    cases this;rfl
   subst z0
   have:=hn.2.2.2 rfl
   rw[this]
   decide
 ·refine .inl ?_
  exact gB (e9 (xr t (aa t 0).p (j7 t gm' gk') (dw ok) (cU _) cw (P9 u hx)) (aC N1))
def TL(c:Nat)(post:bN):Prop:=(c≠60/\c≠62/\c≠33)\/((c=60\/c=62)/\post.head?≠some 61)
def rE(ds:aU)(d:D):Prop:=∃pre post:bN,(∃u,ds=[.str (S (pre++u++post)),.int pre.length]/\WE u/\(∀c,post.head?=some c->al c=false)/\(pre++u++post).length<=2000/\d=.str (S u)) \/
 (∃c,ds=[.str (S (pre++c::post)),.int pre.length]/\al c=false/\(∀x∈c::post,x<128)/\TL c post/\(pre++c::post).length<=2000/\d=.str (S [c])) \/
 ∃c,ds=[.str (S (pre++c::61::post)),.int pre.length]/\(c=60\/c=62\/c=33)/\(pre++c::61::post).length<=2000/\d=.str (S [c,61])
def A9:∀ds d,rE ds d->ds.length=2:=by rintro _ _ ⟨a,b,⟨c,rfl,_⟩ | ⟨c,rfl,_⟩ | ⟨c,rfl,_⟩⟩<;>rfl
def PB:PyData:=.tuple [.str "<=",.str ">=",.str "!="]
def Pj{c:Nat}(h1:c≠60)(h2:c≠62)(h3:c≠33):([PyData.str "<=",.str ">=",.str "!="].any fun y=>PyData.eqv y (.str (S (c::cs))))=false:=by
 have ne:∀(d:Nat) (ds:bN),d≠c->(S (d::ds)==S (c::cs))=false:=fun d ds hd=>by
  rw[bn]
  intro e
  have:=dB e
  cases this
  exact hd rfl
 show((("<=" : Str)==S (c::cs))||(((">=" : Str)==S (c::cs))||((("!=" : Str)==S (c::cs))||false)))=false
 rw[show("<=" : Str)=S [60,61] by decide,show(">=" : Str)=S [62,61] by decide,show("!=" : Str)=S [33,61] by decide]
 rw[ne _ _ (dD h1),ne _ _ (dD h2),ne _ _ (dD h3)]
 rfl
def Pi(h:TL c post):([PyData.str "<=",.str ">=",.str "!="].any fun y=>PyData.eqv y (.str (S (c::post.take 1))))=false:=by
 rcases h with⟨h1,h2,h3⟩ | ⟨h1,h2⟩
 ·exact Pj h1 h2 h3
 ·have key:∀ds:bN,ds≠[61]->c=60\/c=62->([PyData.str "<=",.str ">=",.str "!="].any fun y=>PyData.eqv y (.str (S (c::ds))))=false:=fun ds hd hc=>by
   have ne:∀d:Nat,(S [d,61]==S (c::ds))=false:=fun d=>by
    rw[bn]
    intro e
    have:=dB e
    cases this
    exact hd rfl
   show((("<=" : Str)==S (c::ds))||(((">=" : Str)==S (c::ds))||((("!=" : Str)==S (c::ds))||false)))=false
   rw[show("<=" : Str)=S [60,61] by decide,show(">=" : Str)=S [62,61] by decide,show("!=" : Str)=S [33,61] by decide,ne,ne,ne]
   rfl
  refine key _ (fun e=>h2 ?_) h1
  cases post with
  |nil=>cases e
  |cons a b=>simp at e;rw[e];rfl
def Kr:∀c:Nat,c=60\/c=62\/c=33->al c=false:=by
 intro c h
 rcases h with rfl | rfl | rfl<;>decide
def EK(h:DefX P w K mg base k rf (ai mz) X)(c1:Callee X "refuse_wrong_run" gE)(c2:Callee X "end_of_run" m6)(gD:P0 mg K "DOUBLE_SIGNS" PB):
  Go X rf mz rE:=by
 rintro ds r ⟨pre,post,⟨u,rfl,hu,hp,hz,rfl⟩ | ⟨c,rfl,hc,ha,hsg,hz,rfl⟩ | ⟨c,rfl,hc3,hz,rfl⟩⟩
 ·have t:=h.at'
  haveI:=h.VI
  obtain⟨c,cs,rfl⟩:∃c cs,u=c::cs:=by
   cases u with
   |nil=>exact absurd rfl hu.ne
   |cons c cs=>exact⟨c,cs,rfl⟩
  refine gB (e9 (U3.eq (eE (j6 (eD (aa t 0) (aa t 1) (Wy hz) ?_))) (by rw[show(⟨#[c]⟩:Str)=S [c] from rfl,Kv];exact hu.al c (by simp))) ?_)
  ·have:=zo (pre:=pre) (post:=cs++post) (c:=c)
   simpa using this
  ·refine ax (bS t 2 (U1.eq (vy (aa t 0) (aa t 1) (a9 t c2 (ab (aa t 0) (ab (aa t 1) af)) ⟨pre,c::cs,post,rfl,hu.al,hp,hz,rfl⟩) (Wy hz)) (by rw[Ru]))) ?_
   refine ax (DS (a9 t c1 (ab (aa t 2) af) ⟨_,rfl,hu,rfl⟩)) (aC (bp (aa t 2)))
 ·have t:=h.at'
  haveI:=h.VI
  obtain⟨l,gm,gk⟩:=gD
  have gm':X.mg "DOUBLE_SIGNS"=some (.ref l):=by rw[h.WD];exact gm
  have gk':GP X.K (.ref l) PB:=by rw[h.k'];exact gk
  refine ax (cA (U3.eq (eE (j6 (eD (aa t 0) (aa t 1) (Wy hz) zo))) (by rw[show(⟨#[c]⟩:Str)=S [c] from rfl,Kv];exact hc)) bR) (aC (bp (ua (xr t (U1.eq (vy (aa t 0) (aa t 1) (c8 (aa t 1) ah) (Wy hz)) (by rw[ET])).p (j7 t gm' gk') (dw (fv ?_)) (cU _) (by decide) (Pi hsg)) (eD (aa t 0) (aa t 1) (Wy hz) zo))))
  intro x hx
  refine ha x ?_
  rcases aM.mp hx with rfl | hx
  ·simp
  ·exact aV _ (fz hx)
 ·have t:=h.at'
  haveI:=h.VI
  obtain⟨l,gm,gk⟩:=gD
  have gm':X.mg "DOUBLE_SIGNS"=some (.ref l):=by rw[h.WD];exact gm
  have gk':GP X.K (.ref l) PB:=by rw[h.k'];exact gk
  have hc:=Kr c hc3
  have ok:PyData.strOk (S [c,61])=true:=fv (by intro x hx;simp at hx;lia)
  have ZF:([PyData.str "<=",.str ">=",.str "!="].any fun y=>PyData.eqv y (.str (S [c,61])))=true:=by rcases hc3 with rfl | rfl | rfl<;>decide
  exact ax (cA (U3.eq (eE (j6 (eD (aa t 0) (aa t 1) (Wy hz) zo))) (by rw[show(⟨#[c]⟩:Str)=S [c] from rfl,Kv];exact hc)) bR) (aC (bp (t9 (xr t (U1.eq (vy (aa t 0) (aa t 1) (c8 (aa t 1) ah) (Wy hz)) (by rw[ET];rfl)).p (j7 t gm' gk') (dw ok) (cU _) (by decide) ZF) (U1.eq (vy (aa t 0) (aa t 1) (c8 (aa t 1) ah) (Wy hz)) (by rw[ET];rfl)))))
inductive Lex:bN->List bN->Prop where
 |nil:Lex [] []
 |sp {cs:bN} {ts:List bN}:Lex cs ts->Lex (32::cs) ts
 |run {u cs:bN} {ts:List bN}:WE u->(∀c,cs.head?=some c->al c=false)->Lex cs ts->Lex (u++cs) (u::ts)
 |sign {c:Nat} {cs:bN} {ts:List bN}:al c=false->c≠32->TL c cs->Lex cs ts->Lex (c::cs) ([c]::ts)
 |dbl {c:Nat} {cs:bN} {ts:List bN}:(c=60\/c=62\/c=33)->Lex cs ts->Lex (c::61::cs) ([c,61]::ts)
def Lex.len{ts:List bN}(h:Lex cs ts):ts.length<=cs.length:=by
 induction h with
 |nil=>simp
 |sp _ ih=>simp;lia
 |run hu _ _ ih=>
  have:=List.length_pos_iff.mpr hu.ne
  simp;lia
 |sign _ _ _ _ ih=>simp;lia
 |dbl _ _ ih=>simp;lia
def aO(ts:List bN):aU:=ts.map fun u=>D.str (S u)
def pG(ds:aU)(d:D):Prop:=∃(cs:bN) (ts:List bN),ds=[.str (S cs)]/\Lex cs ts/\(∀c∈cs,c<128)/\cs.length<=2000/\d=.lst (aO ts)
def yk:∀ds d,pG ds d->ds.length=1:=by rintro _ _ ⟨a,b,rfl,_⟩;rfl
def Ny:al 32=false:=by decide
def Dg(h:DefX P w K mg base k pd (ai kG) X)(Vc:mg "len"=none)(c1:Callee X "token_at" rE):
  Go X pd kG pG:=by
 rintro ds r ⟨cs,ts,rfl,hl,ha,hz,rfl⟩
 have t:=h.at'
 haveI:=h.VI
 have b1:=h.bt Vc
 refine ax (AT t 1 2 (bb af) ah (by decide)) ?_
 refine uc t (fun s:bN×bN×List bN=>[.val (.str (S cs)),.own (aO s.2.2),.val (.int s.1.length)]) (fun s=>s.1++s.2.1=cs/\∃us,Lex s.2.1 us/\s.2.2++us=ts) (fun s=>s.2.2=ts) (fun s=>s.2.1.length) ([],cs,[]) ⟨rfl,ts,hl,rfl⟩ ?_ ?_
 ·rintro⟨pre,bF,done⟩ ⟨e1,us,lx,e2⟩
  dsimp only at e1 e2 lx ⊢
  have hlen:done.length<=2000:=by
   have h1:=hl.len
   have h2:=bv List.length e2
   rw[ac] at h2;lia
  cases lx with
  |nil=>
   refine .inl ⟨U3.eq (fg (aa t 2) (ei t b1 (aa t 0) (Wy hz))) ?_,by rw[<-e2];simp⟩
   rw[ck,<-e1,aH];simp
  |@sp XE us lx=>
   subst e1
   refine .inr ⟨U3.eq (fg (aa t 2) (ei t b1 (aa t 0) (Wy hz))) (by rw[ck,bh];simp;lia),.inr ⟨(pre++[32],XE,done),?_,⟨by simp,us,lx,e2⟩,by simp⟩⟩
   refine aC (e9 (U3.eq (b0 t (eD (aa t 0) (aa t 2) (Wy hz) zo) U0 (by decide)) (by decide)) (aC (qT t 2 rfl ah (by simp))))
  |@run u XE us hu hp lx=>
   subst e1
   obtain⟨c,u',rfl⟩:∃c u',u=c::u':=by
    cases u with
    |nil=>exact absurd rfl hu.ne
    |cons c cs=>exact⟨c,cs,rfl⟩
   have hc:=hu.al c (by simp)
   have hc2:S [c]≠S [32]:=fun e=>by have:=dB e;cases this;rw[Ny] at hc;cases hc
   have hat:k7 (S (pre++((c::u')++XE))).cps.toList (pre.length:Int)=some c:=zo
   refine .inr ⟨U3.eq (fg (aa t 2) (ei t b1 (aa t 0) (Wy hz))) (by rw[ck,bh];simp;lia),.inr ⟨(pre++(c::u'),XE,done++[c::u']),?_,⟨by simp,us,lx,by rw[<-e2];simp⟩,by simp;lia⟩⟩
   refine aC (cA (U3.eq (b0 t (eD (aa t 0) (aa t 2) (Wy hz) hat) U0 (fv fun x hx=>hu.lt x (by simp at hx;simp[hx]))) (by rw[aH,show(" " : Str)=S [32] by decide];exact hc2)) ?_)
   refine ax (i7 t 1 rfl (a9 t c1 (ab (aa t 0) (ab (aa t 2) af)) ⟨pre,XE,.inl ⟨c::u',by rw[aF],hu,hp,by rw[aF];exact hz,rfl⟩⟩) (by unfold aO;rw[ag];exact eV hlen (by decide))) (aC (Vy.eq (qT t 2 (v:=((pre++c::u').length:Nat)) rfl (ei t b1 (cb (eQ t 1 rfl) (gA ah) (tm (.inl rfl))) (Wy (by have:=hu.len;lia))) (by rw[ck];simp)) ?_))
   unfold aO
   simp
  |@sign c XE us hc h0 hsg lx=>
   subst e1
   have hc2:S [c]≠S [32]:=fun e=>by have:=dB e;cases this;exact h0 rfl
   have VH:∀x∈c::XE,x<128:=fun x hx=>ha x (bH _ hx)
   refine .inr ⟨U3.eq (fg (aa t 2) (ei t b1 (aa t 0) (Wy hz))) (by rw[ck,bh];simp;lia),.inr ⟨(pre++[c],XE,done++[[c]]),?_,⟨by simp,us,lx,by rw[<-e2];simp⟩,by simp⟩⟩
   refine aC (cA (U3.eq (b0 t (eD (aa t 0) (aa t 2) (Wy hz) zo) U0 (fv fun x hx=>VH x (by simp at hx;simp[hx]))) (by rw[aH,show(" " : Str)=S [32] by decide];exact hc2)) ?_)
   refine ax (i7 t 1 rfl (a9 t c1 (ab (aa t 0) (ab (aa t 2) af)) ⟨pre,XE,.inr (.inl ⟨c,rfl,hc,VH,hsg,hz,rfl⟩)⟩) (by unfold aO;rw[ag];exact eV hlen (by decide))) (aC (Vy.eq (qT t 2 (v:=((pre++[c]).length:Nat)) rfl (ei t b1 (cb (eQ t 1 rfl) (gA ah) (tm (.inl rfl))) (Wy (by simp))) (by rw[ck];simp)) ?_))
   unfold aO
   simp
  |@dbl c XE us hc3 lx=>
   subst e1
   have hc2:S [c]≠S [32]:=fun e=>by have:=dB e;cases this;lia
   have VH:∀x∈c::61::XE,x<128:=fun x hx=>ha x (bH _ hx)
   refine .inr ⟨U3.eq (fg (aa t 2) (ei t b1 (aa t 0) (Wy hz))) (by rw[ck,bh];simp;lia),.inr ⟨(pre++[c,61],XE,done++[[c,61]]),?_,⟨by simp,us,lx,by rw[<-e2];simp⟩,by simp;lia⟩⟩
   refine aC (cA (U3.eq (b0 t (eD (aa t 0) (aa t 2) (Wy hz) zo) U0 (fv fun x hx=>VH x (by simp at hx;simp[hx]))) (by rw[aH,show(" " : Str)=S [32] by decide];exact hc2)) ?_)
   refine ax (i7 t 1 rfl (a9 t c1 (ab (aa t 0) (ab (aa t 2) af)) ⟨pre,XE,.inr (.inr ⟨c,rfl,hc3,hz,rfl⟩)⟩) (by unfold aO;rw[ag];exact eV hlen (by decide))) (aC (Vy.eq (qT t 2 (v:=((pre++[c,61]).length:Nat)) rfl (ei t b1 (cb (eQ t 1 rfl) (gA ah) (tm (.inl rfl))) (Wy (by simp))) (by rw[ck];simp)) ?_))
   unfold aO
   simp
 ·rintro⟨pre,bF,done⟩ e
  subst e
  exact gJ 1 rfl (aC (bp (aa t 1)))
def n8(o c:bN):List bN->Int
 |[]=>0
 |u::ts=>n8 o c ts+(b2i (decide (S u=S o))-b2i (decide (S u=S c)))
def AB(o c u:bN):∀ts,n8 o c (ts++[u])=n8 o c ts+(b2i (decide (S u=S o))-b2i (decide (S u=S c)))
 |[]=>by simp[n8]
 |v::ts=>by show n8 o c (ts++[u])+_=n8 o c ts+_+_;rw[AB o c u ts];lia
def lD(ds:aU)(d:D):Prop:=∃(ts:List bN) (o c:bN),ds=[.lst (aO ts),.str (S o),.str (S c)]/\(∀u∈ts,∀x∈u,x<128)/\(∀x∈o,x<128)/\(∀x∈c,x<128)/\(∀i,i<=ts.length->n8 o c (ts.take i)<=20)/\d=.Vs
def uV:∀ds d,lD ds d->ds.length=3:=by rintro _ _ ⟨a,b,c,rfl,_⟩;rfl
def zf(h:DefX P w K mg base k VM (ai gf) X)(gM:∃tk,mg "MOST_OPEN"=some (.int 20 tk)):
  ∀ds d,lD ds d->U4 X (ds.map Sl.val++List.replicate (VM.length-ds.length) Sl.un) (bE gf) (.rt d)\/(d=.Vs/\∃ρ',U4 X (ds.map Sl.val++List.replicate (VM.length-ds.length) Sl.un) (bE gf) (.nx ρ')):=by
 rintro ds r ⟨ts,o,c,rfl,ha,ho,hc,hd,rfl⟩
 have t:=h.at'
 haveI:=h.VI
 have gM':∃tk,X.mg "MOST_OPEN"=some (.int 20 tk):=by rw[h.WD];exact gM
 refine .inr ⟨rfl,[.val (.lst (aO ts)),.val (.str (S o)),.val (.str (S c)),.val (.int (n8 o c ts)),.un],?_⟩
 refine ax (bS t 3 ah) (aC (i6 t (Ex (aa t 0)) (Vt.VD (fun i=>[.val (.lst (aO ts)),.val (.str (S o)),.val (.str (S c)),.val (.int (n8 o c (ts.take i))),.un]) (fun j d e=>?_) rfl ?_)))
 ·unfold aO at e
  rw[List.getElem?_map] at e
  cases e2:ts[j]? with
  |none=>rw[e2] at e;cases e
  |some u=>
   rw[e2] at e
   cases e
   have hj:=(List.getElem?_eq_some_iff.mp e2).1
   have hu:∀x∈u,x<128:=ha u (List.mem_of_getElem? e2)
   have et:n8 o c (ts.take (j+1))=n8 o c (ts.take j)+(b2i (decide (S u=S o))-b2i (decide (S u=S c))):=by
    rw[rH,e2];exact AB o c u _
   refine⟨_,bf t 4,U4.weak (ax (qT t 3 rfl (L9 (JN t (aa t 4) (aa t 1) (fv hu) (fv ho)) (JN t (aa t 4) (aa t 2) (fv hu) (fv hc))) et) (aC (cA (U3.eq (hW (aa t 3) (sS t gM')) ?_) bR))) (.keep (.keep (.keep (.keep (.forget .nil)))))⟩
   have:=hd (j+1) (by lia)
   rw[aH];lia
 ·show _=_
  unfold aO
  rw[ag,bo]
def HD(ts:ce):Str:=ts.headD ""
def cD(toks:ce)(ds:aU)(s:Int×aU)(d:D)(s':Int×aU):Prop:=∃n:Nat,ds=[]/\s.1=n/\d=.str (HD (toks.drop n))/\s'=s
def xf:∀ts ds s d s',cD ts ds s d s'->ds.length+1=1:=by rintro _ _ _ _ _ ⟨a,rfl,_⟩;rfl
def cV(toks:ce)(ds:aU)(s:Int×aU)(d:D)(s':Int×aU):Prop:=∃n:Nat,ds=[]/\s.1=n/\d=.str (HD (toks.drop n))/\s'=((n:Int)+1,s.2)
def w8:∀ts ds s d s',cV ts ds s d s'->ds.length+1=1:=by rintro _ _ _ _ _ ⟨a,rfl,_⟩;rfl
def lC(toks:ce)(ds:aU)(s:Int×aU)(d:D)(s':Int×aU):Prop:=∃n:Nat,ds=[]/\s.1=n/\toks.length<=n/\d=.Vs/\s'=s
def uU:∀ts ds s d s',lC ts ds s d s'->ds.length+1=1:=by rintro _ _ _ _ _ ⟨a,rfl,_⟩;rfl
def dh{ts:ce}{n:Nat}{u:Str}{bF:ce}(h:ts.drop n=u::bF):HD (ts.drop n)=u/\ts.drop (n+1)=bF:=⟨by rw[h];rfl,(iC h).2.1⟩
def sz{n:Nat}(h:n<10000):n<sizeLine:=lK h (by decide)
def zd(h:DefX P w K mg base k mT (ai jA) X)(Vc:mg "len"=none):
  Hq X mT jA cD:=by
 rintro r ok ds ⟨i,xs⟩ d s' ⟨n,rfl,hn,rfl,rfl⟩
 have t:=h.at'
 have b1:=h.bt Vc
 have W0:i=(n:Int):=hn
 subst W0
 refine .inl ?_
 refine cj (v7 ?_)
 have hl:((r.toks.map D.str).length:Int)=(r.toks.length:Nat):=by rw[ag]
 by_cases e:n<r.toks.length
 ·refine O4 (VC.eq (HA (vm t ok 0 rfl) (Er t b1 (vk t ok 0 rfl))) ?_) (Vg.eq (O3 (vk t ok 0 rfl) (vm t ok 0 rfl) (ej (by rw[List.getElem?_map,List.getElem?_eq_getElem e];rfl))) ?_)
  ·rw[hl,bh];show(n:Int)<_;lia
  ·rw[bY e];rfl
 ·refine O5 (VC.eq (HA (vm t ok 0 rfl) (Er t b1 (vk t ok 0 rfl))) ?_) (Vg.eq (U1.z U0) ?_)
  ·rw[hl,aH];show ¬((n:Int)<_);lia
  ·rw[lO (by lia)];rfl
def y8(h:DefX P w K mg base k mO (ai jv) X)(c1:U5 X "next_token" cD):
  Hq X mO jv cV:=by
 rintro r ok ds ⟨i,xs⟩ d s' ⟨n,rfl,hn,rfl,rfl⟩
 have t:=h.at'
 haveI:=h.VI
 have W0:i=(n:Int):=hn
 subst W0
 refine .inl ?_
 exact a8 (je t 1 (bZ t ok c1 (bO (U1.z (aa t 0)) (Vw.z af)) ⟨n,rfl,rfl,rfl,rfl⟩)) (a8 (Lo t ok 0 rfl ah) (cj (v7 (U1.z (aa t 1)))))
def xF(h:DefX P w K mg base k lp (ai iK) X)(Vc:mg "len"=none):
  Hq X lp iK lC:=by
 rintro r ok ds ⟨i,xs⟩ d s' ⟨n,rfl,hn,hl,rfl,rfl⟩
 have t:=h.at'
 have b1:=h.bt Vc
 have W0:i=(n:Int):=hn
 subst W0
 refine .inr ⟨rfl,[.val (.adr r.p)],?_⟩
 refine cj (jP (VC.eq (HA (vm t ok 0 rfl) (Er t b1 (vk t ok 0 rfl))) ?_) om)
 rw[ag,aH];show ¬((n:Int)<_);lia
section
variable {SS:LS}{s s1 s':SS.ds}
def Bp(ha:Vg SS X ρ a (.str z) s s1)(hb:Vg SS X ρ b (.str w) s1 s')(hz:z.length+w.length<=sizeLine):Vg SS X ρ (.BinOp a .Add b pos) (.str (z++w)) s s':=fun B F H σ Q c l k q=>.mk fun pins st I=>
 l5 qV aN aN pins st σ H Q I (Gw ha hb l k fun x y F' H' c' x' r' rx ry=>by
  cases rx;cases ry
  exact⟨z,w,rfl,rfl,hz,q _ F' H' c' x' r' (.str _)⟩)
def Ml{r:Bool}(t:At X N sc)(ha:U1 X ρ a d)(hb:U1 X ρ b (.lst xs))(sp:(e8 d).canLay0=true)(sd:(e8 d).depth<=62)(sq:PyData.canLayAll0 (Vb xs)=true)(he:(!(Vb xs).any fun y=>PyData.eqv y (e8 d))=r)(hm:behindInMarks .NotIn b=false:=by rfl):U3 X ρ (.Compare a [.NotIn] [b] pos) r:=
 .of (eg (N6 t sp sd sq) aN aN hm) fun B F H σ Q k q=>yb (U1.p ha) (U1.p hb) k fun x y F' H' x' rx ry=>⟨rx,ry,r,by rw[he],q F' H' x'⟩
end
def dX(toks:ce)(ds:aU)(s:Int×aU)(d:D)(s':Int×aU):Prop:=∃(n:Nat) (u:bN) (ts:List bN) (bF:ce),(ds=[.lst (aO ts)]\/ds=[.tup (aO ts)])/\s.1=n/\toks.drop n=S u::bF/\u∈ts/\(∀u∈ts,∀x∈u,x<128)/\d=.str (S u)/\s'=((n:Int)+1,s.2)
def uT:∀ts ds s d s',dX ts ds s d s'->ds.length+1=2:=by rintro _ _ _ _ _ ⟨a,b,c,e,rfl | rfl,_⟩<;>rfl
def E5{ts:List bN}(h:∀u∈ts,∀x∈u,x<128):PyData.canLayAll0 (Vb (aO ts))=true:=(Fn.all (n:=1) fun x hx=>by
 obtain⟨u,hu,rfl⟩:=List.mem_map.mp hx
 exact⟨dw (fv (h u hu)),by simp[e8,PyData.depth],by simp[e8,PyData.eqv]⟩).1
def E4{u:bN}{ts:List bN}(h:u∈ts):(!(Vb (aO ts)).any fun y=>PyData.eqv y (e8 (.str (S u))))=false:=by
 have:((Vb (aO ts)).any fun y=>PyData.eqv y (e8 (.str (S u))))=true:=by
  induction ts with
  |nil=>cases h
  |cons v ts ih=>
   show((S v==S u)||_)=true
   rcases aM.mp h with rfl | h
   ·simp
   ·rw[Bool.or_eq_true];exact .inr (ih h)
 rw[this];rfl
def L8:List bN:=[[48],[49],[50],[51],[52],[53],[54],[55],[56],[57]]
def L7(d:Nat)(h:d<=9):[48+d]∈L8:=by
 have:∀d:Nat,d<10->[48+d]∈L8:=by decide
 exact this d (by lia)
abbrev TK:=List bN
structure xW where
 VU:Nat
 atok:TK
 ast:TK
 pow:Option Nat
abbrev tF:=TK->TK->Prop
def kh(R:tF)(f:xW):Prop:=f.VU<=20/\R f.atok f.ast/\∀d,f.pow=some d->d<=9
def Py(R:tF):Prop:=∀tk st,R tk st->∃u us,tk=u::us/\u≠[45]
def yg:Option Nat->List bN
 |none=>[]
 |some d=>[[94],[48+d]]
def yh:Option Nat->List bN
 |none=>[]
 |some d=>[[94,48+d]]
def K2(f:xW):List bN:=f.atok++yg f.pow
def MU(f:xW):List bN:=f.ast++yh f.pow
def vg(f:xW):List bN:=List.replicate f.VU [45]++K2 f
def yj(n:Nat):List bN:=if n%2=1 then [[109,105,110,117,115]] else []
def Fg(f:xW):List bN:=MU f++yj f.VU
def ik:List xW->List bN
 |[]=>[]
 |f::fs=>[42]::(vg f++ik fs)
def la:List xW->List bN
 |[]=>[]
 |f::fs=>Fg f++([42]::la fs)
abbrev B3:=xW×List xW
def nz(R:tF)(p:B3):Prop:=kh R p.1/\∀f∈p.2,kh R f
def we(p:B3):List bN:=vg p.1++ik p.2
def DA(p:B3):List bN:=Fg p.1++la p.2
def xV(b:Bool):bN:=if b then [43] else [45]
def ge:List (Bool×B3)->List bN
 |[]=>[]
 |q::qs=>xV q.1::(we q.2++ge qs)
def ju:List (Bool×B3)->List bN
 |[]=>[]
 |q::qs=>DA q.2++(xV q.1::ju qs)
abbrev Hg:=B3×List (Bool×B3)
def Vp(R:tF)(t:Hg):Prop:=nz R t.1/\∀q∈t.2,nz R q.2
def jr(t:Hg):List bN:=we t.1++ge t.2
def rJ(t:Hg):List bN:=DA t.1++ju t.2
def sm(ts:List bN):ce:=ts.map S
def fT(a b:List bN):sm (a++b)=sm a++sm b:=aJ
def dg(a b:List bN):aO (a++b)=aO a++aO b:=aJ
def No(us:List bN)(post:ce):Prop:=∀u∈us,HD post≠S u
def CR{α:Type}(Ok:α->Prop)(tk st:α->List bN)(no:List bN)(toks:ce)(ds:aU)(s:Int×aU)(d:D)(s':Int×aU):Prop:=
 (∀x∈toks,PyData.strOk x=true)/\∃(n:Nat) (x:α) (post:ce),ds=[]/\s.1=n/\Ok x/\toks.drop n=sm (tk x)++post/\No no post/\s.2.length+(st x).length<10000/\d=.Vs/\s'=(((n+(tk x).length:Nat):Int),s.2++aO (st x))
def CR.len{α:Type}{Ok:α->Prop}{tk st:α->List bN}{no:List bN}:∀ts ds s d s',CR Ok tk st no ts ds s d s'->ds.length+1=1:=by rintro _ _ _ _ _ ⟨_,a,b,c,rfl,_⟩;rfl
def pJ(R:tF):=CR (fun p:TK×TK=>R p.1 p.2) Prod.fst Prod.snd []
def yo(R:tF):∀ts ds s d s',pJ R ts ds s d s'->ds.length+1=1:=CR.len
def m3(R:tF):=CR (kh R) K2 MU [[94]]
def lE(R:tF):=CR (kh R) vg Fg [[94]]
def kl(R:tF):=CR (nz R) we DA [[94],[42]]
def kj(R:tF):=CR (Vp R) jr rJ [[94],[42],[43],[45]]
def xb(R:tF):∀ts ds s d s',m3 R ts ds s d s'->ds.length+1=1:=CR.len
def uX(R:tF):∀ts ds s d s',lE R ts ds s d s'->ds.length+1=1:=CR.len
def tU(R:tF):∀ts ds s d s',kl R ts ds s d s'->ds.length+1=1:=CR.len
def sI(R:tF):∀ts ds s d s',kj R ts ds s d s'->ds.length+1=1:=CR.len
def eF{ts:ce}{n:Nat}{a b:ce}(h:ts.drop n=a++b):ts.drop (n+a.length)=b:=by
 rw[<-PM,h];simp
def fS(a:List bN):(sm a).length=a.length:=ag _
def aY(a:List bN):(aO a).length=a.length:=ag _
def xk{ts:ce}{n:Nat}{post:ce}{us:List bN}(h:ts.drop n=sm (u::us)++post):HD (ts.drop n)=S u/\ts.drop (n+1)=sm us++post:=dh h
def PP{st:Stmt}{SS:LS}{s a b:SS.ds}(h:VA SS X ρ st o s a)(e:a=b):VA SS X ρ st o s b:=e ▸ h
def Ch{st:List Stmt}{SS:LS}{s a b:SS.ds}(h:Wd SS X ρ st o s a)(e:a=b):Wd SS X ρ st o s b:=e ▸ h
def V5.ix{SS:LS}(R:Nat->cn)(T:Nat->SS.ds)(n:Nat)(h:∀i,i<n->VC SS X (R i) cd true (T i) (T i)/\Wd SS X (R i) body (.nx (R (i+1))) (T i) (T (i+1)))(hn:VC SS X (R n) cd false (T n) (T n)):∀(k i:Nat),i+k=n->V5 SS X cd body k (R i) (T i) (R n) (T n)
 |0,i,e=>by
  have e':i=n:=by lia
  subst e'
  exact .stop hn
 |k+1,i,e=>.step (h i (by lia)).1 (h i (by lia)).2 (V5.ix R T n h hn k (i+1) (by lia))
def pU{ρ ρ':cn}{SS:LS}{s s':SS.ds}(t:At X N sc)(R:Nat->cn)(T:Nat->SS.ds)(n:Nat)(h:∀i,i<n->VC SS X (R i) cd true (T i) (T i)/\Wd SS X (R i) body (.nx (R (i+1))) (T i) (T (i+1)))(hn:VC SS X (R n) cd false (T n) (T n))(e1:R 0=ρ)(e2:T 0=s)(e3:R n=ρ')(e4:T n=s'):
  VA SS X ρ (.While cd body [] pos) (.nx ρ') s s':=by
 subst e1;subst e2;subst e3;subst e4
 exact Cg t ⟨n,V5.ix R T n h hn n 0 (by lia)⟩
def Jy{ts:ce}(h:∀x∈ts,PyData.strOk x=true)(n:Nat):PyData.strOk (HD (ts.drop n))=true:=by
 cases e:ts.drop n with
 |nil=>decide
 |cons a b=>exact h a (List.mem_of_mem_drop (by rw[e];simp))
def sF{z:Str}{b:Bool}{ρ:cn}(t:At X N sc)(ok:li X.K r)(c2:U5 X "next_token" cD)(ho:∀x∈r.toks,PyData.strOk x=true)(hr:ρ[0]?=some (.val (.adr r.p)))(hz:PyData.strOk z=true)(hb:decide (HD (r.toks.drop n)=z)=b)(hN:N[0]?=some ("reader" : Str):=by rfl)(hv:dW sc ("reader" : Str)=true:=by rfl)(hx:cm ("reader" : Str)=true:=by rfl)(hg:sc.names.lookup ("next_token" : Str)=some .globalImplicit:=by rfl):
  VC (Vd r) X ρ (.Compare (.Call (.Name "next_token" p) [.Name "reader" py] [] pos) [.Eq] [.Constant (.str z) j p2] pos') b ((n:Int),xs) ((n:Int),xs):=
 VC.eq (Qe t (bZ t ok c2 (bO (U1.z (aa t 0 hr hN hv hx)) (Vw.z af)) ⟨n,rfl,rfl,rfl,rfl⟩ hg) (U1.z U0) (gR (Jy ho n)) (gR hz) rfl) (by rw[<-hb];exact fu _ _)
def qR{ρ:cn}(t:At X N sc)(ok:li X.K r)(c3:U5 X "take_token" cV)(hr:ρ[0]?=some (.val (.adr r.p)))(hN:N[0]?=some ("reader" : Str):=by rfl)(hv:dW sc ("reader" : Str)=true:=by rfl)(hx:cm ("reader" : Str)=true:=by rfl)(hg:sc.names.lookup ("take_token" : Str)=some .globalImplicit:=by rfl):
  Vg (Vd r) X ρ (.Call (.Name "take_token" p) [.Name "reader" py] [] pos) (.str (HD (r.toks.drop n))) ((n:Int),xs) (((n+1:Nat):Int),xs):=
 bZ t ok c3 (bO (U1.z (aa t 0 hr hN hv hx)) (Vw.z af)) ⟨n,rfl,rfl,rfl,by rw[jO];rfl⟩ hg
def xE(h:DefX P w K mg base k lm (ai iJ) X)(c1:U5 X "take_token" cV):
  Hq X lm iJ dX:=by
 rintro r ok ds ⟨i,xs⟩ d s' ⟨n,u,ts,bF,Z9,hn,hd,hu,VH,rfl,rfl⟩
 have t:=h.at'
 haveI:=h.VI
 have W0:i=(n:Int):=hn
 subst W0
 have hc:∀x∈u,x<128:=VH u hu
 refine .inl ?_
 rcases Z9 with rfl | rfl
 ·show Wd (Vd r) X [.val (.adr r.p),.val (.lst (aO ts)),.un] _ _ _ _
  exact a8 (je t 2 (bZ t ok c1 (bO (U1.z (aa t 0)) (Vw.z af)) ⟨n,rfl,rfl,by rw[(dh hd).1],rfl⟩)) (a8 (jP (U3.z (Ml t (aa t 2) (aa t 1) (dw (fv hc)) (cU _) (E5 VH) (E4 hu))) om) (cj (v7 (U1.z (aa t 2)))))
 ·show Wd (Vd r) X [.val (.adr r.p),.val (.tup (aO ts)),.un] _ _ _ _
  exact a8 (je t 2 (bZ t ok c1 (bO (U1.z (aa t 0)) (Vw.z af)) ⟨n,rfl,rfl,by rw[(dh hd).1],rfl⟩)) (a8 (jP (U3.z (F8 t (aa t 2) (aa t 1) (dw (fv hc)) (cU _) (E5 VH) (E4 hu))) om) (cj (v7 (U1.z (aa t 2)))))
def za(h:DefX P w K mg base k mR (ai jy) X)(Xj:mg "list"=none)(c1:U5 X "read_atom" (pJ R))(c2:U5 X "next_token" cD)(c3:U5 X "take_token" cV)(c4:U5 X "take_one_of" dX)(gF:∃tk,mg "FIGURES"=some (.str XJ tk)):
  Hq X mR jy (m3 R):=by
 rintro r ok ds ⟨i,xs⟩ d s' ⟨ho,n,f,post,rfl,hn,hf,hd,Xh,hz,rfl,rfl⟩
 have t:=h.at'
 haveI:=h.VI
 have b1:=h.bt Xj
 have gF':∃tk,X.mg "FIGURES"=some (.str XJ tk):=by rw[h.WD];exact gF
 have W0:i=(n:Int):=hn
 subst W0
 obtain⟨m,XG,Yx,pw⟩:=f
 refine .inr ⟨rfl,[.val (.adr r.p)],?_⟩
 show Wd (Vd r) X [.val (.adr r.p)] _ _ ((n:Int),xs) (((n+(XG++yg pw).length:Nat):Int),xs++aO (Yx++yh pw))
 have Yr:xs.length+(Yx++yh pw).length<10000:=hz
 rw[ac] at Yr
 have Ye:r.toks.drop n=sm XG++(sm (yg pw)++post):=by rw[<-aF,<-fT];exact hd
 have hdp:=eF Ye
 rw[fS] at hdp
 have hxs:(xs++aO Yx).length+(yh pw).length<10000:=by rw[ac,aY];lia
 refine a8 (de (bZ t ok c1 (bO (U1.z (aa t 0)) (Vw.z af)) ⟨ho,n,(XG,Yx),sm (yg pw)++post,rfl,rfl,hf.2.1,Ye,(fun u hu=>nomatch hu),(by show xs.length+Yx.length<10000;lia),rfl,rfl⟩)) ?_
 cases pw with
 |none=>
  have e:HD (r.toks.drop (n+XG.length))≠("^" : Str):=by rw[hdp,show("^" : Str)=S [94] by decide];exact Xh [94] (by simp)
  refine Ch (cj (jP (sF t ok c2 ho rfl (by decide) (ak e)) om)) ?_
  show(((n+XG.length:Nat):Int),xs++aO Yx)=(((n+(XG++[]).length:Nat):Int),xs++aO (Yx++[]))
  rw[aP,aP]
 |some dd=>
  have h2:=xk hdp
  have h3:=xk h2.2
  have hdd:=hf.2.2 dd rfl
  have e:HD (r.toks.drop (n+XG.length))=("^" : Str):=by rw[h2.1];decide
  have hfg:MW XJ=aO L8:=by unfold MW aO;rw[show XJ.cps.toList=[48,49,50,51,52,53,54,55,56,57] by decide];rfl
  refine cj (qQ (sF t ok c2 ho rfl (by decide) (ay e)) (a8 (de (qR t ok c3 rfl)) (cj ?_)))
  refine PP (kW t ok 0 rfl (Vg.eq (Bp (U1.z U0) (bZ t ok c4 (bO (U1.z (aa t 0)) (bO (U1.z (U1.eq (U9.Vm (JY t b1 (xn t gF') (by decide))) (by rw[hfg]))) (Vw.z af))) ⟨n+XG.length+1,[48+dd],L8,post,.inl rfl,rfl,h2.2,L7 dd hdd,(by decide),rfl,rfl⟩) (by rw[ck,show("^" : Str).length=1 by decide];exact ar (show 1+1<=10 by decide) (by decide))) (show D.str (("^" : Str)++S [48+dd])=.str (S [94,48+dd]) by rw[show("^" : Str)=S [94] by decide,ny];rfl)) (sz (by have:(yh (some dd)).length=1:=rfl;show(xs++aO Yx).length<10000;lia))) ?_
  refine fw ?_ ?_
  ·show((n+XG.length+1:Nat):Int)+1=_
   simp[yg];lia
  ·show xs++aO Yx++[D.str (S [94,48+dd])]=_
   simp[aO,yh]
def N5{post:ce}(hR:Py R){f:xW}(hf:kh R f):HD (sm (K2 f)++post)≠("-" : Str):=fun e=>by
 rw[show("-" : Str)=S [45] by decide] at e
 obtain⟨u,us,eu,ne⟩:=hR _ _ hf.2.1
 unfold K2 at e
 rw[eu] at e
 exact ne (dB e)
def GS{ts:ce}{n:Nat}{post:ce}{w:List bN}(h:ts.drop n=sm (List.replicate m [45]++w)++post)(i:Nat)(hi:i<=m):ts.drop (n+i)=sm (List.replicate (m-i) [45]++w)++post:=by
 rw[show List.replicate m [45]=List.replicate i [45]++List.replicate (m-i) [45] by rw[Hr];congr 1;lia,aF,fT,aF] at h
 have:=eF h
 rw[fS,dF] at this
 exact this
def xG(hR:Py R)(h:DefX P w K mg base k lr (ai iN) X)(c1:U5 X "read_power" (m3 R))(c2:U5 X "next_token" cD)(c3:U5 X "take_token" cV)(gM:∃tk,mg "MOST_MINUSES"=some (.int 20 tk)):
  Hq X lr iN (lE R):=by
 rintro r ok ds ⟨i,xs⟩ d s' ⟨ho,n,f,post,rfl,hn,hf,hd,Xh,hz,rfl,rfl⟩
 have t:=h.at'
 haveI:=h.VI
 have gM':∃tk,X.mg "MOST_MINUSES"=some (.int 20 tk):=by rw[h.WD];exact gM
 have W0:i=(n:Int):=hn
 subst W0
 have hm:=hf.1
 have Yr:xs.length+(MU f++yj f.VU).length<10000:=hz
 rw[ac] at Yr
 have hdm:∀i,i<=f.VU->r.toks.drop (n+i)=sm (List.replicate (f.VU-i) [45]++K2 f)++post:=GS hd
 refine .inr ⟨rfl,[.val (.adr r.p),.val (.int f.VU)],?_⟩
 refine a8 (Vy.z (bS t 1 ah)) (a8 (pU t (fun i=>[.val (.adr r.p),.val (.int i)]) (fun i=>(((n+i:Nat):Int),xs)) f.VU (fun i hi=>?_) ?_ rfl rfl rfl rfl) ?_)
 ·have e:HD (r.toks.drop (n+i))=("-" : Str):=by
   rw[hdm i (by lia),show f.VU-i=(f.VU-i-1)+1 by lia,aA]
   exact(show("-" : Str)=S [45] by decide).symm
  exact⟨sF t ok c2 ho rfl (by decide) (ay e),a8 (de (qR t ok c3 rfl)) (cj (Vy.z (qT t 1 rfl ah (by rw[jO];rfl))))⟩
 ·have e:HD (r.toks.drop (n+f.VU))≠("-" : Str):=by
   rw[hdm f.VU (aj _),lJ]
   exact N5 hR hf
  exact sF t ok c2 ho rfl (by decide) (ak e)
 ·have hdw:r.toks.drop (n+f.VU)=sm (K2 f)++post:=by
   have:=hdm f.VU (aj _)
   rw[lJ] at this
   exact this
  have el:(vg f).length=f.VU+(K2 f).length:=by simp[vg]
  refine a8 (Vy.z (cA (U3.eq (hW (aa t 1) (sS t gM')) (by rw[aH];lia)) bR)) (a8 (s1:=(((n+(vg f).length:Nat):Int),xs++aO (MU f))) (de (bZ t ok c1 (bO (U1.z (aa t 0)) (Vw.z af)) ⟨ho,n+f.VU,f,post,rfl,rfl,hf,hdw,Xh,by show xs.length+_<_;lia,rfl,by rw[el,uv]⟩)) (cj ?_))
  by_cases e:f.VU%2=1
  ·refine qQ (U3.z (U3.eq (JV (FX (aa t 1) ah)) (by rw[show(f.VU:Int)%2 ^ 1=1 by lia];rfl))) (cj (PP (kW t ok 0 rfl (U1.z U0) (sz (by show(xs++aO (MU f)).length<_;rw[ac,aY];lia))) ?_))
   refine fw rfl ?_
   show xs++aO (MU f)++[D.str "minus"]=xs++aO (MU f++yj f.VU)
   rw[dg,aF,show yj f.VU=[[109,105,110,117,115]] by unfold yj;rw[au e]]
   rw[show("minus" : Str)=S [109,105,110,117,115] by decide]
   rfl
  ·refine PP (jP (U3.z (U3.eq (JV (FX (aa t 1) ah)) (by rw[show(f.VU:Int)%2 ^ 1=0 by lia];rfl))) om) ?_
   show _=(_,xs++aO (MU f++yj f.VU))
   rw[show yj f.VU=[] by unfold yj;rw[aq e],aP]
def wf:∀a b:List xW,ik (a++b)=ik a++ik b
 |[],b=>rfl
 |f::a,b=>by show[42]::(vg f++ik (a++b))=_;rw[wf a b];simp[ik]
def rR:∀a b:List xW,la (a++b)=la a++la b
 |[],b=>rfl
 |f::a,b=>by show Fg f++([42]::la (a++b))=_;rw[rR a b];simp[la]
def rO:∀a b:List (Bool×B3),ge (a++b)=ge a++ge b
 |[],b=>rfl
 |f::a,b=>by show xV f.1::(we f.2++ge (a++b))=_;rw[rO a b];simp[ge]
def ox:∀a b:List (Bool×B3),ju (a++b)=ju a++ju b
 |[],b=>rfl
 |f::a,b=>by show DA f.2++(xV f.1::ju (a++b))=_;rw[ox a b];simp[ju]
def K3{i:Nat}{α:Type}(xs:List α)(h:i<xs.length):xs.take (i+1)=xs.take i++[xs[i]]:=by rw[rH,List.getElem?_eq_getElem h];rfl
def K8:S [42]≠S [94]:=fun e=>by have:=dB e;cases this
def Fx:∀b,S (xV b)≠S [94]/\S (xV b)≠S [42]:=fun b=>by cases b<;>exact⟨fun e=>(by have:=dB e;cases this),fun e=>(by have:=dB e;cases this)⟩
def M6{fs:List xW}(h:No [[94],[42]] post):No [[94]] (sm (ik fs)++post):=fun u hu=>by
 simp at hu
 subst hu
 cases fs with
 |nil=>exact h [94] (by simp)
 |cons f fs=>exact K8
def M5{qs:List (Bool×B3)}(h:No [[94],[42],[43],[45]] post):No [[94],[42]] (sm (ge qs)++post):=fun u hu=>by
 cases qs with
 |nil=>
  have ZZ:u=[94]\/u=[42]:=by simpa using hu
  rcases ZZ with rfl | rfl
  ·exact h [94] (by simp)
  ·exact h [42] (by simp)
 |cons q qs=>
  have ZZ:u=[94]\/u=[42]:=by simpa using hu
  rcases ZZ with rfl | rfl
  ·exact(Fx q.1).1
  ·exact(Fx q.1).2
def u5(h:DefX P w K mg base k kb (ai gT) X)(c1:U5 X "read_factor" (lE R))(c2:U5 X "next_token" cD)(c3:U5 X "take_token" cV):
  Hq X kb gT (kl R):=by
 rintro r ok ds ⟨i,xs⟩ d s' ⟨ho,n,⟨f,fs⟩,post,rfl,hn,hf,hd,Xh,hz,rfl,rfl⟩
 have t:=h.at'
 haveI:=h.VI
 have W0:i=(n:Int):=hn
 subst W0
 have Yr:xs.length+(Fg f++la fs).length<10000:=hz
 rw[ac] at Yr
 have Ye:r.toks.drop n=sm (vg f)++(sm (ik fs)++post):=by rw[<-aF,<-fT];exact hd
 have hd2:r.toks.drop (n+(vg f).length)=sm (ik fs)++post:=by have:=eF Ye;rw[fS] at this;exact this
 refine .inr ⟨rfl,[.val (.adr r.p)],?_⟩
 show Wd (Vd r) X [.val (.adr r.p)] _ _ ((n:Int),xs) (((n+(vg f++ik fs).length:Nat):Int),xs++aO (Fg f++la fs))
 have dr:∀i,i<=fs.length->r.toks.drop (n+(vg f).length+(ik (fs.take i)).length)=sm (ik (fs.drop i))++post:=fun i hi=>by
  have e:ik fs=ik (fs.take i)++ik (fs.drop i):=by rw[<-wf,cZ]
  rw[e,fT,aF] at hd2
  have:=eF hd2
  rw[fS] at this
  exact this
 have zl:∀i,i<=fs.length->(la (fs.take i)).length<=(la fs).length:=fun i hi=>by
  have e:la fs=la (fs.take i)++la (fs.drop i):=by rw[<-rR,cZ]
  rw[e,ac];lia
 refine a8 (de (bZ t ok c1 (bO (U1.z (aa t 0)) (Vw.z af)) ⟨ho,n,f,sm (ik fs)++post,rfl,rfl,hf.1,Ye,M6 Xh,by show xs.length+_<_;lia,rfl,rfl⟩)) (cj (pU t (fun _=>[.val (.adr r.p)]) (fun i=>(((n+(vg f).length+(ik (fs.take i)).length:Nat):Int),xs++aO (Fg f++la (fs.take i)))) fs.length (fun i hi=>?_) ?_ rfl ?_ rfl ?_))
 ·have d0:=dr i (by lia)
  rw[show fs.drop i=fs[i]::fs.drop (i+1) by rw[bY hi]] at d0
  have h1:=xk d0
  have e:HD (r.toks.drop (n+(vg f).length+(ik (fs.take i)).length))=("*" : Str):=by rw[h1.1];decide
  have h2:=h1.2
  rw[fT,aF] at h2
  have zi:=zl (i+1) (by lia)
  rw[K3 fs hi,rR,ac] at zi
  have zi':(la [fs[i]]).length=(Fg fs[i]).length+1:=by simp[la]
  refine⟨sF t ok c2 ho rfl (by decide) (ay e),a8 (de (qR t ok c3 rfl)) (a8 (de (bZ t ok c1 (bO (U1.z (aa t 0)) (Vw.z af)) ⟨ho,n+(vg f).length+(ik (fs.take i)).length+1,fs[i],sm (ik (fs.drop (i+1)))++post,rfl,rfl,hf.2 _ (gb hi),h2,M6 Xh,?_,rfl,rfl⟩)) (cj (PP (kW t ok 0 rfl (U1.z U0) (sz ?_)) ?_)))⟩
  ·show(xs++aO _).length+_<_
   rw[ac,aY,ac];lia
  ·show(xs++aO _++aO _).length<_
   rw[ac,ac,aY,aY,ac];lia
  ·refine fw ?_ ?_
   ·show(((_:Nat)):Int)=_
    rw[K3 fs hi,wf]
    simp[ik];lia
   ·show xs++aO _++aO _++[D.str "*"]=xs++aO _
    rw[K3 fs hi,rR,show("*" : Str)=S [42] by decide]
    simp[aO,la]
 ·have d0:=dr fs.length (aj _)
  rw[jd] at d0
  have e:HD (r.toks.drop (n+(vg f).length+(ik (fs.take fs.length)).length))≠("*" : Str):=by
   rw[d0,show("*" : Str)=S [42] by decide]
   exact Xh [42] (by simp)
  exact sF t ok c2 ho rfl (by decide) (ak e)
 ·show _=_
  simp[ik,la]
  rfl
 ·show _=_
  rw[bo,ac,uv]
def QI(w:Str):((Vb [D.str "+",.str "-"]).any fun y=>PyData.eqv y (e8 (.str w)))=(decide (w="+")||decide (w="-")):=He "+" "-" w
def M4{b:Bool}{ρ:cn}(t:At X N sc)(ok:li X.K r)(c2:U5 X "next_token" cD)(ho:∀x∈r.toks,PyData.strOk x=true)(hr:ρ[0]?=some (.val (.adr r.p)))(hb:(decide (HD (r.toks.drop n)="+")||decide (HD (r.toks.drop n)="-"))=b)(hN:N[0]?=some ("reader" : Str):=by rfl)(hv:dW sc ("reader" : Str)=true:=by rfl)(hx:cm ("reader" : Str)=true:=by rfl)(hg:sc.names.lookup ("next_token" : Str)=some .globalImplicit:=by rfl):
  VC (Vd r) X ρ (.Compare (.Call (.Name "next_token" p) [.Name "reader" py] [] pos) [.In] [.Tuple [.Constant (.str "+") j p2,.Constant (.str "-") j2 p3] kk p4] pos') b ((n:Int),xs) ((n:Int),xs):=
 MJ t (bZ t ok c2 (bO (U1.z (aa t 0 hr hN hv hx)) (Vw.z af)) ⟨n,rfl,rfl,rfl,rfl⟩ hg) (U1.z (aD (ab U0 (ab U0 af)))) (dw (Jy ho n)) (cU _) (by decide) (by rw[QI];exact hb)
def Db(h:DefX P w K mg base k rh (ai mC) X)(c1:U5 X "read_product" (kl R))(c2:U5 X "next_token" cD)(c3:U5 X "take_token" cV):
  Hq X rh mC (kj R):=by
 rintro r ok ds ⟨i,xs⟩ d s' ⟨ho,n,⟨f,fs⟩,post,rfl,hn,hf,hd,Xh,hz,rfl,rfl⟩
 have t:=h.at'
 haveI:=h.VI
 have W0:i=(n:Int):=hn
 subst W0
 have Yr:xs.length+(DA f++ju fs).length<10000:=hz
 rw[ac] at Yr
 have Ye:r.toks.drop n=sm (we f)++(sm (ge fs)++post):=by rw[<-aF,<-fT];exact hd
 have hd2:r.toks.drop (n+(we f).length)=sm (ge fs)++post:=by have:=eF Ye;rw[fS] at this;exact this
 refine .inr ⟨rfl,[.val (.adr r.p),.un],?_⟩
 show Wd (Vd r) X [.val (.adr r.p),.un] _ _ ((n:Int),xs) (((n+(we f++ge fs).length:Nat):Int),xs++aO (DA f++ju fs))
 have dr:∀i,i<=fs.length->r.toks.drop (n+(we f).length+(ge (fs.take i)).length)=sm (ge (fs.drop i))++post:=fun i hi=>by
  have e:ge fs=ge (fs.take i)++ge (fs.drop i):=by rw[<-rO,cZ]
  rw[e,fT,aF] at hd2
  have:=eF hd2
  rw[fS] at this
  exact this
 have zl:∀i,i<=fs.length->(ju (fs.take i)).length<=(ju fs).length:=fun i hi=>by
  have e:ju fs=ju (fs.take i)++ju (fs.drop i):=by rw[<-ox,cZ]
  rw[e,ac];lia
 refine a8 (de (bZ t ok c1 (bO (U1.z (aa t 0)) (Vw.z af)) ⟨ho,n,f,sm (ge fs)++post,rfl,rfl,hf.1,Ye,M5 Xh,by show xs.length+_<_;lia,rfl,rfl⟩)) (cj (pU t (fun _=>[.val (.adr r.p),.un]) (fun i=>(((n+(we f).length+(ge (fs.take i)).length:Nat):Int),xs++aO (DA f++ju (fs.take i)))) fs.length (fun i hi=>?_) ?_ rfl ?_ rfl ?_))
 ·have d0:=dr i (by lia)
  rw[show fs.drop i=fs[i]::fs.drop (i+1) by rw[bY hi]] at d0
  have h1:=xk d0
  have e:(decide (HD (r.toks.drop (n+(we f).length+(ge (fs.take i)).length))="+")||decide (HD (r.toks.drop (n+(we f).length+(ge (fs.take i)).length))="-"))=true:=by
   rw[h1.1]
   cases fs[i].1<;>decide
  have h2:=h1.2
  rw[fT,aF] at h2
  have zi:=zl (i+1) (by lia)
  rw[K3 fs hi,ox,ac] at zi
  have zi':(ju [fs[i]]).length=(DA fs[i].2).length+1:=by simp[ju]
  refine⟨M4 t ok c2 ho rfl e,Wd.weak (a8 (je t 1 (Vg.eq (qR t ok c3 rfl) (by rw[h1.1]))) (a8 (de (bZ t ok c1 (bO (U1.z (aa t 0)) (Vw.z af)) ⟨ho,n+(we f).length+(ge (fs.take i)).length+1,fs[i].2,sm (ge (fs.drop (i+1)))++post,rfl,rfl,hf.2 _ (gb hi),h2,M5 Xh,?_,rfl,rfl⟩)) (cj (PP (kW t ok 0 rfl (U1.z (aa t 1)) (sz ?_)) ?_)))) (.keep (.forget .nil))⟩
  ·show(xs++aO _).length+_<_
   rw[ac,aY,ac];lia
  ·show(xs++aO _++aO _).length<_
   rw[ac,ac,aY,aY,ac];lia
  ·refine fw ?_ ?_
   ·show(((_:Nat)):Int)=_
    rw[K3 fs hi,rO]
    simp[ge];lia
   ·show xs++aO _++aO _++[D.str _]=xs++aO _
    rw[K3 fs hi,ox]
    simp[aO,ju]
 ·have d0:=dr fs.length (aj _)
  rw[jd] at d0
  refine M4 t ok c2 ho rfl ?_
  rw[d0,Bool.or_eq_false_iff,aH,aH,show("+" : Str)=S [43] by decide,show("-" : Str)=S [45] by decide]
  exact⟨Xh [43] (by simp),Xh [45] (by simp)⟩
 ·show _=_
  simp[ge,ju]
  rfl
 ·show _=_
  rw[bo,ac,uv]
def AR:Nat->tF
 |0=>fun _ _=>False
 |n+1=>fun tk st=>(∃u,VQ u/\tk=[u]/\st=[u])\/∃T:Hg,Vp (AR n) T/\tk=[40]::(jr T++[[41]])/\st=rJ T
def AU{c:Nat}(h:VQ u)(hc:c<48):u≠[c]:=fun e=>by
 subst e
 rcases h with h | h | h
 ·have:=h.2.1 c (aE.mpr rfl);lia
 ·cases h;lia
 ·cases h;lia
def LX:∀n,Py (AR n)
 |0,_,_,h=>h.elim
 |n+1,tk,st,h=>by
  rcases h with⟨u,hu,rfl,rfl⟩ | ⟨T,hT,rfl,rfl⟩
  ·exact⟨u,[],rfl,AU hu (by decide)⟩
  ·exact⟨[40],_,rfl,by decide⟩
def BL(h:DefX P w K mg base k pf (ai kK) X)(c1:U5 X "take_token" cV)(c2:U5 X "read_sum" (kj (AR n)))(c3:U5 X "take_one_of" dX)(c4:Callee X "is_number" pM):
  Hq X pf kK (pJ (AR (n+1))):=by
 rintro r ok ds ⟨i,xs⟩ d s' ⟨ho,n,⟨XG,Yx⟩,post,rfl,hn,hf,hd,Xh,hz,rfl,rfl⟩
 have t:=h.at'
 haveI:=h.VI
 have W0:i=(n:Int):=hn
 subst W0
 rcases hf with⟨u,hu,e1,e2⟩ | ⟨T,hT,e1,e2⟩
 ·have e1':XG=[u]:=e1
  have e2':Yx=[u]:=e2
  subst e1' e2'
  have hd1:r.toks.drop n=S u::post:=hd
  have Xi:S u≠("(" : Str):=fun e=>by
   rw[show("(" : Str)=S [40] by decide] at e
   exact AU hu (by decide) (dB e)
  have Yr:xs.length+1<10000:=hz
  refine .inr ⟨rfl,[.val (.adr r.p),.val (.str (S u))],?_⟩
  refine a8 (je t 1 (bZ (s':=(((n+1:Nat):Int),xs)) t ok c1 (bO (U1.z (aa t 0)) (Vw.z af)) ⟨n,rfl,rfl,by rw[(dh hd1).1],by rw[jO];rfl⟩)) (cj (jP (U3.z (U3.eq (b0 t (aa t 1) U0 (fv hu.lt)) (ak Xi))) (cj (qQ (U3.z ?_) (cj (kW t ok 0 rfl (U1.z (aa t 1)) (sz (by show xs.length<10000;lia))))))))
  rcases id hu with hh | hh
  ·exact U3.eq (ji (v:=true) (eE (a9 t c4 (ab (aa t 1) af) ⟨u,rfl,hu,.inl ⟨hh,rfl⟩⟩)) (fun z=>nomatch z)) rfl
  ·exact U3.eq (ji (eE (a9 t c4 (ab (aa t 1) af) ⟨u,rfl,hu,.inr ⟨hh,rfl⟩⟩)) (fun _=>Pc t (aa t 1) (fv hu.lt))) (by rcases hh with rfl | rfl<;>decide)
 ·have e1':XG=[40]::(jr T++[[41]]):=e1
  have e2':Yx=rJ T:=e2
  subst e1' e2'
  have h1:=xk hd
  have h2:r.toks.drop (n+1)=sm (jr T)++(S [41]::post):=by rw[h1.2,fT,aF];rfl
  have h3:=eF h2
  rw[fS] at h3
  refine .inr ⟨rfl,[.val (.adr r.p),.val (.str "(")],?_⟩
  refine a8 (je t 1 (bZ (s':=(((n+1:Nat):Int),xs)) t ok c1 (bO (U1.z (aa t 0)) (Vw.z af)) ⟨n,rfl,rfl,by rw[h1.1,show("(" : Str)=S [40] by decide],by rw[jO];rfl⟩)) (cj (qQ (U3.z (U3.eq (b0 t (aa t 1) U0 (by decide)) (by decide))) (a8 (de (bZ t ok c2 (bO (U1.z (aa t 0)) (Vw.z af)) ⟨ho,n+1,T,S [41]::post,rfl,rfl,hT,h2,fun u hu=>?_,hz,rfl,rfl⟩)) (cj (PP (de (bZ t ok c3 (bO (U1.z (aa t 0)) (bO (U1.z (aD (ab U0 af))) (Vw.z af))) ⟨n+1+(jr T).length,[41],[[41]],post,.inr (by rw[show(")" : Str)=S [41] by decide];rfl),rfl,h3,by simp,(by decide),rfl,rfl⟩)) ?_)))))
  ·have ZZ:u=[94]\/u=[42]\/u=[43]\/u=[45]:=by simpa using hu
   rcases ZZ with rfl | rfl | rfl | rfl<;>exact fun e=>(by have:=dB e;cases this)
  ·refine fw ?_ rfl
   simp;lia
section
variable {ds:aU}
def C4(t:At X N sc){C:aU->D->Prop}(h:EV.Callee X x C)(ha:Hi X q ρ (e::es) ds xs xs1)(hC:C ds d)(hg:ve sc x:=by rfl)(VW:qA x:=by rfl):
  VF X q ρ (.Call (.Name x p) (e::es) [] pos) d xs xs1:=fun B F0 H σ Q us l k w=>.mk fun pins s I=>by
 obtain⟨f,fd,ps,kk,F,X1,hm,hk,hb⟩:=h
 have pz:fW gN X E0:=oN
 refine iR F X1 (dj t hg) hm hk hb .nil pz oO VW (ha.1.1 _ _) (XR.any ha.1.2) pins s σ H Q I (ha.2 B F0 H σ _ us l k fun vs F1 H1 u1 x1 r1 rv=>?_)
 have k1:=k.WR l x1
 refine⟨F1,ds,d,k1.sub,by rw[aP];exact rv,hC,fun v F2 H2 x2 Ze=>w v F2 H2 u1 (x1.tM (l.ff k) (x2.toM (k1.sh _ _ aG))) (r1.mono x2.sf) Ze⟩
end
def KE(ts:List bN):Prop:=∀i,i<=ts.length->n8 [40] [41] (ts.take i)<=20/\n8 [91] [93] (ts.take i)<=20
def pI(ds:aU)(toks:ce):Prop:=∃(cs:bN) (ts:List bN) (m:Nat),ds=[.str (S cs),.int m]/\Lex cs ts/\(∀c∈cs,c<128)/\cs.length<=m/\m<=2000/\(∀u∈ts,∀x∈u,x<128)/\KE ts/\toks=sm ts
def yn:∀ds ts,pI ds ts->ds.length=2:=by rintro _ _ ⟨a,b,c,rfl,_⟩;rfl
def BO(h:DefX P w K mg base k Wx (ai kJ) X)(U6:mg "isinstance"=none)(WL:mg "str"=none)(Vc:mg "len"=none)(c1:EV.Callee X "tokens_of" pG)(c2:EV.Callee X "refuse_deep" lD)(M:TR X "Reader" C):
  ∀ds ts,pI ds ts->Ds X (ds.map Sl.val++List.replicate (Wx.length-ds.length) Sl.un) (bE kJ) ts:=by
 rintro ds r ⟨cs,ts,m,rfl,hl,ha,hm,hz,ht,hd,rfl⟩
 have t:=h.at'
 haveI:=h.VI
 have b1:=h.bt U6
 have b2:=h.bt WL
 have b3:=h.bt Vc
 refine sV (cA (U3.eq (ji (u:=false) (U3.eq (hV (eE (xm t b1 b2 (aa t 0) rfl))) rfl) (fun _=>hW (ei t b3 (aa t 0) (Wy (by lia))) (aa t 1))) ?_) bR) ?_
 ·rw[ck,Bool.false_or,aH];lia
 refine sV (bS t 2 (a9 t c1 (ab (aa t 0) af) ⟨cs,ts,rfl,hl,ha,by lia,rfl⟩)) ?_
 refine sV (DS (a9 t c2 (ab (aa t 2) (ab U0 (ab U0 af))) ⟨ts,[40],[41],rfl,ht,by simp,by simp,fun i hi=>(hd i hi).1,rfl⟩)) ?_
 refine sV (DS (a9 t c2 (ab (aa t 2) (ab U0 (ab U0 af))) ⟨ts,[91],[93],rfl,ht,by simp,by simp,fun i hi=>(hd i hi).2,rfl⟩)) ?_
 refine JW t M (U1.eq (aa t 2) ?_)
 unfold aO sm
 rw[cM];rfl
def D9(u:bN):Int:=((PySem.NumText.digitsVal u:Nat):Int)
def PV(u:bN):Bd:=if u=[120] then [[0,1]] else if u=[121] then [[],[1]] else if D9 u=0 then [] else [[D9 u]]
def uu(ds:aU)(d:D):Prop:=∃u,ds=[.str (S u)]/\VQ u/\d=aZ (PV u)
def CU:∀ds d,uu ds d->ds.length=1:=by rintro _ _ ⟨a,rfl,_⟩;rfl
def Ov(h:zq u):u≠[120]/\u≠[121]:=⟨fun e=>by have:=h.2.1 120 (by rw[e];simp);lia,fun e=>by have:=h.2.1 121 (by rw[e];simp);lia⟩
def IW(h:zq u):PySem.intText? (S u)=some (D9 u):=by
 have:=PySem.intText_digits (by rw[fO];exact h.2.1) (by rw[fO];exact h.1) (by rw[ck];have:=h.2.2.1;lia)
 rw[fO] at this
 exact this
def Hd(h:DefX P w K mg base k ur (ai qa) X)(Ws:mg "int"=none):
  Go X ur qa uu:=by
 rintro ds r ⟨u,rfl,hu,rfl⟩
 have t:=h.at'
 haveI:=h.VI
 have b1:=h.bt Ws
 have ok:=fv hu.lt
 have e1:decide (S u=("x" : Str))=decide (u=[120]):=decide_eq_decide.mpr ⟨fun e=>dB (by rw[e];decide),fun e=>by rw[e];decide⟩
 have e2:decide (S u=("y" : Str))=decide (u=[121]):=decide_eq_decide.mpr ⟨fun e=>dB (by rw[e];decide),fun e=>by rw[e];decide⟩
 refine Nm (U3.eq (b0 t (aa t 0) U0 ok) e1) (fun v=>aC (bp (U1.eq (aD (ab (aD (ab ah (ab ah af))) af)) ?_))) fun v=>?_
 ·rw[bh] at v;subst v;rfl
 rw[aH] at v
 refine Nm (U3.eq (b0 t (aa t 0) U0 ok) e2) (fun v'=>aC (bp (U1.eq (aD (ab (aD af) (ab (aD (ab ah af)) af))) ?_))) fun v'=>?_
 ·rw[bh] at v';subst v';rfl
 rw[aH] at v'
 have hn:zq u:=by
  rcases hu with hh | hh | hh
  ·exact hh
  ·exact absurd hh v
  ·exact absurd hh v'
 refine ax (bS t 1 (FY t b1 (aa t 0) (IW hn) (by rw[ck];have:=hn.2.2.1;lia))) (aC (bp ?_))
 unfold PV
 rw[aq v,aq v']
 by_cases e:D9 u=0
 ·rw[au e]
  exact ua (U3.eq (Bw (aa t 1) ah) (by rw[e];rfl)) (aD af)
 ·rw[aq e]
  exact t9 (U3.eq (Bw (aa t 1) ah) (by rw[ak e];rfl)) (aD (ab (aD (ab (aa t 1) af)) af))
def wK(b:Bd):Nat->Bd
 |0=>[[1]]
 |i+1=>ip (wK b i) b
def Kw(b:Bd)(m:Nat):Prop:=(∀i,i<m->Wn 100 (wK b i))/\Wn 100 b/\(∀r∈b,∀y∈r,-(2 ^ 63)<y/\y<2 ^ 63)
def iE(ds:aU)(d:D):Prop:=∃(b:Bd) (m:Nat),ds=[aZ b,.int m]/\m<=9/\Kw b m/\d=aZ (wK b m)
def qW:∀ds d,iE ds d->ds.length=2:=by rintro _ _ ⟨a,b,rfl,_⟩;rfl
def uk(h:DefX P w K mg base k iD (ai fK) X)(Vn:mg "range"=none)(c1:EV.Callee X "board_times" iU):
  Go X iD fK iE:=by
 rintro ds r ⟨b,m,rfl,hm,hb,rfl⟩
 have t:=h.at'
 haveI:=h.VI
 have b1:=h.bt Vn
 refine ax (bS t 2 (aD (ab (aD (ab ah af)) af))) (ax (i6 t (fj t b1 (aa t 1) (by lia) (by lia)) (Vt.VD (ρ':=[.val (aZ b),.val (.int m),.val (aZ (wK b m)),.un]) (fun i=>[.val (aZ b),.val (.int m),.val (aZ (wK b i)),.un]) (fun j d e=>?_) rfl ?_)) (aC (bp (aa t 2))))
 ·have hj:j<m:=by
   have:=(List.getElem?_eq_some_iff.mp e).1
   simpa [dH] using this
  exact⟨_,bf t 3,U4.weak (aC (bS t 2 (a9 t c1 (ab (aa t 2) (ab (aa t 0) af)) ⟨wK b j,b,rfl,hb.1 j hj,hb.2.1,hb.2.2,rfl⟩))) (.keep (.keep (.keep (.forget .nil))))⟩
 ·simp[dH]
inductive Vu:bN->List Bd->List Bd->Prop where
 |atom {u:bN} {st:List Bd}:VQ u->Vu u st (st++[PV u])
 |add {st:List Bd} {a b:Bd}:Wn 1000 a->Wn 1000 b->Vu [43] (st++[a]++[b]) (st++[im a b])
 |sub {st:List Bd} {a b:Bd}:Wn 1000 a->Wn 1000 b->Vu [45] (st++[a]++[b]) (st++[im a (oS b)])
 |mul {st:List Bd} {a b:Bd}:Wn 100 a->Wn 100 b->(∀r∈b,∀y∈r,-(2 ^ 63)<y/\y<2 ^ 63)->Vu [42] (st++[a]++[b]) (st++[ip a b])
 |neg {st:List Bd} {b:Bd}:Wn 1000 b->Vu [109,105,110,117,115] (st++[b]) (st++[im [] (oS b)])
 |pow {st:List Bd} {b:Bd} {d:Nat}:Kw b d->d<=9->Vu [94,48+d] (st++[b]) (st++[wK b d])
def mh(d0:D)(xs xs':aU):Prop:=∃(u:bN) (pre:aU) (st W5:List Bd),d0=.str (S u)/\Vu u st W5/\pre.length+st.length<10000/\xs=pre++st.map aZ/\xs'=pre++W5.map aZ
def Qw:Wn 1000 []:=⟨by decide,fun r h=>nomatch h⟩
def Ue(w:Str):((Vb [D.str "+",.str "-",.str "*"]).any fun y=>PyData.eqv y (e8 (.str w)))=(decide (w="+")||(decide (w="-")||decide (w="*"))):=by
 show((("+" : Str)==w)||((("-" : Str)==w)||((("*" : Str)==w)||false)))=_
 rw[fu,fu,fu,uw,decide_eq_decide.mpr (show("+" : Str)=w ↔ w="+" from Cf),decide_eq_decide.mpr (show("-" : Str)=w ↔ w="-" from Cf),decide_eq_decide.mpr (show("*" : Str)=w ↔ w="*" from Cf)]
def ww(h:VQ u):∃c cs,u=c::cs/\((48<=c/\c<=57)\/(c=120/\cs=[])\/(c=121/\cs=[])):=by
 rcases h with h | rfl | rfl
 ·cases u with
  |nil=>exact absurd rfl h.1
  |cons c cs=>exact⟨c,cs,rfl,.inl (h.2.1 c (by simp))⟩
 ·exact⟨_,_,rfl,.inr (.inl ⟨rfl,rfl⟩)⟩
 ·exact⟨_,_,rfl,.inr (.inr ⟨rfl,rfl⟩)⟩
def ye{u:bN}{z:Str}(hz:z=S v)(h:u≠v):decide (S u=z)=false:=ak fun e=>h (dB (e.trans hz))
def zp:("+" : Str)=S [43]:=by decide
def zm:("-" : Str)=S [45]:=by decide
def zt:("*" : Str)=S [42]:=by decide
def zn:("minus" : Str)=S [109,105,110,117,115]:=by decide
def zc:("^" : Str)=S [94]:=by decide
def PU{st:Stmt}{b:aU}(h:qv X q ρ st o s a)(e:a=b):qv X q ρ st o s b:=e ▸ h
def tj(h:DefX P w K mg base k VL (ai fJ) X)(Ws:mg "int"=none)(c1:EV.Callee X "board_times" iU)(c2:EV.Callee X "board_minus" iV)(c3:EV.Callee X "board_plus" jH)(c4:EV.Callee X "power_of_board" iE)(c5:EV.Callee X "atom_of" uu):
  ∀q d0 xs xs',mh d0 xs xs'->∃ρ',Xs X q (.val d0 :: .val (.adr q)::List.replicate (VL.length-2) Sl.un) (bE fJ) (.nx ρ') xs xs':=by
 rintro q d0 xs xs' ⟨u,pre,st,W5,rfl,hs,hl,rfl,rfl⟩
 have t:=h.at'
 haveI:=h.VI
 have b1:=h.bt Ws
 have cw:PyData.canLayAll0 (Vb [D.str "+",.str "-",.str "*"])=true:=by decide
 cases hs with
 |atom hu=>
  obtain⟨c,cs,rfl,hc⟩:=ww hu
  have f1:c≠43/\c≠45/\c≠42/\c≠109/\c≠94:=by lia
  have ok:=fv hu.lt
  have i1:(decide (S (c::cs)=("+" : Str))||(decide (S (c::cs)=("-" : Str))||decide (S (c::cs)=("*" : Str))))=false:=by
   rw[ye zp (by intro e;cases e;exact f1.1 rfl),ye zm (by intro e;cases e;exact f1.2.1 rfl),ye zt (by intro e;cases e;exact f1.2.2.1 rfl)];rfl
  refine⟨[.val (.str (S (c::cs))),.val (.adr q),.un,.un],cB (fb (U3.l (j8 t (aa t 0) (aD (ab U0 (ab U0 (ab U0 af)))) (dw ok) (cU _) cw (by rw[Ue];exact i1))) (cB (fb (U3.l (U3.eq (b0 t (aa t 0) U0 ok) (ye zn (by intro e;cases e;exact f1.2.2.2.1 rfl)))) (cB (fb (U3.l (U3.eq (b0 t (eD (aa t 0) ah (Wy (by have:=hu.len;lia)) (by rw[fO];exact ej rfl)) U0 (fv fun x hx=>hu.lt x (by simp at hx;simp[hx]))) (ye zc (by intro e;cases e;exact f1.2.2.2.2 rfl)))) (cB (PU (fh t 1 rfl (U1.em (a9 t c5 (ab (aa t 0) af) ⟨_,rfl,hu,rfl⟩)) (by rw[ac,ag];exact sz hl)) (by rw[aJ,<-aF];rfl))))))))⟩
 |@add s0 a b ha hb=>
  refine⟨[.val (.str (S [43])),.val (.adr q),.val (aZ b),.val (aZ a)],cB (i9 (U3.l (j8 t (aa t 0) (aD (ab U0 (ab U0 (ab U0 af)))) (dw (by decide)) (cU _) cw (by decide))) (bQ (fV t 2 (dQ t 1 rfl (xs':=pre++(s0++[a]).map aZ) (by simp))) (bQ (fV t 3 (dQ t 1 rfl (xs':=pre++s0.map aZ) (by simp))) (cB (fb (U3.l (U3.eq (b0 t (aa t 0) U0 (by decide)) (by decide))) (cB (PU (fh t 1 rfl (U1.em (t9 (U3.eq (b0 t (aa t 0) U0 (by decide)) (by decide)) (a9 t c3 (ab (aa t 3) (ab (aa t 2) af)) ⟨a,b,rfl,ha,hb,rfl⟩))) (by rw[ac,ag];exact sz (by simp at hl;lia))) (by rw[aJ,<-aF];rfl))))))))⟩
 |@sub s0 a b ha hb=>
  refine⟨[.val (.str (S [45])),.val (.adr q),.val (aZ b),.val (aZ a)],cB (i9 (U3.l (j8 t (aa t 0) (aD (ab U0 (ab U0 (ab U0 af)))) (dw (by decide)) (cU _) cw (by decide))) (bQ (fV t 2 (dQ t 1 rfl (xs':=pre++(s0++[a]).map aZ) (by simp))) (bQ (fV t 3 (dQ t 1 rfl (xs':=pre++s0.map aZ) (by simp))) (cB (fb (U3.l (U3.eq (b0 t (aa t 0) U0 (by decide)) (by decide))) (cB (PU (fh t 1 rfl (U1.em (ua (U3.eq (b0 t (aa t 0) U0 (by decide)) (by decide)) (a9 t c2 (ab (aa t 3) (ab (aa t 2) af)) ⟨a,b,rfl,ha,hb,rfl⟩))) (by rw[ac,ag];exact sz (by simp at hl;lia))) (by rw[aJ,<-aF];rfl))))))))⟩
 |@mul s0 a b ha hb hv=>
  refine⟨[.val (.str (S [42])),.val (.adr q),.val (aZ b),.val (aZ a)],cB (i9 (U3.l (j8 t (aa t 0) (aD (ab U0 (ab U0 (ab U0 af)))) (dw (by decide)) (cU _) cw (by decide))) (bQ (fV t 2 (dQ t 1 rfl (xs':=pre++(s0++[a]).map aZ) (by simp))) (bQ (fV t 3 (dQ t 1 rfl (xs':=pre++s0.map aZ) (by simp))) (cB (i9 (U3.l (U3.eq (b0 t (aa t 0) U0 (by decide)) (by decide))) (cB (PU (fh t 1 rfl (U1.em (a9 t c1 (ab (aa t 3) (ab (aa t 2) af)) ⟨a,b,rfl,ha,hb,hv,rfl⟩)) (by rw[ac,ag];exact sz (by simp at hl;lia))) (by rw[aJ,<-aF];rfl))))))))⟩
 |@neg s0 b hb=>
  refine⟨[.val (.str (S [109,105,110,117,115])),.val (.adr q),.un,.un],cB (fb (U3.l (j8 t (aa t 0) (aD (ab U0 (ab U0 (ab U0 af)))) (dw (by decide)) (cU _) cw (by decide))) (cB (i9 (U3.l (U3.eq (b0 t (aa t 0) U0 (by decide)) (by decide))) (cB (PU (fh t 1 rfl (C4 t c2 (gx (U1.em (aD af)) (gx (dQ t 1 rfl (xs':=pre++s0.map aZ) (by simp)) (Vw.am af))) ⟨[],b,rfl,Qw,hb,rfl⟩) (by rw[ac,ag];exact sz (by simp at hl;lia))) (by rw[aJ,<-aF];rfl))))))⟩
 |@pow s0 b d hb hd=>
  have ok:PyData.strOk (S [94,48+d])=true:=fv fun x hx=>by simp at hx;lia
  have i1:(decide (S [94,48+d]=("+" : Str))||(decide (S [94,48+d]=("-" : Str))||decide (S [94,48+d]=("*" : Str))))=false:=by
   rw[ye zp (by intro e;cases e),ye zm (by intro e;cases e),ye zt (by intro e;cases e)];rfl
  have hnum:PySem.intText? (S [48+d])=some ((d:Nat):Int):=by
   have:∀d:Nat,d<10->PySem.intText? (S [48+d])=some ((d:Nat):Int):=by decide
   exact this d (by lia)
  refine⟨[.val (.str (S [94,48+d])),.val (.adr q),.un,.un],cB (fb (U3.l (j8 t (aa t 0) (aD (ab U0 (ab U0 (ab U0 af)))) (dw ok) (cU _) cw (by rw[Ue];exact i1))) (cB (fb (U3.l (U3.eq (b0 t (aa t 0) U0 ok) (ye zn (by intro e;cases e)))) (cB (i9 (U3.l (U3.eq (b0 t (eD (aa t 0) ah (Wy (by simp)) (by rw[fO];exact ej rfl)) U0 (by decide)) (by decide))) (cB (PU (fh t 1 rfl (C4 t c4 (gx (dQ t 1 rfl (xs':=pre++s0.map aZ) (by simp)) (Vw.am (ab (FY t b1 (eD (aa t 0) ah (Wy (by simp)) (by rw[fO];exact ej rfl)) hnum (by show(S [48+d]).length<=640;rw[ck];simp)) af))) ⟨b,d,rfl,hd,hb,rfl⟩) (by rw[ac,ag];exact sz (by simp at hl;lia))) (by rw[aJ,<-aF];rfl))))))))⟩
inductive Runs:List bN->List Bd->List Bd->Prop where
 |nil {a:List Bd}:Runs [] a a
 |cons {u:bN} {us:List bN} {a b c:List Bd}:Vu u a b->Runs us b c->Runs (u::us) a c
def Runs.app{us vs:List bN}{a b c:List Bd}(h:Runs us a b)(g:Runs vs b c):Runs (us++vs) a c:=by
 induction h with
 |nil=>exact g
 |cons s _ ih=>exact .cons s (ih g)
def Vu.len{a b:List Bd}(h:Vu u a b):b.length<=a.length+1:=by
 cases h<;>simp<;>lia
inductive mo where
 |neg | qu (a x:Bool)
def V1:bN:=[110,111,116]
def qw(a:Bool):bN:=if a then [115,111,109,101] else [97,108,108]
def lw(x:Bool):bN:=if x then [120] else [121]
def PQ:mo->TK
 |.neg=>[V1]
 |.qu a x=>[qw a,lw x]
def DP:mo->bN
 |.neg=>V1
 |.qu a x=>qw a++32::lw x
def cF:List mo->TK
 |[]=>[]
 |p::ps=>PQ p++cF ps
def rN:∀a b:List mo,cF (a++b)=cF a++cF b
 |[],b=>rfl
 |f::a,b=>by show PQ f++cF (a++b)=_;rw[rN a b];simp[cF]
def cP(ps:List mo):TK:=(ps.map DP).reverse
def DX:TK:=[V1,qw true,qw false]
def Tx(u v z w:Str):([PyData.str u,.str v,.str z].any fun y=>PyData.eqv y (.str w))=(decide (w=u)||(decide (w=v)||decide (w=z))):=by
 show((u==w)||((v==w)||((z==w)||false)))=_
 rw[fu,fu,fu,uw,decide_eq_decide.mpr (show u=w ↔ w=u from Cf),decide_eq_decide.mpr (show v=w ↔ w=v from Cf),decide_eq_decide.mpr (show z=w ↔ w=z from Cf)]
def JU(t:At X N sc)(ha:U1 X ρ a (.str u))(hb:U1 X ρ b (.str v))(hu:PyData.strOk u=true)(hv:PyData.strOk v=true:=by decide):U3 X ρ (.Compare a [.NotEq] [b] pos) (!decide (u=v)):=
 qY t ha.p hb.p (gR hu) (gR hv) (by show(!(u==v))=_;rw[fu u v])
def D8{b:Bool}{ρ:cn}(t:At X N sc)(ok:li X.K r)(c2:U5 X "next_token" cD)(ho:∀x∈r.toks,PyData.strOk x=true)(hr:ρ[0]?=some (.val (.adr r.p)))(hb:(decide (HD (r.toks.drop n)="not")||(decide (HD (r.toks.drop n)="some")||decide (HD (r.toks.drop n)="all")))=b)(hN:N[0]?=some ("reader" : Str):=by rfl)(hv:dW sc ("reader" : Str)=true:=by rfl)(hx:cm ("reader" : Str)=true:=by rfl)(hg:sc.names.lookup ("next_token" : Str)=some .globalImplicit:=by rfl):
  VC (Vd r) X ρ (.Compare (.Call (.Name "next_token" p) [.Name "reader" py] [] pos) [.In] [.Tuple [.Constant (.str "not") j p2,.Constant (.str "some") j2 p3,.Constant (.str "all") j3 p5] kk p4] pos') b ((n:Int),xs) ((n:Int),xs):=
 MJ t (bZ t ok c2 (bO (U1.z (aa t 0 hr hN hv hx)) (Vw.z af)) ⟨n,rfl,rfl,rfl,rfl⟩ hg) (U1.z (aD (ab U0 (ab U0 (ab U0 af))))) (dw (Jy ho n)) (cU _) (by decide) ((Tx "not" "some" "all" _).trans hb)
def jm(toks:ce)(ds:aU)(s:Int×aU)(d:D)(s':Int×aU):Prop:=
 (∀x∈toks,PyData.strOk x=true)/\∃(n:Nat) (ps:List mo) (post:ce),ds=[]/\s.1=n/\toks.drop n=sm (cF ps)++post/\No DX post/\ps.length<=20/\d=.lst (aO (cP ps))/\s'=(((n+(cF ps).length:Nat):Int),s.2)
def sJ:∀ts ds s d s',jm ts ds s d s'->ds.length+1=1:=by rintro _ _ _ _ _ ⟨_,a,b,c,rfl,_⟩;rfl
def NC:("not" : Str)=S V1:=by decide
def P6:("some" : Str)=S (qw true):=by decide
def zX:("x" : Str)=S [120]:=by decide
def zY:("y" : Str)=S [121]:=by decide
def NG:[D.tup [D.str "x",.str "y"]]=[D.tup (aO [[120],[121]])]:=by rw[zX,zY];rfl
def Sd:("all" : Str)=S (qw false):=by decide
def uh(h:DefX P w K mg base k jj (ai gp) X)(Vc:mg "len"=none)(c2:U5 X "next_token" cD)(c3:U5 X "take_token" cV)(c4:U5 X "take_one_of" dX)(gM:∃tk,mg "MOST_PREFIXES"=some (.int 20 tk)):
  Hq X jj gp jm:=by
 rintro r ok ds ⟨i,xs⟩ d s' ⟨ho,n,ps,post,rfl,hn,hd,Xh,hl,rfl,rfl⟩
 have t:=h.at'
 haveI:=h.VI
 have W0:i=(n:Int):=hn
 subst W0
 have b1:=h.bt Vc
 have gM':∃tk,X.mg "MOST_PREFIXES"=some (.int 20 tk):=by rw[h.WD];exact gM
 refine .inl ?_
 have dr:∀i,i<=ps.length->r.toks.drop (n+(cF (ps.take i)).length)=sm (cF (ps.drop i))++post:=fun i hi=>by
  have e:cF ps=cF (ps.take i)++cF (ps.drop i):=by rw[<-rN,cZ]
  rw[e,fT,aF] at hd
  have:=eF hd
  rw[fS] at this
  exact this
 refine a8 (Vy.z (jV t 1 (bb af))) (a8 (pU t (fun i=>[.val (.adr r.p),.own (aO ((ps.take i).map DP)),.un]) (fun i=>(((n+(cF (ps.take i)).length:Nat):Int),xs)) ps.length (fun i hi=>?_) ?_ rfl ?_ rfl rfl) (a8 (Vy.z (cA (U3.eq (hW (dy t b1 (eQ t 1 rfl)) (sS t gM')) ?_) bR)) (Ch (cj (Vy.z (bp (U1.eq (Mn (eQ t 1 rfl) (gA ah)).Vm ?_)))) ?_)))
 ·have d0:=dr i (by lia)
  rw[show ps.drop i=ps[i]::ps.drop (i+1) by rw[bY hi]] at d0
  have et:ps.take (i+1)=ps.take i++[ps[i]]:=K3 ps hi
  cases ep:ps[i] with
  |neg=>
   rw[ep] at d0 et
   have h1:=xk d0
   refine⟨D8 t ok c2 ho rfl (by rw[h1.1];decide),Wd.weak (a8 (je t 2 (Vg.eq (qR t ok c3 rfl) (by rw[h1.1]))) (a8 (jP (U3.z (U3.eq (JU t (aa t 2) U0 (by decide)) (by decide))) om) (Ch (cj (Vy.z (i7 t 1 rfl (aa t 2) (sz ?_)))) ?_))) ?_⟩
   ·rw[aY,ag,cu];lia
   ·refine fw ?_ rfl
    rw[et,rN];simp[cF,PQ];lia
   ·rw[et,aJ]
    rw[dg]
    exact .keep (.keep (.forget .nil))
  |qu a x=>
   rw[ep] at d0 et
   have h1:=xk d0
   have h2:=h1.2
   refine⟨D8 t ok c2 ho rfl (by rw[h1.1];cases a<;>decide),Wd.weak (a8 (je t 2 (Vg.eq (qR t ok c3 rfl) (by rw[h1.1]))) (a8 (qQ (U3.z (U3.eq (JU t (aa t 2) U0 (by cases a<;>decide)) (by cases a<;>decide))) (cj (KW t 2 rfl (Bp (U1.z U0) (bZ t ok c4 (bO (U1.z (aa t 0)) (Vw.z (ab (aD (ab U0 (ab U0 af))) af))) ⟨n+(cF (ps.take i)).length+1,lw x,[[120],[121]],sm (cF (ps.drop (i+1)))++post,.inr NG,rfl,h2,by cases x<;>decide,by decide,rfl,rfl⟩) (ar (m:=100) (by cases x<;>decide) (by decide))) (ar (m:=100) (by cases a<;>cases x<;>decide) (by decide))))) (Ch (cj (Vy.z (i7 t 1 rfl (aa t 2) (sz ?_)))) ?_))) ?_⟩
   ·rw[aY,ag,cu];lia
   ·refine fw ?_ rfl
    rw[et,rN];simp[cF,PQ];lia
   ·rw[et,aJ]
    show WT [.val (.adr r.p),.own (aO ((ps.take i).map DP)++[.str _]),.val _] [.val (.adr r.p),.own (aO ((ps.take i).map DP++[DP (.qu a x)])),.un]
    rw[dg,show aO [DP (.qu a x)]=[.str (S (DP (.qu a x)))] from rfl,show S (DP (.qu a x))=S (qw a)++((" " : Str)++S (lw x)) by cases a<;>cases x<;>decide]
    exact .keep (.keep (.forget .nil))
 ·have d0:=dr ps.length (aj _)
  rw[jd] at d0
  refine D8 t ok c2 ho rfl ?_
  rw[d0,NC,P6,Sd]
  show(decide (HD post=_)||(decide (HD post=_)||decide (HD post=_)))=false
  rw[ak (Xh V1 (by simp[DX])),ak (Xh (qw true) (by simp[DX])),ak (Xh (qw false) (by simp[DX]))]
  rfl
 ·show _=_
  rfl
 ·rw[aY,ag,cu,aH];lia
 ·rw[bo]
  show D.lst (List.map _ _).reverse=D.lst (List.map _ _)
  rw[<-List.map_reverse];rfl
 ·rw[bo]
def aw(a:Bool):bN:=if a then [97,110,100] else [111,114]
def KN(ps:List mo):D:=.tup [.lst (aO (cP ps)),.str (S [])]
def KM(p:List mo×Bool):D:=.tup [.lst (aO (cP p.1)),.str (S (aw p.2))]
def fm:List (List mo×Bool)->TK
 |[]=>[]
 |p::bs=>aw p.2::(cP p.1++fm bs)
def y4(n:Nat):TK:=List.replicate n [93]
def Xm(x:D):Prop:=(∃ps,x=KN ps)\/∃p,x=KM p
def DN(p:mo):∀c∈DP p,c<128:=by
 cases p with
 |neg=>decide
 |qu a x=>cases a<;>cases x<;>decide
def Fc{ps:List mo}:∀u∈cP ps,∀c∈u,c<128:=fun u hu=>by
 unfold cP at hu
 rw[nc] at hu
 obtain⟨p,_,rfl⟩:=List.mem_map.mp hu
 exact DN p
def Dp(a:Bool):∀c∈aw a,c<128:=by cases a<;>decide
def Fn.str{u:bN}(n:Nat)(h:∀c∈u,c<128):Fn n (.str (S u)):=⟨dw (fv h),by simp[e8,PyData.depth],by simp[e8,PyData.eqv]⟩
def Fn.fr{us:TK}{z:bN}(h1:∀u∈us,∀c∈u,c<128)(h2:∀c∈z,c<128):Fn 3 (.tup [.lst (aO us),.str (S z)]):=Fn.tup fun x hx=>by
 simp at hx
 rcases hx with rfl | rfl
 ·refine Fn.lst fun y hy=>?_
  obtain⟨u,hu,rfl⟩:=List.mem_map.mp hy
  exact Fn.str 1 (h1 u hu)
 ·exact Fn.str 2 h2
def Xm.fn(h:Xm x):Fn 3 x:=by
 rcases h with⟨ps,rfl⟩ | ⟨p,rfl⟩
 ·exact Fn.fr Fc (fun c h=>nomatch h)
 ·exact Fn.fr Fc (Dp _)
def FU{xs:aU}(h:∀x∈xs,Xm x):SeqAt.shaped (PyData.list (Vb xs))=true:=(Fn.lst fun x hx=>(h x hx).fn).sh (by decide)
def mn(bs:List (List mo×Bool)):aU:=(bs.map KM).reverse
def CZ(p:List mo×Bool)(bs:List (List mo×Bool)):mn (p::bs)=mn bs++[KM p]:=by simp[mn]
def JC{bs:List (List mo×Bool)}:∀x∈mn bs,Xm x:=fun x hx=>by
 unfold mn at hx
 rw[nc] at hx
 obtain⟨p,_,rfl⟩:=List.mem_map.mp hx
 exact .inr ⟨p,rfl⟩
def ic(toks:ce)(s:Int×aU)(xs:aU)(d:D)(s':Int×aU)(xs':aU):Prop:=
  (∀x∈toks,PyData.strOk x=true)/\∃(n:Nat) (bs:List (List mo×Bool)) (post:ce),s.1=n/\s.2.length+(fm bs).length<10000 /\
    ((∃(XS:aU) (ps:List mo) (w:Bool),(∀x∈XS,Xm x)/\XS.length<10000/\xs=(XS++[KN ps])++mn bs/\toks.drop n=sm (y4 bs.length)++(S (aw w)::post)/\d=.bl false/\s'=(((n+bs.length+1:Nat):Int),s.2++aO (fm bs))/\xs'=XS++[KM (ps,w)]) \/
     (xs=mn bs/\toks.drop n=sm (y4 bs.length)++post/\d=.bl true/\s'=(((n+bs.length:Nat):Int),s.2++aO (fm bs))/\xs'=[]))
def HE:[D.tup [D.str "]"]]=[D.tup (aO [[93]])]:=by rw[show("]" : Str)=S [93] by decide];rfl
def NH:[D.tup [D.str "and",.str "or"]]=[D.tup (aO [aw true,aw false])]:=by rw[show("and" : Str)=S (aw true) by decide,show("or" : Str)=S (aw false) by decide];rfl
def FK(xs:aU)(x:D):true = !(xs++[x]).isEmpty:=by cases xs<;>rfl
def Gk{i m:Nat}(h:i<m):y4 m=y4 i++([93]::y4 (m-(i+1))):=by
 unfold y4
 rw[<-aA,Hr]
 congr 1;lia
def V6.pre{SS:LS}{s':SS.ds}(T:Nat->SS.ds):∀(N:Nat),(∀i,i<N->VC SS X ρ cd true (T i) (T i)/\Wd SS X ρ body (.nx ρ) (T i) (T (i+1)))->(∃m,V6 SS X cd body m ρ (T N) o s')->∃m,V6 SS X cd body m ρ (T 0) o s'
 |0,_,h=>h
 |N+1,h,⟨m,g⟩=>V6.pre T N (fun i hi=>h i (by lia)) ⟨m+1,.step (h N (by lia)).1 (h N (by lia)).2 g⟩
def Wrun.from{SS:LS}{s s' a:SS.ds}(h:∃m,V6 SS X cd body m ρ s o s')(e:a=s):∃m,V6 SS X cd body m ρ a o s':=e ▸ h
def j9:∀a b,fm (a++b)=fm a++fm b
 |[],b=>rfl
 |p::a,b=>by show aw p.2::(cP p.1++fm (a++b))=_;rw[j9 a b];simp[fm]
def u7(h:DefX P w K mg base k VY (ai gS) X)(c4:U5 X "take_one_of" dX):
  ∀(r:tx) (q:Addr),li X.K r->mi (Vd r) q->∀s xs d s' xs',ic r.toks s xs d s' xs'->Wd ((Vd r).lst q) X (.val (.adr r.p) :: .val (.adr q)::List.replicate (VY.length-2) Sl.un) (bE gS) (.rt d) (s,xs) (s',xs'):=by
 rintro r q ok hq ⟨i,ys⟩ xs d s' xs' ⟨ho,n,bs,post,hn,hz,hc⟩
 have t:=h.at'
 haveI:=h.VI
 have W0:i=(n:Int):=hn
 subst W0
 have hz:ys.length+(fm bs).length<10000:=hz
 rcases hc with⟨XS,ps,w',hf,hl,rfl,hd,rfl,rfl,rfl⟩ | ⟨rfl,hd,rfl,rfl,rfl⟩
 ·have hXB:∀x∈XS++[KN ps],Xm x:=fun x hx=>by
   rcases List.mem_append.mp hx with z | z
   ·exact hf x z
   ·simp at z;exact .inl ⟨ps,z⟩
  have hdn:r.toks.drop (n+bs.length)=S (aw w')::post:=by
   have:=eF hd
   rw[fS] at this
   simpa [y4] using this
  refine Ht (zu t (Wrun.from (V6.pre (fun i=>(((((n+i:Nat):Int),ys++aO (fm (bs.take i))),(XS++[KN ps])++mn (bs.drop i)):((Vd r).lst q).ds)) bs.length (fun i hi=>by
   have ed:bs.drop i=bs[i]::bs.drop (i+1):=bY hi
   have et:bs.take (i+1)=bs.take i++[bs[i]]:=K3 bs hi
   have hz2:=hz
   rw[<-cZ (i+1) bs,j9,et,j9,ac,ac] at hz2
   have hz3:(fm [bs[i]]).length=(cP bs[i].1).length+1:=by simp[fm]
   have hdi:r.toks.drop (n+i)=S [93]::(sm (y4 (bs.length-(i+1)))++(S (aw w')::post)):=by
    rw[<-PM,hd,Gk hi,fT,aF]
    have:=List.drop_left' (l₁:=sm (y4 i)) (l₂:=sm ([93]::y4 (bs.length-(i+1)))++((S (aw w')::post))) (i:=i) (by rw[fS];simp[y4])
    exact this
   have fx:∀x∈((XS++[KN ps])++mn (bs.drop (i+1)))++[KM bs[i]],Xm x:=fun x hx=>by
    rcases List.mem_append.mp hx with z | z
    ·rcases List.mem_append.mp z with z | z
     ·exact hXB x z
     ·exact JC x z
    ·simp at z;exact .inr ⟨_,z⟩
   have ex:(XS++[KN ps])++mn (bs.drop i)=((XS++[KN ps])++mn (bs.drop (i+1)))++[KM bs[i]]:=by rw[ed,CZ];simp
   rw[ex]
   refine⟨Xn.zl hq (vf t 1 rfl (FU fx) (FK _ _)),Wd.weak (a8 (AJ t (VF.zl hq (dQ t 1 rfl rfl)) (jG t 2 3)) (a8 (jP (U3.z (U3.eq (b0 t (aa t 3) U0 (fv (Dp _))) (by cases bs[i].2<;>decide))) om) (a8 (VA.l hq (de (bZ t ok c4 (bO (U1.z (aa t 0)) (Vw.z (ab (aD (ab U0 af)) af))) ⟨n+i,[93],[[93]],_,.inr HE,rfl,hdi,by simp,by decide,rfl,rfl⟩))) (a8 (VA.l hq (kW t ok 0 rfl (U1.z (aa t 3)) (sz ?_))) (Ch (cj (VA.l hq (qb t ok 0 rfl (U1.z (aa t 2)) (lL (sz ?_))))) ?_))))) (.keep (.keep (.forget (.forget .nil))))⟩
   ·show(ys++aO (fm (bs.take i))).length<_
    rw[ac,aY];lia
   ·show(ys++aO (fm (bs.take i))++[D.str _]).length+(aO (cP bs[i].1)).length<_
    rw[ac,ac,aY,aY,bI];lia
   ·refine fw (fw ?_ ?_) rfl
    ·show(((n+i:Nat):Int))+1=((n+(i+1):Nat):Int)
     lia
    ·show ys++aO (fm (bs.take i))++[D.str (S (aw bs[i].2))]++aO (cP bs[i].1)=ys++aO (fm (bs.take (i+1)))
     rw[et,j9,dg]
     simp[fm,aO]) ?_) ?_))
  ·refine⟨0,?_⟩
   rw[bo,jd,show mn []=[] from rfl,aP]
   refine .ret (Xn.zl hq (vf t 1 rfl (FU hXB) (by cases XS<;>rfl))) (a8 (AJ t (VF.zl hq (dQ t 1 rfl rfl)) (jG t 2 3)) (Ht (qQ (U3.z (U3.eq (b0 t (aa t 3) U0 (by decide)) (by decide))) (a8 (Gv hq t 1 rfl (Vg.l hq (O2 (bO (U1.z (aa t 2)) (bO (bZ t ok c4 (bO (U1.z (aa t 0)) (Vw.z (ab (aD (ab U0 (ab U0 af))) af))) ⟨n+bs.length,aw w',[aw true,aw false],post,.inr NH,rfl,hdn,by cases w'<;>simp,by decide,rfl,rfl⟩) (Vw.z af))))) (sz hl)) (Ch (cj (Vy.z (bp C2))) ?_)))))
   rw[jO (n+bs.length) 1];rfl
  ·show((((n:Nat):Int),ys),(XS++[KN ps])++mn bs)=((((n+0:Nat):Int),ys++aO (fm (bs.take 0))),(XS++[KN ps])++mn (bs.drop 0))
   simp[fm,aO]
 ·have hXB:∀x∈([]:aU),Xm x:=fun x hx=>nomatch hx
  refine a8 (ρ1:=[.val (.adr r.p),.val (.adr q),.un,.un]) (zu t (Wrun.from (V6.pre (fun i=>(((((n+i:Nat):Int),ys++aO (fm (bs.take i))),([]:aU)++mn (bs.drop i)):((Vd r).lst q).ds)) bs.length (fun i hi=>by
   have ed:bs.drop i=bs[i]::bs.drop (i+1):=bY hi
   have et:bs.take (i+1)=bs.take i++[bs[i]]:=K3 bs hi
   have hz2:=hz
   rw[<-cZ (i+1) bs,j9,et,j9,ac,ac] at hz2
   have hz3:(fm [bs[i]]).length=(cP bs[i].1).length+1:=by simp[fm]
   have hdi:r.toks.drop (n+i)=S [93]::(sm (y4 (bs.length-(i+1)))++post):=by
    rw[<-PM,hd,Gk hi,fT,aF]
    have:=List.drop_left' (l₁:=sm (y4 i)) (l₂:=sm ([93]::y4 (bs.length-(i+1)))++(post)) (i:=i) (by rw[fS];simp[y4])
    exact this
   have fx:∀x∈(([]:aU)++mn (bs.drop (i+1)))++[KM bs[i]],Xm x:=fun x hx=>by
    rcases List.mem_append.mp hx with z | z
    ·rcases List.mem_append.mp z with z | z
     ·exact hXB x z
     ·exact JC x z
    ·simp at z;exact .inr ⟨_,z⟩
   have ex:([]:aU)++mn (bs.drop i)=(([]:aU)++mn (bs.drop (i+1)))++[KM bs[i]]:=by rw[ed,CZ];simp
   rw[ex]
   refine⟨Xn.zl hq (vf t 1 rfl (FU fx) (FK _ _)),Wd.weak (a8 (AJ t (VF.zl hq (dQ t 1 rfl rfl)) (jG t 2 3)) (a8 (jP (U3.z (U3.eq (b0 t (aa t 3) U0 (fv (Dp _))) (by cases bs[i].2<;>decide))) om) (a8 (VA.l hq (de (bZ t ok c4 (bO (U1.z (aa t 0)) (Vw.z (ab (aD (ab U0 af)) af))) ⟨n+i,[93],[[93]],_,.inr HE,rfl,hdi,by simp,by decide,rfl,rfl⟩))) (a8 (VA.l hq (kW t ok 0 rfl (U1.z (aa t 3)) (sz ?_))) (Ch (cj (VA.l hq (qb t ok 0 rfl (U1.z (aa t 2)) (lL (sz ?_))))) ?_))))) (.keep (.keep (.forget (.forget .nil))))⟩
   ·show(ys++aO (fm (bs.take i))).length<_
    rw[ac,aY];lia
   ·show(ys++aO (fm (bs.take i))++[D.str _]).length+(aO (cP bs[i].1)).length<_
    rw[ac,ac,aY,aY,bI];lia
   ·refine fw (fw ?_ ?_) rfl
    ·show(((n+i:Nat):Int))+1=((n+(i+1):Nat):Int)
     lia
    ·show ys++aO (fm (bs.take i))++[D.str (S (aw bs[i].2))]++aO (cP bs[i].1)=ys++aO (fm (bs.take (i+1)))
     rw[et,j9,dg]
     simp[fm,aO]) ?_) ?_)) (cj (Vy.z (bp C2)))
  ·refine⟨0,?_⟩
   rw[bo,jd,show mn []=[] from rfl,aP]
   exact .stop (Xn.zl hq (vf t 1 rfl (FU hXB) rfl))
  ·show((((n:Nat):Int),ys),mn bs)=((((n+0:Nat):Int),ys++aO (fm (bs.take 0))),([]:aU)++mn (bs.drop 0))
   simp[fm,aO]
def q9:TK:=[[60],[61],[62],[60,61],[62,61],[33,61]]
abbrev R4:=Hg×bN×Hg
def KG(R:tF)(x:R4):Prop:=Vp R x.1/\x.2.1∈q9/\Vp R x.2.2
def DI(x:R4):TK:=jr x.1++x.2.1::jr x.2.2
def Cd(x:R4):TK:=rJ x.1++(rJ x.2.2++[x.2.1])
def Op:TK:=[[94],[42],[43],[45]]
def ie(R:tF):=CR (KG R) DI Cd Op
def qo(R:tF):∀ts ds s d s',ie R ts ds s d s'->ds.length+1=1:=CR.len
def Kz(X:Cx):Prop:=∀{ρ:cn} {p p' pos:Pos},U1 X ρ (.Call (.Name "list" p) [.Name "COMPARISONS" p'] [] pos) (.lst (aO q9))
def Po{g:bN}(h:g∈q9)(post:ce):No Op (S g::post):=fun u hu e=>by
 have e':g=u:=dB e
 have z:∀g∈q9,g∉Op:=by decide
 exact z g h (e' ▸ hu)
def rc(h:DefX P w K mg base k ib (ai ft) X)(c1:U5 X "read_sum" (kj R))(c4:U5 X "take_one_of" dX)(hL:Kz X):
  Hq X ib ft (ie R):=by
 rintro r ok ds ⟨i,xs⟩ d s' ⟨ho,n,⟨T,g,U⟩,post,rfl,hn,⟨hT,hg,hU⟩,hd,Xh,hz,rfl,rfl⟩
 have t:=h.at'
 haveI:=h.VI
 have W0:i=(n:Int):=hn
 subst W0
 have Yr:xs.length+(rJ T++(rJ U++[g])).length<10000:=hz
 rw[ac,ac,bI] at Yr
 have hg:g∈q9:=hg
 have d1:r.toks.drop n=sm (jr T)++(S g::(sm (jr U)++post)):=by
  rw[hd];show sm (jr T++g::jr U)++post=_;rw[fT,aF];rfl
 have d2:r.toks.drop (n+(jr T).length)=S g::(sm (jr U)++post):=by have:=eF d1;rw[fS] at this;exact this
 have d3:=(dh d2).2
 refine .inr ⟨rfl,[.val (.adr r.p),.val (.str (S g))],?_⟩
 refine a8 (de (bZ t ok c1 (bO (U1.z (aa t 0)) (Vw.z af)) ⟨ho,n,T,_,rfl,rfl,hT,d1,Po hg _,by show xs.length+_<_;lia,rfl,rfl⟩))
  (a8 (s1:=(((n+(jr T).length+1:Nat):Int),xs++aO (rJ T))) (je t 1 (bZ t ok c4 (bO (U1.z (aa t 0)) (Vw.z (ab hL af))) ⟨n+(jr T).length,g,q9,_,.inl rfl,rfl,d2,hg,by decide,rfl,by rw[jO (n+(jr T).length) 1];rfl⟩))
  (a8 (de (bZ t ok c1 (bO (U1.z (aa t 0)) (Vw.z af)) ⟨ho,n+(jr T).length+1,U,post,rfl,rfl,hU,d3,Xh,?_,rfl,rfl⟩))
  (Ch (cj (kW t ok 0 rfl (U1.z (aa t 1)) (sz ?_))) ?_)))
 ·show(xs++aO (rJ T)).length+_<_
  rw[ac,aY];lia
 ·show(xs++aO (rJ T)++aO (rJ U)).length<_
  rw[ac,ac,aY,aY];lia
 ·refine fw ?_ ?_
  ·show((n+(jr T).length+1+(jr U).length:Nat):Int)=((n+(jr T++g::jr U).length:Nat):Int)
   rw[ac,bc];lia
  ·show xs++aO (rJ T)++aO (rJ U)++[D.str (S g)]=xs++aO (rJ T++(rJ U++[g]))
   rw[dg,dg];simp[aO]
inductive n9 where
 |cmp (x:R4) | two (a:Bool) (p:List mo) (c:n9) (q:List mo) (e:n9)
def kx:n9->TK
 |.cmp x=>DI x
 |.two a p c q e=>[91]::(cF p++(kx c++(aw a::(cF q++(kx e++[[93]])))))
def rS:n9->TK
 |.cmp x=>Cd x
 |.two a p c q e=>rS c++(cP p++(rS e++(cP q++[aw a])))
def jl(R:tF):n9->Prop
 |.cmp x=>KG R x
 |.two a p c q e=>p.length<=20/\q.length<=20/\jl R c/\jl R e
def MO:n9->Nat
 |.cmp _=>1
 |.two _ _ c _ e=>MO c+MO e+4
inductive Fr where
 |a (ps:List mo) (w:Bool) (qs:List mo) (e:n9) | b (p:List mo×Bool)
def To:Fr->D
 |.a ps _ _ _=>KN ps
 |.b p=>KM p
def RF(R:tF):Fr->Prop
 |.a _ _ qs e=>qs.length<=20/\jl R e
 |.b _=>True
def vh:List Fr->TK
 |[]=>[]
 |.a ps w qs e::fs=>aw w::(cF qs++(kx e++([93]::vh fs)))
 |.b p::fs=>[93]::vh fs
def vj:List Fr->TK
 |[]=>[]
 |.a ps w qs e::fs=>rS e++(cP qs++(aw w::(cP ps++vj fs)))
 |.b p::fs=>aw p.2::(cP p.1++vj fs)
def K5:List Fr->Nat
 |[]=>0
 |.a _ _ _ e::fs=>MO e+2+K5 fs
 |.b _::fs=>1+K5 fs
def V3(fs:List Fr):aU:=(fs.map To).reverse
def OV(f:Fr):Xm (To f):=by
 cases f with
 |a ps w qs e=>exact .inl ⟨ps,rfl⟩
 |b p=>exact .inr ⟨p,rfl⟩
def NO{fs:List Fr}:∀x∈V3 fs,Xm x:=fun x hx=>by
 unfold V3 at hx
 rw[nc] at hx
 obtain⟨f,_,rfl⟩:=List.mem_map.mp hx
 exact OV f
def Fa(fs:List Fr):(V3 fs).length=fs.length:=by simp[V3]
def vi:∀fs:List Fr,fs.length<=(vj fs).length
 |[]=>aj _
 |.a ps w qs e::fs=>by have:=vi fs;simp[vj];lia
 |.b p::fs=>by have:=vi fs;simp[vj];lia
def Rh:∀fs:List Fr,∃(bs:List (List mo×Bool)) (bF:List Fr),fs=bs.map Fr.b++bF/\(bF=[]\/∃ps w qs e Xq,bF=.a ps w qs e::Xq)
 |[]=>⟨[],[],rfl,.inl rfl⟩
 |.a ps w qs e::fs=>⟨[],_,rfl,.inr ⟨ps,w,qs,e,fs,rfl⟩⟩
 |.b p::fs=>by
  obtain⟨bs,bF,h1,h2⟩:=Rh fs
  exact⟨p::bs,bF,by rw[h1];rfl,h2⟩
def Fi:∀(bs:List (List mo×Bool)) (fs:List Fr),vh (bs.map Fr.b++fs)=y4 bs.length++vh fs
 |[],fs=>rfl
 |p::bs,fs=>by show[93]::vh (bs.map Fr.b++fs)=_;rw[Fi bs fs];rfl
def Fj:∀(bs:List (List mo×Bool)) (fs:List Fr),vj (bs.map Fr.b++fs)=fm bs++vj fs
 |[],fs=>rfl
 |p::bs,fs=>by show aw p.2::(cP p.1++vj (bs.map Fr.b++fs))=_;rw[Fj bs fs];simp[fm]
def MN:∀(bs:List (List mo×Bool)) (fs:List Fr),K5 (bs.map Fr.b++fs)=bs.length+K5 fs
 |[],fs=>by simp
 |p::bs,fs=>by show 1+K5 (bs.map Fr.b++fs)=_;rw[MN bs fs];simp;lia
def MR(bs:List (List mo×Bool))(fs:List Fr):V3 (bs.map Fr.b++fs)=V3 fs++mn bs:=by
 unfold V3 mn
 rw[aJ,List.reverse_append,cM];rfl
def wj(f:Fr)(fs:List Fr):V3 (f::fs)=V3 fs++[To f]:=by simp[V3]
def Mz:TK:=[V1,qw true,qw false,[91]]
def RD(R:tF):Prop:=∀tk st,R tk st->∃u us,tk=u::us/\u∉Mz
def UF:∀n,RD (AR n)
 |0,_,_,h=>h.elim
 |n+1,tk,st,h=>by
  rcases h with⟨u,hu,rfl,rfl⟩ | ⟨T,_,rfl,rfl⟩
  ·refine⟨u,[],rfl,fun hb=>?_⟩
   obtain⟨c,cs,rfl,hc⟩:=ww hu
   simp only[Mz,aM,ga,B6] at hb
   rcases hb with e | e | e | e
   all_goals
    simp[V1,qw] at e
    lia
  ·exact⟨[40],_,rfl,by decide⟩
def Q1(hR:RD R)(h:Vp R T):∃u us,jr T=u::us/\u∉Mz:=by
 obtain⟨u,us,e,hu⟩:=hR _ _ h.1.1.2.1
 unfold jr we vg K2
 rw[e]
 cases hm:T.1.1.VU with
 |zero=>exact⟨u,_,rfl,hu⟩
 |succ m=>exact⟨[45],_,rfl,by decide⟩
def Ti(hR:RD R)(h:jl R c):∃u us,kx c=u::us/\u∉DX:=by
 cases c with
 |cmp x=>
  obtain⟨u,us,e,hu⟩:=Q1 hR (show Vp R x.1 from h.1)
  refine⟨u,us++x.2.1::jr x.2.2,?_,fun z=>hu ?_⟩
  ·show jr x.1++_=_;rw[e];rfl
  ·simp only[DX,aM,ga,B6] at z
   simp only[Mz,aM,ga,B6]
   rcases z with z | z | z
   ·exact .inl z
   ·exact .inr (.inl z)
   ·exact .inr (.inr (.inl z))
 |two a p c q e=>exact⟨[91],_,rfl,by decide⟩
def Oz(hR:RD R)(h:jl R c)(ts:TK)(post:ce):No DX (sm (kx c++ts)++post):=fun v hv e=>by
 obtain⟨u,us,e1,hu⟩:=Ti hR h
 rw[e1] at e
 have:S u=S v:=e
 exact hu ((dB this) ▸ hv)
def QQ{fs:List Fr}(h:No Op post):No Op (sm (vh fs)++post):=by
 cases fs with
 |nil=>exact h
 |cons f fs=>
  intro v hv e
  cases f with
  |a ps w qs c=>
   have e':S (aw w)=S v:=e
   have:=dB e'
   subst this
   revert hv
   cases w<;>decide
  |b p=>
   have e':S [93]=S v:=e
   have:=dB e'
   subst this
   revert hv
   decide
def Nz(R:tF)(x:List mo×n9):Prop:=x.1.length<=20/\jl R x.2
def K1(x:List mo×n9):TK:=cF x.1++kx x.2
def HV(x:List mo×n9):TK:=rS x.2++cP x.1
def mZ(R:tF):=CR (Nz R) K1 HV Op
def xa(R:tF):∀ts ds s d s',mZ R ts ds s d s'->ds.length+1=1:=CR.len
def P8{ρ0:cn}{SS:LS}{s s' a:SS.ds}(h:∃m,V5 SS X cd body m ρ s ρ' s')(e0:ρ0=ρ)(e:s'=a):∃m,V5 SS X cd body m ρ0 s ρ' a:=by subst e0;subst e;exact h
def Sh{SS:LS}{s s1 s2 s3:SS.ds}(hc:VC SS X ρ cd true s s1)(hb:Wd SS X ρ body (.nx ρ1) s1 s2)(h:∃m,V5 SS X cd body m ρ1 s2 ρ2 s3):∃m,V5 SS X cd body m ρ s ρ2 s3:=by
 obtain⟨m,h⟩:=h
 exact⟨m+1,.step hc hb h⟩
def y9(hR:RD R)(h:DefX P w K mg base k mQ (ai jx) X)(c1:U5 X "read_prefixes" jm)(c2:U5 X "next_token" cD)(c3:U5 X "take_token" cV)(c4:U5 X "read_comparison" (ie R))(c5:WX X "saying_ended" ic):
  Hq X mQ jx (mZ R):=by
 rintro r ok ds ⟨i,xs⟩ d s' ⟨ho,n,⟨ps,c⟩,post,rfl,hn,⟨hp,hc⟩,hd,Xh,hz,rfl,rfl⟩
 have t:=h.at'
 haveI:=h.VI
 have W0:i=(n:Int):=hn
 subst W0
 have Yr:xs.length+(rS c++cP ps).length<10000:=hz
 have Ye:r.toks.drop n=sm (cF ps++kx c)++post:=hd
 have hp:ps.length<=20:=hp
 have hc:jl R c:=hc
 refine .inr ⟨rfl,[.val (.adr r.p),.own [],.val (.bl true),.un],?_⟩
 show Wd (Vd r) X [.val (.adr r.p),.un,.un,.un] _ _ ((n:Int),xs) (((n+(cF ps++kx c).length:Nat):Int),xs++aO (rS c++cP ps))
 refine a8 (Vy.z (AT t 1 2 (bb af) C2 (by decide))) (cj (Cg t ?_))
 refine P8 ((show ∀(N:Nat) (c:n9) (ps:List mo) (fs:List Fr) (n:Nat) (xs:aU),MO c+K5 fs<=N->jl R c->ps.length<=20->(∀f∈fs,RF R f)->r.toks.drop n=sm (cF ps++(kx c++vh fs))++post->xs.length+(rS c++(cP ps++vj fs)).length<10000 ->
   ∃m,V5 (Vd r) X _ _ m [.val (.adr r.p),.own (V3 fs),.val (.bl false),.un] ((n:Int),xs) [.val (.adr r.p),.own [],.val (.bl true),.un] (((n+(cF ps++(kx c++vh fs)).length:Nat):Int),xs++aO (rS c++(cP ps++vj fs))) from ?_) (MO c) c ps [] n xs (by simp[K5]) hc hp (fun f hf=>nomatch hf) (by rw[show vh []=[] from rfl,aP];exact Ye) (by rw[show vj []=[] from rfl,aP];exact Yr)) rfl (by rw[show vh []=[] from rfl,show vj []=[] from rfl,aP,aP])
 intro N
 induction N with
 |zero=>
  intro c ps fs n xs hN
  cases c<;>simp[MO] at hN
 |succ N ih=>
  intro c ps fs n xs hN hc hp hfs hd hz
  have d1:r.toks.drop n=sm (cF ps)++(sm (kx c++vh fs)++post):=by rw[hd,fT,aF]
  have d2:r.toks.drop (n+(cF ps).length)=sm (kx c++vh fs)++post:=by have:=eF d1;rw[fS] at this;exact this
  cases c with
  |two a p c1' q e=>
   obtain⟨q1,q2,q3,q4⟩:=hc
   have d3:r.toks.drop (n+(cF ps).length)=S [91]::(sm (cF p++(kx c1'++vh (.a ps a q e::fs)))++post):=by
    rw[d2];simp[kx,vh,sm]
   have d4:=(dh d3).2
   have es:rS (.two a p c1' q e)++(cP ps++vj fs)=rS c1'++(cP p++vj (.a ps a q e::fs)):=by simp[rS,vj]
   have et:(cF ps++(kx (.two a p c1' q e)++vh fs)).length=(cF ps).length+1+(cF p++(kx c1'++vh (.a ps a q e::fs))).length:=by simp[kx,vh];lia
   rw[es] at hz
   have run:=ih c1' p (.a ps a q e::fs) (n+(cF ps).length+1) xs (by simp[MO] at hN;simp[K5];lia) q3 q1 (fun f hf=>by
    rcases aM.mp hf with rfl | z
    ·exact⟨q2,q4⟩
    ·exact hfs f z) d4 hz
   refine Sh (U3.z (U3.eq (hV (eE (aa t 2))) rfl)) (Wd.weak (a8 (je t 3 (bZ t ok c1 (bO (U1.z (aa t 0)) (Vw.z af)) ⟨ho,n,ps,_,rfl,rfl,d1,Oz hR (c:=.two a p c1' q e) ⟨q1,q2,q3,q4⟩ _ _,hp,rfl,rfl⟩)) (cj (qQ (sF t ok c2 ho rfl (by decide) (by rw[d3];show decide (S [91]=("[" : Str))=true;decide)) (a8 (de (qR t ok c3 rfl)) (cj (Vy.z (i7 t 1 rfl (aD (ab (aa t 3) (ab U0 af))) (sz ?_)))))))) ?_) (P8 run rfl ?_)
   ·rw[Fa];have:=vi (.a ps a q e::fs);simp at this hz;lia
   ·rw[wj]
    exact .keep (.keep (.keep (.forget .nil)))
   ·rw[es,et,uv,uv]
    refine fw ?_ rfl
    show((_:Nat):Int)=((_:Nat):Int)
    congr 1;lia
  |cmp x=>
   have hc:KG R x:=hc
   have hz0:xs.length+(Cd x++(cP ps++vj fs)).length<10000:=hz
   rw[ac,ac] at hz0
   have d2':r.toks.drop (n+(cF ps).length)=sm (DI x)++(sm (vh fs)++post):=by rw[d2,fT,aF];rfl
   have d3:r.toks.drop (n+(cF ps).length+(DI x).length)=sm (vh fs)++post:=by have:=eF d2';rw[fS] at this;exact this
   have hnb:decide (HD (r.toks.drop (n+(cF ps).length))=("[" : Str))=false:=by
    obtain⟨u,us,e,hu⟩:=Q1 hR hc.1
    rw[d2',show DI x=u::(us++x.2.1::jr x.2.2) by unfold DI;rw[e];rfl,show("[" : Str)=S [91] by decide,aH]
    intro z
    have z':S u=S [91]:=z
    exact hu (dB z' ▸ by decide)
   obtain⟨bs,bF,rfl,XO⟩:=Rh fs
   rw[Fj,ac] at hz0
   rw[Fi,fT,aF] at d3
   rcases XO with rfl | ⟨XZ,w',qs,e,Xq,rfl⟩
   ·have hC:ic r.toks (((n+(cF ps).length+(DI x).length:Nat):Int),xs++aO (Cd x)++aO (cP ps)) (V3 (bs.map Fr.b++[])) (.bl true) (((n+(cF ps).length+(DI x).length+bs.length:Nat):Int),xs++aO (Cd x)++aO (cP ps)++aO (fm bs)) []:=
     ⟨ho,_,bs,post,rfl,by show(xs++aO (Cd x)++aO (cP ps)).length+_<_;rw[ac,ac,aY,aY];lia,.inr ⟨by rw[MR];rfl,d3,rfl,rfl,rfl⟩⟩
    refine P8 (Sh (ρ:=[.val (.adr r.p),.own (V3 (bs.map Fr.b++[])),.val (.bl false),.un]) (U3.z (U3.eq (hV (eE (aa t 2))) rfl)) (Wd.weak (a8 (je t 3 (bZ t ok c1 (bO (U1.z (aa t 0)) (Vw.z af)) ⟨ho,n,ps,_,rfl,rfl,d1,Oz hR (c:=.cmp x) hc _ _,hp,rfl,rfl⟩)) (cj (jP (sF t ok c2 ho rfl (by decide) hnb) (a8 (de (bZ t ok c4 (bO (U1.z (aa t 0)) (Vw.z af)) ⟨ho,n+(cF ps).length,x,_,rfl,rfl,hc,d2',QQ Xh,by show xs.length+_<_;lia,rfl,rfl⟩)) (a8 (qb t ok 0 rfl (U1.z (aa t 3)) (lL (sz (by show(xs++aO (Cd x)).length+(aO (cP ps)).length<_;rw[ac,aY,aY];lia)))) (cj (zw t ok c5 1 2 (aa t 0) rfl hC))))))) (.keep (.keep (.keep (.forget .nil))))) ⟨0,.stop (U3.z (U3.eq (hV (eE (aa t 2))) rfl))⟩) rfl ?_
    refine fw ?_ ?_
    ·show((_:Nat):Int)=((_:Nat):Int)
     rw[Fi,ac,ac,ac]
     simp[vh,y4,kx];lia
    ·show xs++aO (Cd x)++aO (cP ps)++aO (fm bs)=xs++aO (Cd x++(cP ps++vj (bs.map Fr.b++[])))
     rw[Fj,dg,dg,dg];simp[vj,aO]
   ·have Z7:RF R (.a XZ w' qs e):=hfs _ (by simp)
    have d3':r.toks.drop (n+(cF ps).length+(DI x).length)=sm (y4 bs.length)++(S (aw w')::(sm (cF qs++(kx e++vh (.b (XZ,w')::Xq)))++post)):=by rw[d3];simp[vh,sm]
    have d4:r.toks.drop (n+(cF ps).length+(DI x).length+bs.length+1)=sm (cF qs++(kx e++vh (.b (XZ,w')::Xq)))++post:=by
     have:=eF d3'
     rw[fS,show(y4 bs.length).length=bs.length by simp[y4]] at this
     exact(dh this).2
    have hC:ic r.toks (((n+(cF ps).length+(DI x).length:Nat):Int),xs++aO (Cd x)++aO (cP ps)) (V3 (bs.map Fr.b ++ .a XZ w' qs e::Xq)) (.bl false) (((n+(cF ps).length+(DI x).length+bs.length+1:Nat):Int),xs++aO (Cd x)++aO (cP ps)++aO (fm bs)) (V3 Xq++[KM (XZ,w')]):=
     ⟨ho,_,bs,_,rfl,by show(xs++aO (Cd x)++aO (cP ps)).length+_<_;rw[ac,ac,aY,aY];lia,.inl ⟨V3 Xq,XZ,w',NO,by rw[Fa];have:=vi (.a XZ w' qs e::Xq);simp at this;lia,by rw[MR,wj];rfl,d3',rfl,rfl,rfl⟩⟩
    have run:=ih e qs (.b (XZ,w')::Xq) (n+(cF ps).length+(DI x).length+bs.length+1) (xs++aO (Cd x)++aO (cP ps)++aO (fm bs)) (by rw[MN] at hN;simp[MO,K5] at hN ⊢;lia) Z7.2 Z7.1 (fun f hf=>by
     rcases aM.mp hf with rfl | z
     ·trivial
     ·exact hfs f (by simp[z])) d4 (by
     have:(rS e++(cP qs++vj (.b (XZ,w')::Xq)))=vj (.a XZ w' qs e::Xq):=rfl
     rw[this,ac,ac,ac,aY,aY,aY];lia)
    refine P8 (Sh (ρ:=[.val (.adr r.p),.own (V3 (bs.map Fr.b ++ .a XZ w' qs e::Xq)),.val (.bl false),.un]) (U3.z (U3.eq (hV (eE (aa t 2))) rfl)) (Wd.weak (a8 (je t 3 (bZ t ok c1 (bO (U1.z (aa t 0)) (Vw.z af)) ⟨ho,n,ps,_,rfl,rfl,d1,Oz hR (c:=.cmp x) hc _ _,hp,rfl,rfl⟩)) (cj (jP (sF t ok c2 ho rfl (by decide) hnb) (a8 (de (bZ t ok c4 (bO (U1.z (aa t 0)) (Vw.z af)) ⟨ho,n+(cF ps).length,x,_,rfl,rfl,hc,d2',QQ Xh,by show xs.length+_<_;lia,rfl,rfl⟩)) (a8 (qb t ok 0 rfl (U1.z (aa t 3)) (lL (sz (by show(xs++aO (Cd x)).length+(aO (cP ps)).length<_;rw[ac,aY,aY];lia)))) (cj (zw t ok c5 1 2 (aa t 0) rfl hC))))))) (.keep (.keep (.keep (.forget .nil))))) (P8 run (by rw[wj]<;>rfl) rfl)) rfl ?_
    refine fw ?_ ?_
    ·show((_:Nat):Int)=((_:Nat):Int)
     congr 1
     rw[Fi]
     simp[vh,y4,kx];lia
    ·show xs++aO (Cd x)++aO (cP ps)++aO (fm bs)++aO (rS e++(cP qs++vj (.b (XZ,w')::Xq)))=xs++aO (Cd x++(cP ps++vj (bs.map Fr.b ++ .a XZ w' qs e::Xq)))
     rw[Fj,show vj (.a XZ w' qs e::Xq)=rS e++(cP qs++vj (.b (XZ,w')::Xq)) from rfl]
     simp[aO]
def jb(K:bW):Nat->aU->D->Prop
 |0,_,_=>False
 |1,ds,r=>∃i,ds=[.int i]/\r=.int i
 |_+2,ds,r=>∃(l:Addr) (ns:aS),ds=[.adr l]/\WB K l ns/\ns.length<1000/\r=bU ns
def qL{K:bW}:∀n ds d,jb K n ds d->ds.length=1
 |0,_,_,h=>h.elim
 |1,_,_,⟨_,h,_⟩=>by rw[h];rfl
 |_+2,_,_,⟨_,_,h,_⟩=>by rw[h];rfl
def BR(h:DefX P w K mg base k ja (ai gI) X)(U6:mg "isinstance"=none)(Vf:mg "tuple"=none):
  Go X ja gI (jb K 1):=by
 rintro ds d ⟨i,rfl,rfl⟩
 have t:=h.at'
 haveI:=h.VI
 have b1:=h.bt U6
 have b2:=h.bt Vf
 exact aC (bp (ua (eE (qX t b1 b2 (aa t 0) rfl)) (aa t 0)))
def BQ(h:DefX P w K mg base k ja (ai gI) X)(U6:mg "isinstance"=none)(Vf:mg "tuple"=none)(c1:EV.Callee X "told_anew" (jb K 1)):
  Go X ja gI (jb K 2):=by
 rintro ds d ⟨l,ns,rfl,g,hl,rfl⟩
 have t:=h.at'
 haveI:=h.VI
 have b1:=h.bt U6
 have b2:=h.bt Vf
 have g':WB X.K l ns:=by rw[h.k'];exact g
 refine aC (bp (t9 (eE (Mc t g' b1 b2 (aa t 0) rfl)) (U1.eq (j5 t b2 (U9.toQ (iS t ["thing", "part"] (KO (by decide)) (Rb (aa t 0) g') (by rw[ag,fZ];lia) fun X' cx=>VP.all (fun d=>[.val (.adr l),.val d]) (fun d=>d) (ns.map D.int) _ (fun d hd=>cH cx.at' 1) (fun d hd e he=>cH cx.at' 1) fun d hd=>a9 cx.at' (cx.callee c1) (ab (aa cx.at' 1 rfl) af) ?_))) (by rw[List.map_id']))))
 obtain⟨i,_,rfl⟩:=List.mem_map.mp hd
 exact⟨i,rfl,rfl⟩
def OD:List (bN×Addr)->bN->Option Addr
 |[],_=>none
 |(a,l)::ts,u=>if a=u then some l else OD ts u
def sO(ls:List (bN×Addr)):List (Str×Addr):=ls.map fun p=>(S p.1,p.2)
def Hz:∀(ls:List (bN×Addr)) (u:bN),valueAt (tY (sO ls)) (Sum.inr (S u))=(OD ls u).map Value.ref
 |[],u=>rfl
 |(a,l)::ls,u=>by
  have ih:=Hz ls u
  show((((Sum.inr (S a):tz),Value.ref l)::tY (sO ls)).find? fun kv=>kv.1=(Sum.inr (S u):tz)).map (·.2)=(if a=u then some l else OD ls u).map Value.ref
  by_cases e:a=u
  ·subst e;rw[au rfl,List.find?_cons_of_pos (by simp)];rfl
  ·have ne:¬(Sum.inr (S a):tz)=Sum.inr (S u):=fun z=>e (dB (UN z))
   rw[aq e,List.find?_cons_of_neg (by simpa using ne)]
   exact ih
def Wi:List (bN×aS):=[([60],[-1]),([61],[0]),([62],[1]),([60,61],[-1,0]),([62,61],[0,1]),([33,61],[-1,1])]
structure RE(P:Program)(w:World)(K:bW)(q:Addr)(ls:List (bN×Addr))(ep:Nat):Prop where
 Vi:B4 P w K q (sO ls) ep
 keys:ls.map (·.1)=q9
 at':∀p∈Wi,∃l,OD ls p.1=some l/\WB K l p.2
def CP:∀(ls:List (bN×Addr)) (u:bN),u∉ls.map (·.1)->OD ls u=none
 |[],_,_=>rfl
 |(a,l)::ls,u,h=>by
  show(if a=u then some l else OD ls u)=none
  rw[aq (fun e=>h (by simp[e])),CP ls u (fun z=>h (by simp at z ⊢;exact .inr z))]
def Td(b:Bd)(ns:aS):D:=.tup [.str "is",aZ b,bU ns]
def Ua(a:Bool)(x y:D):D:=.tup [.str (S (aw a)),x,y]
def Uh(x:D):D:=.tup [.str "not",x]
def Ud(a l:Bool)(x:D):D:=.tup [.str (S (qw a)),.str (S (lw l)),x]
inductive Wk:bN->aU->aU->Prop where
 |term {u:bN} {pre:aU} {st W5:List Bd}:Vu u st W5->Wk u (pre++st.map aZ) (pre++W5.map aZ)
 |cmp {p:bN×aS} {pre:aU} {a b:Bd}:p∈Wi->Wn 1000 a->Wn 1000 b->Wk p.1 (pre++[aZ a]++[aZ b]) (pre++[Td (im a (oS b)) p.2])
 |two {pre:aU} {x y:D} {a:Bool}:Wk (aw a) (pre++[x]++[y]) (pre++[Ua a x y])
 |neg {pre:aU} {x:D}:Wk V1 (pre++[x]) (pre++[Uh x])
 |qu {pre:aU} {x:D} {a l:Bool}:Wk (DP (.qu a l)) (pre++[x]) (pre++[Ud a l x])
def uP(d0:D)(xs xs':aU):Prop:=∃u,d0=.str (S u)/\Wk u xs xs'/\xs.length<10000
def Vu.hd{st W5:List Bd}(h:Vu u st W5):(∃c cs,u=c::cs/\c≠115/\c≠97/\c≠110/\c≠111/\c≠60/\c≠61/\c≠62/\c≠33)/\∀c∈u,c<128:=by
 cases h with
 |atom hu=>
  obtain⟨c,cs,rfl,hc⟩:=ww hu
  exact⟨⟨c,cs,rfl,by lia⟩,hu.lt⟩
 |add _ _=>exact⟨⟨_,_,rfl,by decide⟩,by decide⟩
 |sub _ _=>exact⟨⟨_,_,rfl,by decide⟩,by decide⟩
 |mul _ _ _=>exact⟨⟨_,_,rfl,by decide⟩,by decide⟩
 |neg _=>exact⟨⟨_,_,rfl,by decide⟩,by decide⟩
 |pow _ hd=>exact⟨⟨_,_,rfl,by decide⟩,fun c hc=>by simp at hc;lia⟩
def MT{c d:Nat}{ds:bN}(h:c≠d):Txt.startswith (S (c::cs)) (S (d::ds))=false:=by
 have:Builtin.Str.subAt (S (c::cs)) (S (d::ds)) 0=false:=by
  rw[StrLaws.subAt_eq,ck,fO,fO,Ca]
  rw[bn]
  intro e
  exact h (DE e).1
 unfold Txt.startswith
 rw[this,Cc]
def Sc:("some " : Str)=S [115,111,109,101,32]:=by decide
def Se:("all " : Str)=S [97,108,108,32]:=by decide
def ND:("and" : Str)=S (aw true):=by decide
def Uu:("or" : Str)=S (aw false):=by decide
def Gr(u:bN):((Vb [D.str "and",.str "or"]).any fun y=>PyData.eqv y (e8 (.str (S u))))=(decide (u=aw true)||decide (u=aw false)):=by
 refine(He "and" "or" (S u)).trans ?_
 rw[ND,Uu,decide_eq_decide.mpr (show S u=S (aw true) ↔ u=aw true from⟨dB,fun e=>by rw[e]⟩),decide_eq_decide.mpr (show S u=S (aw false) ↔ u=aw false from⟨dB,fun e=>by rw[e]⟩)]
def Pn(a l:Bool):KF (S (DP (.qu a l))) " " := by cases a<;>cases l<;>exact⟨by decide,by decide,by decide,by decide,by decide⟩
def Mu(a l:Bool):(uf (S (DP (.qu a l))) " ").map D.str=[.str (S (qw a)),.str (S (lw l))]:=by
 have:uf (S (DP (.qu a l))) " " = [S (qw a),S (lw l)]:=by cases a<;>cases l<;>decide
 rw[this];rfl
def BP{ls:List (bN×Addr)}(h:DefX P w K mg base k Ww (ai kH) X)(c1:EV.Callee X "board_minus" iV)(c2:EV.Callee X "told_anew" (jb K 2))(c3:We X "take_term_step" mh)(gq:mg "COMPARISONS"=some (.ref q'))(g:RE P w K q' ls ep):
  ∀q d0 xs xs',uP d0 xs xs'->∃ρ',Xs X q (.val d0 :: .val (.adr q)::List.replicate (Ww.length-2) Sl.un) (bE kH) (.nx ρ') xs xs':=by
 rintro q d0 xs xs' ⟨u,rfl,hs,hz⟩
 have t:=h.at'
 haveI:=h.VI
 have gq':X.mg "COMPARISONS"=some (.ref q'):=by rw[h.WD];exact gq
 have g':B4 X.prog X.w X.K q' (sO ls) ep:=by
  obtain⟨_,e1,e2,e3,_⟩:=h
  rw[e1,e2,e3];exact g.Vi
 have no:∀v,v∉q9->(valueAt (tY (sO ls)) (Sum.inr (S v))).isSome=false:=fun v hv=>by
  rw[Hz,CP ls v (by rw[g.keys];exact hv)];rfl
 have cw:PyData.canLayAll0 (Vb [D.str "and",.str "or"])=true:=by decide
 cases hs with
 |@term _ pre st W5 hs=>
  obtain⟨⟨c,cs,rfl,h1,h2,h3,h4,h5,h6,h7,h8⟩,VH⟩:=hs.hd
  have ok:=fv VH
  refine⟨_,cB (fb (U3.l (xu t g' (aa t 0) gq' (no _ ?_))) (cB (fb (U3.l (j8 t (aa t 0) (aD (ab U0 (ab U0 af))) (dw ok) (cU _) cw ?_)) (cB (fb (U3.l (U3.eq (b0 t (aa t 0) U0 ok) (ye NC ?_))) (cB (fb (U3.l (ji (u:=false) (eE (qh (aa t 0) U0 ?_)) (fun _=>eE (qh (aa t 0) U0 ?_)))) (cB (Jf t c3 1 rfl (aa t 0) ⟨_,pre,st,W5,rfl,hs,?_,rfl,rfl⟩)))))))))⟩
  ·simp[q9];lia
  ·rw[Gr];simp[aw];lia
  ·intro e;cases e;exact h3 rfl
  ·rw[Sc];exact MT h1
  ·rw[Se];exact MT h2
  ·simpa using hz
 |@cmp p pre a b hp ha hb=>
  obtain⟨l,hl,gl⟩:=g.at' p hp
  have e1:valueAt (tY (sO ls)) (Sum.inr (S p.1))=some (.ref l):=by rw[Hz,hl];rfl
  have hn:p.2.length<1000:=(show ∀p∈Wi,p.2.length<1000 by decide) p hp
  refine⟨_,cB (i9 (U3.l (xu t g' (aa t 0) gq' (by rw[e1];rfl))) (bQ (fV t 2 (dQ t 1 rfl rfl)) (bQ (fV t 3 (dQ t 1 rfl rfl)) (cB (fh t 1 rfl (U1.em (aD (ab U0 (ab (a9 t c1 (ab (aa t 3) (ab (aa t 2) af)) ⟨a,b,rfl,ha,hb,rfl⟩) (ab (a9 t c2 (ab (O7 t g' (aa t 0) gq' e1) af) ⟨l,p.2,rfl,gl,hn,rfl⟩) af))))) (sz (by simp at hz;lia)))))))⟩
 |@two pre x y a=>
  refine⟨_,cB (fb (U3.l (xu t g' (aa t 0) gq' (no _ (by cases a<;>decide)))) (cB (i9 (U3.l (j8 t (aa t 0) (aD (ab U0 (ab U0 af))) (dw (fv (Dp a))) (cU _) cw (by rw[Gr];cases a<;>decide))) (bQ (fV t 2 (dQ t 1 rfl rfl)) (bQ (fV t 3 (dQ t 1 rfl rfl)) (cB (fh t 1 rfl (U1.em (aD (ab (aa t 0) (ab (aa t 3) (ab (aa t 2) af))))) (sz (by simp at hz;lia)))))))))⟩
 |@neg pre x=>
  refine⟨_,cB (fb (U3.l (xu t g' (aa t 0) gq' (no _ (by decide)))) (cB (fb (U3.l (j8 t (aa t 0) (aD (ab U0 (ab U0 af))) (dw (by decide)) (cU _) cw (by rw[Gr];decide))) (cB (i9 (U3.l (U3.eq (b0 t (aa t 0) U0 (by decide)) (by decide))) (cB (fh t 1 rfl (J0 (gx (U1.em U0) (gx (dQ t 1 rfl rfl) (Vw.am af)))) (sz (by simp at hz;lia)))))))))⟩
 |@qu pre x a l=>
  refine⟨_,cB (fb (U3.l (xu t g' (aa t 0) gq' (no _ (by cases a<;>cases l<;>decide)))) (cB (fb (U3.l (j8 t (aa t 0) (aD (ab U0 (ab U0 af))) (dw (fv (DN _))) (cU _) cw (by rw[Gr];cases a<;>cases l<;>decide))) (cB (fb (U3.l (U3.eq (b0 t (aa t 0) U0 (fv (DN _))) (by cases a<;>cases l<;>decide))) (cB (i9 (U3.l (U3.eq (ji (eE (qh (aa t 0) U0 rfl)) (fun _=>eE (qh (aa t 0) U0 rfl))) (by cases a<;>cases l<;>decide))) (bQ (Vy.m (uF t (U1.eq (U9.Vm (JX (aa t 0) U0 (Pn a l))) (by rw[Mu])) (J3 t (bu (bf t 4) (bu (bf t 5) dR))))) (cB (fh t 1 rfl (J0 (gx (U1.em (aa t 4)) (gx (U1.em (aa t 5)) (gx (dQ t 1 rfl rfl) (Vw.am af))))) (sz (by simp at hz;lia))))))))))))⟩
section
variable {ls:List (bN×Addr)}
def Jh(t:At X N sc)(bl:m8 X sc "list" (.type "list"))(gq:X.mg "COMPARISONS"=some (.ref q))(g:B4 X.prog X.w X.K q (sO ls) ep)(hk:ls.map (·.1)=q9)(hg:sc.names.lookup ("COMPARISONS" : Str)=some .globalImplicit):Kz X:=fun {ρ p p' pos}=>by
 have h:=U9.Vm (JZ (ρ:=ρ) (p:=p) (py:=p') (pos:=pos) t g bl gq (by
  have:(sO ls).length=(ls.map (·.1)).length:=by simp[sO]
  rw[this,hk];decide) hg rfl)
 refine U1.eq h ?_
 have:(sO ls).map (fun p=>D.str p.1)=aO (ls.map (·.1)):=by simp[sO,aO]
 rw[this,hk]
end
inductive VS:TK->aU->aU->Prop where
 |nil {a:aU}:VS [] a a
 |cons {u:bN} {us:TK} {a b c:aU}:Wk u a b->VS us b c->VS (u::us) a c
def VS.app(h:VS us a b)(g:VS vs b c):VS (us++vs) a c:=by
 induction h with
 |nil=>exact g
 |cons s _ ih=>exact .cons s (ih g)
def VS.term{a b:List Bd}(pre:aU)(h:Runs us a b):VS us (pre++a.map aZ) (pre++b.map aZ):=by
 induction h with
 |nil=>exact .nil
 |cons s _ ih=>exact .cons (.term s) ih
def Wk.len(h:Wk u a b):b.length<=a.length+1:=by
 cases h with
 |term s=>have:=s.len;simp;lia
 |_=>simp<;>lia
def VS.ix(h:VS us a c):∃f:Nat->aU,f 0=a/\f us.length=c/\∀i (hi:i<us.length),Wk us[i] (f i) (f (i+1))/\(f i).length<=a.length+i:=by
 induction h with
 |@nil a=>exact⟨fun _=>a,rfl,rfl,fun i hi=>nomatch hi⟩
 |@cons u us a b c s r ih=>
  obtain⟨f,f0,f1,f2⟩:=ih
  refine⟨fun i=>match i with | 0=>a | j+1=>f j,rfl,f1,fun i hi=>?_⟩
  cases i with
  |zero=>exact⟨by show Wk u a (f 0);rw[f0];exact s,by simp⟩
  |succ j=>
   have:=f2 j (by simpa using hi)
   exact⟨this.1,by have l:=s.len;have:=this.2;show(f j).length<=_;lia⟩
def dC(R:tF)(ds:aU)(d:D):Prop:=∃(cs:bN) (Y:List mo×n9),ds=[.str (S cs)]/\Lex cs (K1 Y)/\(∀c∈cs,c<128)/\cs.length<=2000/\(∀u∈K1 Y,∀x∈u,x<128)/\KE (K1 Y)/\Nz R Y/\(HV Y).length<10000/\VS (HV Y) [] [d]
def uW(R:tF):∀ds d,dC R ds d->ds.length=1:=by rintro _ _ ⟨a,b,rfl,_⟩;rfl
def zg(h:DefX P w K mg base k lq (ai iM) X)(c1:WW X "reader_of" pI)(c2:U5 X "read_steps" (mZ R))(c3:U5 X "refuse_more" lC)(c4:We X "take_step" uP)(gM:∃tk,mg "MOST_SIGNS"=some (.int 2000 tk)):
  Go X lq iM (dC R):=by
 rintro ds dr ⟨cs,Y,rfl,hl,ha,hz,ht,hd,hT,hs,hr⟩
 have t:=h.at'
 haveI:=h.VI
 have gM':∃tk,X.mg "MOST_SIGNS"=some (.int 2000 tk):=by rw[h.WD];exact gM
 obtain⟨f,f0,f1,f2⟩:=hr.ix
 refine Mm t 1 c1 (ab (aa t 0) (ab (sS t gM') af)) ⟨cs,K1 Y,2000,rfl,hl,ha,hz,by decide,ht,hd,rfl⟩ fun r ok et=>⟨(((K1 Y).length:Nat),aO (HV Y)),?_⟩
 have ho:∀x∈r.toks,PyData.strOk x=true:=by
  rw[et]
  intro x hx
  obtain⟨u,hu,rfl⟩:=List.mem_map.mp hx
  exact fv (ht u hu)
 refine a8 (s1:=((((K1 Y).length:Nat):Int),aO (HV Y))) (de (bZ t ok c2 (bO (U1.z (aa t 1)) (Vw.z af)) ⟨ho,0,Y,[],rfl,rfl,hT,by rw[et];simp,fun u hu=>?_,by show 0+_<_;lia,rfl,?_⟩)) ?_
 ·have ZZ:u=[94]\/u=[42]\/u=[43]\/u=[45]:=by simpa [Op] using hu
  rcases ZZ with rfl | rfl | rfl | rfl<;>decide
 ·simp
 refine a8 (de (bZ t ok c3 (bO (U1.z (aa t 1)) (Vw.z af)) ⟨(K1 Y).length,rfl,rfl,by rw[et,fS];exact aj _,rfl,rfl⟩)) ?_
 refine a8 (Vy.z (jV t 2 (bb af))) (a8 (ρ1:=[.val (.str (S cs)),.val (.adr r.p),.own [dr],.un]) (Hs t ok 1 rfl (Vt.VD (fun i=>[.val (.str (S cs)),.val (.adr r.p),.own (f i),.un]) (fun j d e=>?_) (by rw[f0];rfl) ?_)) (cj (v7 (U1.z (cb (eQ t 2 rfl) ah rfl)))))
 ·have e':(aO (HV Y))[j]?=some d:=e
  unfold aO at e'
  rw[List.getElem?_map] at e'
  cases e2:(HV Y)[j]? with
  |none=>rw[e2] at e';cases e'
  |some u=>
   rw[e2] at e'
   cases e'
   obtain⟨hj,eu⟩:=List.getElem?_eq_some_iff.mp e2
   have f3:=f2 j hj
   rw[eu] at f3
   refine⟨_,bf t 3,U4.weak (aC (Ig t c4 2 rfl (aa t 3) ⟨u,rfl,f3.1,by have:=f3.2;simp at this;lia⟩)) (.keep (.keep (.keep (.forget .nil))))⟩
 ·show _=_
  have:(((((K1 Y).length:Nat):Int),aO (HV Y)):Int×aU).2.length=(HV Y).length:=aY _
  rw[this,f1]
def fU(n:Nat):bN:=(Nat.toDigits 10 n).map Char.toNat
def Ox(n:Nat):(toString ((n:Nat):Int):Str)=S (fU n):=by
 rw[TM (toString ((n:Nat):Int):Str)]
 congr 1
 exact PySem.W.KIN.signs_num n
def IY{n:Nat}(h:n<10 ^ 12):(fU n).length<=12:=by
 unfold fU
 rw[ag]
 exact(PL (by decide) (by decide)).mpr h
def O1{n:Nat}:∀c∈fU n,48<=c/\c<=57:=fun c hc=>by
 obtain⟨d,hd,rfl⟩:=List.mem_map.mp hc
 have:=Nat.isDigit_of_mem_toDigits (by decide) (by decide) hd
 simp only[Char.isDigit,dJ,bh] at this
 exact⟨this.1,this.2⟩
def M9{n:Nat}(h:n<10 ^ 12):((n:Nat):Int).natAbs.log2<1920:=by
 rw[Int.natAbs_natCast]
 by_cases h0:n=0
 ·subst h0;decide
 ·exact(Nat.log2_lt h0).mpr (lK h (by decide))
def A5(n:Nat):fU n≠[]:=fun e=>by
 exact Nat.toDigits_ne_nil (List.map_eq_nil_iff.mp e)
def Ar(n:Nat):D9 (fU n)=n:=by
 unfold D9 fU
 rw[PySem.W.KIN.val_back]
def LM:∀n,(fU n).head?=some 48->fU n=[48]:=fun n=>by
 induction n using Nat.strongRecOn with
 |_ m ih=>
  intro h0
  by_cases h:m<10
  ·have e:fU m=[(Nat.digitChar m).toNat]:=by unfold fU;rw[Nat.toDigits_of_lt_base h];rfl
   rw[e] at h0 ⊢
   rw[bx h0]
  ·have hm:m%10<10:=Nat.mod_lt m (by decide)
   have t:Nat.toDigits 10 (m / 10)++Nat.toDigits 10 (m%10)=Nat.toDigits 10 (10*(m / 10)+m%10):=Nat.toDigits_append_toDigits (by decide) (by lia) hm
   rw[Nat.div_add_mod] at t
   have e:fU m=fU (m / 10)++fU (m%10):=by unfold fU;rw[<-t,aJ]
   rw[e] at h0
   have h1:(fU (m / 10)).head?=some 48:=by
    cases q:fU (m / 10) with
    |nil=>exact absurd q (A5 _)
    |cons a b=>rw[q] at h0;exact h0
   have h2:=ih (m / 10) (by lia) h1
   have h3:=Ar (m / 10)
   rw[h2] at h3
   have:D9 [48]=0:=rfl
   lia
def Ea{n:Nat}(h:n<10 ^ 12):zq (fU n):=⟨A5 n,O1,IY h,LM n⟩
def il(kv:eG):Nat:=(kv.map fun p=>p.2.natAbs).sum
def l6(p:aS×Int)(r:eG):il (p::r)=p.2.natAbs+il r:=rfl
def LO(a b:eG):il (a++b)=il a+il b:=by unfold il;rw[aJ,gO]
def CM(k:aS)(v:Int):∀(r:eG),(∀p∈r,p.1≠k)->r.map (fun p=>if p.1=k then (p.1,v) else p)=r
 |[],_=>rfl
 |p::r,h=>by rw[aT,aq (h p (by simp)),CM k v r fun q hq=>h q (by simp[hq])]
def CF(k:aS)(v:Int):∀(kvs:eG),(kvs.map (·.1)).Nodup->il (kvs.map fun p=>if p.1=k then (p.1,v) else p)<=il kvs+(v-(c7 kvs k).getD 0).natAbs
 |[],_=>by simp[il]
 |p::r,nd=>by
  rw[aT,cg] at nd
  rw[aT,lQ]
  by_cases h:p.1=k
  ·have hr:∀q∈r,q.1≠k:=fun q hq e=>nd.1 (List.mem_map.mpr ⟨q,hq,e.trans h.symm⟩)
   rw[au h,au h,CM k v r hr,l6,l6]
   show v.natAbs+il r<=p.2.natAbs+il r+(v-p.2).natAbs
   lia
  ·rw[aq h,aq h,l6,l6]
   have:=CF k v r nd.2
   lia
def FJ(h:V0 kvs)(k:aS)(v:Int):il (gK kvs k v)<=il kvs+(v-(c7 kvs k).getD 0).natAbs:=by
 unfold gK
 split
 ·exact CF k v kvs h.nd
 ·rename_i e
  have:c7 kvs k=none:=by cases q:c7 kvs k with | none=>rfl | some z=>rw[q] at e;exact absurd rfl e
  rw[this,LO]
  show il kvs+(v.natAbs+0)<=il kvs+(v-0).natAbs
  lia
def CH(a c:Nat)(v:Int):∀(B acc:eG),V0 acc->(∀p∈B,∃i k:Nat,p.1=nk i k)->il (iu (nk a c,v) acc B)<=il acc+v.natAbs*il B
 |[],acc,_,_=>by show il acc<=il acc+v.natAbs*0;lia
 |(k,x)::B,acc,h,hB=>by
  obtain⟨i,j,e⟩:=hB (k,x) (by simp)
  have e':k=nk i j:=e
  subst e'
  have h1:=h.put (a+i) (c+j) ((c7 acc (nk (a+i) (c+j))).getD 0+v*x)
  have h2:=FJ h (nk (a+i) (c+j)) ((c7 acc (nk (a+i) (c+j))).getD 0+v*x)
  have h3:=CH a c v B _ h1 fun p hp=>hB p (by simp[hp])
  show il (iu (nk a c,v) (gK acc (ul (nk a c) (nk i j)) ((c7 acc (ul (nk a c) (nk i j))).getD 0+v*x)) B)<=il acc+v.natAbs*(x.natAbs+il B)
  rw[BZ,Nat.mul_add]
  have h4:((c7 acc (nk (a+i) (c+j))).getD 0+v*x-(c7 acc (nk (a+i) (c+j))).getD 0).natAbs=v.natAbs*x.natAbs:=by
   rw[(fun a b=>by lia:∀a b:Int,a+b-a=b),PN]
  rw[h4] at h2
  lia
def uJ(B:eG)(hB:∀p∈B,∃i k:Nat,p.1=nk i k):∀(A acc:eG),V0 acc->(∀p∈A,∃i k:Nat,p.1=nk i k)->il (A.foldl (fun acc p=>iu p acc B) acc)<=il acc+il A*il B
 |[],acc,_,_=>by show il acc<=il acc+0*il B;lia
 |(k,v)::A,acc,h,hA=>by
  obtain⟨a,c,e⟩:=hA (k,v) (by simp)
  have e':k=nk a c:=e
  subst e'
  have h1:=(vo a c v (fun _ _=>0) B acc h hB).1
  have h2:=CH a c v B acc h hB
  have h3:=uJ B hB A _ h1 fun p hp=>hA p (by simp[hp])
  show il (A.foldl (fun acc p=>iu p acc B) (iu (nk a c,v) acc B))<=il acc+(v.natAbs+il A)*il B
  rw[Nat.add_mul]
  lia
def CG(hA:V0 A)(hB:V0 B):il (l4 A B)<=il A*il B:=by
 have:=uJ B hB.keys A [] .nil hA.keys
 have e:il ([]:eG)=0:=rfl
 rw[e] at this
 unfold l4
 lia
def wY(s:Int)(hs:s.natAbs=1):∀(B A:eG),V0 A->(∀p∈B,∃i k:Nat,p.1=nk i k)->il (eB A B s)<=il A+il B
 |[],A,_,_=>by show il A<=il A+0;lia
 |(k,x)::B,A,h,hB=>by
  obtain⟨i,j,e⟩:=hB (k,x) (by simp)
  have e':k=nk i j:=e
  subst e'
  have h1:=h.put i j ((c7 A (nk i j)).getD 0+s*x)
  have h2:=FJ h (nk i j) ((c7 A (nk i j)).getD 0+s*x)
  have h3:=wY s hs B _ h1 fun p hp=>hB p (by simp[hp])
  have h4:((c7 A (nk i j)).getD 0+s*x-(c7 A (nk i j)).getD 0).natAbs=x.natAbs:=by
   rw[(fun a b=>by lia:∀a b:Int,a+b-a=b),PN,hs,Nat.one_mul]
  rw[h4] at h2
  show il (eB (gK A (nk i j) ((c7 A (nk i j)).getD 0+s*x)) B s)<=il A+(x.natAbs+il B)
  lia
def LN{kv:eG}{p:aS×Int}(h:p∈kv):p.2.natAbs<=il kv:=by
 induction kv with
 |nil=>cases h
 |cons q r ih=>
  rw[l6]
  rcases aM.mp h with rfl | h
  ·lia
  ·have:=ih h;lia
def I0{kv:eG}{M:Nat}(h:il kv<=M):VB M kv:=fun p hp=>ar (LN hp) h
def Np(φ:Nat->Nat->Int)(hφ:∀i k,(φ i k).natAbs<=1):∀kv:eG,(ds kv φ).natAbs<=il kv
 |[]=>aj _
 |p::r=>by
  have ih:=Np φ hφ r
  rw[l6,ds]
  have h1:=hφ (p.1.getD 0 0).toNat (p.1.getD 1 0).toNat
  generalize φ (p.1.getD 0 0).toNat (p.1.getD 1 0).toNat=z at h1
  have h2:(p.2*z).natAbs<=p.2.natAbs:=by rw[PN];exact ar (UY _ h1) (by lia)
  lia
def Ms(i k a c:Nat):(oY i k a c).natAbs<=1:=by unfold oY;split<;>decide
def EA{n:Nat}{i k:Nat}(q:n<=i\/n<=k):∀{kv:eG},V9 n kv->ds kv (oY i k)=0
 |[],_=>rfl
 |p::r,h=>by
  obtain⟨a,c,e,ha,hc⟩:=h p (by simp)
  rw[ds,EA q fun z hz=>h z (by simp[hz]),e]
  show p.2*oY i k a c+0=0
  unfold oY
  rw[aq (by lia)]
  lia
def qi(f g:Bd)(φ:Nat->Nat->Int):bs (im f g) φ=bs f φ+bs g φ:=by
 unfold im
 rw[Gm,pb _ (max f.length g.length) φ (by simp),pb f (max f.length g.length) φ (by lia),pb g (max f.length g.length) φ (by lia),<-rQ]
 refine du _ fun k hk=>?_
 rw[wC,au hk,Fl]
def Io:∀(f:aS) (ψ:Nat->Int),rs (f.map fun x=>-x) ψ=- rs f ψ
 |[],ψ=>rfl
 |a::f,ψ=>by
  show -a*ψ 0+rs (f.map fun x=>-x) _=-(a*ψ 0+rs f _)
  rw[Io f,Int.neg_mul];lia
def xH:∀(g:Bd) (φ:Nat->Nat->Int),bs (oS g) φ=- bs g φ
 |[],φ=>rfl
 |r::g,φ=>by
  show rs (r.map fun x=>-x) _+bs (oS g) _=-(rs r _+bs g _)
  rw[Io,xH g];lia
structure Ot where
 tk:TK
 st:TK
 kv:eG
 xs:aS
def aR(ns:aS):Int:=ns.getLast?.getD 0
def fN(deep:Nat)(x:Int):Int:=([x / 6%10,x / 6%10,x / 6%(if 0<deep then 1000 else 10),0]:aS).getD (x / 60%4).toNat 0
def nv(deep:Nat)(sm:aS->Nat->Ot)(xs:aS)(room:Nat):Ot:=
 if 0<room/\aR xs%6<2 then ⟨[[120]],[[120]],[(nk 1 0,1)],xs.dropLast⟩
 else if 0<room/\aR xs%6<4 then ⟨[[121]],[[121]],[(nk 0 1,1)],xs.dropLast⟩
 else if 0<deep/\aR xs%6=5 then ⟨[40]::((sm xs.dropLast room).tk++[[41]]),(sm xs.dropLast room).st,(sm xs.dropLast room).kv,(sm xs.dropLast room).xs⟩
 else ⟨[fU (fN deep (aR xs)).toNat],[fU (fN deep (aR xs)).toNat],[(nk 0 0,fN deep (aR xs))],xs.dropLast⟩
def jD(kv:eG):Nat->eG
 |0=>[(nk 0 0,1)]
 |n+1=>l4 (jD kv n) kv
def tP(x:Int):Nat:=([1,1,1,2,0,3]:bN).getD (x%6).toNat 0
def A7(x:Int):Nat:=([0,0,0,0,1,1,2,3]:bN).getD (x / 48%8).toNat 0
def uG(o:Ot)(x:Int):Nat:=if o.tk.head?=some [40] then min 2 (tP x) else tP x
def Ep(YU:aS->Nat->Ot)(xs:aS)(room:Nat):Ot:=
  let x:=aR xs
  let o:=YU xs.dropLast (room / max 1 (tP x))
  let p:=uG o x
  ⟨List.replicate (A7 x) [45]++(if p≠1\/x / 6%8=1 then o.tk++[[94],[48+p]] else o.tk),
   (if p≠1\/x / 6%8=1 then o.st++[[94,48+p]] else o.st)++yj (A7 x),
   if A7 x%2=1 then eB [] (jD o.kv p) (-1) else jD o.kv p,o.xs⟩
def L0(xs:aS)(room:Nat):Nat:=(aR xs%((room:Int)+1)).toNat
def DY(Ys:aS->Nat->Ot)(xs:aS)(room:Nat):Ot:=
 let o:=Ys xs.dropLast (L0 xs room)
 if 0<aR o.xs%3 then
  let q:=Ys o.xs.dropLast (room-L0 xs room)
  ⟨o.tk++[[42]]++q.tk,o.st++(q.st++[[42]]),l4 o.kv q.kv,q.xs⟩
 else ⟨o.tk,o.st,o.kv,o.xs.dropLast⟩
def AQ(xs:aS):Bool:=decide (aR xs%2=0)
def mv(W6:aS->Nat->Ot)(room:Nat)(o:Ot):Ot:=
 let q:=W6 o.xs.dropLast room
 ⟨o.tk++[xV (AQ o.xs)]++q.tk,o.st++(q.st++[xV (AQ o.xs)]),eB o.kv q.kv (if AQ o.xs then 1 else -1),q.xs⟩
def iX(W6:aS->Nat->Ot)(room:Nat)(o:Ot):Nat->Ot
 |0=>o
 |n+1=>mv W6 room (iX W6 room o n)
def DL(W6:aS->Nat->Ot)(xs:aS)(room:Nat):Ot:=
 let o:=W6 xs room
 iX W6 room { o with xs:=o.xs.dropLast } (aR o.xs%3).toNat
def ia:Nat->aS->Nat->Ot
 |0=>nv 0 fun xs _=>⟨[],[],[],xs⟩
 |n+1=>nv (n+1) (DL (DY (Ep (ia n))))
abbrev n4(n:Nat):=Ep (ia n)
abbrev gL(n:Nat):=DY (n4 n)
abbrev jS(n:Nat):=DL (gL n)
structure Val(m M:Nat)(o:Ot):Prop where
 ko:V0 o.kv
 kd:V9 (m+1) o.kv
 nb:il o.kv<=M
 bd:∃B,Va B/\(∀φ,bs B φ=ds o.kv φ)/\∀V3,Runs o.st V3 (V3++[B])
def mN{kv:eG}(hB:Va B)(h:∀φ,bs B φ=ds kv φ)(hk:V9 n kv):Fit n B:=O0 hB fun i k q=>by rw[<-mM,h,EA q hk]
def Kj{M:Nat}{kv:eG}(h:∀φ,bs B φ=ds kv φ)(hn:il kv<=M)(hM:M<2 ^ 63):∀r∈B,∀y∈r,-(2 ^ 63)<y/\y<2 ^ 63:=BB.lim (fun i k=>by rw[<-mM,h];exact ar (Np _ (Ms i k) _) hn) hM
def A4(i k:Nat)(v:Int):V0 [(nk i k,v)]:=⟨fun p hp=>by rw[aE.mp hp];exact⟨i,k,rfl⟩,by simp⟩
def D6{i k n:Nat}(v:Int)(hi:i<n)(hk:k<n):V9 n [(nk i k,v)]:=fun p hp=>by rw[aE.mp hp];exact⟨i,k,rfl,hi,hk⟩
def D7(i k:Nat)(v:Int)(φ:Nat->Nat->Int):ds [(nk i k,v)] φ=v*φ i k:=by show v*φ ((i:Int)).toNat ((k:Int)).toNat+0=_;rw[ba,ba];lia
def FL{c:Int}(h:∀φ,bs B φ=c*φ i k):∀φ,bs B φ=ds [(nk i k,c)] φ:=fun φ=>by rw[h,D7]
def Tr(φ:Nat->Nat->Int):bs [[0,1]] φ=1*φ 1 0:=by simp[bs,rs]
def Tp(φ:Nat->Nat->Int):bs [[],[1]] φ=1*φ 0 1:=by simp[bs,rs]
def S2:Va [[0,1]]:=⟨.inr ⟨[],[0,1],rfl,by decide⟩,fun r hr=>by rw[aE.mp hr];exact .inr ⟨[0],1,rfl,by decide⟩⟩
def S1:Va [[],[1]]:=⟨.inr ⟨[[]],[1],rfl,by decide⟩,fun r hr=>by
 rcases aM.mp hr with rfl | hr
 ·exact .inl rfl
 ·rw[aE.mp hr];exact .inr ⟨[],1,rfl,by decide⟩⟩
def S3(n:Int):Va (if n=0 then [] else [[n]]):=by
 split
 ·exact⟨.inl rfl,fun r hr=>nomatch hr⟩
 ·rename_i h
  exact⟨.inr ⟨[],[n],rfl,by simp⟩,fun r hr=>by rw[aE.mp hr];exact .inr ⟨[],n,rfl,h⟩⟩
def Ts(n:Int)(φ:Nat->Nat->Int):bs (if n=0 then [] else [[n]]) φ=n*φ 0 0:=by
 split
 ·rename_i h;rw[h];simp[bs]
 ·simp[bs,rs]
def MB{n:Nat}(h:n<10 ^ 12):PV (fU n)=if (n:Int)=0 then [] else [[(n:Int)]]:=by
 have v:=Ov (Ea h)
 unfold PV
 rw[aq v.1,aq v.2,Ar]
def EZ{c:Nat}{m:Nat}{B:Bd}(xs:aS)(hc:VQ [c])(e:PV [c]=B)(hB:Va B)(h:∀φ,bs B φ=1*φ i k)(hi:i<=m)(hk:k<=m):Val m 1 ⟨[[c]],[[c]],[(nk i k,1)],xs⟩:=⟨A4 i k 1,D6 1 (by lia) (by lia),aj _,B,hB,FL h,fun st=>by
 have:=Vu.atom (st:=st) hc
 rw[e] at this
 exact .cons this .nil⟩
def EY{n:Nat}(xs:aS)(h:n<10 ^ 12):Val m n ⟨[fU n],[fU n],[(nk 0 0,(n:Int))],xs⟩:=⟨A4 0 0 _,D6 _ (by lia) (by lia),by show(n:Int).natAbs+0<=n;lia,_,S3 n,FL (Ts n),fun st=>by
 have:=Vu.atom (st:=st) (.inl (Ea h))
 rw[MB h] at this
 exact .cons this .nil⟩
def Val.mono{m' M':Nat}{o:Ot}(h:Val m M o)(e1:m<=m')(e2:M<=M'):Val m' M' o:=⟨h.ko,fun p hp=>let ⟨i,k,e,a,b⟩:=h.kd p hp;⟨i,k,e,by lia,by lia⟩,ar h.nb e2,h.bd⟩
def pY(deep:Nat)(x:Int):0<=fN deep x/\fN deep x<(if 0<deep then 1000 else 10):=by
 have h6:0<=x / 6%10/\x / 6%10<10:=⟨by lia,by lia⟩
 have h7:0<=x / 6%(if 0<deep then 1000 else 10)/\x / 6%(if 0<deep then 1000 else 10)<(if 0<deep then 1000 else 10):=by split<;>lia
 have h8:(10:Int)<=(if 0<deep then 1000 else 10):=by split<;>decide
 unfold fN
 have h:(x / 60%4).toNat<4:=by lia
 generalize (x / 60%4).toNat=n at h
 match n,h with
 |0,_=>exact⟨h6.1,by show x / 6%10<_;lia⟩
 |1,_=>exact⟨h6.1,by show x / 6%10<_;lia⟩
 |2,_=>exact h7
 |3,_=>exact⟨Int.le_refl _,by show(0:Int)<_;lia⟩
 |n+4,h=>lia
def pX(s:Int):∀(B A:eG),V9 n A->V9 n B->V9 n (eB A B s)
 |[],A,h,_=>h
 |(k,x)::B,A,h,hB=>by
  obtain⟨i,j,e,hi,hj⟩:=hB (k,x) (by simp)
  have e':k=nk i j:=e
  subst e'
  exact pX s B _ (h.put hi hj _) fun p hp=>hB p (by simp[hp])
def Cy{n m:Nat}(hA:V9 (n+1) A)(hB:V9 (m+1) B):V9 (n+m+1) (l4 A B):=Fq (by lia) hB A [] hA fun p hp=>nomatch hp
def wJ{kv:eG}(h:V0 kv):∀p,V0 (jD kv p)
 |0=>A4 0 0 1
 |p+1=>Fp (wJ h p) h
def A0{kv:eG}{m:Nat}(h:V9 (m+1) kv):∀p,V9 (p*m+1) (jD kv p)
 |0=>D6 1 (by lia) (by lia)
 |p+1=>by
  have:=Cy (A0 h p) h
  rw[lH];exact this
def AZ{kv:eG}{N:Nat}(h:V0 kv)(hn:il kv<=N):∀p,il (jD kv p)<=N ^ p
 |0=>aj _
 |p+1=>ar (CG (wJ h p) h) (by rw[qy];exact dP (AZ h hn p) hn)
def DZ{kv:eG}(h:V0 kv)(hb:∀φ,bs B φ=ds kv φ):∀p φ,bs (wK B p) φ=ds (jD kv p) φ
 |0,φ=>by show bs [[1]] φ=ds [(nk 0 0,1)] φ;rw[D7];simp[bs,rs]
 |p+1,φ=>by
  show bs (ip (wK B p) B) φ=ds (l4 (jD kv p) kv) φ
  rw[Dc,DZ h hb p,Bz (wJ h p) h]
  exact xA _ fun i k=>hb _
def Ft(B:Bd):∀p,Va (wK B p)
 |0=>⟨.inr ⟨[],[1],rfl,by decide⟩,fun r hr=>by rw[aE.mp hr];exact .inr ⟨[],1,rfl,by decide⟩⟩
 |p+1=>z9 _ _
def XB(n m M m0:Nat)(o:Ot):Prop:=Val m M o/\AR n o.tk o.st/\(o.tk.head?≠some [40]->il o.kv<=m0)
def R3(n m M:Nat)(o:Ot):Prop:=Val m M o/\∃f:xW,kh (AR n) f/\vg f=o.tk/\Fg f=o.st
def Pu(n m M:Nat)(o:Ot):Prop:=Val m M o/\∃p:B3,nz (AR n) p/\we p=o.tk/\DA p=o.st
def PY(n m M:Nat)(o:Ot):Prop:=Val m M o/\∃T:Hg,Vp (AR n) T/\jr T=o.tk/\rJ T=o.st
def Af:VQ [120]:=.inr (.inl rfl)
def Cu:VQ [121]:=.inr (.inr rfl)
def Gq{deep M m0 S:Nat}{sm:aS->Nat->Ot}(hs:0<deep->∀xs room,room<=10->PY n room S (sm xs room))(h1:S<=M)(h2:1<=m0)(h3:m0<=M)(h4:∀x,(fN deep x).toNat<=m0)(xs:aS)(room:Nat)(hr:room<=10):XB (n+1) room M m0 (nv deep sm xs room):=by
 unfold nv
 split
 ·rename_i h
  exact⟨(EZ _ Af rfl S2 Tr (by lia) (by lia)).mono (aj _) (by lia),.inl ⟨_,Af,rfl,rfl⟩,fun _=>by show 1+0<=m0;lia⟩
 ·split
  ·rename_i h _
   exact⟨(EZ _ Cu rfl S1 Tp (by lia) (by lia)).mono (aj _) (by lia),.inl ⟨_,Cu,rfl,rfl⟩,fun _=>by show 1+0<=m0;lia⟩
  ·split
   ·rename_i h
    obtain⟨hv,T,hT,e1,e2⟩:=hs h.1 xs.dropLast room hr
    exact⟨⟨hv.ko,hv.kd,ar hv.nb h1,hv.bd⟩,.inr ⟨T,hT,by rw[e1],by rw[e2]⟩,fun z=>absurd rfl z⟩
   ·obtain⟨g1,g2⟩:=pY deep (aR xs)
    have g3:(fN deep (aR xs)).toNat<10 ^ 12:=by split at g2<;>lia
    have e:((fN deep (aR xs)).toNat:Int)=fN deep (aR xs):=jq g1
    have v:=EY (m:=room) xs.dropLast g3
    rw[e] at v
    have g4:=h4 (aR xs)
    exact⟨v.mono (aj _) (by lia),.inl ⟨_,.inl (Ea g3),rfl,rfl⟩,fun _=>by show(fN deep (aR xs)).natAbs+0<=m0;lia⟩
def M0(x:Int):tP x<=3:=by
 unfold tP
 have h:(x%6).toNat<6:=by lia
 generalize (x%6).toNat=n at h
 match n,h with
 |0,_=>decide
 |1,_=>decide
 |2,_=>decide
 |3,_=>decide
 |4,_=>decide
 |5,_=>decide
 |n+6,h=>lia
def Jb(x:Int):A7 x<=3:=by
 unfold A7
 have h:(x / 48%8).toNat<8:=by lia
 generalize (x / 48%8).toNat=n at h
 match n,h with
 |0,_=>decide
 |1,_=>decide
 |2,_=>decide
 |3,_=>decide
 |4,_=>decide
 |5,_=>decide
 |6,_=>decide
 |7,_=>decide
 |n+8,h=>lia
def IB(o:Ot)(x:Int):uG o x<=tP x:=by unfold uG;split<;>lia
def JF{F:Nat}{YU:aS->Nat->Ot}(hA:∀xs room,room<=10->XB n room M m0 (YU xs room))(f0:1<=F)(f1:M<=F)(f2:M ^ 2<=F)(g1:m0<=F)(g2:m0 ^ 2<=F)(g3:m0 ^ 3<=F)(hM:M<2 ^ 63)(xs:aS)(room:Nat)(hr:room<=10):R3 n room F (Ep YU xs room):=by
 have hd:room / max 1 (tP (aR xs))<=room:=Nat.div_le_self _ _
 obtain⟨hv,ha,hn⟩:=hA xs.dropLast (room / max 1 (tP (aR xs))) (by lia)
 unfold Ep
 dsimp only
 generalize hq:room / max 1 (tP (aR xs))=q at hv ha hn hd
 generalize YU xs.dropLast q=o at hv ha hn
 generalize hx:aR xs=x at hq
 have hp3:=M0 x
 have hpo:=IB o x
 have hm3:=Jb x
 have hpq:uG o x*q<=room:=by
  by_cases h0:tP x=0
  ·rw[show uG o x=0 by lia];lia
  ·rw[<-hq,show max 1 (tP x)=tP x by lia]
   exact ar (B9 _ hpo) (Nat.mul_div_le _ _)
 have hnp:il (jD o.kv (uG o x))<=F:=by
  by_cases hh:o.tk.head?=some [40]
  ·have hle:uG o x<=2:=by unfold uG;rw[au hh];lia
   have hb:=AZ hv.ko hv.nb (uG o x)
   generalize uG o x=p at hle hb
   match p,hle with
   |0,_=>exact ar hb f0
   |1,_=>exact ar hb (by rw[Nat.pow_one];exact f1)
   |2,_=>exact ar hb f2
   |p+3,h=>lia
  ·have hb:=AZ hv.ko (hn hh) (uG o x)
   have hle:uG o x<=3:=by lia
   generalize uG o x=p at hle hb
   match p,hle with
   |0,_=>exact ar hb f0
   |1,_=>exact ar hb (by rw[Nat.pow_one];exact g1)
   |2,_=>exact ar hb g2
   |3,_=>exact ar hb g3
   |p+4,h=>lia
 have hp9:uG o x<=3:=by lia
 generalize uG o x=p at hpq hnp hp9
 obtain⟨B,ZR,bB,rB⟩:=hv.bd
 have kp:=wJ hv.ko p
 have Y0:V9 (room+1) (jD o.kv p):=fun z hz=>let ⟨i,k,e,a,b⟩:=A0 hv.kd p z hz;⟨i,k,e,by lia,by lia⟩
 have fitB:=mN ZR bB hv.kd
 have hpw:Kw B p:=⟨fun i hi=>(mN (Ft B i) (DZ hv.ko bB i) (A0 hv.kd i)).sm (by have:i*q<=2*10:=dP (by lia) (by lia);lia),fitB.sm (by lia),Kj bB hv.nb hM⟩
 have hB2:∃B2,Va B2/\(∀φ,bs B2 φ=ds (jD o.kv p) φ)/\∀V3,Runs (if p≠1\/x / 6%8=1 then o.st++[[94,48+p]] else o.st) V3 (V3++[B2]):=by
  by_cases hc:p≠1\/x / 6%8=1
  ·rw[au hc]
   exact⟨wK B p,Ft B p,DZ hv.ko bB p,fun V3=>(rB V3).app (.cons (.pow hpw (by lia)) .nil)⟩
  ·rw[aq hc]
   have h1:p=1:=Classical.byContradiction fun z=>hc (.inl z)
   subst h1
   refine⟨B,ZR,fun φ=>?_,rB⟩
   rw[bB]
   show _=ds (l4 [(nk 0 0,1)] o.kv) φ
   rw[Bz (A4 0 0 1) hv.ko,D7,Int.one_mul]
   exact xA _ fun i k=>by rw[xT,xT]
 obtain⟨B2,ok2,b2,r2⟩:=hB2
 refine⟨?_,⟨A7 x,o.tk,o.st,if p≠1\/x / 6%8=1 then some p else none⟩,⟨by show A7 x<=20;lia,ha,fun d e=>by show d<=9;split at e<;>cases e;lia⟩,?_,?_⟩
 ·by_cases hm:A7 x%2=1
  ·rw[au hm]
   have so:=kD (-1) (fun _ _=>0) (jD o.kv p) [] .nil kp.keys
   refine⟨so.1,pX (-1) _ [] (fun z hz=>nomatch hz) Y0,ar (wY (-1) rfl _ [] .nil kp.keys) (by show 0+_<=_;lia),im [] (oS B2),jW _ _,fun φ=>?_,fun V3=>?_⟩
   ·show _=ds (eB [] (jD o.kv p) (-1)) φ
    rw[qi,xH,b2,(kD (-1) φ (jD o.kv p) [] .nil kp.keys).2]
    show(0:Int) + - _=0 + -1*_
    lia
   ·show Runs (_++yj (A7 x)) _ _
    rw[show yj (A7 x)=[[109,105,110,117,115]] by unfold yj;rw[au hm]]
    exact(r2 V3).app (.cons (.neg ((mN ok2 b2 Y0).sm (by lia))) .nil)
  ·rw[aq hm]
   refine⟨kp,Y0,hnp,B2,ok2,b2,fun V3=>?_⟩
   rw[show yj (A7 x)=[] by unfold yj;rw[aq hm],aP]
   exact r2 V3
 ·show List.replicate (A7 x) [45]++(o.tk++yg _)=_
  by_cases hc:p≠1\/x / 6%8=1
  ·rw[au hc,au hc];rfl
  ·rw[aq hc,aq hc];show _++(o.tk++[])=_;rw[aP]
 ·show(o.st++yh (if p≠1\/x / 6%8=1 then some p else none))++yj (A7 x)=(if p≠1\/x / 6%8=1 then o.st++[[94,48+p]] else o.st)++yj (A7 x)
  by_cases hc:p≠1\/x / 6%8=1
  ·rw[au hc,au hc];rfl
  ·rw[aq hc,aq hc];show(o.st++[])++_=_;rw[aP]
def Nh(xs:aS)(room:Nat):L0 xs room<=room:=by
 have:=EU (aR xs) (show(0:Int)<(room:Int)+1 by lia)
 have:=x8 (aR xs) (show(room:Int)+1≠0 by lia)
 unfold L0;lia
def IG{Ys:aS->Nat->Ot}(hF:∀xs room,room<=10->R3 n room F (Ys xs room))(f0:1<=F)(hM:F<2 ^ 63)(xs:aS)(room:Nat)(hr:room<=10):Pu n room (F*F) (DY Ys xs room):=by
 have hle:=Nh xs room
 unfold DY
 dsimp only
 generalize L0 xs room=a at hle
 obtain⟨hv,f,hf,e1,e2⟩:=hF xs.dropLast a (by lia)
 generalize Ys xs.dropLast a=o at hv e1 e2
 split
 ·obtain⟨gv,g,hg,e3,e4⟩:=hF o.xs.dropLast (room-a) (by lia)
  generalize Ys o.xs.dropLast (room-a)=q at gv e3 e4
  obtain⟨B,ZR,bB,rB⟩:=hv.bd
  obtain⟨C,okC,bC,rC⟩:=gv.bd
  have fB:=mN ZR bB hv.kd
  have fC:=mN okC bC gv.kd
  refine⟨⟨Fp hv.ko gv.ko,?_,ar (CG hv.ko gv.ko) (dP hv.nb gv.nb),ip B C,z9 _ _,fun φ=>?_,fun V3=>?_⟩,(f,[g]),⟨hf,fun z hz=>by rw[aE.mp hz];exact hg⟩,?_,?_⟩
  ·have:=Cy hv.kd gv.kd
   rw[show a+(room-a)=room by lia] at this
   exact this
  ·show _=ds (l4 o.kv q.kv) φ
   rw[Dc,bB,Bz hv.ko gv.ko]
   exact xA _ fun i k=>bC _
  ·have:=(rC (V3++[B])).app (.cons (.mul (fB.sm (by lia)) (fC.sm (by lia)) (Kj bC gv.nb hM)) .nil)
   exact(rB V3).app this
  ·show vg f++([42]::(vg g++[]))=_
   rw[e1,e3,aP,aF];rfl
  ·show Fg f++(Fg g++([42]::[]))=_
   rw[e2,e4]
 ·refine⟨(⟨hv.ko,hv.kd,hv.nb,hv.bd⟩:Val a F ⟨o.tk,o.st,o.kv,o.xs.dropLast⟩).mono hle (Nat.le_mul_of_pos_left F (by lia)),(f,[]),⟨hf,fun z hz=>nomatch hz⟩,?_,?_⟩
  ·show vg f++[]=_;rw[aP,e1]
  ·show Fg f++[]=_;rw[aP,e2]
def Cr{W6:aS->Nat->Ot}(hP:∀xs,Pu n room P (W6 xs room))(hr:room<=10){o:Ot}(h0:Pu n room P o):∀t,PY n room ((t+1)*P) (iX W6 room o t)
 |0=>by
  obtain⟨hv,p,hp,e1,e2⟩:=h0
  exact⟨hv.mono (aj _) (by lia),(p,[]),⟨hp,fun z hz=>nomatch hz⟩,by show we p++[]=_;rw[aP,e1];rfl,by show DA p++[]=_;rw[aP,e2];rfl⟩
 |t+1=>by
  obtain⟨hv,T,hT,e1,e2⟩:=Cr hP hr h0 t
  unfold iX mv
  dsimp only
  generalize iX W6 room o t=u at hv e1 e2
  obtain⟨gv,p,hp,e3,e4⟩:=hP u.xs.dropLast
  generalize W6 u.xs.dropLast room=q at gv e3 e4
  obtain⟨B,ZR,bB,rB⟩:=hv.bd
  obtain⟨C,okC,bC,rC⟩:=gv.bd
  have fB:=mN ZR bB hv.kd
  have fC:=mN okC bC gv.kd
  have so:=fun s φ=>kD s φ q.kv u.kv hv.ko gv.ko.keys
  refine⟨⟨(so _ (fun _ _=>0)).1,pX _ _ _ hv.kd gv.kd,ar (wY _ (by split<;>rfl) _ _ hv.ko gv.ko.keys) (by have h1:=hv.nb;have h2:=gv.nb;have e:(t+1+1)*P=(t+1)*P+P:=lH (t+1) P;lia),?_⟩,(T.1,T.2++[(AQ u.xs,p)]),⟨hT.1,fun z hz=>?_⟩,?_,?_⟩
  ·cases hs:AQ u.xs
   ·refine⟨im B (oS C),jW _ _,fun φ=>?_,fun V3=>?_⟩
    ·show _=ds (eB u.kv q.kv (-1)) φ
     rw[qi,xH,bB,bC,(so (-1) φ).2];lia
    ·exact(rB V3).app ((rC (V3++[B])).app (.cons (.sub (fB.sm (by lia)) (fC.sm (by lia))) .nil))
   ·refine⟨im B C,jW _ _,fun φ=>?_,fun V3=>?_⟩
    ·show _=ds (eB u.kv q.kv 1) φ
     rw[qi,bB,bC,(so 1 φ).2];lia
    ·exact(rB V3).app ((rC (V3++[B])).app (.cons (.add (fB.sm (by lia)) (fC.sm (by lia))) .nil))
  ·rcases List.mem_append.mp hz with hz | hz
   ·exact hT.2 z hz
   ·rw[aE.mp hz];exact hp
  ·show we T.1++ge (T.2++[(AQ u.xs,p)])=_
   rw[rO,<-aF,show we T.1++ge T.2=u.tk from e1]
   show _++(xV (AQ u.xs)::(we p++[]))=_
   rw[aP,e3,aF];rfl
  ·show DA T.1++ju (T.2++[(AQ u.xs,p)])=_
   rw[ox,<-aF,show DA T.1++ju T.2=u.st from e2]
   show _++(DA p++(xV (AQ u.xs)::[]))=_
   rw[e4]
def HQ{W6:aS->Nat->Ot}(hP:∀xs room,room<=10->Pu n room P (W6 xs room))(xs:aS)(room:Nat)(hr:room<=10):PY n room (3*P) (DL W6 xs room):=by
 unfold DL
 obtain⟨hv,p,hp,e1,e2⟩:=hP xs room hr
 have h0:Pu n room P { W6 xs room with xs:=(W6 xs room).xs.dropLast }:=⟨⟨hv.ko,hv.kd,hv.nb,hv.bd⟩,p,hp,e1,e2⟩
 obtain⟨gv,g⟩:=Cr (fun xs=>hP xs room hr) hr h0 (aR (W6 xs room).xs%3).toNat
 refine⟨gv.mono (aj _) (B9 _ (by lia)),g⟩
def XG(xs:aS)(room:Nat)(hr:room<=10):XB 1 room 9 9 (ia 0 xs room):=Gq (S:=0) (fun z=>absurd z (by lia)) (by decide) (by decide) (by decide) (fun x=>by have:=pY 0 x;rw[aq (by decide)] at this;lia) xs room hr
def Uj(xs:aS)(room:Nat)(hr:room<=10):R3 1 room 729 (n4 0 xs room):=JF XG (by decide) (by decide) (by decide) (by decide) (by decide) (by decide) (by decide) xs room hr
def Ug(xs:aS)(room:Nat)(hr:room<=10):Pu 1 room 531441 (gL 0 xs room):=IG Uj (by decide) (by decide) xs room hr
def NV(xs:aS)(room:Nat)(hr:room<=10):PY 1 room 1594323 (jS 0 xs room):=HQ Ug xs room hr
def Uk(xs:aS)(room:Nat)(hr:room<=10):XB 2 room 1594323 999 (ia 1 xs room):=Gq (fun _ xs room hr=>NV xs room hr) (by decide) (by decide) (by decide) (fun x=>by show(fN 1 x).toNat<=999;have:=pY 1 x;rw[au (by decide)] at this;lia) xs room hr
def Ui(xs:aS)(room:Nat)(hr:room<=10):R3 2 room 2541865828329 (n4 1 xs room):=JF Uk (by decide) (by decide) (by decide) (by decide) (by decide) (by decide) (by decide) xs room hr
def Uf(xs:aS)(room:Nat)(hr:room<=10):Pu 2 room (2541865828329*2541865828329) (gL 1 xs room):=IG Ui (by decide) (by decide) xs room hr
def Uc(xs:aS)(room:Nat)(hr:room<=10):PY 2 room (3*(2541865828329*2541865828329)) (jS 1 xs room):=HQ Uf xs room hr
def I9{α:Type}[DecidableEq α]:∀{l m:List α},l.Nodup->(∀x∈l,x∈m)->l.length<=m.length
 |[],m,_,_=>be _
 |x::l,m,nd,h=>by
  have hx:=h x (by simp)
  have nd':=cg.mp nd
  have:=I9 nd'.2 fun y hy=>(List.mem_erase_of_ne (fun(e:y=x)=>nd'.1 (e ▸ hy))).mpr (h y (by simp[hy]))
  rw[List.length_erase_of_mem hx] at this
  have:0<m.length:=List.length_pos_of_mem hx
  simp
  lia
def LR:((List.range 100).map fun n=>qO (nk (n / 10) (n%10)))=[-8458139203682520985,-1950498447580522560,7204814214171964562,-4734289103435588629,1773351652666409796,-3119722376306286570,-1010439003188656273,-5903513032161352639,604127723940645786,-4288946305032050580,-5164621852614943976,8389048192121911274,-3550055125485641917,-1440771752368011620,-6333845781340707986,173794974761290439,-4719279054211405927,-2609995681093775630,3897645075008222795,-995428953964473571,4685526799349444076,6794810172467074373,1901736143494378007,8409376899596376432,3516302870623680066,-8422800446983873125,-6313517073866242828,7240152970870612422,-4698950346736940769,8854719697999914481,2248468952609198383,8756109708711196808,3863035679738500442,5972319052856130739,1079245023883434373,7586885779985432798,-4352217537622120393,4803095124130366729,-7136008193477186462,6417661851259668788,-6348126469135965181,159514286966033244,-9131917124991031250,-2624276368889032825,3883364387212965600,-1009709641759730766,1099573731357899531,-3793500297614796835,2714140458487201590,-2178933570485494776,-3054609118068388172,3453031638033610253,-5838399773923454241,669240982178544184,-4223833046794152182,2283807709307846243,-7007623702649218251,-499982946547219826,6007657809554778599,1114583780582082233,-5491666964808633865,8062003079928221385,-3877100237679331806,2630540518422666619,-6660890893534397875,-153250137432399450,-5046324166405095816,1461316589696902609,3570599962814532906,-1322474066158163460,4358481687155754187,-7580621630451799004,5973048414285056246,8082331787402686543,3189257758429990177,-8749845559177563014,-2242204803075564589,6913107858676922533,-5025995458930630658,8527674585806224592,1921423840415508494,8429064596517506919,3535990567544810553,-8403112750062742638,752199911689744484,7259840667791742909,-4679262649815810282,8874407394921044968,-7463053305670876351,6090616739065978899,-6675171581329655070,-167530825227656645,-5060604854200353011,-2951321481082722714,3556319275019275711,-1336754753953420655,5170886002148577770,-4120545409808486724,2387095346293511701,-2505978682679184665]:=by decide
def OG:(([-8458139203682520985,-1950498447580522560,7204814214171964562,-4734289103435588629,1773351652666409796,-3119722376306286570,-1010439003188656273,-5903513032161352639,604127723940645786,-4288946305032050580,-5164621852614943976,8389048192121911274,-3550055125485641917,-1440771752368011620,-6333845781340707986,173794974761290439,-4719279054211405927,-2609995681093775630,3897645075008222795,-995428953964473571,4685526799349444076,6794810172467074373,1901736143494378007,8409376899596376432,3516302870623680066,-8422800446983873125,-6313517073866242828,7240152970870612422,-4698950346736940769,8854719697999914481,2248468952609198383,8756109708711196808,3863035679738500442,5972319052856130739,1079245023883434373,7586885779985432798,-4352217537622120393,4803095124130366729,-7136008193477186462,6417661851259668788,-6348126469135965181,159514286966033244,-9131917124991031250,-2624276368889032825,3883364387212965600,-1009709641759730766,1099573731357899531,-3793500297614796835,2714140458487201590,-2178933570485494776,-3054609118068388172,3453031638033610253,-5838399773923454241,669240982178544184,-4223833046794152182,2283807709307846243,-7007623702649218251,-499982946547219826,6007657809554778599,1114583780582082233,-5491666964808633865,8062003079928221385,-3877100237679331806,2630540518422666619,-6660890893534397875,-153250137432399450,-5046324166405095816,1461316589696902609,3570599962814532906,-1322474066158163460,4358481687155754187,-7580621630451799004,5973048414285056246,8082331787402686543,3189257758429990177,-8749845559177563014,-2242204803075564589,6913107858676922533,-5025995458930630658,8527674585806224592,1921423840415508494,8429064596517506919,3535990567544810553,-8403112750062742638,752199911689744484,7259840667791742909,-4679262649815810282,8874407394921044968,-7463053305670876351,6090616739065978899,-6675171581329655070,-167530825227656645,-5060604854200353011,-2951321481082722714,3556319275019275711,-1336754753953420655,5170886002148577770,-4120545409808486724,2387095346293511701,-2505978682679184665]:aS)).Nodup:=by decide
def OF{i k a c:Nat}(hi:i<10)(hk:k<10)(ha:a<10)(hc:c<10)(e:qO (nk i k)=qO (nk a c)):nk i k=nk a c:=by
 have nd:=OG
 rw[<-LR] at nd
 have key:∀n m:Nat,n<100->m<100->qO (nk (n / 10) (n%10))=qO (nk (m / 10) (m%10))->n=m:=fun n m hn hm e=>by
  have l:((List.range 100).map fun n=>qO (nk (n / 10) (n%10))).length=100:=by simp
  have:=(List.getElem_inj (h₀:=by rw[l];exact hn) (h₁:=by rw[l];exact hm) nd).mp (by simpa using e)
  exact this
 have:=key (10*i+k) (10*a+c) (by lia) (by lia) (by rw[show(10*i+k) / 10=i by lia,show(10*i+k)%10=k by lia,show(10*a+c) / 10=a by lia,show(10*a+c)%10=c by lia];exact e)
 rw[show i=a by lia,show k=c by lia]
def Na:∀{kv:eG},(kv.map (·.1)).Nodup->V9 10 kv->(kv.map fun y=>qO y.1).Nodup
 |[],_,_=>List.nodup_nil
 |p::r,nd,hk=>by
  rw[aT,cg] at nd ⊢
  refine⟨fun hm=>?_,Na nd.2 fun z hz=>hk z (by simp[hz])⟩
  obtain⟨y,hy,e⟩:=List.mem_map.mp hm
  obtain⟨i,j,e1,hi,hj⟩:=hk p (by simp)
  obtain⟨a,c,e2,ha,hc⟩:=hk y (by simp[hy])
  rw[e1,e2] at e
  have:=OF ha hc hi hj e
  exact nd.1 (List.mem_map.mpr ⟨y,hy,by rw[e1,e2,this]⟩)
def Bh{kv:eG}(h:V0 kv)(hk:V9 n kv):kv.length<=n*n:=by
 have:=I9 h.nd fun x hx=>by
  obtain⟨p,hp,rfl⟩:=List.mem_map.mp hx
  obtain⟨i,j,e,hi,hj⟩:=hk p hp
  exact List.mem_flatMap.mpr ⟨i,List.mem_range.mpr hi,List.mem_map.mpr ⟨j,List.mem_range.mpr hj,e.symm⟩⟩
 rw[ag] at this
 refine ar this ?_
 rw[List.length_flatMap]
 have:∀l:bN,(l.map fun i=>((List.range n).map fun k=>nk i k).length).sum=l.length*n:=by
  intro l
  induction l with
  |nil=>simp
  |cons a l ih=>rw[aT,List.sum_cons,ih,bc,lH];simp;lia
 rw[this];simp
abbrev iL(ns:aS):aU:=ns.map D.int
def oD(o:Ot):D:=.tup [.lst (aO o.tk),.Vi o.kv]
def eM(ds xs:aU)(d:D)(xs':aU):Prop:=∃ns:aS,ds=[]/\xs=iL ns/\d=.int (aR ns)/\xs'=iL ns.dropLast
def yv:∀ds xs d xs',eM ds xs d xs'->ds.length+1=1:=by rintro _ _ _ _ ⟨_,rfl,_⟩;rfl
def kr(ds:aU)(kvs:eG):Prop:=∃(A B:eG) (s:Int),ds=[.Vi A,.Vi B,.int s]/\V0 A/\V9 10 A/\V0 B/\V9 10 B/\(s=1\/s=-1)/\kvs=eB A B s
def Bf:∀ds d,kr ds d->ds.length=3:=by rintro _ _ ⟨_,_,_,rfl,_⟩;rfl
def CO(f:aS->Nat->Ot)(n:Nat)(ds xs:aU)(d:D)(xs':aU):Prop:=∃(ns:aS) (room:Nat),ds=[.int room,.int n]/\room<=6/\ns.length<=200/\xs=iL ns/\d=oD (f ns room)/\xs'=iL (f ns room).xs
def CO.len{f:aS->Nat->Ot}:∀ds xs d xs',CO f n ds xs d xs'->ds.length+1=3:=by rintro _ _ _ _ ⟨_,_,rfl,_⟩;rfl
abbrev pT(n:Nat):=CO (ia n) n
abbrev lG(n:Nat):=CO (n4 n) n
abbrev pQ(n:Nat):=CO (gL n) n
abbrev km(n:Nat):=CO (jS n) n
def qN(n:Nat):∀ds xs d xs',pT n ds xs d xs'->ds.length+1=3:=CO.len
def nt(n:Nat):∀ds xs d xs',lG n ds xs d xs'->ds.length+1=3:=CO.len
def qM(n:Nat):∀ds xs d xs',pQ n ds xs d xs'->ds.length+1=3:=CO.len
def sK(n:Nat):∀ds xs d xs',km n ds xs d xs'->ds.length+1=3:=CO.len
def Nc(ns:aS):ns=[]\/∃m i,ns=m++[i]:=by
 cases h:ns.getLast? with
 |none=>exact .inl (List.getLast?_eq_none_iff.mp h)
 |some y=>obtain⟨ys,e⟩:=List.getLast?_eq_some_iff.mp h;exact .inr ⟨ys,y,e⟩
def BN(h:DefX P w K mg base k pC (ai kR) X):
  Pz X pC kR eM:=by
 rintro q ds xs d xs' ⟨ns,rfl,rfl,rfl,rfl⟩
 have t:=h.at'
 haveI:=h.VI
 rcases Nc ns with rfl | ⟨m,i,rfl⟩
 ·exact wZ (i9 (Cp t 0 rfl rfl rfl) (cB (Ej (U1.em ah))))
 ·refine bQ (fb (Cp t 0 rfl rfl (by cases m<;>rfl)) sG) (cB (Ej (Pd t 0 rfl ?_)))
  rw[oj]
  unfold aR iL
  rw[List.getLast?_concat,aJ];rfl
def GD(A B:eG)(p:aS×Int)(s:Int):eB A (B++[p]) s=gK (eB A B s) p.1 ((c7 (eB A B s) p.1).getD 0+s*p.2):=by unfold eB;rw[tI];rfl
def Df(h:DefX P w K mg base k WG (ai mH) X)(ZU:mg "dict"=none):
  ∀ds d,kr ds d->xQ X (ds.map Sl.val++List.replicate (WG.length-ds.length) Sl.un) (bE mH) d:=by
 rintro ds d ⟨A,B,s,rfl,kA,iA,kB,iB,hs,rfl⟩
 have t:=h.at'
 haveI:=h.VI
 have b1:=h.bt ZU
 refine sW (Ic t 3 (Mq t b1 (U1.dr (aa t 0)) (Na kA.nd iA))) (sW (i6 t (Ey (aa t 1)) (Vt.VD (fun j=>[.val (.Vi A),.val (.Vi B),.val (.int s),.Wb (eB A (B.take j) s),.un]) (fun j d e=>?_) rfl (by rw[ag,bo]))) (Ga t 3 rfl))
 rw[List.getElem?_map] at e
 cases e2:B[j]? with
 |none=>rw[e2] at e;cases e
 |some p=>
  rw[e2] at e
  cases e
  have hm:=List.mem_of_getElem? e2
  have et:eB A (B.take (j+1)) s=gK (eB A (B.take j) s) p.1 ((c7 (eB A (B.take j) s) p.1).getD 0+s*p.2):=by rw[rH,e2];exact GD _ _ _ _
  have hv:c7 B p.1=some p.2:=oq kB.nd hm
  have hlen:(eB A (B.take j) s).length<1000:=by
   have k1:=(kD s (fun _ _=>0) (B.take j) A kA fun z hz=>kB.keys z (fz hz)).1
   have:=Bh k1 (pX s (B.take j) A iA fun z hz=>iB z (fz hz))
   lia
  rw[et]
  generalize eB A (B.take j) s=S0 at hlen
  refine⟨_,bf t 4,U4.weak (aC (uF t (c8 (Bt t (JP t 3 rfl) (ab (aa t 4) (ab ah af))) (jh (aa t 2) (Eu t (U1.dr (aa t 1)) (aa t 4) hv) (by rcases hs with rfl | rfl<;>exact l7 (by decide) (by decide)))) (Gc t 3 rfl (aa t 4) (by rw[CQ];lia)))) (.keep (.keep (.keep (.keep (.forget .nil)))))⟩
def wT(tk:TK):Nat:=(tk.map fun u=>u.length+3).sum
def eO(a b:TK):wT (a++b)=wT a+wT b:=by unfold wT;rw[aJ,gO]
def ef(u:bN)(b:TK):wT (u::b)=u.length+3+wT b:=rfl
def v9(u:bN):∀n,wT (List.replicate n u)=n*(u.length+3)
 |0=>by simp[wT]
 |n+1=>by rw[aA,ef,v9 u n,lH];lia
def Hy(tk:TK):3*tk.length<=wT tk:=by
 induction tk with
 |nil=>simp[wT]
 |cons u tk ih=>rw[ef,bc];lia
structure WV(β γ:Int)(n:Nat)(o:Ot):Prop where
 le:o.xs.length<=n
 Vs:n=0->wT o.tk=4
 more:0<o.xs.length->(wT o.tk:Int)<=8*((n:Int)-(o.xs.length:Int))+β
 last:0<n->o.xs.length=0->(wT o.tk:Int)<=8*(n:Int)+γ
def oM:aR []=0:=rfl
def IZ{n k:Nat}(hk:0<k)(h:n<10 ^ k):(fU n).length<=k/\1<=(fU n).length:=by
 refine⟨?_,?_⟩
 ·unfold fU;rw[ag];exact(PL (by decide) hk).mpr h
 ·cases e:fU n with
  |nil=>exact absurd e (A5 n)
  |cons a b=>simp
def dl{α:Type}(xs:List α):xs.dropLast.length=xs.length-1:=aW
def tR(xs:aS)(room:Nat):WV (-4) (-4) xs.length (ia 0 xs room):=by
 have hx:=dl xs
 show WV _ _ _ (nv 0 _ xs room)
 have key:∀(u:bN) st kv,u.length=1->WV (-4) (-4) xs.length ⟨[u],st,kv,xs.dropLast⟩:=fun u st kv hu=>by
  have hw:wT [u]=4:=by rw[ef,hu];rfl
  refine⟨by show xs.dropLast.length<=_;lia,fun _=>hw,fun h=>?_,fun h1 h2=>?_⟩
  ·have h':0<xs.dropLast.length:=h
   show(wT [u]:Int)<=8*((xs.length:Int)-(xs.dropLast.length:Int)) + -4
   rw[hw];lia
  ·show(wT [u]:Int)<=_
   rw[hw];lia
 unfold nv
 split
 ·exact key _ _ _ rfl
 ·split
  ·exact key _ _ _ rfl
  ·rw[aq (by lia)]
   refine key _ _ _ ?_
   have:=pY 0 (aR xs)
   rw[aq (by decide)] at this
   have:=IZ (n:=(fN 0 (aR xs)).toNat) (k:=1) (by decide) (by lia)
   lia
def GL(hs:∀xs room,WV β γ xs.length (jS n xs room))(h1:β <= -2)(h2:4<=γ)(xs:aS)(room:Nat):WV (-2) γ xs.length (ia (n+1) xs room):=by
 have hx:=dl xs
 show WV _ _ _ (nv (n+1) (jS n) xs room)
 have key:∀(u:bN) st kv,u.length<=3->(xs.length=0->u.length=1)->WV (-2) γ xs.length ⟨[u],st,kv,xs.dropLast⟩:=fun u st kv hu hu1=>by
  have hw:wT [u]=u.length+3:=by rw[ef];rfl
  refine⟨by show xs.dropLast.length<=_;lia,fun z=>by rw[hw,hu1 z],fun h=>?_,fun h1 h2=>?_⟩
  ·have h':0<xs.dropLast.length:=h
   show(wT [u]:Int)<=8*((xs.length:Int)-(xs.dropLast.length:Int)) + -2
   rw[hw];lia
  ·show(wT [u]:Int)<=_
   rw[hw];lia
 unfold nv
 split
 ·exact key _ _ _ (by decide) fun _=>rfl
 ·split
  ·exact key _ _ _ (by decide) fun _=>rfl
  ·split
   ·rename_i h
    have Xi:0<xs.length:=by
     cases xs with
     |nil=>rw[oM] at h;lia
     |cons a b=>simp
    have hp:=hs xs.dropLast room
    generalize jS n xs.dropLast room=o at hp
    have hw:wT ([40]::(o.tk++[[41]]))=wT o.tk+8:=by rw[ef,eO,ef];show 1+3+(wT o.tk+(1+3+0))=_;lia
    obtain⟨p1,p2,p3,p4⟩:=hp
    rw[hx] at p1 p2 p3 p4
    refine⟨by show o.xs.length<=_;lia,fun z=>by lia,fun h=>?_,fun h1 h2=>?_⟩
    ·have h':0<o.xs.length:=h
     have:=p3 h'
     show(wT ([40]::(o.tk++[[41]])):Int)<=8*((xs.length:Int)-(o.xs.length:Int)) + -2
     rw[hw];lia
    ·have h':o.xs.length=0:=h2
     rw[hw]
     by_cases z:xs.length-1=0
     ·have:=p2 z;lia
     ·have:=p4 (by lia) h';lia
   ·have g:=pY (n+1) (aR xs)
    rw[au (by lia)] at g
    have g3:=IZ (n:=(fN (n+1) (aR xs)).toNat) (k:=3) (by decide) (by lia)
    refine key _ _ _ g3.1 fun z=>?_
    have:xs=[]:=aB z
    subst this
    show(fU (fN (n+1) 0).toNat).length=1
    rw[show(fN (n+1) 0).toNat=0 by unfold fN;rfl]
    decide
def Fw{β γ:Int}{YU:aS->Nat->Ot}(ha:∀xs room,WV βa γa xs.length (YU xs room))(hh:∀room,(YU [] room).tk.head?≠some [40])(h1:12+βa<=β)(h2:16<=γ)(h3:12+γa<=γ)(xs:aS)(room:Nat):WV β γ xs.length (Ep YU xs room):=by
 have hx:=dl xs
 have hmn:=Jb (aR xs)
 unfold Ep
 dsimp only
 generalize hq:room / max 1 (tP (aR xs))=q
 have hp:=ha xs.dropLast q
 have hh':xs.length=0->(YU xs.dropLast q).tk.head?≠some [40]:=fun z=>by rw[aB z];exact hh q
 generalize YU xs.dropLast q=o at hp hh'
 obtain⟨p1,p2,p3,p4⟩:=hp
 rw[hx] at p1 p2 p3 p4
 have hw:∀p,wT (List.replicate (A7 (aR xs)) [45]++(if p≠1\/aR xs / 6%8=1 then o.tk++[[94],[48+p]] else o.tk))<=20+wT o.tk:=fun p=>by
  rw[eO,v9]
  show _*4+_<=_
  split
  ·rw[eO]
   have:wT [[94],[48+p]]=8:=rfl
   lia
  ·lia
 have hw0:xs.length=0->wT (List.replicate (A7 (aR xs)) [45]++(if uG o (aR xs)≠1\/aR xs / 6%8=1 then o.tk++[[94],[48+uG o (aR xs)]] else o.tk))=wT o.tk:=fun z=>by
  have e0:xs=[]:=aB z
  have hd:=hh' z
  rw[e0,oM]
  have e1:uG o 0=1:=by unfold uG;rw[aq hd];rfl
  rw[e1,aq (by decide)]
  rfl
 have fin:∀T st kv,wT T<=20+wT o.tk->(xs.length=0->wT T=wT o.tk)->WV β γ xs.length ⟨T,st,kv,o.xs⟩:=fun T st kv w1 w2=>by
  refine⟨by show o.xs.length<=_;lia,fun z=>?_,fun h=>?_,fun h1' X4=>?_⟩
  ·show wT T=4
   rw[w2 z]
   exact p2 (by lia)
  ·have h':0<o.xs.length:=h
   have:=p3 h'
   show(wT T:Int)<=8*((xs.length:Int)-(o.xs.length:Int))+β
   lia
  ·have h':o.xs.length=0:=X4
   show(wT T:Int)<=_
   by_cases z:xs.length-1=0
   ·have:=p2 z;lia
   ·have:=p4 (by lia) h';lia
 exact fin _ _ _ (hw _) hw0
def Fv{β γ:Int}{Ys:aS->Nat->Ot}(hf:∀xs room,WV βf γf xs.length (Ys xs room))(h1:2*βf-12<=β)(h2:βf-16<=β)(g1:γf-8<=γ)(g2:βf-8<=γ)(g3:βf-12+γf<=γ)(g4 : -4<=γ)(xs:aS)(room:Nat):WV β γ xs.length (DY Ys xs room):=by
 have hx:=dl xs
 unfold DY
 dsimp only
 generalize L0 xs room=a
 have hp:=hf xs.dropLast a
 generalize Ys xs.dropLast a=o at hp
 obtain⟨p1,p2,p3,p4⟩:=hp
 rw[hx] at p1 p2 p3 p4
 have ho:=dl o.xs
 split
 ·rename_i hy
  have Xi:0<o.xs.length:=by
   cases e:o.xs with
   |nil=>rw[e,oM] at hy;lia
   |cons a b=>simp
  have hq:=hf o.xs.dropLast (room-a)
  generalize Ys o.xs.dropLast (room-a)=q at hq
  obtain⟨q1,q2,q3,q4⟩:=hq
  rw[ho] at q1 q2 q3 q4
  have hw:wT (o.tk++[[42]]++q.tk)=wT o.tk+4+wT q.tk:=by rw[eO,eO];rfl
  have pp:=p3 Xi
  refine⟨by show q.xs.length<=_;lia,fun z=>by lia,fun h=>?_,fun _ X4=>?_⟩
  ·have h':0<q.xs.length:=h
   have:=q3 h'
   show(wT (o.tk++[[42]]++q.tk):Int)<=8*((xs.length:Int)-(q.xs.length:Int))+β
   rw[hw];lia
  ·have h':q.xs.length=0:=X4
   rw[hw]
   by_cases z:o.xs.length-1=0
   ·have:=q2 z;lia
   ·have:=q4 (by lia) h';lia
 ·refine⟨by show o.xs.dropLast.length<=_;lia,fun z=>p2 (by lia),fun h=>?_,fun h1' X4=>?_⟩
  ·have h':0<o.xs.dropLast.length:=h
   have:=p3 (by lia)
   show(wT o.tk:Int)<=8*((xs.length:Int)-(o.xs.dropLast.length:Int))+β
   lia
  ·have h':o.xs.dropLast.length=0:=X4
   show(wT o.tk:Int)<=_
   by_cases y:o.xs.length=0
   ·by_cases z:xs.length-1=0
    ·have:=p2 z;lia
    ·have:=p4 (by lia) y;lia
   ·have:=p3 (by lia);lia
def wL{β' γ':Int}{room:Nat}{W6:aS->Nat->Ot}{o:Ot}(hp:∀xs room,WV βp γp xs.length (W6 xs room))(ho:WV β γ n o)(hn:0<n)(h1:β+βp-4<=β')(g1:γ+8<=γ')(g2:β<=γ')(g3:β+γp-4<=γ'):WV β' γ' n (mv W6 room o):=by
 obtain⟨p1,p2,p3,p4⟩:=ho
 have hq:=hp o.xs.dropLast room
 have hd:=dl o.xs
 unfold mv
 generalize W6 o.xs.dropLast room=q at hq
 obtain⟨q1,q2,q3,q4⟩:=hq
 rw[hd] at q1 q2 q3 q4
 have hs:(xV (AQ o.xs)).length=1:=by unfold xV;split<;>rfl
 have hw:wT (o.tk++[xV (AQ o.xs)]++q.tk)=wT o.tk+4+wT q.tk:=by rw[eO,eO,ef,hs];rfl
 refine⟨by show q.xs.length<=_;lia,fun z=>by lia,fun h=>?_,fun _ X4=>?_⟩
 ·have h':0<q.xs.length:=h
  have a:=q3 h'
  have b:=p3 (by lia)
  show(wT (o.tk++[xV (AQ o.xs)]++q.tk):Int)<=8*((n:Int)-(q.xs.length:Int))+β'
  rw[hw];lia
 ·have h':q.xs.length=0:=X4
  rw[hw]
  by_cases y:o.xs.length=0
  ·have:=p4 hn y;have:=q2 (by lia);lia
  ·have:=p3 (by lia)
   by_cases z:o.xs.length-1=0
   ·have:=q2 z;lia
   ·have:=q4 (by lia) h';lia
def Fu{β1 γ1 β2 γ2 β γ:Int}{W6:aS->Nat->Ot}(hp:∀xs room,WV βp γp xs.length (W6 xs room))(h1:2*βp-12<=β1)(g1:βp<=γ1)(g2:βp-8+γp-4<=γ1)(h2:β1+βp-4<=β2)(g3:γ1+8<=γ2)(g4:β1<=γ2)(g5:β1+γp-4<=γ2)(k0:βp-8<=β)(k1:β1<=β)(k2:β2<=β)(l0:γp<=γ)(l1:γ1<=γ)(l2:γ2<=γ)(l3:βp-8<=γ)(xs:aS)(room:Nat):WV β γ xs.length (DL W6 xs room):=by
 have hq:=hp xs room
 unfold DL
 dsimp only
 generalize W6 xs room=o at hq
 have hd:=dl o.xs
 have low:∀{β' γ':Int} {u:Ot},WV β' γ' xs.length u->β'<=β->γ'<=γ->WV β γ xs.length u:=fun h e1 e2=>⟨h.le,h.Vs,fun z=>by have:=h.more z;lia,fun z1 z2=>by have:=h.last z1 z2;lia⟩
 by_cases Xi:o.xs.length=0
 ·have e:o.xs=[]:=aB Xi
  rw[e,oM]
  refine⟨be _,fun z=>hq.Vs z,fun z=>absurd z (by show ¬0<([]:aS).length;simp),fun z1 z2=>?_⟩
  have:=hq.last z1 Xi
  show(wT o.tk:Int)<=_
  lia
 ·have h0:WV (βp-8) (βp-8) xs.length { o with xs:=o.xs.dropLast }:=by
   have hm:=hq.more (by lia)
   refine⟨by show o.xs.dropLast.length<=_;have:=hq.le;lia,fun z=>hq.Vs z,fun z=>?_,fun z1 z2=>?_⟩
   ·have z':0<o.xs.dropLast.length:=z
    show(wT o.tk:Int)<=8*((xs.length:Int)-(o.xs.dropLast.length:Int))+(βp-8)
    lia
   ·have z':o.xs.dropLast.length=0:=z2
    show(wT o.tk:Int)<=_
    lia
  have hn:0<xs.length:=by have:=hq.le;lia
  have ht:(aR o.xs%3).toNat<3:=by lia
  generalize (aR o.xs%3).toNat=t at ht
  match t,ht with
  |0,_=>exact low h0 k0 l3
  |1,_=>exact low (wL hp h0 hn (by lia) (by lia) (by lia) (by lia)) k1 l1
  |2,_=>exact low (wL hp (wL hp h0 hn (by lia) (by lia) (by lia) (by lia)) hn h2 g3 g4 g5) k2 l2
  |t+3,h=>lia
def hd0(n room:Nat):(ia n [] room).tk.head?≠some [40]:=by
 have key:∀deep sm,(nv deep sm [] room).tk.head?≠some [40]:=fun deep sm=>by
  unfold nv
  rw[oM]
  split
  ·simp
  ·split
   ·simp
   ·rw[aq (by lia)]
    have e:(fN deep 0).toNat=0:=by unfold fN;rfl
    rw[e]
    show some (fU 0)≠some [40]
    decide
 cases n with
 |zero=>exact key 0 _
 |succ n=>exact key (n+1) _
def SY:∀xs room,WV 8 16 xs.length (n4 0 xs room):=Fw tR (hd0 0) (by decide) (by decide) (by decide)
def SW:∀xs room,WV 4 12 xs.length (gL 0 xs room):=Fv SY (by decide) (by decide) (by decide) (by decide) (by decide) (by decide)
def RU:∀xs room,WV (-4) 12 xs.length (jS 0 xs room):=Fu (β1:=-4) (γ1:=4) (β2:=-4) (γ2:=12) SW (by decide) (by decide) (by decide) (by decide) (by decide) (by decide) (by decide) (by decide) (by decide) (by decide) (by decide) (by decide) (by decide) (by decide)
def SZ:∀xs room,WV (-2) 12 xs.length (ia 1 xs room):=GL RU (by decide) (by decide)
def SX:∀xs room,WV 10 24 xs.length (n4 1 xs room):=Fw SZ (hd0 1) (by decide) (by decide) (by decide)
def SV:∀xs room,WV 8 22 xs.length (gL 1 xs room):=Fv SX (by decide) (by decide) (by decide) (by decide) (by decide) (by decide)
def SU:∀xs room,WV 8 26 xs.length (jS 1 xs room):=Fu (β1:=4) (γ1:=18) (β2:=8) (γ2:=26) SV (by decide) (by decide) (by decide) (by decide) (by decide) (by decide) (by decide) (by decide) (by decide) (by decide) (by decide) (by decide) (by decide) (by decide)
def WV.YY{o:Ot}(h:WV β γ n o)(h1:β<=40)(h2:γ<=40):wT o.tk<=8*n+44/\o.tk.length<=3*n+20:=by
 have hw:wT o.tk<=8*n+44:=by
  by_cases z:n=0
  ·have:=h.Vs z;lia
  ·by_cases y:o.xs.length=0
   ·have:=h.last (by lia) y;lia
   ·have:=h.more (by lia);have:=h.le;lia
 exact⟨hw,by have:=Hy o.tk;lia⟩
def HF{a:Nat}(h:a<=5000):a<=sizeLine:=ar h (bq rfl)
def XB.len{n:Nat}{ns:aS}(hn:n=0\/n=1)(h:ns.length<=200)(room:Nat):(ia n ns room).tk.length<=620/\(n4 n ns room).tk.length<=620/\(gL n ns room).tk.length<=620/\(jS n ns room).tk.length<=620:=by
 rcases hn with rfl | rfl
 ·have a:=((tR ns room).YY (by decide) (by decide)).2
  have b:=((SY ns room).YY (by decide) (by decide)).2
  have c:=((SW ns room).YY (by decide) (by decide)).2
  have d:=((RU ns room).YY (by decide) (by decide)).2
  exact⟨by lia,by lia,by lia,by lia⟩
 ·have a:=((SZ ns room).YY (by decide) (by decide)).2
  have b:=((SX ns room).YY (by decide) (by decide)).2
  have c:=((SV ns room).YY (by decide) (by decide)).2
  have d:=((SU ns room).YY (by decide) (by decide)).2
  exact⟨by lia,by lia,by lia,by lia⟩
def XB.xs{n:Nat}(hn:n=0\/n=1)(ns:aS)(room:Nat):(ia n ns room).xs.length<=ns.length/\(n4 n ns room).xs.length<=ns.length/\(gL n ns room).xs.length<=ns.length/\(jS n ns room).xs.length<=ns.length:=by
 rcases hn with rfl | rfl
 ·exact⟨(tR ns room).le,(SY ns room).le,(SW ns room).le,(RU ns room).le⟩
 ·exact⟨(SZ ns room).le,(SX ns room).le,(SV ns room).le,(SU ns room).le⟩
def P5:("(" : Str)=S [40]:=by decide
def P4:(")" : Str)=S [41]:=by decide
def tf{n:Nat}(h:DefX P w K mg base k pF (ai kU) X)(hn:n=0\/n=1)(WL:mg "str"=none)(Ws:mg "int"=none)(c1:Vj X "_law_pick" eM)(c2:∀m,n=m+1->Vj X "_law_sum" (km m)):
  Pz X pF kU (pT n):=by
 rintro q ds xs d xs' ⟨ns,room,rfl,hr,hl,rfl,rfl,rfl⟩
 have t:=h.at'
 haveI:=h.VI
 have b1:=h.bt WL
 have b2:=h.bt Ws
 have X3:ns.dropLast.length<=200:=by rw[aW];lia
 refine bQ (fV t 3 (dz t c1 (Vw.am (ab (aa t 0) af)) ⟨ns,rfl,rfl,rfl,rfl⟩)) ?_
 have x6:∀{p1 p2 p3:Pos} {j:Nat},U1 X [.val (.Wg q),.val (.int room),.val (.int n),.val (.int (aR ns)),.un,.un,.un] (.BinOp (.Name "_law_x" p1) .Mod (.Constant (.int 6) j p2) p3) (.int (aR ns%6)):=br (aa t 3) ah (by decide)
 have z3:∃m,ia n=nv n m/\∀r,n=r+1->m=jS r:=by
  cases n with
  |zero=>exact⟨_,rfl,fun r e=>nomatch e⟩
  |succ r=>exact⟨_,rfl,fun r' e=>by cases e;rfl⟩
 obtain⟨sm,ea,es⟩:=z3
 rw[ea]
 unfold nv
 by_cases h1:0<room/\aR ns%6<2
 ·rw[au h1]
  exact wZ (i9 (U3.l (U3.eq (gw (hW (aa t 1) ah) fun _=>fg x6 ah) (by rw[ay h1.2,ay (show(0:Int)<room by lia)];rfl))) (U4.m (aC (bp (U1.eq (aD (ab (U9.Vm (bb (ab U0 af))) (ab (VR.Vm (VR.eq (v5 t (Xg.cons (k:=nk 1 0) (aD (ab ah (ab ah af))) ah .nil)) rfl)) af))) (by rw[show("x" : Str)=S [120] by decide];rfl))))))
 rw[aq h1]
 refine bQ (fb (U3.l (U3.eq (gw (hW (aa t 1) ah) fun _=>fg x6 ah) (by rw[<-ya,aH];lia))) sG) ?_
 by_cases h2:0<room/\aR ns%6<4
 ·rw[au h2]
  exact wZ (i9 (U3.l (U3.eq (gw (hW (aa t 1) ah) fun _=>fg x6 ah) (by rw[ay h2.2,ay (show(0:Int)<room by lia)];rfl))) (U4.m (aC (bp (U1.eq (aD (ab (U9.Vm (bb (ab U0 af))) (ab (VR.Vm (VR.eq (v5 t (Xg.cons (k:=nk 0 1) (aD (ab ah (ab ah af))) ah .nil)) rfl)) af))) (by rw[show("y" : Str)=S [121] by decide];rfl))))))
 rw[aq h2]
 refine bQ (fb (U3.l (U3.eq (gw (hW (aa t 1) ah) fun _=>fg x6 ah) (by rw[<-ya,aH];lia))) sG) ?_
 by_cases h3:0<n/\aR ns%6=5
 ·rw[au h3]
  obtain⟨m,rfl⟩:∃m,n=m+1:=⟨n-1,by lia⟩
  rw[es m rfl]
  have ht:=(XB.len (n:=m) (by lia) X3 room).2.2.2
  generalize eo:jS m ns.dropLast room=o at ht
  refine wZ (i9 (U3.l (U3.eq (gw (hW (aa t 2) ah) fun _=>dM x6 ah) (by rw[ay h3.2,ay (show(0:Int)<((m+1:Nat):Int) by lia)];rfl))) (bQ (jg t (dz (d:=oD o) t (c2 m rfl) (Vw.am (ab (aa t 0) (ab (aa t 1) (ab (U1.eq (iw (aa t 2) ah) (show D.int (((m+1:Nat):Int)-1)=.int m by congr 1;lia)) af)))) ⟨ns.dropLast,room,rfl,hr,X3,rfl,by rw[eo],by rw[eo]⟩) (gC t (bu (bf t 4) (bu (bf t 5) dR)))) ?_))
  refine U4.m (aC (bp (U1.eq (aD (ab (U9.Vm (c9 (U9.Vm (c9 (U9.Vm (bb (ab U0 af))) (aa t 4) ?_)) (U9.Vm (bb (ab U0 af))) ?_)) (ab (aa t 5) af))) ?_)))
  ·rw[aY];exact HF (by simp;lia)
  ·rw[ac,aY];exact HF (by simp;lia)
  ·unfold oD
   rw[P5,P4]
   congr 2
   show _=D.lst (D.str (S [40])::aO (o.tk++[[41]]))
   rw[dg];rfl
 rw[aq h3]
 refine bQ (fb (U3.l (U3.eq (gw (hW (aa t 2) ah) fun _=>dM x6 ah) (by rw[<-ya,aH];lia))) sG) ?_
 obtain⟨g1,g2⟩:=pY n (aR ns)
 have gi:fN n (aR ns)<1000:=by split at g2<;>lia
 have hx6:∀{p1 p2 p3:Pos} {j:Nat},U1 X [.val (.Wg q),.val (.int room),.val (.int n),.val (.int (aR ns)),.un,.un,.un] (.BinOp (.Name "_law_x" p1) .FloorDiv (.Constant (.int 6) j p2) p3) (.int (aR ns / 6)):=hJ t (aa t 3) ah (by decide)
 refine bQ (Vy.m (bS (d:=.int (fN n (aR ns))) t 6 (cb (U9.toQ (bb (ab (br hx6 ah (by decide)) (ab (br hx6 ah (by decide)) (ab (br (j:=if 0<n then 1000 else 10) hx6 (cb (U9.toQ (bb (ab ah (ab ah af)))) (Bs t b2 (Nk (aa t 2) ah)) ?_) (by split<;>decide)) (ab ah af)))))) (br (hJ t (aa t 3) ah (by decide)) ah (by decide)) ?_))) ?_
 ·by_cases z:0<n
  ·rw[au z,ay (show(0:Int)<n by lia)];rfl
  ·rw[aq z,ak (show ¬(0:Int)<n by lia)];rfl
 ·exact BY (xs:=[aR ns / 6%10,aR ns / 6%10,aR ns / 6%(if 0<n then 1000 else 10),0]) (by lia) (by show _<4;lia)
 generalize fN n (aR ns)=sz0 at g1 gi
 obtain⟨z,rfl⟩:=Sa g1
 refine U4.m (aC (bp (U1.eq (aD (ab (U9.Vm (bb (ab (FV t b1 (aa t 6) (M9 (by lia))) af))) (ab (VR.Vm (VR.eq (v5 t (Xg.cons (k:=nk 0 0) (aD (ab ah (ab ah af))) (aa t 6) .nil)) rfl)) af))) ?_)))
 rw[Ox];rfl
def ue{o c:bN}:∀{ts:List bN},(∀u∈ts,u≠o/\u≠c)->n8 o c ts=0
 |[],_=>rfl
 |u::ts,h=>by
  have:=h u (by simp)
  rw[n8,ue fun v hv=>h v (by simp[hv]),ak (fun z=>this.1 (dB z)),ak (fun z=>this.2 (dB z))]
  rfl
def UI(u:bN):Prop:=VQ u\/∃c,u=[c]/\(c=40\/c=41\/c=42\/c=43\/c=45\/c=94)
def Yo(u:bN):Prop:=(∀x∈u,x<128)/\(u≠[91]/\u≠[93])/\UI u
def PD(R:tF):Prop:=∀tk st,R tk st->∀u∈tk,Yo u
def z8{c:Nat}(h:c=40\/c=41\/c=42\/c=43\/c=45\/c=94):Yo [c]:=⟨fun x hx=>by rw[aE.mp hx];lia,⟨fun e=>by cases e;lia,fun e=>by cases e;lia⟩,.inr ⟨c,rfl,h⟩⟩
def NL:Yo [94]:=z8 (by decide)
def E6(h:VQ u):Yo u:=by
 have key:∀c,c=91\/c=93->u≠[c]:=fun c hc e=>by
  subst e
  rcases h with h | h | h
  ·have:=h.2.1 _ (aE.mpr rfl);lia
  ·cases h;lia
  ·cases h;lia
 exact⟨h.lt,⟨key 91 (by decide),key 93 (by decide)⟩,.inl h⟩
def Lg{d:Nat}(h:d<=9):VQ [48+d]:=.inl ⟨by simp,fun c hc=>by simp at hc;lia,by simp,fun e=>by simp at e;simp[e]⟩
def Qf(hA:PD R){f:xW}(h:kh R f):∀u∈K2 f,Yo u:=fun u hu=>by
 rcases List.mem_append.mp hu with hu | hu
 ·exact hA _ _ h.2.1 u hu
 ·obtain⟨m,a,b,po⟩:=f
  cases po with
  |none=>cases hu
  |some d=>
   have:=h.2.2 d rfl
   simp[yg] at hu
   rcases hu with rfl | rfl
   ·exact NL
   ·exact E6 (Lg this)
def MM(hA:PD R){f:xW}(h:kh R f):∀u∈vg f,Yo u:=fun u hu=>by
 rcases List.mem_append.mp hu with hu | hu
 ·rw[(List.mem_replicate.mp hu).2];exact z8 (by decide)
 ·exact Qf hA h u hu
def HM(hA:PD R):∀{fs:List xW},(∀f∈fs,kh R f)->∀u∈ik fs,Yo u
 |[],_,u,hu=>nomatch hu
 |f::fs,h,u,hu=>by
  rcases aM.mp hu with rfl | hu
  ·exact z8 (by decide)
  ·rcases List.mem_append.mp hu with hu | hu
   ·exact MM hA (h f (by simp)) u hu
   ·exact HM hA (fun g hg=>h g (by simp[hg])) u hu
def ML(hA:PD R){p:B3}(h:nz R p):∀u∈we p,Yo u:=fun u hu=>by
 rcases List.mem_append.mp hu with hu | hu
 ·exact MM hA h.1 u hu
 ·exact HM hA h.2 u hu
def HL(hA:PD R):∀{qs:List (Bool×B3)},(∀q∈qs,nz R q.2)->∀u∈ge qs,Yo u
 |[],_,u,hu=>nomatch hu
 |q::qs,h,u,hu=>by
  rcases aM.mp hu with rfl | hu
  ·unfold xV;split<;>exact z8 (by decide)
  ·rcases List.mem_append.mp hu with hu | hu
   ·exact ML hA (h q (by simp)) u hu
   ·exact HL hA (fun g hg=>h g (by simp[hg])) u hu
def HK(hA:PD R)(h:Vp R T):∀u∈jr T,Yo u:=fun u hu=>by
 rcases List.mem_append.mp hu with hu | hu
 ·exact ML hA h.1 u hu
 ·exact HL hA h.2 u hu
def wc:∀n,PD (AR n)
 |0,_,_,h,_,_=>h.elim
 |n+1,tk,st,h,u,hu=>by
  rcases h with⟨v,hv,rfl,rfl⟩ | ⟨T,hT,rfl,rfl⟩
  ·rw[aE.mp hu];exact E6 hv
  ·rcases aM.mp hu with rfl | hu
   ·exact z8 (by decide)
   ·rcases List.mem_append.mp hu with hu | hu
    ·exact HK (wc n) hT u hu
    ·rw[aE.mp hu];exact z8 (by decide)
abbrev dc(tk:TK):Int:=n8 [40] [41] tk
def q0:∀a b:TK,dc (a++b)=dc a+dc b
 |[],b=>by show dc b=0+dc b;lia
 |u::a,b=>by
  show dc (a++b)+_=dc a+_+dc b
  rw[q0 a b];lia
def W9(h:Nat)(tk:TK):Prop:=dc tk=0/\∀i,dc (tk.take i)<=h
def W9.nil(h:Nat):W9 h []:=⟨rfl,fun i=>by rw[List.take_nil];show(0:Int)<=_;lia⟩
def W9.app(ha:W9 h a)(hb:W9 h b):W9 h (a++b):=⟨by rw[q0,ha.1,hb.1];rfl,fun i=>by
 rw[jc,q0]
 by_cases z:i<=a.length
 ·rw[show i-a.length=0 by lia,eY]
  have:=ha.2 i
  show _+(0:Int)<=_
  lia
 ·rw[bP (by lia),ha.1]
  have:=hb.2 (i-a.length)
  lia⟩
def W9.one{u:bN}(h:Nat)(h1:u≠[40])(h2:u≠[41]):W9 h [u]:=by
 have e:dc [u]=0:=by
  show(0:Int)+(b2i (decide (S u=S [40]))-b2i (decide (S u=S [41])))=0
  rw[ak (fun z=>h1 (dB z)),ak (fun z=>h2 (dB z))];rfl
 refine⟨e,fun i=>?_⟩
 cases i with
 |zero=>rw[eY];show(0:Int)<=_;lia
 |succ i=>rw[bP (by simp),e];lia
def W9.par(ha:W9 h a):W9 (h+1) ([40]::(a++[[41]])):=by
 have ZH:dc [[40]]=1:=by decide
 have e41:dc [[41]]=-1:=by decide
 refine⟨?_,fun i=>?_⟩
 ·show dc ([[40]]++(a++[[41]]))=0
  rw[q0,q0,ha.1,ZH,e41];rfl
 ·cases i with
  |zero=>rw[eY];show(0:Int)<=_;lia
  |succ i=>
   show dc ([[40]]++(a++[[41]]).take i)<=_
   rw[q0,ZH,jc,q0]
   have h1:=ha.2 i
   by_cases z:i-a.length=0
   ·rw[z,eY]
    show 1+(_+(0:Int))<=_
    lia
   ·rw[bP (show a.length<=i by lia),ha.1,bP (by simp;lia),e41]
    lia
def P2(h:Nat)(R:tF):Prop:=∀tk st,R tk st->W9 h tk
def Nx(hA:P2 h R){f:xW}(hf:kh R f):W9 h (vg f):=by
 obtain⟨m,a,b,po⟩:=f
 have hm:∀m,W9 h (List.replicate m [45]):=fun m=>by
  induction m with
  |zero=>exact .nil h
  |succ m ih=>exact W9.app (.one h (by decide) (by decide)) ih
 refine(hm m).app ((hA _ _ hf.2.1).app ?_)
 cases po with
 |none=>exact .nil h
 |some d=>exact W9.app (.one h (by decide) (by decide)) (.one h (fun e=>by injection e with e1 _;lia) (fun e=>by injection e with e1 _;lia))
def Kl(hA:P2 h R):∀{fs:List xW},(∀f∈fs,kh R f)->W9 h (ik fs)
 |[],_=>.nil h
 |f::fs,hf=>W9.app (.one h (by decide) (by decide)) ((Nx hA (hf f (by simp))).app (Kl hA fun g hg=>hf g (by simp[hg])))
def Nw(hA:P2 h R){p:B3}(hp:nz R p):W9 h (we p):=(Nx hA hp.1).app (Kl hA hp.2)
def Kk(hA:P2 h R):∀{qs:List (Bool×B3)},(∀q∈qs,nz R q.2)->W9 h (ge qs)
 |[],_=>.nil h
 |q::qs,hq=>W9.app (.one h (by unfold xV;split<;>decide) (by unfold xV;split<;>decide)) ((Nw hA (hq q (by simp))).app (Kk hA fun g hg=>hq g (by simp[hg])))
def Nv(hA:P2 h R)(hT:Vp R T):W9 h (jr T):=(Nw hA hT.1).app (Kk hA hT.2)
def Km:∀n,P2 (n-1) (AR n)
 |0,_,_,h=>h.elim
 |n+1,tk,st,h=>by
  rcases h with⟨v,hv,rfl,rfl⟩ | ⟨T,hT,rfl,rfl⟩
  ·exact .one _ (AU hv (by decide)) (AU hv (by decide))
  ·cases n with
   |zero=>exact absurd hT.1.1.2.1 (fun z=>z)
   |succ m=>exact(Nv (Km (m+1)) hT).par
def Vp.mono(h:∀tk st,R tk st->R' tk st)(hT:Vp R T):Vp R' T:=by
 have hf:∀{f:xW},kh R f->kh R' f:=fun z=>⟨z.1,h _ _ z.2.1,z.2.2⟩
 have hp:∀{p:B3},nz R p->nz R' p:=fun z=>⟨hf z.1,fun f Z8=>hf (z.2 f Z8)⟩
 exact⟨hp hT.1,fun q hq=>hp (hT.2 q hq)⟩
def Gu:∀n tk st,AR n tk st->AR (n+1) tk st
 |0,_,_,h=>h.elim
 |n+1,tk,st,h=>by
  rcases h with h | ⟨T,hT,e1,e2⟩
  ·exact .inl h
  ·exact .inr ⟨T,hT.mono (Gu n),e1,e2⟩
def NB{n m:Nat}(h:n<=m):∀tk st,AR n tk st->AR m tk st:=by
 induction m with
 |zero=>intro tk st z;rw[show n=0 by lia] at z;exact z
 |succ m ih=>
  by_cases e:n=m+1
  ·subst e;exact fun _ _ z=>z
  ·exact fun tk st z=>Gu m tk st (ih (by lia) tk st z)
def PX(R:tF):Prop:=∀tk st,R tk st->st.length<=tk.length
def MQ(hA:PX R){f:xW}(h:kh R f):(Fg f).length<=(vg f).length:=by
 obtain⟨m,a,b,po⟩:=f
 have:=hA _ _ h.2.1
 have h1:(yj m).length<=m:=by unfold yj;split<;>simp;lia
 have h2:(yh po).length<=(yg po).length:=by cases po<;>simp[yh,yg]
 show((b++yh po)++yj m).length<=(List.replicate m [45]++(a++yg po)).length
 have h3:b.length<=a.length:=this
 simp only[ac,dF]
 lia
def HU(hA:PX R):∀{fs:List xW},(∀f∈fs,kh R f)->(la fs).length<=(ik fs).length
 |[],_=>aj _
 |f::fs,h=>by
  have a:=MQ hA (h f (by simp))
  have b:=HU hA (fs:=fs) fun g hg=>h g (by simp[hg])
  show(Fg f++([42]::la fs)).length<=([42]::(vg f++ik fs)).length
  simp only[ac,bc]
  lia
def MP(hA:PX R){p:B3}(h:nz R p):(DA p).length<=(we p).length:=by
 have a:=MQ hA h.1
 have b:=HU hA h.2
 unfold DA we
 simp only[ac]
 lia
def HS(hA:PX R):∀{qs:List (Bool×B3)},(∀q∈qs,nz R q.2)->(ju qs).length<=(ge qs).length
 |[],_=>aj _
 |q::qs,h=>by
  have a:=MP hA (h q (by simp))
  have b:=HS hA (qs:=qs) fun g hg=>h g (by simp[hg])
  show(DA q.2++(xV q.1::ju qs)).length<=(xV q.1::(we q.2++ge qs)).length
  simp only[ac,bc]
  lia
def HR(hA:PX R)(h:Vp R T):(rJ T).length<=(jr T).length:=by
 have a:=MP hA h.1
 have b:=HS hA h.2
 unfold rJ jr
 simp only[ac]
 lia
def DM:∀n,PX (AR n)
 |0,_,_,h=>h.elim
 |n+1,tk,st,h=>by
  rcases h with⟨v,hv,rfl,rfl⟩ | ⟨T,hT,rfl,rfl⟩
  ·exact aj _
  ·have:=HR (DM n) hT
   simp;lia
def QH(x:Int):k7 (([1,1,1,2,0,3]:aS).map D.int) (x%6)=some (.int (tP x)):=by
 rw[BY (by lia) (by show _<6;lia)]
 unfold tP
 have h:(x%6).toNat<6:=by lia
 generalize (x%6).toNat=n at h
 match n,h with
 |0,_=>rfl
 |1,_=>rfl
 |2,_=>rfl
 |3,_=>rfl
 |4,_=>rfl
 |5,_=>rfl
 |n+6,h=>lia
def QT(x:Int):k7 (([0,0,0,0,1,1,2,3]:aS).map D.int) (x / 48%8)=some (.int (A7 x)):=by
 rw[BY (by lia) (by show _<8;lia)]
 unfold A7
 have h:(x / 48%8).toNat<8:=by lia
 generalize (x / 48%8).toNat=n at h
 match n,h with
 |0,_=>rfl
 |1,_=>rfl
 |2,_=>rfl
 |3,_=>rfl
 |4,_=>rfl
 |5,_=>rfl
 |6,_=>rfl
 |7,_=>rfl
 |n+8,h=>lia
def S4{p:Nat}(h:p<=9):(toString ((p:Nat):Int):Str)=S [48+p]:=by
 have:∀p:Nat,p<10->(toString ((p:Nat):Int):Str)=S [48+p]:=by decide
 exact this p (by lia)
def S7{n:Nat}(h:n<=9):((n:Nat):Int).natAbs.log2<1920:=M9 (by lia)
def Ai(m:Nat):(List.replicate m [D.str "-"]).flatten=aO (List.replicate m [45]):=by
 rw[show("-" : Str)=S [45] by decide]
 induction m with
 |zero=>rfl
 |succ m ih=>rw[aA,bj,ih,aA];rfl
def Kq{n:Nat}(hn:n=0\/n=1)(ns:aS)(room:Nat)(hr:room<=6):V0 (ia n ns room).kv/\V9 (room+1) (ia n ns room).kv/\il (ia n ns room).kv<=1594323/\∃u us,(ia n ns room).tk=u::us/\∀x∈u,x<128:=by
 rcases hn with rfl | rfl
 ·obtain⟨hv,ha,_⟩:=XG ns room (by lia)
  obtain⟨u,us,e,_⟩:=LX _ _ _ ha
  exact⟨hv.ko,hv.kd,ar hv.nb (by decide),u,us,e,(wc _ _ _ ha u (by rw[e];simp)).1⟩
 ·obtain⟨hv,ha,_⟩:=Uk ns room (by lia)
  obtain⟨u,us,e,_⟩:=LX _ _ _ ha
  exact⟨hv.ko,hv.kd,hv.nb,u,us,e,(wc _ _ _ ha u (by rw[e];simp)).1⟩
def pc{n:Nat}(h:DefX P w K mg base k lz (ai iQ) X)(hn:n=0\/n=1)(Vn:mg "range"=none)(m_min:mg "min"=none)(XM:mg "max"=none)(WL:mg "str"=none)(c1:Vj X "_law_pick" eM)(c2:Vj X "_law_atom" (pT n))(c3:EV.V8 X "_law_product" ig)(c4:EV.V8 X "_law_add" kr):
  Pz X lz iQ (lG n):=by
 rintro q ds xs d xs' ⟨ns,room,rfl,hr,hl,rfl,rfl,rfl⟩
 have t:=h.at'
 haveI:=h.VI
 have b1:=h.bt Vn
 have b2:=h.bt m_min
 have b3:=h.bt XM
 have b4:=h.bt WL
 have X3:ns.dropLast.length<=200:=by rw[aW];lia
 refine bQ (fV t 3 (dz t c1 (Vw.am (ab (aa t 0) af)) ⟨ns,rfl,rfl,rfl,rfl⟩)) ?_
 unfold n4 Ep
 dsimp only
 have hp3:=M0 (aR ns)
 have hm3:=Jb (aR ns)
 have hpw:=QH (aR ns)
 have hmn:=QT (aR ns)
 generalize aR ns=x at hp3 hm3 hpw hmn
 have hq6:room / max 1 (tP x)<=6:=ar (Nat.div_le_self _ _) hr
 have hqd:(room:Int) / max 1 (tP x:Int)=((room / max 1 (tP x):Nat):Int):=by rw[Int.natCast_ediv];congr 1;lia
 have Zk:tP x*(room / max 1 (tP x))<=room:=by
  by_cases h0:tP x=0
  ·rw[h0];lia
  ·rw[show max 1 (tP x)=tP x by lia];exact Nat.mul_div_le _ _
 generalize room / max 1 (tP x)=rq at hq6 hqd Zk
 obtain⟨k1,k2,k3,u,us,eu,hu⟩:=Kq hn ns.dropLast rq hq6
 have ht:=(XB.len hn X3 rq).1
 refine bQ (Vy.m (bS t 4 (cb (U9.toQ (bb (ab ah (ab ah (ab ah (ab ah (ab ah (ab ah af)))))))) (br (aa t 3) ah (by decide)) hpw))) ?_
 refine bQ (ρ1:=[.val (.Wg q),.val (.int room),.val (.int n),.val (.int x),.val (.int (tP x)),.val (.lst (aO (ia n ns.dropLast rq).tk)),.val (.Vi (ia n ns.dropLast rq).kv),.un,.un,.un]) (jg t (dz t c2 (Vw.am (ab (aa t 0) (ab (U1.eq (hJ t (aa t 1) (Br t b3 ah (aa t 4)) (by lia)) (by rw[hqd])) (ab (aa t 2) af)))) ⟨ns.dropLast,rq,rfl,hq6,X3,rfl,rfl,rfl⟩) (gC t (bu (bf t 5) (bu (bf t 6) dR)))) ?_
 generalize ia n ns.dropLast rq=o at k1 k2 k3 eu ht
 refine U4.m ?_
 have hpo:=IB o x
 have hpof:uG o x*rq<=room:=ar (B9 _ hpo) Zk
 have ZH:decide (S u=("(" : Str))=decide (o.tk.head?=some [40]):=by
  rw[eu,P5]
  exact decide_eq_decide.mpr ⟨fun e=>by rw[dB e];rfl,fun e=>by rw[bx e]⟩
 refine ax (ρ':=[.val (.Wg q),.val (.int room),.val (.int n),.val (.int x),.val (.int (uG o x)),.val (.lst (aO o.tk)),.val (.Vi o.kv),.un,.un,.un]) ?_ ?_
 ·by_cases hh:o.tk.head?=some [40]
  ·refine e9 (U3.eq (b0 t (cb (U1.ql (aa t 5)) ah (ej (by rw[eu];rfl))) U0 (fv hu)) (by rw[ZH,ay hh])) (aC (Vy.eq (bS t 4 (Mb t b2 ah (aa t 4))) ?_))
   have e:min (2:Int) (tP x:Int)=((uG o x:Nat):Int):=by unfold uG;rw[au hh];lia
   rw[e];rfl
  ·refine Vy.eq (cA (U3.eq (b0 t (cb (U1.ql (aa t 5)) ah (ej (by rw[eu];rfl))) U0 (fv hu)) (by rw[ZH,ak hh])) bR) ?_
   have e:uG o x=tP x:=by unfold uG;rw[aq hh]
   rw[e]
 generalize uG o x=p at hpo hpof
 have hp9:p<=3:=by lia
 have kp:=fun j=>wJ k1 j
 have pin:=fun j=>A0 k2 j
 have okl:=Bh k1 k2
 have okl2:o.kv.length<=1000:=ar okl (ar (dP (show rq+1<=7 by lia) (show rq+1<=7 by lia)) (by decide))
 refine ax (bS t 7 (VR.Vm (VR.eq (v5 t (Xg.cons (k:=nk 0 0) (aD (ab ah (ab ah af))) ah .nil)) rfl))) ?_
 refine ax (ρ':=[.val (.Wg q),.val (.int room),.val (.int n),.val (.int x),.val (.int p),.val (.lst (aO o.tk)),.val (.Vi o.kv),.val (.Vi (jD o.kv p)),.un,.un]) (i6 t (fj t b1 (aa t 4) (by lia) (by lia)) (Vt.VD (fun j=>[.val (.Wg q),.val (.int room),.val (.int n),.val (.int x),.val (.int p),.val (.lst (aO o.tk)),.val (.Vi o.kv),.val (.Vi (jD o.kv j)),.un,.un]) (fun j d e=>?_) rfl ?_)) ?_
 ·obtain⟨hj,rfl⟩:=ir e
  have hj':j<p:=by lia
  have hjl:(jD o.kv j).length<=1000:=by
   have h1:=Bh (kp j) (pin j)
   have h2:j*rq<=2*6:=dP (by lia) hq6
   exact ar h1 (ar (dP (show j*rq+1<=13 by lia) (show j*rq+1<=13 by lia)) (by decide))
  exact⟨_,bf t 8,U4.weak (aC (bS t 7 (VR.Vm (sX t c3 (ab (aa t 7) (ab (aa t 6) af)) ⟨jD o.kv j,o.kv,rfl,kp j,k1,hjl,okl2,I0 (ar k3 (by decide)),rfl⟩)))) (.keep (.keep (.keep (.keep (.keep (.keep (.keep (.keep (.forget (.keep .nil))))))))))⟩
 ·have e:(dH 0 (p:Int).toNat).length=p:=by simp[dH]
  rw[e]
 have Y0:V9 10 (jD o.kv p):=fun z hz=>let ⟨i,k,e,a,b⟩:=pin p z hz;⟨i,k,e,by lia,by lia⟩
 refine ax (ρ':=[.val (.Wg q),.val (.int room),.val (.int n),.val (.int x),.val (.int p),.val (.lst (aO (if p≠1\/x / 6%8=1 then o.tk++[[94],[48+p]] else o.tk))),.val (.Vi o.kv),.val (.Vi (jD o.kv p)),.un,.un]) ?_ ?_
 ·have tv:(!decide ((p:Int)=1)||decide (x / 6%8=1))=decide (p≠1\/x / 6%8=1):=by
   by_cases z:p=1
   ·subst z;by_cases y:x / 6%8=1<;>simp[y]
   ·have:¬((p:Int)=1):=by lia
    simp[z,this]
  by_cases hc:p≠1\/x / 6%8=1
  ·rw[au hc]
   refine e9 (U3.eq (ji (Bw (aa t 4) ah) fun _=>dM (br (hJ t (aa t 3) ah (by decide)) ah (by decide)) ah) (by rw[tv,ay hc])) (ax (ρ':=[.val (.Wg q),.val (.int room),.val (.int n),.val (.int x),.val (.int p),.own (aO (o.tk++[[94],[48+p]])),.val (.Vi o.kv),.val (.Vi (jD o.kv p)),.un,.un]) (Vy.eq (jV t 5 (c9 (aa t 5) (U9.Vm (bb (ab U0 (ab (FV t b4 (aa t 4) (S7 (by lia))) af)))) (by rw[aY];exact HF (by simp;lia)))) ?_) (gJ 5 rfl bR))
   rw[S4 (show p<=9 by lia),show("^" : Str)=S [94] by decide,dg];rfl
  ·rw[aq hc]
   exact cA (U3.eq (ji (Bw (aa t 4) ah) fun _=>dM (br (hJ t (aa t 3) ah (by decide)) ah (by decide)) ah) (by rw[tv,ak hc])) bR
 have htl:(if p≠1\/x / 6%8=1 then o.tk++[[94],[48+p]] else o.tk).length<=622:=by
  split
  ·simp;lia
  ·lia
 generalize (if p≠1\/x / 6%8=1 then o.tk++[[94],[48+p]] else o.tk)=T at htl
 refine ax (bS t 9 (cb (U9.toQ (bb (ab ah (ab ah (ab ah (ab ah (ab ah (ab ah (ab ah (ab ah af)))))))))) (br (hJ t (aa t 3) ah (by decide)) ah (by decide)) hmn)) ?_
 generalize A7 x=mm at hm3
 refine ax (ρ':=[.val (.Wg q),.val (.int room),.val (.int n),.val (.int x),.val (.int p),.val (.lst (aO T)),.val (.Vi o.kv),.val (.Vi (if mm%2=1 then eB [] (jD o.kv p) (-1) else jD o.kv p)),.un,.val (.int mm)]) ?_ (aC (bp (U1.eq (aD (ab (U9.Vm (c9 (U9.Vm (ud (U9.Vm (bb (ab U0 af))) (aa t 9) (by lia) (by lia) ?_)) (aa t 5) ?_)) (ab (aa t 7) af))) ?_)))
 ·by_cases hm:mm%2=1
  ·rw[au hm]
   exact e9 (U3.eq (dM (br (aa t 9) ah (by decide)) ah) (by rw[bh];lia)) (aC (bS t 7 (VR.Vm (sX t c4 (ab (VR.Vm Ez) (ab (aa t 7) (ab (gA ah) af))) ⟨[],jD o.kv p,-1,rfl,.nil,(fun z hz=>nomatch hz),kp p,Y0,.inr rfl,rfl⟩))))
  ·rw[aq hm]
   exact cA (U3.eq (dM (br (aa t 9) ah (by decide)) ah) (by rw[aH];lia)) bR
 ·rw[ba];exact HF (by simp;lia)
 ·rw[ba,Ai,aY,aY];exact HF (by simp;lia)
 ·rw[ba,Ai,<-dg];rfl
def C1{n:Nat}(hn:n=0\/n=1)(ns:aS)(room:Nat)(hr:room<=6):V0 (n4 n ns room).kv/\V9 (room+1) (n4 n ns room).kv/\il (n4 n ns room).kv<=2541865828329:=by
 rcases hn with rfl | rfl
 ·obtain⟨hv,_⟩:=Uj ns room (by lia)
  exact⟨hv.ko,hv.kd,ar hv.nb (by decide)⟩
 ·obtain⟨hv,_⟩:=Ui ns room (by lia)
  exact⟨hv.ko,hv.kd,hv.nb⟩
def wU{n:Nat}(hn:n=0\/n=1)(ns:aS)(room:Nat)(hr:room<=6):V0 (gL n ns room).kv/\V9 (room+1) (gL n ns room).kv:=by
 rcases hn with rfl | rfl
 ·obtain⟨hv,_⟩:=Ug ns room (by lia)
  exact⟨hv.ko,hv.kd⟩
 ·obtain⟨hv,_⟩:=Uf ns room (by lia)
  exact⟨hv.ko,hv.kd⟩
def Aw{m:Nat}{kv:eG}(h:V9 (m+1) kv)(hm:m<=9):V9 10 kv:=fun z hz=>let ⟨i,k,e,a,b⟩:=h z hz;⟨i,k,e,by lia,by lia⟩
def QU{kv:eG}(h:V0 kv)(hk:V9 10 kv):kv.length<=1000:=ar (Bh h hk) (by decide)
def td{n:Nat}(h:DefX P w K mg base k pB (ai kQ) X)(hn:n=0\/n=1)(c2:Vj X "_law_factor" (lG n))(c1:Vj X "_law_pick" eM)(c3:EV.V8 X "_law_product" ig):
  Pz X pB kQ (pQ n):=by
 rintro q ds xs d xs' ⟨ns,room,rfl,hr,hl,rfl,rfl,rfl⟩
 have t:=h.at'
 haveI:=h.VI
 have X3:ns.dropLast.length<=200:=by rw[aW];lia
 have hfr:aR ns%((room:Int)+1)=((L0 ns room:Nat):Int):=by unfold L0;rw[jq (x8 _ (by lia))]
 have hfl:=Nh ns room
 unfold gL DY
 refine bQ (fV t 3 (VF.eq (jF (dz t c1 (Vw.am (ab (aa t 0) af)) ⟨ns,rfl,rfl,rfl,rfl⟩) (c8 (aa t 1) ah) (by lia)) (by rw[hfr]))) ?_
 generalize L0 ns room=a at hfl
 have ht:=(XB.len hn X3 a).2.1
 have hx:=(XB.xs hn ns.dropLast a).2.1
 obtain⟨k1,k2,k3⟩:=C1 hn ns.dropLast a (by lia)
 refine bQ (jg t (dz t c2 (Vw.am (ab (aa t 0) (ab (aa t 3) (ab (aa t 2) af)))) ⟨ns.dropLast,a,rfl,by lia,X3,rfl,rfl,rfl⟩) (gC t (bu (bf t 4) (bu (bf t 5) dR)))) ?_
 generalize n4 n ns.dropLast a=o at ht hx k1 k2 k3
 have hol:o.xs.length<=200:=by lia
 have hodl:o.xs.dropLast.length<=200:=by rw[aW];lia
 by_cases hy:0<aR o.xs%3
 ·rw[au hy]
  have ht2:=(XB.len hn hodl (room-a)).2.1
  obtain⟨l1,l2,l3⟩:=C1 hn o.xs.dropLast (room-a) (by lia)
  refine bQ (ρ1:=[.val (.Wg q),.val (.int room),.val (.int n),.val (.int a),.val (.lst (aO (o.tk++[[42]]++(n4 n o.xs.dropLast (room-a)).tk))),.val (.Vi (l4 o.kv (n4 n o.xs.dropLast (room-a)).kv)),.val (.lst (aO (n4 n o.xs.dropLast (room-a)).tk)),.val (.Vi (n4 n o.xs.dropLast (room-a)).kv)]) (Jd (Xw.eq (MK (jF (dz t c1 (Vw.am (ab (aa t 0) af)) ⟨o.xs,rfl,rfl,rfl,rfl⟩) ah (by decide)) ah) (ay hy)) (bQ (jg t (dz t c2 (Vw.am (ab (aa t 0) (ab (U1.eq (iw (aa t 1) (aa t 3)) (show D.int ((room:Int)-(a:Int))=.int ((room-a:Nat):Int) by congr 1;lia)) (ab (aa t 2) af)))) ⟨o.xs.dropLast,room-a,rfl,by lia,hodl,rfl,rfl,rfl⟩) (gC t (bu (bf t 6) (bu (bf t 7) dR)))) (U4.m ?_))) (U4.m (aC (bp (aD (ab (aa t 4) (ab (aa t 5) af))))))
  generalize n4 n o.xs.dropLast (room-a)=g at ht2 l1 l2 l3
  refine ax (ρ':=[.val (.Wg q),.val (.int room),.val (.int n),.val (.int a),.own (aO (o.tk++[[42]]++g.tk)),.val (.Vi o.kv),.val (.lst (aO g.tk)),.val (.Vi g.kv)]) (Vy.eq (jV t 4 (c9 (U9.Vm (c9 (aa t 4) (U9.Vm (bb (ab U0 af))) ?_)) (aa t 6) ?_)) ?_) (gJ 4 rfl (aC (bS t 5 (VR.Vm (sX t c3 (ab (aa t 5) (ab (aa t 7) af)) ⟨o.kv,g.kv,rfl,k1,l1,QU k1 (Aw k2 (by lia)),QU l1 (Aw l2 (by lia)),I0 (ar l3 (by decide)),rfl⟩)))))
  ·rw[aY];exact HF (by simp;lia)
  ·rw[ac,aY,aY];exact HF (by simp;lia)
  ·rw[show("*" : Str)=S [42] by decide,dg,dg];rfl
 ·rw[aq hy]
  exact bQ (Je (Xw.eq (MK (jF (dz t c1 (Vw.am (ab (aa t 0) af)) ⟨o.xs,rfl,rfl,rfl,rfl⟩) ah (by decide)) ah) (ak hy)) sG) (U4.m (aC (bp (aD (ab (aa t 4) (ab (aa t 5) af))))))
def Qy(ys:aS):k7 (([.str "+",.str "-"]:aU)) (aR ys%2)=some (.str (S (xV (AQ ys))))/\k7 (([1,-1]:aS).map D.int) (aR ys%2)=some (.int (if AQ ys then 1 else -1)):=by
 unfold AQ
 by_cases h:aR ys%2=0
 ·rw[ay h,h];exact⟨by rw[show("+" : Str)=S [43] by decide];rfl,rfl⟩
 ·rw[ak h,show aR ys%2=1 by lia];exact⟨by rw[show("-" : Str)=S [45] by decide];rfl,rfl⟩
def uy{n:Nat}{room:Nat}(hn:n=0\/n=1)(hr:room<=6){o:Ot}(k1:V0 o.kv)(k2:V9 (room+1) o.kv)(hl:o.tk.length<=620)(hx:o.xs.length<=200):∀j,V0 (iX (gL n) room o j).kv/\V9 (room+1) (iX (gL n) room o j).kv/\(iX (gL n) room o j).tk.length<=620+621*j/\(iX (gL n) room o j).xs.length<=200
 |0=>⟨k1,k2,by show o.tk.length<=_;lia,hx⟩
 |j+1=>by
  obtain⟨a,b,c,d⟩:=uy hn hr k1 k2 hl hx j
  unfold iX mv
  generalize iX (gL n) room o j=u at a b c d
  have hd:u.xs.dropLast.length<=200:=by rw[aW];lia
  obtain⟨e1,e2⟩:=wU hn u.xs.dropLast room hr
  have e3:=(XB.len hn hd room).2.2.1
  have e4:=(XB.xs hn u.xs.dropLast room).2.2.1
  exact⟨(kD _ (fun _ _=>0) _ _ a e1.keys).1,pX _ _ _ b e2,by simp;lia,by show(gL n u.xs.dropLast room).xs.length<=200;lia⟩
def uN{n:Nat}(h:DefX P w K mg base k rD (ai mG) X)(hn:n=0\/n=1)(Vn:mg "range"=none)(c2:Vj X "_law_prod" (pQ n))(c3:EV.V8 X "_law_add" kr)(c1:Vj X "_law_pick" eM):
  Pz X rD mG (km n):=by
 rintro q ds xs d xs' ⟨ns,room,rfl,hr,hl,rfl,rfl,rfl⟩
 have t:=h.at'
 haveI:=h.VI
 have b1:=h.bt Vn
 unfold jS DL
 have ht:=(XB.len hn hl room).2.2.1
 have hx:=(XB.xs hn ns room).2.2.1
 obtain⟨k1,k2⟩:=wU hn ns room hr
 refine bQ (jg t (dz t c2 (Vw.am (ab (aa t 0) (ab (aa t 1) (ab (aa t 2) af)))) ⟨ns,room,rfl,hr,hl,rfl,rfl,rfl⟩) (gC t (bu (bf t 3) (bu (bf t 4) dR)))) ?_
 generalize gL n ns room=o at ht hx k1 k2
 have ho:o.xs.dropLast.length<=200:=by rw[aW];lia
 have fc:=uy hn hr (o:={ o with xs:=o.xs.dropLast }) k1 k2 ht ho
 have h3:(aR o.xs%3).toNat<=2:=by lia
 refine bQ (OB t (Ew t b1 (jF (dz t c1 (Vw.am (ab (aa t 0) af)) ⟨o.xs,rfl,rfl,rfl,rfl⟩) ah (by decide)) (by lia) (by lia)) (Wm.VD (fun j=>[.val (.Wg q),.val (.int room),.val (.int n),.val (.lst (aO (iX (gL n) room { o with xs:=o.xs.dropLast } j).tk)),.val (.Vi (iX (gL n) room { o with xs:=o.xs.dropLast } j).kv),.un,.un,.un,.un]) (fun j=>iL (iX (gL n) room { o with xs:=o.xs.dropLast } j).xs) (fun j d e=>?_) rfl rfl (by rw[show(dH 0 (aR o.xs%3).toNat).length=(aR o.xs%3).toNat by simp[dH]]) rfl)) ?_
 ·obtain⟨hj,rfl⟩:=ir e
  have hj2:j<2:=by lia
  obtain⟨a,b,c,dd⟩:=fc j
  rw[show iX (gL n) room { o with xs:=o.xs.dropLast } (j+1)=mv (gL n) room (iX (gL n) room { o with xs:=o.xs.dropLast } j) from rfl]
  generalize iX (gL n) room { o with xs:=o.xs.dropLast } j=u at a b c dd
  unfold mv
  have hd:u.xs.dropLast.length<=200:=by rw[aW];lia
  obtain⟨e1,e2⟩:=wU hn u.xs.dropLast room hr
  have e3:=(XB.len hn hd room).2.2.1
  obtain⟨s1,s2⟩:=Qy u.xs
  refine⟨_,bf t 5,Xs.weak (ρ1:=[.val (.Wg q),.val (.int room),.val (.int n),.val (.lst (aO (u.tk++[xV (AQ u.xs)]++(gL n u.xs.dropLast room).tk))),.val (.Vi (eB u.kv (gL n u.xs.dropLast room).kv (if AQ u.xs then 1 else -1))),.val (.int j),.val (.int (aR u.xs%2)),.val (.lst (aO (gL n u.xs.dropLast room).tk)),.val (.Vi (gL n u.xs.dropLast room).kv)]) (bQ (fV t 6 (jF (dz t c1 (Vw.am (ab (aa t 0) af)) ⟨u.xs,rfl,rfl,rfl,rfl⟩) ah (by decide))) (bQ (jg t (dz t c2 (Vw.am (ab (aa t 0) (ab (aa t 1) (ab (aa t 2) af)))) ⟨u.xs.dropLast,room,rfl,hr,hd,rfl,rfl,rfl⟩) (gC t (bu (bf t 7) (bu (bf t 8) dR)))) (U4.m ?_))) (.keep (.keep (.keep (.keep (.keep (.forget (.forget (.forget (.forget .nil)))))))))⟩
  generalize gL n u.xs.dropLast room=g at e1 e2 e3
  refine ax (ρ':=[.val (.Wg q),.val (.int room),.val (.int n),.own (aO (u.tk++[xV (AQ u.xs)]++g.tk)),.val (.Vi u.kv),.val (.int j),.val (.int (aR u.xs%2)),.val (.lst (aO g.tk)),.val (.Vi g.kv)]) (Vy.eq (jV t 3 (c9 (U9.Vm (c9 (aa t 3) (U9.Vm (bb (ab (cb (U9.toQ (bb (ab U0 (ab U0 af)))) (aa t 6) s1) af))) ?_)) (aa t 7) ?_)) ?_) (gJ 3 rfl (aC (bS t 4 (VR.Vm (sX t c3 (ab (aa t 4) (ab (aa t 8) (ab (cb (U9.toQ (bb (ab ah (ab (gA ah) af)))) (aa t 6) s2) af))) ⟨u.kv,g.kv,_,rfl,a,Aw b (by lia),e1,Aw e2 (by lia),by cases AQ u.xs<;>simp,rfl⟩)))))
  ·rw[aY];exact HF (by simp;lia)
  ·rw[ac,aY,aY];exact HF (by simp;lia)
  ·rw[dg,dg];rfl
 ·rw[show(dH 0 (aR o.xs%3).toNat).length=(aR o.xs%3).toNat by simp[dH]]
  exact U4.m (aC (bp (aD (ab (aa t 3) (ab (aa t 4) af)))))
def SG:Str := "abcdefghijklmnopqrstuvwxyz0123456789"
def S9(xs:aS):bN:=([[32],[],[],[32,32]]:TK).getD (xs.getD 0 0%4).toNat []
def Ki(xs:aS)(k:Nat):bN:=([[],[32],[],[32,32,32]]:TK).getD (xs.getD (k%12) 0 / 4%4).toNat []
def NK(xs:aS):bN:=([[],[32],[],[]]:TK).getD (xs.getD 0 0 / 16%4).toNat []
def rn:bN->Bool
 |c::_=>decide ((48<=c/\c<=57)\/(97<=c/\c<=122))
 |[]=>false
def DR:bN:=[40,41,42,43,45,94,91,93,61,60,62]
def RY(u:bN):Prop:=WE u\/(∃c∈DR,u=[c])\/∃c,(c=60\/c=62\/c=33)/\u=[c,61]
def Ku(u:bN):Prop:=(∀x∈u,x<128)/\RY u
def Yo.g(h:Yo u):Ku u:=⟨h.1,by
 rcases h.2.2 with g | ⟨c,rfl,g⟩
 ·exact .inl g.v
 ·exact .inr (.inl ⟨c,by rcases g with rfl | rfl | rfl | rfl | rfl | rfl<;>decide,rfl⟩)⟩
def R5(tk:TK):Prop:=∀j u v,tk[j]?=some u->tk[j+1]?=some v->(u=[60]\/u=[62])->v.head?≠some 61
def Fh(h:WE u):∃c cs,u=c::cs/\c<128/\((48<=c/\c<=57)\/(97<=c/\c<=122)):=by
 rcases h with h | h
 ·obtain⟨c,cs,rfl,hc⟩:=ww (.inl h)
  exact⟨c,cs,rfl,by lia,by lia⟩
 ·revert h
  simp only[MI,aM,ga,B6]
  rintro(rfl | rfl | rfl | rfl | rfl | rfl | rfl)<;>exact⟨_,_,rfl,by decide,by decide⟩
def GF(tk:TK)(xs:aS)(k:Nat):bN:=if Ki xs k=[]/\rn (tk.getD k [])=true/\rn (tk.getD (k-1) [])=true then [32] else Ki xs k
def Ho(tk:TK)(xs:aS):Nat->bN
 |0=>S9 xs
 |k+1=>Ho tk xs k++(if 0<k then GF tk xs k else [])++tk.getD k []
def nu(tk:TK)(xs:aS):bN:=Ho tk xs tk.length++NK xs
def II{n:Nat}{α:Type}(a b c d z:α)(h:n<4)(P:α->Prop)(ha:P a)(hb:P b)(hc:P c)(hd:P d):P (([a,b,c,d]:List α).getD n z):=by
 match n,h with
 |0,_=>exact ha
 |1,_=>exact hb
 |2,_=>exact hc
 |3,_=>exact hd
 |n+4,h=>lia
def RX{i:Int}(a b c d:Str)(a' b' c' d':bN)(ea:a=S a')(eb:b=S b')(ec:c=S c')(ed:d=S d')(h0:0<=i)(h1:i<4):k7 ([.str a,.str b,.str c,.str d]:aU) i=some (.str (S (([a',b',c',d']:TK).getD i.toNat []))):=by
 obtain⟨n,rfl⟩:=Sa h0
 have:n<4:=by lia
 rw[ba]
 match n,this with
 |0,_=>rw[ea];rfl
 |1,_=>rw[eb];rfl
 |2,_=>rw[ec];rfl
 |3,_=>rw[ed];rfl
 |n+4,h=>lia
def Bk(u:bN):Prop:=(∀c∈u,c=32)/\u.length<=3
def V4:Bk []/\Bk [32]/\Bk [32,32]/\Bk [32,32,32]:=⟨⟨by decide,by decide⟩,⟨by decide,by decide⟩,⟨by decide,by decide⟩,⟨by decide,by decide⟩⟩
def Jm(xs:aS):Bk (S9 xs)/\(S9 xs).length<=2:=II _ _ _ _ _ (by lia) (fun u=>Bk u/\u.length<=2) ⟨V4.2.1,by decide⟩ ⟨V4.1,by decide⟩ ⟨V4.1,by decide⟩ ⟨V4.2.2.1,by decide⟩
def Nu(xs:aS)(k:Nat):Bk (Ki xs k):=II _ _ _ _ _ (by lia) Bk V4.1 V4.2.1 V4.1 V4.2.2.2
def z7(xs:aS):Bk (NK xs)/\(NK xs).length<=1:=II _ _ _ _ _ (by lia) (fun u=>Bk u/\u.length<=1) ⟨V4.1,by decide⟩ ⟨V4.2.1,by decide⟩ ⟨V4.1,by decide⟩ ⟨V4.1,by decide⟩
def Ab(tk:TK)(xs:aS)(k:Nat):Bk (GF tk xs k):=by unfold GF;split;exact V4.2.1;exact Nu xs k
def HJ(h:RY u):∃c cs,u=c::cs/\(!(Builtin.Str.occurrences SG (S [c]) 0 SG.length 1).isEmpty)=rn u:=by
 have run:∀c:Nat,c<128->((48<=c/\c<=57)\/(97<=c/\c<=122))->(!(Builtin.Str.occurrences SG (S [c]) 0 SG.length 1).isEmpty)=true:=by decide
 rcases h with h | ⟨c,hc,rfl⟩ | ⟨c,hc,rfl⟩
 ·obtain⟨c,cs,rfl,h1,h2⟩:=Fh h
  refine⟨c,cs,rfl,?_⟩
  rw[run c h1 h2]
  show true=decide _
  rw[ay h2]
 ·refine⟨c,[],rfl,?_⟩
  revert hc
  simp only[DR,aM,ga,B6]
  rintro(rfl | rfl | rfl | rfl | rfl | rfl | rfl | rfl | rfl | rfl | rfl)<;>decide
 ·refine⟨c,[61],rfl,?_⟩
  rcases hc with rfl | rfl | rfl<;>decide
def AL{tk:TK}{j:Nat}(h:j<tk.length):wT (tk.take (j+1))=wT (tk.take j)+(tk.getD j []).length+3:=by
 rw[rH,List.getElem?_eq_getElem h,eO,List.getD_eq_getElem?_getD,List.getElem?_eq_getElem h]
 show _+(tk[j].length+3+0)=_+tk[j].length+3
 lia
def E8(tk:TK)(j:Nat):wT (tk.take j)<=wT tk:=by
 have:=eO (tk.take j) (tk.drop j)
 rw[cZ] at this
 lia
def Bi(tk:TK)(xs:aS):∀j,j<=tk.length->(Ho tk xs j).length<=2+wT (tk.take j)
 |0,_=>by rw[eY];exact(Jm xs).2
 |j+1,h=>by
  have a:=Bi tk xs j (by lia)
  have b:=(Ab tk xs j).2
  rw[AL (by lia)]
  unfold Ho
  rw[ac,ac]
  split
  ·lia
  ·simp;lia
def Nb{tk:TK}(hq:∀u∈tk,Ku u)(xs:aS):∀j,j<=tk.length->∀c∈Ho tk xs j,c<128
 |0,_,c,hc=>by rw[(Jm xs).1.1 c hc];decide
 |j+1,h,c,hc=>by
  rcases List.mem_append.mp hc with hc | hc
  ·rcases List.mem_append.mp hc with hc | hc
   ·exact Nb hq xs j (by lia) c hc
   ·split at hc
    ·rw[(Ab tk xs j).1 c hc];decide
    ·cases hc
  ·rw[List.getD_eq_getElem?_getD,List.getElem?_eq_getElem (by lia)] at hc
   exact(hq _ (gb _)).1 c hc
def Ek(hu:Bk u)(h:Lex cs ts):Lex (u++cs) ts:=by
 have:∀u:bN,(∀c∈u,c=32)->Lex (u++cs) ts:=by
  intro u
  induction u with
  |nil=>intro _;exact h
  |cons c u ih=>
   intro hc
   have e:=hc c (by simp)
   subst e
   exact .sp (ih fun d hd=>hc d (by simp[hd]))
 exact this u hu.1
def Ll(h:RY u)(hr:rn u=true):WE u:=by
 rcases h with h | ⟨c,hc,rfl⟩ | ⟨c,hc,rfl⟩
 ·exact h
 ·have:∀c∈DR,rn [c]=false:=by decide
  rw[this c hc] at hr;cases hr
 ·rcases hc with rfl | rfl | rfl<;>cases hr
def Iv(h:RY u)(hr:rn u=false):(∃c∈DR,u=[c])\/∃c,(c=60\/c=62\/c=33)/\u=[c,61]:=by
 rcases h with h | h
 ·obtain⟨c,cs,rfl,h1,h2⟩:=Fh h
  have:rn (c::cs)=true:=by show decide _=true;rw[bh];exact h2
  rw[this] at hr;cases hr
 ·exact h
def Ia:∀c∈DR,al c=false/\c≠32/\c≠33:=by
 intro c
 simp only[DR,aM,ga,B6]
 rintro(rfl | rfl | rfl | rfl | rfl | rfl | rfl | rfl | rfl | rfl | rfl)<;>decide
def Nf(h:Bk u)(hn:u≠[])(cs:bN):∀c,(u++cs).head?=some c->al c=false:=fun c e=>by
 cases u with
 |nil=>exact absurd rfl hn
 |cons d u=>cases e;rw[h.1 c (by simp)];exact Ny
def Jz(h:Bk u)(hn:u≠[])(cs:bN):(u++cs).head?≠some 61:=fun e=>by
 cases u with
 |nil=>exact absurd rfl hn
 |cons d u=>cases e;exact absurd (h.1 61 (by simp)) (by decide)
def FN{tk:TK}(hq:∀u∈tk,Ku u)(ha:R5 tk)(xs:aS):∀(m j:Nat),j+m=tk.length->∃W,nu tk xs=Ho tk xs j++W/\Lex W (tk.drop j)/\(0<j->rn (tk.getD (j-1) [])=true->∀c,W.head?=some c->al c=false)/\(0<j->tk.getD (j-1) []=[60]\/tk.getD (j-1) []=[62]->W.head?≠some 61)
 |0,j,e=>by
  have e':j=tk.length:=by lia
  subst e'
  refine⟨NK xs,rfl,?_,fun _ _ c hc=>?_,fun _ _ hc=>?_⟩
  ·rw[jd]
   have:=Ek (z7 xs).1 Lex.nil
   rw[aP] at this;exact this
  ·by_cases hn:NK xs=[]
   ·rw[hn] at hc;cases hc
   ·exact Nf (z7 xs).1 hn [] c (by rw[aP];exact hc)
  ·by_cases hn:NK xs=[]
   ·rw[hn] at hc;cases hc
   ·exact Jz (z7 xs).1 hn [] (by rw[aP];exact hc)
 |m+1,j,e=>by
  obtain⟨W,e1,h1,h2,h3⟩:=FN hq ha xs m (j+1) (by lia)
  have hj:j<tk.length:=by lia
  have hg:tk.getD j []=tk[j]:=by rw[List.getD_eq_getElem?_getD,List.getElem?_eq_getElem hj];rfl
  have hQ:=(hq tk[j] (gb hj)).2
  have Zl:tk.drop j=tk[j]::tk.drop (j+1):=bY hj
  rw[show j+1-1=j by lia,hg] at h2 h3
  have tokL:Lex (tk[j]++W) (tk.drop j):=by
   rw[Zl]
   cases hr:rn tk[j] with
   |true=>exact .run (Ll hQ hr) (h2 (by lia) hr) h1
   |false=>
    rcases Iv hQ hr with⟨c,hc,ec⟩ | ⟨c,hc,ec⟩
    ·obtain⟨a1,a2,a3⟩:=Ia c hc
     rw[ec] at h3 ⊢
     refine .sign a1 a2 ?_ h1
     by_cases z:c=60\/c=62
     ·exact .inr ⟨z,h3 (by lia) (by rcases z with rfl | rfl;exact .inl rfl;exact .inr rfl)⟩
     ·exact .inl ⟨fun y=>z (.inl y),fun y=>z (.inr y),a3⟩
    ·rw[ec];exact .dbl hc h1
  have bk0:Bk (if 0<j then GF tk xs j else []):=by split;exact Ab tk xs j;exact V4.1
  obtain⟨c0,cs0,ec0,_⟩:=HJ hQ
  refine⟨(if 0<j then GF tk xs j else [])++(tk[j]++W),?_,Ek bk0 tokL,fun h0 hr c hc=>?_,fun h0 hr hc=>?_⟩
  ·rw[e1]
   show Ho tk xs j++_++tk.getD j []++W=_
   rw[hg];simp only[aF]
  ·rw[au h0] at hc
   by_cases hs:GF tk xs j=[]
   ·rw[hs] at hc
    have hrj:rn (tk.getD j [])=false:=by
     cases hr2:rn (tk.getD j []) with
     |false=>rfl
     |true=>
      unfold GF at hs
      by_cases hb:Ki xs j=[]
      ·rw[au ⟨hb,hr2,hr⟩] at hs;cases hs
      ·rw[aq (fun z=>hb z.1)] at hs;exact absurd hs hb
    rw[hg] at hrj
    rcases Iv hQ hrj with⟨c',XA,ec⟩ | ⟨c',XA,ec⟩
    ·rw[ec] at hc
     cases hc
     exact(Ia c XA).1
    ·rw[ec] at hc
     cases hc
     exact Kr c XA
   ·exact Nf (Ab tk xs j) hs _ c hc
  ·rw[au h0] at hc
   by_cases hs:GF tk xs j=[]
   ·rw[hs] at hc
    have ZE:j-1<tk.length:=by lia
    have hg1:tk.getD (j-1) []=tk[j-1]:=by rw[List.getD_eq_getElem?_getD,List.getElem?_eq_getElem ZE];rfl
    rw[hg1] at hr
    refine ha (j-1) _ tk[j] (List.getElem?_eq_getElem ZE) (by rw[show j-1+1=j by lia];exact List.getElem?_eq_getElem hj) hr ?_
    rw[ec0] at hc ⊢
    exact hc
   ·exact Jz (Ab tk xs j) hs _ hc
def Jj{tk:TK}(hq:∀u∈tk,Ku u)(ha:R5 tk)(xs:aS):Lex (nu tk xs) tk:=by
 obtain⟨W,e1,h1,_,_⟩:=FN hq ha xs tk.length 0 (by lia)
 rw[e1]
 exact Ek (Jm xs).1 h1
def LU{tk:TK}(hq:∀u∈tk,Ku u)(xs:aS):∀c∈nu tk xs,c<128:=fun c hc=>by
 rcases List.mem_append.mp hc with hc | hc
 ·exact Nb hq xs tk.length (aj _) c hc
 ·rw[(z7 xs).1.1 c hc];decide
def Jr(tk:TK)(xs:aS):(nu tk xs).length<=wT tk+3:=by
 have a:=Bi tk xs tk.length (aj _)
 have b:=(z7 xs).2
 rw[bo] at a
 unfold nu
 rw[ac]
 lia
def lF(ds:aU)(d:D):Prop:=∃(tk:TK) (xs:aS),ds=[.lst (aO tk),dI xs]/\xs.length=12/\(∀u∈tk,Ku u)/\wT tk<=100000/\d=.str (S (nu tk xs))
def u0:∀ds d,lF ds d->ds.length=2:=by rintro _ _ ⟨_,_,rfl,_⟩;rfl
def zk(h:DefX P w K mg base k ly (ai iP) X)(Vn:mg "range"=none)(Vc:mg "len"=none):
  Go X ly iP lF:=by
 rintro ds d ⟨tk,xs,rfl,hl,hq,hw,rfl⟩
 have t:=h.at'
 haveI:=h.VI
 have b1:=h.bt Vn
 have b2:=h.bt Vc
 have htl:tk.length<=34000:=by have:=Hy tk;lia
 have z0:("" : Str)=S []:=by decide
 have z1:(" " : Str)=S [32]:=by decide
 have z2:("  " : Str)=S [32,32]:=by decide
 have z3:("   " : Str)=S [32,32,32]:=by decide
 have hv:∀n:Nat,n<12->k7 (xs.map D.int) (n:Int)=some (.int (xs.getD n 0)):=fun n hn=>xL (by lia)
 refine ax (bS t 2 U0) (ax (bS t 3 (cb (U9.toQ (bb (ab U0 (ab U0 (ab U0 (ab U0 af)))))) (br (cb (U1.ql (aa t 1)) ah (hv 0 (by lia))) ah (by decide)) (RX _ _ _ _ _ _ _ _ z1 z0 z0 z2 (by lia) (by lia)))) ?_)
 refine ax (ρ':=[.val (.lst (aO tk)),.val (dI xs),.val (.str SG),.val (.str (S (Ho tk xs tk.length))),.un,.un]) (i6 t (fj t b1 (dy t b2 (U1.ql (aa t 0))) (by rw[aY];lia) (by rw[aY];lia)) (Vt.VD (fun j=>[.val (.lst (aO tk)),.val (dI xs),.val (.str SG),.val (.str (S (Ho tk xs j))),.un,.un]) (fun j d e=>?_) rfl ?_)) (aC (bp (U1.eq (jE (w:=S (NK xs)) (aa t 3) (cb (U9.toQ (bb (ab U0 (ab U0 (ab U0 (ab U0 af)))))) (br (hJ t (cb (U1.ql (aa t 1)) ah (hv 0 (by lia))) ah (by decide)) ah (by decide)) (RX _ _ _ _ _ _ _ _ z0 z1 z0 z0 (by lia) (by lia))) ?_) (by rw[ny];rfl))))
 ·obtain⟨hj,rfl⟩:=ir e
  rw[ba,aY] at hj
  have hg:tk.getD j []=tk[j]:=by rw[List.getD_eq_getElem?_getD,List.getElem?_eq_getElem hj];rfl
  have hQ:=hq tk[j] (gb hj)
  have hta:∀i:Nat,(hi:i<tk.length)->k7 (aO tk) (i:Int)=some (.str (S tk[i])):=fun i hi=>ej (by unfold aO;rw[List.getElem?_map,List.getElem?_eq_getElem hi];rfl)
  have hjl:=Bi tk xs j (by lia)
  have hjw:=E8 tk (j+1)
  rw[AL hj] at hjw
  have sp3:=(Ab tk xs j).2
  refine⟨_,bf t 4,U4.weak (ρ1:=[.val (.lst (aO tk)),.val (dI xs),.val (.str SG),.val (.str (S (Ho tk xs (j+1)))),.val (.int j),.un]) (ax (ρ':=[.val (.lst (aO tk)),.val (dI xs),.val (.str SG),.val (.str (S (Ho tk xs j++(if 0<j then GF tk xs j else [])))),.val (.int j),.un]) ?_ (aC (Vy.eq (bS t 3 (jE (aa t 3) (cb (U1.ql (aa t 0)) (aa t 4) (hta j hj)) ?_)) ?_))) (.keep (.keep (.keep (.keep (.forget (.keep .nil))))))⟩
  ·by_cases h0:0<j
   ·rw[au h0]
    have ZE:j-1<tk.length:=by lia
    have hg1:tk.getD (j-1) []=tk[j-1]:=by rw[List.getD_eq_getElem?_getD,List.getElem?_eq_getElem ZE];rfl
    have hQ1:=hq tk[j-1] (gb ZE)
    obtain⟨c,cs,ec,oc⟩:=HJ hQ.2
    obtain⟨c1,cs1,ec1,oc1⟩:=HJ hQ1.2
    have hl1:(S tk[j]).length<=sizeLine:=by rw[ck];rw[hg] at hjw;exact ar (m:=200000) (by lia) (by decide)
    have hl2:(S tk[j-1]).length<=sizeLine:=by
     rw[ck]
     have:=E8 tk (j-1+1)
     rw[AL ZE,hg1] at this
     exact ar (m:=200000) (by lia) (by decide)
    have hmod:(j:Int)%12=((j%12:Nat):Int):=by lia
    have hbk:PyData.strOk (S (Ki xs j))=true:=fv fun c hc=>by rw[(Nu xs j).1 c hc];decide
    have e0:decide (S (Ki xs j)=("" : Str))=decide (Ki xs j=[]):=decide_eq_decide.mpr ⟨fun e=>dB (e.trans z0),fun e=>by rw[e,z0]⟩
    have ejm:(j:Int)-1=((j-1:Nat):Int):=by lia
    refine e9 (U3.eq (hW (aa t 4) ah) (by rw[bh];lia)) (U4.weak (ax (bS t 5 (cb (U9.toQ (bb (ab U0 (ab U0 (ab U0 (ab U0 af)))))) (br (hJ t (cb (U1.ql (aa t 1)) (U1.eq (br (aa t 4) (dy t b2 (U1.ql (aa t 1))) (by rw[ag,hl];decide)) (by rw[ag,hl];exact bv D.int hmod)) (hv (j%12) (by lia))) ah (by decide)) ah (by decide)) (RX _ _ _ _ _ _ _ _ z0 z1 z0 z3 (by lia) (by lia)))) (ax (ρ':=[.val (.lst (aO tk)),.val (dI xs),.val (.str SG),.val (.str (S (Ho tk xs j))),.val (.int j),.val (.str (S (GF tk xs j)))]) ?_ (aC (Vy.eq (bS t 3 (jE (aa t 3) (aa t 5) (by rw[ck,ck];exact ar (m:=200000) (by lia) (by decide)))) (by rw[ny];rfl))))) (.keep (.keep (.keep (.keep (.keep (.forget .nil)))))))
    have tstv:(decide (Ki xs j=[])&&(rn tk[j]&&rn tk[j-1]))=decide (Ki xs j=[]/\rn (tk.getD j [])=true/\rn (tk.getD (j-1) [])=true):=by
     rw[hg,hg1]
     by_cases y:Ki xs j=[]<;>cases rn tk[j]<;>cases rn tk[j-1]<;>simp[y]
    unfold GF
    by_cases hc:Ki xs j=[]/\rn (tk.getD j [])=true/\rn (tk.getD (j-1) [])=true
    ·rw[au hc]
     exact e9 (U3.eq (F9 (U3.eq (b0 t (aa t 5) U0 hbk) e0) (fun _=>Bx (eD (cb (U1.ql (aa t 0)) (aa t 4) (hta j hj)) ah hl1 (by rw[fO,ec];exact ej rfl)) (aa t 2) oc) (fun _ _=>Bx (eD (cb (U1.ql (aa t 0)) (U1.eq (iw (aa t 4) ah) (bv D.int ejm)) (hta (j-1) ZE)) ah hl2 (by rw[fO,ec1];exact ej rfl)) (aa t 2) oc1)) (by rw[tstv,ay hc])) (aC (Vy.eq (bS t 5 U0) (by rw[z1];rfl)))
    ·rw[aq hc]
     exact cA (U3.eq (F9 (U3.eq (b0 t (aa t 5) U0 hbk) e0) (fun _=>Bx (eD (cb (U1.ql (aa t 0)) (aa t 4) (hta j hj)) ah hl1 (by rw[fO,ec];exact ej rfl)) (aa t 2) oc) (fun _ _=>Bx (eD (cb (U1.ql (aa t 0)) (U1.eq (iw (aa t 4) ah) (bv D.int ejm)) (hta (j-1) ZE)) ah hl2 (by rw[fO,ec1];exact ej rfl)) (aa t 2) oc1)) (by rw[tstv,ak hc])) bR
   ·rw[aq h0,aP]
    exact cA (U3.eq (hW (aa t 4) ah) (by rw[aH];lia)) bR
  ·rw[ck,ck,ac]
   rw[hg] at hjw
   have:(if 0<j then GF tk xs j else []).length<=3:=by
    split
    ·exact sp3
    ·simp
   exact ar (m:=200000) (by lia) (by decide)
  ·rw[ny,<-hg];rfl
 ·have e:(dH 0 ((aO tk).length:Int).toNat).length=tk.length:=by rw[aY];simp[dH]
  rw[e]
 ·have a:=Bi tk xs tk.length (aj _)
  have b:=(z7 xs).2
  rw[bo] at a
  rw[ck,ck];exact ar (m:=200000) (by lia) (by decide)
inductive Sg where
 |is (b:Bd) (p:bN×aS) | neg (s:Sg) | qu (a l:Bool) (s:Sg) | two (a:Bool) (s t:Sg)
def dS:Sg->D
 |.is b p=>Td b p.2
 |.neg s=>Uh (dS s)
 |.qu a l s=>Ud a l (dS s)
 |.two a s t=>Ua a (dS s) (dS t)
structure Ow where
 tk:TK
 y:Sg
 xs:aS
def zO(xs:aS):Ot:=⟨[[48]],[[48]],[],xs⟩
def lV(xs:aS):Ot:=if aR xs%2=1 then jS 0 xs.dropLast.dropLast (aR xs.dropLast%4).toNat else zO xs.dropLast
def Rj(xs:aS):bN×aS:=Wi.getD (aR xs%6).toNat ([60],[-1])
def j4(ns:aS):Ot:=jS 1 ns.dropLast (aR ns%4).toNat
def s8(ns:aS):Ow:=
 ⟨(j4 ns).tk++[(Rj (lV (j4 ns).xs).xs).1]++(lV (j4 ns).xs).tk,.is (qj (eB (j4 ns).kv (lV (j4 ns).xs).kv (-1))) (Rj (lV (j4 ns).xs).xs),(lV (j4 ns).xs).xs.dropLast⟩
abbrev aX(ns:aS):Bool:=decide (aR ns%2=0)
abbrev lX(ns:aS):Bool:=decide (aR ns / 6%2=0)
def ky:Nat->aS->Ow
 |0,ns=>s8 ns.dropLast
 |m+1,ns=>
  if aR ns%6=0 then s8 ns.dropLast
  else if aR ns%6=1 then ⟨V1::(ky m ns.dropLast).tk,.neg (ky m ns.dropLast).y,(ky m ns.dropLast).xs⟩
  else if aR ns%6<4 then ⟨[91]::((ky m ns.dropLast).tk++(aw (aX ns)::((ky m (ky m ns.dropLast).xs).tk++[[93]]))),.two (aX ns) (ky m ns.dropLast).y (ky m (ky m ns.dropLast).xs).y,(ky m (ky m ns.dropLast).xs).xs⟩
  else ⟨qw (aX ns)::lw (lX ns)::(ky m ns.dropLast).tk,.qu (aX ns) (lX ns) (ky m ns.dropLast).y,(ky m ns.dropLast).xs⟩
def wD(o:Ow):D:=.tup [.lst (aO o.tk),dS o.y]
def jn(ds xs:aU)(d:D)(xs':aU):Prop:=∃ns:aS,ds=[]/\ns.length<=200/\xs=iL ns/\d=wD (s8 ns)/\xs'=iL (s8 ns).xs
def sM:∀ds xs d xs',jn ds xs d xs'->ds.length+1=1:=by rintro _ _ _ _ ⟨_,rfl,_⟩;rfl
def Tu(x:Int):k7 [bU [-1],bU [0],bU [1],bU [-1,0],bU [0,1],bU [-1,1]] (x%6)=some (bU (Wi.getD (x%6).toNat ([60],[-1])).2):=by
 have h:x%6=0\/x%6=1\/x%6=2\/x%6=3\/x%6=4\/x%6=5:=by lia
 rcases h with e | e | e | e | e | e<;>rw[e]<;>rfl
def Tt(x:Int):k7 [.str "<",.str "=",.str ">",.str "<=",.str ">=",.str "!="] (x%6)=some (D.str (S (Wi.getD (x%6).toNat ([60],[-1])).1)):=by
 have h:x%6=0\/x%6=1\/x%6=2\/x%6=3\/x%6=4\/x%6=5:=by lia
 rw[show("<" : Str)=S [60] by decide,show("=" : Str)=S [61] by decide,show(">" : Str)=S [62] by decide,show("<=" : Str)=S [60,61] by decide,show(">=" : Str)=S [62,61] by decide,show("!=" : Str)=S [33,61] by decide]
 rcases h with e | e | e | e | e | e<;>rw[e]<;>rfl
def r4(x:Int):(x%4).toNat<=3/\x%4=(((x%4).toNat:Nat):Int):=by lia
def t5{ns:aS}(h:ns.length<=200):V0 (j4 ns).kv/\V9 10 (j4 ns).kv/\(j4 ns).tk.length<=620/\(j4 ns).xs.length<=200:=by
 have hd:ns.dropLast.length<=200:=by rw[aW];lia
 obtain⟨hv,_⟩:=Uc ns.dropLast (aR ns%4).toNat (by have:=(r4 (aR ns)).1;lia)
 have a:=(XB.len (.inr rfl) hd (aR ns%4).toNat).2.2.2
 have b:=(XB.xs (.inr rfl) ns.dropLast (aR ns%4).toNat).2.2.2
 exact⟨hv.ko,Aw hv.kd (by have:=(r4 (aR ns)).1;lia),a,ar b hd⟩
def Ac{xs:aS}(h:xs.length<=200):V0 (lV xs).kv/\V9 10 (lV xs).kv/\(lV xs).tk.length<=620/\(lV xs).xs.length<=200:=by
 have h1:xs.dropLast.length<=200:=by rw[aW];lia
 have h2:xs.dropLast.dropLast.length<=200:=by rw[aW];lia
 unfold lV
 split
 ·obtain⟨hv,_⟩:=NV xs.dropLast.dropLast (aR xs.dropLast%4).toNat (by have:=(r4 (aR xs.dropLast)).1;lia)
  have a:=(XB.len (.inl rfl) h2 (aR xs.dropLast%4).toNat).2.2.2
  have b:=(XB.xs (.inl rfl) xs.dropLast.dropLast (aR xs.dropLast%4).toNat).2.2.2
  exact⟨hv.ko,Aw hv.kd (by have:=(r4 (aR xs.dropLast)).1;lia),a,ar b h2⟩
 ·exact⟨V0.nil,(fun p hp=>nomatch hp),by show 1<=620;decide,h1⟩
def ui(h:DefX P w K mg base k jk (ai gr) X)(c0:Vj X "_law_sum" (km 0))(c1:Vj X "_law_sum" (km 1))(c2:EV.Callee X "_law_board_of" jo)(c3:Vj X "_law_pick" eM)(c4:EV.V8 X "_law_add" kr):
  Pz X jk gr jn:=by
 rintro q ds xs d xs' ⟨ns,rfl,hl,rfl,rfl,rfl⟩
 have t:=h.at'
 haveI:=h.VI
 have pick:∀(ms:aS) {ρ:cn} {p1 p2 p3:Pos},ρ[0]?=some (.val (.Wg q))->VF X q ρ (.Call (.Name "_law_pick" p1) [.Name "_law_state" p2] [] p3) (.int (aR ms)) (iL ms) (iL ms.dropLast):=fun ms {ρ p1 p2 p3} hρ=>dz t c3 (Vw.am (ab (aa t 0 hρ) af)) ⟨ms,rfl,rfl,rfl,rfl⟩
 obtain⟨f1,f2,f3,f4⟩:=t5 hl
 obtain⟨g1,g2,g3,g4⟩:=Ac f4
 have hd:ns.dropLast.length<=200:=by rw[aW];lia
 unfold s8
 refine bQ (xs1:=iL (j4 ns).xs) (jg t (dz (d:=oD (j4 ns)) t c1 (gx (U1.em (aa t 0)) (gx (jF (pick ns rfl) ah (by decide)) (Vw.am (ab ah af)))) ⟨ns.dropLast,(aR ns%4).toNat,by rw[<-(r4 (aR ns)).2];rfl,by have:=(r4 (aR ns)).1;lia,hd,rfl,rfl,rfl⟩) (gC t (bu (bf t 1) (bu (bf t 2) dR)))) ?_
 generalize j4 ns=o at f1 f2 f3 f4 g1 g2 g3 g4
 have ho:o.xs.dropLast.length<=200:=by rw[aW];lia
 have ho2:o.xs.dropLast.dropLast.length<=200:=by rw[aW];lia
 refine bQ (Vy.m (uF t (d:=.lst [.lst (aO [[48]]),.Vi []]) (U1.eq (U9.Vm (bb (ab (U9.Vm (bb (ab U0 af))) (ab (VR.Vm Ez) af)))) (by rw[show("0" : Str)=S [48] by decide];rfl)) (J3 t (bu (bf t 3) (bu (bf t 4) dR))))) ?_
 refine bQ (ρ1:=[.val (.Wg q),.val (.lst (aO o.tk)),.val (.Vi o.kv),.val (.lst (aO (lV o.xs).tk)),.val (.Vi (lV o.xs).kv),.un,.un,.un]) (xs1:=iL (lV o.xs).xs) ?_ ?_
 ·have tst:∀{p1 p2 p3 p4 p5 p6 p7:Pos} {j j2:Nat},Xw X q [.val (.Wg q),.val (.lst (aO o.tk)),.val (.Vi o.kv),.val (.lst (aO [[48]])),.val (.Vi []),.un,.un,.un] (.Compare (.BinOp (.Call (.Name "_law_pick" p1) [.Name "_law_state" p2] [] p3) .Mod (.Constant (.int 2) j p4) p5) [.Eq] [.Constant (.int 1) j2 p6] p7) (decide (aR o.xs%2=1)) (iL o.xs) (iL o.xs.dropLast):=fun {p1 p2 p3 p4 p5 p6 p7 j j2}=>NJ (jF (pick o.xs rfl) ah (by decide)) ah
  unfold lV
  by_cases h1:aR o.xs%2=1
  ·rw[au h1]
   rw[ay h1] at tst
   exact Jd tst (cB (jg t (dz t c0 (gx (U1.em (aa t 0)) (gx (jF (pick o.xs.dropLast rfl) ah (by decide)) (Vw.am (ab ah af)))) ⟨o.xs.dropLast.dropLast,(aR o.xs.dropLast%4).toNat,by rw[<-(r4 (aR o.xs.dropLast)).2];rfl,by have:=(r4 (aR o.xs.dropLast)).1;lia,ho2,rfl,rfl,rfl⟩) (gC t (bu (bf t 3) (bu (bf t 4) dR)))))
  ·rw[aq h1]
   rw[ak h1] at tst
   exact Je tst sG
 generalize lV o.xs=u at g1 g2 g3 g4
 refine bQ (fV t 5 (jF (pick u.xs rfl) ah (by decide))) ?_
 refine bQ (Vy.m (bS t 6 (cb (U9.toQ (bb (ab (aD (ab (gA ah) af)) (ab (aD (ab ah af)) (ab (aD (ab ah af)) (ab (aD (ab (gA ah) (ab ah af))) (ab (aD (ab ah (ab ah af))) (ab (aD (ab (gA ah) (ab ah af))) af)))))))) (aa t 5) (Tu _)))) ?_
 refine bQ (Vy.m (bS t 7 (a9 t c2 (ab (VR.Vm (sX t c4 (ab (aa t 2) (ab (aa t 4) (ab (gA ah) af))) ⟨o.kv,u.kv,-1,rfl,f1,f2,g1,g2,.inr rfl,rfl⟩)) af) ⟨_,rfl,rfl⟩))) ?_
 refine U4.m (aC (bp (aD (ab (U1.eq (U9.Vm (c9 (U9.Vm (c9 (aa t 1) (U9.Vm (bb (ab (cb (U9.toQ (bb (ab U0 (ab U0 (ab U0 (ab U0 (ab U0 (ab U0 af)))))))) (aa t 5) (Tt _)) af))) ?_)) (aa t 3) ?_)) ?_) (ab (aD (ab U0 (ab (aa t 7) (ab (aa t 6) af)))) af)))))
 ·rw[aY];exact HF (by simp;lia)
 ·rw[ac,aY,aY];exact HF (by simp;lia)
 ·rw[dg,dg];rfl
def Rn{u v:Str}{f:Bool->Str}(hu:f true=u)(hv:f false=v)(i:Int):k7 [D.str u,.str v] (i%2)=some (.str (f (decide (i%2=0)))):=by
 have h:i%2=0\/i%2=1:=by lia
 rcases h with e | e
 ·rw[e,ay rfl,hu];rfl
 ·rw[e,ak (by lia),hv];rfl
def UG{z:Str}{a b:Nat}{f:Bool->Str}(hz:z.cps.toList=[a,b])(hu:f true=⟨#[a]⟩)(hv:f false=⟨#[b]⟩)(i:Int):∃c,k7 z.cps.toList (i%2)=some c/\(⟨#[c]⟩:Str)=f (decide (i%2=0)):=by
 rw[hz]
 have h:i%2=0\/i%2=1:=by lia
 rcases h with e | e
 ·exact⟨a,by rw[e];rfl,by rw[e,ay rfl,hu]⟩
 ·exact⟨b,by rw[e];rfl,by rw[e,ak (by lia),hv]⟩
def Ra{i:Int}(hb:U1 X ρ b (.int (i%2)))(hs:k8 b:=by intro _ _;rfl):U1 X ρ (.Subscript (.Constant (.str "xy") j p) b pos) (.str (S (lw (decide (i%2=0))))):=by
 obtain⟨c,h1,h2⟩:=UG (z := "xy") (a:=120) (b:=121) (f:=fun l=>S (lw l)) (by decide) (by decide) (by decide) i
 exact U1.eq (eD U0 hb (by decide) h1 hs) (by rw[h2])
def Gi{ns:aS}(h:ns.length<=200):(s8 ns).tk.length<=1241/\(s8 ns).xs.length<=200:=by
 obtain⟨_,_,f3,f4⟩:=t5 h
 obtain⟨_,_,g3,g4⟩:=Ac f4
 refine⟨?_,?_⟩
 ·show(_++_++_:TK).length<=_
  rw[ac,ac,bI];lia
 ·show(List.dropLast _).length<=_
  rw[aW];lia
def v8:∀(m:Nat) {ns:aS},ns.length<=200->(ky m ns).tk.length+10<=1300*2 ^ m/\(ky m ns).xs.length<=200
 |0,ns,h=>by
  have:=Gi (ns:=ns.dropLast) (by rw[aW];lia)
  exact⟨by show(s8 ns.dropLast).tk.length+10<=_;lia,this.2⟩
 |m+1,ns,h=>by
  have hd:ns.dropLast.length<=200:=by rw[aW];lia
  have c:=Gi hd
  have i1:=v8 m hd
  have i2:=v8 m i1.2
  have e:=qy
  have p:0<2 ^ m:=UO (by decide)
  rw[ky]
  split
  ·exact⟨by lia,c.2⟩
  split
  ·exact⟨by simp;lia,i1.2⟩
  split
  ·exact⟨by simp;lia,i2.2⟩
  ·exact⟨by simp;lia,i1.2⟩
def eI:Nat->aU->aU->D->aU->Prop
 |0,_,_,_,_=>False
 |n+1,ds,xs,d,xs'=>∃(m:Nat) (ns:aS),ds=[.int (m:Int)]/\m<=n/\m<=3/\ns.length<=200/\xs=iL ns/\d=wD (ky m ns)/\xs'=iL (ky m ns).xs
def l9:∀n ds xs d xs',eI n ds xs d xs'->ds.length+1=2
 |0,_,_,_,_,h=>h.elim
 |n+1,_,_,_,_,⟨_,_,h,_⟩=>by rw[h];rfl
def Ck{m:Nat}{ns:aS}(hm:m<=3)(h:ns.length<=200):(ky m ns).tk.length<=10400:=by
 have:=(v8 m h).1
 have:2 ^ m<=2 ^ 3:=B8 (by decide) hm
 lia
def xI{a:Nat}(h:a<=60000):a<=sizeLine:=ar h (bq rfl)
def u6(h:DefX P w K mg base k kc (ai gU) X)(c1:Vj X "_law_pick" eM)(c2:Vj X "_law_compared" jn)(n:Nat)(c3:Vj X "_law_written" (eI n)):
  Pz X kc gU (eI (n+1)):=by
 rintro q ds xs d xs' ⟨m,ns,rfl,hm,hm3,hl,rfl,rfl,rfl⟩
 have t:=h.at'
 haveI:=h.VI
 refine bQ (fV t 2 (dz t c1 (Vw.am (ab (aa t 0) af)) ⟨ns,rfl,rfl,rfl,rfl⟩)) ?_
 have x6:∀{p1 p2 p3:Pos} {j:Nat},U1 X [.val (.Wg q),.val (.int m),.val (.int (aR ns)),.un,.un,.un,.un,.un,.un,.un] (.BinOp (.Name "_law_x" p1) .Mod (.Constant (.int 6) j p2) p3) (.int (aR ns%6)):=br (aa t 2) ah (by decide)
 have hd:ns.dropLast.length<=200:=by rw[aW];lia
 by_cases h0:m=0\/aR ns%6=0
 ·have e:ky m ns=s8 ns.dropLast:=by
   cases m with
   |zero=>rfl
   |succ m=>
    rcases h0 with z | z
    ·cases z
    ·rw[ky,au z]
  rw[e]
  refine wZ (i9 (U3.l (U3.eq (ji (dM (aa t 1) ah) fun _=>dM x6 ah) ?_)) (cB (Ej (dz t c2 (Vw.am (ab (aa t 0) af)) ⟨ns.dropLast,rfl,hd,rfl,rfl,rfl⟩))))
  rcases h0 with z | z
  ·subst z;rfl
  ·rw[ay z,Bool.or_true]
 obtain⟨m,rfl⟩:∃r,m=r+1:=⟨m-1,by lia⟩
 have hx:¬aR ns%6=0:=fun z=>h0 (.inr z)
 obtain⟨n,rfl⟩:∃r,n=r+1:=⟨n-1,by lia⟩
 have cc:∀ms:aS,ms.length<=200->eI (n+1) [.int (m:Int)] (iL ms) (wD (ky m ms)) (iL (ky m ms).xs):=fun ms hms=>⟨m,ms,rfl,by lia,by lia,hms,rfl,rfl,rfl⟩
 refine bQ (fb (U3.l (U3.eq (ji (dM (aa t 1) ah) fun _=>dM x6 ah) (by rw[ak hx,ak (by lia)];rfl))) sG) ?_
 have call:∀(ms:aS) (ρ:cn),ms.length<=200->ρ[0]?=some (.val (.Wg q))->ρ[1]?=some (.val (.int ((m+1:Nat):Int)))->∀{p1 p2 p4 p5 p6 p7:Pos} {j:Nat},VF X q ρ (.Call (.Name "_law_written" p1) [.Name "_law_state" p2,.BinOp (.Name "_law_deep" p4) .Sub (.Constant (.int 1) j p5) p6] [] p7) (wD (ky m ms)) (iL ms) (iL (ky m ms).xs):=fun ms ρ hms r0 r1 {p1 p2 p4 p5 p6 p7 j}=>dz t c3 (Vw.am (ab (aa t 0 r0) (ab (U1.eq (iw (aa t 1 r1) ah) (by rw[show((m+1:Nat):Int)-1=(m:Nat) by lia])) af))) (cc ms hms)
 have i1:=v8 m hd
 have l1:=Ck (m:=m) (by lia) hd
 have l2:=Ck (m:=m) (by lia) i1.2
 rw[ky,aq hx]
 by_cases h1:aR ns%6=1
 ·rw[au h1]
  refine wZ (i9 (U3.l (U3.eq (dM x6 ah) (ay h1))) (bQ (jg t (call ns.dropLast _ hd rfl rfl) (gC t (bu (bf t 3) (bu (bf t 4) dR)))) (U4.m (aC (bp (aD (ab (U1.eq (U9.Vm (c9 (U9.Vm (bb (ab U0 af))) (aa t 3) ?_)) ?_) (ab (aD (ab U0 (ab (aa t 4) af))) af))))))))
  ·rw[aY];exact xI (by simp;lia)
  ·rw[show("not" : Str)=S V1 by decide];rfl
 rw[aq h1]
 refine bQ (fb (U3.l (U3.eq (dM x6 ah) (ak h1))) sG) ?_
 by_cases h4:aR ns%6<4
 ·rw[au h4]
  refine wZ (i9 (U3.l (U3.eq (fg x6 ah) (ay h4))) (bQ (jg t (call ns.dropLast _ hd rfl rfl) (gC t (bu (bf t 3) (bu (bf t 5) dR)))) (bQ (jg t (call (ky m ns.dropLast).xs _ i1.2 rfl rfl) (gC t (bu (bf t 6) (bu (bf t 7) dR)))) (U4.m (ax (bS t 8 (cb (U9.toQ (bb (ab U0 (ab U0 af)))) (br (aa t 2) ah (by decide)) (Rn (f:=fun a=>S (aw a)) (by decide) (by decide) _))) (aC (bp (aD (ab (U1.eq (U9.Vm (c9 (U9.Vm (c9 (U9.Vm (c9 (U9.Vm (c9 (U9.Vm (bb (ab U0 af))) (aa t 3) ?_)) (U9.Vm (bb (ab (aa t 8) af))) ?_)) (aa t 6) ?_)) (U9.Vm (bb (ab U0 af))) ?_)) ?_) (ab (aD (ab (aa t 8) (ab (aa t 5) (ab (aa t 7) af)))) af))))))))))
  ·rw[aY];exact xI (by simp;lia)
  ·rw[ac,aY];exact xI (by simp;lia)
  ·rw[ac,ac,aY,aY];exact xI (by simp;lia)
  ·rw[ac,ac,ac,aY,aY];exact xI (by simp;lia)
  ·rw[show("[" : Str)=S [91] by decide,show("]" : Str)=S [93] by decide];simp[aO]
 rw[aq h4]
 refine bQ (fb (U3.l (U3.eq (fg x6 ah) (ak h4))) sG) ?_
 refine bQ (jg t (call ns.dropLast _ hd rfl rfl) (gC t (bu (bf t 3) (bu (bf t 4) dR)))) (U4.m (ax (bS t 8 (cb (U9.toQ (bb (ab U0 (ab U0 af)))) (br (aa t 2) ah (by decide)) (Rn (f:=fun a=>S (qw a)) (by decide) (by decide) _))) (ax (bS t 9 (Ra (br (hJ t (aa t 2) ah (by decide)) ah (by decide)))) (aC (bp (aD (ab (U1.eq (U9.Vm (c9 (U9.Vm (bb (ab (aa t 8) (ab (aa t 9) af)))) (aa t 3) ?_)) ?_) (ab (aD (ab (aa t 8) (ab (aa t 9) (ab (aa t 4) af)))) af))))))))
 ·rw[aY];exact xI (by simp;lia)
 ·rfl
def Gd(u:bN):Prop:=u≠[60]/\u≠[62]
def W4:TK->Prop
 |[]=>True
 |u::ts=>((u=[60]\/u=[62])->∀v,ts.head?=some v->v.head?≠some 61)/\W4 ts
def W4.to:∀{ts:TK},W4 ts->R5 ts
 |[],_,j,u,v,e1,_,_=>by simp at e1
 |w::ts,h,0,u,v,e1,e2,hu=>by
  simp at e1;subst e1
  exact h.1 hu v (by rw[List.head?_eq_getElem?];simpa using e2)
 |w::ts,h,j+1,u,v,e1,e2,hu=>W4.to h.2 j u v (by simpa using e1) (by simpa using e2) hu
def W4.gd:∀{ts:TK},(∀u∈ts,Gd u)->W4 ts
 |[],_=>trivial
 |u::ts,h=>⟨fun z=>by rcases z with z | z;exact absurd z (h u (by simp)).1;exact absurd z (h u (by simp)).2,W4.gd fun v hv=>h v (by simp[hv])⟩
def W4.app:∀{a b:TK},W4 a->W4 b->(∀u,a.getLast?=some u->Gd u)->W4 (a++b)
 |[],b,_,hb,_=>hb
 |[u],b,_,hb,hl=>⟨fun z=>by have:=hl u rfl;rcases z with z | z;exact absurd z this.1;exact absurd z this.2,hb⟩
 |u::v::a,b,ha,hb,hl=>⟨ha.1,W4.app ha.2 hb fun w hw=>hl w (by simpa using hw)⟩
def dq(tk:TK):Int:=n8 [91] [93] tk
def qZ:∀a b:TK,dq (a++b)=dq a+dq b
 |[],b=>by show dq b=(0:Int)+_;lia
 |u::a,b=>by
  show dq (a++b)+_=dq a+_+_
  rw[qZ a b];lia
structure WY(n:Nat)(ts:TK):Prop where
 all:dq ts=0
 up:∀i,dq (ts.take i)<=n
def WY.of{ts:TK}(h:∀u∈ts,u≠[91]/\u≠[93]):WY n ts:=⟨ue h,fun i=>by show n8 _ _ _<=_;rw[ue fun u hu=>h u (fz hu)];lia⟩
def WY.app(h:WY n a)(g:WY n b):WY n (a++b):=⟨by rw[qZ,h.all,g.all];rfl,fun i=>by
 rw[jc,qZ]
 by_cases hi:i<=a.length
 ·rw[show i-a.length=0 by lia,eY]
  have:=h.up i
  show _+(0:Int)<=_
  lia
 ·rw[bP (by lia),h.all]
  have:=g.up (i-a.length)
  lia⟩
def WY.box(ha:WY n a):WY (n+1) ([91]::(a++[[93]])):=by
 have ZH:dq [[91]]=1:=by decide
 have e41:dq [[93]]=-1:=by decide
 refine⟨?_,fun i=>?_⟩
 ·show dq ([[91]]++(a++[[93]]))=0
  rw[qZ,qZ,ha.all,ZH,e41];rfl
 ·cases i with
  |zero=>rw[eY];show(0:Int)<=_;lia
  |succ i=>
   show dq ([[91]]++(a++[[93]]).take i)<=_
   rw[qZ,ZH,jc,qZ]
   have h1:=ha.up i
   by_cases z:i-a.length=0
   ·rw[z,eY]
    show 1+(_+(0:Int))<=_
    lia
   ·rw[bP (show a.length<=i by lia),ha.all,bP (by simp;lia),e41]
    lia
def WY.mono{m:Nat}(h:WY n a)(e:n<=m):WY m a:=⟨h.all,fun i=>by have:=h.up i;lia⟩
structure Tq(b:Nat)(tk:TK):Prop where
 g:∀u∈tk,Ku u
 p:W9 20 tk
 s:WY b tk
 j:W4 tk
 l:∀u,tk.getLast?=some u->Gd u
def Tq.nil(b:Nat):Tq b []:=⟨(fun u hu=>nomatch hu),.nil 20,.of (fun u hu=>nomatch hu),trivial,(fun u hu=>nomatch hu)⟩
def Tq.app(h:Tq b x)(k:Tq b y):Tq b (x++y):=⟨fun u hu=>(List.mem_append.mp hu).elim (h.g u) (k.g u),h.p.app k.p,h.s.app k.s,h.j.app k.j h.l,fun u hu=>by
 rw[List.getLast?_append] at hu
 cases e:y.getLast? with
 |none=>rw[e] at hu;exact h.l u (by simpa using hu)
 |some v=>rw[e] at hu;simp at hu;subst hu;exact k.l v e⟩
def Tq.mono{c:Nat}(h:Tq b x)(e:b<=c):Tq c x:=⟨h.g,h.p,h.s.mono e,h.j,h.l⟩
def Tq.one{u:bN}(h:u∈MI):Tq b [u]:=by
 have key:∀u∈MI,u≠[40]/\u≠[41]/\u≠[91]/\u≠[93]/\u≠[60]/\u≠[62]/\∀x∈u,x<128:=by decide
 obtain⟨a1,a2,a3,a4,a5,a6,a7⟩:=key u h
 exact⟨fun v hv=>by rw[aE.mp hv];exact⟨a7,.inl (.inr h)⟩,.one _ a1 a2,.of fun v hv=>by rw[aE.mp hv];exact⟨a3,a4⟩,.gd fun v hv=>by rw[aE.mp hv];exact⟨a5,a6⟩,fun v hv=>by simp at hv;subst hv;exact⟨a5,a6⟩⟩
def Qx{c:Nat}(h:c∈DR)(hc:c<128):Ku [c]:=⟨fun x hx=>by rw[aE.mp hx];exact hc,.inr (.inl ⟨c,h,rfl⟩)⟩
def Tq.box(h:Tq b x):Tq (b+1) ([91]::(x++[[93]])):=by
 have o:W9 20 [[91]]:=.one _ (by decide) (by decide)
 have c:W9 20 [[93]]:=.one _ (by decide) (by decide)
 refine⟨fun u hu=>?_,o.app (h.p.app c),h.s.box,?_,fun u hu=>?_⟩
 ·simp at hu
  rcases hu with rfl | hu | rfl
  ·exact Qx (by decide) (by decide)
  ·exact h.g u hu
  ·exact Qx (by decide) (by decide)
 ·refine⟨(fun z=>by rcases z with z | z<;>exact absurd z (by decide)),h.j.app (.gd fun u hu=>?_) h.l⟩
  rw[aE.mp hu];exact⟨by decide,by decide⟩
 ·rw[show[91]::(x++[[93]])=([91]::x)++[[93]] from rfl,List.getLast?_concat] at hu
  cases hu;exact⟨by decide,by decide⟩
def OT(h:Yo u):Gd u/\u.head?≠some 61:=by
 rcases h.2.2 with g | ⟨c,rfl,g⟩
 ·obtain⟨c,cs,rfl,hc⟩:=ww g
  exact⟨⟨fun e=>by cases e;lia,fun e=>by cases e;lia⟩,fun e=>by simp at e;lia⟩
 ·exact⟨⟨fun e=>by cases e;lia,fun e=>by cases e;lia⟩,fun e=>by simp at e;lia⟩
def Tq.trm(h:Vp (AR 21) T):Tq b (jr T):=by
 have hq:=HK (wc 21) h
 exact⟨fun u hu=>(hq u hu).g,Nv (Km 21) h,.of fun u hu=>(hq u hu).2.1,.gd fun u hu=>(OT (hq u hu)).1,fun u hu=>(OT (hq u (List.mem_of_getLast? hu))).1⟩
def NM(h:Vp (AR 21) T):∃u us,jr T=u::us:=by
 obtain⟨⟨⟨m,a,s,po⟩,fs⟩,qs⟩:=T
 obtain⟨u,us,e,_⟩:=LX 21 _ _ h.1.1.2.1
 have e:a=u::us:=e
 subst e
 cases m with
 |zero=>exact⟨_,_,rfl⟩
 |succ m=>exact⟨_,_,rfl⟩
def Tq.cmp{g:bN}(hT:Vp (AR 21) T)(hg:g∈q9)(hU:Vp (AR 21) U):Tq b (jr T++g::jr U):=by
 have key:∀g∈q9,g≠[40]/\g≠[41]/\g≠[91]/\g≠[93]/\∀x∈g,x<128:=by decide
 obtain⟨a1,a2,a3,a4,a7⟩:=key g hg
 have t:=Tq.trm (b:=b) hT
 have u:=Tq.trm (b:=b) hU
 have gg:Ku g:=⟨a7,by
  revert hg
  simp only[q9,aM,ga,B6]
  rintro(rfl | rfl | rfl | rfl | rfl | rfl)
  ·exact .inr (.inl ⟨60,by decide,rfl⟩)
  ·exact .inr (.inl ⟨61,by decide,rfl⟩)
  ·exact .inr (.inl ⟨62,by decide,rfl⟩)
  ·exact .inr (.inr ⟨60,.inl rfl,rfl⟩)
  ·exact .inr (.inr ⟨62,.inr (.inl rfl),rfl⟩)
  ·exact .inr (.inr ⟨33,.inr (.inr rfl),rfl⟩)⟩
 obtain⟨v,vs,ev⟩:=NM hU
 have hv:=OT (HK (wc 21) hU v (by rw[ev];simp))
 refine⟨fun w hw=>?_,t.p.app (W9.app (.one _ a1 a2) u.p),t.s.app (WY.app (.of fun w hw=>by rw[aE.mp hw];exact⟨a3,a4⟩) u.s),t.j.app ⟨fun _ w hw=>?_,u.j⟩ t.l,fun w hw=>?_⟩
 ·rcases List.mem_append.mp hw with hw | hw
  ·exact t.g w hw
  ·rcases aM.mp hw with rfl | hw
   ·exact gg
   ·exact u.g w hw
 ·rw[ev] at hw;simp at hw;subst hw;exact hv.2
 ·rw[show jr T++g::jr U=(jr T++[g])++jr U by simp,List.getLast?_append] at hw
  refine u.l w ?_
  cases e:(jr U).getLast? with
  |none=>rw[List.getLast?_eq_none_iff,ev] at e;cases e
  |some x=>rw[e] at hw;simpa using hw
def Tq.pre:∀ps:List mo,Tq b (cF ps)
 |[]=>.nil b
 |.neg::ps=>(Tq.one (by decide)).app (Tq.pre ps)
 |.qu a l::ps=>((Tq.one (by cases a<;>decide)).app (Tq.one (by cases l<;>decide))).app (Tq.pre ps)
inductive Rw:Sg->List mo->n9->Nat->Prop where
 |is {b A B:Bd} {p:bN×aS} {T U:Hg}:Vp (AR 21) T->Vp (AR 21) U->Runs (rJ T) [] [A]->Runs (rJ U) [] [B]->Wn 1000 A->Wn 1000 B->im A (oS B)=b->p∈Wi->Rw (.is b p) [] (.cmp (T,p.1,U)) 0
 |neg {s:Sg} {ps:List mo} {c:n9} {m:Nat}:Rw s ps c m->Rw (.neg s) (.neg::ps) c m
 |qu {a l:Bool} {s:Sg} {ps:List mo} {c:n9} {m:Nat}:Rw s ps c m->Rw (.qu a l s) (.qu a l::ps) c m
 |two {a:Bool} {s t:Sg} {p q:List mo} {c e:n9} {m m':Nat}:Rw s p c m->p.length<=20->Rw t q e m'->q.length<=20->Rw (.two a s t) [] (.two a p c q e) (max m m'+1)
def Kf{p:bN×aS}(h:p∈Wi):p.1∈q9:=(show ∀p∈Wi,p.1∈q9 by decide) p h
def Rw.ok(h:Rw s ps c m):jl (AR 21) c:=by
 induction h with
 |is hT hU _ _ _ _ _ hp=>exact⟨hT,Kf hp,hU⟩
 |neg _ ih=>exact ih
 |qu _ ih=>exact ih
 |two _ h1 _ h2 i1 i2=>exact⟨h1,h2,i1,i2⟩
def Rw.tq(h:Rw s ps c m):Tq m (kx c):=by
 induction h with
 |is hT hU _ _ _ _ _ hp=>exact Tq.cmp hT (Kf hp) hU
 |neg _ ih=>exact ih
 |qu _ ih=>exact ih
 |@two a s t p q c e m m' _ _ _ _ i1 i2=>
  have b1:=i1.mono (Nat.le_max_left m m')
  have b2:=i2.mono (Nat.le_max_right m m')
  have:=((Tq.pre p).app (b1.app ((Tq.one (u:=aw a) (by cases a<;>decide)).app ((Tq.pre q).app b2)))).box
  have e2:kx (.two a p c q e)=[91]::((cF p++(kx c++([aw a]++(cF q++kx e))))++[[93]]):=by simp[kx]
  rw[e2];exact this
def Rw.run(h:Rw s ps c m):∀pre:aU,VS (rS c++cP ps) pre (pre++[dS s]):=by
 induction h with
 |@is b A B p T U hT hU rT rU hA hB eb hp=>
  intro pre
  have r1:=VS.term pre rT
  have r2:=VS.term (pre++[aZ A]) rU
  have st:Wk p.1 (pre++[aZ A]++[aZ B]) (pre++[Td (im A (oS B)) p.2]):=.cmp hp hA hB
  rw[eb] at st
  have e:rS (.cmp (T,p.1,U))++cP []=rJ T++(rJ U++[p.1]):=by simp[rS,Cd,cP]
  rw[e]
  simp at r1 r2
  refine r1.app (VS.app (by simpa using r2) (.cons st .nil))
 |@neg s ps c _ _ ih=>
  intro pre
  have e:rS c++cP (.neg::ps)=(rS c++cP ps)++[V1]:=by simp[cP,DP]
  rw[e]
  exact(ih pre).app (.cons .neg .nil)
 |@qu a l s ps c _ _ ih=>
  intro pre
  have e:rS c++cP (.qu a l::ps)=(rS c++cP ps)++[DP (.qu a l)]:=by simp[cP]
  rw[e]
  exact(ih pre).app (.cons .qu .nil)
 |@two a s t p q c e _ _ _ _ _ _ i1 i2=>
  intro pre
  have e1:rS (.two a p c q e)++cP []=(rS c++cP p)++((rS e++cP q)++[aw a]):=by simp[rS,cP]
  rw[e1]
  exact(i1 pre).app ((i2 (pre++[dS s])).app (.cons .two .nil))
def DO(ps:List mo):(cP ps).length<=(cF ps).length:=by
 induction ps with
 |nil=>exact aj _
 |cons p ps ih=>
  have:(PQ p).length ≥ 1:=by cases p<;>simp[PQ]
  simp[cP,cF] at ih ⊢;lia
def DQ:∀{c:n9},jl (AR 21) c->(rS c).length<=(kx c).length
 |.cmp x,h=>by
  have:=HR (DM 21) (show Vp (AR 21) x.1 from h.1)
  have:=HR (DM 21) (show Vp (AR 21) x.2.2 from h.2.2)
  simp[rS,kx,Cd,DI];lia
 |.two a p c q e,h=>by
  have:=DQ (show jl (AR 21) c from h.2.2.1)
  have:=DQ (show jl (AR 21) e from h.2.2.2)
  have:=DO p
  have:=DO q
  simp[rS,kx];lia
def Rw.back(h:Rw s ps c m)(hp:ps.length<=20)(hm:m<=20)(hl:Lex cs (cF ps++kx c))(h1:∀x∈cs,x<128)(hz:cs.length<=2000):dC (AR 21) [.str (S cs)] (dS s):=by
 have t:=((Tq.pre ps).app h.tq).mono hm
 have ln:=hl.len
 have a1:=DQ h.ok
 have a2:=DO ps
 refine⟨cs,(ps,c),rfl,hl,h1,hz,fun u hu=>(t.g u hu).1,fun i _=>⟨?_,?_⟩,⟨hp,h.ok⟩,?_,h.run []⟩
 ·have:=t.p.2 i
  exact this
 ·exact t.s.up i
 ·have e1:(HV (ps,c)).length=(rS c).length+(cP ps).length:=by simp[HV]
  rw[ac] at ln
  lia
structure Dt(o:Ot):Prop where
 ko:V0 o.kv
 kd:V9 9 o.kv
 ex:∃(T:Hg) (A:Bd),Vp (AR 21) T/\jr T=o.tk/\Runs (rJ T) [] [A]/\Va A/\(∀φ,bs A φ=ds o.kv φ)/\Wn 1000 A
def Dt.of{n m:Nat}{o:Ot}(hn:n<=21)(hm:m<=8)(h:PY n m M o):Dt o:=by
 obtain⟨hv,T,hT,e1,e2⟩:=h
 obtain⟨A,okA,bA,rA⟩:=hv.bd
 have kd:V9 9 o.kv:=fun z hz=>let ⟨i,k,e,a,b⟩:=hv.kd z hz;⟨i,k,e,by lia,by lia⟩
 exact⟨hv.ko,kd,T,A,hT.mono (NB hn),e1,by rw[e2];exact rA [],okA,bA,(mN okA bA kd).sm (by decide)⟩
def Oy:zq [48]:=⟨by simp,fun c hc=>by simp at hc;lia,by simp,fun _=>rfl⟩
def T0:Hg:=((⟨0,[[48]],[[48]],none⟩,[]),[])
def Dq:Vp (AR 21) T0:=⟨⟨⟨be _,.inl ⟨[48],.inl Oy,rfl,rfl⟩,fun d e=>by cases e⟩,fun f hf=>nomatch hf⟩,fun q hq=>nomatch hq⟩
def QP:fU 0=[48]:=by decide
def Dt.zero(xs:aS):Dt (zO xs):=by
 have v:=EY (n:=0) (m:=0) xs (by decide)
 obtain⟨A,okA,bA,rA⟩:=v.bd
 have r:=rA []
 have bA':∀φ,bs A φ=ds ([]:eG) φ:=fun φ=>by rw[bA];show(0:Int)*_+(0:Int)=0;lia
 have kd:V9 9 ([]:eG):=fun z hz=>nomatch hz
 refine⟨V0.nil,kd,T0,A,Dq,rfl,?_,okA,bA',(mN okA bA' kd).sm (by decide)⟩
 have e:(⟨[fU 0],[fU 0],[(nk 0 0,((0:Nat):Int))],xs⟩:Ot).st=[[48]]:=by show[fU 0]=_;rw[QP]
 rw[e] at r
 exact r
def OU(ns:aS):Dt (j4 ns):=.of (by decide) (by have:=(r4 (aR ns)).1;lia) (Uc ns.dropLast (aR ns%4).toNat (by have:=(r4 (aR ns)).1;lia))
def NZ(xs:aS):Dt (lV xs):=by
 unfold lV
 split
 ·exact .of (by decide) (by have:=(r4 (aR xs.dropLast)).1;lia) (NV xs.dropLast.dropLast (aR xs.dropLast%4).toNat (by have:=(r4 (aR xs.dropLast)).1;lia))
 ·exact .zero _
def FO{kv:eG}(h:V0 kv):∀p∈kv,∃i k:Nat,p.1=nk i k:=h.keys
def Ka(xs:aS):Rj xs∈Wi:=by
 unfold Rj
 have h:aR xs%6=0\/aR xs%6=1\/aR xs%6=2\/aR xs%6=3\/aR xs%6=4\/aR xs%6=5:=by lia
 rcases h with e | e | e | e | e | e<;>rw[e]<;>decide
def Pf{o q:Ot}(ho:Dt o)(hq:Dt q){p:bN×aS}(hp:p∈Wi):∃c,Rw (.is (qj (eB o.kv q.kv (-1))) p) [] c 0/\kx c=o.tk++[p.1]++q.tk:=by
 obtain⟨T,A,hT,eT,rT,okA,bA,smA⟩:=ho.ex
 obtain⟨U,B,hU,eU,rU,ZR,bB,smB⟩:=hq.ex
 refine⟨.cmp (T,p.1,U),.is hT hU rT rU smA smB ?_ hp,?_⟩
 ·have k:=kD (-1) (fun _ _=>0) q.kv o.kv ho.ko (FO hq.ko)
  have ki:=pX (-1) q.kv o.kv ho.kd hq.kd
  refine uj (jW _ _) (EH _) fun i k'=>?_
  rw[BF,<-mM,qi,xH,bA,bB]
  have e:=(kD (-1) (oY i k') q.kv o.kv ho.ko (FO hq.ko)).2
  by_cases z:i<9/\k'<9
  ·rw[au z,<-Pg k.1,e];lia
  ·have e2:=EA (i:=i) (k:=k') (by lia) ki
   rw[aq z]
   rw[e] at e2
   lia
 ·show jr T++p.1::jr U=_
  rw[eT,eU];simp
def Ke(ns:aS):∃c,Rw (s8 ns).y [] c 0/\kx c=(s8 ns).tk:=Pf (OU ns) (NZ _) (Ka _)
def Hu:∀(m:Nat) (ns:aS),m<=20->∃ps c b,Rw (ky m ns).y ps c b/\cF ps++kx c=(ky m ns).tk/\ps.length<=m/\b<=m
 |0,ns,_=>by
  obtain⟨c,h1,h2⟩:=Ke ns.dropLast
  exact⟨[],c,0,h1,h2,aj _,aj _⟩
 |m+1,ns,hm=>by
  obtain⟨ps,c,b,h1,h2,h3,h4⟩:=Hu m ns.dropLast (by lia)
  obtain⟨qs,e,b',g1,g2,g3,g4⟩:=Hu m (ky m ns.dropLast).xs (by lia)
  rw[ky]
  split
  ·obtain⟨c,h1,h2⟩:=Ke ns.dropLast
   exact⟨[],c,0,h1,h2,be _,be _⟩
  split
  ·refine⟨.neg::ps,c,b,.neg h1,?_,by simp;lia,by lia⟩
   rw[<-h2];rfl
  split
  ·refine⟨[],.two (aX ns) ps c qs e,max b b'+1,.two h1 (by lia) g1 (by lia),?_,be _,by lia⟩
   show[91]::(cF ps++(kx c++(aw (aX ns)::(cF qs++(kx e++[[93]])))))=_
   rw[<-h2,<-g2];simp
  ·refine⟨.qu (aX ns) (lX ns)::ps,c,b,.qu h1,?_,by simp;lia,by lia⟩
   rw[<-h2];rfl
def Kx:Sg->Prop
 |.is b p=>Va b/\Wn 1000 b/\p∈Wi
 |.neg s=>Kx s
 |.qu _ _ s=>Kx s
 |.two _ s t=>Kx s/\Kx t
def m5(ds:aU)(d:D):Prop:=∃i:Int,ds=[.int i]/\d=.bl true
def Bb:∀ds d,m5 ds d->ds.length=1:=by rintro _ _ ⟨_,rfl,_⟩;rfl
def xR(ds:aU)(d:D):Prop:=∃f:aS,ds=[bU f]/\V7 f/\f.length<1000/\d=.bl true
def Em:∀ds d,xR ds d->ds.length=1:=by rintro _ _ ⟨_,rfl,_⟩;rfl
def rF(ds:aU)(d:D):Prop:=∃b:Bd,ds=[aZ b]/\Va b/\Wn 1000 b/\d=.bl true
def Bc:∀ds d,rF ds d->ds.length=1:=by rintro _ _ ⟨_,rfl,_⟩;rfl
def pN(ds:aU)(d:D):Prop:=∃l:Bool,ds=[.str (S (lw l))]/\d=.bl true
def yr:∀ds d,pN ds d->ds.length=1:=by rintro _ _ ⟨_,rfl,_⟩;rfl
def pO(ds:aU)(d:D):Prop:=∃p∈Wi,ds=[bU p.2]/\d=.bl true
def yt:∀ds d,pO ds d->ds.length=1:=by rintro _ _ ⟨_,_,rfl,_⟩;rfl
def ut(ds:aU)(d:D):Prop:=∃y,ds=[dS y]/\Kx y/\d=.bl true
def CT:∀ds d,ut ds d->ds.length=1:=by rintro _ _ ⟨_,rfl,_⟩;rfl
def yy:Sg->List Sg
 |.is _ _=>[]
 |.neg s=>[s]
 |.qu _ _ s=>[s]
 |.two _ s t=>[s,t]
def mX(ds:aU)(d:D):Prop:=∃y,ds=[dS y]/\d=.lst ((yy y).map dS)
def w9:∀ds d,mX ds d->ds.length=1:=by rintro _ _ ⟨_,rfl,_⟩;rfl
def nS:Sg->Nat
 |.is _ _=>1
 |.neg s=>nS s+1
 |.qu _ _ s=>nS s+1
 |.two _ s t=>nS s+nS t+1
def pK(ds:aU)(d:D):Prop:=∃y,ds=[dS y]/\Kx y/\nS y<=10000/\d=.bl true
def yp:∀ds d,pK ds d->ds.length=1:=by rintro _ _ ⟨_,rfl,_⟩;rfl
def six:List PyData:=[.tuple [.int (-1)],.tuple [.int 0],.tuple [.int 1],.tuple [.int (-1),.int 0],.tuple [.int 0,.int 1],.tuple [.int (-1),.int 1]]
def EQ(n:Nat):(List.replicate n true).all id=true:=by induction n<;>simp_all [aA]
def Ef{α:Type}(xs:List α):xs.map (fun _=>D.bl true)=(List.replicate xs.length true).map D.bl:=by induction xs<;>simp_all [aA]
def GX:Sg->Str
 |.is _ _=> "is"
 |.neg _=> "not"
 |.qu a _ _=>S (qw a)
 |.two a _ _=>S (aw a)
def Hn:Sg->aU
 |.is b p=>[aZ b,bU p.2]
 |.neg s=>[dS s]
 |.qu _ l s=>[.str (S (lw l)),dS s]
 |.two _ s t=>[dS s,dS t]
def Nq(y:Sg):dS y=.tup (.str (GX y)::Hn y):=by cases y<;>rfl
def Jw(y:Sg):PyData.strOk (GX y)=true:=by
 cases y with
 |is=>exact(show PyData.strOk "is"=true by decide)
 |neg=>exact(show PyData.strOk "not"=true by decide)
 |qu a=>exact fv (by cases a<;>decide)
 |two a=>exact fv (Dp a)
def Rg(x:D)(xs:aU):EV.cutD (x::xs) (some 1) none=xs:=by
 unfold EV.cutD
 simp[HT.Vo]
def EM(h:DefX P w K mg base k rj (ai mD) X)(U6:mg "isinstance"=none)(Ws:mg "int"=none)(ZV:mg "bool"=none):
  Go X rj mD m5:=by
 rintro ds r ⟨i,rfl,rfl⟩
 have t:=h.at'
 haveI:=h.VI
 have b1:=h.bt U6
 have b2:=h.bt Ws
 have b3:=h.bt ZV
 exact aC (bp (U1.eq (sU (JK t b1 b2 (aa t 0) rfl) fun _=>Ma (Md t b1 b3 (aa t 0) rfl)) rfl))
def Ko(h:DefX P w K mg base k xO (ai sA) X)(U6:mg "isinstance"=none)(Vf:mg "tuple"=none)(Xk:mg "all"=none)(c1:EV.Callee X "is_whole" m5):
  Go X xO sA xR:=by
 rintro ds r ⟨f,rfl,hf,hl,rfl⟩
 have t:=h.at'
 haveI:=h.VI
 have b1:=h.bt U6
 have b2:=h.bt Vf
 have b3:=h.bt Xk
 refine ax (cA (U3.eq (ji (U3.eq (hV (eE (sR t b1 b2 (aa t 0) rfl))) rfl) fun _=>U3.eq (hV (eE (Bv t b3 (U9.toQ (U9.eq (iS t ["thing", "number"] (KO (by decide)) (xz (aa t 0)) (by rw[ag,fZ];lia) fun X' cx=>VP.all (fun d=>[.val (bU f),.val d]) (fun _=>.bl true) (f.map D.int) _ (fun d hd=>cH cx.at' 1) (fun d hd e he=>cH cx.at' 1) fun d hd=>by
  obtain⟨i,_,rfl⟩:=List.mem_map.mp hd
  exact a9 cx.at' (cx.callee c1) (ab (aa cx.at' 1 rfl) af) ⟨i,rfl,rfl⟩) (Ef _)))))) (by rw[EQ]<;>rfl)) rfl) bR) ?_
 rcases hf with rfl | ⟨ys,a,rfl,ha⟩
 ·exact aC (bp (JI (xp t (U1.p (aa t 0)) (U1.p (aD af)) (bz []) (bz []) (by have:=hZ [] [];exact this))))
 ·exact aC (bp (JJ (xp t (U1.p (aa t 0)) (U1.p (aD af)) (bz _) (bz []) (by have:=hZ (ys++[a]) [];rw[ak (by simp)] at this;exact this)) (Es (U1.eq (O6 t (cb (U1.qt (aa t 0)) (gA ah) (by rw[aJ];exact tm (.inl rfl))) ah) (by rw[ak ha];rfl)))))
def EN(h:DefX P w K mg base k rk (ai mE) X)(U6:mg "isinstance"=none)(Vf:mg "tuple"=none)(Xk:mg "all"=none)(c1:EV.Callee X "is_row" xR):
  Go X rk mE rF:=by
 rintro ds r ⟨b,rfl,hb,hl,rfl⟩
 have t:=h.at'
 haveI:=h.VI
 have b1:=h.bt U6
 have b2:=h.bt Vf
 have b3:=h.bt Xk
 have hl1:=hl.1
 refine ax (cA (U3.eq (ji (U3.eq (hV (eE (sR t b1 b2 (aa t 0) rfl))) rfl) fun _=>U3.eq (hV (eE (Bv t b3 (U9.toQ (U9.eq (iS t ["thing", "row"] (KO (by decide)) (xz (aa t 0)) (by rw[ag,fZ];lia) fun X' cx=>VP.all (fun d=>[.val (aZ b),.val d]) (fun _=>.bl true) (b.map bU) _ (fun d hd=>cH cx.at' 1) (fun d hd e he=>cH cx.at' 1) fun d hd=>by
  obtain⟨r,hr,rfl⟩:=List.mem_map.mp hd
  exact a9 cx.at' (cx.callee c1) (ab (aa cx.at' 1 rfl) af) ⟨r,rfl,hb.2 r hr,hl.2 r hr,rfl⟩) (Ef _)))))) (by rw[EQ]<;>rfl)) rfl) bR) ?_
 rcases hb.1 with rfl | ⟨ys,a,rfl,ha⟩
 ·exact aC (bp (JI (xp t (U1.p (aa t 0)) (U1.p (aD af)) (bz []) (bz []) (by have:=hZ [] [];exact this))))
 ·exact aC (bp (JJ (xp t (U1.p (aa t 0)) (U1.p (aD af)) (fH _) (bz []) (by have:=iz (ys++[a]);rw[ak (by simp)] at this;exact this)) (Es (Et t (U1.p (cb (U1.qt (aa t 0)) (gA ah) (by rw[aJ];exact tm (.inl rfl)))) (U1.p (d:=bU []) (aD af)) (bz a) (bz []) (by rw[hZ,ak ha];rfl)))))
def Dk(h:DefX P w K mg base k pj (ai kN) X)(U6:mg "isinstance"=none)(WL:mg "str"=none)(g1:P0 mg K "LETTERS" (.tuple [.str "x",.str "y"])):
  Go X pj kN pN:=by
 rintro ds r ⟨l,rfl,rfl⟩
 have t:=h.at'
 haveI:=h.VI
 have b1:=h.bt U6
 have b2:=h.bt WL
 obtain⟨a,gm,gk⟩:=g1
 exact aC (bp (U1.eq (sU (xm t b1 b2 (aa t 0) rfl) fun _=>O9 t (aa t 0) (by rw[h.WD];exact gm) (by rw[h.k'];exact gk) (fv (by cases l<;>decide))) (bv D.bl (by cases l<;>decide))))
def Dl(h:DefX P w K mg base k pk (ai kO) X)(U6:mg "isinstance"=none)(Vf:mg "tuple"=none)(Xk:mg "all"=none)(c1:EV.Callee X "is_whole" m5)(g1:P0 mg K "SIGNS_SAID" (.tuple six)):
  Go X pk kO pO:=by
 rintro ds r ⟨p,hp,rfl,rfl⟩
 have t:=h.at'
 haveI:=h.VI
 have b1:=h.bt U6
 have b2:=h.bt Vf
 have b3:=h.bt Xk
 obtain⟨l,gm,gk⟩:=g1
 have f:=Bo p.2
 have hl:p.2.length<=2:=(show ∀p∈Wi,p.2.length<=2 by decide) p hp
 refine aC (bp (U1.eq (Mi (sR t b1 b2 (aa t 0) rfl) (fun _=>U1.eq (Bv t b3 (U9.toQ (U9.eq (iS t ["thing", "sign"] (KO (by decide)) (xz (aa t 0)) (by rw[ag,fZ];lia) fun X' cx=>VP.all (fun d=>[.val (bU p.2),.val d]) (fun _=>.bl true) (p.2.map D.int) _ (fun d hd=>cH cx.at' 1) (fun d hd e he=>cH cx.at' 1) fun d hd=>by
  obtain⟨i,_,rfl⟩:=List.mem_map.mp hd
  exact a9 cx.at' (cx.callee c1) (ab (aa cx.at' 1 rfl) af) ⟨i,rfl,rfl⟩) (Ef _)))) (by rw[EQ])) fun _ _=>JM t (U1.p (aa t 0)) (j7 t (by rw[h.WD];exact gm) (by rw[h.k'];exact gk)) f.1 (by have:=f.2.1;show(e8 (bU p.2)).depth<=62;lia) (by decide) ?_) rfl))
 exact(show ∀p∈Wi,(six.any fun y=>PyData.eqv y (e8 (bU p.2)))=true by decide) p hp
def Hc(h:DefX P w K mg base k uq (ai p0) X)(Vc:mg "len"=none)(U6:mg "isinstance"=none)(Vf:mg "tuple"=none)(WL:mg "str"=none)(c1:EV.Callee X "is_letter" pN)(c2:EV.Callee X "is_board" rF)(c3:EV.Callee X "are_signs" pO)(g1:P0 mg K "BINDERS" (.tuple [.str "some",.str "all"])):
  Go X uq p0 ut:=by
 rintro ds r ⟨y,rfl,hy,rfl⟩
 have t:=h.at'
 haveI:=h.VI
 have b1:=h.bt U6
 have b2:=h.bt Vf
 have b3:=h.bt Vc
 have b4:=h.bt WL
 obtain⟨l,gm,gk⟩:=g1
 rw[Nq]
 have hl:(D.str (GX y)::Hn y).length=2\/(D.str (GX y)::Hn y).length=3:=by cases y<;>simp[Hn]
 have h23:(!(decide ((D.str (GX y)::Hn y).length=2)||decide ((D.str (GX y)::Hn y).length=3)))=false:=by rcases hl with e | e<;>rw[e]<;>rfl
 have hw:=Jw y
 have n0:∀{p1 p2 p3:Pos} {j:Nat},U1 X [.val (.tup (.str (GX y)::Hn y))] (.Subscript (.Name "thing" p1) (.Constant (.int 0) j p2) p3) (.str (GX y)):=t7 0 (aa t 0) ah rfl rfl
 have ln:∀{p1 p2 p3:Pos},U1 X [.val (.tup (.str (GX y)::Hn y))] (.Call (.Name "len" p1) [.Name "thing" p2] [] p3) (.int ((.str (GX y)::Hn y:aU).length:Nat)):=dy t b3 (U1.qt (aa t 0))
 refine ax (cA (U3.eq (JT (U3.eq (hV (eE (sR t b1 b2 (aa t 0) rfl))) rfl) (fun _=>U3.eq (F8 t ln (aD (ab ah (ab ah af))) rfl (Mr _) rfl (QR _)) h23) (fun _ _=>U3.eq (hV (eE (xm t b1 b4 n0 rfl))) rfl)) rfl) bR) ?_
 cases y with
 |neg s=>exact gB (e9 (U3.eq (b0 t n0 U0 hw) (show decide (("not" : Str)="not")=true by decide)) (aC (bp (U1.eq (Pb t ln ah) rfl))))
 |is b p=>
  refine ax (cA (U3.eq (b0 t n0 U0 hw) (show decide (("is" : Str)="not")=false by decide)) bR) (ax (cA (U3.eq (dM ln ah) rfl) bR) (gB (e9 (U3.eq (b0 t n0 U0 hw) (show decide (("is" : Str)="is")=true by decide)) (aC (bp (U1.eq (sU (a9 t c2 (ab (t7 1 (aa t 0) ah rfl rfl) af) ⟨b,rfl,hy.1,hy.2.1,rfl⟩) fun _=>a9 t c3 (ab (t7 2 (aa t 0) ah rfl rfl) af) ⟨p,hy.2.2,rfl,rfl⟩) rfl))))))
 |qu a x s=>
  refine ax (cA (U3.eq (b0 t n0 U0 hw) (show decide (S (qw a)="not")=false by cases a<;>decide)) bR) (ax (cA (U3.eq (dM ln ah) rfl) bR) (ax (cA (U3.eq (b0 t n0 U0 hw) (show decide (S (qw a)="is")=false by cases a<;>decide)) bR) (gB (e9 (U3.eq (xt t n0 (by rw[h.WD];exact gm) (by rw[h.k'];exact gk) hw) (show(decide (S (qw a)="some")||decide (S (qw a)="all"))=true by cases a<;>decide)) (aC (bp (a9 t c1 (ab (t7 1 (aa t 0) ah rfl rfl) af) ⟨x,rfl,rfl⟩)))))))
 |two a s u=>
  refine ax (cA (U3.eq (b0 t n0 U0 hw) (show decide (S (aw a)="not")=false by cases a<;>decide)) bR) (ax (cA (U3.eq (dM ln ah) rfl) bR) (ax (cA (U3.eq (b0 t n0 U0 hw) (show decide (S (aw a)="is")=false by cases a<;>decide)) bR) (ax (cA (U3.eq (xt t n0 (by rw[h.WD];exact gm) (by rw[h.k'];exact gk) hw) (show(decide (S (aw a)="some")||decide (S (aw a)="all"))=false by cases a<;>decide)) bR) (aC (bp (U1.eq (Pa t n0 hw) (bv D.bl (show(decide (S (aw a)="and")||decide (S (aw a)="or"))=true by cases a<;>decide))))))))
def BS(h:DefX P w K mg base k mP (ai jw) X)(Xj:mg "list"=none)(g1:P0 mg K "BINDERS" (.tuple [.str "some",.str "all"])):
  Go X mP jw mX:=by
 rintro ds r ⟨y,rfl,rfl⟩
 have t:=h.at'
 haveI:=h.VI
 have b1:=h.bt Xj
 obtain⟨l,gm,gk⟩:=g1
 rw[Nq]
 have hw:=Jw y
 have n0:∀{p1 p2 p3:Pos} {j:Nat},U1 X [.val (.tup (.str (GX y)::Hn y))] (.Subscript (.Name "S" p1) (.Constant (.int 0) j p2) p3) (.str (GX y)):=t7 0 (aa t 0) ah rfl rfl
 have bF:∀{p1 p2 p3 p4 p5 p6:Pos} {j:Nat},U1 X [.val (.tup (.str (GX y)::Hn y))] (.Call (.Name "list" p1) [.Subscript (.Name "S" p2) (.Slice (some (.Constant (.int 1) j p3)) none none p4) p5] [] p6) (.lst (Hn y)):=U9.Vm (Gb t b1 (U1.qt (U1.eq (Mg (aa t 0) (fM ah) ma) (by rw[Rg]))))
 cases y with
 |is b p=>exact gB (e9 (U3.eq (b0 t n0 U0 hw) (show decide (("is" : Str)="is")=true by decide)) (aC (bp (U9.Vm (bb af)))))
 |neg s=>exact ax (cA (U3.eq (b0 t n0 U0 hw) (show decide (("not" : Str)="is")=false by decide)) bR) (ax (cA (U3.eq (xt t n0 (by rw[h.WD];exact gm) (by rw[h.k'];exact gk) hw) (show(decide (("not" : Str)="some")||decide (("not" : Str)="all"))=false by decide)) bR) (aC (bp bF)))
 |qu a x s=>exact ax (cA (U3.eq (b0 t n0 U0 hw) (show decide (S (qw a)="is")=false by cases a<;>decide)) bR) (gB (e9 (U3.eq (xt t n0 (by rw[h.WD];exact gm) (by rw[h.k'];exact gk) hw) (show(decide (S (qw a)="some")||decide (S (qw a)="all"))=true by cases a<;>decide)) (aC (bp (U9.Vm (bb (ab (t7 2 (aa t 0) ah rfl rfl) af)))))))
 |two a s u=>exact ax (cA (U3.eq (b0 t n0 U0 hw) (show decide (S (aw a)="is")=false by cases a<;>decide)) bR) (ax (cA (U3.eq (xt t n0 (by rw[h.WD];exact gm) (by rw[h.k'];exact gk) hw) (show(decide (S (aw a)="some")||decide (S (aw a)="all"))=false by cases a<;>decide)) bR) (aC (bp bF)))
def Di(h:DefX P w K mg base k ph (ai kM) X)(Vc:mg "len"=none)(c1:EV.Callee X "is_head" ut)(c2:EV.Callee X "sayings_in" mX):
  Go X ph kM pK:=by
 rintro ds r ⟨y,rfl,hy,hn,rfl⟩
 have t:=h.at'
 haveI:=h.VI
 have b1:=h.bt Vc
 refine ax (jV t 1 (bb (ab (aa t 0) af))) ?_
 refine uc t (fun ws=>[.val (dS y),.own (ws.map dS),.un]) (fun ws=>(∀x∈ws,Kx x)/\(ws.map nS).sum<=10000) (fun ws=>True) (fun ws=>(ws.map nS).sum) [y] ⟨fun x hx=>by rw[aE.mp hx];exact hy,by simp;exact hn⟩ (fun ws hI=>?_) (fun ws _=>aC (bp C2))
 obtain⟨h1,h2⟩:=hI
 rcases cy ws with rfl | ⟨ys,z,e⟩
 ·exact .inl ⟨U3.eq (hW (dy t b1 (eQ t 1 rfl)) ah) rfl,trivial⟩
 rw[cz] at e
 subst e
 have hz:Kx z:=h1 z (by simp)
 have np:∀s:Sg,1<=nS s:=fun s=>by cases s<;>simp[nS]
 have ll:∀vs:List Sg,vs.length<=(vs.map nS).sum:=fun vs=>by
  induction vs with
  |nil=>exact aj _
  |cons v vs ih=>have:=np v;simp;lia
 have hk:((yy z).map nS).sum+1=nS z:=by cases z<;>simp[yy,nS]
 rw[aJ,gO] at h2
 simp only[aT,Hm,List.sum_cons,List.sum_nil] at h2
 refine .inr ⟨U3.eq (hW (dy t b1 (eQ t 1 rfl)) ah) (ay (by simp)),.inr ⟨ys++yy z,U4.weak (ρ1:=[.val (dS y),.own ((ys++yy z).map dS),.val (dS z)]) ?_ (.keep (.keep (.forget .nil))),⟨fun x hx=>?_,?_⟩,?_⟩⟩
 ·have l1:=ll (ys++yy z)
  rw[aJ,gO] at l1
  rw[aJ,aJ]
  refine ax (Ib t 1 2 rfl (by decide)) (ax (cA (U3.eq (hV (eE (a9 t c1 (ab (aa t 2) af) ⟨z,rfl,hz,rfl⟩))) rfl) bR) (aC (Ie t 1 rfl (a9 t c2 (ab (aa t 2) af) ⟨z,rfl,rfl⟩) ?_)))
  rw[ac] at l1
  rw[ag,ag,fZ];lia
 ·rcases List.mem_append.mp hx with q | q
  ·exact h1 x (by simp[q])
  ·cases z with
   |is=>simp[yy] at q
   |neg s=>simp[yy] at q;subst q;exact hz
   |qu a l s=>simp[yy] at q;subst q;exact hz
   |two a s u=>simp[yy] at q;rcases q with rfl | rfl;exact hz.1;exact hz.2
 ·rw[aJ,gO];lia
 ·rw[aJ,gO,aJ,gO];simp;lia
def wX(xs:aS)(k:Nat):Int:=xs.getD (2+k%4) 0 / (1+(k:Int))%3
def wW(i:Int):bN:=if i=0 then V1 else qw (decide (i=1))
def tH(xs:aS):Nat->TK×Sg
 |0=>([[120],[60],[48]],.is [[0,1]] ([60],[-1]))
 |k+1=>if wX xs k=0 then (V1::(tH xs k).1,.neg (tH xs k).2) else (qw (decide (wX xs k=1))::[120]::(tH xs k).1,.qu (decide (wX xs k=1)) true (tH xs k).2)
def IV:Sg:=.is [[],[1]] ([61],[0])
def HY:Nat->Sg
 |0=>IV
 |k+1=>.two true (HY k) IV
def NU(n:Nat):TK:=List.replicate n [91]++List.replicate n [40]++[[121]]++List.replicate n [41]++[[61],[48]]++(List.replicate n [aw true,[121],[61],[48],[93]]).flatten
def rK(xs:aS):Nat:=(xs.getD 1 0%21).toNat
def Fe(xs:aS):TK×Sg:=if xs.getD 0 0%2=0 then tH xs (rK xs) else (NU (rK xs),HY (rK xs))
def kn(ds:aU)(d:D):Prop:=∃xs:aS,ds=[dI xs]/\xs.length=6/\d=.tup [.lst (aO (Fe xs).1),dS (Fe xs).2]
def tV:∀ds d,kn ds d->ds.length=1:=by rintro _ _ ⟨_,rfl,_⟩;rfl
def Qb(xs:aS)(k:Nat):0<=wX xs k/\wX xs k<3:=by unfold wX;lia
def Tw{i:Int}(h:0<=i/\i<3):k7 [D.str "not",.str "some",.str "all"] i=some (.str (S (wW i))):=by
 have:i=0\/i=1\/i=2:=by lia
 rw[show("not" : Str)=S V1 by decide,show("some" : Str)=S (qw true) by decide,show("all" : Str)=S (qw false) by decide]
 rcases this with rfl | rfl | rfl<;>rfl
def Qc(i:Int):PyData.strOk (S (wW i))=true:=fv (by unfold wW;split;decide;exact(by intro c hc;revert hc;cases decide (i=1) <;> (revert c;decide)))
def Qd{i:Int}(h:0<=i/\i<3):(!((e8 (.str (S (wW i)))).eqv (e8 (.str "not"))))=decide (i≠0):=by
 have:i=0\/i=1\/i=2:=by lia
 rcases this with rfl | rfl | rfl<;>decide
def Ff(xs:aS):∀k,(tH xs k).1.length<=3+2*k
 |0=>aj 3
 |k+1=>by
  have:=Ff xs k
  rw[tH]
  split<;>simp<;>lia
def xJ(h:DefX P w K mg base k ke (ai gV) X)(Vn:mg "range"=none)(Ws:mg "int"=none):
  Go X ke gV kn:=by
 rintro ds d ⟨xs,rfl,hl,rfl⟩
 have t:=h.at'
 haveI:=h.VI
 have b1:=h.bt Vn
 have b2:=h.bt Ws
 have hv:∀n:Nat,n<6->k7 (xs.map D.int) (n:Int)=some (.int (xs.getD n 0)):=fun n hn=>xL (by lia)
 have hm:rK xs<=20/\xs.getD 1 0%21=((rK xs:Nat):Int):=by unfold rK;lia
 refine ax (bS t 1 (U1.eq (br (cb (U1.ql (aa t 0)) ah (hv 1 (by lia))) ah (by decide)) (by rw[hm.2]))) ?_
 unfold Fe
 generalize rK xs=n at hm
 by_cases h0:xs.getD 0 0%2=0
 ·rw[au h0]
  refine gB (e9 (U3.eq (dM (br (cb (U1.ql (aa t 0)) ah (hv 0 (by lia))) ah (by decide)) ah) (ay h0)) ?_)
  refine ax (ρ':=[.val (dI xs),.val (.int (n:Nat)),.own (aO (tH xs 0).1),.val (dS (tH xs 0).2),.un,.un,.un]) (Vy.eq (AT t 2 3 (bb (ab U0 (ab U0 (ab U0 af)))) (aD (ab U0 (ab (aD (ab (aD (ab ah (ab ah af))) af)) (ab (aD (ab (gA ah) af)) af)))) (by decide)) ?_) ?_
  ·rw[show("x" : Str)=S [120] by decide,show("<" : Str)=S [60] by decide,show("0" : Str)=S [48] by decide];rfl
  refine gJ 2 rfl ?_
  refine ax (ρ':=[.val (dI xs),.val (.int (n:Nat)),.val (.lst (aO (tH xs n).1)),.val (dS (tH xs n).2),.un,.un,.un]) (i6 t (fj t b1 (aa t 1) (by lia) (by lia)) (Vt.VD (fun j=>[.val (dI xs),.val (.int (n:Nat)),.val (.lst (aO (tH xs j).1)),.val (dS (tH xs j).2),.un,.un,.un]) (fun j d hj=>?_) rfl ?_)) (aC (bp (aD (ab (aa t 2) (ab (aa t 3) af)))))
  ·obtain⟨hjl,rfl⟩:=ir hj
   have hj20:j<20:=by lia
   have wl:=Qb xs j
   have sl:=Ff xs j
   have e4:(2:Int)+(j:Int)%4=((2+j%4:Nat):Int):=by lia
   have ix:k7 (xs.map D.int) (2+(j:Int)%4)=some (.int (xs.getD (2+j%4) 0)):=by rw[e4];exact hv _ (by lia)
   refine⟨_,bf t 4,U4.weak (ρ1:=[.val (dI xs),.val (.int (n:Nat)),.val (.lst (aO (tH xs (j+1)).1)),.val (dS (tH xs (j+1)).2),.val (.int (j:Int)),.val (.str (S (wW (wX xs j)))),.un]) ?_ (.keep (.keep (.keep (.keep (.forget (.forget (.keep .nil)))))))⟩
   refine ax (bS (d:=.str (S (wW (wX xs j)))) t 5 (cb (U9.toQ (bb (ab U0 (ab U0 (ab U0 af))))) (br (hJ t (cb (U1.ql (aa t 0)) (c8 ah (br (aa t 4) ah (by decide))) ix) (c8 ah (aa t 4)) (by lia)) ah (by decide)) (Tw wl))) ?_
   have one:∀(y:D) (tk:D) {p1 p2 p3 p4 p5:Pos} {j2:Nat},U1 X [.val (dI xs),.val (.int (n:Nat)),tk |> Sl.val,.val y,.val (.int (j:Int)),.val (.str (S (wW (wX xs j)))),.un] (.Call (.Name "int" p1) [.Compare (.Name "_law_word" p2) [.NotEq] [.Constant (.str "not") j2 p3] p4] [] p5) (.int (if decide (wX xs j≠0) then 1 else 0)):=fun y tk {p1 p2 p3 p4 p5 j2}=>Bs t b2 (Et t (aa t 5).p U0.p (gR (Qc _)) (gR (by decide)) (Qd wl))
   rw[tH]
   by_cases z:wX xs j=0
   ·rw[au z]
    have ew:wW (wX xs j)=V1:=by rw[z];rfl
    have o0:∀(y tk:D) {p1 p2 p3 p4 p5:Pos} {j2:Nat},U1 X [.val (dI xs),.val (.int (n:Nat)),.val tk,.val y,.val (.int (j:Int)),.val (.str (S (wW (wX xs j)))),.un] (.Call (.Name "int" p1) [.Compare (.Name "_law_word" p2) [.NotEq] [.Constant (.str "not") j2 p3] p4] [] p5) (.int 0):=fun y tk {p1 p2 p3 p4 p5 j2}=>U1.eq (one y tk) (by rw[ak (fun q=>q z)];rfl)
    refine ax (bS t 3 (U1.eq (Bu (JQ (aD (ab (aa t 5) af)) (FW (aD (ab U0 af)) (o0 _ _) (.inr ⟨rfl,rfl⟩)) (by simp) (bq rfl)) (aD (ab (aa t 3) af)) (by simp) (by simp) (by simp;decide)) (by rw[ew,<-show("not" : Str)=S V1 by decide];rfl))) (aC (bS t 2 (U1.eq (U9.Vm (c9 (U9.Vm (c9 (U9.Vm (bb (ab (aa t 5) af))) (U9.Vm (ud (U9.Vm (bb (ab U0 af))) (o0 _ _) (by decide) (by decide) (by decide))) (bq rfl))) (aa t 2) ?_)) ?_)))
    ·rw[aY];exact xI (by simp;lia)
    ·rw[ew];rfl
   ·rw[aq z]
    have ew:wW (wX xs j)=qw (decide (wX xs j=1)):=aq z
    have o1:∀(y tk:D) {p1 p2 p3 p4 p5:Pos} {j2:Nat},U1 X [.val (dI xs),.val (.int (n:Nat)),.val tk,.val y,.val (.int (j:Int)),.val (.str (S (wW (wX xs j)))),.un] (.Call (.Name "int" p1) [.Compare (.Name "_law_word" p2) [.NotEq] [.Constant (.str "not") j2 p3] p4] [] p5) (.int 1):=fun y tk {p1 p2 p3 p4 p5 j2}=>U1.eq (one y tk) (by rw[ay z];rfl)
    refine ax (bS t 3 (U1.eq (Bu (Bu (aD (ab (aa t 5) af)) (FW (aD (ab U0 af)) (o1 _ _) (.inl ⟨rfl,rfl⟩)) (by simp) (by simp) (bq rfl)) (aD (ab (aa t 3) af)) (by simp) (by simp) (by simp;decide)) (by rw[ew,show("x" : Str)=S (lw true) by decide];rfl))) (aC (bS t 2 (U1.eq (U9.Vm (c9 (U9.Vm (c9 (U9.Vm (bb (ab (aa t 5) af))) (U9.Vm (ud (U9.Vm (bb (ab U0 af))) (o1 _ _) (by decide) (by decide) (by decide))) (bq rfl))) (aa t 2) ?_)) ?_)))
    ·rw[aY];exact xI (by simp;lia)
    ·rw[ew,show("x" : Str)=S [120] by decide];rfl
  ·simp[dH]
 ·rw[aq h0]
  refine ax (cA (U3.eq (dM (br (cb (U1.ql (aa t 0)) ah (hv 0 (by lia))) ah (by decide)) ah) (ak h0)) bR) ?_
  have rp:∀(u:aU) (ρ:cn) (e:Expr) {p1 p2:Pos},u.length<=5->ρ[1]?=some (.val (.int (n:Nat)))->U1 X ρ e (.lst u)->U9 X ρ (.BinOp e .Mult (.Name "_law_many" p1) p2) (List.replicate n u).flatten:=fun u ρ e {p1 p2} hu hr he=>U9.eq (ud he (aa t 1 hr) (by lia) (by lia) (by rw[ba];exact xI (ar (dP hu hm.1) (by decide)))) (by rw[ba])
  have fl:∀u:aU,u.length<=5->(List.replicate n u).flatten.length<=100:=fun u hu=>by
   rw[UZ,ku,T7]
   exact ar (dP hm.1 hu) (by decide)
  refine ax (bS t 6 (aD (ab U0 (ab (aD (ab (aD af) (ab (aD (ab ah af)) af))) (ab (aD (ab ah af)) af))))) (ax (bS t 3 (aa t 6)) ?_)
  refine ax (ρ':=[.val (dI xs),.val (.int (n:Nat)),.un,.val (dS (HY n)),.un,.un,.val (dS IV)]) (i6 t (fj t b1 (aa t 1) (by lia) (by lia)) (Vt.VD (fun j=>[.val (dI xs),.val (.int (n:Nat)),.un,.val (dS (HY j)),.un,.un,.val (dS IV)]) (fun j d hj=>?_) rfl ?_)) ?_
  ·obtain⟨hjl,rfl⟩:=ir hj
   refine⟨_,bf t 4,U4.weak (aC (bS t 3 (U1.eq (aD (ab U0 (ab (aa t 3) (ab (aa t 6) af)))) (by rw[ND];rfl)))) (.keep (.keep (.keep (.keep (.forget (.keep (.keep .nil)))))))⟩
  ·simp[dH]
  have s1:∀(z:Str) {ρ:cn} {j:Nat} {p1 p2:Pos},U1 X ρ (.List [.Constant (.str z) j p1] p2) (.lst [.str z]):=fun z {ρ j p1 p2}=>U9.Vm (bb (ab U0 af))
  refine ax (bS (d:=.lst (aO (List.replicate n [91]++List.replicate n [40]++[[121]]++List.replicate n [41]++[[61],[48]]))) t 2 (U1.eq (U9.Vm (c9 (U9.Vm (c9 (U9.Vm (c9 (U9.Vm (c9 (U9.Vm (rp _ _ _ (by decide) rfl (s1 "["))) (U9.Vm (rp _ _ _ (by decide) rfl (s1 "("))) ?_)) (s1 "y") ?_)) (U9.Vm (rp _ _ _ (by decide) rfl (s1 ")"))) ?_)) (U9.Vm (bb (ab U0 (ab U0 af)))) ?_)) ?_)) (aC (bp (aD (ab (U1.eq (U9.Vm (c9 (aa t 2) (U9.Vm (rp [.str "and",.str "y",.str "=",.str "0",.str "]"] _ _ (aj 5) rfl (U9.Vm (bb (ab U0 (ab U0 (ab U0 (ab U0 (ab U0 af))))))))) ?_)) ?_) (ab (aa t 3) af)))))
  ·have a:=fl [D.str "["] (by decide);have b:=fl [D.str "("] (by decide);exact xI (by lia)
  ·have a:=fl [D.str "["] (by decide);have b:=fl [D.str "("] (by decide);exact xI (by rw[ac];simp at a b ⊢;lia)
  ·have a:=fl [D.str "["] (by decide);have b:=fl [D.str "("] (by decide);have c:=fl [D.str ")"] (by decide);exact xI (by simp at a b c ⊢;lia)
  ·have a:=fl [D.str "["] (by decide);have b:=fl [D.str "("] (by decide);have c:=fl [D.str ")"] (by decide);exact xI (by simp at a b c ⊢;lia)
  ·rw[show("[" : Str)=S [91] by decide,show("(" : Str)=S [40] by decide,show(")" : Str)=S [41] by decide,show("y" : Str)=S [121] by decide,show("=" : Str)=S [61] by decide,show("0" : Str)=S [48] by decide]
   simp[aO,ku]
  ·rw[aY]
   have a:=fl [D.str "and",.str "y",.str "=",.str "0",.str "]"] (by decide)
   exact xI (by simp at a ⊢;lia)
  ·rw[ND,show("]" : Str)=S [93] by decide,show("y" : Str)=S [121] by decide,show("=" : Str)=S [61] by decide,show("0" : Str)=S [48] by decide]
   unfold NU
   rw[dg]
   congr 2
   simp[aO,List.map_flatten,ku]
def Lh:Runs (rJ T0) [] [[]]:=by
 have h:=Vu.atom (st:=[]) (.inl Oy)
 exact .cons h .nil
def lT(c:Nat):Hg:=((⟨0,[[c]],[[c]],none⟩,[]),[])
def Jp{c:Nat}(h:VQ [c])(n:Nat):Vp (AR (n+1)) (lT c):=⟨⟨⟨be _,.inl ⟨[c],h,rfl,rfl⟩,fun d e=>by cases e⟩,fun f hf=>nomatch hf⟩,fun q hq=>nomatch hq⟩
def N3:Runs (rJ (lT 120)) [] [[[0,1]]]:=.cons (Vu.atom Af) .nil
def Ik:Runs (rJ (lT 121)) [] [[[],[1]]]:=.cons (Vu.atom Cu) .nil
def Sf:Va [[0,1]]:=⟨.inr ⟨[],[0,1],rfl,by decide⟩,fun r hr=>by rw[aE.mp hr];exact .inr ⟨[0],1,rfl,by decide⟩⟩
def P7:Va [[],[1]]:=⟨.inr ⟨[[]],[1],rfl,by decide⟩,fun r hr=>by
 simp at hr
 rcases hr with rfl | rfl
 ·exact .inl rfl
 ·exact .inr ⟨[],1,rfl,by decide⟩⟩
def A8(h:Va b):im b (oS [])=b:=uj (jW _ _) h fun i k=>by
 rw[<-mM,qi,xH,mM]
 show _ + -(0:Int)=_
 lia
def SE:Wn 1000 [[0,1]]:=⟨by decide,by decide⟩
def Qv:Wn 1000 [[],[1]]:=⟨by decide,by decide⟩
def H0(xs:aS):∀k,∃ps c,Rw (tH xs k).2 ps c 0/\cF ps++kx c=(tH xs k).1/\ps.length<=k
 |0=>⟨[],.cmp (lT 120,[60],T0),.is (Jp Af 20) Dq N3 Lh SE Qw (A8 Sf) (by decide),rfl,aj _⟩
 |k+1=>by
  obtain⟨ps,c,h1,h2,h3⟩:=H0 xs k
  rw[tH]
  split
  ·refine⟨.neg::ps,c,.neg h1,?_,by simp;lia⟩
   rw[<-h2];rfl
  ·refine⟨.qu _ true::ps,c,.qu h1,?_,by simp;lia⟩
   rw[<-h2];rfl
def yi:Nat->Hg
 |0=>lT 121
 |k+1=>((⟨0,[40]::(jr (yi k)++[[41]]),rJ (yi k),none⟩,[]),[])
def FD:∀k,Vp (AR (k+1)) (yi k)
 |0=>Jp Cu 0
 |k+1=>⟨⟨⟨be _,.inr ⟨yi k,FD k,rfl,rfl⟩,fun d e=>by cases e⟩,fun f hf=>nomatch hf⟩,fun q hq=>nomatch hq⟩
def E7(a s:TK):jr ((⟨0,a,s,none⟩,[]),[])=a/\rJ ((⟨0,a,s,none⟩,[]),[])=s:=by
 constructor
 ·show((([]++(a++[]))++[])++[]:TK)=a
  simp
 ·show((((s++[])++yj 0)++[])++[]:TK)=s
  have:yj 0=[]:=rfl
  rw[this];simp
def FB:∀k,rJ (yi k)=[[121]]
 |0=>rfl
 |k+1=>by rw[yi,(E7 _ _).2,FB k]
def FA:∀k,jr (yi k)=List.replicate k [40]++([[121]]++List.replicate k [41])
 |0=>rfl
 |k+1=>by
  rw[yi,(E7 _ _).1,FA k,aA,oh]
  simp
def cY(n:Nat):Nat->n9
 |0=>.cmp (yi n,[61],T0)
 |k+1=>.two true [] (cY n k) [] (.cmp (lT 121,[61],T0))
def Ou:Rw IV [] (.cmp (lT 121,[61],T0)) 0:=.is (Jp Cu 20) Dq Ik Lh Qv Qw (A8 P7) (by decide)
def Nt{n:Nat}(hn:n<=20):∀k,Rw (HY k) [] (cY n k) k
 |0=>.is ((FD n).mono (NB (by lia))) Dq (by rw[FB];exact Ik) Lh Qv Qw (A8 P7) (by decide)
 |k+1=>by
  have:=Rw.two (a:=true) (Nt hn k) (be _) Ou (be _)
  rw[show max k 0=k by lia] at this
  exact this
def Nr(n:Nat):∀k,kx (cY n k)=List.replicate k [91]++((jr (yi n)++[[61],[48]])++(List.replicate k [aw true,[121],[61],[48],[93]]).flatten)
 |0=>by simp[cY,kx,DI];rfl
 |k+1=>by
  show[91]::([]++(kx (cY n k)++(aw true::([]++([[121],[61],[48]]++[[93]])))))=_
  rw[Nr n k,aA,oh,List.flatten_append]
  simp
def NQ(xs:aS):∃ps c b,Rw (Fe xs).2 ps c b/\cF ps++kx c=(Fe xs).1/\ps.length<=20/\b<=20:=by
 have hm:rK xs<=20:=by unfold rK;lia
 unfold Fe
 split
 ·obtain⟨ps,c,h1,h2,h3⟩:=H0 xs (rK xs)
  exact⟨ps,c,0,h1,h2,by lia,be _⟩
 ·refine⟨[],cY (rK xs) (rK xs),_,Nt hm _,?_,be _,hm⟩
  show kx _=NU _
  rw[Nr,FA]
  unfold NU
  simp
def mL(xs:aS):Nat:=501+(xs.getD 0 0%490).toNat
def hL(xs:aS):bN:=([[],V1++[32],qw true++[32,121,32],qw false++[32,120,32]]:TK).getD (xs.getD 1 0%4).toNat []
def bL(xs:aS):bN:=if xs.getD 3 0%2=0 then 120::(List.replicate (mL xs) [43,49]).flatten else 120::((List.replicate (2*mL xs-2) [32]).flatten++[43,49])
def tL(xs:aS):bN:=hL xs++bL xs++[32,60,32,48]
def nL(xs:aS):Int:=if xs.getD 3 0%2=0 then (mL xs:Nat) else 1
def yL(xs:aS):Sg:=.is [[nL xs,1]] ([60],[-1])
def sL(xs:aS):Sg:=([yL xs,.neg (yL xs),.qu true false (yL xs),.qu false true (yL xs)]:List Sg).getD (xs.getD 1 0%4).toNat (yL xs)
def zL(xs:aS):Nat:=(2000-(tL xs).length)*(xs.getD 2 0%2).toNat
def fL(xs:aS):bN:=tL xs++(List.replicate (zL xs) [32]).flatten
def pR(ds:aU)(d:D):Prop:=∃xs:aS,ds=[dI xs]/\xs.length=4/\d=.tup [.str (S (fL xs)),dS (sL xs)]
def yw:∀ds d,pR ds d->ds.length=1:=by rintro _ _ ⟨_,rfl,_⟩;rfl
def Eo(i:Int):(i%4).toNat=0\/(i%4).toNat=1\/(i%4).toNat=2\/(i%4).toNat=3:=by lia
def JA(xs:aS):(hL xs).length<=7:=by
 unfold hL
 rcases Eo (xs.getD 1 0) with e | e | e | e<;>rw[e]<;>decide
def GI(n:Nat)(u:bN):(List.replicate n u).flatten.length=n*u.length:=by rw[UZ,ku,T7]
def Jg(xs:aS):501<=mL xs/\mL xs<=990:=by unfold mL;lia
def Kp(xs:aS):(bL xs).length=1+2*mL xs:=by
 have:=Jg xs
 unfold bL
 split
 ·rw[bc,GI];simp;lia
 ·rw[bc,ac,GI];simp;lia
def HP(xs:aS):(tL xs).length<=1992:=by
 have:=JA xs;have:=Kp xs;have:=Jg xs
 unfold tL
 rw[ac,ac];simp;lia
def JG(xs:aS):(fL xs).length<=2000:=by
 have h:=HP xs
 unfold fL
 rw[ac,GI]
 have:zL xs<=2000-(tL xs).length:=by
  have:(xs.getD 2 0%2).toNat<=1:=by lia
  exact ar (UY _ this) (by lia)
 simp;lia
def Tv(i:Int):k7 ([a,b,c,d].map dS) (i%4)=some (dS (([a,b,c,d]:List Sg).getD (i%4).toNat z)):=by
 have h:i%4=0\/i%4=1\/i%4=2\/i%4=3:=by lia
 rcases h with e | e | e | e<;>rw[e]<;>rfl
def Ro{α:Type}(i:Int):k7 [u,v] (i%2)=some (if i%2=0 then u else v):=by
 have h:i%2=0\/i%2=1:=by lia
 rcases h with e | e<;>rw[e]<;>rfl
def Dn(h:DefX P w K mg base k pD (ai kS) X)(Vc:mg "len"=none):
  Go X pD kS pR:=by
 rintro ds d ⟨xs,rfl,hl,rfl⟩
 have t:=h.at'
 haveI:=h.VI
 have b1:=h.bt Vc
 have hv:∀n:Nat,n<4->k7 (xs.map D.int) (n:Int)=some (.int (xs.getD n 0)):=fun n hn=>xL (by lia)
 have ix:∀(m:Nat) {i:Int} {ρ:cn} {p1 p2 p3:Pos} {j:Nat},m<4->i=(m:Int)->ρ[0]?=some (.val (dI xs))->U1 X ρ (.Subscript (.Name "_law_xs" p1) (.Constant (.int i) j p2) p3) (.int (xs.getD m 0)):=fun m {i ρ p1 p2 p3 j} hm hi hr=>cb (U1.ql (aa t 0 hr)) ah (by subst hi;exact hv m hm)
 have hm:=Jg xs
 have z0:("" : Str)=S []:=by decide
 have zx:("x" : Str)=S [120]:=by decide
 have zp:("+1" : Str)=S [43,49]:=by decide
 have zb:(" " : Str)=S [32]:=by decide
 have zt:(" < 0" : Str)=S [32,60,32,48]:=by decide
 refine ax (bS t 1 (U1.eq (c8 ah (br (ix 0 (by decide) rfl rfl) ah (by decide))) (bv D.int (show 501+xs.getD 0 0%490=((mL xs:Nat):Int) by unfold mL;lia)))) ?_
 refine ax (ρ':=[.val (dI xs),.val (.int (mL xs:Nat)),.val (.str (S (hL xs))),.val (.str (S [32,60,32,48])),.un,.un]) (Vy.eq (QA t 2 3 (cb (U9.toQ (bb (ab U0 (ab U0 (ab U0 (ab U0 af)))))) (br (ix 1 (by decide) rfl rfl) ah (by decide)) (RX _ _ _ _ [] (V1++[32]) (qw true++[32,121,32]) (qw false++[32,120,32]) z0 (by decide) (by decide) (by decide) (by lia) (by lia))) U0 (by decide)) (by rw[zt];rfl)) ?_
 have hh:=JA xs
 have hb:=Kp xs
 have htl:=HP xs
 have sx:∀{ρ:cn} {j:Nat} {p:Pos},U1 X ρ (.Constant (.str "x") j p) (.str (S [120])):=fun {ρ j p}=>U1.eq U0 (bv D.str zx)
 have sp:∀{ρ:cn} {j:Nat} {p:Pos},U1 X ρ (.Constant (.str "+1") j p) (.str (S [43,49])):=fun {ρ j p}=>U1.eq U0 (bv D.str zp)
 have sb:∀{ρ:cn} {j:Nat} {p:Pos},U1 X ρ (.Constant (.str " ") j p) (.str (S [32])):=fun {ρ j p}=>U1.eq U0 (bv D.str zb)
 have r1:=GI (mL xs) [43,49]
 have r2:=GI (2*mL xs-2) [32]
 refine ax (bS (d:=.str (S (tL xs))) t 4 (U1.eq (jE (jE (w:=S (bL xs)) (aa t 2) (U1.eq (cb (U9.toQ (bb (ab (jE sx (Bq sp (aa t 1) (by decide) (by lia)) ?_) (ab (jE (jE sx (Bq (n:=2*mL xs-2) sb (U1.eq (iw (jh ah (aa t 1) (l7 (by lia) (by lia))) ah) (bv D.int (by lia))) (by decide) (by lia)) ?_) sp ?_) af)))) (br (ix 3 (by decide) rfl rfl) ah (by decide)) (Ro (α:=Nat) _)) ?_) ?_) (aa t 3) ?_) ?_)) ?_
 ·rw[ck,ck,r1];exact xI (by simp;lia)
 ·rw[ck,ck,r2];exact xI (by simp;lia)
 ·rw[ny,ck,ck,ac,r2];exact xI (by simp;lia)
 ·unfold bL
  split
  ·rw[ny];rfl
  ·rw[ny,ny];simp
 ·rw[ck,ck];exact xI (by lia)
 ·rw[ny,ck,ck,ac];exact xI (by simp;lia)
 ·rw[ny,ny];rfl
 refine ax (bS (d:=dS (yL xs)) t 5 (aD (ab U0 (ab (aD (ab (aD (ab (U1.eq (cb (U9.toQ (bb (ab (aa t 1) (ab ah af)))) (br (ix 3 (by decide) rfl rfl) ah (by decide)) (Ro (α:=Nat) _)) ?_) (ab ah af))) af)) (ab (aD (ab (gA ah) af)) af))))) ?_
 ·unfold nL
  split<;>rfl
 refine ax (bS (d:=dS (sL xs)) t 5 (cb (U9.toQ (U9.eq (bb (ab (aa t 5) (ab (aD (ab U0 (ab (aa t 5) af))) (ab (aD (ab U0 (ab U0 (ab (aa t 5) af)))) (ab (aD (ab U0 (ab U0 (ab (aa t 5) af)))) af))))) ?_)) (br (ix 1 (by decide) rfl rfl) ah (by decide)) (Tv _))) ?_
 ·rw[show("some" : Str)=S (qw true) by decide,show("all" : Str)=S (qw false) by decide,show("x" : Str)=S (lw true) by decide,show("y" : Str)=S (lw false) by decide]
  rfl
 have h2:(xs.getD 2 0%2).toNat<=1:=by lia
 have hz:zL xs<=2000:=ar (dP (Nat.sub_le _ _) h2) (by decide)
 have rz:=GI (zL xs) [32]
 refine aC (bp (aD (ab (U1.eq (jE (aa t 4) (Bq (n:=zL xs) sb (U1.eq (jh (iw ah (ei t b1 (aa t 4) (by rw[ck];exact xI (by lia)))) (br (ix 2 (by decide) rfl rfl) ah (by decide)) (jN (by lia) (by lia))) (bv D.int ?_)) (by decide) (by lia)) ?_) ?_) (ab (aa t 5) af))))
 ·rw[ck]
  unfold zL
  rw[Int.natCast_mul,jq (by lia),Int.natCast_sub (by lia)]
  rfl
 ·rw[ck,ck,rz];exact xI (by simp;lia)
 ·rw[ny];rfl
def Eb:zq [49]:=⟨by simp,fun c hc=>by simp at hc;lia,by simp,fun e=>by simp at e⟩
def LK:Bool×B3:=(true,(⟨0,[[49]],[[49]],none⟩,[]))
def AM(m:Nat):Hg:=((⟨0,[[120]],[[120]],none⟩,[]),List.replicate m LK)
def K7(m:Nat):Vp (AR 21) (AM m):=⟨⟨⟨be _,.inl ⟨_,Af,rfl,rfl⟩,fun d e=>by cases e⟩,fun f hf=>nomatch hf⟩,fun q hq=>by
 rw[(List.mem_replicate.mp hq).2]
 exact⟨⟨be _,.inl ⟨_,.inl Eb,rfl,rfl⟩,fun d e=>by cases e⟩,fun f hf=>nomatch hf⟩⟩
def FG:∀m,ge (List.replicate m LK)=(List.replicate m [[43],[49]]).flatten
 |0=>rfl
 |m+1=>by
  rw[aA,aA,bj,<-FG m];rfl
def FH:∀m,ju (List.replicate m LK)=(List.replicate m [[49],[43]]).flatten
 |0=>rfl
 |m+1=>by
  rw[aA,aA,bj,<-FH m];rfl
def M8(k:Int):Va [[k,1]]:=⟨.inr ⟨[],[k,1],rfl,by simp⟩,fun r hr=>by rw[aE.mp hr];exact .inr ⟨[k],1,rfl,by decide⟩⟩
def M7(k:Int):Wn 1000 [[k,1]]:=⟨by show 1<1000;decide,fun r hr=>by rw[aE.mp hr];show 2<1000;decide⟩
def QJ(k:Int):im [[k,1]] [[1]]=[[k+1,1]]:=uj (jW _ _) (M8 _) fun i j=>by
 rw[<-mM,qi,mM,mM]
 match i,j with
 |0,0=>rfl
 |1,0=>rfl
 |i+2,0=>rfl
 |i,j+1=>rfl
def CD:∀(m:Nat) (k:Int),Runs (List.replicate m [[49],[43]]).flatten [[[k,1]]] [[[k+(m:Int),1]]]
 |0,k=>by simp;exact .nil
 |m+1,k=>by
  rw[aA,bj]
  have a:Vu [49] [[[k,1]]] ([[[k,1]]]++[[[1]]]):=Vu.atom (.inl Eb)
  have b:Vu [43] ([]++[[[k,1]]]++[[[1]]]) ([]++[im [[k,1]] [[1]]]):=Vu.add (M7 k) ⟨by decide,by decide⟩
  rw[QJ] at b
  have c:=CD m (k+1)
  rw[show k+1+(m:Int)=k+((m+1:Nat):Int) by lia] at c
  exact .cons a (.cons b c)
def K6(m:Nat):Runs (rJ (AM m)) [] [[[(m:Int),1]]]:=by
 have a:Vu [120] [] ([]++[[[0,1]]]):=Vu.atom Af
 have r:=CD m 0
 rw[gG,<-FH] at r
 exact .cons a r
def kL(xs:aS):Nat:=if xs.getD 3 0%2=0 then mL xs else 1
def S6(xs:aS):nL xs=(kL xs:Int):=by unfold nL kL;split<;>rfl
def pL(xs:aS):List mo:=([[],[.neg],[.qu true false],[.qu false true]]:List (List mo)).getD (xs.getD 1 0%4).toNat []
def MY(xs:aS):Rw (sL xs) (pL xs) (.cmp (AM (kL xs),[60],T0)) 0:=by
 have b:Rw (yL xs) [] (.cmp (AM (kL xs),[60],T0)) 0:=by
  unfold yL
  rw[S6]
  exact .is (K7 _) Dq (K6 _) Lh (M7 _) Qw (A8 (M8 _)) (by decide)
 unfold sL pL
 rcases Eo (xs.getD 1 0) with e | e | e | e<;>rw[e]
 ·exact b
 ·exact .neg b
 ·exact .qu b
 ·exact .qu b
def Rp:al 43=false:=by decide
def TC:al 60=false:=by decide
def Ks:al 32=false:=by decide
abbrev RC(cs:bN):Prop:=∀c,cs.head?=some c->al c=false
def Jl(n:Nat)(h:Lex cs ts):Lex ((List.replicate n [32]).flatten++cs) ts:=by
 induction n with
 |zero=>exact h
 |succ n ih=>rw[aA,bj];exact .sp ih
def Nd(n:Nat)(h:RC cs):RC ((List.replicate n [32]).flatten++cs):=by
 cases n with
 |zero=>exact h
 |succ n=>rw[aA,bj];intro c e;cases e;exact Ks
def w6:∀(m:Nat) {cs:bN} {ts:TK},RC cs->Lex cs ts->Lex ((List.replicate m [43,49]).flatten++cs) ((List.replicate m [[43],[49]]).flatten++ts)/\RC ((List.replicate m [43,49]).flatten++cs)
 |0,cs,ts,h,l=>⟨l,h⟩
 |m+1,cs,ts,h,l=>by
  obtain⟨i1,i2⟩:=w6 m h l
  rw[aA,aA,bj,bj]
  exact⟨.sign Rp (by decide) (.inl (by decide)) (.run (.inl Eb) i2 i1),fun c e=>by cases e;exact Rp⟩
def Jk(xs:aS)(h:RC cs)(l:Lex cs ts):Lex (bL xs++cs) (jr (AM (kL xs))++ts):=by
 have e:jr (AM (kL xs))++ts=[120]::((List.replicate (kL xs) [[43],[49]]).flatten++ts):=by
  show([[120]]++ge (List.replicate (kL xs) LK))++ts=_
  rw[FG];rfl
 rw[e]
 unfold bL kL
 split
 ·obtain⟨a,b⟩:=w6 (mL xs) h l
  exact .run (u:=[120]) (.inr (by decide)) b a
 ·obtain⟨a,b⟩:=w6 1 h l
  have a':=Jl (2*mL xs-2) a
  have b':=Nd (2*mL xs-2) b
  have:=Lex.run (u:=[120]) (.inr (by decide)) b' a'
  simpa using this
def Ji(xs:aS):Lex (fL xs) (cF (pL xs)++kx (.cmp (AM (kL xs),[60],T0))):=by
 have z:=Jl (zL xs) Lex.nil
 have z1:Lex ([48]++((List.replicate (zL xs) [32]).flatten++[])) ([48]::[]):=.run (.inl Oy) (Nd _ (fun c e=>by cases e)) z
 have z2:Lex (32::60::32::([48]++((List.replicate (zL xs) [32]).flatten++[]))) ([60]::[[48]]):=.sp (.sign TC (by decide) (.inr ⟨.inl rfl,by simp⟩) (.sp z1))
 have b:=Jk xs (fun c e=>by cases e;exact Ks) z2
 have e1:fL xs=hL xs++(bL xs++(32::60::32::([48]++((List.replicate (zL xs) [32]).flatten++[])))):=by unfold fL tL;simp
 have e2:kx (.cmp (AM (kL xs),[60],T0))=jr (AM (kL xs))++([60]::[[48]]):=rfl
 rw[e1,e2]
 have wd:∀{u cs:bN} {ts:TK},u∈MI->Lex cs ts->Lex (u++(32::cs)) (u::ts):=fun {u cs ts} hu hl=>.run (.inr hu) (fun c e=>by cases e;exact Ks) (.sp hl)
 unfold hL pL
 rcases Eo (xs.getD 1 0) with e | e | e | e<;>rw[e]
 ·exact b
 ·exact wd (u:=V1) (by decide) b
 ·exact wd (u:=qw true) (by decide) (wd (u:=[121]) (by decide) b)
 ·exact wd (u:=qw false) (by decide) (wd (u:=[120]) (by decide) b)
def Q9(xs:aS):∀c∈fL xs,c<128:=by
 have rp:∀(n:Nat) (u:bN),(∀c∈u,c<128)->∀c∈(List.replicate n u).flatten,c<128:=fun n u hu c hc=>by
  obtain⟨v,hv,hc⟩:=List.mem_flatten.mp hc
  rw[(List.mem_replicate.mp hv).2] at hc
  exact hu c hc
 have hh:∀c∈hL xs,c<128:=by
  unfold hL
  rcases Eo (xs.getD 1 0) with e | e | e | e<;>rw[e]<;>decide
 have hb:∀c∈bL xs,c<128:=by
  intro c hc
  unfold bL at hc
  split at hc
  ·rcases aM.mp hc with rfl | hc
   ·decide
   ·exact rp _ _ (by decide) c hc
  ·rcases aM.mp hc with rfl | hc
   ·decide
   ·rcases List.mem_append.mp hc with hc | hc
    ·exact rp _ _ (by decide) c hc
    ·exact(show ∀c∈[43,49],c<128 by decide) c hc
 intro c hc
 rcases List.mem_append.mp hc with hc | hc
 ·rcases List.mem_append.mp hc with hc | hc
  ·rcases List.mem_append.mp hc with hc | hc
   ·exact hh c hc
   ·exact hb c hc
  ·exact(show ∀c∈[32,60,32,48],c<128 by decide) c hc
 ·exact rp _ _ (by decide) c hc
def GU(xs:aS):dC (AR 21) [.str (S (fL xs))] (dS (sL xs)):=(MY xs).back (by unfold pL;rcases Eo (xs.getD 1 0) with e | e | e | e<;>rw[e]<;>decide) (by decide) (Ji xs) (Q9 xs) (JG xs)
def LA(hA:Wn 1000 A)(hB:Wn 1000 B):Wn 1000 (im A (oS B)):=by
 have nl:(oS B).length=B.length:=ag _
 have hN:Wn 1000 (oS B):=⟨by rw[nl];exact hB.1,fun r hr=>by
  obtain⟨s,hs,rfl⟩:=List.mem_map.mp hr
  rw[ag];exact hB.2 s hs⟩
 refine⟨eV (pW _) ?_,fun r hr=>?_⟩
 ·rw[ag,fA];have:=hA.1;have:=hN.1;lia
 ·obtain⟨k,_,rfl⟩:=List.mem_map.mp (Av hr)
  refine eV (ot _) ?_
  rw[ag,fA]
  have:=hA.get (by decide) k
  have:=hN.get (by decide) k
  lia
def Rw.okw(h:Rw s ps c m):Kx s:=by
 induction h with
 |is _ _ _ _ a b e hp=>exact⟨e ▸ jW _ _,e ▸ LA a b,hp⟩
 |neg _ ih=>exact ih
 |qu _ ih=>exact ih
 |two _ _ _ _ i1 i2=>exact⟨i1,i2⟩
def Rw.all(h:Rw s ps c m):(∀u∈cF ps++kx c,Ku u)/\R5 (cF ps++kx c):=
 let t:=(Tq.pre ps).app h.tq
 ⟨t.g,(t.j).to⟩
def Rw.joined{tk:TK}(h:Rw s ps c m)(hp:ps.length<=20)(hm:m<=20)(e:cF ps++kx c=tk)(xs:aS)(hl:(nu tk xs).length<=2000):dC (AR 21) [.str (S (nu tk xs))] (dS s):=by
 subst e
 exact h.back hp hm (Jj h.all.1 h.all.2 xs) (LU h.all.1 xs) hl
def Pp(ns:aS):nS (s8 ns).y=1:=rfl
def Hv:∀(m:Nat) (ns:aS),nS (ky m ns).y+1<=2 ^ (m+1)
 |0,ns=>aj 2
 |m+1,ns=>by
  have i1:=Hv m ns.dropLast
  have i2:=Hv m (ky m ns.dropLast).xs
  have e:=qy
  have p:0<2 ^ m:=UO (by decide)
  have e':=qy
  rw[ky]
  split
  ·rw[Pp];lia
  split
  ·show nS _+1+1<=_;lia
  split
  ·show nS _+nS _+1+1<=_;lia
  ·show nS _+1+1<=_;lia
def H8(xs:aS):∀k,nS (tH xs k).2<=k+1
 |0=>aj 1
 |k+1=>by
  have i:=H8 xs k
  rw[tH]
  split
  ·show nS _+1<=_;lia
  ·show nS _+1<=_;lia
def HW:∀k,nS (HY k)<=2*k+1
 |0=>aj 1
 |k+1=>by
  have i:=HW k
  show nS (HY k)+1+1<=_
  lia
def NR(xs:aS):nS (Fe xs).2<=10000:=by
 have hm:rK xs<=20:=by unfold rK;lia
 unfold Fe
 split
 ·have:=H8 xs (rK xs);show nS (tH xs (rK xs)).2<=_;lia
 ·have:=HW (rK xs);show nS (HY (rK xs))<=_;lia
def QB(xs:aS):nS (sL xs)<=10000:=by
 unfold sL
 rcases Eo (xs.getD 1 0) with e | e | e | e<;>rw[e] <;> (show _<=10000)<;>simp[nS,yL]
def Kc{ns:aS}(h:ns.length<=200):wT (s8 ns).tk<=3300:=by
 have f:=(SU ns.dropLast (aR ns%4).toNat).YY (by decide) (by decide)
 have hx:=(t5 h).2.2.2
 have hd:=dl ns
 have s:wT (lV (j4 ns).xs).tk<=1644:=by
  unfold lV
  split
  ·have g:=(RU (j4 ns).xs.dropLast.dropLast (aR (j4 ns).xs.dropLast%4).toNat).YY (by decide) (by decide)
   have:=dl (j4 ns).xs
   have:=dl (j4 ns).xs.dropLast
   lia
  ·show 4<=1644;decide
 have f':wT (j4 ns).tk<=1644:=by unfold j4;lia
 have p:((Rj (lV (j4 ns).xs).xs).1).length<=2:=(show ∀p∈Wi,p.1.length<=2 by decide) _ (Ka _)
 show wT (_++_++_)<=_
 rw[eO,eO,ef]
 show _+(_+3+0)+_<=_
 lia
def EX:∀(m:Nat) {ns:aS},ns.length<=200->wT (ky m ns).tk+30<=3400*2 ^ m
 |0,ns,h=>by
  have:=Kc (ns:=ns.dropLast) (by rw[aW];lia)
  show wT (s8 ns.dropLast).tk+30<=_;lia
 |m+1,ns,h=>by
  have hd:ns.dropLast.length<=200:=by rw[aW];lia
  have c:=Kc hd
  have i1:=EX m hd
  have i2:=EX m (v8 m hd).2
  have e:=qy
  have p:0<2 ^ m:=UO (by decide)
  have a1:(aw (aX ns)).length<=3:=by cases aX ns<;>decide
  have a2:(qw (aX ns)).length<=4:=by cases aX ns<;>decide
  have a3:(lw (lX ns)).length<=1:=by cases lX ns<;>decide
  have n3:V1.length=3:=by decide
  have z:wT [[93]]=4:=rfl
  rw[ky]
  split
  ·lia
  split
  ·show wT (_::_)+30<=_;rw[ef];lia
  split
  ·show wT (_::(_++_::(_++_)))+30<=_
   rw[ef,eO,ef,eO,z]
   show 1+3+_+30<=_
   lia
  ·show wT (_::_::_)+30<=_;rw[ef,ef];lia
def Si{m:Nat}{ns:aS}(hm:m<=3)(h:ns.length<=200):wT (ky m ns).tk<=100000/\nS (ky m ns).y<=10000:=by
 have a:=EX m h
 have b:=Hv m ns
 have:2 ^ m<=2 ^ 3:=B8 (by decide) hm
 have e:=qy
 lia
def HZ(xs:aS):∀k,wT (tH xs k).1<=12+11*k
 |0=>aj 12
 |k+1=>by
  have i:=HZ xs k
  have a2:(qw (decide (wX xs k=1))).length<=4:=by cases decide (wX xs k=1)<;>decide
  have n3:V1.length=3:=by decide
  rw[tH]
  split
  ·show wT (_::_)<=_;rw[ef];lia
  ·show wT (_::_::_)<=_
   rw[ef,ef]
   show _+(1+3+_)<=_
   lia
def Ni(u:TK):∀n,wT (List.replicate n u).flatten=n*wT u
 |0=>by simp[wT]
 |n+1=>by rw[aA,bj,eO,Ni u n,lH];lia
def NT(n:Nat):wT (NU n)=34*n+12:=by
 unfold NU
 rw[eO,eO,eO,eO,eO,v9,v9,v9,Ni,show wT [aw true,[121],[61],[48],[93]]=22 by decide,show wT [[61],[48]]=8 by decide,show wT [[121]]=4 by decide]
 simp only[bI]
 lia
def hG:Sg->Nat
 |.is _ _=>0
 |.neg s=>hG s+1
 |.qu _ _ s=>hG s+1
 |.two _ s t=>max (hG s) (hG t)+1
def Fn.le{m:Nat}(h:Fn n d)(hm:n<=m):Fn m d:=⟨h.1,ar h.2.1 hm,h.2.2⟩
def Uv:("is" : Str)=S [105,115]:=by decide
def Pr(a:Bool):∀c∈aw a,c<128:=by cases a<;>decide
def JD:∀y:Sg,Fn (4+hG y) (dS y)
 |.is b p=>by
  rw[show dS (.is b p)=.tup [.str (S [105,115]),aZ b,bU p.2] by rw[<-Uv];rfl]
  refine Fn.tup fun x hx=>?_
  simp at hx
  rcases hx with rfl | rfl | rfl
  ·exact Fn.str 3 (by decide)
  ·exact C0 b
  ·exact(Bo p.2).le (by decide)
 |.neg s=>by
  rw[show dS (.neg s)=.tup [.str (S V1),dS s] by rw[<-NC];rfl]
  refine Fn.tup fun x hx=>?_
  simp at hx
  rcases hx with rfl | rfl
  ·exact Fn.str _ (by decide)
  ·exact JD s
 |.qu a l s=>by
  refine Fn.tup fun x hx=>?_
  simp at hx
  rcases hx with rfl | rfl | rfl
  ·exact Fn.str _ (by cases a<;>decide)
  ·exact Fn.str _ (by cases l<;>decide)
  ·exact JD s
 |.two a s t=>by
  refine Fn.tup (n:=4+max (hG s) (hG t)) fun x hx=>?_
  simp at hx
  rcases hx with rfl | rfl | rfl
  ·exact Fn.str _ (Pr a)
  ·exact(JD s).le (by lia)
  ·exact(JD t).le (by lia)
def Hw:∀(m:Nat) (ns:aS),hG (ky m ns).y<=m
 |0,ns=>aj 0
 |m+1,ns=>by
  have i1:=Hw m ns.dropLast
  have i2:=Hw m (ky m ns.dropLast).xs
  rw[ky]
  split
  ·show 0<=_;lia
  split
  ·show hG _+1<=_;lia
  split
  ·show max (hG _) (hG _)+1<=_;lia
  ·show hG _+1<=_;lia
def H9(xs:aS):∀k,hG (tH xs k).2<=k
 |0=>aj 0
 |k+1=>by
  have i:=H9 xs k
  rw[tH]
  split
  ·show hG _+1<=_;lia
  ·show hG _+1<=_;lia
def HX:∀k,hG (HY k)<=k
 |0=>aj 0
 |k+1=>by
  have i:=HX k
  show max (hG (HY k)) 0+1<=_
  lia
def NS(xs:aS):hG (Fe xs).2<=40:=by
 have hm:rK xs<=20:=by unfold rK;lia
 unfold Fe
 split
 ·have:=H9 xs (rK xs);show hG (tH xs (rK xs)).2<=_;lia
 ·have:=HX (rK xs);show hG (HY (rK xs))<=_;lia
def QC(xs:aS):hG (sL xs)<=40:=by
 unfold sL
 rcases Eo (xs.getD 1 0) with e | e | e | e<;>rw[e] <;> (show _<=40)<;>simp[hG,yL]
structure Gs(tk:TK)(y:Sg):Prop where
 ok:Kx y
 nn:nS y<=10000
 hg:hG y<=40
 tg:∀u∈tk,Ku u
 wt:wT tk<=50000
 rd:∀xs,(nu tk xs).length<=2000->dC (AR 21) [.str (S (nu tk xs))] (dS y)
def Q2{m:Nat}{ns:aS}(hm:m<=3)(h:ns.length<=200):Gs (ky m ns).tk (ky m ns).y:=by
 obtain⟨ps,c,b,r,e,hp,hb⟩:=Hu m ns (by lia)
 have w:=EX m h
 have:2 ^ m<=2 ^ 3:=B8 (by decide) hm
 have:=Hw m ns
 exact⟨r.okw,(Si hm h).2,by lia,e ▸ r.all.1,by lia,fun xs hl=>r.joined (by lia) (by lia) e xs hl⟩
def Q3(xs:aS):Gs (Fe xs).1 (Fe xs).2:=by
 obtain⟨ps,c,b,r,e,hp,hb⟩:=NQ xs
 refine⟨r.okw,NR xs,NS xs,e ▸ r.all.1,?_,fun xs hl=>r.joined (by lia) (by lia) e xs hl⟩
 have hm:rK xs<=20:=by unfold rK;lia
 unfold Fe
 split
 ·have:=HZ xs (rK xs);show wT (tH xs (rK xs)).1<=_;lia
 ·have:=NT (rK xs);show wT (NU (rK xs))<=_;lia
structure Gt(cs:bN)(y:Sg):Prop where
 ok:Kx y
 nn:nS y<=10000
 hg:hG y<=40
 wt:cs.length<=60000
 rd:cs.length<=2000->dC (AR 21) [.str (S cs)] (dS y)
def Gs.gt(h:Gs tk y)(xs:aS):Gt (nu tk xs) y:=⟨h.ok,h.nn,h.hg,by have:=Jr tk xs;have:=h.wt;lia,h.rd xs⟩
def LY(xs:aS):Gt (fL xs) (sL xs):=⟨(MY xs).okw,QB xs,QC xs,by have:=JG xs;lia,fun _=>GU xs⟩
def BC{xs:aS}{n a b:Nat}(h:xs.length=n)(ha:a<=b)(hb:b<=n):(ka xs (some (a:Int)) (some (b:Int))).length=b-a:=by
 unfold ka
 have e1:HT.Vo xs.length 0 (some (a:Int))=a:=by simp only[HT.Vo];split<;>lia
 have e2:HT.Vo xs.length xs.length (some (b:Int))=b:=by simp only[HT.Vo];split<;>lia
 rw[cu,cv,e1,e2,h];lia
def J8{xs:aS}{n:Nat}:EV.cutD (xs.map D.int) (some (n:Int)) none=(xs.drop n).map D.int:=by rw[Mv,List.map_drop]
def AI(ds:aU)(d:D):Prop:=∃ns:aS,ds=[.Xb ns]/\ns.length<=63/\d=.bl true
def LQ:∀ds d,AI ds d->ds.length=1:=by rintro _ _ ⟨_,rfl,_⟩;rfl
def Jn(ns:aS)(h:ns.length<=63):AI [.Xb ns] (.bl true):=⟨ns,rfl,h,rfl⟩
def Rm(h:DefX P w K mg base k Ky (ai wv) X)(Vc:mg "len"=none)(cN:EV.Callee X "_law_numbers" kq)(cW:Vj X "_law_written" (eI 4))(cJ:EV.Callee X "_law_joined" lF)(cC:EV.Callee X "_law_cell" pS)(cX:EV.Callee X "_law_special" kn)(cL:EV.Callee X "_law_long" pR)(cR:EV.Callee X "read_saying" (dC (AR 21)))(cI:EV.Callee X "is_saying" pK):
  Go X Ky wv AI:=by
 rintro ds d ⟨ns,rfl,hn,rfl⟩
 have t:=h.at'
 haveI:=h.VI
 have b1:=h.bt Vc
 have hz:=J9 ns (some 1) (some 4)
 refine ax (i6 t (ds:=((C9 ns 0)::ka ns (some 1) (some 4)).map D.int) (Ex (U1.eq (U9.Vm (c9 (U9.Vm (bb (ab (a9 t cC (ab (aa t 0) (ab ah af)) ⟨ns,0,rfl,by decide,by decide,rfl⟩) af))) (U1.eq (U9.Vm (kZ (U1.qs (aa t 0)) (fM ah) (fM ah))) (by rw[oZ])) ?_)) rfl)) (Vt.same [.val (.Xb ns),.un,.un,.un,.un,.un,.un] _ fun d hd=>?_)) (aC (bp C2))
 ·have:=CQ;simp;lia
 obtain⟨c,_,rfl⟩:=List.mem_map.mp hd
 refine⟨_,bf t 1,ax (bS t 2 (a9 t cN (ab (aa t 1) (ab ah af)) ⟨c,160,rfl,by decide,rfl⟩)) ?_⟩
 have hxl:(qK c 160).length=160:=Aq _ _
 generalize qK c 160=xs at hxl
 have hv:∀n:Nat,n<160->k7 (xs.map D.int) (n:Int)=some (.int (xs.getD n 0)):=fun n hn=>xL (by lia)
 have hr:(xs.getD 0 0%4).toNat<=3:=by lia
 have er:xs.getD 0 0%4=(((xs.getD 0 0%4).toNat:Nat):Int):=by lia
 generalize (xs.getD 0 0%4).toNat=m at hr er
 have X3:(xs.drop 20).length<=200:=by rw[cv];lia
 have c6:(ka xs (some 2) (some 8)).length=6:=BC (a:=2) (b:=8) hxl (by lia) (by lia)
 have c12:(ka xs (some 8) (some 20)).length=12:=BC (a:=8) (b:=20) hxl (by lia) (by lia)
 have c4:(ka xs (some 3) (some 7)).length=4:=BC (a:=3) (b:=7) hxl (by lia) (by lia)
 have g0:=Q2 hr X3
 refine ax (uF t (JR t cW (U9.eq (kZ (U1.ql (aa t 2)) (fM ah) ma) (J8)) (ab (U1.eq (br (cb (U1.ql (aa t 2)) ah (hv 0 (by lia))) ah (by decide)) (by rw[er])) af) ⟨m,xs.drop 20,rfl,hr,hr,X3,rfl,rfl,rfl⟩) (gC t (bu (bf t 3) (bu (bf t 4) dR)))) ?_
 generalize ky m (xs.drop 20)=o at g0
 have fin:∃tk y,Gs tk y/\(tk,y)=if xs.getD 1 0%6=1 then Fe (ka xs (some 2) (some 8)) else (o.tk,o.y):=by
  split
  ·exact⟨_,_,Q3 _,rfl⟩
  ·exact⟨_,_,g0,rfl⟩
 obtain⟨tk,y,hs,etk⟩:=fin
 have h16:∀{ρ:cn} {j1 j2 j3:Nat} {p1 p2 p3 p4 p5 p6 p7:Pos} (n:Int),ρ[2]?=some (.val (dI xs))->U3 X ρ (.Compare (.BinOp (.Subscript (.Name "_law_xs" p1) (.Constant (.int 1) j1 p2) p3) .Mod (.Constant (.int 6) j2 p4) p5) [.Eq] [.Constant (.int n) j3 p6] p7) (decide (xs.getD 1 0%6=n)):=fun {ρ j1 j2 j3 p1 p2 p3 p4 p5 p6 p7} n e=>dM (br (cb (U1.ql (aa t 2 e)) ah (hv 1 (by lia))) ah (by decide)) ah
 refine ax (ρ':=[.val (.Xb ns),.val (.int c),.val (dI xs),.val (.lst (aO tk)),.val (dS y),.un,.un]) ?_ ?_
 ·by_cases h1:xs.getD 1 0%6=1
  ·rw[au h1] at etk
   refine e9 (U3.eq (h16 1 rfl) (ay h1)) (aC (uF t (a9 t cX (ab (U1.eq (U9.Vm (kZ (U1.ql (aa t 2)) (fM ah) (fM ah))) (by rw[oZ])) af) ⟨ka xs (some 2) (some 8),rfl,c6,by rw[<-etk]⟩) (gC t (bu (bf t 3) (bu (bf t 4) dR)))))
  ·rw[aq h1] at etk
   cases etk
   exact cA (U3.eq (h16 1 rfl) (ak h1)) bR
 refine ax (bS t 5 (a9 t cJ (ab (aa t 3) (ab (U1.eq (U9.Vm (kZ (U1.ql (aa t 2)) (fM ah) (fM ah))) (by rw[oZ])) af)) ⟨tk,ka xs (some 8) (some 20),rfl,c12,hs.tg,by have:=hs.wt;lia,rfl⟩)) ?_
 have g1:=hs.gt (ka xs (some 8) (some 20))
 generalize nu tk (ka xs (some 8) (some 20))=cs at g1
 have fin:∃XE z,Gt XE z/\(XE,z)=if xs.getD 1 0%6=2/\xs.getD 2 0%3=0 then (fL (ka xs (some 3) (some 7)),sL (ka xs (some 3) (some 7))) else (cs,y):=by
  split
  ·exact⟨_,_,LY _,rfl⟩
  ·exact⟨_,_,g1,rfl⟩
 obtain⟨XE,z,g2,ecs⟩:=fin
 refine ax (ρ':=[.val (.Xb ns),.val (.int c),.val (dI xs),.val (.lst (aO tk)),.val (dS z),.val (.str (S XE)),.un]) ?_ ?_
 ·by_cases h1:xs.getD 1 0%6=2/\xs.getD 2 0%3=0
  ·rw[au h1] at ecs
   cases ecs
   exact e9 (U3.eq (gw (h16 2 rfl) (fun _=>dM (br (cb (U1.ql (aa t 2)) ah (hv 2 (by lia))) ah (by decide)) ah)) (by rw[ay h1.1,ay h1.2];rfl)) (aC (uF t (a9 t cL (ab (U1.eq (U9.Vm (kZ (U1.ql (aa t 2)) (fM ah) (fM ah))) (by rw[oZ])) af) ⟨ka xs (some 3) (some 7),rfl,c4,rfl⟩) (gC t (bu (bf t 5) (bu (bf t 4) dR)))))
  ·rw[aq h1] at ecs
   cases ecs
   exact cA (U3.eq (gw (h16 2 rfl) (fun _=>dM (br (cb (U1.ql (aa t 2)) ah (hv 2 (by lia))) ah (by decide)) ah)) (by rw[<-ya];exact ak h1)) bR
 have fy:Fn 44 (dS z):=(JD z).le (by have:=g2.hg;lia)
 by_cases h2:XE.length<2001
 ·refine U4.weak (aC (e9 (U3.eq (fg (ei t b1 (aa t 5) (by rw[ck];exact xI g2.wt)) ah) (by rw[ck];exact ay (by lia))) (ax (bS t 6 (a9 t cR (ab (aa t 5) af) (g2.rd (by lia)))) (aC (cA (U3.eq (ji (Mj t fy (aa t 6) (aa t 4)) (fun _=>hV (eE (a9 t cI (ab (aa t 6) af) ⟨z,rfl,g2.ok,g2.nn,rfl⟩)))) rfl) bR))))) (.keep (.forget (.forget (.forget (.forget (.forget (.forget .nil)))))))
 ·refine U4.weak (aC (cA (U3.eq (fg (ei t b1 (aa t 5) (by rw[ck];exact xI g2.wt)) ah) (by rw[ck];exact ak (by lia))) bR)) (.keep (.forget (.forget (.forget (.forget (.forget (.keep .nil)))))))
abbrev KT(K:bW)(l:Addr)(ns:aS):Prop:=∃(od:Option Addr) (its:Array Value) (n:Nat) (sl:Array (Option Value)),K.lookup l=some ⟨.type "tuple",od,.seq its n,sl⟩/\its.size<=sizeLine/\Vals (ns.map V.int) its.toList
def KT.g{K:bW}(h:KT K l ns):WB K l ns:=let ⟨od,its,n,sl,h1,h2,h3⟩:=h;⟨_,its,n,h1,rfl,rfl,h2,h3⟩
def KT.mk{K:bW}{l:Addr}{ns:aS}(h1:K.lookup l=some ⟨.type "tuple",od,.seq its n,sl⟩)(h2:its.size<=sizeLine)(h3:Vals (ns.map V.int) its.toList):KT K l ns:=⟨od,its,n,sl,h1,h2,h3⟩
inductive Xp(p:Params)(K:bW):List DictEntry->List (bN×aS)->List (bN×Addr)->Prop where
 |nil:Xp p K [] [] []
 |cons {z:Str} {tk:Tok} {l:Addr} {u:bN} {ns:aS} {es:List DictEntry} {cs:List (bN×aS)} {ls:List (bN×Addr)}:z=S u->KT K l ns->Xp p K es cs ls->Xp p K (⟨PyData.keyHash p z,.str z tk,.ref l⟩::es) ((u,ns)::cs) ((u,l)::ls)
def Xp.keys{K:bW}{p:Params}{es:List DictEntry}{cs:List (bN×aS)}{ls:List (bN×Addr)}(h:Xp p K es cs ls):ls.map (·.1)=cs.map (·.1):=by
 induction h with
 |nil=>rfl
 |cons _ _ _ ih=>rw[aT,aT,ih]
def Xp.at'{K:bW}{p:Params}{es:List DictEntry}{cs:List (bN×aS)}{ls:List (bN×Addr)}(h:Xp p K es cs ls):(cs.map (·.1)).Nodup->∀q∈cs,∃l,OD ls q.1=some l/\WB K l q.2:=by
 induction h with
 |nil=>exact fun _ _ z=>nomatch z
 |@cons z tk l u ns es cs ls _ hk _ ih=>
  intro nd q hq
  rw[aT,cg] at nd
  rcases aM.mp hq with rfl | hq
  ·exact⟨l,by show(if u=u then _ else _)=_;rw[au rfl],hk.g⟩
  ·obtain⟨m,e1,e2⟩:=ih nd.2 q hq
   have ne:u≠q.1:=fun e=>nd.1 (e ▸ List.mem_map.mpr ⟨q,hq,rfl⟩)
   exact⟨m,by show(if u=q.1 then _ else _)=_;rw[aq ne];exact e1,e2⟩
def FP:∀{ls:List (bN×Addr)},(ls.map (·.1)).Nodup->((tY (sO ls)).map (·.1)).Nodup
 |[],_=>.nil
 |(u,l)::ls,h=>by
  rw[aT,cg] at h
  show(((Sum.inr (S u):tz))::(tY (sO ls)).map (·.1)).Nodup
  rw[cg]
  refine⟨fun z=>?_,FP h.2⟩
  obtain⟨x,hx,e⟩:=List.mem_map.mp z
  obtain⟨y,hy,rfl⟩:=List.mem_map.mp hx
  obtain⟨v,hv,rfl⟩:=List.mem_map.mp hy
  exact h.1 (List.mem_map.mpr ⟨v,hv,dB (UN e)⟩)
def Xp.pairs{w:World}{K:bW}{es:List DictEntry}{cs:List (bN×aS)}{ls:List (bN×Addr)}(h:Xp w.params K es cs ls):(∀e∈es,∃k,(gu P w).is k e.key=true/\e.hash=(gu P w).hash k)/\Pairs (gu P w) es (tY (sO ls)):=by
 induction h with
 |nil=>exact⟨(fun _ z=>nomatch z),.nil⟩
 |@cons z tk l u ns es cs ls hz hk _ ih=>
  subst hz
  refine⟨fun e he=>?_,.cons (qd (S u) tk) rfl ih.2⟩
  rcases aM.mp he with rfl | he
  ·exact⟨Sum.inr (S u),qd (S u) tk,rfl⟩
  ·exact ih.1 e he
def Bm{w:World}{K:bW}{q:Addr}{ls:List (bN×Addr)}(hq:(q==sysModules)=false)(e:K.lookup q=some ⟨.type "dict",none,.dict es ep,#[]⟩)(c:Xp w.params K es.toList Wi ls):RE P w K q ls ep:=by
 have nd:(Wi.map (·.1)).Nodup:=by decide
 refine⟨⟨hq,fun h hk=>⟨_,es,hk _ _ e,⟨rfl,rfl,rfl⟩,rfl,fun x hx=>?_,(c.pairs).2,FP (by rw[c.keys];exact nd)⟩⟩,c.keys,c.at' nd⟩
 exact(c.pairs).1 x (by simpa using hx)
def Rl{ps:ce}{us:fR}(h:us.length=2)(k:∀a0 a1,bindArgs fd ⟨[a0,a1],[]⟩=pure (ps.zip [a0,a1])):bindArgs fd ⟨us,[]⟩=pure (ps.zip us):=match us,h with | [a0,a1],_=>k a0 a1
def gp_tup{K:bW}{a:Addr}{ps:List PyData}(e:K.lookup a=some ⟨.type "tuple",od,.seq its n,sl⟩)(r:Yi K its.toList ps):GP K (.ref a) (.tuple ps):=.tup e rfl rfl r
set_option maxHeartbeats 4000000 in
def all_mk{w:World}{K:bW}{l:PySem.W.OpenLaw}(ht:l.prog.given.tree=none)(X:K.In h)(G:h.Ns mainGlobals mg)(Z7:mg "law"=some (.ref fa))(d1:Kd K "is_whole" mD f1 g1)(d2:Kd K "is_row" sA f2 g2)(d3:Kd K "without_end" iI f3 g3)(d4:Kd K "part_at" pZ f4 g4)(d5:Kd K "row_of" sy f5 g5)(d6:Kd K "row_plus" mB f6 g6)(d7:Kd K "other_sign" jz f7 g7)(d8:Kd K "row_times" iY f8 g8)(d9:Kd K "is_board" mE f9 g9)(d10:Kd K "board_of" mF f10 g10)(d11:Kd K "board_plus" jC f11 g11)(d12:Kd K "board_minus" iO f12 g12)(d13:Kd K "board_times" gh f13 g13)(d14:Kd K "told_anew" gI f14 g14)(d15:Kd K "is_number" iZ f15 g15)(d16:Kd K "end_of_run" jB f16 g16)(d17:Kd K "refuse_wrong_run" dG f17 g17)(d18:Kd K "token_at" mz f18 g18)(d19:Kd K "tokens_of" kG f19 g19)(d20:Kd K "refuse_deep" gf f20 g20)(d21:Kd K "reader_of" kJ f21 g21)(d22:Kd K "next_token" jA f22 g22)(d23:Kd K "take_token" jv f23 g23)(d24:Kd K "take_one_of" iJ f24 g24)(d25:Kd K "refuse_more" iK f25 g25)(d26:Kd K "read_atom" kK f26 g26)(d27:Kd K "read_power" jy f27 g27)(d28:Kd K "read_factor" iN f28 g28)(d29:Kd K "read_product" gT f29 g29)(d30:Kd K "read_sum" mC f30 g30)(d31:Kd K "atom_of" qa f31 g31)(d32:Kd K "power_of_board" fK f32 g32)(d33:Kd K "take_term_step" fJ f33 g33)(d34:Kd K "read_comparison" ft f34 g34)(d35:Kd K "read_prefixes" gp f35 g35)(d36:Kd K "saying_ended" gS f36 g36)(d37:Kd K "read_steps" jx f37 g37)(d38:Kd K "take_step" kH f38 g38)(d39:Kd K "read_saying" iM f39 g39)(d40:Kd K "is_letter" kN f40 g40)(d41:Kd K "are_signs" kO f41 g41)(d42:Kd K "is_head" p0 f42 g42)(d43:Kd K "sayings_in" jw f43 g43)(d44:Kd K "is_saying" kM f44 g44)(d45:Kd K "_law_cell" kT f45 g45)(d46:Kd K "_law_numbers" gY f46 g46)(d47:Kd K "_law_trim" kP f47 g47)(d48:Kd K "_law_board_of" gs f48 g48)(d49:Kd K "_law_product" gX f49 g49)(d50:Kd K "_law_pick" kR f50 g50)(d51:Kd K "_law_add" mH f51 g51)(d52:Kd K "_law_atom" kU f52 g52)(d53:Kd K "_law_factor" iQ f53 g53)(d54:Kd K "_law_prod" kQ f54 g54)(d55:Kd K "_law_sum" mG f55 g55)(d56:Kd K "_law_joined" iP f56 g56)(d57:Kd K "_law_compared" gr f57 g57)(d58:Kd K "_law_written" gU f58 g58)(d59:Kd K "_law_special" gV f59 g59)(d60:Kd K "_law_long" kS f60 g60)(d61:Kd K "law" wv f61 g61)(zA:PySem.W.nsIn K mainGlobals "isinstance"=some none)(zB:PySem.W.nsIn K mainGlobals "int"=some none)(zC:PySem.W.nsIn K mainGlobals "bool"=some none)(zD:PySem.W.nsIn K mainGlobals "tuple"=some none)(zF:PySem.W.nsIn K mainGlobals "all"=some none)(zG:PySem.W.nsIn K mainGlobals "len"=some none)(zH:PySem.W.nsIn K mainGlobals "max"=some none)(zI:PySem.W.nsIn K mainGlobals "range"=some none)(zJ:PySem.W.nsIn K mainGlobals "enumerate"=some none)(zK:PySem.W.nsIn K mainGlobals "str"=some none)(zM:PySem.W.nsIn K mainGlobals "list"=some none)(zN:PySem.W.nsIn K mainGlobals "abs"=some none)(zP:PySem.W.nsIn K mainGlobals "dict"=some none)(zQ:PySem.W.nsIn K mainGlobals "min"=some none)(zR:PySem.W.nsIn K mainGlobals "WORDS"=some (some (.ref zS)))(zT:K.lookup zS=some ⟨.type "tuple",zU,.seq zV zW,zZ⟩)(yA:Yi K zV.toList [.str "x",.str "y",.str "not",.str "and",.str "or",.str "some",.str "all"])(yB:PySem.W.nsIn K mainGlobals "DOUBLE_SIGNS"=some (some (.ref yC)))(yD:K.lookup yC=some ⟨.type "tuple",yE,.seq yF yG,yH⟩)(yI:Yi K yF.toList [.str "<=",.str ">=",.str "!="])(yJ:PySem.W.nsIn K mainGlobals "LETTERS"=some (some (.ref yK)))(yM:K.lookup yK=some ⟨.type "tuple",yN,.seq yO yP,yQ⟩)(yR:Yi K yO.toList [.str "x",.str "y"])(yS:PySem.W.nsIn K mainGlobals "SIGNS_SAID"=some (some (.ref yT)))(yU:K.lookup yT=some ⟨.type "tuple",yV,.seq yW yX,yY⟩)(yZ:Yi K yW.toList [.tuple [.int (-1)],.tuple [.int (0)],.tuple [.int (1)],.tuple [.int (-1),.int (0)],.tuple [.int (0),.int (1)],.tuple [.int (-1),.int (1)]])(vA:PySem.W.nsIn K mainGlobals "BINDERS"=some (some (.ref vC)))(vD:K.lookup vC=some ⟨.type "tuple",vE,.seq vF vG,vH⟩)(vI:Yi K vF.toList [.str "some",.str "all"]){vJ:List (bN×Addr)}(vK:PySem.W.nsIn K mainGlobals "COMPARISONS"=some (some (.ref vL)))(vM:K.lookup vL=some ⟨.type "dict",none,.dict vO vP,#[]⟩)(vQ:(vL==sysModules)=false)(vR:Xp w.params K vO.toList Wi vJ)(vS:PySem.W.nsIn K mainGlobals "FIGURES"=some (some (.str ("0123456789" : Str) vT)))(vU:PySem.W.nsIn K mainGlobals "MOST_OPEN"=some (some (.int 20 vV)))(vW:PySem.W.nsIn K mainGlobals "MOST_MINUSES"=some (some (.int 20 vX)))(vY:PySem.W.nsIn K mainGlobals "MOST_PREFIXES"=some (some (.int 20 vZ)))(nA:PySem.W.nsIn K mainGlobals "MOST_SIGNS"=some (some (.int 2000 nB)))(eR:PySem.W.nsIn K mainGlobals "Reader"=some (some (.ref cR)))(r1:PySem.W.makesIn K cR=true)(r2:PySem.W.findIn K (.ref cR) "__init__"=some (some (.ref fI)))(r3:PySem.W.isFn K (.ref fI)=true)(r4:PySem.W.keepIn K (.ref cR)=true)(r5:PySem.W.plainGet K cR Str.empty=true)(r6:PySem.W.hasDictIn K cR=true)(r7:PySem.W.plainOver K cR=true)(r8:PySem.W.findIn K (.ref cR) "__setattr__"=some (some (.builtin "object.__setattr__")))(r9:PySem.W.findIn K (.ref cR) "tokens"=some none)(r10:PySem.W.findIn K (.ref cR) "done"=some none)(r11:PySem.W.findIn K (.ref cR) "steps"=some none)(lI:K.lookup fI=some ⟨ocI,odI,.func (PySem.W.fnOf "__init__" "Reader.__init__" (h9 gj) (bE gj) (ai gj) .none kVI dcI pmI anI cdI ctI),slI⟩)(cI:PySem.W.codeIn K cdI "Reader.__init__"=true)(kI:PySem.W.keepIn K (.ref fI)=true)
  : ∃fd:FuncData,(∀(s:Shared) (v:Value),BindsTo s fd ⟨[v],[]⟩ [("_law_script",v)])/\∀base:Heap,K.In base->base.Ns mainGlobals mg->dO l.prog w K mg base gN 114 fa fd ["_law_script"] (MV K AI):=by
 have e:=Z7.symm.trans (bG X G d61.a)
 cases e
 have nC:=bJ X G zA
 have nD:=bJ X G zB
 have nE:=bJ X G zC
 have nF:=bJ X G zD
 have nG:=bJ X G zF
 have nH:=bJ X G zG
 have nI:=bJ X G zH
 have nJ:=bJ X G zI
 have nK:=bJ X G zJ
 have nM:=bJ X G zK
 have nN:=bJ X G zM
 have nO:=bJ X G zN
 have nP:=bJ X G zP
 have nQ:=bJ X G zQ
 have b1:=d1.b1 X G uB
 have b2:=d2.b1 X G Ae
 have b3:=d3.b2 X G oy
 have b4:=d4.b3 X G wp
 have b5:=d5.b1 X G Ad
 have b6:=d6.b2 X G uA
 have b7:=d7.b1 X G qF
 have b8:=d8.b2 X G rY
 have b9:=d9.b1 X G uC
 have b10:=d10.b1 X G uD
 have b11:=d11.b2 X G qI
 have b12:=d12.b2 X G oH
 have b13:=d13.b2 X G oG
 have b14:=d14.b1 X G mw
 have b15:=d15.b1 X G si
 have b16:=d16.b2 X G qH
 have b17:=d17.b1 X G js
 have b18:=d18.b2 X G uz
 have b19:=d19.b1 X G rW
 have b20:=d20.b3 X G oB
 have b21:=d21.b2 X G rZ
 have b22:=d22.b1 X G qG
 have ZJ:=d23.b1 X G qB
 have b24:=d24.b2 X G oz
 have b25:=d25.b1 X G oA
 have b26:=d26.b1 X G se
 have b27:=d27.b1 X G qE
 have b28:=d28.b1 X G oF
 have b29:=d29.b1 X G nh
 have b30:=d30.b1 X G oC
 have b31:=d31.b1 X G wr
 have b32:=d32.b2 X G kF
 have b33:=d33.b2 X G kE
 have b34:=d34.b1 X G jT
 have b35:=d35.b1 X G lW
 have b36:=d36.b2 X G ng
 have b37:=d37.b1 X G qD
 have b38:=d38.b2 X G rX
 have b39:=d39.b1 X G oE
 have b40:=d40.b1 X G sj
 have b41:=d41.b1 X G sk
 have b42:=d42.b1 X G wq
 have b43:=d43.b1 X G qC
 have b44:=d44.b1 X G sg
 have b45:=d45.b2 X G sv
 have b46:=d46.b2 X G nq
 have b47:=d47.b1 X G sn
 have b48:=d48.b1 X G lZ
 have b49:=d49.b2 X G nj
 have Y4:=d50.b1 X G sr
 have b51:=d51.b3 X G uE
 have b52:=d52.b3 X G my
 have b53:=d53.b3 X G jU
 have b54:=d54.b3 X G mx
 have b55:=d55.b3 X G oI
 have b56:=d56.b2 X G oJ
 have b57:=d57.b1 X G lY
 have b58:=d58.b2 X G jf
 have b59:=d59.b1 X G ni
 have b60:=d60.b1 X G su
 obtain⟨_,_,kV,dc,pm,an,cd,ct,_,rfl,_,_⟩:=d61.F.ex
 refine⟨PySem.W.fnOf "law" "law" (h9 wv) (bE wv) (ai wv) .none kV dc pm an cd ct,fun s v=>.of_eq rfl,fun base KB _=>?_⟩
 have FI:=JB (st:=gj) lI cI kI
 have bdI:=FI.binds (ps:=["self", "tokens"]) fun _ _ _ _ _ _ us hl=>Rl hl fun _ _=>rfl
 have okI:dO l.prog w K mg base gN 1 _ _ _ (AN cR):=L3 ht FI wu ⟨r5,r6,r7,r8⟩ r9 r10 r11 rfl rfl rfl
 have f_:=@Q6 l.prog ht w K mg base
 have f_O:=@OY l.prog ht w K mg base
 have f_RN:=@L4 l.prog ht w K mg base
 have Yn:=@OX l.prog ht w K mg base
 have f_M2:=@L6 l.prog ht w K mg base
 have f_RL:=@L5 l.prog ht w K mg base
 have f_D:=@OZ l.prog ht w K mg base
 have Yt:=@OW l.prog ht w K mg base
 have o1:=f_ (k:=0) d1.F uB Bb fun _ Z=>EM Z nC nD nE
 have o2:=f_ (k:=1) d2.F Ae Em fun _ Z=>Ko Z nC nF nG (Z.ca o1 b1)
 have o3:=f_ (k:=0) d3.F oy uS fun _ Z=>ze Z nH nF
 have o4:=f_ (k:=0) d4.F wp CS fun _ Z=>Hb Z nH
 have o5:=f_ (k:=1) d5.F Ad El fun _ Z=>Kn Z  (Z.ca o3 b3)
 have o6:=f_ (k:=2) d6.F uA Ba fun _ Z=>EL Z nI nH nJ (Z.ca o5 b5) (Z.ca o4 b4)
 have o7:=f_ (k:=0) d7.F qF xc fun _ Z=>BU Z nF
 have o8:=f_ (k:=2) d8.F rY ym fun _ Z=>Dh Z nK nH (Z.ca o5 b5)
 have o9:=f_ (k:=2) d9.F uC Bc fun _ Z=>EN Z nC nF nG (Z.ca o2 b2)
 have o10:=f_ (k:=1) d10.F uD Be fun _ Z=>EO Z  (Z.ca o3 b3)
 have o11:=f_ (k:=3) d11.F qI xh fun _ Z=>BW Z nI nH nJ (Z.ca o10 b10) (Z.ca o6 b6) (Z.ca o4 b4)
 have o12:=f_ (k:=4) d12.F oH uZ fun _ Z=>zj Z nF (Z.ca o11 b11) (Z.ca o7 b7)
 have o13:=f_ (k:=3) d13.F oG uY fun _ Z=>zh Z nK nH (Z.ca o10 b10) (Z.ca o6 b6) (Z.ca o8 b8)
 have p14:=f_ (k:=0) d14.F mw (qL (K:=K) 1) fun _ Z=>BR Z nC nF
 have o14:=f_ (k:=1) d14.F mw (qL (K:=K) 2) fun _ Z=>BQ Z nC nF (Z.ca p14 b14)
 have o15:=f_ (k:=0) d15.F si yq fun _ Z=>Dj Z   ⟨vT,bG X G vS⟩
 have o16:=f_ (k:=0) d16.F qH xg fun _ Z=>BV Z nH
 have o17:=f_O (k:=0) d17.F js oV fun _ Z=>re Z nG nH  ⟨zS,bG X G zR,.tup zT rfl rfl yA⟩ ⟨vT,bG X G vS⟩
 have o18:=f_ (k:=1) d18.F uz A9 fun _ Z=>EK Z  (Z.ca o17 b17) (Z.ca o16 b16) ⟨yC,bG X G yB,.tup yD rfl rfl yI⟩
 have o19:=f_ (k:=2) d19.F rW yk fun _ Z=>Dg Z nH (Z.ca o18 b18)
 have o20:=f_O (k:=0) d20.F oB uV fun _ Z=>zf Z   ⟨vV,bG X G vU⟩
 have o21:=f_RN (k:=5) d21.F rZ yn fun _ Z=>BO Z nC nM nH (Z.ca o19 b19) (Z.ca o20 b20) (Z.mkR okI (by decide) ⟨r1,r2,r3,r4⟩ (bG X G eR) bdI ⟨r5,r6,r7,r8⟩ r9 r10 r11)
 have ZS:=Yn (k:=0) d22.F qG xf fun _ Z=>zd Z nH
 have ZA:=Yn (k:=1) d23.F qB w8 fun _ Z=>y8 Z  (Z.WI ZS b22)
 have o24:=Yn (k:=2) d24.F oz uT fun _ Z=>xE Z  (Z.WI ZA ZJ)
 have o25:=Yn (k:=0) d25.F oA uU fun _ Z=>xF Z nH
 have qr:∀n,dO l.prog w K mg base gN (5*n+5) f30 g30 ["reader"] (Qu K (kj (AR n))):=fun n=>by
  induction n with
  |zero=>exact Yn (k:=4) d30.F oC (sI _) (fun XX Z r ok ds s d s' z=>by obtain⟨_,_,T,_,_,_,hT,_⟩:=z;exact hT.1.1.2.1.elim)
  |succ n ih=>
  have o1:=Yn (k:=5*n+5) d26.F se (yo _) fun _ Z=>BL (n:=n) Z  (Z.WI ZA ZJ (by lia)) (Z.WI ih b30 (by lia)) (Z.WI o24 b24 (by lia)) (Z.ca o15 b15 (by lia))
  have o2:=Yn (k:=5*n+6) d27.F qE (xb _) fun _ Z=>za (R:=AR (n+1)) Z nN (Z.WI o1 b26 (by lia)) (Z.WI ZS b22 (by lia)) (Z.WI ZA ZJ (by lia)) (Z.WI o24 b24 (by lia)) ⟨vT,bG X G vS⟩
  have o3:=Yn (k:=5*n+7) d28.F oF (uX _) fun _ Z=>xG (LX (n+1)) Z  (Z.WI o2 b27 (by lia)) (Z.WI ZS b22 (by lia)) (Z.WI ZA ZJ (by lia)) ⟨vX,bG X G vW⟩
  have o4:=Yn (k:=5*n+8) d29.F nh (tU _) fun _ Z=>u5 (R:=AR (n+1)) Z  (Z.WI o3 b28 (by lia)) (Z.WI ZS b22 (by lia)) (Z.WI ZA ZJ (by lia))
  have o5:=Yn (k:=5*n+9) d30.F oC (sI _) fun _ Z=>Db (R:=AR (n+1)) Z  (Z.WI o4 b29 (by lia)) (Z.WI ZS b22 (by lia)) (Z.WI ZA ZJ (by lia))
  rw[show 5*(n+1)+5=5*n+9+1 by lia];exact o5
 have o30:=qr 21
 have o31:=f_ (k:=0) d31.F wr CU fun _ Z=>Hd Z nD
 have o32:=f_ (k:=4) d32.F kF qW fun _ Z=>uk Z nJ (Z.ca o13 b13)
 have o33:=f_M2 (k:=5) d33.F kE rfl fun _ Z=>tj Z nD (Z.ca o13 b13) (Z.ca o12 b12) (Z.ca o11 b11) (Z.ca o32 b32) (Z.ca o31 b31)
 have o34:=Yn (k:=110) d34.F jT (qo (AR 21)) fun _ Z=>rc Z  (Z.WI o30 b30) (Z.WI o24 b24) (Jh Z.at' (EI (by rw[Z.WD];exact nN)) (by rw[Z.WD];exact bG X G vK) (by obtain⟨_,e1,e2,e3,_⟩:=Z;rw[e1,e2,e3];exact(Bm (P:=l.prog) (w:=w) vQ vM vR).Vi) (Bm (P:=l.prog) (w:=w) vQ vM vR).keys rfl)
 have o35:=Yn (k:=3) d35.F lW sJ fun _ Z=>uh Z nH (Z.WI ZS b22) (Z.WI ZA ZJ) (Z.WI o24 b24) ⟨vZ,bG X G vY⟩
 have o36:=f_RL (k:=3) d36.F ng rfl fun _ Z=>u7 Z  (Z.WI o24 b24)
 have o37:=Yn (k:=111) d37.F qD (xa (AR 21)) fun _ Z=>y9 (UF 21) Z  (Z.WI o35 b35) (Z.WI ZS b22) (Z.WI ZA ZJ) (Z.WI o34 b34) (Z.caRL o36 b36)
 have o38:=f_M2 (k:=6) d38.F rX rfl fun _ Z=>BP Z  (Z.ca o12 b12) (Z.ca o14 b14) (Z.caM2 o33 b33) (bG X G vK) (Bm vQ vM vR)
 have o39:=f_ (k:=112) d39.F oE (uW (AR 21)) fun _ Z=>zg Z  (Z.caRN o21 b21) (Z.WI o37 b37) (Z.WI o25 b25) (Z.caM2 o38 b38) ⟨nB,bG X G nA⟩
 have o40:=f_ (k:=0) d40.F sj yr fun _ Z=>Dk Z nC nM  ⟨yK,bG X G yJ,.tup yM rfl rfl yR⟩
 have o41:=f_ (k:=1) d41.F sk yt fun _ Z=>Dl Z nC nF nG (Z.ca o1 b1) ⟨yT,bG X G yS,.tup yU rfl rfl yZ⟩
 have o42:=f_ (k:=3) d42.F wq CT fun _ Z=>Hc Z nH nC nF nM (Z.ca o40 b40) (Z.ca o9 b9) (Z.ca o41 b41) ⟨vC,bG X G vA,.tup vD rfl rfl vI⟩
 have o43:=f_ (k:=0) d43.F qC w9 fun _ Z=>BS Z nN  ⟨vC,bG X G vA,.tup vD rfl rfl vI⟩
 have o44:=f_ (k:=4) d44.F sg yp fun _ Z=>Di Z nH (Z.ca o42 b42) (Z.ca o43 b43)
 have o45:=f_ (k:=0) d45.F sv yx fun _ Z=>Do Z nH
 have o46:=f_ (k:=0) d46.F nq tX fun _ Z=>xK Z nJ nO nD
 have o47:=f_ (k:=0) d47.F sn yu fun _ Z=>Dm Z nN nF nH
 have o48:=f_ (k:=1) d48.F lZ sN fun _ Z=>u9 Z nJ nF nH (Z.ca o47 b47)
 have o49:=f_D (k:=0) d49.F nj tW fun _ Z=>u8 Z
 have YZ:=Yt (k:=0) d50.F sr yv fun _ Z=>BN Z
 have o51:=f_D (k:=0) d51.F uE Bf fun _ Z=>Df Z nP
 have nR:=Yt (k:=1) d52.F my (qN 0) fun _ Z=>tf Z (.inl rfl) nM nD (Z.Xr YZ Y4) (fun m e=>nomatch e)
 have nT:=Yt (k:=2) d53.F jU (nt 0) fun _ Z=>pc Z (.inl rfl) nJ nQ nI nM (Z.Xr YZ Y4) (Z.Xr nR b52) (Z.Zw o49 b49) (Z.Zw o51 b51)
 have nU:=Yt (k:=3) d54.F mx (qM 0) fun _ Z=>td Z (.inl rfl)  (Z.Xr nT b53) (Z.Xr YZ Y4) (Z.Zw o49 b49)
 have nV:=Yt (k:=4) d55.F oI (sK 0) fun _ Z=>uN Z (.inl rfl) nJ (Z.Xr nU b54) (Z.Zw o51 b51) (Z.Xr YZ Y4)
 have nW:=Yt (k:=5) d52.F my (qN 1) fun _ Z=>tf Z (.inr rfl) nM nD (Z.Xr YZ Y4) (fun m e=>by cases e;exact(Z.Xr nV b55))
 have nX:=Yt (k:=6) d53.F jU (nt 1) fun _ Z=>pc Z (.inr rfl) nJ nQ nI nM (Z.Xr YZ Y4) (Z.Xr nW b52) (Z.Zw o49 b49) (Z.Zw o51 b51)
 have nY:=Yt (k:=7) d54.F mx (qM 1) fun _ Z=>td Z (.inr rfl)  (Z.Xr nX b53) (Z.Xr YZ Y4) (Z.Zw o49 b49)
 have nZ:=Yt (k:=8) d55.F oI (sK 1) fun _ Z=>uN Z (.inr rfl) nJ (Z.Xr nY b54) (Z.Zw o51 b51) (Z.Xr YZ Y4)
 have o55:=nZ
 have o56:=f_ (k:=0) d56.F oJ u0 fun _ Z=>zk Z nJ nH
 have o57:=Yt (k:=9) d57.F lY sM fun _ Z=>ui Z  (Z.Xr nV b55) (Z.Xr o55 b55) (Z.ca o48 b48) (Z.Xr YZ Y4) (Z.Zw o51 b51)
 have q58:∀n,dO l.prog w K mg base gN (n+11) f58 g58 ["_law_state", "_law_deep"] (Qt K (eI n)):=fun n=>by induction n with | zero=>exact Yt d58.F jf (l9 0) (fun _ _ _ _ _ _ _ z=>z.elim) | succ n ih=>exact Yt d58.F jf (l9 (n+1)) fun _ Z=>u6 Z  (Z.Xr YZ Y4 (by lia)) (Z.Xr o57 b57 (by lia)) n (Z.Xr ih b58 (by lia))
 have o58:=q58 4
 have o59:=f_ (k:=0) d59.F ni tV fun _ Z=>xJ Z nJ nD
 have o60:=f_ (k:=0) d60.F su yw fun _ Z=>Dn Z nH
 exact f_ d61.F N0 LQ fun _ Z=>Rm Z nH (Z.ca o46 b46) (Z.Xr o58 b58) (Z.ca o56 b56) (Z.ca o45 b45) (Z.ca o59 b59) (Z.ca o60 b60) (Z.ca o39 b39) (Z.ca o44 b44)
def walk{q:Program}{l:PySem.W.OpenLaw}{XP:(Str->Option Value)->Heap->Prop}{YP:World->Heap->Prop}{d:DefRec}{K:Params->bW}(hq:importsNone q=true)(hn:l.most=some 63)(hdf:d.params.defaults=[])(hY:∀(w:World) (h:Heap),YP w h->(K w.params).In h)(F:∀(w:World) (mg:ux) (fa:Addr) (h:Heap),(K w.params).In h->h.Ns mainGlobals mg->mg d.name=some (.ref fa) ->
   ∃fd:FuncData,(∀(s:Shared) (u:Value),BindsTo s fd ⟨[u],[]⟩ [("_law_script",u)])/\∀base:Heap,(K w.params).In base->base.Ns mainGlobals mg->dO l.prog w (K w.params) mg base gN 114 fa fd ["_law_script"] (MV (K w.params) AI)):
  PySem.W.WalkO q loose XP YP l.row.toRowW d [] (fun f vs=>PySem.call f vs):=
 L2.Y7 (n:=63) (k:=114) (x := "_law_script") (CX:=fun _=>gN) (sp:=fun w=>MV (K w.params) AI) hq hn (by decide) hdf ⟨rfl,by decide,by decide⟩ hY F (fun _ H a ns hl hO hS=>⟨H,[.Xb ns],.bl true,.refl _,.cons (.Xb hS) .nil,Jn ns hl,fun v F' H' x r=>by cases r;rfl⟩) fun _ _ _ _ _ z=>z
end My
def PySem.W.Fast.tw11304112304302996678:PySem.Program:=PySem.Challenge.pw_planestacks_k34_sayings_read
def PySem.W.Fast.te11304112304302996678:PySem.Challenge.pw_planestacks_k34_sayings_read=PySem.W.Fast.tw11304112304302996678:=rfl
structure PySem.W.Fast:Prop where(tw5069062376838800463 tw1348791285440263774 tw3901394604242684329 tw1848979861695312884 tw12577913692038251130 tw7616967125214262183 tw15917244988538292059 tw9328336285987087637 tw14296195632971837771 tw12943795416288352898 tw11992804396888823656 tw16930027840367466515 tw14968684957744502833 tw1360398461358932135 tw16152247049557809984 tw6277929738688021541 tw3694823414080853892 tw8459579860074364333 tw13078273243663214676 tw16891261619934689558 tw8788712766115558763 tw3646917185326227567 tw10792043311358807255 tw12832322028699969843 tw57302332521602339 tw4978415349621510934 tw2450372787049727249 tw353422935176554734 tw14910565688738787487 tw3053336488037552262 tw15680636947154327644 tw11788406892654661798 tw12977055083654852193 tw15731102802761505272 tw5264256974708088192 tw15241573097456761724 tw13070656181646425713 tw4229242743508613159 tw12918691528958863767 tw6186486520994088509 tw16892289424700698111 tw6773305066037317100 tw2449996094215720298 tw4491881567773427283 tw8361778154267382367 tw10854568629457664444 tw8745675119393796343 tw13298966835251373070 tw13452677770306370434 tw14707387280592139060 tw15489182243221701018 tw9746488339049366364 tw4108805327592553320 tw5387262264667887396 tw14519119131615489331 tw9780174535061221935 tw4342318162014186047 tw9591904514974395890 tw49587793331339104 tw11252295556081290397 tw11921367669257539994 tw4989505686175956150 tw13664454681246042509 tw17485175308647105502 tw12660444836669367284 tw1640150680655793161 tw7342873118180454949 tw17072116234767434476 tw17243439398031534888 tw6243838625611442623 tw637403062927616164 tw13255767821897967165 tw8221081163049493003 tw13096472449191566640 tw12463256728090778456 tw14070324259682188748 tw6375595286254358212 tw4909013527732813808 tw8430865086866150565 tw13238679044385133101 tw10682434806439986509 tw16615050248684600433 tw6905763883084579255 tw10402150784110318287 tw2568895370660934870 tw6071490209975660113 tw16435735917733372348 tw15061676169998839985 tw17192170043614568989 tw7924524935862108441 tw2003469178524396812 tw13087239853063016386 tw12167605976341779997 tw13055156218052537086 tw6029953448651447029 tw2919921002341497375 tw8205998540174556560 tw3913542580907977054 tw11837391966216184800 tw8222439442750044890 tw9203377049714357146 tw2566171203087296779 tw1804075205510543063 tw3863549808420773507 tw10149816557380020257 tw7955078348681152261 te1333492197732347633 tw14118283583560975312 tw7670501653023376150 tw7114182476532446710 tw9809222155418292621 tw2845222766932297042 tw15877726277121650427 tw3557749837817937032 tw14118125217640023007 tw10360467801832600284 tw6324871919588325246 tw723552888768392882 tw4920486701244233613 tw14974184474855210777 tw9786274824818434358 tw5333155405209491614 tw7338286937404105637 tw11684835663423712147 tw4920224099182493564 tw5941498806258739261 tw9382535049815274275 tw14840331829849423560 tw14473281228973345053 tw3647934513012680792 tw10175225276520719011 tw13821578440031119860 tw12197858368274072071 tw15368270262908563950 tw17020985596424001249 tw12526438639108180034 tw1633083115118826245 tw15907171693282868949 tw13139909222995525713 tw8319517686124456962 tw8341700683421969073 tw11650376028629621397 tw6982582274259488437 tw17031678132402699792 tw3203357635114926785 tw9469600848708917603 tw3490343065760721952 tw4369785788776602956 tw9003470704906362568 tw4327499786102540819 tw957386107468237386 tw12255335275997039486 tw5767520379337444770 tw8903247403697530724 tw4738286112874027684 tw3688084455779105839 tw10546995495347100075 tw7496952681495854734 tw14711333181720534581 tw8853940837550544942 tw10629794538275519215 tw6929729661376719333 tw1343047658395643681 tw11576241639970235629 tw16048342247675862660 tw8976829904525183106 tw12314883216621777628 tw10896820925089874951 tw16014488292641683137 tw3597704406375888141 tw15247968268313264159 tw18292229993264257039 tw1500501714461862892 tw7015640567789823719 tw10535298075772545414 tw18111184280639009217 tw10681777162473603579 tw12960012450892353314 tw10286636827890623313 tw13267519267664664789 tw18293672512815959479 tw10910376992717821663 tw1649638268070119660 tw16015603772593019053 tw1135972692791702949 tw13381107232159204952 tw1025257649396825725 tw969549253312005210 tw3079256005192683381 tw15388819125007072110 tw7794678942201574444 tw7608855247413384532 tw352414238677645831 tw3969970476033293524 tw6915248166088981634 tw12087393023526247068 tw11503809304774099555 tw15557112290517500709 tw3669491368811860777 tw14392357146517787372 tw6538527617647526139 tw18013436835933985331 tw11341840222392202336 tw5077588357458462883 tw1028205050940465103 tw1399209776726358254 tw7503362388691954910 tw8210087845757680842 tw6973030521929431951 tw9424233914010749010 tw16476512848049641690 tw13704287203353236839 tw18154370124591344091 tw10117336276010174686 tw70629409226743246 tw5586661473580158620 tw15287482542058964843 tw11670785386314957601 tw7793811029964535206 tw1582838435176433594 tw1468442224000951657 tw17466758030111745389 tw3735207223978552762 tw18192865650153795534 tw12407033027496771496 tw3249796285309794754 tw6360393128432355199 tw5425614182149979873 tw2152217052716333170 tw13848258897653372672 tw6309254672317969074 tw11695307115843345273 tw3985191788689843077 tw799417801048218913 tw7298231899294303417 tw18040809976055740050 tw1667197561865449940 tw16414270637948649212 tw8933952214946326891 tw828132665652219335 tw14391977566092124146 tw16123685340363024941 tw11415991384003883306 tw10109940144409164556 tw786975154279872686 tw17037318751120019116 tw7645488248746845655 tw18321326965013986504 tw9247009126286301455 tw9150510657324370114 tw17353634856099512081 tw15763188864324087587 tw490377089349280291 tw16582054606382235758 tw10349138305688957293 tw1492474964994930226 tw10116844885468670926 tw5173864263963616341 tw8889358897118523085 tw3224445179789341772 tw1433232944619171143 tw5040030510400509788 tw11678184574145762039 tw13990835336121399417 tw16241628752505381810 tw571551847233893309 tw6585483020464154784 tw10391359978693859207 tw12977142019680182472 tw6127978261536330 tw16738912860682583773 tw3155578865033176444 tw14120610268456751863 tw2226727186824208421 tw6736041326533492427 tw10942277671259069034 tw4446419359879049145 tw12220217572399146241 tw3468171761986506084 tw13846844207288646097 tw3298736957603919985 tw17242397213894759202 tw2284402339175493282 tw4786840994409375758 tw4098469937140909424 tw11274988773584080232 tw17419980234791458261 tw183166965347999449 tw6155894961899717267 tw3876456451819033468 tw12087226025107873340 tw3003275358730074692 tw17553385962506403498 tw9341570855846099349 tw16777951329983266612 tw7586353215219651857 tw4263465951970606031 tw13039009994685949224 tw9108000640640055969 tw17046287694870289662 tw709254553617442396 tw2707500970579038627 tw4909122141345211956 tw16613236037732329910 tw17979244092326826715 tw6794833751736046461 tw264475807325863162 tw17381532666817104809 tw15906096511874752268 tw4870977280501145049 tw14926529714191867979 tw1444931215953626370 tw10350422002121748423 tw5304483740381413317 tw15388350875366242962 tw11533119353426774968 tw7564940685766765902 tw2640560075265307889 tw12156494688638263625 tw14551821515576836607 tw12534954074322471955 tw6055963375658328305 tw15837752264543372412 tw14860093862404074679 tw8781396858003199876 tw12047480493590874842 tw10272396997752601860 tw16135123882824306517 tw13404521547612617253 tw6474609010408267737 tw4866947291544992956 tw1926905069714892484 tw10380022743691258691 tw9529453909290571194 tw13643348477189098152 tw4727198222363820631 tw12317957965857662687 tw2660908277356624517 tw3418974186548427581 tw4988379784162325709 tw3509740591831994140 tw17732590465546545657 tw5697593943862856276 tw15962892081486135106 tw17837879662895033431 tw9582150119421135626 tw3171967272230979538 tw16837022317710431279 tw7746932295193779569 tw11950328577200496068 tw3278063034497385149 tw10875969852250230948 tw5144483668322272576 tw9723448680266268029 tw16452441988302691949 tw5723992604769544370 tw12551140887858321270 tw11112672619495789768 tw1158888456424005219 tw5375090542822356084 tw4881740423547238250 tw8835382049371317907 tw1544803304787003816 tw6962873364181508410 tw18242967893596647432 tw7540494612237932449 tw4470891768314972989 tw13559733627003049396 tw15231033777594602499 tw11399878146525987370 tw7306583916721959021 tw1533240855364677446 tw6875448981913380238 tw16973084821824477720 tw12655624185459599133 tw591720731795051074 tw11323780663596699812 tw4107354378889973641 tw14751323416918601410 tw5784962126821774379 tw10412001632592890208 tw2182453237554234372 tw10158598129483076156 tw1754679257436759642 tw17566356359954554693 tw8374100712861857556 tw4779457039059945875 tw14442521293536290824 tw8440759664156276827 tw11918201077708029444 tw5725486368948488820 tw18299321314436947544 tw11295953562245605079 tw9229057961052170497 tw5387074924452919221 tw8021184588304087406 tw9647486378170154405 tw13705260541182689611 tw16090630289348989195 tw15004968542741142278 tw1464856646526760550 tw12611404531438498324 tw16647166316498843542 tw3942805371796274409 tw14567521316645929485 tw18235525507803004041 tw9135719671771012499 tw2792129699188885424 tw16882547467983292613 tw13382461476916583827 tw6802792498778732610 tw11836338086709288124 tw1996310669855442037 tw4413050362370257031 tw6593521474410081940 tw2938800214415635313 tw17510679876247625287 tw9691253777402266512 tw15966949401997710873 tw5591513418616963655 tw9797490769088188940 tw11188587227423166525 tw16872475303572636149 tw6024922907581837803 tw5447669057193310876 tw5571368493340847734 tw6187817207908204362 tw15605216328428214273:True)
open PySem PySem.W PyProof.Rows
set_option maxRecDepth 100000 in
set_option maxHeartbeats 0 in
theorem PySem.Challenge.cw_planestacks_k34_sayings_read_holds : PySem.Challenge.rw_planestacks_k34_sayings_read.Holds := by
 w_on; o_law; k_head; (case hw => w_witness2)
 k_fill
 refine My.walk (l := PySem.Challenge.rw_planestacks_k34_sayings_read) (by decide +kernel) rfl rfl (fun w h Y => PySem.W.kIn_of Y) ?F
 case F =>
  intro w mg fa h KX G hmg
  refine' My.all_mk rfl KX G hmg ?_ ?_ ?_ ?_ ?_ ?_ ?_ ?_ ?_ ?_ ?_ ?_ ?_ ?_ ?_ ?_ ?_ ?_ ?_ ?_ ?_ ?_ ?_ ?_ ?_ ?_ ?_ ?_ ?_ ?_ ?_ ?_ ?_ ?_ ?_ ?_ ?_ ?_ ?_ ?_ ?_ ?_ ?_ ?_ ?_ ?_ ?_ ?_ ?_ ?_ ?_ ?_ ?_ ?_ ?_ ?_ ?_ ?_ ?_ ?_ ?_ ?_ ?_ ?_ ?_ ?_ ?_ ?_ ?_ ?_ ?_ ?_ ?_ ?_ ?_ ?_ ?_ ?gp_WORDS ?_ ?_ ?gp_DOUBLE_SIGNS ?_ ?_ ?gp_LETTERS ?_ ?_ ?gp_SIGNS_SAID ?_ ?_ ?gp_BINDERS ?_ ?_ ?gb_COMPARISONS ?gt_COMPARISONS ?_ ?_ ?_ ?_ ?_ ?_ ?_ ?_ ?_ ?_ ?_ ?_ ?_ ?_ ?_ ?_ ?_ ?_ ?_ ?_
  all_goals try refine' L2.EV.kd ?_ ?_ ?_ ?_
  all_goals try k_is
  (case gp_WORDS => refine' (.cons (.str _ _) (.cons (.str _ _) (.cons (.str _ _) (.cons (.str _ _) (.cons (.str _ _) (.cons (.str _ _) (.cons (.str _ _) .nil))))))))
  (case gp_DOUBLE_SIGNS => refine' (.cons (.str _ _) (.cons (.str _ _) (.cons (.str _ _) .nil))))
  (case gp_LETTERS => refine' (.cons (.str _ _) (.cons (.str _ _) .nil)))
  (case gp_SIGNS_SAID => refine' (.cons (My.gp_tup ?ha0 ?hb0) (.cons (My.gp_tup ?ha1 ?hb1) (.cons (My.gp_tup ?ha2 ?hb2) (.cons (My.gp_tup ?ha3 ?hb3) (.cons (My.gp_tup ?ha4 ?hb4) (.cons (My.gp_tup ?ha5 ?hb5) .nil)))))); (case ha0 => k_is); (case hb0 => exact (.cons (.int _ _) .nil)); (case ha1 => k_is); (case hb1 => exact (.cons (.int _ _) .nil)); (case ha2 => k_is); (case hb2 => exact (.cons (.int _ _) .nil)); (case ha3 => k_is); (case hb3 => exact (.cons (.int _ _) (.cons (.int _ _) .nil))); (case ha4 => k_is); (case hb4 => exact (.cons (.int _ _) (.cons (.int _ _) .nil))); (case ha5 => k_is); (case hb5 => exact (.cons (.int _ _) (.cons (.int _ _) .nil))))
  (case gp_BINDERS => refine' (.cons (.str _ _) (.cons (.str _ _) .nil)))
  (case gb_COMPARISONS => decide)
  (case gt_COMPARISONS => refine' (.cons (by decide +kernel) (My.KT.mk ?ha0 ?hb0 ?hc0) (.cons (by decide +kernel) (My.KT.mk ?ha1 ?hb1 ?hc1) (.cons (by decide +kernel) (My.KT.mk ?ha2 ?hb2 ?hc2) (.cons (by decide +kernel) (My.KT.mk ?ha3 ?hb3 ?hc3) (.cons (by decide +kernel) (My.KT.mk ?ha4 ?hb4 ?hc4) (.cons (by decide +kernel) (My.KT.mk ?ha5 ?hb5 ?hc5) .nil)))))); (case ha0 => k_is); (case hb0 => exact Nat.le_of_ble_eq_true rfl); (case hc0 => exact .cons ⟨_, rfl⟩ (.nil)); (case ha1 => k_is); (case hb1 => exact Nat.le_of_ble_eq_true rfl); (case hc1 => exact .cons ⟨_, rfl⟩ (.nil)); (case ha2 => k_is); (case hb2 => exact Nat.le_of_ble_eq_true rfl); (case hc2 => exact .cons ⟨_, rfl⟩ (.nil)); (case ha3 => k_is); (case hb3 => exact Nat.le_of_ble_eq_true rfl); (case hc3 => exact .cons ⟨_, rfl⟩ (.cons ⟨_, rfl⟩ (.nil))); (case ha4 => k_is); (case hb4 => exact Nat.le_of_ble_eq_true rfl); (case hc4 => exact .cons ⟨_, rfl⟩ (.cons ⟨_, rfl⟩ (.nil))); (case ha5 => k_is); (case hb5 => exact Nat.le_of_ble_eq_true rfl); (case hc5 => exact .cons ⟨_, rfl⟩ (.cons ⟨_, rfl⟩ (.nil))))
